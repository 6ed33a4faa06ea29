import PyProof.Rows.All
import Wide.All
import OpenK.AllK
import Wide.FinOn
import Lean
import PyProof.EqAt
import PyProof.EqKinds
import PyProof.TupleCall
import Open.Tops
import KE.KIntText
import PyProof.ZipIter
import PyProof.ReprRoads
import PyProof.Draws
import KE.KDictSum
import KE.KSortedM
import OpenK.KRaise
import OpenK.KOwn
import PyProof.ExcBaseAll.ValueError
import KE.KTryMore
import PyProof.NsDelKeeps
import KE.KDictOf
import KE.KEqDict
import PyProof.DictWalks
import PyProof.TupleKey
import PyProof.MinMaxWalk
import KE.KSortTup
import PyProof.StrWalks
import KE.KRevIter
import KE.KListMore
import PyProof.StrLawsTight
import PyProof.StrLawsChain
import PySem.Challenge.RW_talejudge_k24_whole_read_by_read
open PySem.W renaming Frag->d0,kia_one->u3,keepIn->B3,findIn->C3,instObj->V3,fnOf->v5,nsIn->d6,callWith_K->l6,plainGet->M6,lookIn->E7,codeIn->F7,plainGet_of->U7,methodObj->o8,hasDictIn->p8,takerIn->L8,isFn->C9,cellsFrom_some->D9,specialIn->j0a,plainOver->j0b,kitx_list->j0c,kitx_dict->j0d
open PySem.PyData renaming keyHash->j0,depthAll->E3,canLayAll0->E6
open List renaming mem_of_getElem?->o0,not_mem_nil->A0,length_append->D0,length_map->L0,getElem?_eq_getElem->N0,size_toArray->U0,range->V0,map_append->X0,map_cons->Y0,length_cons->C1,mem_cons_of_mem->E1,mem_append_right->G1,getElem?_append_left->J1,getElem?_append_right->K1,filter_cons_of_pos->N1,mem_cons_self->O1,filter_cons_of_neg->T1,length_filter_le->U1,getElem?_modify->X1,forall_mem_cons->v2,getElem?_cons_succ->C2,getElem?_map->E2,mem_cons->F2,filter_append->G2,replicate->O2,append_nil->Q2,map_map->V2,length_range->W2,getElem?_cons_zero->Z2,take_append_of_le_length->m3,length_replicate->G3,length_nil->X3,find?_cons->Y3,take_length->i4,length_take->n4,lookup_cons->Z4,range_succ->m5,forIn_cons->n5,foldl_cons->o5,take_of_length_le->B5,pairwise_lt_range->C5,nodup_append->D5,forIn_nil->E5,foldl_append->F5,drop_zero->G5,filter_cons->N5,mem_append_left->Z5,lookup->c6,dropLast_concat_getLast->i6,map_nil->o6,mem_singleton->z6,length_modify->A6,drop_eq_getElem_cons->J6,length_erase_of_mem->S6,any_cons->T6,length_drop->Z6,getElem_mem->a7,getElem?_replicate->b7,any_eq_true->c7,length_pos_of_mem->A7,nodup_cons->L7,mem_filter->M7,length_singleton->P7,getElem?_eq_none->Q7,map_congr_left->k8,filterMap_cons->m8,filter_filter->v8,filter_congr->E8,ext_getElem?->F8,append_assoc->G8,all_eq_true->N8,of_mem_zip->U8,mem_append->V8,take_zero->u9,take_succ->v9,nodup_nil->w9,mem_range->x9,length_filterMap_le->O9,mem_map->X9,getElem?_set_self->Y9,mem_erase_of_ne->j0f,getElem?_set_ne->j0g
open PySem.Builtin.Tuple renaming tupleHashOf->u0,tupleExact->M4
open PySem renaming wpAny_bind->v0,Shared->C0,wpAny_pure->K0,Params->M0,World->S0,wpAny->W0,model->D1,reduceHash->F1,starEach->L1,Around->A2,compareOp->K2,OsState->U2,eval->v3,mainGlobals->y3,treeTable->A3,wpAny_truthy_bool->F3,wpAny_mono->L3,sysModules->M3,wpAny_newObj_type->Q3,wpAny_holding->T3,attributeBase->U3,wpAny_Call_Name_kw->W3,eqIsQuiet->d4,intKind->y4,backTo->L4,wpAny_passesOwn->U4,binaryOp->V4,mem_of_lookup->c5,NameKind->i5,bootBuiltins->l5,codeAny_builtin->A5,wpAny_pyIter_tuple->K5,tupleKind->M5,wpAny_seqItems->P5,wpAny_pyNext_list_item->Q5,placesWithHash->S5,foldedSetIterable->T5,boot_len->U5,wpAny_call_entry->j6,codeAny->m6,wpAny_field->r6,sliceBounds->u6,callSpecialIfBoundUnlessNone?->v6,importedModules->B6,codeAny_mono->K6,Keyword->Q6,swapsWith->R6,tupleKind_room_in1->U6,intKind_is->V6,SetTable->X6,wpAny_pyIter_list->o7,wpAny_pyIter_enum->p7,relabel->v7,keywordEach->z7,plainId_quiet->C7,behindInMarks->D7,Paired->G7,wpAny_callSpecial?_slot->S7,atKey->T7,strKind_is->Z7,assignEach->b8,wpAny_execs_nil->d8,letOwnedTupleGo->i8,wpAny_pyNext_list_end->n8,wpAny_tryCatch->z8,wpAny_of_eq->A8,valueAt->C8,getItem->D8,wpAny_tupleItemsOf->O8,wpAny_rule->P8,IsPart->T8,holding->W8,callerA->Y8,call_meetsIn->Z8,backToKw->a9,seqItems?->z9,pyNext->A9,noFill_tuple_add->B9,wpAny_letGo->G9,subscripted->J9,wpAny_updateSeq->Q9,Within->S9,standAt->W9,wpAny_letOwnedTupleGo_enum->Z9,relayAll->j00,Thread->j04,ReadsAll->j06,evalArgs_none->j09
open Nat renaming le_refl->B0,le_trans->F0,lt_of_le_of_lt->Q0,ne_of_lt->B1,lt_of_lt_of_le->P1,lt_succ_self->V1,lt_succ_of_lt->Z1,zero_le->B2,le_of_lt->N2,not_lt_zero->T2,zero_add->X2,ne_of_gt->J3,lt_or_ge->R3,le_succ->Z3,lt_irrefl->G4,lt_trichotomy->S4,le_succ_of_le->T4,sub_self->y6,le_of_not_lt->m7,lt_trans->J7,le_of_eq->K7,mul_le_mul_right->c8,succ_le_succ->Q8,le_add_right->S8,min_eq_left->i9,le_antisymm->j9,add_assoc->U9
open PySem.Heap renaming get?_push_of_some->G0,lt_size->T0,get?_push_size->Z0,size_push->K3,get?_update_other->A4,get?_update_self->J4,SameBut->J5
open Or renaming inr->O0,inl->P0
open PySem.Value renaming ref->v1,bool->p4,type->W4,str->n6,none->w6,isStrOf->L6,int->W6,isInt->j02,float->j03
open Bool renaming false_ne_true->A1,and_eq_true->d3,false_eq_true->S3,not_eq_true->O5,not_true->X5,false_or->Y5,and_false->y9
open PySem.PassesOwn renaming never->Q1
open PySem.NameKind renaming free->W1
open Option.some renaming inj->Y1
open PySem.SetTable renaming below->D2,grown->F4,insertAt->j8,advance->j08
open Array renaming length_toList->J2,getElem?_eq_getElem->G6,getElem?_eq_none->V9
open PyProof.Rows renaming callWith_type1->P2,IntsAre->O3,boot_isinstance->C6,AllBare->B7,slot_tuple_getitem->V7,callWith_builtin1->Y7,envOfC->a8,boot_tuple->j01
open ForInStep renaming yield->Y2
open Sum.inl renaming inj->D3
open Pure renaming pure->N3,pure->T9
open False renaming elim->P3
open Ne renaming symm->c4
open PySem.Builtin.SmallTypes renaming nextOf->o4,ownedTupleFields->C4
open PySem.F renaming plain_max_loop->u4,slot_tuple_iterator_next->d5,args_tuple_add_2->D6,plainAttrs_list->N6,plainAttrs_dict->O6,entry_tuple_add->P6,slot_tuple_add->Y6,slot_dict_get->i7,slot_dict_values->d9,entry_max_loop->m9,args_dict_get_2->o9,entry_dict_get->E9,args_tuple_iterator_next_1->F9,slot_dict_pop->N9,entry_tuple_iterator_next->P9
open PySem.Calls renaming spliced_cons->v4,callWith_builtin->w4,spliced_nil->K4,evalArgs_plain->W7,Name_function_global->n9
open Int renaming emod_lt_of_pos->D4,emod_nonneg->u5,toNat_natCast->M8,zero_add->j07
open PySem.Builtin.Slice renaming slicePlaces->E4,sliceAdjust->W5,sliceApplied->u8
open PySem.W.Fast renaming tw16697807410369149715->N4,tw13926502685295537346->O4,tw13383273872528276517->P4,te14364793385576792824->Q4,tw4214721358667687652->X4,tw14364793385576792824->d7
open PySem.Obj renaming mapSeq->Y4,mapDictKeys->O7,putSet->B8
open List.Pairwise renaming filter->z5,nil->N7
open PySem.Heap.SameBut renaming update->L5
open PySem.SetTable.below renaming go->V5
open Option renaming isSome_map->F6,map_some->j7
open PySem.Around renaming under_plainId->R7,under->y8
open PySem.Builtin.Builtins renaming bindParams->X7
open PUnit renaming unit->t8
open PySem.Code renaming isFrame->J8,frames->j0j
open Sum renaming inr->K8
open ForIn renaming forIn->X8
open PySem.SetTable.probe renaming go->c9
open PySem.Paired renaming length->t9
open PySem.SeqAt.EqAt renaming str_str->K9,str_int->L9,int_str->M9
open PySem.Str renaming ofString->j05
open Prod renaming ext->j0e
open PyProof.Rows.F renaming entry_set_update_loop->j0h
open PySem.Data renaming fields->j0i
set_option maxRecDepth 100000
set_option maxHeartbeats 0
namespace PySem.W.Fast
def tw4852256740020694652:=0
def tw3107163007791435822:=0
def tw3329361112581120350:=0
def tw14021342399905755056:=0
def tw10879691739054104023:=0
def tw12253016840511823511:=0
def tw11818070772530286286:=0
def tw15261165945665480988:=0
def tw4012362949356213745:=0
def tw2361372920488403376:=0
def tw2896817925438971565:=0
def tw5233040880789487931:=0
def tw4013808672062058961:=0
def tw2208992204820191394:=0
def tw17073898351988077258:=0
def tw11959839271571529279:=0
def tw16876368836398946696:=0
end PySem.W.Fast
namespace K24
open_shared pre for PySem.Challenge.pw_talejudge_k24_whole_read_by_read leaving 50
end K24
set_option maxHeartbeats 200000
-- CHANGE: your row's module here,as the last of these rows
set_option Elab.async false
set_option linter.all false
namespace L2
open PySem PySem.Spec PyProof.Rows
noncomputable abbrev Key:=Sum Int Str
noncomputable def keyIs:Key->Value->Bool
 | .inl k,v=>j02 k v
 | .inr x,v=>L6 x v
noncomputable def keyH (w:S0):Key->Int
 | .inl k=>hashInt k
 | .inr x=>hashStr w x
theorem z0n :∀{k:Key} {v:Value},keyIs k v=true->(∃i t,k=Sum.inl i/\v=W6 i t)\/(∃x t,k=K8 x/\v=n6 x t)
 | .inl i,v,h=>by obtain ⟨t,e⟩:=Value.isInt_shape (k:=i) (v:=v) h;exact .inl ⟨i,t,rfl,e⟩
 | .inr x,v,h=>by obtain ⟨t,e⟩:=Value.isStrOf_shape (x:=x) (v:=v) h;exact .inr ⟨x,t,rfl,e⟩
theorem zfl (i:Int) (t:Tok):keyIs (.inl i) (.int i t)=true:=by simp [keyIs,j02]
theorem zg8 (x:Str) (t:Tok):keyIs (.inr x) (.str x t)=true:=by simp [keyIs,L6]
theorem key_ll (a b:Int):decide ((Sum.inl a:Key)=Sum.inl b)=(a == b):=by
 by_cases e:a=b
 ·subst e;simp
 ·have h:¬ (Sum.inl a:Key)=Sum.inl b:=λ q=>e (D3 q);rw [decide_eq_false h];exact (beq_eq_false_iff_ne.mpr e).symm
theorem key_rr (a b:Str):decide ((K8 a:Key)=K8 b)=decide (a=b):=by
 by_cases e:a=b
 ·subst e;simp
 ·have h:¬ (K8 a:Key)=K8 b:=λ q=>e (Sum.inr.inj q);rw [decide_eq_false h,decide_eq_false e]
theorem key_lr (a:Int) (b:Str):decide ((Sum.inl a:Key)=K8 b)=false:=decide_eq_false (λ q=>nomatch q)
theorem key_rl (a:Str) (b:Int):decide ((K8 a:Key)=Sum.inl b)=false:=decide_eq_false (λ q=>nomatch q)
noncomputable def z0q (prog:Program) (w:S0):PySem.KeyKind prog w Key where
 is:=keyIs
 hash:=keyH w
 inj:=λ v a b ha hb=>by
  rcases z0n ha with ⟨i,t,rfl,rfl⟩|⟨x,t,rfl,rfl⟩
  ·rcases z0n hb with ⟨j,u,rfl,e⟩|⟨y,u,rfl,e⟩
   ·injection e with e1 _;rw [e1]
   ·exact nomatch e
  ·rcases z0n hb with ⟨j,u,rfl,e⟩|⟨y,u,rfl,e⟩
   ·exact nomatch e
   ·injection e with e1 _;rw [e1]
 byValue:=λ k v h=>by rcases z0n h with ⟨i,t,rfl,rfl⟩|⟨x,t,rfl,rfl⟩<;>rfl
 pyHash:=λ hv h=>by
  rcases z0n hv with ⟨i,t,rfl,rfl⟩|⟨x,t,rfl,rfl⟩
  ·exact wpAny_pyHash_int h
  ·exact wpAny_pyHash_str h
 eqBool:=λ hu hv h=>by
  rcases z0n hu with ⟨i,t,rfl,rfl⟩|⟨x,t,rfl,rfl⟩
  ·rcases z0n hv with ⟨j,u,rfl,rfl⟩|⟨y,u,rfl,rfl⟩
   ·rw [key_ll] at h;exact wpAny_eqBool_int h
   ·rw [key_lr] at h;exact M9 i t y u _ _ _ _ h
  ·rcases z0n hv with ⟨j,u,rfl,rfl⟩|⟨y,u,rfl,rfl⟩
   ·rw [key_rl] at h;exact L9 x t j u _ _ _ _ h
   ·rw [key_rr] at h;exact wpAny_eqBool_str h
 «strs»:=λ k x t v h=>by
  rcases z0n h with ⟨i,u,rfl,e⟩|⟨y,u,rfl,e⟩
  ·exact nomatch e
  ·injection e with e1 _;subst e1;cases v<;>rfl
theorem zcm (prog:Program) (w:S0) (i:Int) (t:Tok):(z0q prog w).is (.inl i) (.int i t)=true:=zfl i t
theorem zcp (prog:Program) (w:S0) (x:Str) (t:Tok):(z0q prog w).is (.inr x) (.str x t)=true:=zg8 x t
inductive V where
 | non|bl (b:Bool)|int (i:Int)|str (x:Str)|byt (b:Array UInt8)|flt (b:UInt64)|ref (a:Addr)|ty (n:String)
 deriving DecidableEq
noncomputable def RelV:V->Value->Prop
 | .non,u=>u=w6
 | .bl b,u=>u=p4 b
 | .int i,u=>∃t,u=W6 i t
 | .str x,u=>∃t,u=n6 x t
 | .byt b,u=>∃t,u=Value.bytes b t
 | .flt b,u=>∃t,u=j03 b t
 | .ref a,u=>u=v1 a
 | .ty n,u=>u=W4 n
abbrev Vals:List V->List Value->Prop:=G7 RelV
theorem Vals.length {xs:List V} {us:List Value} (r:Vals xs us):xs.length=us.length:=t9 r
theorem Vals.get :∀{xs:List V} {us:List Value} {i:Nat} {x:V},Vals xs us->xs[i]? = some x->∃u,us[i]? = some u/\RelV x u
 | _,_,_,_,.nil,e=>by simp at e
 | _,_,0,_,.cons r _,e=>by simp at e;subst e;exact ⟨_,rfl,r⟩
 | _,_,i + 1,x,.cons _ t,e=>by obtain ⟨u,b,a⟩:=Vals.get (i:=i) (x:=x) t (by simpa using e);exact ⟨u,by simpa using b,a⟩
theorem Vals.set {x:V} {u:Value} (r:RelV x u) :∀{xs:List V} {us:List Value} (i:Nat),Vals xs us->Vals (xs.set i x) (us.set i u)
 | _,_,_,.nil=>.nil
 | _,_,0,.cons _ t=>.cons r t
 | _,_,i + 1,.cons q t=>.cons q (Vals.set r i t)
theorem Vals.append :∀{xs ys:List V} {us ws:List Value},Vals xs us->Vals ys ws->Vals (xs++ys) (us++ws)
 | _,_,_,_,.nil,s=>s
 | _,_,_,_,.cons r t,s=>.cons r (Vals.append t s)
theorem Vals.take :∀{xs:List V} {us:List Value} (n:Nat),Vals xs us->Vals (xs.take n) (us.take n)
 | _,_,0,_=>.nil
 | _,_,_ + 1,.nil=>.nil
 | _,_,n + 1,.cons r t=>.cons r (Vals.take n t)
theorem Vals.drop :∀{xs:List V} {us:List Value} (n:Nat),Vals xs us->Vals (xs.drop n) (us.drop n)
 | _,_,0,r=>r
 | _,_,_ + 1,.nil=>.nil
 | _,_,n + 1,.cons _ t=>Vals.drop n t
noncomputable def RelO:Option V->Option Value->Prop
 | some v,some u=>RelV v u
 | none,none=>True
 | _,_=>False
def KV {κ:Type}:List (κ×V)->List (κ×Value)->Prop:=G7 λ (p:κ×V) (q:κ×Value)=>p.1=q.1/\RelV p.2 q.2
noncomputable def kV:Key->V
 | .inl i=>.int i
 | .inr x=>.str x
inductive HO where
 | lst (xs:List V)
 | tup (xs:List V)
 | dK (kvs:List (Key×V))|dT (kvs:List (List Key×V))
 | set (S:Int->Bool) (n:Nat)
 | ins (C dx:Addr) (fs:List (Str×V))
 | own (x:Addr)
 | xd (fs:List (Str×V))
 | met (f x:Addr)
 | rng (lo hi:Int)
 | frz (o:Obj) (u:HO)
 | tbl (ps:Array Value)
 | ext (φ:Heap->Prop)
noncomputable abbrev Hp:=Addr->Option HO
noncomputable def upd (H:Hp) (a:Addr) (o:HO):Hp:=λ b=>if b=a then some o else H b
theorem upd_same {H:Hp} {a:Addr} {o:HO}:upd H a o a=some o:=by unfold upd;rw [if_pos rfl]
theorem upd_ne {H:Hp} {a b:Addr} {o:HO} (h:b≠a):upd H a o b=H b:=by unfold upd;rw [if_neg h]
theorem ne_of {H:Hp} {a b:Addr} {o u:HO} (h:H a=some o) (h':H b=some u) (d:o≠u):a≠b:=by intro e;subst e;rw [h] at h';exact d (Y1 h')
theorem z0e {H:Hp} {a b:Addr} {o:HO} (h:H a=some o) (h':H b=none):a≠b:=by intro e;subst e;rw [h] at h';cases h'
section
variable (P:Program) (w:S0)
def IsTupN (h:Heap) (a:Addr) (items:Array Value):Prop:=IsTup h a items/\∃o,h.get? a=some o/\o.dict=none
theorem IsTupN.new (h:Heap) (items:Array Value):IsTupN (h.push { cls:=.type "tuple",data:=.seq items }) h.objs.size items:=⟨IsTup.new _ _,_,Z0 _ rfl,rfl⟩
noncomputable def ObjOk (H:Hp) (h:Heap) (a:Addr):HO->Prop
 | .lst xs=>xs.length<=sizeLine/\∃(its:List Value) (n:Nat),Vals xs its/\h.get? a=some { cls:=.type "list",data:=.seq its.toArray n }
 | .tup xs=>xs.length<=sizeLine/\∃its:List Value,Vals xs its/\IsTupN h a its.toArray
 | .dK kvs=>kvs.length<=sizeLine/\(a == M3)=false/\∃vs,KV kvs vs/\h.DictOf (z0q P w) a vs
 | .dT kvs=>kvs.length<=sizeLine/\(a == M3)=false/\∃xs:List (List Key×Addr×Value),
   G7 (λ (p:List Key×V) (q:List Key×Addr×Value)=>p.1=q.1/\H q.2.1=some (.tup (p.1.map kV))/\RelV p.2 q.2.2) kvs xs/\
   ∃o es ep,h.get? a=some o/\o.ExactDict/\o.data=.dict es ep/\es.toList=xs.map (entryOfKey (M5 (z0q P w)))/\(xs.map (·.1)).Nodup
 | .set S n=>h.SetOf (y4 P w) a S n
 | .ins C dx fs=>H dx=some (.own a)/\fs.length<=1000/\dx≠a/\h.get? a=some (V3 C dx)/\
   ∃mA,h.Ns1 dx mA/\(∀f,RelO (fs.lookup f) (mA f))/\S9 mA (fs.map (·.1))
 | .own _=>∃o,h.get? a=some o
 | .xd fs=>∃mA,h.Ns1 a mA/\∀f,RelO (fs.lookup f) (mA f)
 | .rng lo hi=>∃t u v,h.get? a=some { cls:=.type "range",data:=.fields #[.int lo t,.int hi u,.int 1 v] }
 | .frz o u=>h.get? a=some o/\ObjOk H h a u
 | .tbl ps=>h.get? a=some { cls:=.none,data:=.fields ps }
 | .met f x=>h.get? a=some (o8 (.ref f) (.ref x))
 | .ext φ=>φ h/\(∃o,h.get? a=some o)/\∀h1 h2:Heap,φ h1->(∀o,h1.get? a=some o->h2.get? a=some o)->φ h2
def HOk (H:Hp) (h:Heap):Prop:=∀a o,H a=some o->ObjOk P w H h a o
end
section
variable {P:Program} {w:S0} {H H':Hp} {h h':Heap} {a:Addr} {o:HO}
theorem ObjOk.lt (x:ObjOk P w H h a o):a < h.objs.size:=by
 cases o with
 | lst xs=>obtain ⟨_,_,_,_,e⟩:=x;exact T0 e
 | tup xs=>obtain ⟨_,_,_,p⟩:=x;exact p.1.lt
 | dK kvs=>obtain ⟨_,_,_,_,o,_,_,e,_⟩:=x;exact T0 e
 | dT kvs=>obtain ⟨_,_,_,_,o,_,_,e,_⟩:=x;exact T0 e
 | set S n=>obtain ⟨o,_,_,_,e,_⟩:=x;exact T0 e
 | ins C dx fs=>obtain ⟨_,_,_,e,_⟩:=x;exact T0 e
 | own y=>obtain ⟨_,e⟩:=x;exact T0 e
 | xd fs=>obtain ⟨_,⟨_,_,_,e,_⟩,_⟩:=x;exact T0 e
 | rng lo hi=>obtain ⟨_,_,_,e⟩:=x;exact T0 e
 | frz ob u=>obtain ⟨e,_⟩:=x;exact T0 e
 | tbl ps=>exact T0 (show h.get? a=some _ from x)
 | met f y=>exact T0 (show h.get? a=some _ from x)
 | ext φ=>obtain ⟨_,⟨_,e⟩,_⟩:=x;exact T0 e
theorem Paired.mapP {α β:Type} {F G:α->β->Prop} :∀{l₁:List α} {l₂:List β},G7 F l₁ l₂->(∀a b,F a b->G a b)->G7 G l₁ l₂
 | _,_,.nil,_=>.nil
 | _,_,.cons r t,f=>.cons (f _ _ r) (Paired.mapP t f)
theorem ObjOk.stay (x:ObjOk P w H h a o) (k :∀b u,(b=a\/H b=some (.own a))->h.get? b=some u->h'.get? b=some u)
  (ho :∀b,H b=some (.own a)->H' b=some (.own a)) (ht :∀b xs,H b=some (.tup xs)->H' b=some (.tup xs)):ObjOk P w H' h' a o:=by
 induction o with
 | lst xs=>obtain ⟨z,s,n,r,e⟩:=x;exact ⟨z,s,n,r,k _ _ (.inl rfl) e⟩
 | tup xs=>obtain ⟨z,s,r,⟨g,e,c⟩,D,l,E⟩:=x;exact ⟨z,s,r,⟨g,k _ _ (.inl rfl) e,c⟩,D,k _ _ (.inl rfl) l,E⟩
 | dK kvs=>obtain ⟨z,y,F,r,g,j,i,e,c⟩:=x;exact ⟨z,y,F,r,g,j,i,k _ _ (.inl rfl) e,c⟩
 | dT kvs=>obtain ⟨z,y,xs,r,g,j,i,e,c⟩:=x;exact ⟨z,y,xs,Paired.mapP r λ p q z=>⟨z.1,ht _ _ z.2.1,z.2.2⟩,g,j,i,k _ _ (.inl rfl) e,c⟩
 | set S n=>obtain ⟨g,j,i,t,e,c⟩:=x;exact ⟨g,j,i,t,k _ _ (.inl rfl) e,c⟩
 | ins C dx fs=>obtain ⟨d,z,ne,e,A,⟨m,j,i,l,c⟩,r⟩:=x;exact ⟨ho _ d,z,ne,k _ _ (.inl rfl) e,A,⟨m,j,i,k _ _ (.inr d) l,c⟩,r⟩
 | own y=>obtain ⟨g,e⟩:=x;exact ⟨g,k _ _ (.inl rfl) e⟩
 | xd fs=>obtain ⟨A,⟨m,j,i,e,c⟩,r⟩:=x;exact ⟨A,⟨m,j,i,k _ _ (.inl rfl) e,c⟩,r⟩
 | rng lo hi=>obtain ⟨t,u,v,e⟩:=x;exact ⟨t,u,v,k _ _ (.inl rfl) e⟩
 | frz g u ih=>obtain ⟨e,q⟩:=x;exact ⟨k _ _ (.inl rfl) e,ih q⟩
 | tbl ps=>have e:h.get? a=some { cls:=.none,data:=.fields ps }:=x;show h'.get? a=some { cls:=.none,data:=.fields ps };exact k a _ (.inl rfl) e
 | met f y=>have e:h.get? a=some (o8 (.ref f) (.ref y)):=x;show h'.get? a=some (o8 (.ref f) (.ref y));exact k a _ (.inl rfl) e
 | ext φ=>obtain ⟨p,⟨o,e⟩,B⟩:=x;exact ⟨B _ _ p λ o q=>k _ _ (.inl rfl) q,⟨o,k _ _ (.inl rfl) e⟩,B⟩
theorem HOk.lt (x:HOk P w H h) (e:H a=some o):a < h.objs.size:=(x a o e).lt
theorem HOk.fresh (x:HOk P w H h) (e:h.objs.size<=a):H a=none:=by
 cases q:H a with
 | none=>rfl
 | some u=>exact absurd (P1 (x.lt q) e) (G4 _)
theorem HOk.kept (x:HOk P w H h) (k :∀b u,h.get? b=some u->h'.get? b=some u):HOk P w H h':=λ a o e=>(x a o e).stay (λ b u _ q=>k b u q) (λ _ q=>q) λ _ _ q=>q
theorem HOk.laid (x:HOk P w H h) (k :∀b u,h.get? b=some u->h'.get? b=some u) (hp:h.objs.size<=a) (new:ObjOk P w (upd H a o) h' a o):HOk P w (upd H a o) h':=λ b u e=>by
 have d:=x.fresh hp;by_cases hb:b=a
 ·subst hb;rw [upd_same] at e;cases e;exact new
 ·rw [upd_ne hb] at e;exact (x b u e).stay (λ c v _ q=>k c v q) (λ c q=>by rw [upd_ne (z0e q d)];exact q) λ c f q=>by rw [upd_ne (z0e q d)];exact q
end
def Rd (H:Hp) (a:Addr) (u:HO):Prop:=H a=some u\/∃o,H a=some (.frz o u)
theorem Rd.ok {P:Program} {w:S0} {H:Hp} {h:Heap} {a:Addr} {u:HO} (r:Rd H a u) (x:HOk P w H h):ObjOk P w H h a u:=by
 rcases r with r|⟨o,r⟩
 ·exact x a u r
 ·obtain ⟨_,q⟩:=x a _ r;exact q
noncomputable def Mut:Option HO->Prop
 | some (.lst _)=>True
 | some (.dK _)=>True
 | some (.dT _)=>True
 | some (.set _ _)=>True
 | some (.ins _ _ _)=>True
 | some (.ext _)=>True
 | _=>False
section
variable {P:Program} {w:S0} {H:Hp} {h h':Heap} {x e:Addr} {o':HO}
theorem HOk.write (ok:HOk P w H h) (mu:Mut (H x)) (he:e=x\/H e=some (.own x)) (k :∀b u,b≠e->h.get? b=some u->h'.get? b=some u) (heo :∃u,h'.get? e=some u)
  (new:ObjOk P w (upd H x o') h' x o'):HOk P w (upd H x o') h':=λ b u q=>by
 have f :∀c y,H c=some (.own y)->c≠x:=λ c y r z=>by subst z;rw [r] at mu;exact mu
 have j :∀c d,H c=some (.tup d)->c≠x:=λ c d r z=>by subst z;rw [r] at mu;exact mu
 by_cases hb:b=x
 ·subst hb;rw [upd_same] at q;cases q;exact new
 ·rw [upd_ne hb] at q;by_cases hbe:b=e
  ·have g:H b=some (.own x):=by
    rcases he with z|z
    ·exact absurd (hbe.trans z) hb
    ·rw [hbe];exact z
   rw [q] at g;cases g;obtain ⟨v,i⟩:=heo;exact ⟨v,by rw [hbe];exact i⟩
  ·refine (ok b u q).stay (λ c v a r=>k c v ?_ r) (λ c r=>by rw [upd_ne (f c b r)];exact r) λ c d r=>by rw [upd_ne (j c d r)];exact r
   rcases a with rfl|a
   ·exact hbe
   ·rintro rfl;rcases he with z|z
    ·exact f c b a z
    ·rw [a] at z;cases z;exact hb rfl
end
structure Un (fs ex:List Addr) (H H':Hp) (h h':Heap):Prop where
 keep :∀b o,h.get? b=some o->H b=none->b∉fs->b∉ex->h'.get? b=some o
 slot :∀b o,h.get? b=some o->H b=none->b∈fs->b∉ex->∃sl,h'.get? b=some { o with slots:=sl }
 free :∀b o,h.get? b=some o->H b=none->b∉ex->H' b=none
 there :∀b o,h.get? b=some o->b∉ex->∃o',h'.get? b=some o'
 tups :∀b xs,H b=some (.tup xs)->H' b=some (.tup xs)
 frzs :∀b o u,H b=some (.frz o u)->H' b=some (.frz o u)
 tbls :∀b ps,H b=some (.tbl ps)->∃more,H' b=some (.tbl (ps++more))
section
variable {fs fs' ex ex':List Addr} {H H1 H2:Hp} {h h1 h2 h':Heap} {a x e:Addr} {o:HO}
theorem Un.any (u:Un fs ex H H1 h h1) {b:Addr} {ob:Obj} (q:h.get? b=some ob) (n:H b=none) (hx:b∉ex) :∃sl,h1.get? b=some { ob with slots:=sl }:=by
 by_cases hb:b∈fs
 ·exact u.slot b ob q n hb hx
 ·exact ⟨ob.slots,u.keep b ob q n hb hx⟩
theorem Un.kept (k :∀b u,h.get? b=some u->h'.get? b=some u):Un fs ex H H h h':=
 ⟨λ b a q _ _ _=>k b a q,λ b a q _ _ _=>⟨a.slots,k b a q⟩,λ _ _ _ n _=>n,λ b a q _=>⟨a,k b a q⟩,λ _ _ q=>q,λ _ _ _ q=>q,λ _ c q=>⟨#[],by rw [q];simp⟩⟩
theorem Un.refl:Un fs ex H H h h:=Un.kept λ _ _ q=>q
theorem Un.laid (k :∀b u,h.get? b=some u->h'.get? b=some u) (hp:h.objs.size<=a) (hn:H a=none):Un fs ex H (upd H a o) h h' where
 keep:=λ b u q _ _ _=>k b u q
 slot:=λ b u q _ _ _=>⟨u.slots,k b u q⟩
 free:=λ b u q n _=>by rw [upd_ne (B1 (P1 (T0 q) hp))];exact n
 there:=λ b u q _=>⟨u,k b u q⟩
 tups:=λ b c q=>by rw [upd_ne (z0e q hn)];exact q
 frzs:=λ b u c q=>by rw [upd_ne (z0e q hn)];exact q
 tbls:=λ b d q=>⟨#[],by rw [upd_ne (z0e q hn),q];simp⟩
theorem Un.write (mu:Mut (H x)) (he:e=x\/H e=some (.own x)) (k :∀b u,b≠e->h.get? b=some u->h'.get? b=some u) (heo :∃u,h'.get? e=some u):Un fs ex H (upd H x o) h h':=by
 have d :∀b,H b=none->b≠x:=λ b n z=>by subst z;rw [n] at mu;exact mu
 have c :∀b,H b=none->b≠e:=λ b n z=>by
  subst z;rcases he with r|r
  ·exact d b n r
  ·rw [n] at r;cases r
 have a :∀b u,H b=some u->¬ Mut (some u)->b≠x:=λ b u q nm z=>by subst z;rw [q] at mu;exact nm mu
 refine ⟨λ b u q n _ _=>k b u (c b n) q,λ b u q n _ _=>⟨u.slots,k b u (c b n) q⟩,λ b u q n _=>by rw [upd_ne (d b n)];exact n,λ b u q _=>?_,
  λ b f q=>by rw [upd_ne (a b _ q λ z=>z)];exact q,λ b u f q=>by rw [upd_ne (a b _ q λ z=>z)];exact q,λ b g q=>⟨#[],by rw [upd_ne (a b _ q λ z=>z),q];simp⟩⟩
 by_cases hbe:b=e
 ·subst hbe;exact heo
 ·exact ⟨u,k b u hbe q⟩
end
noncomputable def trk (h:Heap) (H:Hp):List Addr:=(V0 h.objs.size).filter λ a=>(H a).isSome
noncomputable def hidT (h:Heap) (H:Hp):Heap:=PySem.W.hideAll h (trk h H)
theorem zgj (h:Heap) (H:Hp):(hidT h H).objs.size=h.objs.size:=PySem.W.hideAll_size _ _
theorem zhf {h:Heap} {H:Hp} {b:Addr} {o:Obj} (e:h.get? b=some o) (n:H b=none):(hidT h H).get? b=some o:=
 PySem.W.hideAll_get _ e λ a=>by have q:(H b).isSome=true:=(List.mem_filter.mp a).2;rw [n] at q;simp at q
theorem zjr {h:Heap} {H:Hp} {b:Addr} {o:Obj} (e:(hidT h H).get? b=some o):h.get? b=some o/\H b=none:=by
 have a:h.get? b=some o:=PySem.W.of_hideAll (trk h H) e;refine ⟨a,?_⟩;cases q:H b with
 | none=>rfl
 | some x=>have c:b∈trk h H:=List.mem_filter.mpr ⟨List.mem_range.mpr (T0 a),by simp [q]⟩;have z:(hidT h H).get? b=none:=PySem.W.hideAll_none (trk h H) c;rw [z] at e;cases e
noncomputable def zil (g h:Heap) (L:Addr):List (Addr×Obj):=(V0 h.objs.size).filterMap λ a=>if a=L\/(g.get? a).isSome=true then none else (h.get? a).map λ o=>(a,o)
noncomputable def rest (g h:Heap) (L d:Addr):List (Addr×Obj):=(zil g h L).filter λ p=>decide (p.1≠d)
structure Mod (K:d0) (mg:Str->Option Value) (base:Heap):Prop where
 kin:K.In base
 glob:base.Ns y3 mg
 blt :∃mb,base.Ns builtinsNs mb/\∀x:Str,x≠"__name__"->mb x=l5 x
 nolimit:base.NoLimit
structure Cx where
 prog:Program
 w:S0
 K:d0
 mg:Str->Option Value
 base:Heap
 A:A2
 N:List Str
 s₀:C0
 H₀:Hp
 env:Env
 outer:List Env
 stack:List Env
 ex:List Addr
 fn:Str->Bool
 calm:Bool
 pn:List (Addr×Obj)
 xe:Value->C0->Prop
noncomputable def frs (l:List Env):List Addr:=l.filterMap (·.frame)
noncomputable abbrev Cx.fs (X:Cx):List Addr:=frs X.outer
def Vis (sc:Scope) (x:Str):Prop:=sc.names.lookup x=some .local\/sc.names.lookup x=some .cell\/sc.names.lookup x=some .free
def Loc (sc:Scope) (x:Str):Prop:=sc.names.lookup x=some .local\/sc.names.lookup x=some .cell
def Look (env:Env) (h:Heap) (m:Str->Option Value) (x:Str) (u:Value):Prop:=
 (env.kindOf x=some .local/\m x=some u)\/((env.kindOf x=some .cell\/env.kindOf x=some .free)/\∃c,env.cells.lookup x=some c/\h.IsCell c (some u))
structure Cx.Ok (X:Cx):Prop where
 mod:Mod X.K X.mg X.base
 kind:X.env.scope.kind=.function
 glob:X.env.globals=y3
 blt:X.env.builtins=builtinsNs
 above:X.s₀.heap.objs.size<=X.env.locals
 inj :∀x y c,X.env.cells.lookup x=some c->X.env.cells.lookup y=some c->x=y
 has :∀x,(X.env.kindOf x=some .cell\/X.env.kindOf x=some .free)->∃c,X.env.cells.lookup x=some c
 cab :∀x c,X.fn x=true->X.env.cells.lookup x=some c->X.s₀.heap.objs.size<=c
 hd:X.calm=true->X.A.handled=none
 frames:X.A.frames=some X.stack
 stk:X.stack=X.outer\/(X.stack=X.env :: X.outer/\X.env.frame=some X.env.locals)
 exf :∀b∈X.ex,b≠X.env.locals/\∀x c,X.env.cells.lookup x=some c->c≠b
 bs :∀b o,X.base.get? b=some o->X.s₀.heap.get? b=some o/\X.H₀ b=none
 bsz:X.base.objs.size<=X.s₀.heap.objs.size
 noex :∀b o,X.base.get? b=some o->b∉X.ex
 exfs :∀b∈X.ex,b∉X.fs
 funs:X.s₀.heap.FunFrames X.base X.outer
 frf :∀b∈X.fs,X.H₀ b=none
structure Inv (X:Cx) (pins:List (Addr×Obj)) (σ:List (Option V)) (H:Hp) (s:C0):Prop where
 ok:X.Ok
 os:s.os=X.s₀.os
 bare:B7 s.gens
 base:Un X.fs X.ex X.H₀ H X.s₀.heap s.heap
 loc :∃m,s.heap.Ns X.env.locals m/\∀(i:Nat) (x:Str) (v:V),X.N[i]? = some x->σ[i]? = some (some v)->Vis X.env.scope x->∃u,RelV v u/\Look X.env s.heap m x u
 cell :∀x c,X.env.cells.lookup x=some c->∃v,s.heap.IsCell c v
 free:H X.env.locals=none
 freeC :∀x c,X.env.cells.lookup x=some c->H c=none
 pin :∀p∈X.pn++pins,s.heap.get? p.1=some p.2/\H p.1=none/\p.1≠X.env.locals/\p.1∉X.fs/\∀v,p.2.data≠.cell v
 hok:HOk X.prog X.w H s.heap
 len:σ.length=X.N.length
section
variable {X:Cx} {pins:List (Addr×Obj)} {σ:List (Option V)} {H H':Hp} {s:C0} {h':Heap}
theorem Cx.Ok.nofr (ok:X.Ok) {b:Addr} {o:Obj} (e:X.base.get? b=some o):b∉X.fs:=λ a=>by have:=(ok.funs.mem a).1;rw [e] at this;cases this
theorem Inv.bs (I:Inv X pins σ H s) :∀b o,X.base.get? b=some o->s.heap.get? b=some o/\H b=none:=λ b o e=>⟨I.base.keep b o (I.ok.bs b o e).1 (I.ok.bs b o e).2 (I.ok.nofr e) (I.ok.noex b o e),I.base.free b o (I.ok.bs b o e).1 (I.ok.bs b o e).2 (I.ok.noex b o e)⟩
theorem Inv.bk (I:Inv X pins σ H s) :∀b o,X.base.get? b=some o->s.heap.get? b=some o:=λ b o e=>(I.bs b o e).1
theorem Inv.mod (I:Inv X pins σ H s):Mod X.K X.mg X.base:=I.ok.mod
theorem Inv.kIn (I:Inv X pins σ H s):X.K.In s.heap:=I.ok.mod.kin.keeps I.bk
theorem Inv.lt (I:Inv X pins σ H s):X.env.locals < s.heap.objs.size:=let ⟨_,hn,_⟩:=I.loc;hn.lt
theorem Inv.sz (I:Inv X pins σ H s):X.s₀.heap.objs.size<=s.heap.objs.size:=F0 I.ok.above (N2 I.lt)
theorem Inv.nofs (I:Inv X pins σ H s) {a:Addr} (h:s.heap.objs.size<=a):a∉X.fs:=λ c=>by obtain ⟨_,o,b,_⟩:=I.ok.funs.mem c;exact absurd (P1 (T0 b) (F0 I.sz h)) (G4 _)
theorem Inv.cne (I:Inv X pins σ H s) :∀x c,X.env.cells.lookup x=some c->c≠X.env.locals:=λ x c e z=>by obtain ⟨v,o,b,a⟩:=I.cell x c e;obtain ⟨m,⟨g,i,h,f,d,_⟩,_⟩:=I.loc;rw [z,f] at b;cases b;rw [d] at a;cases a
theorem Inv.funs (I:Inv X pins σ H s):s.heap.FunFrames X.base X.outer:=by
 have all :∀(l:List Env),(∀b∈frs l,b∈X.fs)->X.s₀.heap.FunFrames X.base l->s.heap.FunFrames X.base l:=by
  intro l;induction l with
  | nil=>intro _ _;trivial
  | cons env r ih=>intro f m;obtain ⟨j,⟨L,o,a,k,i,h⟩,g⟩:=m;have d:L∈X.fs:=f L (by unfold frs;rw [m8,a];exact O1);obtain ⟨n,e⟩:=I.base.slot L o i (I.ok.frf L d) d λ z=>I.ok.exfs L z d;exact ⟨j,⟨L,_,a,k,e,h⟩,ih (λ b c=>f b (by unfold frs;rw [m8,a];exact E1 _ c)) g⟩
 exact all X.outer (λ _ c=>c) I.ok.funs
theorem Inv.stack (I:Inv X pins σ H s):s.heap.FunFrames X.base X.stack:=by
 rcases I.ok.stk with e|⟨e,hf⟩
 ·rw [e];exact I.funs
 ·rw [e];obtain ⟨m,a,_⟩:=I.loc;refine .cons (by rw [I.ok.kind];decide) hf a ?_ I.funs;exact Heap.get?_none_of_le (F0 I.ok.bsz I.ok.above)
theorem Inv.stkSub (I:Inv X pins σ H s) :∀b∈frs X.stack,b∈X.env.locals :: X.fs:=λ b a=>by
 rcases I.ok.stk with e|⟨e,hf⟩
 ·rw [e] at a;exact E1 _ a
 ·rw [e] at a;unfold frs at a;rw [m8,hf] at a;exact a
theorem Inv.stkFree (I:Inv X pins σ H s) :∀b∈frs X.stack,H b=none:=λ b a=>by
 rcases List.mem_cons.mp (I.stkSub b a) with e|a
 ·rw [e];exact I.free
 ·obtain ⟨_,o,c,_⟩:=I.ok.funs.mem a;exact I.base.free b o c (I.ok.frf b a) λ z=>I.ok.exfs b z a
theorem Inv.step {g':Array GenState} {t':Nat} {d':Drawn} {ch:List Addr} (I:Inv X pins σ H s)
  (hch :∀b∈ch,(b∈X.ex\/X.s₀.heap.objs.size<=b)/\b≠X.env.locals/\(∀x c,X.env.cells.lookup x=some c->c≠b)/\∀p∈X.pn++pins,p.1≠b)
  (keep :∀b o,b≠X.env.locals->b∉X.fs->b∉ch->s.heap.get? b=some o->H b=none->h'.get? b=some o)
  (slot :∀b o,b≠X.env.locals->b∈X.fs->b∉ch->s.heap.get? b=some o->H b=none->∃sl,h'.get? b=some { o with slots:=sl }) (free :∀b o,b∉ch->s.heap.get? b=some o->H b=none->H' b=none)
  (there :∀b o,b∉ch->s.heap.get? b=some o->∃o',h'.get? b=some o')
  (tups :∀b xs,H b=some (.tup xs)->H' b=some (.tup xs)) (frzs :∀b o u,H b=some (.frz o u)->H' b=some (.frz o u)) (tbls :∀b ps,H b=some (.tbl ps)->∃more,H' b=some (.tbl (ps++more)))
  (ns :∀m,s.heap.Ns X.env.locals m->h'.Ns X.env.locals m) (hok:HOk X.prog X.w H' h') (hg:B7 g') :
  Inv X pins σ H' { s with heap:=h',gens:=g',drawn:=d',toks:=t' }:=by
 have B :∀b o,X.s₀.heap.get? b=some o->b≠X.env.locals:=λ b o e=>B1 (P1 (T0 e) I.ok.above);have y :∀b o,X.s₀.heap.get? b=some o->b∉X.ex->b∉ch:=λ b o e a g=>by
  rcases (hch b g).1 with z|z
  ·exact a z
  ·exact absurd (P1 (T0 e) z) (G4 _)
 have C :∀x c,X.env.cells.lookup x=some c->∀v,s.heap.IsCell c v->h'.IsCell c v:=λ x c e v ⟨o,h,A⟩=>by
  have t:c∉ch:=λ z=>(hch c z).2.2.1 x c e rfl;by_cases hc:c∈X.fs
  ·obtain ⟨sl,q⟩:=slot c o (I.cne x c e) hc t h (I.freeC x c e);exact ⟨_,q,A⟩
  ·exact ⟨o,keep c o (I.cne x c e) hc t h (I.freeC x c e),A⟩
 refine ⟨I.ok,I.os,hg,⟨λ b o e n g a=>?_,λ b o e n g a=>?_,λ b o e n a=>?_,λ b o e a=>?_,λ b xs e=>tups b xs (I.base.tups b xs e),λ b o xs e=>frzs b o xs (I.base.frzs b o xs e),λ b ps e=>?_⟩,?_,λ x c e=>?_,?_,λ x c e=>?_,λ p D=>?_,hok,I.len⟩
 ·exact keep b o (B b o e) g (y b o e a) (I.base.keep b o e n g a) (I.base.free b o e n a)
 ·obtain ⟨sl,f⟩:=I.base.slot b o e n g a;obtain ⟨G,j⟩:=slot b _ (B b o e) g (y b o e a) f (I.base.free b o e n a);exact ⟨G,j⟩
 ·obtain ⟨o',f⟩:=I.base.there b o e a;exact free b o' (y b o e a) f (I.base.free b o e n a)
 ·obtain ⟨o',f⟩:=I.base.there b o e a;exact there b o' (y b o e a) f
 ·obtain ⟨F,f⟩:=I.base.tbls b ps e;obtain ⟨K,j⟩:=tbls b _ f;exact ⟨F++K,by rw [j,Array.append_assoc]⟩
 ·obtain ⟨m,M,J⟩:=I.loc;refine ⟨m,ns m M,λ i x v f j L=>?_⟩;obtain ⟨u,r,l⟩:=J i x v f j L;refine ⟨u,r,?_⟩;rcases l with l|⟨k,c,e,z⟩
  ·exact .inl l
  ·exact .inr ⟨k,c,e,C x c e _ z⟩
 ·obtain ⟨v,z⟩:=I.cell x c e;exact ⟨v,C x c e v z⟩
 ·obtain ⟨m,⟨o,_,_,h,_⟩,_⟩:=I.loc;exact free _ o (λ z=>(hch _ z).2.1 rfl) h I.free
 ·obtain ⟨v,o,h,A⟩:=I.cell x c e;exact free c o (λ z=>(hch c z).2.2.1 x c e rfl) h (I.freeC x c e)
 ·obtain ⟨e,n,ne,E,d⟩:=I.pin p D;have t:p.1∉ch:=λ z=>(hch p.1 z).2.2.2 p D rfl;exact ⟨keep p.1 p.2 ne E t e n,free p.1 p.2 t e n,ne,E,d⟩
theorem Inv.un {t':Nat} (I:Inv X pins σ H s) (u:Un X.fs [] H H' s.heap h') (hok:HOk X.prog X.w H' h'):Inv X pins σ H' { s with heap:=h',toks:=t' }:=by obtain ⟨m,⟨o,t,p,d,r⟩,_⟩:=id I.loc;obtain ⟨q,g⟩:=u.any d I.free (by simp);exact I.step (g':=s.gens) (d':=s.drawn) (ch:=[]) (λ _ z=>nomatch z) (λ b o _ a _ e n=>u.keep b o e n a (by simp)) (λ b o _ a _ e n=>u.slot b o e n a (by simp)) (λ b o _ e n=>u.free b o e n (by simp)) (λ b o _ e=>u.there b o e (by simp)) u.tups u.frzs u.tbls (λ k i=>by obtain ⟨l,h,j,c,f⟩:=i;rw [d] at c;cases c;exact ⟨_,h,j,g,f⟩) hok I.bare
theorem Inv.call {g':Array GenState} {t':Nat} {d':Drawn} {ch:List Addr} (I:Inv X pins σ H s) (u:Un (frs X.stack) ch H H' s.heap h') (hok:HOk X.prog X.w H' h') (hg:B7 g')
  (hch :∀b∈ch,(b∈X.ex\/X.s₀.heap.objs.size<=b)/\b≠X.env.locals/\(∀x c,X.env.cells.lookup x=some c->c≠b)/\∀p∈X.pn++pins,p.1≠b) :
  Inv X pins σ H' { s with heap:=h',gens:=g',drawn:=d',toks:=t' }:=by
 obtain ⟨m,⟨o,A,v,g,r⟩,_⟩:=id I.loc;obtain ⟨y,d⟩:=u.any g I.free λ z=>(hch _ z).2.1 rfl;exact I.step (ch:=ch) hch (λ b o d i a e n=>u.keep b o e n (λ z=>(List.mem_cons.mp (I.stkSub b z)).elim d i) a) (λ b o _ _ a e n=>u.any e n a) (λ b o a e n=>u.free b o e n a) (λ b o a e=>u.there b o e a) u.tups u.frzs u.tbls (λ q k=>by obtain ⟨t,j,l,f,h⟩:=k;rw [g] at f;cases f;exact ⟨_,j,l,d,h⟩) hok hg
theorem Inv.turned {t':Nat} {it:Addr} (I:Inv X pins σ H s) (k :∀b o,b≠it->s.heap.get? b=some o->h'.get? b=some o) (hn:H it=none) (hL:it≠X.env.locals)
  (h1:it∈X.ex\/X.s₀.heap.objs.size<=it) (h2 :∀x c,X.env.cells.lookup x=some c->c≠it) (h3 :∀p∈X.pn++pins,p.1≠it):Inv X pins σ H { s with heap:=h',toks:=t' }:=by
 have d :∀b u,H b=some u->b≠it:=λ b u e z=>by rw [z,hn] at e;cases e
 refine I.step (g':=s.gens) (d':=s.drawn) (ch:=[it]) (λ b h=>?_) (λ b o _ _ a e _=>k b o (λ z=>a (by simp [z])) e) (λ b o _ _ a e _=>⟨o.slots,k b o (λ z=>a (by simp [z])) e⟩) (λ _ _ _ _ n=>n)
  (λ b o a e=>⟨o,k b o (λ z=>a (by simp [z])) e⟩) (λ _ _ e=>e) (λ _ _ _ e=>e) (λ b l e=>⟨#[],by rw [e];simp⟩) (λ m f=>?_) (λ b u e=>?_) I.bare
 ·have e:b=it:=by simpa using h
  subst e;exact ⟨h1,hL,h2,h3⟩
 ·obtain ⟨o,j,i,g,r⟩:=f;exact ⟨o,j,i,k _ o (c4 hL) g,r⟩
 ·refine (I.hok b u e).stay (λ c v a q=>k c v ?_ q) (λ _ q=>q) λ _ _ q=>q;rcases a with z|z
  ·rw [z];exact d b u e
  ·exact d c _ z
theorem Inv.tok (I:Inv X pins σ H s) (t:Nat):Inv X pins σ H { s with toks:=t }:=I.un (h':=s.heap) (t':=t) Un.refl I.hok
theorem Inv.kept {t':Nat} (I:Inv X pins σ H s) (k :∀b u,s.heap.get? b=some u->h'.get? b=some u):Inv X pins σ H { s with heap:=h',toks:=t' }:=I.un (Un.kept k) (I.hok.kept k)
theorem Inv.laid {a:Addr} {o:HO} {t':Nat} (I:Inv X pins σ H s) (k :∀b u,s.heap.get? b=some u->h'.get? b=some u) (hp:s.heap.objs.size<=a) (new:ObjOk X.prog X.w (upd H a o) h' a o) :
  Inv X pins σ (upd H a o) { s with heap:=h',toks:=t' }:=I.un (Un.laid k hp (I.hok.fresh hp)) (I.hok.laid k hp new)
theorem Inv.write {x e:Addr} {o:HO} {t':Nat} (I:Inv X pins σ H s) (mu:Mut (H x)) (he:e=x\/H e=some (.own x)) (k :∀b u,b≠e->s.heap.get? b=some u->h'.get? b=some u) (heo :∃u,h'.get? e=some u)
  (new:ObjOk X.prog X.w (upd H x o) h' x o):Inv X pins σ (upd H x o) { s with heap:=h',toks:=t' }:=I.un (Un.write mu he k heo) (I.hok.write mu he k heo new)
theorem Inv.weak {σ':List (Option V)} (I:Inv X pins σ H s) (hl:σ'.length=σ.length) (w :∀(i:Nat) v,σ'[i]? = some (some v)->σ[i]? = some (some v)):Inv X pins σ' H s:=
 ⟨I.ok,I.os,I.bare,I.base,let ⟨m,hn,hl'⟩:=I.loc;⟨m,hn,λ i x v c a b=>hl' i x v c (w i v a) b⟩,I.cell,I.free,I.freeC,I.pin,I.hok,hl.trans I.len⟩
theorem Inv.pins_of {pins':List (Addr×Obj)} (I:Inv X pins σ H s) (h :∀p∈pins',s.heap.get? p.1=some p.2/\H p.1=none/\p.1≠X.env.locals/\p.1∉X.fs/\∀v,p.2.data≠.cell v):Inv X pins' σ H s:=
 ⟨I.ok,I.os,I.bare,I.base,I.loc,I.cell,I.free,I.freeC,λ p a=>(List.mem_append.mp a).elim (λ z=>I.pin p (Z5 _ z)) (h p),I.hok,I.len⟩
theorem zel {N:List Str} (hN:N.Nodup) {i j:Nat} {x:Str} (a:N[i]? = some x) (b:N[j]? = some x):i=j:=by obtain ⟨f,d⟩:=List.getElem?_eq_some_iff.mp a;obtain ⟨e,c⟩:=List.getElem?_eq_some_iff.mp b;exact (List.getElem_inj hN).mp (d.trans c.symm)
theorem zfy {M:Model} {A:A2} {E:Value->C0->Prop} {i:Nat} {x:Str} {v:V} {u:Value} {Q:Unit->C0->Prop} (I:Inv X pins σ H s) (hN:X.N.Nodup) (hi:X.N[i]? = some x) (hx:Loc X.env.scope x) (r:RelV v u)
  (h :∀s',Inv X pins (σ.set i (some v)) H s'->(∃a,J5 a s.heap s'.heap/\(a=X.env.locals\/X.env.cells.lookup x=some a))->Q () s') (hf:X.fn x=true\/X.env.scope.names.lookup x=some .local:=by first|exact .inl rfl|exact .inr rfl|assumption):W0 M A (storeName X.env x u) Q E s:=by
 obtain ⟨m,S,hl⟩:=id I.loc;have a6:(X.env.scope.kind == .class || (X.env.scope.kind == .module && X.env.locals != X.env.globals))=false:=by rw [I.ok.kind];rfl
 have W:i < σ.length:=by rw [I.len];exact (List.getElem?_eq_some_iff.mp hi).1
 have cne:=I.cne;have a1 :∀{a:Addr} {C:Heap},(∃o,s.heap.get? a=some o/\H a=none)->J5 a s.heap C->HOk X.prog X.w H C:=λ {a C} ha f b ob e=>by
  obtain ⟨_,_,a2⟩:=ha;refine (I.hok b ob e).stay (λ c D l q=>(f.2 c ?_).trans q) (λ _ q=>q) λ _ _ q=>q;rintro rfl;rcases l with rfl|l
  ·rw [a2] at e;cases e
  ·rw [a2] at l;cases l
 rcases hx with hk|hk
 ·refine wpAny_storeName_local hk S (λ C a3 f=>?_) a6;obtain ⟨oL,_,_,a5,_⟩:=id S;refine h _ ⟨I.ok,I.os,I.bare,⟨λ b o e n B hx=>?_,λ b o e n B hx=>?_,I.base.free,λ b o e hx=>?_,I.base.tups,I.base.frzs,I.base.tbls⟩,⟨_,a3,λ j y T g t P=>?_⟩,λ y c e=>?_,I.free,I.freeC,λ p K=>?_,a1 ⟨oL,a5,I.free⟩ f,by simpa using I.len⟩ ⟨_,f,.inl rfl⟩
  ·exact (f.2 b (B1 (P1 (T0 e) I.ok.above))).trans (I.base.keep b o e n B hx)
  ·obtain ⟨U,g⟩:=I.base.slot b o e n B hx;exact ⟨U,(f.2 b (B1 (P1 (T0 e) I.ok.above))).trans g⟩
  ·obtain ⟨J,g⟩:=I.base.there b o e hx;exact ⟨J,(f.2 b (B1 (P1 (T0 e) I.ok.above))).trans g⟩
  ·by_cases hj:j=i
   ·subst hj;rw [hi] at g;cases g;rw [Y9 W] at t;cases t;exact ⟨u,r,.inl ⟨hk,by simp⟩⟩
   ·rw [j0g (c4 hj)] at t;obtain ⟨O,G,q⟩:=hl j y T g t P;refine ⟨O,G,?_⟩;rcases q with ⟨k,e⟩|⟨k,c,e,z⟩
    ·refine .inl ⟨k,?_⟩;have:y≠x:=λ e=>hj (zel hN g (e ▸ hi));simp [this,e]
    ·exact .inr ⟨k,c,e,z.sameBut f (cne y c e)⟩
  ·obtain ⟨D,z⟩:=I.cell y c e;exact ⟨D,z.sameBut f (cne y c e)⟩
  ·obtain ⟨e,n,ne,R,d⟩:=I.pin p K;exact ⟨(f.2 p.1 ne).trans e,n,ne,R,d⟩
 ·have L:X.fn x=true:=by
   rcases hf with z|z
   ·exact z
   ·rw [z] at hk;cases hk
  obtain ⟨c,l⟩:=I.ok.has x (.inl hk);obtain ⟨D,z⟩:=I.cell x c l;refine wpAny_storeName_cell I.ok.kind hk l z (λ C Z f=>?_);obtain ⟨Y,a0,a4⟩:=id z;refine h { s with heap:=C } ⟨I.ok,I.os,I.bare,⟨λ b o e n B hx=>?_,λ b o e n B hx=>?_,I.base.free,λ b o e hx=>?_,I.base.tups,I.base.frzs,I.base.tbls⟩,⟨m,S.sameBut f (c4 (cne x c l)),λ j y T g t P=>?_⟩,λ y F e=>?_,I.free,I.freeC,λ p K=>?_,a1 ⟨Y,a0,I.freeC x c l⟩ f,by simpa using I.len⟩ ⟨c,f,.inr l⟩
  ·exact (f.2 b (B1 (P1 (T0 e) (I.ok.cab x c L l)))).trans (I.base.keep b o e n B hx)
  ·obtain ⟨U,g⟩:=I.base.slot b o e n B hx;exact ⟨U,(f.2 b (B1 (P1 (T0 e) (I.ok.cab x c L l)))).trans g⟩
  ·obtain ⟨J,g⟩:=I.base.there b o e hx;exact ⟨J,(f.2 b (B1 (P1 (T0 e) (I.ok.cab x c L l)))).trans g⟩
  ·by_cases hj:j=i
   ·subst hj;rw [hi] at g;cases g;rw [Y9 W] at t;cases t;exact ⟨u,r,.inr ⟨.inl hk,c,l,Z⟩⟩
   ·rw [j0g (c4 hj)] at t;obtain ⟨O,G,q⟩:=hl j y T g t P;refine ⟨O,G,?_⟩;rcases q with q|⟨k,F,e,z'⟩
    ·exact .inl q
    ·refine .inr ⟨k,F,e,z'.sameBut f ?_⟩;rintro rfl;exact hj (zel hN g (I.ok.inj _ _ _ e l ▸ hi))
  ·by_cases hcc:F=c
   ·subst hcc;exact ⟨_,Z⟩
   ·obtain ⟨w2,z2⟩:=I.cell y F e;exact ⟨w2,z2.sameBut f hcc⟩
  ·obtain ⟨e,n,ne,R,d⟩:=I.pin p K;refine ⟨(f.2 p.1 ?_).trans e,n,ne,R,d⟩;intro q;rw [q,a0] at e;have q':Y=p.2:=Y1 e;exact d D (by rw [<-q'];exact a4)
theorem ze6 {M:Model} {A:A2} {E:Value->C0->Prop} {i:Nat} {x:Str} {v:V} {u:Value} {Q:Unit->C0->Prop} (I:Inv X pins σ H s) (hN:X.N.Nodup) (hi:X.N[i]? = some x) (hx:Loc X.env.scope x) (r:RelV v u)
  (h :∀s',Inv X pins (σ.set i (some v)) H s'->Q () s') (hf:X.fn x=true\/X.env.scope.names.lookup x=some .local:=by first|exact .inl rfl|exact .inr rfl|assumption):W0 M A (storeName X.env x u) Q E s:=
 zfy I hN hi hx r (λ s' a _=>h s' a) hf
theorem Inv.call' {s':C0} {ch:List Addr} (I:Inv X pins σ H s) (ho:s'.os=s.os) (u:Un (frs X.stack) ch H H' s.heap s'.heap) (hok:HOk X.prog X.w H' s'.heap) (hg:B7 s'.gens)
  (hch :∀b∈ch,(b∈X.ex\/X.s₀.heap.objs.size<=b)/\b≠X.env.locals/\(∀x c,X.env.cells.lookup x=some c->c≠b)/\∀p∈X.pn++pins,p.1≠b):Inv X pins σ H' s':=by
 obtain ⟨d,g',d',t',a⟩:=s';have e:a=s.os:=ho;subst e;exact I.call (g':=g') (t':=t') (d':=d') u hok hg hch
end
noncomputable abbrev XK:=Value->Option Addr->Hp->Prop
noncomputable abbrev St:=List (Option V)
noncomputable abbrev VK:=V->Hp->Prop
noncomputable abbrev TE:=St->Hp->VK->Prop
noncomputable abbrev TT:=St->Hp->(Bool->Hp->Prop)->Prop
noncomputable abbrev TA:=St->Hp->(List V->Hp->Prop)->Prop
structure Ends where
 nx:St->Hp->Prop
 rt:VK
 bk:St->Hp->Prop:=λ _ _=>False
 ct:St->Hp->Prop:=λ _ _=>False
noncomputable abbrev TS:=Ends->St->Hp->Prop
def EP (X:Cx) (pins:List (Addr×Obj)) (σ:St) (Q:VK) (u:Value) (s':C0):Prop:=∃v H',Inv X pins σ H' s'/\RelV v u/\Q v H'
def TP (X:Cx) (pins:List (Addr×Obj)) (σ:St) (Q:Bool->Hp->Prop) (b:Bool) (s':C0):Prop:=∃H',Inv X pins σ H' s'/\Q b H'
def AP (X:Cx) (pins:List (Addr×Obj)) (σ:St) (Q:List V->Hp->Prop) (us:List Value) (s':C0):Prop:=∃vs H',Inv X pins σ H' s'/\Vals vs us/\Q vs H'
def SP (X:Cx) (pins:List (Addr×Obj)) (D:Ends) (f:Flow) (s':C0):Prop:=
 match f with
 | .next=>∃σ' H',Inv X pins σ' H' s'/\D.nx σ' H'
 | .brk=>∃σ' H',Inv X pins σ' H' s'/\D.bk σ' H'
 | .cont=>∃σ' H',Inv X pins σ' H' s'/\D.ct σ' H'
 | .ret u=>∃v σ' H',Inv X pins σ' H' s'/\RelV v u/\D.rt v H'
def PE (X:Cx) (e:Expr) (t:TE):Prop:=
 ∀(pins:List (Addr×Obj)) (s:C0) (σ:St) (H:Hp) (Q:VK),Inv X pins σ H s->t σ H Q->W0 (D1 X.prog X.w) X.A (v3 e X.env) (EP X pins σ Q) X.xe s
def PT (X:Cx) (e:Expr) (t:TT):Prop:=
 ∀(pins:List (Addr×Obj)) (s:C0) (σ:St) (H:Hp) (Q:Bool->Hp->Prop),Inv X pins σ H s->t σ H Q->W0 (D1 X.prog X.w) X.A (isTrue e X.env (v3 e X.env)) (TP X pins σ Q) X.xe s
def PW (X:Cx) (e:Expr) (t:TT):Prop:=
 ∀(whole:Sem Value) (pins:List (Addr×Obj)) (s:C0) (σ:St) (H:Hp) (Q:Bool->Hp->Prop),Inv X pins σ H s->t σ H Q->W0 (D1 X.prog X.w) X.A (isTrue e X.env whole) (TP X pins σ Q) X.xe s
theorem PW.pt {X:Cx} {e:Expr} {t:TT} (h:PW X e t):PT X e t:=h _
def PA (X:Cx) (es:List Expr) (t:TA):Prop:=
 ∀(pos:Pos) (pins:List (Addr×Obj)) (s:C0) (σ:St) (H:Hp) (Q:List V->Hp->Prop),Inv X pins σ H s->t σ H Q->W0 (D1 X.prog X.w) X.A (spliced (L4 pos (L1 es X.env))) (AP X pins σ Q) X.xe s
def PS (X:Cx) (st:Stmt) (t:TS):Prop:=
 ∀(pins:List (Addr×Obj)) (s:C0) (σ:St) (H:Hp) (D:Ends),Inv X pins σ H s->t D σ H->W0 (D1 X.prog X.w) X.A (exec st X.env) (SP X pins D) X.xe s
def PSs (X:Cx) (st:List Stmt) (t:TS):Prop:=
 ∀(pins:List (Addr×Obj)) (s:C0) (σ:St) (H:Hp) (D:Ends),Inv X pins σ H s->t D σ H->W0 (D1 X.prog X.w) X.A (execs st X.env) (SP X pins D) X.xe s
theorem thn {α:Type} {t:Sem α} {Q Q':α->C0->Prop} {M:Model} {A:A2} {E:Value->C0->Prop} {s:C0} (h:W0 M A t Q E s) (hQ :∀a s,Q a s->Q' a s):W0 M A t Q' E s:=L3 h hQ λ _ _ x=>x
section
variable {X:Cx}
inductive TVar (i:Nat) (σ:St) (H:Hp) (Q:VK):Prop
 | mk (v:V) (e:σ[i]? = some (some v)) (q:Q v H)
noncomputable def tVar (i:Nat):TE:=λ σ H Q=>TVar i σ H Q
noncomputable def tC (v:V):TE:=λ _ H Q=>Q v H
theorem pe_var {i:Nat} {x:Str} {pos:Pos} (hN:X.N[i]? = some x) (hv:Vis X.env.scope x) (hd:(x == ("__debug__" : Str))=false:=by decide) (hcd:(x == ("__classdict__" : Str))=false:=by decide):PE X (.Name x pos) (tVar i):=by
 intro j s σ H Q I h;obtain ⟨v,e,h⟩:=h;obtain ⟨m,f,g⟩:=I.loc;obtain ⟨u,r,l⟩:=g i x v hN e hv;have b:EP X j σ Q u s:=⟨v,H,I,r,h⟩
 rcases l with ⟨a,d⟩|⟨a,c,hc,hcell⟩
 ·exact wpAny_Name (wpAny_loadName_local I.ok.kind a f d b) hd
 ·rcases a with a|a
  ·exact wpAny_Name (wpAny_loadName_cell I.ok.kind a hc hcell b) hd
  ·exact wpAny_Name (wpAny_loadName_free I.ok.kind a hc hcell b hcd) hd
theorem pe_int {i j pos}:PE X (.Constant (.int i) j pos) (tC (.int i)):=λ _ _ _ H _ I h=>wpAny_Constant_int ⟨.int i,H,I.tok _,⟨_,rfl⟩,h⟩
theorem pe_bl {b j pos}:PE X (.Constant (.bool b) j pos) (tC (.bl b)):=λ _ _ _ H _ I h=>Constant_bool ⟨.bl b,H,I,rfl,h⟩
theorem pe_non {j pos}:PE X (.Constant .none j pos) (tC .non):=λ _ _ _ H _ I h=>Constant_none ⟨.non,H,I,rfl,h⟩
theorem pe_str {x j pos}:PE X (.Constant (.str x) j pos) (tC (.str x)):=λ _ _ _ H _ I h=>Calls.Constant_str ⟨.str x,H,I.tok _,⟨_,rfl⟩,h⟩
def Gl (X:Cx) (x:Str):Prop:=X.env.kindOf x=some .globalImplicit
theorem zdd {E:Value->C0->Prop} {pins:List (Addr×Obj)} {s:C0} {σ:St} {H:Hp} {x:Str} {u:Value} {pos:Pos} {Q:Value->C0->Prop} (I:Inv X pins σ H s) (hg:Gl X x) (hm:X.mg x=some u) (h:Q u s)
  (hd:(x == ("__debug__" : Str))=false:=by decide):W0 (D1 X.prog X.w) X.A (v3 (.Name x pos) X.env) Q E s:=
 n9 I.ok.kind hg (Calls.loadGlobal_global (by rw [I.ok.glob];exact I.mod.glob.keeps I.bk) hm h) hd
theorem ld_blt {E:Value->C0->Prop} {pins:List (Addr×Obj)} {s:C0} {σ:St} {H:Hp} {x:Str} {u:Value} {pos:Pos} {Q:Value->C0->Prop} (I:Inv X pins σ H s) (hg:Gl X x) (hm:X.mg x=none) (hv:l5 x=some u) (h:Q u s)
  (hn:x≠"__name__":=by decide) (hd:(x == ("__debug__" : Str))=false:=by decide):W0 (D1 X.prog X.w) X.A (v3 (.Name x pos) X.env) Q E s:=by
 obtain ⟨c,b,a⟩:=I.mod.blt;exact n9 I.ok.kind hg (Calls.loadGlobal_builtin (by rw [I.ok.glob];exact I.mod.glob.keeps I.bk) hm (by rw [I.ok.blt];exact b.keeps I.bk) ((a x hn).trans hv) h) hd
theorem z3x {x:Str} {v:V} {u:Value} {pos:Pos} (hg:Gl X x) (hm:X.mg x=some u) (r:RelV v u) (hd:(x == ("__debug__" : Str))=false:=by decide):PE X (.Name x pos) (tC v):=
 λ _ _ _ H _ I h=>zdd I hg hm ⟨v,H,I,r,h⟩ hd
theorem z8j {x:Str} {v:V} {u:Value} {pos:Pos} (hg:Gl X x) (hm:X.mg x=none) (hv:l5 x=some u) (r:RelV v u) (hn:x≠"__name__":=by decide) (hd:(x == ("__debug__" : Str))=false:=by decide):PE X (.Name x pos) (tC v):=
 λ _ _ _ H _ I h=>ld_blt I hg hm hv ⟨v,H,I,r,h⟩ hn hd
variable {a b:Expr} {ta tb:TE} {pos:Pos}
def PC (X:Cx) (op:CmpOp) (a b:Expr) (t:TE):Prop:=
 ∀(pins:List (Addr×Obj)) (s:C0) (σ:St) (H:Hp) (Q:VK),Inv X pins σ H s->t σ H Q->
  W0 (D1 X.prog X.w) X.A (v3 a X.env) (λ v s₁=>W0 (D1 X.prog X.w) X.A (v3 b X.env) (λ u s₂=>W0 (D1 X.prog X.w) X.A (K2 op v u) (EP X pins σ Q) X.xe s₂) X.xe s₁) X.xe s
noncomputable def tB (t:TE):TT:=λ σ H Q=>t σ H λ x H1=>∃c,x=.bl c/\Q c H1
theorem pt_cmp {op:CmpOp} {t:TE} (h:PC X op a b t) (h1:D7 op b=false:=by first|exact nobehind _ (by decide) (by decide)|rfl):PT X (.Compare a [op] [b] pos) (tB t):=by intro f s σ H Q I e;refine wpAny_isTrue_Compare1 (thn (h f s σ H _ I e) λ v k h1=>thn h1 λ u i g=>thn g λ c j ⟨x,H1,I1,r1,q1⟩=>?_) h1;obtain ⟨d,rfl,q⟩:=q1;cases r1;exact F3 ⟨H1,I1,q⟩
theorem pt_val {e:Expr} {t:TE} (h:PE X e t) (he :∀whole,isTrue e X.env whole=(do let v <-whole;W9 e.pos;W8 [v] (truthy v)):=by intro _;rfl):PT X e (tB t):=by intro b s σ H Q I a;refine isTrue_plain (thn (h b s σ H _ I a) λ v c ⟨x,H1,I1,r1,q1⟩=>?_) (he _);obtain ⟨d,rfl,q⟩:=q1;cases r1;exact F3 ⟨H1,I1,q⟩
variable {tA tB':TT} {rest:List Expr}
noncomputable def tAnd (t u:TT):TT:=λ σ H Q=>t σ H λ c H1=>if c=true then u σ H1 Q else Q false H1
noncomputable def tOr (t u:TT):TT:=λ σ H Q=>t σ H λ c H1=>if c=true then Q true H1 else u σ H1 Q
noncomputable def tNot (t:TT):TT:=λ σ H Q=>t σ H λ c H1=>Q (!c) H1
theorem z2w (ha:PT X a tA):PW X (.BoolOp .And [a] pos) tA:=by
 intro wh b s σ H Q I h;refine isTrue_and (thn (ha b s σ H Q I h) λ c d e=>?_);cases c with
 | true=>exact isTrue_and_nil e
 | false=>exact e
theorem pw_or1 (ha:PT X a tA):PW X (.BoolOp .Or [a] pos) tA:=by
 intro wh b s σ H Q I h;refine isTrue_or (thn (ha b s σ H Q I h) λ c d e=>?_);cases c with
 | false=>exact isTrue_or_nil e
 | true=>exact e
theorem pw_and (ha:PT X a tA) (hb:PW X (.BoolOp .And (b :: rest) pos) tB'):PW X (.BoolOp .And (a :: b :: rest) pos) (tAnd tA tB'):=by
 intro wh d s σ H Q I h;refine isTrue_and (thn (ha d s σ H _ I h) λ c e ⟨H1,I1,q1⟩=>?_);cases c with
 | true=>exact hb wh d e σ H1 Q I1 q1
 | false=>exact ⟨H1,I1,q1⟩
theorem pw_or (ha:PT X a tA) (hb:PW X (.BoolOp .Or (b :: rest) pos) tB'):PW X (.BoolOp .Or (a :: b :: rest) pos) (tOr tA tB'):=by
 intro wh d s σ H Q I h;refine isTrue_or (thn (ha d s σ H _ I h) λ c e ⟨H1,I1,q1⟩=>?_);cases c with
 | true=>exact ⟨H1,I1,q1⟩
 | false=>exact hb wh d e σ H1 Q I1 q1
theorem pt_not (ha:PT X a tA):PT X (.UnaryOp .Not a pos) (tNot tA):=by intro d s σ H Q I h;exact isTrue_not (ha d s σ H (λ c b=>Q (!c) b) I h)
noncomputable def tAndV (ta tb:TE):TE:=λ σ H Q=>ta σ H λ x H1=>∃c,x=.bl c/\if c=true then tb σ H1 Q else Q (.bl false) H1
noncomputable def tOrV (ta tb:TE):TE:=λ σ H Q=>ta σ H λ x H1=>∃c,x=.bl c/\if c=true then Q (.bl true) H1 else tb σ H1 Q
noncomputable def tNotV (ta:TE):TE:=λ σ H Q=>ta σ H λ x H1=>∃c,x=.bl c/\Q (.bl (!c)) H1
theorem pe_one {op} {t:TE} (h:PE X a t):PE X (.BoolOp op [a] pos) t:=λ c s σ H Q I b=>BoolOp_one (h c s σ H Q I b)
theorem pe_and (ha:PE X a ta) (hb:PE X (.BoolOp .And (b :: rest) pos) tb):PE X (.BoolOp .And (a :: b :: rest) pos) (tAndV ta tb):=by
 intro e s σ H Q I h;refine BoolOp_and (thn (ha e s σ H _ I h) λ v f ⟨x,H1,I1,r1,d⟩=>?_);obtain ⟨c,rfl,d⟩:=d;cases r1;refine F3 ?_;cases c with
 | true=>exact hb e f σ H1 Q I1 d
 | false=>exact ⟨.bl false,H1,I1,rfl,d⟩
theorem pe_or (ha:PE X a ta) (hb:PE X (.BoolOp .Or (b :: rest) pos) tb):PE X (.BoolOp .Or (a :: b :: rest) pos) (tOrV ta tb):=by
 intro e s σ H Q I h;refine BoolOp_or (thn (ha e s σ H _ I h) λ v f ⟨x,H1,I1,r1,d⟩=>?_);obtain ⟨c,rfl,d⟩:=d;cases r1;refine F3 ?_;cases c with
 | false=>exact hb e f σ H1 Q I1 d
 | true=>exact ⟨.bl true,H1,I1,rfl,d⟩
theorem pe_not (ha:PE X a ta):PE X (.UnaryOp .Not a pos) (tNotV ta):=by intro d s σ H Q I h;refine UnaryOp_ (thn (ha d s σ H _ I h) λ v e ⟨x,H1,I1,r1,b⟩=>?_);obtain ⟨c,rfl,b⟩:=b;cases r1;exact not_of (F3 ⟨.bl (!c),H1,I1,rfl,b⟩)
end
def SqL (K:d0) (H:Hp) (a:Addr) (xs:List V):Prop:=
 Rd H a (.lst xs)\/
  ∃(o:Obj) (its:Array Value) (n:Nat),K.lookup a=some o/\o.cls=.type "list"/\o.dict=none/\o.data=.seq its n/\its.size<=sizeLine/\Vals xs its.toList
def SqT (K:d0) (H:Hp) (a:Addr) (xs:List V):Prop:=
 Rd H a (.tup xs)\/
  ∃(o:Obj) (its:Array Value) (n:Nat),K.lookup a=some o/\o.cls=.type "tuple"/\o.data=.seq its n/\its.size<=sizeLine/\Vals xs its.toList
noncomputable def absV:Value->Option V
 | .none=>some .non
 | .bool b=>some (.bl b)
 | .int i _=>some (.int i)
 | .str x _=>some (.str x)
 | .bytes b _=>some (.byt b)
 | .float b _=>some (.flt b)
 | .ref a=>some (.ref a)
 | .type n=>some (.ty n)
 | _=>none
theorem RelV.abs {x:V} {u:Value} (r:RelV x u):absV u=some x:=by
 cases x with
 | non=>cases r;rfl
 | bl _=>cases r;rfl
 | int _=>obtain ⟨t,rfl⟩:=r;rfl
 | str _=>obtain ⟨t,rfl⟩:=r;rfl
 | byt _=>obtain ⟨t,rfl⟩:=r;rfl
 | flt _=>obtain ⟨t,rfl⟩:=r;rfl
 | ref _=>cases r;rfl
 | ty _=>cases r;rfl
theorem RelV.inj {x y:V} {u:Value} (r:RelV x u) (q:RelV y u):x=y:=Y1 (r.abs.symm.trans q.abs)
theorem Vals.inj :∀{xs ys:List V} {us:List Value},Vals xs us->Vals ys us->xs=ys
 | _,_,_,.nil,.nil=>rfl
 | _,_,_,.cons r t,.cons r' t'=>by rw [r.inj r',Vals.inj t t']
section
variable {X:Cx} {pins:List (Addr×Obj)} {σ:St} {H:Hp} {s:C0} {a:Addr} {xs ys:List V}
theorem SqL.of {K:d0} (h:H a=some (.lst xs)):SqL K H a xs:=.inl (.inl h)
theorem SqT.of {K:d0} (h:H a=some (.tup xs)):SqT K H a xs:=.inl (.inl h)
theorem Inv.list (I:Inv X pins σ H s) (h:SqL X.K H a xs) :∃its:List Value,Vals xs its/\PlainL s.heap a its.toArray/\xs.length<=sizeLine:=by
 rcases h with h|⟨o,its,n,hk,hc,hd,hs,hz,r⟩
 ·obtain ⟨z,its,n,r,e⟩:=h.ok I.hok;exact ⟨its,r,⟨_,n,e,rfl,rfl,rfl⟩,z⟩
 ·refine ⟨its.toList,r,⟨o,n,I.kIn a o hk,hc,hd,by simpa using hs⟩,?_⟩;have e:=r.length;simp only [J2] at e
  lia
theorem Inv.tuple (I:Inv X pins σ H s) (h:SqT X.K H a xs) :∃its:List Value,Vals xs its/\IsTup s.heap a its.toArray/\xs.length<=sizeLine:=by
 rcases h with h|⟨o,its,n,hk,hc,hs,hz,r⟩
 ·obtain ⟨z,its,r,p⟩:=h.ok I.hok;exact ⟨its,r,p.1,z⟩
 ·refine ⟨its.toList,r,⟨o,I.kIn a o hk,hc,n,by simpa using hs⟩,?_⟩;have e:=r.length;simp only [J2] at e
  lia
theorem Inv.list_inj (I:Inv X pins σ H s) (h:SqL X.K H a xs) (h':SqL X.K H a ys):xs=ys:=by
 obtain ⟨g,r,⟨o,n,e,_,_,d⟩,_⟩:=I.list h;obtain ⟨i,f,⟨j,k,c,_,_,b⟩,_⟩:=I.list h';rw [e] at c;cases c;rw [d] at b;injection b with d1 _;have:g=i:=by simpa using congrArg Array.toList d1
 subst this;exact r.inj f
theorem Inv.tuple_inj (I:Inv X pins σ H s) (h:SqT X.K H a xs) (h':SqT X.K H a ys):xs=ys:=by
 obtain ⟨g,r,⟨o,e,_,n,d⟩,_⟩:=I.tuple h;obtain ⟨i,f,⟨j,c,_,k,b⟩,_⟩:=I.tuple h';rw [e] at c;cases c;rw [d] at b;injection b with d1 _;have:g=i:=by simpa using congrArg Array.toList d1
 subst this;exact r.inj f
end
noncomputable abbrev Cx.wish (X:Cx) (E:Value->C0->Prop):Cx:={ X with xe:=E }
noncomputable abbrev Cx.nox (X:Cx):Cx:=X.wish λ _ _=>False
theorem Cx.Ok.wish {X:Cx} (ok:X.Ok) (E:Value->C0->Prop):(X.wish E).Ok:=
 ⟨ok.mod,ok.kind,ok.glob,ok.blt,ok.above,ok.inj,ok.has,ok.cab,ok.hd,ok.frames,ok.stk,ok.exf,ok.bs,ok.bsz,ok.noex,ok.exfs,ok.funs,ok.frf⟩
theorem Cx.Ok.unwish {X:Cx} {E:Value->C0->Prop} (ok:(X.wish E).Ok):X.Ok:=
 ⟨ok.mod,ok.kind,ok.glob,ok.blt,ok.above,ok.inj,ok.has,ok.cab,ok.hd,ok.frames,ok.stk,ok.exf,ok.bs,ok.bsz,ok.noex,ok.exfs,ok.funs,ok.frf⟩
section
variable {X:Cx} {pins:List (Addr×Obj)} {σ:St} {H:Hp} {s:C0} {E:Value->C0->Prop}
theorem Inv.wish (I:Inv X pins σ H s) (E:Value->C0->Prop):Inv (X.wish E) pins σ H s:=⟨I.ok.wish E,I.os,I.bare,I.base,I.loc,I.cell,I.free,I.freeC,I.pin,I.hok,I.len⟩
theorem Inv.unwish (I:Inv (X.wish E) pins σ H s):Inv X pins σ H s:=⟨I.ok.unwish,I.os,I.bare,I.base,I.loc,I.cell,I.free,I.freeC,I.pin,I.hok,I.len⟩
theorem SP.unwish {D:Ends} {f:Flow} {s':C0} (h:SP (X.wish E) pins D f s'):SP X pins D f s':=by
 cases f with
 | next=>obtain ⟨a,b,I,q⟩:=h;exact ⟨a,b,I.unwish,q⟩
 | brk=>obtain ⟨a,b,I,q⟩:=h;exact ⟨a,b,I.unwish,q⟩
 | cont=>obtain ⟨a,b,I,q⟩:=h;exact ⟨a,b,I.unwish,q⟩
 | ret u=>obtain ⟨v,a,b,I,r,q⟩:=h;exact ⟨v,a,b,I.unwish,r,q⟩
theorem PSs.nox {st:List Stmt} {t:TS} (h:PSs X.nox st t):PSs X st t:=λ b s σ H D I a=>L3 (h b s σ H D (I.wish _) a) (λ _ _ q=>q.unwish) λ _ _ z=>P3 z
end
section
variable {X:Cx} {st:Stmt} {rest:List Stmt} {t u:TS} {e:Expr} {te:TE} {pos:Pos}
noncomputable def tNext:TS:=λ D σ H=>D.nx σ H
noncomputable def tSeq (t u:TS):TS:=λ D σ H=>t { D with nx:=u D } σ H
theorem z0c:PSs X [] tNext:=λ _ _ σ H _ I h=>d8 ⟨σ,H,I,h⟩
theorem z01 (h1:PS X st t) (h2:PSs X rest u):PSs X (st :: rest) (tSeq t u):=by
 intro a s σ H D I h;refine wpAny_execs_cons (thn (h1 a s σ H { D with nx:=u D } I h) λ f e q=>?_);cases f with
 | next=>obtain ⟨b,d,c,q⟩:=q;exact h2 a e b d D c q
 | ret v=>exact q
 | brk=>exact q
 | cont=>exact q
theorem z03 (h1:PS X st t):PSs X [st] t:=by
 intro a s σ H D I h;refine wpAny_execs_cons (thn (h1 a s σ H D I h) λ f b q=>?_);cases f with
 | next=>exact d8 q
 | ret v=>exact q
 | brk=>exact q
 | cont=>exact q
theorem Inv.quiet {pins:List (Addr×Obj)} {σ:St} {H:Hp} {s:C0} (I:Inv X pins σ H s):interactive X.env=false:=by simp [interactive,I.ok.kind]
noncomputable def tDrop (te:TE):TS:=λ D σ H=>te σ H λ _ H1=>D.nx σ H1
theorem z1n (he:PE X e te) (hs:R6 e none pos.line X.env=N3 false:=by rfl):PS X (.Expr e pos) (tDrop te):=by intro a s σ H D I h;exact wpAny_Expr_any (thn (he a s σ H _ I h) λ v b ⟨x,H1,I1,r1,q1⟩=>⟨σ,H1,I1,q1⟩) I.quiet hs
noncomputable def tRet (te:TE):TS:=λ D σ H=>te σ H D.rt
theorem ps_ret (he:PE X e te):PS X (.Return (some e) pos) (tRet te):=by intro a s σ H D I h;exact wpAny_Return_some (thn (he a s σ H _ I h) λ v b ⟨x,H1,I1,r1,q1⟩=>⟨x,σ,H1,I1,r1,q1⟩)
noncomputable def tIfS (c:TT) (t u:TS):TS:=λ D σ H=>c σ H λ b H1=>if b=true then t D σ H1 else u D σ H1
theorem ps_if {c:Expr} {a b:List Stmt} {tc:TT} (hc:PT X c tc) (ha:PSs X a t) (hb:PSs X b u):PS X (.If c a b pos) (tIfS tc t u):=by
 intro e s σ H D I h;refine wpAny_If (thn (hc e s σ H _ I h) λ d f ⟨H1,I1,q1⟩=>?_);cases d with
 | true=>exact ha e f σ H1 D I1 q1
 | false=>exact hb e f σ H1 D I1 q1
noncomputable def tNever:TS:=λ _ _ _=>False
theorem z58:PS X st tNever:=λ _ _ _ _ _ _ h=>h.elim
end
noncomputable abbrev TG:=V->St->Hp->(St->Hp->Prop)->Prop
noncomputable abbrev TGs:=List V->St->Hp->(St->Hp->Prop)->Prop
def PG (X:Cx) (target:Expr) (t:TG):Prop:=
 ∀(pins:List (Addr×Obj)) (s:C0) (σ:St) (H:Hp) (v:V) (u:Value) (Q:St->Hp->Prop),Inv X pins σ H s->RelV v u->t v σ H Q->
  W0 (D1 X.prog X.w) X.A (assign target X.env u) (λ _ s'=>∃σ' H',Inv X pins σ' H' s'/\Q σ' H') X.xe s
def PGs (X:Cx) (ts:List Expr) (t:TGs):Prop:=
 ∀(pins:List (Addr×Obj)) (s:C0) (σ:St) (H:Hp) (vs:List V) (us:List Value) (Q:St->Hp->Prop),Inv X pins σ H s->Vals vs us->t vs σ H Q->
  W0 (D1 X.prog X.w) X.A (assignInOrder ((b8 ts X.env).map (·.2)) us) (λ _ s'=>∃σ' H',Inv X pins σ' H' s'/\Q σ' H') X.xe s
noncomputable abbrev TSet:=V->V->V->Hp->(Hp->Prop)->Prop
def PSet (X:Cx) (t:TSet):Prop:=
 ∀(pins:List (Addr×Obj)) (s:C0) (σ:St) (H:Hp) (o i v:V) (ov iv u:Value) (Q:Hp->Prop),Inv X pins σ H s->RelV o ov->RelV i iv->RelV v u->t o i v H Q->
  W0 (D1 X.prog X.w) X.A (setItem ov iv u) (λ _ s'=>∃H',Inv X pins σ H' s'/\Q H') X.xe s
section
variable {X:Cx} {pos:Pos}
noncomputable def gName (i:Nat):TG:=λ v σ H Q=>Q (σ.set i (some v)) H
theorem z0d {i:Nat} {x:Str} (hN:X.N.Nodup) (hi:X.N[i]? = some x) (hx:Loc X.env.scope x) (hf:X.fn x=true\/X.env.scope.names.lookup x=some .local:=by first|exact .inl rfl|exact .inr rfl|assumption):PG X (.Name x pos) (gName i):=by intro c s σ H v u Q I r h;exact wpAny_assign_Name (ze6 I hN hi hx r (λ b a=>⟨_,H,a,h⟩) hf)
noncomputable def gNil:TGs:=λ vs σ H Q=>vs=[]/\Q σ H
noncomputable def gCons (t:TG) (u:TGs):TGs:=λ vs σ H Q=>∃v r,vs=v :: r/\t v σ H λ σ' H'=>u r σ' H' Q
theorem z0p:PGs X [] gNil:=by intro b s σ H a us Q I r h;obtain ⟨e,h⟩:=h;subst e;cases r;exact assignInOrder_nil ⟨σ,H,I,h⟩
theorem z08 {e:Expr} {es:List Expr} {t:TG} {u:TGs} (h1:PG X e t) (h2:PGs X es u)
  (hs:(b8 (e :: es) X.env).map (·.2)=assign e X.env :: (b8 es X.env).map (·.2):=by rfl):PGs X (e :: es) (gCons t u):=by
 intro a s σ H d us Q I r h;obtain ⟨v,f,b,h⟩:=h;subst b;cases r with
 | cons r rr=>rw [hs];refine assignInOrder_cons (thn (h1 a s σ H _ _ _ I r h) λ _ c ⟨σ1,H1,I1,q1⟩=>?_);exact h2 a c σ1 H1 _ _ Q I1 rr q1
noncomputable def gTup (K:d0) (n:Nat) (t:TGs):TG:=λ v σ H Q=>∃a xs,v=.ref a/\SqT K H a xs/\xs.length=n/\t xs σ H Q
theorem pg_tup {es:List Expr} {k:Nat} {t:TGs} {n:Nat} (hc:X.calm=true) (h:PGs X es t)
  (hn:(b8 es X.env).length=n:=by rfl) (hst:(b8 es X.env).findIdx? (·.1)=none:=by rfl):PG X (.Tuple es k pos) (gTup X.K n t):=by
 intro f s σ H v u Q I r c;obtain ⟨a,i,w,j,l,c⟩:=c;subst w;cases r;obtain ⟨x,d,g,y⟩:=I.tuple j;refine assign_Tuple_tuple (I.ok.hd hc) g (by simp [hn,<-l,d.length]) hst λ q p=>?_;have m:Inv X f σ H { s with heap:=q }:=I.kept (t':=s.toks) λ b o e=>p b o (B1 (T0 e)) e;exact h f _ σ H i _ Q m (by simpa using d) c
noncomputable def gSub (to ti:TE) (t:TSet):TG:=λ v σ H Q=>to σ H λ o H1=>ti σ H1 λ i H2=>t o i v H2 λ H3=>Q σ H3
theorem pg_sub {o i:Expr} {to ti:TE} {t:TSet} (ho:PE X o to) (hi:PE X i ti) (hs:PSet X t)
  (ha :∀v,assign (.Subscript o i pos) X.env v=(do
   let ov <-W8 [v] (v3 o X.env)
   let iv <-W8 [v,ov] (v3 i X.env)
   W9 pos
   W8 [v,ov,iv] (setItem ov iv v)
   release [v,ov,iv] []):=by intro _;rfl):PG X (.Subscript o i pos) (gSub to ti t):=by
 intro a s σ H v u Q I r h;rw [ha];refine v0 (T3 (thn (ho a s σ H _ I h) λ ov c ⟨x,H1,I1,r1,q1⟩=>?_));refine v0 (T3 (thn (hi a c σ H1 _ I1 q1) λ iv b ⟨y,H2,I2,r2,q2⟩=>?_));refine v0 (wpAny_standAt (v0 (T3 (thn (hs a b σ H2 x y v ov iv u _ I2 r1 r2 r q2) λ _ d ⟨H3,I3,q3⟩=>?_))));exact wpAny_release ⟨σ,H3,I3,q3⟩
noncomputable def tAsg (te:TE) (g:TG):TS:=λ D σ H=>te σ H λ x H1=>g x σ H1 D.nx
theorem ps_asg {tg e:Expr} {te:TE} {g:TG} (he:PE X e te) (hg:PG X tg g) (hs:swapsWithSole [tg] e pos.line X.env=N3 false:=by rfl) (hw:swappedStores [tg] e X.env=N3 none:=by rfl)
  (h1:(b8 [tg] X.env).map (·.2)=[assign tg X.env]:=by rfl):PS X (.Assign [tg] e pos) (tAsg te g):=by
 intro a s σ H D I h;refine wpAny_Assign_stores (thn (he a s σ H _ I h) λ v b ⟨x,H1,I1,r1,q1⟩=>?_) hs hw;rw [h1];exact thn (hg a b σ H1 x v _ I1 r1 q1) λ _ c q=>q
theorem ps_set {i:Nat} {x:Str} {e:Expr} {te:TE} {pos':Pos} (hN:X.N.Nodup) (hi:X.N[i]? = some x) (hx:Loc X.env.scope x) (he:PE X e te) (hs:R6 e (some (.Name x pos')) pos.line X.env=N3 false:=by rfl) (hf:X.fn x=true\/X.env.scope.names.lookup x=some .local:=by first|exact .inl rfl|exact .inr rfl|assumption) :
  PS X (.Assign [.Name x pos'] e pos) (tAsg te (gName i)):=by
 intro b s σ H D I h;refine wpAny_Assign_Name (thn (he b s σ H _ I h) λ v d ⟨y,H1,I1,r1,q1⟩=>?_) hs;exact ze6 I1 hN hi hx r1 (λ c a=>⟨_,H1,a,q1⟩) hf
noncomputable def tWhile (c:TT) (tb:TS):TS:=λ D σ H=>∃W:Nat->St->Hp->Prop,(∃m,W m σ H)/\∀m σ H,W m σ H->
 c σ H λ b H1=>if b=true then∃N:St->Hp->Prop,(∀σ' H',N σ' H'->∃m',m' < m/\W m' σ' H')/\tb { D with nx:=N,ct:=N,bk:=D.nx } σ H1 else D.nx σ H1
theorem zet {c:Expr} {body:List Stmt} {tc:TT} {tb:TS} (hp:PassesOwn (D1 X.prog X.w) X.A X.env X.xe) (hc:PT X c tc) (hb:PSs X body tb):PS X (.While c body [] pos) (tWhile tc tb):=by
 intro i s σ H D I h;obtain ⟨W,⟨q,t⟩,u⟩:=h;refine wpAny_While (codeAny_whileLoop (λ n x=>∃σ' H',Inv X i σ' H' x/\W n σ' H') ?_ q ⟨σ,H,I,t⟩);rintro n y ⟨σ1,H1,I1,w1⟩;refine U4 hp (thn (hc i y σ1 H1 _ I1 (u n σ1 H1 w1)) λ b r ⟨H2,I2,g⟩=>?_);cases b with
 | true=>
  obtain ⟨N,p,g⟩:=g;rw [if_pos rfl];refine U4 hp (thn (hb i r σ1 H2 _ I2 g) λ f z e=>?_);cases f with
  | next=>obtain ⟨d,a,l,o⟩:=e;obtain ⟨j,m,k⟩:=p d a o;exact ⟨j,m,d,a,l,k⟩
  | cont=>obtain ⟨d,a,l,o⟩:=e;obtain ⟨j,m,k⟩:=p d a o;exact ⟨j,m,d,a,l,k⟩
  | brk=>exact e
  | ret v=>exact e
 | false=>rw [if_neg A1];exact d8 ⟨σ1,H2,I2,g⟩
end
structure It where
 go:Nat->Hp->Prop
 yld:Nat->Hp->V->Hp->Prop
 stop:Nat->Hp->Prop
def FpOk (X:Cx) (pins:List (Addr×Obj)) (H:Hp) (b:Addr):Prop:=
 H b=none/\b≠X.env.locals/\b∉X.fs/\(b∈X.ex\/X.s₀.heap.objs.size<=b)/\(∀x c,X.env.cells.lookup x=some c->c≠b)/\∀p∈X.pn++pins,p.1≠b
theorem Inv.fpOk {X:Cx} {pins:List (Addr×Obj)} {σ:St} {H H':Hp} {s:C0} {b:Addr} (I:Inv X pins σ H s) (hb:s.heap.objs.size<=b) (hn:H' b=none):FpOk X pins H' b:=by
 refine ⟨hn,J3 (P1 I.lt hb),I.nofs hb,.inr (F0 I.sz hb),λ x c e z=>?_,λ p a z=>?_⟩
 ·obtain ⟨v,q⟩:=I.cell x c e;exact absurd (P1 q.lt (by rw [z];exact hb)) (G4 _)
 ·exact absurd (P1 (T0 (I.pin p a).1) (by rw [z];exact hb)) (G4 _)
structure Turn (P:Program) (w:S0) (K:d0) (tg:Expr) (J:It) (fp:List Addr) (it:Addr) (tn:Nat->Heap->Prop):Prop where
 mem:it∈fp
 obj :∀i h,tn i h->∀b∈fp,∃o,h.get? b=some o/\∀v,o.data≠.cell v
 keep :∀i h h',tn i h->(∀b∈fp,∀o,h.get? b=some o->h'.get? b=some o)->tn i h'
 item :∀(X:Cx),X.prog=P->X.w=w->X.K=K->X.calm=true->∀(i:Nat) (pins:List (Addr×Obj)) (s:C0) (σ:St) (H:Hp) (E:Value->C0->Prop),Inv X pins σ H s->(∀b∈fp,FpOk X pins H b)->tn i s.heap->J.go i H->
  W0 (D1 P w) X.A (A9 (.ref it)) (λ r s1=>∃u,r=some u/\
   W0 (D1 P w) X.A (i8 tg (.ref it) u) (λ _ s2=>∃x H',Inv X pins σ H' s2/\RelV x u/\J.yld i H x H'/\tn (i + 1) s2.heap/\∀b∈fp,H' b=none) E s1) E s
 done :∀(X:Cx),X.prog=P->X.w=w->X.K=K->X.calm=true->∀(i:Nat) (pins:List (Addr×Obj)) (s:C0) (σ:St) (H:Hp) (E:Value->C0->Prop),Inv X pins σ H s->(∀b∈fp,FpOk X pins H b)->tn i s.heap->J.stop i H->
  W0 (D1 P w) X.A (A9 (.ref it)) (λ r s1=>r=none/\Inv X pins σ H s1) E s
 self :∀(A:A2) (i:Nat) (s:C0) (Q:Value->C0->Prop) (E:Value->C0->Prop),tn i s.heap->Q (.ref it) s->W0 (D1 P w) A (pyIter (.ref it)) Q E s
noncomputable abbrev TI:=St->Hp->(It->Hp->Prop)->Prop
def PIE (X:Cx) (pins:List (Addr×Obj)) (σ:St) (tg:Expr) (R:It->Hp->Prop) (itv:Value) (s2:C0):Prop:=
 ∃(it:Addr) (fp:List Addr) (tn:Nat->Heap->Prop) (J:It) (H':Hp),itv=.ref it/\Inv X pins σ H' s2/\Turn X.prog X.w X.K tg J fp it tn/\tn 0 s2.heap/\(∀b∈fp,FpOk X pins H' b)/\R J H'
def PI (X:Cx) (tg iter:Expr) (wi:TI):Prop:=
 ∀(pins:List (Addr×Obj)) (s:C0) (σ:St) (H:Hp) (R:It->Hp->Prop),Inv X pins σ H s->wi σ H R->
  W0 (D1 X.prog X.w) X.A (v3 iter X.env) (λ v s1=>W0 (D1 X.prog X.w) X.A (pyIter v) (PIE X pins σ tg R) X.xe s1) X.xe s
theorem go_of {M:Model} {A:A2} {E:Value->C0->Prop} {s:C0} {tg:Expr} {it:Addr} {u:Value} {o:Obj} {n:String} {vs:Array Value} {Q:Unit->C0->Prop} (ho:s.heap.get? it=some o) (hc:o.cls=.type n) (hd:o.data=.fields vs)
    (hn:["enumerate","zip","dict_itemiterator","dict_reverseitemiterator","odict_iterator","itertools.zip_longest","itertools.pairwise"].contains n=false) (hQ:Q () s):W0 M A (i8 tg (.ref it) u) Q E s:=by
  unfold i8;cases tg<;>first
    | exact K0 hQ
    | (cases u<;>first
        | exact K0 hQ
        | (refine v0 (wpAny_load ho ?_)
           rw [hc,hd];show W0 M A (if (["enumerate","zip","dict_itemiterator","dict_reverseitemiterator","odict_iterator","itertools.zip_longest","itertools.pairwise"].contains n && vs[0]? == some (rawInt _))=true then _ else _) Q E s;rw [if_neg (by intro h;rw [hn,Bool.false_and] at h;cases h)];exact K0 hQ))
noncomputable def Itl (K:d0) (a:Addr):It:=
 ⟨λ i H=>∃xs x,SqL K H a xs/\xs[i]? = some x,λ i H x H'=>H'=H/\∀xs,SqL K H a xs->xs[i]? = some x,λ i H=>∃xs,SqL K H a xs/\xs.length<=i⟩
noncomputable def Itt (K:d0) (a:Addr):It:=
 ⟨λ i H=>∃xs x,SqT K H a xs/\xs[i]? = some x,λ i H x H'=>H'=H/\∀xs,SqT K H a xs->xs[i]? = some x,λ i H=>∃xs,SqT K H a xs/\xs.length<=i⟩
noncomputable def Itr (lo:Int) (n:Nat):It:=⟨λ i _=>i < n,λ i H x H'=>H'=H/\x=.int (lo + i),λ i _=>n<=i⟩
theorem zf4 {P:Program} {w:S0} {K:d0} {tg:Expr} (a it:Addr):Turn P w K tg (Itl K a) [it] it (λ i h=>h.IsListIter it a i) where
 mem:=by simp
 obj:=λ i h f b g=>by
  have e:b=it:=by simpa using g
  subst e;obtain ⟨o,e,c,d⟩:=f;exact ⟨o,e,λ v z=>by rw [d] at z;cases z⟩
 keep:=λ i h m f k=>f.at λ o e=>k it (by simp) o e
 item:=by intro X B D n J i L s σ H E I j f C;subst B D n;obtain ⟨O,x,l,y⟩:=C;obtain ⟨T,q,p,W⟩:=I.list l;obtain ⟨u,U,V⟩:=q.get y;obtain ⟨F,A,S,t,G,r⟩:=j it (by simp);refine Q5 f p.isList (x:=u) (by simpa using U) λ m M R=>?_;have Q:Inv X L σ H { s with heap:=m }:=I.turned (t':=s.toks) (λ b o g e=>(R.2 b g).trans e) F A t G r;obtain ⟨o,e,c,d⟩:=id M;exact ⟨u,rfl,go_of (s:={ s with heap:=m }) e c d (by decide) ⟨x,H,Q,V,⟨rfl,λ Y N=>by rw [I.list_inj N l];exact y⟩,M,λ b g=>(j b g).1⟩⟩
 done:=by intro X B D n J i L s σ H E I j f C;subst B D n;obtain ⟨O,l,y⟩:=C;obtain ⟨T,q,p,W⟩:=I.list l;obtain ⟨F,A,S,t,G,r⟩:=j it (by simp);have Z:=q.length;exact n8 (I.ok.hd J) f p.isList (by simp;lia) λ m eb=>⟨rfl,I.turned (t':=s.toks) (λ b o g e=>eb b o g e) F A t G r⟩
 self:=λ _ _ _ _ _ f h=>wpAny_pyIter_listiter f h
theorem zf0 {P:Program} {w:S0} {K:d0} {tg:Expr} (a it:Addr):Turn P w K tg (Itt K a) [it] it (λ i h=>h.IsTupleIter it a i) where
 mem:=by simp
 obj:=λ i h f b g=>by
  have e:b=it:=by simpa using g
  subst e;obtain ⟨o,e,c,d⟩:=f;exact ⟨o,e,λ v z=>by rw [d] at z;cases z⟩
 keep:=λ i h m f k=>f.at λ o e=>k it (by simp) o e
 item:=by intro X B F n L i M s σ H E I j f D;subst B F n;obtain ⟨Q,x,l,y⟩:=D;obtain ⟨C,q,p,W⟩:=I.tuple l;obtain ⟨u,U,V⟩:=q.get y;obtain ⟨G,A,T,t,J,r⟩:=j it (by simp);refine wpAny_pyNext_tuple_item f (show s.heap.IsTuple a C.toArray from p) (x:=u) (by simpa using U) λ m N S=>?_;have R:Inv X M σ H { s with heap:=m }:=I.turned (t':=s.toks) (λ b o g e=>(S.2 b g).trans e) G A t J r;obtain ⟨o,e,c,d⟩:=id N;exact ⟨u,rfl,go_of (s:={ s with heap:=m }) e c d (by decide) ⟨x,H,R,V,⟨rfl,λ Y O=>by rw [I.tuple_inj O l];exact y⟩,N,λ b g=>(j b g).1⟩⟩
 done:=by intro X B F n L i M s σ H E I j f D;subst B F n;obtain ⟨Q,l,y⟩:=D;obtain ⟨C,q,p,W⟩:=I.tuple l;obtain ⟨G,A,T,t,J,r⟩:=j it (by simp);have Z:=q.length;exact wpAny_pyNext_tuple_end (I.ok.hd L) f (show s.heap.IsTuple a C.toArray from p) (by simp;lia) λ m eb=>⟨rfl,I.turned (t':=s.toks) (λ b o g e=>eb b o g e) G A t J r⟩
 self:=λ _ _ _ _ _ f h=>wpAny_pyIter_tupleiter f h
theorem ze9 {P:Program} {w:S0} {K:d0} {tg:Expr} (it:Addr) (lo:Int) (n:Nat):Turn P w K tg (Itr lo n) [it] it (λ i h=>IsRangeIter h it (lo + (i:Nat) * 1) ((n:Int) - (i:Nat)) 1) where
 mem:=by simp
 obj:=λ i h a b c=>by
  have e:b=it:=by simpa using c
  subst e;exact ⟨_,a,λ v z=>by have D:j0i _=Data.cell v:=z;cases D⟩
 keep:=λ i h f a k=>k it (by simp) _ a
 item:=by intro X q u j g i A s σ H E I d a r;subst q u j;obtain ⟨x,p,J,m,y,l⟩:=d it (by simp);have W:=Walks.range (prog:=X.prog) (w:=X.w) (I.ok.hd g) it lo 1 n;refine W.item i s _ _ r a λ v f B F C L=>?_;obtain ⟨t,rfl⟩:=F;have G:Inv X A σ H { s with heap:=f,toks:=B }:=I.turned (λ b o c e=>L b o (by simpa using c) e) x p m y l;refine ⟨_,rfl,go_of (s:={ s with heap:=f,toks:=B }) (n:="range_iterator") C rfl rfl (by decide) ⟨.int (lo + i),H,G,⟨t,?_⟩,⟨rfl,rfl⟩,C,λ b c=>(d b c).1⟩⟩;rw [Int.mul_one]
 done:=by intro X q u j g i A s σ H E I d a r;subst q u j;obtain ⟨x,p,J,m,y,l⟩:=d it (by simp);exact wpAny_pyNext_range_end (I.ok.hd g) a (by have:n<=i:=r;lia) λ f eb=>⟨rfl,I.turned (t':=s.toks) (λ b o c e=>eb b o c e) x p m y l⟩
 self:=λ _ _ _ _ _ a h=>wpAny_pyIter_rangeiter a h
section
variable {X:Cx} {tg:Expr}
noncomputable def iList (K:d0) (tl:TE):TI:=λ σ H R=>tl σ H λ x H1=>∃a,x=.ref a/\(∃xs,SqL K H1 a xs)/\R (Itl K a) H1
noncomputable def iTup (K:d0) (tl:TE):TI:=λ σ H R=>tl σ H λ x H1=>∃a,x=.ref a/\(∃xs,SqT K H1 a xs)/\R (Itt K a) H1
theorem z0v {l:Expr} {tl:TE} (hl:PE X l tl):PI X tg l (iList X.K tl):=by
 intro f s σ H R I h;refine thn (hl f s σ H _ I h) λ v c ⟨x,H1,I1,r1,q1⟩=>?_;obtain ⟨a,e,⟨j,g⟩,q⟩:=q1;subst e;cases r1;obtain ⟨k,i,p,m⟩:=I1.list g;refine o7 p.isList ?_;refine ⟨c.heap.objs.size,[c.heap.objs.size],_,_,H1,rfl,I1.kept (t':=c.toks) λ b o e=>G0 _ e,zf4 a _,⟨_,Z0 _ rfl,rfl,rfl⟩,λ b d=>?_,q⟩;have e:b=c.heap.objs.size:=by simpa using d
 subst e;exact I1.fpOk (B0 _) (I1.hok.fresh (B0 _))
theorem pi_tup {l:Expr} {tl:TE} (hl:PE X l tl):PI X tg l (iTup X.K tl):=by
 intro f s σ H R I h;refine thn (hl f s σ H _ I h) λ v c ⟨x,H1,I1,r1,q1⟩=>?_;obtain ⟨a,e,⟨k,g⟩,q⟩:=q1;subst e;cases r1;obtain ⟨i,j,p,m⟩:=I1.tuple g;refine K5 (show c.heap.IsTuple a i.toArray from p) ?_;refine ⟨c.heap.objs.size,[c.heap.objs.size],_,_,H1,rfl,I1.kept (t':=c.toks) λ b o e=>G0 _ e,zf0 a _,⟨_,Z0 _ rfl,rfl,rfl⟩,λ b d=>?_,q⟩;have e:b=c.heap.objs.size:=by simpa using d
 subst e;exact I1.fpOk (B0 _) (I1.hok.fresh (B0 _))
theorem zew {pins:List (Addr×Obj)} {σ:St} {H:Hp} {s:C0} {R:It->Hp->Prop} {E:Value->C0->Prop} {lo hi:Int} {t u v:Tok} {tk:Nat} (I:Inv X pins σ H s) (h1:-(2 ^ 62)<=lo) (h2:lo < 2 ^ 62) (h3:-(2 ^ 62)<=hi) (h4:hi < 2 ^ 62)
  (q:R (Itr lo (hi - lo).toNat) H):W0 (D1 X.prog X.w) X.A (pyIter (.ref s.heap.objs.size)) (PIE X pins σ tg R) E { s with heap:=s.heap.push { cls:=.type "range",data:=.fields #[.int lo t,.int hi u,.int 1 v] },toks:=tk }:=by
 refine wpAny_pyIter_range (IsRange.new ..) (small_one h1 h2 h3 h4) ?_;have a:Inv X pins σ H { s with heap:=s.heap.push { cls:=.type "range",data:=.fields #[.int lo t,.int hi u,.int 1 v] },toks:=tk }:=I.kept λ b o e=>G0 _ e;refine ⟨(s.heap.push { cls:=.type "range",data:=.fields #[.int lo t,.int hi u,.int 1 v] }).objs.size,[(s.heap.push { cls:=.type "range",data:=.fields #[.int lo t,.int hi u,.int 1 v] }).objs.size],_,_,H,rfl,
  a.kept (t':=tk) λ b o e=>G0 _ e,ze9 _ lo (hi - lo).toNat,?_,λ b f=>?_,q⟩
 ·have c:lo + ((0:Nat):Int) * 1=lo:=by simp
  have d:(((hi - lo).toNat:Nat):Int) - ((0:Nat):Int)=Builtin.Range.rangeSize lo hi 1:=by rw [rangeSize_one];split<;>lia
  show IsRangeIter _ _ (lo + ((0:Nat):Int) * 1) ((((hi - lo).toNat:Nat):Int) - ((0:Nat):Int)) 1;rw [c,d];exact Z0 _ rfl
 ·have e:b=(s.heap.push { cls:=.type "range",data:=.fields #[.int lo t,.int hi u,.int 1 v] }).objs.size:=by simpa using f
  subst e;exact a.fpOk (B0 _) (a.hok.fresh (B0 _))
noncomputable def iRng1 (ta:TA):TI:=λ σ H R=>ta σ H λ vs H1=>∃j:Int,vs=[.int j]/\-(2 ^ 62)<=j/\j < 2 ^ 62/\R (Itr 0 j.toNat) H1
noncomputable def iRng2 (ta:TA):TI:=λ σ H R=>ta σ H λ vs H1=>∃i j:Int,vs=[.int i,.int j]/\(-(2 ^ 62)<=i/\i < 2 ^ 62/\-(2 ^ 62)<=j/\j < 2 ^ 62)/\R (Itr i (j - i).toNat) H1
theorem z7a {a:Expr} {ta:TA} {p pos:Pos} (hg:Gl X "range") (hm:X.mg "range" = none) (ha:PA X [a] ta) (hs:L1 [a] X.env=[(false,v3 a X.env)]:=by rfl):PI X tg (.Call (.Name "range" p) [a] [] pos) (iRng1 ta):=by
 intro c s σ H R I h;refine Call_ (ld_blt I hg hm boot_range (P2 (thn (ha pos c s σ H _ I h) λ us f ⟨vs,H1,I1,r1,b⟩=>?_) hs rfl));obtain ⟨j,e,b,d,q⟩:=b;subst e;cases r1 with
 | cons r rr=>cases rr;obtain ⟨t,rfl⟩:=r;exact call_range_1 (zew I1 (by lia) (by lia) b d (by simpa using q))
theorem zg5 {a b:Expr} {ta:TA} {p pos:Pos} (hg:Gl X "range") (hm:X.mg "range" = none) (ha:PA X [a,b] ta) (hs:L1 [a,b] X.env=[(false,v3 a X.env),(false,v3 b X.env)]:=by rfl) (hs2:L1 [b] X.env=[(false,v3 b X.env)]:=by rfl) :
  PI X tg (.Call (.Name "range" p) [a,b] [] pos) (iRng2 ta):=by
 intro k s σ H R I h;refine Call_ (ld_blt I hg hm boot_range (P2 (thn (ha pos k s σ H _ I h) λ us m ⟨vs,H1,I1,r1,c⟩=>?_) (by rw [hs,hs2]) (by rw [hs2];rfl)));obtain ⟨i,j,e,⟨c,g,d,f⟩,q⟩:=c;subst e;cases r1 with
 | cons r rr=>
  cases rr with
  | cons r' rr=>cases rr;obtain ⟨t,rfl⟩:=r;obtain ⟨l,rfl⟩:=r';exact call_range_2 (zew I1 c g d f q)
noncomputable def tFor (wi:TI) (g:TG) (tb:TS):TS:=λ D σ H=>wi σ H λ J H1=>∃W:Nat->Nat->St->Hp->Prop,(∃m,W 0 m σ H1)/\∀i m σ H,W i m σ H->
 (J.stop i H/\D.nx σ H)\/(J.go i H/\∃N:St->Hp->Prop,(∀σ' H',N σ' H'->∃m',m' < m/\W (i + 1) m' σ' H')/\∀x H',J.yld i H x H'->g x σ H' λ σ2 H2=>tb { D with nx:=N,ct:=N,bk:=D.nx } σ2 H2)
noncomputable def pinsAt (fp:List Addr) (h:Heap):List (Addr×Obj):=fp.filterMap λ b=>(h.get? b).map λ o=>(b,o)
theorem z3j {fp:List Addr} {h:Heap} {b:Addr} {o:Obj} (hb:b∈fp) (e:h.get? b=some o):(b,o)∈pinsAt fp h:=List.mem_filterMap.mpr ⟨b,hb,by rw [e];rfl⟩
theorem zbb {fp:List Addr} {h:Heap} {p:Addr×Obj} (hp:p∈pinsAt fp h):p.1∈fp/\h.get? p.1=some p.2:=by
 obtain ⟨b,c,e⟩:=List.mem_filterMap.mp hp;cases q:h.get? b with
 | none=>rw [q] at e;cases e
 | some o=>rw [q] at e;have a:(b,o)=p:=Y1 e;subst a;exact ⟨c,q⟩
theorem Inv.pinned {pins:List (Addr×Obj)} {σ:St} {H:Hp} {s:C0} {fp:List Addr} (I:Inv X pins σ H s) (hf :∀b∈fp,FpOk X pins H b) (ho :∀b∈fp,∃o,s.heap.get? b=some o/\∀v,o.data≠.cell v):Inv X (pins++pinsAt fp s.heap) σ H s:=
 I.pins_of λ p i=>(List.mem_append.mp i).elim (λ z=>I.pin p (G1 _ z)) λ z=>by obtain ⟨c,e⟩:=zbb z;obtain ⟨f,g,h,_⟩:=hf p.1 c;obtain ⟨o,a,d⟩:=ho p.1 c;rw [e] at a;cases a;exact ⟨e,f,g,h,d⟩
theorem Inv.unpinned {pins pl:List (Addr×Obj)} {σ:St} {H:Hp} {s:C0} (I:Inv X (pins++pl) σ H s):Inv X pins σ H s:=I.pins_of λ p a=>I.pin p (G1 _ (Z5 _ a))
theorem ps_for {iter:Expr} {body:List Stmt} {wi:TI} {g:TG} {tb:TS} {pos:Pos} (hp:PassesOwn (D1 X.prog X.w) X.A X.env X.xe) (hc:X.calm=true) (hi:PI X tg iter wi) (hg:PG X tg g) (hb:PSs X body tb)
  (hs :∀x,T5 iter X.env x=N3 x:=by intro _;rfl):PS X (.For tg iter body [] pos) (tFor wi g tb):=by
 intro l s σ H D I h;refine wpAny_For (thn (hi l s σ H _ I h) λ v s1 h1=>thn h1 λ a0 s2 U=>?_) hs;obtain ⟨it,p,B,J,V,e,I2,T,M,z,W,⟨K,Q⟩,R⟩:=U;subst e
 -- what stays true of the iterator's objects through the loop
 have t :∀{H':Hp},(∀b∈p,H' b=none)->∀b∈p,FpOk X l H' b:=λ hn b hb=>⟨hn b hb,(z b hb).2⟩
 refine codeAny_forLoop_any (λ n F=>∃i σ' H',Inv X l σ' H' F/\B i F.heap/\(∀b∈p,H' b=none)/\W i n σ' H') ?_ K ⟨0,σ,V,I2,M,λ b hb=>(z b hb).1,Q⟩;rintro n G ⟨i,σ3,H3,I3,st3,fr3,w3⟩;rcases R i n σ3 H3 w3 with ⟨Y,L⟩|⟨go,N,hN,step⟩
 ·refine U4 hp (thn (T.done X rfl rfl rfl hc i l G σ3 H3 X.xe I3 (t fr3) st3 Y) λ r S ⟨hr,I4⟩=>?_);subst hr;exact d8 ⟨σ3,H3,I4,L⟩
 ·refine U4 hp (thn (T.item X rfl rfl rfl hc i l G σ3 H3 X.xe I3 (t fr3) st3 go) λ r S ⟨u,hr,h4⟩=>?_);subst hr;refine U4 hp (thn h4 λ _ C ⟨x,H5,I5,r5,y5,st5,fr5⟩=>?_);have Z:=I5.pinned (t fr5) (T.obj _ _ st5);refine U4 hp (thn (hg _ C σ3 H5 x u _ Z r5 (step x H5 y5)) λ _ s6 ⟨σ6,H6,I6,q6⟩=>?_);refine U4 hp (thn (hb _ s6 σ6 H6 _ I6 q6) λ f y k=>?_);have E :∀{j:St} {c:Hp},Inv X (l++pinsAt p C.heap) j c y->N j c->∃m,m < n/\∃i σ' H',Inv X l σ' H' y/\B i y.heap/\(∀b∈p,H' b=none)/\W i m σ' H':=λ {j c} a q=>by obtain ⟨O,hm,w7⟩:=hN j c q;refine ⟨O,hm,i + 1,j,c,a.unpinned,T.keep _ _ _ st5 λ b hb o e=>(a.pin (b,o) (G1 _ (G1 _ (z3j hb e)))).1,λ b hb=>?_,w7⟩;obtain ⟨o,e,d⟩:=T.obj _ _ st5 b hb;exact (a.pin (b,o) (G1 _ (G1 _ (z3j hb e)))).2.1
  cases f with
  | next=>obtain ⟨j,c,a,q⟩:=k;exact E a q
  | cont=>obtain ⟨j,c,a,q⟩:=k;exact E a q
  | brk=>obtain ⟨j,c,a,k⟩:=k;exact ⟨j,c,a.unpinned,k⟩
  | ret v=>obtain ⟨x7,j,c,a,P,k⟩:=k;exact ⟨x7,j,c,a.unpinned,P,k⟩
end
theorem z1o {K:d0} {a:Addr} {xs:List V} {g:TG} {tb:TS} {D:Ends} {σ:St} {H:Hp} (Pv:Nat->St->Hp->Prop) (h0:Pv 0 σ H) (hl :∀i σ H,i<=xs.length->Pv i σ H->SqL K H a xs)
  (hs :∀i x σ H,xs[i]? = some x->Pv i σ H->g x σ H λ σ2 H2=>tb { D with nx:=Pv (i + 1),ct:=Pv (i + 1),bk:=D.nx } σ2 H2) (hd :∀σ H,Pv xs.length σ H->D.nx σ H) :
  ∃W:Nat->Nat->St->Hp->Prop,(∃m,W 0 m σ H)/\∀i m σ H,W i m σ H->
   ((Itl K a).stop i H/\D.nx σ H)\/((Itl K a).go i H/\∃N:St->Hp->Prop,(∀σ' H',N σ' H'->∃m',m' < m/\W (i + 1) m' σ' H')/\∀x H',(Itl K a).yld i H x H'->g x σ H' λ σ2 H2=>tb { D with nx:=N,ct:=N,bk:=D.nx } σ2 H2):=by
 refine ⟨λ i m σ H=>m=xs.length - i/\i<=xs.length/\Pv i σ H,⟨xs.length,by simp,B2 _,h0⟩,?_⟩;rintro i m σ H ⟨rfl,hi,p⟩;have q:=hl i σ H hi p;by_cases hlt:i < xs.length
 ·refine .inr ⟨⟨xs,xs[i],q,by simp [hlt]⟩,Pv (i + 1),λ σ' H' b=>⟨xs.length - (i + 1),by lia,rfl,hlt,b⟩,λ x H' y=>?_⟩;obtain ⟨e,y⟩:=y;subst e;exact hs i x σ _ (y xs q) p
 ·have e:i=xs.length:=by lia
  subst e;exact .inl ⟨⟨xs,q,B0 _⟩,hd σ H p⟩
theorem z7l {lo:Int} {n:Nat} {g:TG} {tb:TS} {D:Ends} {σ:St} {H:Hp} (Pv:Nat->St->Hp->Prop) (h0:Pv 0 σ H)
  (hs :∀i σ H,i < n->Pv i σ H->g (.int (lo + i)) σ H λ σ2 H2=>tb { D with nx:=Pv (i + 1),ct:=Pv (i + 1),bk:=D.nx } σ2 H2) (hd :∀σ H,Pv n σ H->D.nx σ H) :
  ∃W:Nat->Nat->St->Hp->Prop,(∃m,W 0 m σ H)/\∀i m σ H,W i m σ H->
   ((Itr lo n).stop i H/\D.nx σ H)\/((Itr lo n).go i H/\∃N:St->Hp->Prop,(∀σ' H',N σ' H'->∃m',m' < m/\W (i + 1) m' σ' H')/\∀x H',(Itr lo n).yld i H x H'->g x σ H' λ σ2 H2=>tb { D with nx:=N,ct:=N,bk:=D.nx } σ2 H2):=by
 refine ⟨λ i m σ H=>m=n - i/\i<=n/\Pv i σ H,⟨n,by simp,B2 _,h0⟩,?_⟩;rintro i m σ H ⟨rfl,hi,p⟩;by_cases hlt:i < n
 ·refine .inr ⟨hlt,Pv (i + 1),λ σ' H' a=>⟨n - (i + 1),by lia,rfl,hlt,a⟩,λ x H' y=>?_⟩;obtain ⟨e,y⟩:=y;subst e y;exact hs i σ _ hlt p
 ·have e:i=n:=by lia
  subst e;exact .inl ⟨B0 _,hd σ H p⟩
noncomputable abbrev R2:=V->V->Hp->VK->Prop
def OpR (X:Cx) (f:Value->Value->Sem Value) (r:R2):Prop:=
 ∀(pins:List (Addr×Obj)) (s:C0) (σ:St) (H:Hp) (x y:V) (v u:Value) (Q:VK),Inv X pins σ H s->RelV x v->RelV y u->r x y H Q->
  W0 (D1 X.prog X.w) X.A (f v u) (EP X pins σ Q) X.xe s
def UnR (X:Cx) (f:Value->Sem Value) (r:V->Hp->VK->Prop):Prop:=
 ∀(pins:List (Addr×Obj)) (s:C0) (σ:St) (H:Hp) (x:V) (v:Value) (Q:VK),Inv X pins σ H s->RelV x v->r x H Q->
  W0 (D1 X.prog X.w) X.A (f v) (EP X pins σ Q) X.xe s
def CallR (X:Cx) (f:Value) (r:List V->Hp->VK->Prop):Prop:=
 ∀(pins:List (Addr×Obj)) (s:C0) (σ:St) (H:Hp) (xs:List V) (us:List Value) (Q:VK),Inv X pins σ H s->Vals xs us->r xs H Q->
  W0 (D1 X.prog X.w) X.A (call f us) (EP X pins σ Q) X.xe s
noncomputable def tOp (r:R2) (ta tb:TE):TE:=λ σ H Q=>ta σ H λ x H1=>tb σ H1 λ y H2=>r x y H2 Q
noncomputable def tUn (r:V->Hp->VK->Prop) (ta:TE):TE:=λ σ H Q=>ta σ H λ x H1=>r x H1 Q
inductive RI (C:Int->Int->Prop) (g:Int->Int->V) (x y:V) (H:Hp) (Q:VK):Prop
 | mk (i j:Int) (a:x=.int i) (b:y=.int j) (c:C i j) (q:Q (g i j) H)
noncomputable def rI (C:Int->Int->Prop) (g:Int->Int->V):R2:=λ x y H Q=>RI C g x y H Q
inductive RI0 (g:Int->Int->V) (x y:V) (H:Hp) (Q:VK):Prop
 | mk (i j:Int) (a:x=.int i) (b:y=.int j) (q:Q (g i j) H)
noncomputable def rI0 (g:Int->Int->V):R2:=λ x y H Q=>RI0 g x y H Q
def rU (g:Int->V):V->Hp->VK->Prop:=λ x H Q=>∃i,x=.int i/\Q (g i) H
section
variable {X:Cx} {a b c:Expr} {ta tb tc:TE} {pos:Pos}
theorem binT (ha:PE X a ta) (hb:PE X b tb) {pins:List (Addr×Obj)} {s:C0} {σ:St} {H:Hp} {R:V->V->Hp->Prop} (I:Inv X pins σ H s)
  (h:ta σ H λ x H1=>tb σ H1 λ y H2=>R x y H2) {Q:Value->C0->Prop} {f:Value->Value->Sem Value}
  (hf :∀v u s2 x y H2,Inv X pins σ H2 s2->RelV x v->RelV y u->R x y H2->W0 (D1 X.prog X.w) X.A (f v u) Q X.xe s2) :
  W0 (D1 X.prog X.w) X.A (v3 a X.env) (λ v s₁=>W0 (D1 X.prog X.w) X.A (v3 b X.env) (λ u s₂=>W0 (D1 X.prog X.w) X.A (f v u) Q X.xe s₂) X.xe s₁) X.xe s:=by
 refine thn (ha pins s σ H _ I h) λ v c ⟨x,H1,I1,r1,q1⟩=>?_;refine thn (hb pins c σ H1 _ I1 q1) λ u s2 ⟨y,H2,I2,r2,q2⟩=>?_;exact hf v u s2 x y H2 I2 r1 r2 q2
theorem pe_op {op:Operator} {r:R2} (ho:OpR X (V4 op) r) (ha:PE X a ta) (hb:PE X b tb):PE X (.BinOp a op b pos) (tOp r ta tb):=by intro i s σ H Q I h;exact wpAny_BinOp (binT ha hb I h λ v u d x y g e c f q=>ho i d σ g x y v u Q e c f q)
theorem pe_un {op:UnaryOp} {r:V->Hp->VK->Prop} (ho:UnR X (unaryOp op) r) (ha:PE X a ta):PE X (.UnaryOp op a pos) (tUn r ta):=by intro b s σ H Q I h;exact UnaryOp_ (thn (ha b s σ H _ I h) λ v c ⟨x,H1,I1,r1,q1⟩=>ho b c σ H1 x v Q I1 r1 q1)
theorem opI {f:Value->Value->Sem Value} {C:Int->Int->Prop} {g:Int->Int->Int}
  (rule :∀(i j:Int) (t u:Tok) (s:C0) (Q:Value->C0->Prop) (E:Value->C0->Prop),C i j->Q (.int (g i j) s.toks) { s with toks:=s.toks + 1 }->W0 (D1 X.prog X.w) X.A (f (.int i t) (.int j u)) Q E s) :
  OpR X f (rI C λ i j=>.int (g i j)):=by
 intro e s σ H x y v u Q I c d h;obtain ⟨i,j,rfl,rfl,b,q⟩:=h;obtain ⟨t,rfl⟩:=c;obtain ⟨a,rfl⟩:=d;exact rule i j t a s _ _ b ⟨.int (g i j),H,I.tok _,⟨_,rfl⟩,q⟩
theorem opI0 {f:Value->Value->Sem Value} {g:Int->Int->Int}
  (rule :∀(i j:Int) (t u:Tok) (s:C0) (Q:Value->C0->Prop) (E:Value->C0->Prop),Q (.int (g i j) s.toks) { s with toks:=s.toks + 1 }->W0 (D1 X.prog X.w) X.A (f (.int i t) (.int j u)) Q E s) :
  OpR X f (rI0 λ i j=>.int (g i j)):=by
 intro d s σ H x y v u Q I b c h;obtain ⟨i,j,rfl,rfl,q⟩:=h;obtain ⟨t,rfl⟩:=b;obtain ⟨a,rfl⟩:=c;exact rule i j t a s _ _ ⟨.int (g i j),H,I.tok _,⟨_,rfl⟩,q⟩
theorem opB0 {f:Value->Value->Sem Value} {g:Int->Int->Bool}
  (rule :∀(i j:Int) (t u:Tok) (s:C0) (Q:Value->C0->Prop) (E:Value->C0->Prop),Q (.bool (g i j)) s->W0 (D1 X.prog X.w) X.A (f (.int i t) (.int j u)) Q E s) :
  OpR X f (rI0 λ i j=>.bl (g i j)):=by
 intro d s σ H x y v u Q I b c h;obtain ⟨i,j,rfl,rfl,q⟩:=h;obtain ⟨t,rfl⟩:=b;obtain ⟨a,rfl⟩:=c;exact rule i j t a s _ _ ⟨.bl (g i j),H,I,rfl,q⟩
def CPow (i j:Int):Prop:=0<=j/\j<=1000000/\i.natAbs < 2 ^ 64
def CMul (i j:Int):Prop:=(-(2 ^ 64) < i/\i < 2 ^ 64)\/(-(2 ^ 64) < j/\j < 2 ^ 64)
theorem CMul.ok {i j:Int} (h:CMul i j):IntMulOk i j:=by
 rcases h with ⟨b,a⟩|⟨b,a⟩
 ·exact .of_left (intBits_le_64 b a)
 ·exact .of_right (intBits_le_64 b a)
theorem op_add:OpR X (V4 .Add) (rI0 λ i j=>.int (i + j)):=opI0 λ _ _ _ _ _ _ _ q=>add_int q
theorem op_sub:OpR X (V4 .Sub) (rI0 λ i j=>.int (i - j)):=opI0 λ _ _ _ _ _ _ _ q=>sub_int q
theorem op_mul:OpR X (V4 .Mult) (rI CMul λ i j=>.int (i * j)):=opI λ _ _ _ _ _ _ _ a q=>mul_int q a.ok
theorem op_mod:OpR X (V4 .Mod) (rI (λ _ j=>0 < j) λ i j=>.int (i % j)):=opI λ i j _ _ _ _ _ a q=>by have b:(0:Int) < j:=a;exact mod_int' (by lia) (by rw [Int.fmod_eq_emod_of_nonneg i (by lia)];exact q)
theorem op_pow:OpR X (V4 .Pow) (rI CPow λ i j=>.int (i ^ j.toNat)):=opI λ _ _ _ _ _ _ _ a q=>pow_int_small a.1 a.2.1 a.2.2 q
theorem unI {f:Value->Sem Value} {g:Int->Int}
  (rule :∀(i:Int) (t:Tok) (s:C0) (Q:Value->C0->Prop) (E:Value->C0->Prop),Q (.int (g i) s.toks) { s with toks:=s.toks + 1 }->W0 (D1 X.prog X.w) X.A (f (.int i t)) Q E s) :
  UnR X f (rU λ i=>.int (g i)):=by
 intro b s σ H x v Q I a h;obtain ⟨i,rfl,q⟩:=h;obtain ⟨t,rfl⟩:=a;exact rule i t s _ _ ⟨.int (g i),H,I.tok _,⟨_,rfl⟩,q⟩
theorem un_neg:UnR X (unaryOp .USub) (rU λ i=>.int (-i)):=unI λ _ _ _ _ _ q=>neg_int q
end
noncomputable def scal:V->V->Bool
 | .non,.non=>true | .non,.int _=>true | .int _,.non=>true | .non,.bl _=>true | .bl _,.non=>true | .non,.str _=>true | .str _,.non=>true
 | .int _,.int _=>true | .bl _,.bl _=>true | .str _,.str _=>true | .byt _,.byt _=>true
 | .int _,.str _=>true | .str _,.int _=>true | .bl _,.str _=>true | .str _,.bl _=>true
 | _,_=>false
noncomputable def rEq:R2:=λ x y H Q=>scal x y=true/\Q (.bl (decide (x=y))) H
noncomputable def rNe:R2:=λ x y H Q=>scal x y=true/\Q (.bl (!decide (x=y))) H
theorem zgo {i j:Int}:decide (V.int i=V.int j)=(i == j):=by rw [Bool.eq_iff_iff];simp
theorem dec_bl {i j:Bool}:decide (V.bl i=V.bl j)=(i == j):=by rw [Bool.eq_iff_iff];simp
theorem zgn {i j:Str}:decide (V.str i=V.str j)=(i == j):=by rw [Bool.eq_iff_iff];simp
theorem zh6 {i j:Array UInt8}:decide (V.byt i=V.byt j)=(i.toList == j.toList):=by rw [Bool.eq_iff_iff];cases i;cases j;simp
section
variable {X:Cx} {a b c:Expr} {ta tb tc:TE} {pos:Pos}
theorem fin_bl {pins:List (Addr×Obj)} {σ:St} {H:Hp} {s:C0} {Q:VK} {k k':Bool} (I:Inv X pins σ H s) (q:Q (.bl k) H) (e:k=k'):EP X pins σ Q (.bool k') s:=by subst e;exact ⟨.bl k,H,I,rfl,q⟩
theorem op_eq:OpR X (K2 .Eq) rEq:=by
 intro e s σ H x y v u Q I d a h;obtain ⟨c,q⟩:=h;cases x with
 | non=>
  cases d;cases y with
  | non=>cases a;exact PySem.EqNone.eq_none_none (fin_bl I q (by simp))
  | bl j=>cases a;exact PySem.EqNone.eq_none_bool (fin_bl I q (by simp))
  | int j=>obtain ⟨b,rfl⟩:=a;exact PySem.EqNone.eq_none_int (fin_bl I q (by simp))
  | str j=>obtain ⟨b,rfl⟩:=a;exact PySem.EqNone.eq_none_str (fin_bl I q (by simp))
  | _=>exact absurd (show false=true from c) A1
 | bl i=>
  cases d;cases y with
  | non=>cases a;exact PySem.EqNone.eq_bool_none (fin_bl I q (by simp))
  | bl j=>cases a;exact eq_bool (fin_bl I q dec_bl)
  | str j=>obtain ⟨b,rfl⟩:=a;exact PySem.EqMixed.eq_bool_str (fin_bl I q (by simp))
  | _=>exact absurd (show false=true from c) A1
 | int i=>
  obtain ⟨t,rfl⟩:=d;cases y with
  | non=>cases a;exact PySem.EqNone.eq_int_none (fin_bl I q (by simp))
  | int j=>obtain ⟨b,rfl⟩:=a;exact eq_int (fin_bl I q zgo)
  | str j=>obtain ⟨b,rfl⟩:=a;exact PySem.EqMixed.eq_int_str (fin_bl I q (by simp))
  | _=>exact absurd (show false=true from c) A1
 | str i=>
  obtain ⟨t,rfl⟩:=d;cases y with
  | non=>cases a;exact PySem.EqNone.eq_str_none (fin_bl I q (by simp))
  | bl j=>cases a;exact PySem.EqMixed.eq_str_bool (fin_bl I q (by simp))
  | int j=>obtain ⟨b,rfl⟩:=a;exact PySem.EqMixed.eq_str_int (fin_bl I q (by simp))
  | str j=>obtain ⟨b,rfl⟩:=a;exact eq_str (fin_bl I q zgn)
  | _=>exact absurd (show false=true from c) A1
 | byt i=>
  obtain ⟨t,rfl⟩:=d;cases y with
  | byt j=>obtain ⟨b,rfl⟩:=a;exact PySem.W.eq_bytes (fin_bl I q zh6)
  | _=>exact absurd (show false=true from c) A1
 | _=>cases y<;>exact absurd (show false=true from c) A1
theorem op_ne:OpR X (K2 .NotEq) rNe:=by
 intro e s σ H x y v u Q I d a h;obtain ⟨c,q⟩:=h;cases x with
 | non=>
  cases d;cases y with
  | non=>cases a;exact PySem.EqNone.ne_none_none (fin_bl I q (by simp))
  | bl j=>cases a;exact PySem.EqNone.ne_none_bool (fin_bl I q (by simp))
  | int j=>obtain ⟨b,rfl⟩:=a;exact PySem.EqNone.ne_none_int (fin_bl I q (by simp))
  | str j=>obtain ⟨b,rfl⟩:=a;exact PySem.EqNone.ne_none_str (fin_bl I q (by simp))
  | _=>exact absurd (show false=true from c) A1
 | bl i=>
  cases d;cases y with
  | non=>cases a;exact PySem.EqNone.ne_bool_none (fin_bl I q (by simp))
  | bl j=>cases a;exact ne_bool (fin_bl I q (congrArg not dec_bl))
  | str j=>obtain ⟨b,rfl⟩:=a;exact PySem.EqMixed.ne_bool_str (fin_bl I q (by simp))
  | _=>exact absurd (show false=true from c) A1
 | int i=>
  obtain ⟨t,rfl⟩:=d;cases y with
  | non=>cases a;exact PySem.EqNone.ne_int_none (fin_bl I q (by simp))
  | int j=>obtain ⟨b,rfl⟩:=a;exact ne_int (fin_bl I q (congrArg not zgo))
  | str j=>obtain ⟨b,rfl⟩:=a;exact PySem.EqMixed.ne_int_str (fin_bl I q (by simp))
  | _=>exact absurd (show false=true from c) A1
 | str i=>
  obtain ⟨t,rfl⟩:=d;cases y with
  | non=>cases a;exact PySem.EqNone.ne_str_none (fin_bl I q (by simp))
  | bl j=>cases a;exact PySem.EqMixed.ne_str_bool (fin_bl I q (by simp))
  | int j=>obtain ⟨b,rfl⟩:=a;exact PySem.EqMixed.ne_str_int (fin_bl I q (by simp))
  | str j=>obtain ⟨b,rfl⟩:=a;exact ne_str (fin_bl I q (congrArg not zgn))
  | _=>exact absurd (show false=true from c) A1
 | byt i=>
  obtain ⟨t,rfl⟩:=d;cases y with
  | byt j=>obtain ⟨b,rfl⟩:=a;exact PySem.W.ne_bytes (fin_bl I q (congrArg not zh6))
  | _=>exact absurd (show false=true from c) A1
 | _=>cases y<;>exact absurd (show false=true from c) A1
theorem op_lt:OpR X (K2 .Lt) (rI0 λ i j=>.bl (decide (i < j))):=opB0 λ _ _ _ _ _ _ _ q=>lt_int q
theorem op_le:OpR X (K2 .LtE) (rI0 λ i j=>.bl (decide (i<=j))):=opB0 λ _ _ _ _ _ _ _ q=>le_int q
theorem op_gt:OpR X (K2 .Gt) (rI0 λ i j=>.bl (decide (j < i))):=opB0 λ _ _ _ _ _ _ _ q=>gt_int q
theorem op_isN:OpR X (K2 .Is) (λ x y H Q=>y=.non/\Q (.bl (decide (x=.non))) H):=by
 intro c s σ H x y v u Q I a b h;obtain ⟨rfl,q⟩:=h;cases b;refine is_none_gen (fin_bl I q ?_);cases x<;>first
  | (cases a;rfl)
  | (obtain ⟨t,rfl⟩:=a;rfl)
theorem z44:OpR X (K2 .IsNot) (λ x y H Q=>y=.non/\Q (.bl (!decide (x=.non))) H):=by
 intro c s σ H x y v u Q I a b h;obtain ⟨rfl,q⟩:=h;cases b;refine isnot_none_gen (fin_bl I q ?_);cases x<;>first
  | (cases a;rfl)
  | (obtain ⟨t,rfl⟩:=a;rfl)
theorem OpR.or {f:Value->Value->Sem Value} {r r':R2} (h:OpR X f r) (h':OpR X f r'):OpR X f (λ x y H Q=>r x y H Q\/r' x y H Q):=by
 intro c s σ H x y v u Q I a b q;rcases q with q|q
 ·exact h c s σ H x y v u Q I a b q
 ·exact h' c s σ H x y v u Q I a b q
theorem nomark (b:Expr) {op:CmpOp} (h:op≠.In:=by decide) (h2:op≠.NotIn:=by decide):D7 op b=false:=by
 have c:(op == CmpOp.In)=false:=by cases op<;>first|rfl|exact absurd rfl h
 have a:(op == CmpOp.NotIn)=false:=by cases op<;>first|rfl|exact absurd rfl h2
 cases b<;>simp [D7,c,a]
theorem z14 {op:CmpOp} {r:R2} (ho:OpR X (K2 op) r) (ha:PE X a ta) (hb:PE X b tb) (hm:D7 op b=false):PE X (.Compare a [op] [b] pos) (tOp r ta tb):=by intro i s σ H Q I h;exact wpAny_Compare1 (binT ha hb I h λ v u d x y g e c f q=>ho i d σ g x y v u Q e c f q) hm
noncomputable def tTest (t:TE):TT:=λ σ H Q=>t σ H λ x H'=>∃k,x=.bl k/\Q k H'
theorem z07 {op:CmpOp} {r:R2} (ho:OpR X (K2 op) r) (ha:PE X a ta) (hb:PE X b tb) (hm:D7 op b=false):PT X (.Compare a [op] [b] pos) (tTest (tOp r ta tb)):=by
 intro d s σ H Q I h;refine wpAny_isTrue_Compare1 (thn (ha d s σ H _ I h) λ v g ⟨x,H1,I1,r1,q1⟩=>thn (hb d g σ H1 _ I1 q1) λ u f ⟨y,H2,I2,r2,q2⟩=>thn (ho d f σ H2 x y v u _ I2 r1 r2 q2) λ c i ⟨z,H3,I3,r3,k,e,q3⟩=>?_) hm;subst e;cases r3;exact F3 ⟨H3,I3,q3⟩
noncomputable def tChain (r r':R2) (ta tb tc:TE):TE:=λ σ H Q=>ta σ H λ x H1=>tb σ H1 λ y H2=>r x y H2 λ z H3=>∃k,z=.bl k/\
 (if k=true then tc σ H3 λ w' H4=>r' y w' H4 Q else Q (.bl false) H3)
theorem zhu {op op':CmpOp} {r r':R2} (ho:OpR X (K2 op) r) (ho':OpR X (K2 op') r') (ha:PE X a ta) (hb:PE X b tb) (hc:PE X c tc)
  (hm:lastMarks [op,op'] [b,c]=false:=by with_unfolding_all rfl):PE X (.Compare a [op,op'] [b,c] pos) (tChain r r' ta tb tc):=by
 intro f s σ H Q I h;refine Compare_chain (thn (ha f s σ H _ I h) λ v m ⟨x,H1,I1,r1,q1⟩=>chain_link (thn (hb f m σ H1 _ I1 q1) λ u i ⟨y,H2,I2,r2,q2⟩=>thn (ho f i σ H2 x y v u _ I2 r1 r2 q2) λ d j ⟨z,H3,I3,r3,k,e,q3⟩=>?_)) hm;subst e;cases r3;refine F3 ?_;cases k with
 | false=>exact ite_ff ⟨.bl false,H3,I3,rfl,q3⟩
 | true=>exact ite_tt (chain_last (thn (hc f j σ H3 _ I3 q3) λ g l ⟨z',H4,I4,r4,q4⟩=>ho' f l σ H4 y z' u g Q I4 r2 r4 q4))
theorem line63:(sizeLine:Nat) < 2 ^ 63:=by rw [sizeLine_eq];decide
theorem op_add_str:OpR X (V4 .Add) (λ x y H Q=>∃i j,x=.str i/\y=.str j/\i.length + j.length<=sizeLine/\Q (.str (i++j)) H):=by intro f s σ H x y v u Q I b c h;obtain ⟨i,j,rfl,rfl,d,q⟩:=h;obtain ⟨t,rfl⟩:=b;obtain ⟨a,rfl⟩:=c;exact add_str (λ a e=>⟨.str (i++j),H,I.tok _,⟨_,rfl⟩,q⟩) d
theorem vals1 {x:V} {us:List Value} (r:Vals [x] us) :∃u,us=[u]/\RelV x u:=by
 cases r with
 | cons r1 r2=>cases r2;exact ⟨_,rfl,r1⟩
theorem vals2 {x y:V} {us:List Value} (r:Vals [x,y] us) :∃u w',us=[u,w']/\RelV x u/\RelV y w':=by
 cases r with
 | cons r1 r2=>
  cases r2 with
  | cons r3 r4=>cases r4;exact ⟨_,_,rfl,r1,r3⟩
theorem zfa (hc:X.calm=true):CallR X (.builtin "max") (λ xs H Q=>∃i j,xs=[.int i,.int j]/\Q (.int (if j > i then j else i)) H):=by
 intro e s σ H xs us Q I r h;obtain ⟨i,j,rfl,q⟩:=h;obtain ⟨u,b,rfl,⟨t,rfl⟩,⟨a,rfl⟩⟩:=vals2 r;refine max_two_ints (I.ok.hd hc) λ c d k=>⟨_,H,I.kept k,?_,q⟩
 by_cases hj:j > i
 ·rw [if_pos hj,if_pos hj];exact ⟨_,rfl⟩
 ·rw [if_neg hj,if_neg hj];exact ⟨_,rfl⟩
end
structure ObjM (h:Heap) (x dx C:Addr) (mA:Str->Option Value):Prop where
 obj:h.get? x=some (V3 C dx)
 ns:h.Ns1 dx mA
 ne:dx≠x
theorem zgi {h:Heap} {dx:Addr} {mA:Str->Option Value} (n:h.Ns1 dx mA) :∃od,h.get? dx=some od/\∀name,E7 name od=some (mA name):=by
 obtain ⟨o,b,l,j,g,i,_,f⟩:=n;refine ⟨o,j,λ name=>?_⟩;have e:=f name;unfold nsFind findBy at e;rw [<-Array.find?_toList] at e;unfold E7;rw [g];dsimp only;split
 ·rename_i y q;rw [q] at e;exact congrArg some e
 ·rename_i q;rw [q] at e;have a:b.toList.any (·.refKey)=false:=by rw [List.any_eq_false];intro y d;obtain ⟨z,t,c⟩:=i y (Array.mem_toList_iff.mp d);simp [DictEntry.refKey,c]
  have k:¬ b.toList.any (·.refKey)=true:=by rw [a];exact A1
  rw [if_neg k];exact congrArg some e
theorem ObjM.look {h:Heap} {x dx C:Addr} {mA:Str->Option Value} (I:ObjM h x dx C mA) :∃od,PySem.W.InstAt h x (V3 C dx) C (some od)/\∀name,E7 name od=some (mA name):=
 let ⟨od,ho,hl⟩:=zgi I.ns
 ⟨od,⟨I.obj,rfl,rfl,ho⟩,hl⟩
section
variable {prog:Program} {w:S0} {A:A2} {E:Value->C0->Prop} {s:C0} {K:d0} {x dx C f:Addr} {mA:Str->Option Value} {name:Str} {v:Value}
theorem zjo {expr:Bool} {Q:Value->C0->Prop} (X:K.In s.heap) (I:ObjM s.heap x dx C mA) (hg:M6 K C name=true) (hh:p8 K C=true)
  (ha:C3 K (.ref C) name=some none) (hv:mA name=some v) (hv':PySem.W.handedIn v=true) (h:Q v { s with toks:=s.toks + 1 }) :
  W0 (D1 prog w) A (getAttr (.ref x) name expr) Q E s:=by
 obtain ⟨b,J,a⟩:=I.look;exact PySem.W.get_value X J (U7 hg).1 (PySem.W.findObj_own hh ha rfl (by rw [a,hv])) hv' h
theorem zht {pl:Sem Bool} {Q:Value×List Value->C0->Prop} (X:K.In s.heap) (I:ObjM s.heap x dx C mA) (hg:M6 K C name=true)
  (hf:C3 K (.ref C) name=some (some (.ref f))) (ht:C9 K (.ref f)=true) (hv:mA name=none) (h:Q (.ref f,[.ref x]) s) :
  W0 (D1 prog w) A (getMethod (.ref x) name pl) Q E s:=by
 obtain ⟨b,J,a⟩:=I.look;exact PySem.W.method_fn X J (U7 hg).1 (U7 hg).2 hf (beq_iff_eq.mp ht) (by show (E7 name b).map (·.isSome)=some false;rw [a,hv];rfl) h
theorem zjf {ns:List Str} {Q:Unit->C0->Prop} (X:K.In s.heap) (I:ObjM s.heap x dx C mA)
  (hs:C3 K (.ref C) "__setattr__" = some (some (.builtin "object.__setattr__"))) (hp:j0b K C=true) (ht:L8 K C name=some none) (hh:p8 K C=true)
  (hw:S9 mA ns) (hsz:ns.length<=sizeLine)
  (h :∀h',ObjM h' x dx C (λ y=>if y=name then some v else mA y)->J5 dx s.heap h'->Q () { s with heap:=h',toks:=s.toks + 2 }) :
  W0 (D1 prog w) A (setAttr (.ref x) name v) Q E s:=by
 obtain ⟨m,J,n⟩:=I.look;refine PySem.W.set_plain X J hs (PySem.W.osa_open (s:={ s with toks:=s.toks + 1 }) (r:=none) X J hp ht λ b=>?_);obtain ⟨o,f,i⟩:=PySem.W.any_some hh;have k:s.heap.get? x=some ⟨.ref C,some dx,.plain,#[]⟩:=I.obj;refine v0 (K0 (v0 (v0 (wpAny_loadPart k (v0 (PySem.W.Looks.here (s:={ s with toks:=s.toks + 1 }) (PySem.W.looks_clsIn X f) ?_))))));rw [i];refine K0 (a:=some dx) (v0 (K0 (v0 ?_)));refine wpAny_nsSet1 (s:={ s with toks:=s.toks + 1 }) I.ns λ h' d c=>?_;obtain ⟨l,q,p,e,g,j⟩:=d.count (PySem.Within.cons name v hw);refine v0 (wpAny_lookBehind e (by rw [g];exact pastItsLine_dict (F0 j (by rw [C1];lia))) ?_);exact K0 (h _ ⟨(c.2 _ (c4 I.ne)).trans I.obj,d,I.ne⟩ c)
theorem zhe {R:Result->C0->Prop} {vs:List Value} {kw:List (Str×Value)} (X:K.In s.heap) (hm:PySem.W.makesIn K C=true)
  (hi:C3 K (.ref C) "__init__" = some (some (.ref f))) (hf:PySem.W.typeIn K (.ref f)=some (.type "function"))
  (h:m6 (D1 prog w) (A.under (.builtin "type.__call__" ⟨.ref C :: vs,kw⟩)) (.call (.ref f) ⟨.ref (s.heap.objs.size + 1) :: vs,kw⟩) (PySem.W.InitBack (s.heap.objs.size + 1) R)
   { s with heap:=(s.heap.push PySem.W.emptyDict).push (V3 C s.heap.objs.size) }) :
  m6 (D1 prog w) A (.call (.ref C) ⟨vs,kw⟩) R s:=by
 obtain ⟨c,g,d,t,b⟩:=s;exact PySem.W.make_core (PySem.W.makes_of X hm) (PySem.W.looks_findIn X hi) (λ a=>PySem.W.bind_fn X a hf) (.inl rfl) h
end
noncomputable def putF (f:Str) (v:V):List (Str×V)->List (Str×V)
 | []=>[(f,v)]
 | (g,x) :: r=>if g=f then (g,v) :: r else (g,x) :: putF f v r
theorem z2s (f g:Str) (v:V) :∀fs:List (Str×V),(putF f v fs).lookup g=if g=f then some v else fs.lookup g
 | []=>by
  show c6 g [(f,v)]=_;by_cases h:g=f
  ·have a:(g == f)=true:=beq_iff_eq.mpr h;simp only [c6,a,if_pos h]
  ·have a:(g == f)=false:=beq_eq_false_iff_ne.mpr h;simp only [c6,a,if_neg h]
 | (k,x) :: r=>by
  have b:=z2s f g v r;rw [show putF f v ((k,x) :: r)=(if k=f then (k,v) :: r else (k,x) :: putF f v r) from rfl];by_cases hk:k=f
  ·rw [if_pos hk];by_cases h:g=k
   ·have a:(g == k)=true:=beq_iff_eq.mpr h;simp only [c6,a,if_pos (h.trans hk)]
   ·have a:(g == k)=false:=beq_eq_false_iff_ne.mpr h;simp only [c6,a,if_neg (λ e:g=f=>h (e.trans hk.symm))]
  ·rw [if_neg hk];by_cases h:g=k
   ·have a:(g == k)=true:=beq_iff_eq.mpr h;simp only [c6,a,if_neg (λ e:g=f=>hk (h.symm.trans e))]
   ·have a:(g == k)=false:=beq_eq_false_iff_ne.mpr h;simp only [c6,a];exact b
theorem z7v (f:Str) (v:V) :∀fs:List (Str×V),f∈(putF f v fs).map (·.1)/\∀g,g∈fs.map (·.1)->g∈(putF f v fs).map (·.1)
 | []=>⟨by simp [putF],λ g h=>by simp at h⟩
 | (k,x) :: r=>by
  obtain ⟨a,b⟩:=z7v f v r;rw [show putF f v ((k,x) :: r)=(if k=f then (k,v) :: r else (k,x) :: putF f v r) from rfl];by_cases hk:k=f
  ·rw [if_pos hk];subst hk;exact ⟨by simp,λ g h=>by simpa using h⟩
  ·rw [if_neg hk];refine ⟨?_,λ g h=>?_⟩
   ·rw [Y0];exact E1 _ a
   ·rw [Y0] at h⊢;rcases List.mem_cons.mp h with e|e
    ·exact List.mem_cons.mpr (.inl e)
    ·exact E1 _ (b g e)
theorem z6p (f:Str) (v:V) :∀fs:List (Str×V),(putF f v fs).length<=fs.length + 1
 | []=>by simp [putF]
 | (k,x) :: r=>by
  have a:=z6p f v r;rw [show putF f v ((k,x) :: r)=(if k=f then (k,v) :: r else (k,x) :: putF f v r) from rfl];by_cases hk:k=f
  ·rw [if_pos hk,C1,C1];lia
  ·rw [if_neg hk,C1,C1];lia
theorem RelO.some_of {v:V} {o:Option Value} (r:RelO (some v) o) :∃u,o=some u/\RelV v u:=by
 cases o with
 | none=>exact (show False from r).elim
 | some u=>exact ⟨u,rfl,r⟩
theorem RelO.none_of {o:Option Value} (r:RelO none o):o=none:=by
 cases o with
 | none=>rfl
 | some u=>exact (show False from r).elim
theorem zfi {v:V} {u:Value} (r:RelV v u):PySem.W.handedIn u=true:=by
 cases v with
 | non=>cases (show u=w6 from r);rfl
 | bl b=>cases (show u=p4 b from r);rfl
 | int i=>obtain ⟨t,e⟩:=(show∃t,u=W6 i t from r);cases e;rfl
 | str x=>obtain ⟨t,e⟩:=(show∃t,u=n6 x t from r);cases e;rfl
 | byt b=>obtain ⟨t,e⟩:=(show∃t,u=Value.bytes b t from r);cases e;rfl
 | flt b=>obtain ⟨t,e⟩:=(show∃t,u=j03 b t from r);cases e;rfl
 | ref a=>cases (show u=v1 a from r);rfl
 | ty n=>cases (show u=W4 n from r);rfl
section
variable {P:Program} {w:S0} {H H':Hp} {h h':Heap} {a C dx:Addr} {fs fs':List (Str×V)}
theorem zbw (hok:HOk P w H h) (e:H a=some (.ins C dx fs)) :∃mA,ObjM h a dx C mA/\(∀f,RelO (fs.lookup f) (mA f))/\S9 mA (fs.map (·.1))/\fs.length<=1000/\H dx=some (.own a):=by
 obtain ⟨d,z,ne,b,mA,n,r,q⟩:=(show ObjOk P w H h a (.ins C dx fs) from hok a _ e)
 exact ⟨mA,⟨b,n,ne⟩,r,q,z,d⟩
end
structure Cls (K:d0) (C:Addr):Prop where
 pg:M6 K C Str.empty=true
 hd:p8 K C=true
 po:j0b K C=true
 sa:C3 K (.ref C) "__setattr__" = some (some (.builtin "object.__setattr__"))
theorem Cls.get {K:d0} {C:Addr} (c:Cls K C) (f:Str):M6 K C f=true:=c.pg
def NoAttr (K:d0) (C:Addr) (f:Str):Prop:=C3 K (.ref C) f=some none
theorem NoAttr.taker {K:d0} {C:Addr} {f:Str} (n:NoAttr K C f):L8 K C f=some none:=by unfold L8;rw [show C3 K (.ref C) f=some none from n];rfl
structure Con (K:d0) (C:Addr) (f:Str) (v:V) (u:Value):Prop where
 at_:C3 K (.ref C) f=some (some u)
 rel:RelV v u
 get:j0a K u "__get__" = some none
 cp:PySem.W.copiedNames.contains f=false
structure Meth (K:d0) (C:Addr) (m:Str) (f:Addr):Prop where
 at_:C3 K (.ref C) m=some (some (.ref f))
 fn:C9 K (.ref f)=true
 kp:B3 K (.ref f)=true
section
variable {X:Cx} {pins:List (Addr×Obj)} {σ:St} {H:Hp} {s:C0} {a C dx:Addr} {fs:List (Str×V)} {f:Str} {v:V} {A:A2} {E:Value->C0->Prop}
theorem ze8 {b:Bool} {Q:Value->C0->Prop} (I:Inv X pins σ H s) (e:H a=some (.ins C dx fs)) (c:Cls X.K C) (n:NoAttr X.K C f) (l:fs.lookup f=some v)
  (h :∀u s',Inv X pins σ H s'->RelV v u->Q u s'):W0 (D1 X.prog X.w) A (getAttr (.ref a) f b) Q E s:=by
 obtain ⟨i,O,r,_,_,_⟩:=zbw I.hok e;obtain ⟨u,g,d⟩:=RelO.some_of (v:=v) (o:=i f) (by rw [<-l];exact r f);exact zjo I.kIn O (c.get f) c.hd n g (zfi d) (h u _ (I.tok _) d)
theorem zcy {m:Str} {g:Addr} {pl:Sem Bool} {Q:Value×List Value->C0->Prop} (I:Inv X pins σ H s) (e:H a=some (.ins C dx fs)) (c:Cls X.K C) (k:Meth X.K C m g) (l:fs.lookup m=none)
  (h:Q (.ref g,[.ref a]) s):W0 (D1 X.prog X.w) A (getMethod (.ref a) m pl) Q E s:=by
 obtain ⟨b,O,r,_,_,_⟩:=zbw I.hok e;have d:b m=none:=RelO.none_of (by rw [<-l];exact r m);exact zht I.kIn O (c.get m) k.at_ k.fn d h
theorem zdo {y:V} {u:Value} {Q:Unit->C0->Prop} (I:Inv X pins σ H s) (e:H a=some (.ins C dx fs)) (c:Cls X.K C) (n:NoAttr X.K C f) (hl:fs.length < 1000) (ry:RelV y u)
  (h :∀s',Inv X pins σ (upd H a (.ins C dx (putF f y fs))) s'->Q () s'):W0 (D1 X.prog X.w) A (setAttr (.ref a) f u) Q E s:=by
 obtain ⟨j,O,r,k,_,i⟩:=zbw I.hok e;have B:(fs.map (·.1)).length<=sizeLine:=by rw [L0,sizeLine_eq];lia
 refine zjf I.kIn O c.sa c.po n.taker c.hd k B λ p d v=>h _ ?_;have m :∃o,p.get? dx=some o:=let ⟨o,_,_,e',_⟩:=d.ns;⟨o,e'⟩;refine I.write (x:=a) (e:=dx) (by rw [e];exact True.intro) (.inr i) (λ b q t z=>(v.2 b t).trans z) m ?_;refine ⟨by rw [upd_ne O.ne];exact i,?_,O.ne,d.obj,_,d.ns,λ g=>?_,λ g l=>?_⟩
 ·have:=z6p f y fs;lia
 ·show RelO ((putF f y fs).lookup g) (if g=f then some u else j g);rw [z2s];by_cases q:g=f
  ·rw [if_pos q,if_pos q];exact ry
  ·rw [if_neg q,if_neg q];exact r g
 ·by_cases q:g=f
  ·rw [q];exact (z7v f y fs).1
  ·refine (z7v f y fs).2 g (k g λ z=>l ?_);show (if g=f then some u else j g)=none;rw [if_neg q];exact z
theorem Inv.made (I:Inv X pins σ H s):Inv X pins σ (upd (upd H s.heap.objs.size (.own (s.heap.objs.size + 1))) (s.heap.objs.size + 1) (.ins C s.heap.objs.size []))
  { s with heap:=(s.heap.push PySem.W.emptyDict).push (V3 C s.heap.objs.size) }:=by
 have c:(s.heap.push PySem.W.emptyDict).get? s.heap.objs.size=some PySem.W.emptyDict:=Z0 s.heap rfl;have h:((s.heap.push PySem.W.emptyDict).push (V3 C s.heap.objs.size)).get? (s.heap.objs.size + 1)=some (V3 C s.heap.objs.size):=by
  have:=Z0 (s.heap.push PySem.W.emptyDict) (o:=V3 C s.heap.objs.size) rfl
  rwa [K3] at this
 have i:(s.heap.push PySem.W.emptyDict).Ns s.heap.objs.size (λ _=>none):=⟨PySem.W.emptyDict,#[],_,c,rfl,(λ e d=>absurd d (by simp)),λ _=>rfl⟩
 have g:=I.laid (a:=s.heap.objs.size) (o:=.own (s.heap.objs.size + 1)) (h':=s.heap.push PySem.W.emptyDict) (t':=s.toks) (λ b u q=>G0 _ q) (B0 _) ⟨_,c⟩;refine g.laid (a:=s.heap.objs.size + 1) (o:=.ins C s.heap.objs.size []) (t':=s.toks) (λ b u q=>G0 _ q) (K7 (K3 _ _)) ?_;have ne:s.heap.objs.size≠s.heap.objs.size + 1:=B1 (V1 _);refine ⟨by rw [upd_ne ne,upd_same],B2 _,ne,h,λ _=>none,(Heap.Ns1.of_empty i).at λ o q=>G0 _ q,λ _=>True.intro,λ y f=>absurd rfl f⟩
theorem zjn {prog:Program} {w:S0} {env:Env} {e:Expr} {f:Str} {pos:Pos} {s:C0} {Q:Value->C0->Prop} (hb:U3 e f env (v3 e env)=v3 e env)
  (h:W0 (D1 prog w) A (v3 e env) (λ o s₁=>W0 (D1 prog w) A (getAttr o f true) Q E s₁) E s):W0 (D1 prog w) A (v3 (.Attribute e f pos) env) Q E s:=
 Attribute_any_ h (by rw [arm_eval_Attribute,hb])
end
noncomputable def tFld (K:d0) (ta:TE) (f:Str):TE:=λ σ H Q=>ta σ H λ x H1=>∃a C dx fs v,x=.ref a/\H1 a=some (.ins C dx fs)/\Cls K C/\NoAttr K C f/\fs.lookup f=some v/\Q v H1
noncomputable def sFld (K:d0) (ta tv:TE) (f:Str):TS:=λ D σ H=>tv σ H λ y H1=>ta σ H1 λ x H2=>∃a C dx fs,x=.ref a/\H2 a=some (.ins C dx fs)/\Cls K C/\NoAttr K C f/\fs.length < 1000/\
 D.nx σ (upd H2 a (.ins C dx (putF f y fs)))
section
variable {X:Cx} {o e value:Expr} {f:Str} {pos pos' tpos:Pos} {ta tv:TE}
theorem pe_fld (he:PE X e ta) (hb:U3 e f X.env (v3 e X.env)=v3 e X.env):PE X (.Attribute e f pos) (tFld X.K ta f):=by intro g s σ H Q I h;refine zjn hb (thn (he g s σ H _ I h) λ u k ⟨x,H1,I1,rx,a,C,dx,fs,v,ex,ea,c,n,l,q⟩=>?_);subst ex;obtain rfl:u=v1 a:=rx;exact ze8 I1 ea c n l λ j i b d=>⟨v,H1,b,d,q⟩
theorem ps_fld (ha:PE X o ta) (hv:PE X value tv) (hs:R6 value (some (.Attribute o f pos')) pos.line X.env=N3 false):PS X (.Assign [.Attribute o f pos'] value pos) (sFld X.K ta tv f):=by intro b s σ H D I h;refine plainObj_wpAny_Assign_Attribute (thn (hv b s σ H _ I h) λ u g ⟨y,H1,I1,ry,q⟩=>thn (ha b g σ H1 _ I1 q) λ e i ⟨x,H2,I2,rx,a,C,dx,fs,ex,ea,c,n,l,q2⟩=>?_) hs;subst ex;obtain rfl:e=v1 a:=rx;exact zdo I2 ea c n l ry λ j d=>⟨σ,_,d,q2⟩
end
section
variable {X:Cx} {pins:List (Addr×Obj)} {σ:St} {H:Hp} {s:C0} {A:A2} {E:Value->C0->Prop} {Q:Value->C0->Prop} {c:Value} {b:Bool}
inductive TyOf (K:d0) (H:Hp):V->Value->Prop where
 | non:TyOf K H .non (.type "NoneType")
 | bl (x:Bool):TyOf K H (.bl x) (.type "bool")
 | int (i:Int):TyOf K H (.int i) (.type "int")
 | str (x:Str):TyOf K H (.str x) (.type "str")
 | flt (x:UInt64):TyOf K H (.flt x) (.type "float")
 | lst {a:Addr} {xs:List V} (e:H a=some (.lst xs)):TyOf K H (.ref a) (.type "list")
 | frz {a:Addr} {o:Obj} {xs:List V} (e:H a=some (.frz o (.lst xs))):TyOf K H (.ref a) (.type "list")
 | tup {a:Addr} {xs:List V} (e:H a=some (.tup xs)):TyOf K H (.ref a) (.type "tuple")
 | dK {a:Addr} {kvs:List (Key×V)} (e:H a=some (.dK kvs)):TyOf K H (.ref a) (.type "dict")
 | dT {a:Addr} {kvs:List (List Key×V)} (e:H a=some (.dT kvs)):TyOf K H (.ref a) (.type "dict")
 | ins {a C dx:Addr} {fs:List (Str×V)} (e:H a=some (.ins C dx fs)) (cl:Cls K C) (ha:C3 K (.ref C) "__class__" = some (some (.builtin "object.__class__")))
   (hn:j0a K (.builtin "object.__class__") "__get__" = some (some (.builtin "getset_descriptor.__get__"))) (htk:PySem.W.takesIn K (.builtin "object.__class__")=some true)
   (hm:PySem.W.mroIn K C (.type "object")=some true):TyOf K H (.ref a) (.ref C)
theorem zfr {x:V} {u t:Value} (I:Inv X pins σ H s) (rx:RelV x u) (ty:TyOf X.K H x t) (e:PySem.W.kitOne X.K t c=some b) (h :∀tk,Q (.bool b) { s with toks:=tk }) :
  W0 (D1 X.prog X.w) A (call (.builtin "isinstance") [u,c]) Q E s:=by
 cases ty with
 | non=>cases (show u=w6 from rx);exact u3 PySem.W.kitx_none I.kIn True.intro e (λ z=>nomatch z) h
 | bl y=>cases (show u=p4 y from rx);exact u3 PySem.W.kitx_bool I.kIn True.intro e (λ z=>nomatch z) h
 | int i=>obtain ⟨t,q⟩:=(show∃t,u=W6 i t from rx);cases q;exact u3 PySem.W.kitx_int I.kIn True.intro e (λ z=>nomatch z) h
 | str y=>obtain ⟨t,q⟩:=(show∃t,u=n6 y t from rx);cases q;exact u3 PySem.W.kitx_str I.kIn True.intro e (λ z=>nomatch z) h
 | flt y=>obtain ⟨t,q⟩:=(show∃t,u=j03 y t from rx);cases q;exact u3 PySem.W.kitx_float I.kIn True.intro e (λ z=>nomatch z) h
 | @lst a f ea=>
  cases (show u=v1 a from rx);obtain ⟨_,_,n,_,d⟩:=(show ObjOk X.prog X.w H s.heap a (.lst f) from I.hok a _ ea)
  exact u3 j0c I.kIn ⟨_,d,rfl⟩ e (λ z=>nomatch z) h
 | @frz a ob f ea=>
  cases (show u=v1 a from rx);obtain ⟨_,_,_,n,_,d⟩:=(show ObjOk X.prog X.w H s.heap a (.frz ob (.lst f)) from I.hok a _ ea)
  exact u3 j0c I.kIn ⟨_,d,rfl⟩ e (λ z=>nomatch z) h
 | @tup a f ea=>
  cases (show u=v1 a from rx);obtain ⟨_,_,_,p,_⟩:=(show ObjOk X.prog X.w H s.heap a (.tup f) from I.hok a _ ea)
  obtain ⟨o,d,g,_⟩:=p;exact u3 PySem.W.kitx_tuple I.kIn ⟨o,d,g⟩ e (λ z=>nomatch z) h
 | @dK a kvs ea=>
  cases (show u=v1 a from rx);obtain ⟨_,_,r,_,p⟩:=(show ObjOk X.prog X.w H s.heap a (.dK kvs) from I.hok a _ ea)
  obtain ⟨o,j,k,d,g,_⟩:=p;exact u3 j0d I.kIn ⟨o,d,g.1⟩ e (λ z=>nomatch z) h
 | @dT a kvs ea=>
  cases (show u=v1 a from rx);obtain ⟨_,_,f,_,o,j,k,d,g,_⟩:=(show ObjOk X.prog X.w H s.heap a (.dT kvs) from I.hok a _ ea)
  exact u3 j0d I.kIn ⟨o,d,g.1⟩ e (λ z=>nomatch z) h
 | @ins a C dx fs ea cl ha hn htk hm=>cases (show u=v1 a from rx);obtain ⟨l,O,_⟩:=zbw I.hok ea;obtain ⟨m,J,_⟩:=O.look;exact u3 (PySem.W.kitx_own (cl.get _) cl.hd ha hn htk hm) I.kIn J e (λ z=>nomatch z) h
end
structure Room (k:Nat) (A:A2):Prop where
 hd:A.handled=none
 dp:A.depth + 3 * k + 5 < recursionLimit
 un:A.units + 16 * k + 200 < cLine
 gd:A.guards=some []
theorem Room.mono {j k:Nat} {A:A2} (r:Room k A) (h:j<=k):Room j A:=⟨r.hd,by have:=r.dp;lia,by have:=r.un;lia,r.gd⟩
theorem Room.deeper {k:Nat} {A:A2} (r:Room (k + 1) A) (env:Env):Room k (A.deeper env):=
 ⟨r.hd,by have:=r.dp;show A.depth + 1 + 3 * k + 5 < _;lia,by have:=r.un;show A.units + 3 + 16 * k + 200 < _;lia,r.gd⟩
theorem zeq {A:A2} {C:Addr} {us:List Value} {kw:List (Str×Value)}:(A.under (.builtin "type.__call__" ⟨.ref C :: us,kw⟩)).depth=A.depth + 1:=by first|rfl|simp [y8,Code.weight,Code.isCreation,Code.isGuard,Code.isCaller,j0j,J8,guardIds]
theorem zf2 {A:A2} {C:Addr} {us:List Value} {kw:List (Str×Value)}:(A.under (.builtin "type.__call__" ⟨.ref C :: us,kw⟩)).units=A.units + 1:=by first|rfl|simp [y8,Code.cUnits,j0j,J8]
theorem Room.make {k:Nat} {A:A2} (r:Room (k + 1) A) (C:Addr) (us:List Value) (kw:List (Str×Value)):Room k (A.under (.builtin "type.__call__" ⟨.ref C :: us,kw⟩)):=
 ⟨r.hd,by have:=r.dp;rw [zeq];lia,by have:=r.un;rw [zf2];lia,by have h:=r.gd;first|exact h|simp [y8,h,Code.weight,Code.isCreation,Code.isGuard,Code.isCaller,j0j,J8,guardIds]⟩
theorem Room.depth {k:Nat} {A:A2} (r:Room k A):A.depth < recursionLimit:=by have:=r.dp;lia
theorem Room.units {k:Nat} {A:A2} (r:Room k A):A.units + 64 < cLine:=by have:=r.un;lia
noncomputable def tNil:TA:=λ _ H Q=>Q [] H
noncomputable def tCons (ta:TE) (tr:TA):TA:=λ σ H Q=>ta σ H λ x H1=>tr σ H1 λ xs H2=>Q (x :: xs) H2
section
variable {X:Cx} {e:Expr} {es:List Expr} {te:TE} {t:TA} {pos:Pos}
theorem pa_nil:PA X [] tNil:=λ _ _ _ _ H Q I h=>K4 ⟨[],H,I,.nil,h⟩
theorem z00 (ha:PE X e te) (hr:PA X es t) (hs:L1 (e :: es) X.env=(false,v3 e X.env) :: L1 es X.env:=by rfl):PA X (e :: es) (tCons te t):=by intro a b s σ H Q I h;rw [hs];show W0 _ _ (spliced ((false,v3 e X.env) :: L4 a (L1 es X.env))) _ _ s;refine v4 (thn (ha b s σ H _ I h) λ u c ⟨x,H1,I1,r1,q1⟩=>?_);exact thn (hr a b c σ H1 _ I1 q1) λ us d ⟨xs,H2,I2,r2,q2⟩=>⟨x :: xs,H2,I2,.cons r1 r2,q2⟩
noncomputable def tTup (t:TA):TE:=λ σ H Q=>t σ H λ xs H1=>xs.length<=sizeLine/\∀p,H1 p=none->Q (.ref p) (upd H1 p (.tup xs))
noncomputable def tLst (t:TA):TE:=λ σ H Q=>t σ H λ xs H1=>xs.length<=sizeLine/\∀p,H1 p=none->Q (.ref p) (upd H1 p (.lst xs))
theorem pe_tup {x1} (h:PA X es t):PE X (.Tuple es x1 pos) (tTup t):=by intro f s σ H Q I d;refine wpAny_Tuple_spliced (thn (h pos f s σ H _ I d) λ us a ⟨xs,H1,I1,r,z,q⟩=>⟨by rw [<-r.length];exact z,?_⟩);have c:H1 a.heap.objs.size=none:=I1.hok.fresh (B0 _);refine ⟨.ref a.heap.objs.size,upd H1 a.heap.objs.size (.tup xs),I1.laid (t':=a.toks) (λ b u e=>G0 _ e) (B0 _) ?_,rfl,q _ c⟩;exact ⟨z,us,r,IsTupN.new _ _⟩
theorem pe_lst (h:PA X es t):PE X (.List es pos) (tLst t):=by intro f s σ H Q I d;refine wpAny_List_spliced (thn (h pos f s σ H _ I d) λ us a ⟨xs,H1,I1,r,z,q⟩=>⟨by rw [<-r.length];exact z,?_⟩);have c:H1 a.heap.objs.size=none:=I1.hok.fresh (B0 _);refine ⟨.ref a.heap.objs.size,upd H1 a.heap.objs.size (.lst xs),I1.laid (t':=a.toks) (λ b u e=>G0 _ e) (B0 _) ?_,rfl,q _ c⟩;exact ⟨z,us,0,r,Z0 _ rfl⟩
end
noncomputable abbrev Sp:=List V->Hp->VK->XK->Prop
noncomputable abbrev CXT:=List Env->Hp->C0->XK->Value->C0->Prop
structure Env0 (P:Program) (w:S0) (K:d0) (mg:Str->Option Value) (base:Heap) (A:A2) (outer:List Env) (s:C0) (H:Hp):Prop where
 frames:A.frames=some outer
 mod:Mod K mg base
 bs :∀b o,base.get? b=some o->s.heap.get? b=some o/\H b=none
 bsz:base.objs.size<=s.heap.objs.size
 funs:s.heap.FunFrames base outer
 frf :∀b∈frs outer,H b=none
 hok:HOk P w H s.heap
 bare:B7 s.gens
def CE (outer:List Env) (P:Program) (w:S0) (H:Hp) (s:C0) (Q:VK) (u:Value) (s':C0):Prop:=
 ∃v H',s'.os=s.os/\B7 s'.gens/\Un (frs outer) [] H H' s.heap s'.heap/\HOk P w H' s'.heap/\RelV v u/\Q v H'
def CR (CX:CXT) (outer:List Env) (P:Program) (w:S0) (H:Hp) (s:C0) (Q:VK) (E:XK) (r:Result) (s':C0):Prop:=
 match r with
 | .ok (.ret u)=>CE outer P w H s Q u s'
 | .ok _=>False
 | .error e=>CX outer H s E e s'
structure FnOk (P:Program) (w:S0) (K:d0) (mg:Str->Option Value) (base:Heap) (CX:CXT) (k:Nat) (f:Addr) (fd:FuncData) (ps:List Str) (sp:Sp):Prop where
 len :∀vs H Q E,sp vs H Q E->vs.length=ps.length
 run :∀(A:A2) (outer:List Env) (s:C0) (H:Hp) (args:Args) (us:List Value) (vs:List V) (Q:VK) (E:XK),Room k A->Env0 P w K mg base A outer s H->BindsTo s fd args (ps.zip us)->Vals vs us->sp vs H Q E->
  m6 (D1 P w) A (.call (.ref f) args) (CR CX outer P w H s Q E) s
theorem Env0.make {P:Program} {w:S0} {K:d0} {mg:Str->Option Value} {base:Heap} {A:A2} {outer:List Env} {s:C0} {H:Hp} (e:Env0 P w K mg base A outer s H) (C:Addr) (us:List Value) (kw:List (Str×Value)) :
  Env0 P w K mg base (A.under (.builtin "type.__call__" ⟨.ref C :: us,kw⟩)) outer s H:=⟨by first|exact e.frames|(simpa [y8,Code.envs,J8,pushEnvs] using e.frames),e.mod,e.bs,e.bsz,e.funs,e.frf,e.hok,e.bare⟩
section
variable {X:Cx} {pins:List (Addr×Obj)} {σ:St} {H:Hp} {s s':C0}
theorem Inv.env0 (I:Inv X pins σ H s):Env0 X.prog X.w X.K X.mg X.base X.A X.stack s H:=
 ⟨I.ok.frames,I.ok.mod,I.bs,F0 I.ok.bsz I.sz,I.stack,I.stkFree,I.hok,I.bare⟩
theorem Inv.after {Q:VK} {u:Value} (I:Inv X pins σ H s) (h:CE X.stack X.prog X.w H s Q u s'):EP X pins σ Q u s':=by obtain ⟨v,j,a,e,un,f,r,q⟩:=h;obtain ⟨c,g,d,t,i⟩:=s';obtain rfl:i=s.os:=a;exact ⟨v,j,I.call (h':=c) (g':=g) (d':=d) (t':=t) (ch:=[]) un f e (λ b z=>absurd z (by simp)),r,q⟩
end
noncomputable def tCall (sp:Sp) (dvs:List V) (E:XK) (t:TA):TE:=λ σ H Q=>t σ H λ vs H1=>sp (vs++dvs) H1 Q E
noncomputable def tMeth (C:Addr) (m:Str) (sp:Sp) (dvs:List V) (E:XK) (ta:TE) (t:TA):TE:=λ σ H Q=>ta σ H λ x H1=>∃a dx fs,x=.ref a/\H1 a=some (.ins C dx fs)/\fs.lookup m=none/\
 t σ H1 λ vs H2=>sp (x :: (vs++dvs)) H2 Q E
noncomputable def tMake (C:Addr) (sp:Sp) (dvs:List V) (E:XK) (t:TA):TE:=λ σ H Q=>t σ H λ vs H1=>∀x dx,H1 x=none->H1 dx=none->dx≠x->
 sp (.ref x :: (vs++dvs)) (upd (upd H1 dx (.own x)) x (.ins C dx [])) (λ v H2=>v=.non/\Q (.ref x) H2) E
def Binds (K:d0) (fd:FuncData) (ps:List Str) (ds:List Value):Prop:=
 ∀(s:C0) (us:List Value),K.In s.heap->(us++ds).length=ps.length->BindsTo s fd ⟨us,[]⟩ (ps.zip (us++ds))
theorem Binds.all {K:d0} {fd:FuncData} {ps:List Str} (h :∀us:List Value,us.length=ps.length->bindArgs fd ⟨us,[]⟩=N3 (ps.zip us)):Binds K fd ps []:=λ s us _ a=>by rw [Q2] at a⊢;exact .of_eq (h us a)
def Passes (CX:CXT) (X:Cx) (E:XK):Prop:=∀(pins:List (Addr×Obj)) (σ:St) (H:Hp) (s:C0) (e:Value) (s':C0),Inv X pins σ H s->CX X.stack H s E e s'->X.xe e s'
section
variable {X:Cx} {CX:CXT} {k:Nat} {f C:Addr} {fd:FuncData} {ps:List Str} {sp:Sp} {dvs:List V} {ds:List Value} {E:XK} {x m:Str} {p pos apos:Pos} {e o:Expr} {es:List Expr} {ta:TE} {t:TA}
theorem run_fn {pins:List (Addr×Obj)} {σ:St} {H:Hp} {s:C0} {Q:VK} {us:List Value} {vs:List V} (F:FnOk X.prog X.w X.K X.mg X.base CX k f fd ps sp) (hr:Room k X.A) (hb:Binds X.K fd ps ds) (hd:Vals dvs ds) (hx:Passes CX X E)
  (I:Inv X pins σ H s) (r:Vals vs us) (h:sp (vs++dvs) H Q E):W0 (D1 X.prog X.w) X.A (call (.ref f) us) (EP X pins σ Q) X.xe s:=by
 have b:Vals (vs++dvs) (us++ds):=r.append hd;have c:(us++ds).length=ps.length:=by rw [<-b.length];exact F.len _ _ _ _ h
 refine wpAny_call (K6 (F.run X.A X.stack s H ⟨us,[]⟩ (us++ds) (vs++dvs) Q E hr I.env0 (hb s us I.kIn c) b h) λ r d a=>?_);cases r with
 | error e=>exact hx pins σ H s e d I a
 | ok fl=>
  cases fl with
  | ret u=>exact I.after a
  | next=>exact P3 a
  | brk=>exact P3 a
  | cont=>exact P3 a
theorem zis (F:FnOk X.prog X.w X.K X.mg X.base CX k f fd ps sp) (hr:Room k X.A) (hg:Gl X x) (hm:X.mg x=some (.ref f)) (hk:B3 X.K (.ref f)=true) (hb:Binds X.K fd ps ds) (hd:Vals dvs ds) (hx:Passes CX X E)
  (ha:PA X (e :: es) t) (hdb:(x == ("__debug__" : Str))=false:=by decide) (he:L1 (e :: es) X.env=(false,v3 e X.env) :: L1 es X.env:=by rfl) (hpl:(L4 pos (L1 es X.env)).any (·.1)=false:=by rfl) :
  PE X (.Call (.Name x p) (e :: es) [] pos) (tCall sp dvs E t):=by
 intro a s σ H Q I h;refine W3 (zdd I hg hm ?_ hdb);refine l6 (h₀:=X.base) I.ok.mod.kin hk (thn (ha pos a s σ H _ I h) λ us b ⟨vs,H1,I1,r,q⟩=>⟨I1.kIn,?_⟩) he hpl;exact run_fn F hr hb hd hx I1 r q
theorem zde {pl:Sem Bool} (he:PE X o ta) (c:Cls X.K C) (hm:Meth X.K C m f) (F:FnOk X.prog X.w X.K X.mg X.base CX k f fd ps sp) (hr:Room k X.A) (hb:Binds X.K fd ps ds) (hd:Vals dvs ds) (hx:Passes CX X E) (ha:PA X (e :: es) t)
  (hst:L1 (e :: es) X.env=(false,v3 e X.env) :: L1 es X.env:=by rfl) (hpl:(L4 pos (L1 es X.env)).any (·.1)=false:=by rfl)
  (ht:v3 (.Call (.Attribute o m apos) (e :: es) [] pos) X.env=(do
   let ov <-v3 o X.env
   W9 apos.atName
   let (f,first) <-W8 [ov] (getMethod ov m pl)
   callWith pos f first (L4 pos (L1 (e :: es) X.env)) (a9 pos (z7 [] X.env))):=by rfl) :
  PE X (.Call (.Attribute o m apos) (e :: es) [] pos) (tMeth C m sp dvs E ta t):=by
 intro b s σ H Q I h;refine PySem.W.methodCall_KW (pl:=pl) (thn (he b s σ H _ I h) λ u d ⟨x,H1,I1,rx,a,dx,fs,ex,ea,l,q⟩=>?_) ht;subst ex;obtain rfl:u=v1 a:=rx;refine zcy I1 ea c hm l ?_;refine l6 (first:=[.ref a]) (h₀:=X.base) I.ok.mod.kin hm.kp (thn (ha pos b d σ H1 _ I1 q) λ us g ⟨vs,H2,I2,r,q2⟩=>⟨I2.kIn,?_⟩) hst hpl;exact run_fn (us:=.ref a :: us) (vs:=.ref a :: vs) F hr hb hd hx I2 (.cons rfl r) q2
structure Mk (K:d0) (C f:Addr):Prop where
 makes:PySem.W.makesIn K C=true
 init:C3 K (.ref C) "__init__" = some (some (.ref f))
 fn:C9 K (.ref f)=true
 kp:B3 K (.ref C)=true
theorem zif {pins:List (Addr×Obj)} {σ:St} {H:Hp} {s:C0} {Q:VK} {us:List Value} {vs:List V} (M:Mk X.K C f) (F:FnOk X.prog X.w X.K X.mg X.base CX k f fd ps sp) (hr:Room (k + 1) X.A) (hb:Binds X.K fd ps ds) (hd:Vals dvs ds)
  (hx:Passes CX X E) (I:Inv X pins σ H s) (r:Vals vs us)
  (h :∀x dx,H x=none->H dx=none->dx≠x->sp (.ref x :: (vs++dvs)) (upd (upd H dx (.own x)) x (.ins C dx [])) (λ v H2=>v=.non/\Q (.ref x) H2) E) :
  W0 (D1 X.prog X.w) X.A (call (.ref C) us) (EP X pins σ Q) X.xe s:=by
 have d:=h (s.heap.objs.size + 1) s.heap.objs.size (I.hok.fresh (Z3 _)) (I.hok.fresh (B0 _)) (B1 (V1 _));have b:=Inv.made (C:=C) I;have c:Vals (V.ref (s.heap.objs.size + 1) :: (vs++dvs)) (v1 (s.heap.objs.size + 1) :: (us++ds)):=.cons rfl (r.append hd);have l:(v1 (s.heap.objs.size + 1) :: us++ds).length=ps.length:=by have e:=c.length;rw [F.len _ _ _ _ d] at e;exact e.symm
 refine wpAny_call (zhe (f:=f) I.kIn M.makes M.init (beq_iff_eq.mp M.fn) (K6 (F.run _ X.stack _ _ ⟨v1 (s.heap.objs.size + 1) :: us,[]⟩ (v1 (s.heap.objs.size + 1) :: (us++ds)) _ _ E (hr.make C us [])
  (b.env0.make C us []) (hb _ (v1 (s.heap.objs.size + 1) :: us) b.kIn l) c d) λ r j a=>?_))
 cases r with
 | error e=>exact hx pins σ _ _ e j b a
 | ok fl=>
  cases fl with
  | ret u=>obtain ⟨v,o,m,n,i,g⟩:=b.after a;subst i;exact ⟨n,⟨V.ref (s.heap.objs.size + 1),o,m,rfl,g⟩⟩
  | next=>exact P3 a
  | brk=>exact P3 a
  | cont=>exact P3 a
theorem zh0 (M:Mk X.K C f) (F:FnOk X.prog X.w X.K X.mg X.base CX k f fd ps sp) (hr:Room (k + 1) X.A) (hg:Gl X x) (hm:X.mg x=some (.ref C)) (hb:Binds X.K fd ps ds) (hd:Vals dvs ds) (hx:Passes CX X E)
  (ha:PA X (e :: es) t) (hdb:(x == ("__debug__" : Str))=false:=by decide) (he:L1 (e :: es) X.env=(false,v3 e X.env) :: L1 es X.env:=by rfl) (hpl:(L4 pos (L1 es X.env)).any (·.1)=false:=by rfl) :
  PE X (.Call (.Name x p) (e :: es) [] pos) (tMake C sp dvs E t):=by
 intro a s σ H Q I h;refine W3 (zdd I hg hm ?_ hdb);refine l6 (h₀:=X.base) I.ok.mod.kin M.kp (thn (ha pos a s σ H _ I h) λ us b ⟨vs,H1,I1,r,q⟩=>⟨I1.kIn,?_⟩) he hpl;exact zif M F hr hb hd hx I1 r q
end
section
variable {X:Cx} {CX:CXT} {k:Nat} {f C:Addr} {fd:FuncData} {ps ks:List Str} {sp:Sp} {E:XK} {x m:Str} {p pos apos kpos:Pos} {e o:Expr} {es:List Expr} {kws:List Q6} {te ta:TE} {t tk:TA} {nm:Option Str}
structure KBinds (K:d0) (fd:FuncData) (ps ks:List Str) (g:List Value->List Value->List Value) (gV:List V->List V->List V):Prop where
 to :∀(s:C0) (us ws:List Value),K.In s.heap->(g us ws).length=ps.length->BindsTo s fd ⟨us,ks.zip ws⟩ (ps.zip (g us ws))
 rel :∀{vs:List V} {us:List Value} {zs:List V} {ws:List Value},Vals vs us->Vals zs ws->Vals (gV vs zs) (g us ws)
variable {g:List Value->List Value->List Value} {gV:List V->List V->List V}
end
structure FnScope (N P:List Str) (sc:Scope):Prop where
 kind:sc.kind=.function
 co:sc.isCoroutine=false
 gen:sc.isGenerator=false
 nd:N.Nodup
 pre:N.take P.length=P
 par :∀x∈P,sc.names.lookup x=some .local\/sc.names.lookup x=some .cell
 nofree :∀y∈sc.names,y.2≠.free
theorem zbf {kindOf:Str->Option i5} {x:Str} :∀{binds:List (Str×Value)} {m:Str->Option Value},(∀v,(x,v)∉binds)->bindL kindOf binds m x=m x
 | [],_,_=>rfl
 | (n,v) :: r,m,h=>by
  unfold bindL;rw [zbf λ w a=>h w (E1 _ a)];split
  ·have:x≠n:=by rintro rfl;exact h v O1
   simp [this]
  ·rfl
theorem zb8 {kindOf:Str->Option i5} {x:Str} :∀{binds:List (Str×Value)} {m:Str->Option Value},(∀v,(x,v)∉binds)->bindC kindOf binds m x=m x
 | [],_,_=>rfl
 | (n,v) :: r,m,h=>by
  unfold bindC;rw [zb8 λ w a=>h w (E1 _ a)];split
  ·rfl
  ·have:x≠n:=by rintro rfl;exact h v O1
   simp [this]
theorem zb1 {kindOf:Str->Option i5} {x:Str} {v:Value} :∀{P:List Str} {vs:List Value} {i:Nat} {m:Str->Option Value},P.Nodup->P[i]? = some x->vs[i]? = some v->kindOf x=some .local->
  bindL kindOf (P.zip vs) m x=some v
 | [],_,_,_,_,h,_,_=>by simp at h
 | _ :: _,[],_,_,_,_,h,_=>by simp at h
 | p :: P,w :: vs,0,m,nd,h1,h2,hk=>by simp at h1 h2;subst h1;subst h2;show bindL kindOf ((p,w) :: P.zip vs) m p=_;unfold bindL;rw [zbf λ v a=>(List.nodup_cons.mp nd).1 (U8 a).1,if_pos hk];simp
 | p :: P,w :: vs,i + 1,m,nd,h1,h2,hk=>by show bindL kindOf ((p,w) :: P.zip vs) m x=_;unfold bindL;exact zb1 (i:=i) (List.nodup_cons.mp nd).2 (by simpa using h1) (by simpa using h2) hk
theorem zbk {kindOf:Str->Option i5} {x:Str} {v:Value} :∀{P:List Str} {vs:List Value} {i:Nat} {m:Str->Option Value},P.Nodup->P[i]? = some x->vs[i]? = some v->kindOf x≠some .local->
  bindC kindOf (P.zip vs) m x=some v
 | [],_,_,_,_,h,_,_=>by simp at h
 | _ :: _,[],_,_,_,_,h,_=>by simp at h
 | p :: P,w :: vs,0,m,nd,h1,h2,hk=>by simp at h1 h2;subst h1;subst h2;show bindC kindOf ((p,w) :: P.zip vs) m p=_;unfold bindC;rw [zb8 λ v a=>(List.nodup_cons.mp nd).1 (U8 a).1,if_neg hk];simp
 | p :: P,w :: vs,i + 1,m,nd,h1,h2,hk=>by show bindC kindOf ((p,w) :: P.zip vs) m x=_;unfold bindC;exact zbk (i:=i) (List.nodup_cons.mp nd).2 (by simpa using h1) (by simpa using h2) hk
noncomputable def start (N:List Str) (vs:List V):St:=vs.map some++O2 (N.length - vs.length) none
noncomputable def cxOf (CX:CXT) (P:Program) (w:S0) (K:d0) (mg:Str->Option Value) (base:Heap) (N:List Str) (qual:Str) (scope:Scope) (f:Addr) (cd:Value) (A:A2) (outer:List Env) (s:C0) (H:Hp) (E:XK):Cx where
 prog:=P
 w:=w
 K:=K
 mg:=mg
 base:=base
 A:=A.deeper (a8 qual scope s.heap.objs.size f cd)
 N:=N
 s₀:=s
 H₀:=H
 env:=a8 qual scope s.heap.objs.size f cd
 outer:=outer
 stack:=a8 qual scope s.heap.objs.size f cd :: outer
 ex:=[]
 calm:=true
 fn:=λ _=>true
 pn:=[]
 xe:=λ e s'=>W0 (D1 P w) (A.deeper (a8 qual scope s.heap.objs.size f cd)) («leaving» (a8 qual scope s.heap.objs.size f cd) e) (λ _ s''=>CX outer H s E e s'') (λ e' s''=>CX outer H s E e' s'') s'
theorem zdq {sc:Scope} {n:Nat} {x:Str} (h:sc.names.lookup x=some .cell) :∃c,(cellsFrom n sc.names []).lookup x=some c:=by have q:=D9 sc.names n [] (.inl h);exact Option.isSome_iff_exists.mp q
theorem zfm {CX:CXT} {P:Program} {w:S0} {K:d0} {mg:Str->Option Value} {base:Heap} {N ps:List Str} {qual:Str} {scope:Scope} {f:Addr} {cd:Value} {A:A2} {outer:List Env} {s s1:C0} {H:Hp} {E:XK} {us:List Value} {vs:List V}
  (S:FnScope N ps scope) (hd:A.handled=none) (e0:Env0 P w K mg base A outer s H) (hl:vs.length=ps.length) (r:Vals vs us)
  (x:InCallC s s.heap.objs.size (bindL (a8 qual scope s.heap.objs.size f cd).kindOf (ps.zip us) λ _=>none) (cellsFrom (s.heap.objs.size + 1) scope.names []) (bindC (a8 qual scope s.heap.objs.size f cd).kindOf (ps.zip us) λ _=>none) s1) :
  Inv (cxOf CX P w K mg base N qual scope f cd A outer s H E) [] (start N vs) H s1:=by
 have G:ps.length<=N.length:=by have:=congrArg List.length S.pre;rw [n4] at this;lia
 obtain ⟨m,I,rfl,C⟩:=x.done;have o :∀b:Addr,b∉(cxOf CX P w K mg base N qual scope f cd A outer s H E).ex:=λ b z=>absurd (show b∈([]:List Addr) from z) (by simp);refine ⟨⟨e0.mod,S.kind,rfl,rfl,B0 _,λ y z c m d=>?_,λ y g=>?_,λ y c _ h=>?_,λ _=>hd,Around.frames_deeper e0.frames,.inr ⟨rfl,rfl⟩,λ b z=>absurd z (o b),e0.bs,e0.bsz,λ b _ _=>o b,λ b z=>absurd z (o b),e0.funs,e0.frf⟩,
  rfl,e0.bare,Un.kept C,⟨_,x.toInCall.ns,λ i y v m d J=>?_⟩,λ y c h=>⟨_,x.cell y c h⟩,e0.hok.fresh (B0 _),λ y c h=>?_,λ p j=>absurd (show p∈([]:List (Addr×Obj)) from j) (by simp),e0.hok.kept C,?_⟩
 ·exact name_of_addr x.apart (c5 m) (c5 d)
 ·have g:scope.names.lookup y=some .cell\/scope.names.lookup y=some .free:=g;rcases g with g|g
  ·exact zdq g
  ·exact absurd rfl (S.nofree _ (c5 g))
 ·exact N2 (x.above y c (c5 h))
 ·have l:i < vs.length:=by
   unfold start at d;by_cases l:i < vs.length
   ·exact l
   ·rw [K1 (by simpa using l)] at d;rw [b7] at d;split at d<;>cases d
  have F:vs[i]? = some v:=by
   unfold start at d;rw [J1 (by simpa using l),E2] at d;cases e:vs[i]? with
   | none=>rw [e] at d;cases d
   | some a=>rw [e] at d;cases d;rfl
  obtain ⟨u,t,D⟩:=r.get F;have j:ps[i]? = some y:=by rw [<-S.pre,List.getElem?_take_of_lt (by lia)];exact m
  have B:ps.Nodup:=by rw [<-S.pre];exact S.nd.sublist (List.take_sublist _ _)
  refine ⟨u,D,?_⟩;rcases S.par y (o0 j) with k|k
  ·exact .inl ⟨k,zb1 B j t k⟩
  ·obtain ⟨c,e⟩:=zdq (n:=s.heap.objs.size + 1) k;refine .inr ⟨.inl k,c,e,?_⟩;have q:=x.cell y c e;rw [zbk B j t (by show scope.names.lookup y≠_;rw [k];decide)] at q;exact q
 ·exact e0.hok.fresh (N2 (x.above y c (c5 h)))
 ·unfold start;show _=N.length;rw [D0,L0,G3]
  lia
theorem fn_of {CX:CXT} {P:Program} {w:S0} {K:d0} {mg:Str->Option Value} {base:Heap} {k:Nat} {f:Addr} {name qual:Str} {params:Arguments} {body:List Stmt} {scope:Scope} {dV kV doc pm cdv ct oc:Value} {an od:Option Addr}
  {osl:Array (Option Value)} {N ps:List Str} {sp:Sp} (lk:K.lookup f=some ⟨oc,od,.func (v5 name qual params body scope dV kV doc pm an cdv ct),osl⟩) (hcd:F7 K cdv qual=true) (S:FnScope N ps scope)
  (len :∀vs H Q E,sp vs H Q E->vs.length=ps.length)
  (hbody :∀(A:A2) (outer:List Env) (s:C0) (H:Hp) (vs:List V) (Q:VK) (E:XK),Room k (A.deeper (a8 qual scope s.heap.objs.size f cdv))->sp vs H Q E->
   ∃t,PSs (cxOf CX P w K mg base N qual scope f cdv A outer s H E) body t/\t { nx:=λ _ H'=>Q .non H',rt:=Q } (start N vs) H) :
  FnOk P w K mg base CX (k + 1) f (v5 name qual params body scope dV kV doc pm an cdv ct) ps sp:=by
 refine ⟨len,λ A outer s H M us vs Q E h c p r l=>?_⟩;have F:=len _ _ _ _ l;have KX:K.In s.heap:=c.mod.kin.keeps λ b o e=>(c.bs b o e).1;have G:s.heap.NoLimit:=c.mod.nolimit.keeps λ b o e=>(c.bs b o e).1;have C :∀y∈ps.zip us,scope.names.lookup y.1=some .local\/(scope.names.lookup y.1=some .cell/\((cellsFrom (s.heap.objs.size + 1) scope.names []).lookup y.1).isSome=true):=λ ⟨n,v⟩ hy=>by
  rcases S.par n (U8 hy).1 with q|q
  ·exact .inl q
  ·exact .inr ⟨q,D9 _ _ _ (.inl q)⟩
 refine codeAny_call_function h.depth (KX _ _ lk) rfl S.co S.gen rfl (PySem.W.codeRec_of KX hcd) (p _ _ _ _ ?_);refine wpAny_newFunctionEnv_cells S.kind C λ O B m x=>?_;subst B;refine ⟨G.keeps x.toInCall.keep,codeAny_func ?_⟩;obtain ⟨t,z,D⟩:=hbody A outer s H vs Q E (h.deeper _) l;have I:Inv (cxOf CX P w K mg base N qual scope f cdv A outer s H E) [] (start N vs) H m:=zfm S h.hd c F r x;refine L3 (z [] m (start N vs) H _ I D) (λ L i a=>?_) λ e i a=>a;have j :∀{d:St} {H':Hp} {v:V} {u:Value},Inv (cxOf CX P w K mg base N qual scope f cdv A outer s H E) [] d H' i->RelV v u->Q v H'->CE outer P w H s Q u i:=
  λ {d H' v u} J g q=>⟨v,H',J.os,J.bare,J.base,J.hok,g,q⟩
 cases L with
 | ret u=>obtain ⟨v,d,H',J,g,q⟩:=a;exact j J g q
 | next=>obtain ⟨d,H',J,q⟩:=a;exact j (v:=V.non) (u:=w6) J rfl q
 | brk=>obtain ⟨_,_,_,q⟩:=a;exact P3 q
 | cont=>obtain ⟨_,_,_,q⟩:=a;exact P3 q
section
variable {X:Cx} {x:Str} {p pos:Pos} {e:Expr} {es:List Expr} {t:TA} {id T:String} {r:List V->Hp->VK->Prop}
noncomputable def tCB (r:List V->Hp->VK->Prop) (t:TA):TE:=λ σ H Q=>t σ H λ vs H1=>r vs H1 Q
theorem z0h (hc:CallR X (.builtin id) r) (hg:Gl X x) (hm:X.mg x=none) (hv:l5 x=some (.builtin id)) (ha:PA X (e :: es) t) (hn:x≠"__name__":=by decide) (hdb:(x == ("__debug__" : Str))=false:=by decide)
  (he:L1 (e :: es) X.env=(false,v3 e X.env) :: L1 es X.env:=by rfl) (hpl:(L4 pos (L1 es X.env)).any (·.1)=false:=by rfl):PE X (.Call (.Name x p) (e :: es) [] pos) (tCB r t):=by
 intro a s σ H Q I h;refine W3 (ld_blt I hg hm hv ?_ hn hdb);exact Y7 (thn (ha pos a s σ H _ I h) λ us b ⟨vs,H1,I1,r1,q1⟩=>hc a b σ H1 vs us Q I1 r1 q1) he hpl
theorem z52 (hc:CallR X (.type T) r) (hg:Gl X x) (hm:X.mg x=none) (hv:l5 x=some (.type T)) (ha:PA X (e :: es) t) (hn:x≠"__name__":=by decide) (hdb:(x == ("__debug__" : Str))=false:=by decide)
  (he:L1 (e :: es) X.env=(false,v3 e X.env) :: L1 es X.env:=by rfl) (hpl:(L4 pos (L1 es X.env)).any (·.1)=false:=by rfl):PE X (.Call (.Name x p) (e :: es) [] pos) (tCB r t):=by
 intro a s σ H Q I h;refine W3 (ld_blt I hg hm hv ?_ hn hdb);exact P2 (thn (ha pos a s σ H _ I h) λ us b ⟨vs,H1,I1,r1,q1⟩=>hc a b σ H1 vs us Q I1 r1 q1) he hpl
end
end L2
namespace HT
open PySem PyProof.Rows
section
variable {prog:Program} {w:S0} {A:A2} {E:Value->C0->Prop} {s:C0}
theorem cat_tup {t b:Addr} {vs ws:List Value} {Q:Value->C0->Prop} (ht:IsTup s.heap t vs.toArray) (hb:IsTup s.heap b ws.toArray) (hv:vs≠[])
  (h1:ws=[]->Q (.ref t) s) (h2:ws≠[]->Q (.ref s.heap.objs.size) { s with heap:=s.heap.push { cls:=.type "tuple",data:=.seq (vs++ws).toArray } })
  (hsz:vs.length + ws.length<=sizeLine):W0 (D1 prog w) A (V4 .Add (.ref t) (.ref b)) Q E s:=by
 obtain ⟨⟨cls,k,data,j⟩,c,f,n,g⟩:=id ht;obtain ⟨⟨p,i,o,h⟩,a,d,l,m⟩:=id hb;simp only at f g d m;subst f g d m;have e:vs.toArray++ws.toArray=(vs++ws).toArray:=by simp
 by_cases hw:ws=[]
 ·exact concat_meets ⟨_,c,rfl⟩ ⟨_,a,rfl⟩ B9 seq_tuple_add Y6 P6 (D6 _ _)
   (tuple_addW1 t b vs.toArray ws.toArray n l k i j h (by simpa using hv) (by simp [hw])) ⟨c,a,h1 hw⟩
 ·refine concat_meets ⟨_,c,rfl⟩ ⟨_,a,rfl⟩ B9 seq_tuple_add Y6 P6 (D6 _ _)
   (tuple_addW2 t b vs.toArray ws.toArray n l k i j h (by simpa using hv) (by simpa using hw) (by rw [U0,U0];exact hsz)) ⟨c,a,?_⟩
  rw [e];exact h2 hw
noncomputable def sIx (n d:Nat):Option Int->Nat
 | none=>d
 | some v=>if v < 0 then (v + (n:Int)).toNat else min v.toNat n
theorem sIx_none (n d:Nat):sIx n d none=d:=rfl
theorem sIx_nat (n d k:Nat):sIx n d (some (k:Int))=min k n:=by show (if (k:Int) < 0 then ((k:Int) + (n:Int)).toNat else min (k:Int).toNat n)=min k n;rw [if_neg (by lia),M8]
theorem sIx_le (n d:Nat) (hd:d<=n) (o:Option Int):sIx n d o<=n:=by
 cases o with
 | none=>exact hd
 | some v=>
  show (if v < 0 then (v + (n:Int)).toNat else min v.toNat n)<=n;by_cases hv:v < 0
  ·rw [if_pos hv];lia
  ·rw [if_neg hv];exact Nat.min_le_right _ _
theorem zh3 (v:Int) (n d:Nat):(if v < 0 then max (v + (n:Int)) 0 else min v (n:Int))=((sIx n d (some v):Nat):Int):=by
 show (if v < 0 then max (v + (n:Int)) 0 else min v (n:Int))=(((if v < 0 then (v + (n:Int)).toNat else min v.toNat n):Nat):Int);by_cases hv:v < 0
 ·simp only [if_pos hv];lia
 ·simp only [if_neg hv];lia
theorem ze4 (lo hi:Option Int) (n:Nat):W5 lo hi 1 (n:Int)=(((sIx n 0 lo:Nat):Int),((sIx n n hi:Nat):Int)):=by
 have a:¬ ((1:Int) < 0):=by lia
 unfold W5;simp only [a,if_false];refine j0e ?_ ?_
 ·cases lo with
  | none=>rfl
  | some v=>exact zh3 v n 0
 ·cases hi with
  | none=>rfl
  | some v=>exact zh3 v n n
theorem zdf (i j:Nat):E4 (i:Int) (j:Int) 1=j - i:=by
 unfold E4;have a:(1:Int) > 0:=by lia
 simp only [a,if_true,Int.ediv_one];split<;>lia
theorem z9e {v:Value} {o:Option Int} {Q:Option Int->C0->Prop} (p:T8 v o) (h:Q o s):W0 (D1 prog w) A (Builtin.Slice.slicePartIndex v) Q E s:=by
 cases p with
 | none=>exact slicePart_none h
 | int i t=>exact slicePart_int h
theorem z5v {sl:Addr} {vl vu:Value} {lo hi:Option Int} {n:Nat} {Q:Int×Int×Nat->C0->Prop} (hs:s.heap.IsSliceOf sl vl vu .none) (pl:T8 vl lo) (pu:T8 vu hi)
  (h:Q (((sIx n 0 lo:Nat):Int),1,sIx n n hi - sIx n 0 lo) s):W0 (D1 prog w) A (u8 (.ref sl) (N3 (n:Int))) Q E s:=by
 obtain ⟨d,a,c,b⟩:=id hs;unfold u8 Builtin.Slice.sliceFields;refine v0 (v0 (r6 a b (x:=vl) rfl (v0 (r6 a b (x:=vu) rfl (v0 (r6 a b (x:=.none) rfl (K0 ?_)))))));refine v0 (slicePart_none ?_);show W0 _ _ (if ((1:Int) == 0)=true then _ else _) _ _ s;rw [if_neg (by decide)];refine v0 (z9e pl (v0 (z9e pu (v0 (K0 ?_)))));show W0 _ _ (match W5 lo hi 1 (n:Int) with|(lo,hi)=>N3 (lo,(1:Int),E4 lo hi 1)) _ _ s;rw [ze4 lo hi n];show W0 _ _ (N3 (((sIx n 0 lo:Nat):Int),(1:Int),E4 ((sIx n 0 lo:Nat):Int) ((sIx n n hi:Nat):Int) 1)) _ _ s;rw [zdf];exact K0 h
theorem zhv (xs:Array Value) (i k:Nat):((V0 k).filterMap λ (m:Nat)=>xs[((i:Int) + (m:Int) * 1).toNat]?).toArray=((xs.toList.drop i).take k).toArray:=by
 have e:(λ (m:Nat)=>xs[((i:Int) + (m:Int) * 1).toNat]?)=λ m=>xs[i + m]?:=by
  funext m;have:((i:Int) + (m:Int) * 1).toNat=i + m:=by lia
  rw [this]
 rw [e];have:=pick_run xs i k;rw [List.filterMap_map] at this;have a:((λ x=>xs[x]?) ∘ λ x=>i + x)=λ m=>xs[i + m]?:=rfl;rw [a] at this;rw [this]
theorem getItem_tuple_cut {t sl:Addr} {items:Array Value} {vl vu:Value} {lo hi:Option Int} {Q:Value->C0->Prop} (ht:IsTup s.heap t items) (hs:s.heap.IsSliceOf sl vl vu .none) (pl:T8 vl lo) (pu:T8 vu hi)
  (hw:¬ (sIx items.size 0 lo=0/\sIx items.size items.size hi=items.size))
  (h:Q (.ref s.heap.objs.size) { s with heap:=s.heap.push { cls:=.type "tuple",data:=.seq ((items.toList.drop (sIx items.size 0 lo)).take (sIx items.size items.size hi - sIx items.size 0 lo)).toArray } })
  (hsz:items.size<=sizeLine):W0 (D1 prog w) A (D8 (.ref t) (.ref sl)) Q E s:=by
 have a:sizeOk (.seq ((items.toList.drop (sIx items.size 0 lo)).take (sIx items.size items.size hi - sIx items.size 0 lo)).toArray):=by
  show ((items.toList.drop (sIx items.size 0 lo)).take (sIx items.size items.size hi - sIx items.size 0 lo)).toArray.size<=sizeLine;rw [U0,n4,Z6,J2]
  lia
 have i:sIx items.size items.size hi<=items.size:=sIx_le _ _ (B0 _) hi;obtain ⟨b,e,d,g⟩:=id hs;have c:s.TypeIs (.ref sl) "slice":=⟨b,e,d⟩
 unfold D8
 try with_reducible refine T3 ?_
 first|refine v0 (K0 ?_)|skip
 refine v0 (wpAny_sequenceKey ht.typeIs (by decide) ?_);refine v0 (S7 (name:=j05 "__getitem__") ht.typeIs V7
  (j6 V7 ht.typeIs entry_tuple_getitem ?_ (args_tuple_getitem _ _)))
 show W0 _ _ (Builtin.Tuple.tupleItemsOf (.ref t) >>= _) _ _ s;refine v0 (tupleItemsOf_ ht ?_);refine v0 (wpAny_typeOf c ?_);rw [if_pos (by decide)];refine v0 (z5v hs pl pu ?_);have f:¬ ((((sIx items.size 0 lo:Nat):Int) == 0 && (1:Int) == 1 && (sIx items.size items.size hi - sIx items.size 0 lo) == items.size)=true):=by intro q;rw [d3,d3] at q;have j:((sIx items.size 0 lo:Nat):Int)=0:=eq_of_beq q.1.1;have k:sIx items.size items.size hi - sIx items.size 0 lo=items.size:=eq_of_beq q.2;exact hw ⟨by lia,by lia⟩
 show W0 _ _ (if (((sIx items.size 0 lo:Nat):Int) == 0 && (1:Int) == 1 && (sIx items.size items.size hi - sIx items.size 0 lo) == items.size)=true then _ else _) _ _ s;rw [if_neg f,zhv];first
  | exact v0 (m:=M4 _) (Q3 (K0 ⟨_,rfl,K0 h⟩) a)
  | exact v0 (m:=M4 _) (Q3 (v0 (K0 (K0 ⟨_,rfl,K0 h⟩))) a)
  | exact v0 (v0 (m:=M4 _) (Q3 (K0 (K0 ⟨_,rfl,K0 h⟩)) a))
  | exact v0 (v0 (m:=M4 _) (Q3 (K0 ⟨_,rfl,K0 h⟩) a))
end
end HT
namespace L2
open PySem PySem.Spec PyProof.Rows
noncomputable abbrev TO:=St->Hp->(Option Int->Hp->Prop)->Prop
def PO (X:Cx) (e:Option Expr) (t:TO):Prop:=
 ∀(pins:List (Addr×Obj)) (s:C0) (σ:St) (H:Hp) (Q:Option Int->Hp->Prop),Inv X pins σ H s->t σ H Q->
  W0 (D1 X.prog X.w) X.A (evalPart e X.env) (λ u s'=>∃o H',Inv X pins σ H' s'/\T8 u o/\Q o H') X.xe s
noncomputable def ze5:TO:=λ _ H Q=>Q none H
noncomputable def tPart (t:TE):TO:=λ σ H Q=>t σ H λ x H1=>∃i,x=.int i/\Q (some i) H1
theorem z5y {ns:List Int} :∀{us:List Value},Vals (ns.map V.int) us->O3 us ns:=by
 induction ns with
 | nil=>intro us r;rw [o6] at r;cases r;exact .nil
 | cons n ns ih=>
  intro us r;rw [Y0] at r;cases r with
  | cons r1 r2=>obtain ⟨t,e⟩:=r1;subst e;exact .cons n t (ih r2)
section
variable {X:Cx} {e:Expr} {te:TE} {lo hi:Option Expr} {tl th:TO} {pos p2:Pos}
theorem z6r:PO X none ze5:=by intro a s σ H Q I h;rw [evalPart_none];exact K0 ⟨none,H,I,.none,h⟩
theorem z4q (h:PE X e te):PO X (some e) (tPart te):=by intro b s σ H Q I a;rw [evalPart_some];refine thn (h b s σ H _ I a) λ u c ⟨x,H1,I1,r1,q1⟩=>?_;obtain ⟨i,rfl,q⟩:=q1;obtain ⟨t,rfl⟩:=r1;exact ⟨some i,H1,I1,.int i t,q⟩
def SlR (X:Cx) (r:V->Option Int->Option Int->Hp->VK->Prop):Prop:=
 ∀(pins:List (Addr×Obj)) (s:C0) (σ:St) (H:Hp) (x:V) (v vl vu:Value) (lo hi:Option Int) (sl:Addr) (Q:VK),Inv X pins σ H s->RelV x v->s.heap.IsSliceOf sl vl vu .none->T8 vl lo->T8 vu hi->r x lo hi H Q->
  ∃T id,typeLookup (.type T) "__getitem__" = N3 (some (.builtin id))/\s.TypeIs v T/\W0 (D1 X.prog X.w) X.A (D8 v (.ref sl)) (EP X pins σ Q) X.xe s
theorem SlR.or {r r':V->Option Int->Option Int->Hp->VK->Prop} (h:SlR X r) (h':SlR X r'):SlR X (λ x lo hi H Q=>r x lo hi H Q\/r' x lo hi H Q):=by
 intro i s σ H x v c d lo hi b Q I a e f g q;rcases q with q|q
 ·exact h i s σ H x v c d lo hi b Q I a e f g q
 ·exact h' i s σ H x v c d lo hi b Q I a e f g q
noncomputable def tSl (r:V->Option Int->Option Int->Hp->VK->Prop) (te:TE) (tl th:TO):TE:=λ σ H Q=>te σ H λ x H1=>tl σ H1 λ l H2=>th σ H2 λ u H3=>r x l u H3 Q
theorem z32 {r:V->Option Int->Option Int->Hp->VK->Prop} (hr:SlR X r) (he:PE X e te) (hl:PO X lo tl) (hu:PO X hi th):PE X (.Subscript e (.Slice lo hi none p2) pos) (tSl r te tl th):=by intro c s σ H Q I h;refine Subscript_ (thn (he c s σ H _ I h) λ v n ⟨x,H1,I1,r1,q1⟩=>?_);refine wpAny_Slice (thn (hl c n σ H1 _ I1 q1) λ f i ⟨l,H2,I2,pl,q2⟩=>thn (hu c i σ H2 _ I2 q2) λ d a ⟨u,H3,I3,pu,q3⟩=>?_);rw [evalPart_none];refine K0 ?_;have k:Inv X c σ H3 { a with heap:=a.heap.push { cls:=.type "slice",data:=.fields #[f,d,.none] } }:=I3.kept (t':=a.toks) λ b o q=>G0 _ q;obtain ⟨T,id,j,g,m⟩:=hr c { a with heap:=a.heap.push { cls:=.type "slice",data:=.fields #[f,d,.none] } } σ H3 x v f d l u a.heap.objs.size Q k r1 (Heap.IsSliceOf.new ..) pl pu q3;show W0 (D1 X.prog X.w) X.A (subscriptTail e (.Slice lo hi none p2) v (.ref a.heap.objs.size)) (EP X c σ Q) X.xe { a with heap:=a.heap.push { cls:=.type "slice",data:=.fields #[f,d,.none] } };exact tail_any (ops:=[.ref a.heap.objs.size,v]) g j m (by with_unfolding_all rfl)
noncomputable def cutV (xs:List V) (lo hi:Option Int):List V:=(xs.drop (HT.sIx xs.length 0 lo)).take (HT.sIx xs.length xs.length hi - HT.sIx xs.length 0 lo)
theorem z6g (xs:List V) (lo hi:Option Int):(cutV xs lo hi).length<=xs.length:=by
 unfold cutV;rw [n4,Z6]
 lia
def rSlT (K:d0):V->Option Int->Option Int->Hp->VK->Prop:=λ x lo hi H Q=>∃a xs,x=.ref a/\SqT K H a xs/\
 ¬ (HT.sIx xs.length 0 lo=0/\HT.sIx xs.length xs.length hi=xs.length)/\∀p,H p=none->Q (.ref p) (upd H p (.tup (cutV xs lo hi)))
theorem sl_tup:SlR X (rSlT X.K):=by
 intro u s σ H x v z w d f A Q I j l k t h;obtain ⟨a,c,rfl,m,p,q⟩:=h;cases j;obtain ⟨n,r,g,i⟩:=I.tuple m;have e:n.toArray.size=c.length:=by rw [U0];exact r.length.symm
 refine ⟨"tuple",_,PyProof.Rows.slot_tuple_getitem.lookup,g.typeIs,?_⟩;refine HT.getItem_tuple_cut g l k t (by rw [e];exact p) ?_ (by rw [e];exact i);rw [e];refine ⟨.ref s.heap.objs.size,_,I.laid (t':=s.toks) (o:=.tup (cutV c d f)) (λ b y q=>G0 _ q) (B0 _) ?_,rfl,q _ (I.hok.fresh (B0 _))⟩;exact ⟨F0 (z6g c d f) i,_,(r.drop (HT.sIx c.length 0 d)).take (HT.sIx c.length c.length f - HT.sIx c.length 0 d),IsTupN.new _ _⟩
noncomputable def rCatT (K:d0):R2:=λ x y H Q=>∃a b xs ys,x=.ref a/\y=.ref b/\SqT K H a xs/\SqT K H b ys/\xs≠[]/\xs.length + ys.length<=sizeLine/\
 (ys=[]->Q (.ref a) H)/\(ys≠[]->∀p,H p=none->Q (.ref p) (upd H p (.tup (xs++ys))))
theorem Vals.nil_iff {xs:List V} {us:List Value} (r:Vals xs us):us=[]↔xs=[]:=by
 cases r with
 | nil=>simp
 | cons _ _=>simp
theorem zb4:OpR X (V4 .Add) (rCatT X.K):=by intro A s σ H x y v u Q I f p h;obtain ⟨a,b,k,l,rfl,rfl,m,i,n,e,r,t⟩:=h;cases f;cases p;obtain ⟨D,d,g,_⟩:=I.tuple m;obtain ⟨C,c,j,_⟩:=I.tuple i;refine HT.cat_tup g j (λ z=>n (d.nil_iff.mp z)) (λ z=>⟨.ref a,H,I,rfl,r (c.nil_iff.mp z)⟩) (λ z=>?_) (by rw [<-d.length,<-c.length];exact e);refine ⟨.ref s.heap.objs.size,_,I.laid (t':=s.toks) (o:=.tup (k++l)) (λ b B q=>G0 _ q) (B0 _) ?_,rfl,t (λ w=>z (c.nil_iff.mpr w)) _ (I.hok.fresh (B0 _))⟩;exact ⟨by rw [D0];exact e,_,d.append c,IsTupN.new _ _⟩
end
noncomputable def ixN (n:Nat) (i:Int):Option Nat:=if 0<=i then (if i < n then some i.toNat else none) else if -(n:Int)<=i then some (i + n).toNat else none
noncomputable def atI {α:Type} (xs:List α) (i:Int):Option α:=(ixN xs.length i).bind λ j=>xs[j]?
theorem zgs {n:Nat} {i:Int} {j:Nat} (h:ixN n i=some j):seqIndex? i n=some j/\j < n/\-(n:Int)<=i/\i < n:=by
 unfold ixN at h;by_cases h0:0<=i
 ·rw [if_pos h0] at h;by_cases h1:i < n
  ·rw [if_pos h1] at h;have e:i.toNat=j:=Y1 h;exact ⟨by rw [seqIndex_of h0 h1,e],by lia,by lia,h1⟩
  ·rw [if_neg h1] at h;cases h
 ·rw [if_neg h0] at h;by_cases h1:-(n:Int)<=i
  ·rw [if_pos h1] at h;have e:(i + n).toNat=j:=Y1 h;exact ⟨by rw [seqIndex_neg (by lia) h1,e],by lia,h1,by lia⟩
  ·rw [if_neg h1] at h;cases h
theorem zes {α:Type} {xs:List α} {i:Int} {v:α} (h:atI xs i=some v) :∃j,seqIndex? i xs.length=some j/\xs[j]? = some v/\j < xs.length/\-(xs.length:Int)<=i/\i < xs.length:=by
 unfold atI at h;cases e:ixN xs.length i with
 | none=>rw [e] at h;cases h
 | some j=>rw [e] at h;obtain ⟨d,a,c,b⟩:=zgs e;exact ⟨j,d,h,a,c,b⟩
theorem z04 {α:Type} {xs:List α} {j:Nat} {v:α} (h:xs[j]? = some v):atI xs (j:Int)=some v:=by
 have a:j < xs.length:=(List.getElem?_eq_some_iff.mp h).1;have e:ixN xs.length (j:Int)=some j:=by unfold ixN;rw [if_pos (by lia),if_pos (by lia)];simp
 unfold atI;rw [e];exact h
def zgt (b:Expr):Prop:=∀o i,J9 b false o i=operate [o,i] (D8 o i)
def IxR (X:Cx) (r:R2):Prop:=
 ∀(value slice:Expr) (pins:List (Addr×Obj)) (s:C0) (σ:St) (H:Hp) (x y:V) (v u:Value) (Q:VK),Inv X pins σ H s->RelV x v->RelV y u->r x y H Q->
  J9 slice false v u=operate [v,u] (D8 v u)->W0 (D1 X.prog X.w) X.A (subscriptTail value slice v u) (EP X pins σ Q) X.xe s
def MtR (X:Cx) (id:String) (r:V->List V->Hp->VK->Prop):Prop:=
 ∀(pins:List (Addr×Obj)) (s:C0) (σ:St) (H:Hp) (x:V) (xs:List V) (v:Value) (us:List Value) (Q:VK),Inv X pins σ H s->RelV x v->Vals xs us->r x xs H Q->
  W0 (D1 X.prog X.w) X.A (call (.builtin id) (v :: us)) (EP X pins σ Q) X.xe s
section
variable {X:Cx} {a b:Expr} {ta tb:TE} {pos:Pos}
theorem IxR.or {r r':R2} (h:IxR X r) (h':IxR X r'):IxR X (λ x y H Q=>r x y H Q\/r' x y H Q):=by
 intro a e f s σ H x y v u Q I b c q d;rcases q with q|q
 ·exact h a e f s σ H x y v u Q I b c q d
 ·exact h' a e f s σ H x y v u Q I b c q d
theorem pe_ix {r:R2} (hr:IxR X r) (ha:PE X a ta) (hb:PE X b tb) (hs:zgt b):PE X (.Subscript a b pos) (tOp r ta tb):=by intro i s σ H Q I h;exact Subscript_ (binT ha hb I h λ v u d x y g e c f q=>hr a b i d σ g x y v u Q e c f q (hs _ _))
inductive RIxL (K:d0) (x y:V) (H:Hp) (Q:VK):Prop
 | mk (p:Addr) (xs:List V) (i:Int) (v:V) (a:x=.ref p) (b:y=.int i) (c:SqL K H p xs) (d:atI xs i=some v) (q:Q v H)
noncomputable def rIxL (K:d0):R2:=λ x y H Q=>RIxL K x y H Q
inductive RIxT (K:d0) (x y:V) (H:Hp) (Q:VK):Prop
 | mk (p:Addr) (xs:List V) (i:Int) (v:V) (a:x=.ref p) (b:y=.int i) (c:SqT K H p xs) (d:atI xs i=some v) (q:Q v H)
noncomputable def rIxT (K:d0):R2:=λ x y H Q=>RIxT K x y H Q
noncomputable def rIxS:R2:=λ x y H Q=>∃z i c,x=.str z/\y=.int i/\z.length<=sizeLine/\atI z.cps.toList i=some c/\Q (.str ⟨#[c]⟩) H
theorem ix_list:IxR X (rIxL X.K):=by
 intro L O e s σ H x y v u Q I k D h f;obtain ⟨p,G,i,z,rfl,rfl,n,m,q⟩:=h;cases k;obtain ⟨t,rfl⟩:=D;obtain ⟨C,r,b,J⟩:=I.list n;obtain ⟨j,a,A,N,B,l⟩:=zes m;obtain ⟨w,g,F⟩:=r.get A;have o:=r.length;have M:=line63;have d:EP X e σ Q w s:=⟨z,H,I,F,q⟩
 by_cases h0:0<=i
 ·have c:i.toNat=j:=by rw [seqIndex_of h0 l] at a;exact Y1 a
  exact item_listR b.isList h0 (by lia) (by rw [c];simpa using g) d f
 ·have c:(i + (C.toArray.size:Int)).toNat=j:=by rw [seqIndex_neg (by lia) B] at a;rw [U0,<-o];exact Y1 a
  exact subscriptTail_builtinR (x:=w) b.isList.typeIs slot_list_getitem.lookup
   (wpAny_getItem_list_neg (Q:=λ r E=>r=w/\EP X e σ Q r E) b.isList (by lia) (by rw [U0]<;>lia) (by lia) (by rw [c];simpa using g) ⟨rfl,d⟩) f
theorem ix_tup:IxR X (rIxT X.K):=by
 intro J N b s σ H x y v u Q I c m h g;obtain ⟨p,D,i,z,rfl,rfl,f,e,q⟩:=h;cases c;obtain ⟨t,rfl⟩:=m;obtain ⟨F,r,a,G⟩:=I.tuple f;obtain ⟨j,n,l,M,E,C⟩:=zes e;obtain ⟨w,o,B⟩:=r.get l;have k:=r.length;have L:=line63;have d:EP X b σ Q w s:=⟨z,H,I,B,q⟩
 exact subscriptTail_builtinR (x:=w) a.typeIs slot_tuple_getitem.lookup
  (getItem_tuple (j:=j) (Q:=λ r A=>r=w/\EP X b σ Q r A) a (by lia) (by lia) (by rw [U0,<-k];exact n) (by simpa using o) ⟨rfl,d⟩) g
theorem ix_str:IxR X rIxS:=by
 intro A D p s σ H x y v u Q I b n h g;obtain ⟨z,i,c,rfl,rfl,w,f,q⟩:=h;obtain ⟨t,rfl⟩:=b;obtain ⟨r,rfl⟩:=n;obtain ⟨j,a,l,C,m,e⟩:=zes f;have k:z.cps.toList.length=z.length:=by simp [Str.length]
 rw [k] at a m e;have B:=line63;exact tail_any (typeIs_str s z t) slot_str_getitem.lookup (getItem_str (c:=c) (by have o:decide (i < -(2 ^ 63:Int))=false:=decide_eq_false (by lia);have d:decide (i ≥ 2 ^ 63)=false:=decide_eq_false (by lia);rw [o,d,Bool.or_false]) (by rw [a];simpa using l) ⟨.str ⟨#[c]⟩,H,I.tok _,⟨_,rfl⟩,q⟩) g
noncomputable def rIx (K:d0):R2:=λ x y H Q=>rIxL K x y H Q\/rIxT K x y H Q\/rIxS x y H Q
theorem ix_seq:IxR X (rIx X.K):=ix_list.or (ix_tup.or ix_str)
theorem zd1 (its:List Value) (n j:Nat) (u:Value):Y4 (·.setIfInBounds j u) { cls:=.type "list",data:=.seq its.toArray n }={ cls:=.type "list",data:=.seq (its.set j u).toArray n }:=by simp [Y4]
theorem Inv.lst {pins:List (Addr×Obj)} {σ:St} {H:Hp} {s:C0} {p:Addr} {xs:List V} (I:Inv X pins σ H s) (h:H p=some (.lst xs)) :
  ∃(its:List Value) (n:Nat),Vals xs its/\s.heap.get? p=some { cls:=.type "list",data:=.seq its.toArray n }/\xs.length<=sizeLine:=by
 obtain ⟨z,its,n,r,e⟩:=I.hok p _ h;exact ⟨its,n,r,e,z⟩
theorem Inv.lstUpd {pins:List (Addr×Obj)} {σ:St} {H:Hp} {s:C0} {p:Addr} {xs ys:List V} {its its':List Value} {n n':Nat} {f:Obj->Obj} (I:Inv X pins σ H s) (h:H p=some (.lst xs))
  (ho:s.heap.get? p=some { cls:=.type "list",data:=.seq its.toArray n }) (hf:f { cls:=.type "list",data:=.seq its.toArray n }={ cls:=.type "list",data:=.seq its'.toArray n' }) (r:Vals ys its') (hz:ys.length<=sizeLine) (t:Nat) :
  Inv X pins σ (upd H p (.lst ys)) { s with heap:=s.heap.update p f,toks:=t }:=by
 have e:(s.heap.update p f).get? p=some { cls:=.type "list",data:=.seq its'.toArray n' }:=by rw [J4 f ho (by rw [hf]<;>rfl),hf]
 refine I.write (x:=p) (e:=p) (by rw [h];trivial) (.inl rfl) (λ b u a q=>(A4 _ _ (c4 a)).trans q) ⟨_,e⟩ ?_;exact ⟨hz,its',n',r,e⟩
def rSetL:V->V->V->Hp->(Hp->Prop)->Prop:=λ o i v H Q=>∃p xs k j,o=.ref p/\i=.int k/\H p=some (.lst xs)/\ixN xs.length k=some j/\Q (upd H p (.lst (xs.set j v)))
theorem z49:PSet X rSetL:=by
 intro x s σ H o i v F D u Q I C z w h;obtain ⟨p,y,k,j,rfl,rfl,f,A,q⟩:=h;cases C;obtain ⟨t,rfl⟩:=z;obtain ⟨l,n,r,c,B⟩:=I.lst f;obtain ⟨a,E,m,g⟩:=zgs A;have b:=r.length;have G:=line63;have e:Inv X x σ (upd H p (.lst (y.set j v))) { s with heap:=s.heap.update p (Y4 (·.setIfInBounds j u)) }:=
  I.lstUpd f c (zd1 l n j u) (r.set w j) (by rw [List.length_set];exact B) s.toks
 by_cases h0:0<=k
 ·have d:k.toNat=j:=by rw [seqIndex_of h0 g] at a;exact Y1 a
  exact PySem.W.ki_setAt c h0 (by lia) (by rw [U0,<-b];exact g) (by rw [d];exact ⟨_,e,q⟩)
 ·have d:(k + (l.toArray.size:Int)).toNat=j:=by rw [seqIndex_neg (by lia) m] at a;rw [U0,<-b];exact Y1 a
  exact PySem.W.ki_setBack c (by lia) (by rw [U0,<-b];exact m) (by lia) (by rw [d];exact ⟨_,e,q⟩)
theorem zat (lo hi:Option Int) (n:Nat):(u6 lo hi none n).1=((HT.sIx n 0 lo:Nat):Int)/\(u6 lo hi none n).2.1=((HT.sIx n n hi:Nat):Int)/\(u6 lo hi none n).2.2=1:=by
 refine ⟨?_,?_,rfl⟩
 ·cases lo with
  | none=>simp [u6,HT.sIx]
  | some i=>
   simp only [u6,HT.sIx,Option.getD_none,show (1:Int) > 0 by decide,if_true];by_cases h:i < 0
   ·simp only [h,if_true]<;>lia
   ·simp only [h,if_false]<;>lia
 ·cases hi with
  | none=>simp [u6,HT.sIx]
  | some i=>
   simp only [u6,HT.sIx,Option.getD_none,show (1:Int) > 0 by decide,if_true];by_cases h:i < 0
   ·simp only [h,if_true]<;>lia
   ·simp only [h,if_false]<;>lia
theorem z8y (its:List Value) (lo hi:Option Int):slicePick its.toArray lo hi none=((its.drop (HT.sIx its.length 0 lo)).take (HT.sIx its.length its.length hi - HT.sIx its.length 0 lo)).toArray:=by obtain ⟨c,a,b⟩:=zat lo hi its.toArray.size;unfold slicePick;rw [c,a,b];simp only [sliceRange_one,pick_run,U0]<;>rfl
def rSlL (K:d0):V->Option Int->Option Int->Hp->VK->Prop:=λ x lo hi H Q=>∃a xs,x=.ref a/\SqL K H a xs/\∀p,H p=none->Q (.ref p) (upd H p (.lst (cutV xs lo hi)))
theorem sl_list:SlR X (rSlL X.K):=by intro p s σ H x v y t d e z Q I g k j n h;obtain ⟨a,c,rfl,l,q⟩:=h;cases g;obtain ⟨w,r,f,m⟩:=I.list l;have i:=r.length;refine ⟨"list",_,slot_list_getitem.lookup,f.isList.typeIs,?_⟩;refine wpAny_getItem_list_slice f.isList k j n .none (by simp) ?_ (by rw [U0]<;>lia);rw [z8y,<-i];refine ⟨.ref s.heap.objs.size,_,I.laid (t':=s.toks) (o:=.lst (cutV c d e)) (λ b u q=>G0 _ q) (B0 _) ?_,rfl,q _ (I.hok.fresh (B0 _))⟩;exact ⟨F0 (z6g c d e) m,_,0,(r.drop (HT.sIx c.length 0 d)).take (HT.sIx c.length c.length e - HT.sIx c.length 0 d),Z0 _ rfl⟩
noncomputable def flatV:V->Bool
 | .non=>true
 | .bl _=>true
 | .int _=>true
 | .str _=>true
 | _=>false
noncomputable def eqV:V->V->Bool
 | .non,.non=>true
 | .bl a,.bl b=>a == b
 | .bl a,.int b=>(if a then 1 else 0) == b
 | .int a,.bl b=>a == (if b then 1 else 0)
 | .int a,.int b=>a == b
 | .str a,.str b=>a == b
 | _,_=>false
theorem eqAt_V {A:A2} {s:C0} {y x:V} {u v:Value} (ry:RelV y u) (rx:RelV x v) (fy:flatV y=true) (fx:flatV x=true):SeqAt.EqAt A s u v (eqV y x):=by
 cases y with
 | non=>
  cases ry;cases x with
  | non=>cases rx;exact SeqAt.EqAt.same _
  | bl b=>cases rx;exact SeqAt.EqAt.none_bool b
  | int b=>obtain ⟨t,rfl⟩:=rx;exact SeqAt.EqAt.none_int b t
  | str b=>obtain ⟨t,rfl⟩:=rx;exact SeqAt.EqAt.none_str b t
  | _=>exact absurd (show false=true from fx) A1
 | bl a=>
  cases ry;cases x with
  | non=>cases rx;exact SeqAt.EqAt.bool_none a
  | bl b=>cases rx;exact SeqAt.EqAt.bool_bool a b
  | int b=>obtain ⟨t,rfl⟩:=rx;exact SeqAt.EqAt.bool_int a b t
  | str b=>obtain ⟨t,rfl⟩:=rx;exact SeqAt.EqAt.bool_str a b t
  | _=>exact absurd (show false=true from fx) A1
 | int a=>
  obtain ⟨c,rfl⟩:=ry;cases x with
  | non=>cases rx;exact SeqAt.EqAt.int_none a c
  | bl b=>cases rx;exact SeqAt.EqAt.int_bool a c b
  | int b=>obtain ⟨t,rfl⟩:=rx;exact SeqAt.EqAt.int_int a c b t
  | str b=>obtain ⟨t,rfl⟩:=rx;exact M9 a c b t
  | _=>exact absurd (show false=true from fx) A1
 | str a=>
  obtain ⟨c,rfl⟩:=ry;cases x with
  | non=>cases rx;exact SeqAt.EqAt.str_none a c
  | bl b=>cases rx;exact SeqAt.EqAt.str_bool a c b
  | int b=>obtain ⟨t,rfl⟩:=rx;exact L9 a c b t
  | str b=>obtain ⟨t,rfl⟩:=rx;exact K9 a c b t
  | _=>exact absurd (show false=true from fx) A1
 | _=>exact absurd (show false=true from fy) A1
noncomputable def eqU (x:V) (u:Value):Bool:=match u with
 | .none=>eqV .non x
 | .bool b=>eqV (.bl b) x
 | .int i _=>eqV (.int i) x
 | .str z _=>eqV (.str z) x
 | _=>false
theorem eqU_of {x y:V} {u:Value} (r:RelV y u) (f:flatV y=true):eqU x u=eqV y x:=by
 cases y with
 | non=>cases r;rfl
 | bl b=>cases r;rfl
 | int i=>obtain ⟨t,rfl⟩:=r;rfl
 | str z=>obtain ⟨t,rfl⟩:=r;rfl
 | _=>exact absurd (show false=true from f) A1
theorem z8d {x:V} :∀{xs:List V} {us:List Value},Vals xs us->xs.all flatV=true->us.any (eqU x)=xs.any λ y=>eqV y x
 | _,_,.nil,_=>rfl
 | y :: xs,u :: us,.cons r t,f=>by rw [List.all_cons,d3] at f;rw [T6,T6,eqU_of r f.1,z8d t f.2]
theorem z5x {A:A2} {s:C0} {x:V} {v:Value} (rx:RelV x v) (fx:flatV x=true) :∀{xs:List V} {us:List Value},Vals xs us->xs.all flatV=true->∀u∈us,SeqAt.EqAt A s u v (eqU x u)
 | _,_,.nil,_=>λ u a=>by cases a
 | y :: xs,u :: us,.cons r t,f=>λ b a=>by
  rw [List.all_cons,d3] at f;rcases List.mem_cons.mp a with rfl|a
  ·rw [eqU_of r f.1];exact eqAt_V r rx f.1 fx
  ·exact z5x rx fx t f.2 b a
noncomputable def inV (x:V) (xs:List V):Bool:=xs.any λ y=>eqV y x
noncomputable def rIn (K:d0) (neg:Bool):R2:=λ x y H Q=>∃p xs,y=.ref p/\(SqL K H p xs\/SqT K H p xs)/\flatV x=true/\xs.all flatV=true/\Q (.bl (if neg then !inV x xs else inV x xs)) H
theorem z3o:OpR X (K2 .In) (rIn X.K false):=by
 intro j s σ H x y v u Q I e g h;obtain ⟨p,k,rfl,a,f,fs,q⟩:=h;cases g;rcases a with a|a
 ·obtain ⟨b,r,c,i⟩:=I.list a;refine SeqAt.in_listAt (eqU x) c.isList (λ w d=>z5x e f r fs w (by simpa using d)) ⟨.bl _,H,I,rfl,?_⟩;rw [show b.toArray.any (eqU x)=b.any (eqU x) by simp,z8d r fs];exact q
 ·obtain ⟨b,r,c,i⟩:=I.tuple a;refine SeqAt.in_tupleAt (eqU x) c (λ w d=>z5x e f r fs w (by simpa using d)) ⟨.bl _,H,I,rfl,?_⟩;rw [show b.toArray.any (eqU x)=b.any (eqU x) by simp,z8d r fs];exact q
theorem z1b:OpR X (K2 .NotIn) (rIn X.K true):=by
 intro j s σ H x y v u Q I e g h;obtain ⟨p,k,rfl,a,f,fs,q⟩:=h;cases g;rcases a with a|a
 ·obtain ⟨b,r,c,i⟩:=I.list a;refine SeqAt.notIn_listAt (eqU x) c.isList (λ w d=>z5x e f r fs w (by simpa using d)) ⟨.bl _,H,I,rfl,?_⟩;rw [show b.toArray.any (eqU x)=b.any (eqU x) by simp,z8d r fs];exact q
 ·obtain ⟨b,r,c,i⟩:=I.tuple a;refine SeqAt.notIn_tupleAt (eqU x) c (λ w d=>z5x e f r fs w (by simpa using d)) ⟨.bl _,H,I,rfl,?_⟩;rw [show b.toArray.any (eqU x)=b.any (eqU x) by simp,z8d r fs];exact q
theorem call_len_seq:CallR X (.builtin "len") (λ xs H Q=>∃p ys,xs=[.ref p]/\(SqL X.K H p ys\/SqT X.K H p ys)/\Q (.int ys.length) H):=by
 intro j s σ H xs us Q I r h;obtain ⟨p,ys,rfl,a,q⟩:=h;obtain ⟨u,rfl,e⟩:=vals1 r;cases e;have i:=line63;rcases a with a|a
 ·obtain ⟨f,b,d,g⟩:=I.list a;have c:=b.length;exact Calls.call_len_list d.isList (by simp only [U0]<;>lia) ⟨.int ys.length,H,I.tok _,⟨s.toks + 1,by rw [U0,c]⟩,q⟩
 ·obtain ⟨f,b,d,g⟩:=I.tuple a;have c:=b.length;exact len_tuple d (by simp only [U0]<;>lia) ⟨.int ys.length,H,I.tok _,⟨s.toks + 1,by rw [U0,c]⟩,q⟩
theorem zay:CallR X (.builtin "len") (λ xs H Q=>∃z,xs=[.str z]/\z.length<=sizeLine/\Q (.int z.length) H):=by intro c s σ H xs us Q I r h;obtain ⟨z,rfl,b,q⟩:=h;obtain ⟨u,rfl,t,rfl⟩:=vals1 r;have a:=line63;exact len_str (by lia) ⟨.int z.length,H,I.tok _,⟨_,rfl⟩,q⟩
theorem CallR.or {f:Value} {r r':List V->Hp->VK->Prop} (h:CallR X f r) (h':CallR X f r'):CallR X f (λ xs H Q=>r xs H Q\/r' xs H Q):=by
 intro a s σ H xs us Q I rs q;rcases q with q|q
 ·exact h a s σ H xs us Q I rs q
 ·exact h' a s σ H xs us Q I rs q
theorem z1l:CallR X (.type "tuple") (λ xs H Q=>∃p ys,xs=[.ref p]/\((SqL X.K H p ys/\∀l,H l=none->Q (.ref l) (upd H l (.tup ys)))\/(SqT X.K H p ys/\Q (.ref p) H))):=by
 intro i s σ H xs us Q I r h;obtain ⟨p,ys,rfl,h⟩:=h;obtain ⟨u,rfl,m⟩:=vals1 r;cases m;rcases h with ⟨f,q⟩|⟨f,q⟩
 ·obtain ⟨g,c,d,k⟩:=I.list f;have v:=c.length;refine call_tuple_list d.isList (λ a t=>?_) (by simp only [U0]<;>lia);have j:Inv X i σ H { s with heap:=a }:=I.kept (t':=s.toks) t;have n:Inv X i σ (upd H a.objs.size (.tup ys)) { s with heap:=a.push { cls:=.type "tuple",data:=.seq g.toArray } }:=
   j.laid (t':=s.toks) (λ b o e=>G0 _ e) (B0 _) (show ObjOk X.prog X.w _ _ _ (.tup ys) from ⟨k,g,c,IsTupN.new _ _⟩)
  exact ⟨.ref a.objs.size,_,n,rfl,q _ (j.hok.fresh (B0 _))⟩
 ·obtain ⟨g,c,d,k⟩:=I.tuple f;exact call_tuple_same d ⟨.ref p,H,I,rfl,q⟩
def tyV (K:d0) (T:String) (x:V) (H:Hp):Prop:=match x with
 | .str _=>T = "str"
 | .int _=>T = "int"
 | .ref p=>(T = "list"/\∃xs,SqL K H p xs)\/(T = "tuple"/\∃o,K.lookup p=some o/\o.cls=.type "tuple"/\o.dict=none)\/
   (T = "dict"/\((∃kvs,H p=some (.dK kvs))\/∃kvs,H p=some (.dT kvs)))\/(T = "set"/\∃S n,H p=some (.set S n))
 | _=>False
theorem tyV_is {pins:List (Addr×Obj)} {σ:St} {H:Hp} {s:C0} {T:String} {x:V} {v:Value} (I:Inv X pins σ H s) (r:RelV x v) (ty:tyV X.K T x H) :
  s.TypeIs v T/\∀a,v=.ref a->∃ob,s.heap.get? a=some ob/\ob.dict=none:=by
 cases x with
 | str z=>obtain ⟨t,rfl⟩:=r;cases (show T = "str" from ty);exact ⟨typeIs_str s z t,λ _ e=>nomatch e⟩
 | int i=>obtain ⟨t,rfl⟩:=r;cases (show T = "int" from ty);exact ⟨typeIs_int s i t,λ _ e=>nomatch e⟩
 | ref p=>
  cases r;rcases ty with ⟨rfl,l,j⟩|⟨rfl,o,b,hc,f⟩|⟨rfl,b⟩|⟨rfl,S,n,b⟩
  ·obtain ⟨m,_,h,_⟩:=I.list j;refine ⟨h.isList.typeIs,λ a e=>?_⟩;cases e;obtain ⟨o,n,e,c,f,_⟩:=h;exact ⟨o,e,f⟩
  ·refine ⟨⟨o,I.kIn p o b,hc⟩,λ a e=>?_⟩;cases e;exact ⟨o,I.kIn _ o b,f⟩
  ·have z :∃o,s.heap.get? p=some o/\o.ExactDict:=by
    rcases b with ⟨k,b⟩|⟨k,b⟩
    ·obtain ⟨_,_,_,_,o,_,_,e,d,_⟩:=I.hok p _ b;exact ⟨o,e,d⟩
    ·obtain ⟨_,_,_,_,o,_,_,e,d,_⟩:=I.hok p _ b;exact ⟨o,e,d⟩
   obtain ⟨o,e,d⟩:=z;refine ⟨⟨o,e,d.1⟩,λ a g=>?_⟩;cases g;exact ⟨o,e,d.2.1⟩
  ·obtain ⟨o,_,_,_,e,d,_⟩:=I.hok p _ b;refine ⟨⟨o,e,d.1⟩,λ a g=>?_⟩;cases g;exact ⟨o,e,d.2.1⟩
 | _=>exact P3 ty
noncomputable def tBM0 (K:d0) (T:String) (r:V->List V->Hp->VK->Prop) (to:TE):TE:=λ σ H Q=>to σ H λ x H1=>tyV K T x H1/\r x [] H1 Q
noncomputable def tBM (K:d0) (T:String) (r:V->List V->Hp->VK->Prop) (to:TE) (t:TA):TE:=λ σ H Q=>to σ H λ x H1=>tyV K T x H1/\t σ H1 λ xs H2=>r x xs H2 Q
variable {o e:Expr} {es:List Expr} {to:TE} {t:TA} {name:Str} {apos cpos:Pos} {T id:String} {r:V->List V->Hp->VK->Prop}
theorem pe_bm0 (pa:PlainAttrs T) (slot:Slot T name id) (hty:typeOf (.builtin id)=N3 (.type "method_descriptor")) (hm:MtR X id r) (ho:PE X o to)
  (hbase:U3 o name X.env (v3 o X.env)=v3 o X.env:=by rfl) (hline:(apos.endLine == cpos.line)=true:=by rfl):PE X (.Call (.Attribute o name apos) [] [] cpos) (tBM0 X.K T r to):=by
 intro a s σ H Q I h;refine wpAny_Call_method0_late hbase hline (thn (ho a s σ H _ I h) λ v d ⟨x,H1,I1,r1,ty,q1⟩=>?_);obtain ⟨b,c⟩:=tyV_is I1 r1 ty;exact ⟨T,id,pa,slot,hty,b,c,w4 rfl (j09 (hm a d σ H1 x [] v [] Q I1 r1 .nil q1))⟩
theorem pe_bm (pa:PlainAttrs T) (slot:Slot T name id) (hty:typeOf (.builtin id)=N3 (.type "method_descriptor")) (hm:MtR X id r) (ho:PE X o to) (ha:PA X (e :: es) t)
  (hbase:U3 o name X.env (v3 o X.env)=v3 o X.env:=by rfl)
  (hfew:((L4 cpos (L1 (e :: es) X.env)).all (λ x=>!x.1) && (a9 cpos (z7 [] X.env)).all (λ x=>x.1.isSome)
   && decide ((e :: es).length + ([]:List Q6).length + (if ([]:List Q6).isEmpty then 0 else 1) < 30))=true:=by rfl)
  (hline:(apos.endLine == cpos.line)=true:=by rfl) (hs:L1 (e :: es) X.env=(false,v3 e X.env) :: L1 es X.env:=by rfl) (hplain:(L4 cpos (L1 es X.env)).any (·.1)=false:=by rfl) :
  PE X (.Call (.Attribute o name apos) (e :: es) [] cpos) (tBM X.K T r to t):=by
 intro a s σ H Q I h;refine wpAny_Call_method_late hbase hfew hline rfl (thn (ho a s σ H _ I h) λ v g ⟨x,H1,I1,r1,ty,q1⟩=>?_);obtain ⟨d,f⟩:=tyV_is I1 r1 ty;refine ⟨T,id,pa,slot,hty,d,f,?_⟩;have b:=ha cpos a g σ H1 _ I1 q1;rw [hs] at b⊢;refine w4 (by show (false || (L4 cpos (L1 es X.env)).any (·.1))=false;rw [hplain]<;>rfl) (W7 ?_);exact thn b λ us c ⟨vs,H2,I2,r2,q2⟩=>hm a c σ H2 x vs v us Q I2 r1 r2 q2
end
def MtM (X:Cx) (id:String) (r:V->List V->Hp->VK->Prop):Prop:=
 ∀(pins:List (Addr×Obj)) (s:C0) (σ:St) (H:Hp) (x:V) (xs:List V) (v:Value) (us:List Value) (Q:VK),Inv X pins σ H s->RelV x v->Vals xs us->r x xs H Q->
  W0 (D1 X.prog X.w) X.A (call (.builtin id) (v :: us)) (EP X pins σ Q) X.xe s
theorem Vals.one :∀{x:V} {us:List Value},Vals [x] us->∃u,us=[u]/\RelV x u
 | _,_,.cons r .nil=>⟨_,rfl,r⟩
theorem Vals.zero :∀{us:List Value},Vals [] us->us=[]
 | _,.nil=>rfl
theorem Vals.dropLast {xs:List V} {us:List Value} (h:Vals xs us):Vals xs.dropLast us.dropLast:=by
 induction h with
 | nil=>exact .nil
 | cons r t ih=>
  cases t with
  | nil=>exact .nil
  | cons q t'=>exact .cons r ih
theorem zf3 {α:Type} (l:List α):l.eraseIdx (l.length - 1)=l.dropLast:=by
 induction l with
 | nil=>rfl
 | cons a r ih=>
  cases r with
  | nil=>rfl
  | cons b r=>
   have e:(a :: b :: r).length - 1=((b :: r).length - 1) + 1:=by
    have d:(a :: b :: r).length=r.length + 2:=rfl;have c:(b :: r).length=r.length + 1:=rfl
    lia
   rw [e,List.eraseIdx_cons_succ,ih]
   all_goals rfl
section
variable {X:Cx} {pins:List (Addr×Obj)} {σ:St} {H:Hp} {s:C0} {l b:Addr} {xs ys zs:List V}
theorem Inv.lset {its its':List Value} {n:Nat} {f:Array Value->Array Value} {t':Nat} (I:Inv X pins σ H s) (hH:H l=some (.lst xs))
  (e:s.heap.get? l=some { cls:=.type "list",data:=.seq its.toArray n }) (hf:f its.toArray=its'.toArray) (hv:Vals ys its') (hz:ys.length<=sizeLine) :
  Inv X pins σ (upd H l (.lst ys)) { s with heap:=s.heap.update l (Y4 f),toks:=t' }:=by
 have q:=PySem.IsL.update e f;rw [hf] at q;refine I.write (x:=l) (e:=l) (by rw [hH];exact trivial) (.inl rfl) (λ c u b a=>(A4 s.heap (Y4 f) (c4 b)).trans a) ⟨_,q⟩ ?_;exact ⟨hz,its',_,hv,q⟩
theorem Inv.lnew {its:List Value} {t':Nat} (I:Inv X pins σ H s) (hv:Vals ys its) (hz:ys.length<=sizeLine) :
  Inv X pins σ (upd H s.heap.objs.size (.lst ys)) { s with heap:=s.heap.push { cls:=.type "list",data:=.seq its.toArray },toks:=t' }:=
 I.laid (λ _ _ q=>G0 _ q) (B0 _) ⟨hz,its,0,hv,Z0 _ rfl⟩
theorem Inv.fresh (I:Inv X pins σ H s):H s.heap.objs.size=none:=I.hok.fresh (B0 _)
theorem Inv.lstM (I:Inv X pins σ H s) (hH:H l=some (.lst xs)):xs.length<=sizeLine/\∃(its:List Value) (n:Nat),Vals xs its/\xs.length=its.length/\s.heap.get? l=some { cls:=.type "list",data:=.seq its.toArray n }:=by obtain ⟨z,its,n,r,e⟩:=I.hok l _ hH;exact ⟨z,its,n,r,r.length,e⟩
end
section
variable {X:Cx}
def zgx:V->List V->Hp->VK->Prop:=λ x vs H Q=>∃l xs y,x=.ref l/\vs=[y]/\H l=some (.lst xs)/\xs.length < sizeLine/\Q .non (upd H l (.lst (xs++[y])))
theorem zgc:MtM X "list.append" zgx:=by
 intro g s σ H x k v us Q I c d h;obtain ⟨l,i,y,rfl,rfl,a,m,q⟩:=h;cases c;obtain ⟨u,rfl,f⟩:=d.one;obtain ⟨z,b,n,r,j,e⟩:=I.lstM a;refine call_meets F.slot_list_append ⟨_,e,rfl⟩ F.entry_list_append (F.args_list_append_2 _ _) (PySem.list_append l b.toArray n u (by rw [U0];lia)) ⟨e,?_⟩;refine ⟨.non,_,I.lset (its':=b++[u]) a e (by simp) (r.append (.cons f .nil)) ?_,rfl,q⟩;rw [D0,P7]
 lia
def rPop:V->List V->Hp->VK->Prop:=λ x vs H Q=>∃l xs y,x=.ref l/\vs=[]/\H l=some (.lst xs)/\xs[xs.length - 1]? = some y/\Q y (upd H l (.lst xs.dropLast))
theorem mt_pop:MtM X "list.pop" rPop:=by
 intro o s σ H x t v us Q I c d h;obtain ⟨l,p,y,rfl,rfl,b,g,q⟩:=h;cases c;have j:=d.zero;subst j;obtain ⟨z,a,n,r,i,e⟩:=I.lstM b;obtain ⟨u,k,m⟩:=r.get g;have f:a.toArray[a.toArray.size - 1]? = some u:=by show a.toArray[a.length - 1]? = some u;rw [<-Array.getElem?_toList,<-i];exact k
 refine call_meets F.slot_list_pop ⟨_,e,rfl⟩ F.entry_list_pop (F.args_list_pop_1 _) (MeetsSeq.list_pop_last l a.toArray n u f (by rw [U0];lia)) ⟨e,?_⟩;refine ⟨y,_,I.lset (its':=a.dropLast) b e ?_ r.dropLast ?_,m,q⟩
 ·show a.toArray.eraseIdxIfInBounds (a.toArray.size - 1)=a.dropLast.toArray;rw [U0,List.eraseIdxIfInBounds_toArray,zf3]
 ·rw [List.length_dropLast]
  lia
noncomputable def rCat:R2:=λ x y H Q=>∃l b xs zs,x=.ref l/\y=.ref b/\H l=some (.lst xs)/\H b=some (.lst zs)/\xs.length + zs.length<=sizeLine/\∀p,H p=none->Q (.ref p) (upd H p (.lst (xs++zs)))
theorem op_cat:OpR X (V4 .Add) rCat:=by
 intro p s σ H x y v u Q I f m h;obtain ⟨l,b,w,o,rfl,rfl,d,k,C,q⟩:=h;cases f;cases m;obtain ⟨z,c,n,r,A,e⟩:=I.lstM d;obtain ⟨B,a,D,j,t,i⟩:=I.lstM k;refine PySem.P.add_list e i ?_ (by rw [U0,U0];lia);have g:c.toArray++a.toArray=(c++a).toArray:=by simp
 rw [g];exact ⟨.ref _,_,I.lnew (t':=s.toks) (r.append j) (by rw [D0];lia),rfl,q _ I.fresh⟩
end
section
variable {prog:Program} {w:S0} {A:A2} {E:Value->C0->Prop} {s:C0}
set_option maxRecDepth 100000 in
end
section
variable {κ:Type} [DecidableEq κ]
noncomputable def valV (kvs:List (κ×V)) (k:κ):Option V:=(kvs.find? λ kv=>decide (kv.1=k)).map (·.2)
noncomputable def putK (kvs:List (κ×V)) (k:κ) (v:V):List (κ×V):=
 if (kvs.any λ kv=>decide (kv.1=k))=true then kvs.map (λ kv=>if kv.1=k then (kv.1,v) else kv) else kvs++[(k,v)]
noncomputable def dropK (kvs:List (κ×V)) (k:κ):List (κ×V):=kvs.filter λ kv=>decide (kv.1≠k)
theorem z0s {p:κ×V} {r:List (κ×V)} {k:κ} (e:p.1=k):valV (p :: r) k=some p.2:=by simp [valV,Y3,e]
theorem z0t {p:κ×V} {r:List (κ×V)} {k:κ} (e:¬ p.1=k):valV (p :: r) k=valV r k:=by simp [valV,Y3,e]
theorem z74 (k:κ) :∀kvs:List (κ×V),(kvs.any λ kv=>decide (kv.1=k))=(valV kvs k).isSome
 | []=>rfl
 | p :: r=>by
  rw [T6];by_cases e:p.1=k
  ·simp only [z0s e,decide_eq_true e,Bool.true_or,Option.isSome_some]
  ·rw [z0t e,decide_eq_false e,Y5];exact z74 k r
theorem ze1 (k j:κ) (y:V) :∀kvs:List (κ×V),valV (kvs.map λ kv=>if kv.1=k then (kv.1,y) else kv) j=(valV kvs j).map λ x=>if j=k then y else x
 | []=>rfl
 | p :: r=>by
  have a:=ze1 k j y r;rw [Y0];by_cases h:p.1=k
  ·rw [if_pos h];by_cases e:p.1=j
   ·rw [z0s (p:=(p.1,y)) e,z0s e,j7,if_pos (e.symm.trans h)]
   ·rw [z0t (p:=(p.1,y)) e,z0t e,a]
  ·rw [if_neg h];by_cases e:p.1=j
   ·rw [z0s (p:=p) e,z0s e,j7,if_neg (λ z=>h (e.trans z))]
   ·rw [z0t (p:=p) e,z0t e,a]
theorem zb6 (k j:κ) (y:V) :∀kvs:List (κ×V),valV kvs k=none->valV (kvs++[(k,y)]) j=if j=k then some y else valV kvs j
 | [],_=>by
  by_cases e:k=j
  ·rw [if_pos e.symm];exact z0s (p:=(k,y)) e
  ·rw [if_neg (λ z=>e z.symm)];exact z0t (p:=(k,y)) e
 | p :: r,hn=>by
  rw [List.cons_append];have a:¬ p.1=k:=λ z=>by rw [z0s z] at hn;cases hn
  rw [z0t a] at hn;have b:=zb6 k j y r hn;by_cases e:p.1=j
  ·rw [z0s e,z0s e,if_neg (λ z=>a (e.trans z))]
  ·rw [z0t e,z0t e,b]
theorem z85 (kvs:List (κ×V)) (k j:κ) (y:V):valV (putK kvs k y) j=if j=k then some y else valV kvs j:=by
 unfold putK;by_cases a:(kvs.any λ b=>decide (b.1=k))=true
 ·rw [if_pos a,ze1];rw [z74] at a;by_cases e:j=k
  ·obtain ⟨x,c⟩:=Option.isSome_iff_exists.mp a;rw [if_pos e,e,c,j7,if_pos rfl]
  ·rw [if_neg e];cases valV kvs j with
   | none=>rfl
   | some x=>rw [j7,if_neg e]
 ·rw [if_neg a];refine zb6 k j y kvs ?_;rw [z74] at a;cases q:valV kvs k with
  | none=>rfl
  | some x=>rw [q] at a;exact (a rfl).elim
theorem z4n (kvs:List (κ×V)) (k:κ) (v:V):(putK kvs k v).length<=kvs.length + 1:=by
 unfold putK;split
 ·rw [L0];lia
 ·rw [D0,C1,X3];lia
theorem RelO.isSome_eq {o:Option V} {u:Option Value} (r:RelO o u):o.isSome=u.isSome:=by
 cases o with
 | none=>cases u with
  | none=>rfl
  | some _=>exact (show False from r).elim
 | some _=>cases u with
  | none=>exact (show False from r).elim
  | some _=>rfl
theorem RelO.getD {o:Option V} {u:Option Value} {d:V} {d':Value} (r:RelO o u) (rd:RelV d d'):RelV (o.getD d) (u.getD d'):=by
 cases o with
 | none=>cases u with
  | none=>exact rd
  | some _=>exact (show False from r).elim
 | some _=>cases u with
  | none=>exact (show False from r).elim
  | some _=>exact r
theorem KV.val {kvs:List (κ×V)} {vs:List (κ×Value)} (r:KV kvs vs) (k:κ):RelO (valV kvs k) (C8 vs k):=by
 unfold KV at r;induction r with
 | nil=>exact True.intro
 | @cons p q ps qs h t ih=>
  obtain ⟨c,d⟩:=h;by_cases e:p.1=k
  ·have a:q.1=k:=c.symm.trans e;have b:C8 (q :: qs) k=some q.2:=by simp [C8,Y3,a]
   rw [z0s e,b];exact d
  ·have a:¬ q.1=k:=λ z=>e (c.trans z);have b:C8 (q :: qs) k=C8 qs k:=by simp [C8,Y3,a]
   rw [z0t e,b];exact ih
theorem KV.any {kvs:List (κ×V)} {vs:List (κ×Value)} (r:KV kvs vs) (k:κ):(kvs.any λ kv=>decide (kv.1=k))=vs.any λ kv=>decide (kv.1=k):=by
 unfold KV at r;induction r with
 | nil=>rfl
 | cons h t ih=>rw [T6,T6,ih,h.1]
theorem KV.repl {kvs:List (κ×V)} {vs:List (κ×Value)} (r:KV kvs vs) (k:κ) {y:V} {u:Value} (ry:RelV y u) :
  KV (kvs.map λ kv=>if kv.1=k then (kv.1,y) else kv) (vs.map λ kv=>if kv.1=k then (kv.1,u) else kv):=by
 unfold KV at r⊢;induction r with
 | nil=>exact .nil
 | @cons p q ps qs h t ih=>
  rw [Y0,Y0];refine .cons ?_ ih;obtain ⟨a,b⟩:=h;by_cases e:p.1=k
  ·rw [if_pos e,if_pos (a.symm.trans e)];exact ⟨a,ry⟩
  ·rw [if_neg e,if_neg (λ z=>e (a.trans z))];exact ⟨a,b⟩
theorem KV.put {kvs:List (κ×V)} {vs:List (κ×Value)} (r:KV kvs vs) (k:κ) {y:V} {u:Value} (ry:RelV y u):KV (putK kvs k y) (stored vs k u):=by
 unfold putK stored;rw [r.any k];by_cases e:(vs.any λ a=>decide (a.1=k))=true
 ·rw [if_pos e,if_pos e];exact r.repl k ry
 ·rw [if_neg e,if_neg e];exact Paired.snoc r ⟨rfl,ry⟩
theorem KV.drop {kvs:List (κ×V)} {vs:List (κ×Value)} (r:KV kvs vs) (k:κ):KV (dropK kvs k) (without vs k):=by
 unfold KV at r⊢;unfold dropK without;induction r with
 | nil=>exact .nil
 | @cons p q ps qs h t ih=>
  obtain ⟨c,f⟩:=h;rw [N5,N5];by_cases e:p.1=k
  ·have a:¬ decide (p.1≠k)=true:=by simp [e]
   have b:¬ decide (q.1≠k)=true:=by simp [c.symm.trans e]
   rw [if_neg a,if_neg b];exact ih
  ·have d:¬ q.1=k:=λ z=>e (c.trans z);have a:decide (p.1≠k)=true:=by simp [e]
   have b:decide (q.1≠k)=true:=by simp [d]
   rw [if_pos a,if_pos b];exact .cons ⟨c,f⟩ ih
theorem KV.length {kvs:List (κ×V)} {vs:List (κ×Value)} (r:KV kvs vs):kvs.length=vs.length:=t9 r
theorem zhk (kvs:List (κ×V)) (k:κ):(dropK kvs k).length<=kvs.length:=U1 _ _
end
theorem kV_is {P:Program} {w:S0} {k:Key} {u:Value} (r:RelV (kV k) u):(z0q P w).is k u=true:=by
 cases k with
 | inl i=>obtain ⟨t,e⟩:=(show∃t,u=W6 i t from r);subst e;exact zcm P w i t
 | inr x=>obtain ⟨t,e⟩:=(show∃t,u=n6 x t from r);subst e;exact zcp P w x t
theorem zbq {P:Program} {w:S0} :∀{ks:List Key} {us:List Value},Vals (ks.map kV) us->ItemsAre (z0q P w) ks us
 | [],_,r=>by rw [o6] at r;cases r;exact .nil
 | k :: ks,_,r=>by
  rw [Y0] at r;cases r with
  | cons h t=>exact .cons (kV_is h) (zbq t)
abbrev KT (H:Hp):List (List Key×V)->List (List Key×Addr×Value)->Prop:=G7 λ p q=>p.1=q.1/\H q.2.1=some (.tup (p.1.map kV))/\RelV p.2 q.2.2
theorem KT.val {H:Hp} {kvs:List (List Key×V)} {xs:List (List Key×Addr×Value)} (r:KT H kvs xs) (k:List Key):RelO (valV kvs k) ((T7 xs k).map (·.2)):=by
 induction r with
 | nil=>exact True.intro
 | @cons p q ps qs h t ih=>
  obtain ⟨c,_,d⟩:=h;by_cases e:p.1=k
  ·have a:q.1=k:=c.symm.trans e;have b:T7 (q :: qs) k=some q.2:=by simp [T7,Y3,a]
   rw [z0s e,b];exact d
  ·have a:¬ q.1=k:=λ z=>e (c.trans z);have b:T7 (q :: qs) k=T7 qs k:=by simp [T7,Y3,a]
   rw [z0t e,b];exact ih
theorem KT.repl {H:Hp} {kvs:List (List Key×V)} {xs:List (List Key×Addr×Value)} (r:KT H kvs xs) (k:List Key) {y:V} {u:Value} (ry:RelV y u) :
  KT H (kvs.map λ kv=>if kv.1=k then (kv.1,y) else kv) (xs.map (putAt k u)):=by
 induction r with
 | nil=>exact .nil
 | @cons p q ps qs h t ih=>
  rw [Y0,Y0];refine .cons ?_ ih;obtain ⟨a,b,c⟩:=h;unfold putAt;by_cases e:p.1=k
  ·rw [if_pos e,if_pos (a.symm.trans e)];exact ⟨a,b,ry⟩
  ·rw [if_neg e,if_neg (λ z=>e (a.trans z))];exact ⟨a,b,c⟩
theorem KT.put {H:Hp} {kvs:List (List Key×V)} {xs:List (List Key×Addr×Value)} (r:KT H kvs xs) (k:List Key) {b:Addr} {y:V} {u:Value} (hb:H b=some (.tup (k.map kV))) (ry:RelV y u) :
  KT H (putK kvs k y) (storedH xs k b u):=by
 have e:(kvs.any λ a=>decide (a.1=k))=(T7 xs k).isSome:=by rw [z74,(r.val k).isSome_eq,F6]
 unfold putK storedH;rw [e];by_cases q:(T7 xs k).isSome=true
 ·rw [if_pos q,if_pos q];exact r.repl k ry
 ·rw [if_neg q,if_neg q];exact Paired.snoc r ⟨rfl,hb,ry⟩
theorem KT.keeps {H H':Hp} {kvs:List (List Key×V)} {xs:List (List Key×Addr×Value)} (r:KT H kvs xs) (ht :∀b ys,H b=some (.tup ys)->H' b=some (.tup ys)):KT H' kvs xs:=
 Paired.mapP r λ _ _ z=>⟨z.1,ht _ _ z.2.1,z.2.2⟩
section
variable {P:Program} {w:S0} {H:Hp} {h:Heap} {a:Addr}
theorem rd_of {u:HO} (ok:HOk P w H h) (e:Rd H a u):ObjOk P w H h a u:=e.ok ok
theorem dk_rd {kvs:List (Key×V)} (ok:HOk P w H h) (e:Rd H a (.dK kvs)):kvs.length<=sizeLine/\(a == M3)=false/\∃vs,KV kvs vs/\h.DictOf (z0q P w) a vs:=
 show ObjOk P w H h a (.dK kvs) from rd_of ok e
theorem dk_of {kvs:List (Key×V)} (ok:HOk P w H h) (e:H a=some (.dK kvs)):kvs.length<=sizeLine/\(a == M3)=false/\∃vs,KV kvs vs/\h.DictOf (z0q P w) a vs:=dk_rd ok (.inl e)
theorem key_of {ks:List Key} (ok:HOk P w H h) (e:H a=some (.tup (ks.map kV))):(M5 (z0q P w)).is h ks a:=by
 obtain ⟨_,b,r,⟨o,d,f,n,c⟩,_⟩:=(show ObjOk P w H h a (.tup (ks.map kV)) from ok a _ e)
 exact ⟨o,b.toArray,n,d,f,c,by simpa using zbq r⟩
theorem dt_rd {kvs:List (List Key×V)} (ok:HOk P w H h) (e:Rd H a (.dT kvs)):kvs.length<=sizeLine/\(a == M3)=false/\
  ∃xs,KT H kvs xs/\h.DictOfH (M5 (z0q P w)) a xs:=by
 obtain ⟨z,y,xs,r,o,j,k,g,i,f,c,d⟩:=(show ObjOk P w H h a (.dT kvs) from rd_of ok e)
 refine ⟨z,y,xs,r,o,j,k,g,i,f,c,λ x b=>?_,d⟩;have all :∀{l:List (List Key×V)} {m:List (List Key×Addr×Value)},KT H l m->∀x∈m,(M5 (z0q P w)).is h x.1 x.2.1:=by
  intro l m q;induction q with
  | nil=>intro x b;exact nomatch b
  | @cons p q ps qs hq t ih=>
   intro x b;rcases List.mem_cons.mp b with e|b
   ·subst e;exact key_of ok (by rw [<-hq.1];exact hq.2.1)
   ·exact ih x b
 exact all r x b
theorem dt_of {kvs:List (List Key×V)} (ok:HOk P w H h) (e:H a=some (.dT kvs)):kvs.length<=sizeLine/\(a == M3)=false/\
  ∃xs,KT H kvs xs/\h.DictOfH (M5 (z0q P w)) a xs:=dt_rd ok (.inl e)
end
def DGet (H:Hp) (a:Addr) (y:V) (r:Option V):Prop:=
 (∃kvs k,Rd H a (.dK kvs)/\y=kV k/\r=valV kvs k)\/∃kvs k b,Rd H a (.dT kvs)/\y=.ref b/\H b=some (.tup (k.map kV))/\r=valV kvs k
def DPut (H:Hp) (a:Addr) (y v:V) (H':Hp):Prop:=
 (∃kvs k,H a=some (.dK kvs)/\y=kV k/\kvs.length < sizeLine/\H'=upd H a (.dK (putK kvs k v)))\/
 ∃kvs k b,H a=some (.dT kvs)/\y=.ref b/\H b=some (.tup (k.map kV))/\kvs.length < sizeLine/\H'=upd H a (.dT (putK kvs k v))
theorem DGet.k {H:Hp} {a:Addr} {kvs:List (Key×V)} {k:Key} (e:H a=some (.dK kvs)):DGet H a (kV k) (valV kvs k):=.inl ⟨kvs,k,.inl e,rfl,rfl⟩
theorem DPut.k {H:Hp} {a:Addr} {kvs:List (Key×V)} {k:Key} {v:V} (e:H a=some (.dK kvs)) (hl:kvs.length < sizeLine):DPut H a (kV k) v (upd H a (.dK (putK kvs k v))):=.inl ⟨kvs,k,e,rfl,hl,rfl⟩
section
variable {X:Cx} {pins:List (Addr×Obj)} {σ:St} {H:Hp} {s:C0} {a:Addr} {y v:V} {u r:Value} {o:Option V} {A:A2} {E:Value->C0->Prop}
theorem Inv.big (I:Inv X pins σ H s):M3 < s.heap.objs.size:=by have h:y3 < s.heap.objs.size:=(I.mod.glob.keeps I.bk).lt;exact J7 (by decide) h
theorem zgh {Q:Value->C0->Prop} (hu:A.units + 1 < cLine) (I:Inv X pins σ H s) (g:DGet H a y (some v)) (ry:RelV y u) (h :∀w' s',Inv X pins σ H s'->RelV v w'->Q w' s') :
  W0 (D1 X.prog X.w) A (D8 (.ref a) u) Q E s:=by
 rcases g with ⟨t,k,e,j,l⟩|⟨t,k,b,e,j,eb,l⟩
 ·subst j;obtain ⟨z,n,r,c,i⟩:=dk_rd I.hok e;obtain ⟨w',f,d⟩:=RelO.some_of (v:=v) (o:=C8 r k) (by rw [l];exact c.val k);exact wpAny_getItem_of (kV_is ry) i.mapOf f (h w' _ (I.tok _) d)
 ·subst j;cases (show u=v1 b from ry);obtain ⟨z,n,m,c,i⟩:=dt_rd I.hok e;obtain ⟨w',f,d⟩:=RelO.some_of (v:=v) (o:=(T7 m k).map (·.2)) (by rw [l];exact c.val k);obtain ⟨p,x,q⟩:=Option.map_eq_some_iff.mp f;refine wpAny_getItem_heap (U6 hu) (key_of I.hok eb) i x ?_;rw [q];exact h w' _ (I.tok _) d
theorem d_in {Q:Value->C0->Prop} (hu:A.units + 1 < cLine) (I:Inv X pins σ H s) (g:DGet H a y o) (ry:RelV y u) (h :∀s',Inv X pins σ H s'->Q (.bool o.isSome) s') :
  W0 (D1 X.prog X.w) A (K2 .In u (.ref a)) Q E s:=by
 rcases g with ⟨j,k,e,i,l⟩|⟨j,k,b,e,i,eb,l⟩
 ·subst i;obtain ⟨z,c,n,d,f⟩:=dk_rd I.hok e;refine wpAny_in_of (kV_is ry) c f.mapOf ?_;rw [<-(d.val k).isSome_eq,<-l];exact h _ (I.tok _)
 ·subst i;cases (show u=v1 b from ry);obtain ⟨z,c,m,d,f⟩:=dt_rd I.hok e;refine wpAny_in_heap (U6 hu) (key_of I.hok eb) c f ?_;have q:=(d.val k).isSome_eq;rw [F6] at q;rw [<-q,<-l];exact h _ (I.tok _)
theorem z8u {h':Heap} {t':Nat} {ob:HO} (I:Inv X pins σ H s) (mu:Mut (H a)) (hs:J5 a s.heap h') (he :∃q,h'.get? a=some q) (new:ObjOk X.prog X.w (upd H a ob) h' a ob) :
  Inv X pins σ (upd H a ob) { s with heap:=h',toks:=t' }:=
 I.write (x:=a) (e:=a) mu (.inl rfl) (λ b q c z=>(hs.2 b c).trans z) he new
theorem dk_new {P:Program} {w:S0} {H':Hp} {h':Heap} {kvs:List (Key×V)} {vs:List (Key×Value)} (z:kvs.length<=sizeLine) (hd:(a == M3)=false) (rel:KV kvs vs) (dd:h'.DictOf (z0q P w) a vs) :
  ObjOk P w H' h' a (.dK kvs):=⟨z,hd,vs,rel,dd⟩
theorem zgg {H':Hp} {Q:Unit->C0->Prop} (hu:A.units + 1 < cLine) (I:Inv X pins σ H s) (g:DPut H a y v H') (ry:RelV y u) (rv:RelV v r) (h :∀s',Inv X pins σ H' s'->Q () s') :
  W0 (D1 X.prog X.w) A (setItem (.ref a) u r) Q E s:=by
 rcases g with ⟨d,k,e,m,l,p⟩|⟨d,k,b,e,m,eb,l,p⟩
 ·subst m p;obtain ⟨z,t,N,f,B⟩:=dk_of I.hok e;have x:N.length<=sizeLine:=by rw [<-f.length];exact z
  have o:(putK d k v).length<=sizeLine:=by have:=z4n d k v;lia
  refine wpAny_setItem_pairs (hsz:=x) (kV_is ry) B λ C j n=>h _ ?_;have G :∃q,C.get? a=some q:=let ⟨q,_,_,i,_⟩:=j;⟨q,i⟩;exact z8u I (by rw [e];exact True.intro) n G (dk_new o t (f.put k rv) j)
 ·subst m p;cases (show u=v1 b from ry);obtain ⟨z,t,J,f,B⟩:=dt_of I.hok e;have x:J.length<=sizeLine:=by rw [<-t9 f];exact z
  have o:(putK d k v).length<=sizeLine:=by have:=z4n d k v;lia
  refine wpAny_setItem_heap (hsz:=x) (U6 hu) (key_of I.hok eb) B λ C j n=>h _ ?_;obtain ⟨q,P,K,i,L,O,M,_,F⟩:=j;refine z8u I (by rw [e];exact True.intro) n ⟨q,i⟩ ⟨o,t,_,(f.put k eb rv).keeps λ c R D=>?_,q,P,K,i,L,O,M,F⟩;rw [upd_ne (ne_of D e (λ z=>nomatch z))];exact D
end
section
variable {X:Cx} {pins:List (Addr×Obj)} {σ:St} {H:Hp} {s:C0} {a:Addr} {kvs:List (Key×V)} {k:Key} {u:Value} {A:A2} {E:Value->C0->Prop}
theorem d_pop {v:V} {more:List Value} {Q:Value->C0->Prop} (I:Inv X pins σ H s) (e:H a=some (.dK kvs)) (ry:RelV (kV k) u) (l:valV kvs k=some v) (hm:more=[]\/∃x,more=[x])
  (h :∀w' s',Inv X pins σ (upd H a (.dK (dropK kvs k))) s'->RelV v w'->Q w' s'):W0 (D1 X.prog X.w) A (call (.builtin "dict.pop") (.ref a :: u :: more)) Q E s:=by
 obtain ⟨z,j,c,b,f⟩:=dk_of I.hok e;obtain ⟨w',n,B⟩:=RelO.some_of (v:=v) (o:=C8 c k) (by rw [<-l];exact b.val k);have y:(keyPart u).isSome=true:=by
  cases k with
  | inl i=>obtain ⟨t,q⟩:=(show∃t,u=W6 i t from ry);subst q;rfl
  | inr x=>obtain ⟨t,q⟩:=(show∃t,u=n6 x t from ry);subst q;rfl
 have r:argsOk "dict.pop" ⟨.ref a :: u :: more,[]⟩:=by
  rcases hm with q|⟨x,q⟩
  ·subst q;exact PySem.F.args_dict_pop_2 _ _
  ·subst q;exact PySem.F.args_dict_pop_3 _ _ _
 refine Z8 N9 f.typeIs PySem.F.entry_dict_pop r (meets_dict_pop_there (z0q X.prog X.w) a (kV_is ry) more hm y)
  ⟨c,w',f,by rw [<-b.length];exact z,n,λ m d p=>h w' _ ?_ B⟩
 have g :∃q,m.get? a=some q:=let ⟨q,_,_,hq,_⟩:=d;⟨q,hq⟩;exact z8u I (by rw [e];exact True.intro) p g (dk_new (F0 (zhk kvs k) z) j (b.drop k) d)
end
def NoSl (i:Expr):Prop:=∀ov iv,J9 i false ov iv=operate [ov,iv] (D8 ov iv)
theorem zjb {prog:Program} {w:S0} {A:A2} {E:Value->C0->Prop} {s:C0} {env:Env} {value slice:Expr} {pos:Pos} {T id:String} {Q:Value->C0->Prop}
  (hl:typeLookup (.type T) "__getitem__" = N3 (some (.builtin id))) (hs:NoSl slice)
  (h:W0 (D1 prog w) A (v3 value env) (λ o s₁=>W0 (D1 prog w) A (v3 slice env) (λ i s₂=>s₂.TypeIs o T/\W0 (D1 prog w) A (D8 o i) Q E s₂) E s₁) E s) :
  W0 (D1 prog w) A (v3 (.Subscript value slice pos) env) Q E s:=by
 refine Subscript_ (L3 h (λ o s₁ e=>L3 e (λ i s₂ a=>?_) λ _ _ x=>x) λ _ _ x=>x);obtain ⟨c,a⟩:=a;unfold subscriptTail;refine v0 ?_;rw [getitemInPython_of_ne c.not_modules];refine v0 (wpAny_specialOf c hl ?_);have b:W0 (D1 prog w) A (J9 slice false o i) (λ r d=>W0 (D1 prog w) A (letTemporaryGo value o r >>= λ _=>N3 r) Q E d) E s₂:=by rw [hs o i];exact wpAny_operating (L3 a (λ r d f=>v0 (wpAny_letTemporaryGo (K0 f))) λ _ _ x=>x)
 first
  | exact K0 (v0 b)
  | exact v0 (K0 (v0 b))
  | exact v0 b
theorem zck {X:Cx} {pins:List (Addr×Obj)} {σ:St} {H:Hp} {s:C0} {a:Addr} {y:V} {o:Option V} (I:Inv X pins σ H s) (g:DGet H a y o):s.TypeIs (.ref a) "dict":=by
 rcases g with ⟨d,k,e,_,_⟩|⟨d,k,b,e,_,_,_⟩
 ·obtain ⟨_,_,h,_,c⟩:=dk_rd I.hok e;exact c.typeIs
 ·obtain ⟨_,_,f,_,c⟩:=dt_rd I.hok e;exact c.typeIs
noncomputable def tDGet (td ty:TE):TE:=λ σ H Q=>td σ H λ x H1=>ty σ H1 λ y H2=>∃a v,x=.ref a/\DGet H2 a y (some v)/\Q v H2
noncomputable def tDIn (ty td:TE):TE:=λ σ H Q=>ty σ H λ y H1=>td σ H1 λ x H2=>∃a o,x=.ref a/\DGet H2 a y o/\Q (.bl o.isSome) H2
noncomputable def sDPut (td ty tv:TE):TS:=λ D σ H=>tv σ H λ v H1=>td σ H1 λ x H2=>ty σ H2 λ y H3=>∃a H4,x=.ref a/\DPut H3 a y v H4/\D.nx σ H4
section
variable {X:Cx} {o i e value:Expr} {pos pos' tpos:Pos} {td ty tv:TE}
theorem z8b (hu:X.A.units + 1 < cLine) (ho:PE X o td) (hi:PE X i ty) (hs:NoSl i):PE X (.Subscript o i pos) (tDGet td ty):=by intro b s σ H Q I h;refine zjb PySem.F.slot_dict_getitem.lookup hs (thn (ho b s σ H _ I h) λ u c ⟨x,H1,I1,rx,q1⟩=>thn (hi b c σ H1 _ I1 q1) λ k j ⟨y,H2,I2,ry,a,v,ex,g,q2⟩=>?_);subst ex;obtain rfl:u=v1 a:=rx;exact ⟨zck I2 g,zgh hu I2 g ry λ f l d e=>⟨v,H2,d,e,q2⟩⟩
theorem pc_din (hu:X.A.units + 1 < cLine) (hi:PE X i ty) (ho:PE X o td):PC X .In i o (tDIn ty td):=by intro b s σ H Q I h;refine thn (hi b s σ H _ I h) λ f d ⟨y,H1,I1,ry,q1⟩=>thn (ho b d σ H1 _ I1 q1) λ u e ⟨x,H2,I2,rx,a,ov,ex,g,q2⟩=>?_;subst ex;obtain rfl:u=v1 a:=rx;exact d_in hu I2 g ry λ j c=>⟨.bl ov.isSome,H2,c,rfl,q2⟩
theorem z4u (hu:X.A.units + 1 < cLine) (ho:PE X o td) (hi:PE X i ty) (hv:PE X value tv) (hs:R6 value (some (.Subscript o i pos')) pos.line X.env=N3 false) :
  PS X (.Assign [.Subscript o i pos'] value pos) (sDPut td ty tv):=by
 intro b s σ H D I h;refine wpAny_Assign_Subscript (thn (hv b s σ H _ I h) λ r e ⟨v,H1,I1,rv,q1⟩=>thn (ho b e σ H1 _ I1 q1) λ u c ⟨x,H2,I2,rx,q2⟩=>thn (hi b c σ H2 _ I2 q2) λ f j ⟨y,H3,I3,ry,a,H4,ex,g,q3⟩=>?_) hs;subst ex;obtain rfl:u=v1 a:=rx;exact zgg hu I3 g ry rv λ k d=>⟨σ,H4,d,q3⟩
end
theorem ze3 {P:Program} {w:S0} {H:Hp} (h:Heap) (hb:M3 < h.objs.size):ObjOk P w H (h.push { cls:=.type "dict",data:=.dict #[] }) h.objs.size (.dK []):=
 ⟨B2 _,beq_eq_false_iff_ne.mpr (c4 (B1 hb)),[],.nil,Heap.DictOf.new h⟩
noncomputable def tDNewK:TE:=λ _ H Q=>∀p,H p=none->Q (.ref p) (upd H p (.dK []))
section
variable {X:Cx} {pos:Pos}
theorem z77:PE X (.Dict [] [] pos) tDNewK:=λ b s σ H Q I h=>wpAny_Dict_empty ⟨.ref s.heap.objs.size,_,I.laid (a:=s.heap.objs.size) (o:=.dK []) (t':=s.toks) (λ _ _ q=>G0 _ q) (B0 _) (ze3 s.heap I.big),rfl,h _ (I.hok.fresh (B0 _))⟩
end
noncomputable def tPairs:List (TE×TE)->St->Hp->(List (V×V)->Hp->Prop)->Prop
 | [],_,H,Q=>Q [] H
 | (tk,tv) :: r,σ,H,Q=>tk σ H λ x H1=>tv σ H1 λ y H2=>tPairs r σ H2 λ ps H3=>Q ((x,y) :: ps) H3
abbrev VV:List (V×V)->List (Value×Value)->Prop:=G7 λ p q=>RelV p.1 q.1/\RelV p.2 q.2
def PPs (X:Cx) (pos:Pos) (keys:List (Option Expr)) (values:List Expr) (trs:List (TE×TE)):Prop:=
 ∀(pins:List (Addr×Obj)) (s:C0) (σ:St) (H:Hp) (Q:List (V×V)->Hp->Prop),Inv X pins σ H s->tPairs trs σ H Q->
  W0 (D1 X.prog X.w) X.A (evalPairs (pairTrees keys values X.env pos)) (λ vs s'=>∃ps H',Inv X pins σ H' s'/\VV ps vs/\Q ps H') X.xe s
theorem zd2 {X:Cx} {pos:Pos}:PPs X pos [] [] []:=λ a s σ H Q I h=>pairTrees_nil_walk ⟨[],H,I,.nil,h⟩
theorem za4 {X:Cx} {pos:Pos} {k v:Expr} {ks:List (Option Expr)} {vs:List Expr} {tk tv:TE} {trs:List (TE×TE)} (hk:PE X k tk) (hv:PE X v tv) (hr:PPs X pos ks vs trs) :
  PPs X pos (some k :: ks) (v :: vs) ((tk,tv) :: trs):=λ a s σ H Q I h=>
 pairTrees_cons_walk (thn (hk a s σ H _ I h) λ u c ⟨x,H1,I1,rx,q1⟩=>thn (hv a c σ H1 _ I1 q1) λ e b ⟨y,H2,I2,ry,q2⟩=>thn (hr a b σ H2 _ I2 q2) λ d f ⟨ps,H3,I3,rel,q3⟩=>⟨(x,y) :: ps,H3,I3,.cons ⟨rx,ry⟩ rel,q3⟩)
noncomputable def mergeK (kvs more:List (Key×V)):List (Key×V):=more.foldl (λ acc kv=>putK acc kv.1 kv.2) kvs
theorem KV.merge :∀{more:List (Key×V)} {rs:List (Key×Value)} {kvs:List (Key×V)} {vs:List (Key×Value)},KV more rs->KV kvs vs->KV (mergeK kvs more) (merged vs rs):=by
 intro more rs kvs vs r;unfold KV at r;induction r generalizing kvs vs with
 | nil=>intro q;exact q
 | @cons p q ps qs h t ih=>
  intro a;have e:KV (putK kvs p.1 p.2) (stored vs q.1 q.2):=by have:=a.put p.1 h.2;rw [<-h.1];exact this
  exact ih e
theorem z4o :∀(more kvs:List (Key×V)),(mergeK kvs more).length<=kvs.length + more.length
 | [],kvs=>by show kvs.length<=kvs.length + 0;lia
 | p :: r,kvs=>by have b:=z4o r (putK kvs p.1 p.2);have a:=z4n kvs p.1 p.2;show (mergeK (putK kvs p.1 p.2) r).length<=_;rw [C1];lia
theorem z9r {P:Program} {w:S0} :∀{kvs:List (Key×V)} {ws:List (Value×Value)},VV (kvs.map λ kv=>(kV kv.1,kv.2)) ws->∃rs,Carries (z0q P w) ws rs/\KV kvs rs
 | [],_,r=>by rw [o6] at r;cases r;exact ⟨[],True.intro,.nil⟩
 | p :: kvs,_,r=>by
  rw [Y0] at r;cases r with
  | @cons a b as bs h t=>obtain ⟨rs,c,q⟩:=z9r (P:=P) (w:=w) t;obtain ⟨e,d⟩:=b;exact ⟨(p.1,d) :: rs,⟨kV_is h.1,rfl,c⟩,.cons ⟨rfl,h.2⟩ q⟩
noncomputable def tDisp (trs:List (TE×TE)):TE:=λ σ H Q=>∀p,H p=none->tPairs trs σ (upd H p (.dK [])) λ ps H2=>H2 p=some (.dK [])/\∃kvs:List (Key×V),ps=kvs.map (λ kv=>(kV kv.1,kv.2))/\kvs.length<=15/\Q (.ref p) (upd H2 p (.dK (mergeK [] kvs)))
theorem zej {X:Cx} {pos:Pos} {keys:List (Option Expr)} {values:List Expr} {trs:List (TE×TE)} (h:PPs X pos keys values trs) (hall:keys.all (·.isSome)=true) (hl:keys.length=values.length) (h0:keys≠[])
  (h15:keys.length<=15):PE X (.Dict keys values pos) (tDisp trs):=by
 intro d s σ H Q I q;have p:=I.hok.fresh (B0 s.heap.objs.size);have i:=I.laid (a:=s.heap.objs.size) (o:=.dK []) (h':=s.heap.push { cls:=.type "dict",data:=.dict #[] }) (t':=s.toks) (λ _ _ q=>G0 _ q) (B0 _) (ze3 s.heap I.big);refine wpAny_Dict_walk (knd:=z0q X.prog X.w) hall hl h0 h15 (thn (h d _ σ _ _ i (q _ p)) λ t u ⟨ps,H2,I2,rel,e,kvs,ep,lk,q2⟩=>?_);subst ep;obtain ⟨rs,c,n⟩:=z9r (P:=X.prog) (w:=X.w) rel;obtain ⟨z,j,v,l,r⟩:=dk_of I2.hok e;cases l;refine ⟨rs,c,r,λ h' b g=>⟨.ref s.heap.objs.size,_,?_,rfl,q2⟩⟩;have m:(mergeK [] kvs).length<=sizeLine:=by have k:=z4o kvs [];rw [X3] at k;rw [sizeLine_eq];lia
 have f :∃q,h'.get? s.heap.objs.size=some q:=let ⟨q,_,_,hq,_⟩:=b;⟨q,hq⟩;exact z8u I2 (by rw [e];exact True.intro) g f (dk_new m j (n.merge .nil) b)
structure M1 (X:Cx) (o:Expr) (m:Str) (apos:Pos) (e:Expr) (cpos:Pos):Prop where
 base:U3 o m X.env (v3 o X.env)=v3 o X.env
 few:((L4 cpos (L1 [e] X.env)).all (λ x=>!x.1) && (a9 cpos (z7 [] X.env)).all (λ x=>x.1.isSome)
  && decide (([e]:List Expr).length + ([]:List Q6).length + (if ([]:List Q6).isEmpty then 0 else 1) < 30))=true
 line:(apos.endLine == cpos.line)=true
 trees:L4 cpos (L1 [e] X.env)=[(false,v3 e X.env)]
structure M2 (X:Cx) (o:Expr) (m:Str) (apos:Pos) (e f:Expr) (cpos:Pos):Prop where
 base:U3 o m X.env (v3 o X.env)=v3 o X.env
 few:((L4 cpos (L1 [e,f] X.env)).all (λ x=>!x.1) && (a9 cpos (z7 [] X.env)).all (λ x=>x.1.isSome)
  && decide (([e,f]:List Expr).length + ([]:List Q6).length + (if ([]:List Q6).isEmpty then 0 else 1) < 30))=true
 line:(apos.endLine == cpos.line)=true
 trees:L4 cpos (L1 [e,f] X.env)=[(false,v3 e X.env),(false,v3 f X.env)]
def IsD (H:Hp) (a:Addr):Prop:=(∃kvs,Rd H a (.dK kvs))\/∃kvs,Rd H a (.dT kvs)
theorem isD_at {X:Cx} {pins:List (Addr×Obj)} {σ:St} {H:Hp} {s:C0} {a:Addr} (I:Inv X pins σ H s) (d:IsD H a) :
  s.TypeIs (.ref a) "dict"/\(∀b,v1 a=.ref b->∃ob,s.heap.get? b=some ob/\ob.dict=none)/\(a == M3)=false:=by
 rcases d with ⟨i,e⟩|⟨i,e⟩
 ·obtain ⟨_,f,k,_,c⟩:=dk_rd I.hok e;refine ⟨c.typeIs,λ b q=>?_,f⟩;cases q;obtain ⟨ob,_,_,g,h,_⟩:=c;exact ⟨ob,g,h.2.1⟩
 ·obtain ⟨_,f,j,_,c⟩:=dt_rd I.hok e;refine ⟨c.typeIs,λ b q=>?_,f⟩;cases q;obtain ⟨ob,_,_,g,h,_⟩:=c;exact ⟨ob,g,h.2.1⟩
section
variable {X:Cx} {pins:List (Addr×Obj)} {σ:St} {H:Hp} {s:C0} {a:Addr} {y d:V} {u r:Value} {o:Option V} {A:A2} {E:Value->C0->Prop}
theorem d_get1 {Q:Value->C0->Prop} (hu:A.units + 1 < cLine) (I:Inv X pins σ H s) (g:DGet H a y o) (ry:RelV y u) (h :∀w' s',Inv X pins σ H s'->RelV (o.getD .non) w'->Q w' s') :
  W0 (D1 X.prog X.w) A (call (.builtin "dict.get") [.ref a,u]) Q E s:=by
 rcases g with ⟨m,k,e,i,l⟩|⟨m,k,b,e,i,eb,l⟩
 ·subst i;obtain ⟨z,d,n,f,c⟩:=dk_rd I.hok e;refine Z8 i7 c.typeIs E9 (o9 _ _) (meets_dict_get (z0q X.prog X.w) a (kV_is ry) d) ⟨_,c.mapOf,h _ _ (I.tok _) ?_⟩;rw [l];exact (f.val k).getD rfl
 ·subst i;cases (show u=v1 b from ry);obtain ⟨z,d,j,f,c⟩:=dt_rd I.hok e;refine Z8 i7 c.typeIs E9 (o9 _ _) (meetsH_dict_get (M5 (z0q X.prog X.w)) a b d) ⟨U6 hu,k,j,key_of I.hok eb,c,h _ _ (I.tok _) ?_⟩;rw [l];exact (f.val k).getD rfl
end
noncomputable def tDGet1 (td ty:TE):TE:=λ σ H Q=>td σ H λ x H1=>∃a,x=.ref a/\IsD H1 a/\ty σ H1 λ y H2=>∃o,DGet H2 a y o/\Q (o.getD .non) H2
noncomputable def tDPop1 (td ty:TE):TE:=λ σ H Q=>td σ H λ x H1=>∃a,x=.ref a/\IsD H1 a/\ty σ H1 λ y H2=>∃kvs k v,H2 a=some (.dK kvs)/\y=kV k/\valV kvs k=some v/\Q v (upd H2 a (.dK (dropK kvs k)))
section
variable {X:Cx} {o e f:Expr} {apos cpos:Pos} {td ty tx:TE}
theorem zds (hu:X.A.units + 1 < cLine) (ho:PE X o td) (he:PE X e ty) (m:M1 X o "get" apos e cpos):PE X (.Call (.Attribute o "get" apos) [e] [] cpos) (tDGet1 td ty):=by intro b s σ H Q I h;refine wpAny_Call_method m.base m.few m.line O6 i7 PySem.F.type_dict_get (thn (ho b s σ H _ I h) λ u c ⟨x,H1,I1,rx,a,ex,d,q1⟩=>?_);subst ex;obtain rfl:u=v1 a:=rx;obtain ⟨i,j,_⟩:=isD_at I1 d;refine ⟨i,j,?_⟩;rw [m.trees];refine w4 rfl (W7 (v4 (thn (he b c σ H1 _ I1 q1) λ p n ⟨y,H2,I2,ry,ov,g,q2⟩=>K4 ?_)));exact d_get1 hu I2 g ry λ l q f k=>⟨_,H2,f,k,q2⟩
theorem zhh (ho:PE X o td) (he:PE X e ty) (m:M1 X o "pop" apos e cpos):PE X (.Call (.Attribute o "pop" apos) [e] [] cpos) (tDPop1 td ty):=by intro b s σ H Q I h;refine wpAny_Call_method m.base m.few m.line O6 N9 PySem.F.type_dict_pop (thn (ho b s σ H _ I h) λ u c ⟨x,H1,I1,rx,a,ex,d,q1⟩=>?_);subst ex;obtain rfl:u=v1 a:=rx;obtain ⟨g,i,_⟩:=isD_at I1 d;refine ⟨g,i,?_⟩;rw [m.trees];refine w4 rfl (W7 (v4 (thn (he b c σ H1 _ I1 q1) λ q p ⟨y,H2,I2,ry,kvs,k,v,ea,ey,l,q2⟩=>K4 ?_)));subst ey;exact d_pop I2 ea ry l (.inl rfl) λ n r f j=>⟨v,_,f,j,q2⟩
end
end L2
namespace Att
open PySem PySem.W PySem.Calls PyProof.Rows
theorem z65 {P:M0} {h:Heap} :∀(ns:List Int) (vs:List Value),WellAll P h vs (ns.map WData.int)->O3 vs ns:=by
 intro ns;induction ns with
 | nil=>intro vs w;rw [o6] at w;cases w;exact .nil
 | cons n ns ih=>
  intro vs w;rw [Y0] at w;cases w with
  | cons a b=>cases a;exact .cons _ _ (ih _ b)
theorem zfo {l:OpenLaw} {n:Nat} (hn:l.most=some n) {P:M0} {h:Heap} {args:List WData} {vals:List Value}
  (hpre:l.row.toRowW.claim.pre args=true) (hwl:WellAll P h vals args) :
  ∃a vs ns,vals=[v1 a]/\args=[WData.list (ns.map WData.int)]/\h.get? a=some { cls:=.type "list",data:=.seq vs.toArray }/\O3 vs ns/\ns.length<=n:=by
 have f:WShape.hasAll [] args [.list .int]=true:=(pre_splitW hpre).1;have e:l.pre.holds [] { args:=args }=true:=(pre_splitW hpre).2;obtain ⟨d,r,rfl,j,m⟩:=hasAllW_cons f;obtain rfl:=hasAllW_nil m;obtain ⟨o,rfl,i⟩:=hasW_list j;obtain ⟨ns,rfl⟩:=items_int i;have g:ns.length<=n:=by
  unfold OpenLaw.pre at e;have b:(WTm.not (.lt (.lit (.int (n:Int))) (.len (.arg 0)))).holds [] { args:=[.list (ns.map .int)] }=true:=by have b:=(holds_andW e).1;rw [hn] at b;exact b
  have c:=condW_of b (w_not (w_lt w_lit (w_len_list (w_arg rfl))));rw [L0] at c;refine m7 λ q=>?_;have k:(n:Int) < ((ns.length:Nat):Int):=by lia
  first
   | (rw [decide_eq_true k] at c;exact absurd c (by decide))
   | (simp at c;lia)
 cases hwl with
 | cons w1 w2=>
  cases w2;cases w1 with
  | list ho hall=>exact ⟨_,_,ns,rfl,rfl,ho,z65 ns _ hall,g⟩
theorem zf5 (l:OpenLaw) (args:List WData):l.row.toRowW.claim.post args (.bool true) args=true:=
 postW_of (r:=l.row.toRowW) (X:=(true == true))
  (show WShape.has [] (.bool true) .bool=true by first|rfl|decide|simp [WShape.has,WShape.arms,WShape.armsAll])
  (show (WTm.eq .res (.lit (.bool true))).value [] { args:=args,res:=some (.bool true),after:=args }=some (.bool (true == true)) from w_eq_bool (w_res rfl) w_lit) rfl
theorem attach_call {l:OpenLaw} {n:Nat} {q:Program} {loose:List Str} {XP:(Str->Option Value)->Heap->Prop} {YP:S0->Heap->Prop} {d:DefRec}
  (hn:l.most=some n) (hdf:d.params.defaults=[])
  (call :∀(w:S0) (s₀ s₁:C0) (mg mb:Str->Option Value) (fa:Addr) (o:Obj) (pm cd doc:Value) (a:Addr) (vs:List Value) (ns:List Int),
   Ground q loose [] XP w s₀ mg mb s₁.heap->YP w s₁.heap->
   s₁.heap.get? fa=some o->o.data=.func (docDef d.name d.params d.body d.scope pm cd doc)->s₁.heap.CodeRec cd d.name->mg d.name=some (.ref fa)->
   s₁.heap.get? a=some { cls:=.type "list",data:=.seq vs.toArray }->O3 vs ns->ns.length<=n->s₁.gens = #[]->
   m6 (D1 l.prog w) Y8 (.call (.ref fa) ⟨[.ref a],[]⟩) (λ r s'=>r=.ok (.ret (.bool true))/\OldK s₁.heap s'.heap/\s'.os=s₁.os/\B7 s'.gens) s₁) :
  WalkO q loose XP YP l.row.toRowW d [] (λ f vs=>PySem.call f vs):=by
 intro w s₀ s₁ mg mb G Y fa o pm cd doc v kV y p e b t x B E F j D A c C;obtain rfl:v=.none:=Dflts.none b hdf;obtain rfl:kV=.none:=Dflts.noKw b;obtain ⟨a,vs,ns,rfl,rfl,h,s,g⟩:=zfo hn j c;refine enter_call (K6 (call w s₀ s₁ mg mb fa o pm cd doc a vs ns G Y y (fd_plain p) e t h s g x) λ r s' i=>?_);obtain ⟨rfl,k,z,m⟩:=i;exact ⟨.inl ⟨.bool true,.bool true,[],rfl,λ _=>rfl,.bool true,zf5 l _,λ _=>⟨N7,λ _ u=>(nomatch u)⟩⟩,k,z,m⟩
end Att
namespace L2
open PySem PySem.Spec PyProof.Rows
theorem z7s :∀{vs:List Value} {ns:List Int},O3 vs ns->Vals (ns.map V.int) vs
 | _,_,.nil=>.nil
 | _,_,.cons n t h=>.cons ⟨t,rfl⟩ (z7s h)
def Only (H:Hp):Prop:=∀b,H b=none\/∃o xs,H b=some (.frz o (.lst xs))
theorem zih {P:Program} {w:S0} {K:d0} {mg mb:Str->Option Value} {CX:CXT} {k:Nat} {fa a:Addr} {fd:FuncData} {x:Str} {sp:Sp} {s₁:C0} {vs:List Value} {ns:List Int}
  (KX:K.In s₁.heap) (hns:s₁.heap.Ns y3 mg) (hb:s₁.heap.Ns builtinsNs mb) (hbb :∀x:Str,x≠"__name__"->mb x=l5 x) (hlim:s₁.heap.NoLimit) (hg:s₁.gens = #[])
  (ha:s₁.heap.get? a=some { cls:=.type "list",data:=.seq vs.toArray }) (hi:O3 vs ns) (hl:ns.length<=sizeLine) (hr:Room k Y8)
  (F :∀base:Heap,K.In base->base.Ns y3 mg->FnOk P w K mg base CX k fa fd [x] sp) (hbind :∀(s:C0) (u:Value),BindsTo s fd ⟨[u],[]⟩ [(x,u)])
  (hsp :∀H:Hp,Only H->SqL K H a (ns.map V.int)->sp [.ref a] H (λ v _=>v=.bl true) λ _ _ _=>False)
  (hCX :∀H e s',CX [] H s₁ (λ _ _ _=>False) e s'->False) :
  m6 (D1 P w) Y8 (.call (.ref fa) ⟨[.ref a],[]⟩) (λ r s'=>r=.ok (.ret (.bool true))/\OldK s₁.heap s'.heap/\s'.os=s₁.os/\B7 s'.gens) s₁:=by
 have l:=z7s hi;have L:=hi.length
 -- from an abstract heap in which nothing but the script may be tracked
 have t :∀H:Hp,Only H->SqL K H a (ns.map V.int)->HOk P w H s₁.heap->(∀b,H b≠none->b=a)->(H a≠none->K.lookup a=none)->
   m6 (D1 P w) Y8 (.call (.ref fa) ⟨[.ref a],[]⟩) (λ r s'=>r=.ok (.ret (.bool true))/\OldK s₁.heap s'.heap/\s'.os=s₁.os/\B7 s'.gens) s₁:=by
  intro H j E i A I;have p :∀{b:Addr} {o:Obj},s₁.heap.get? b=some o->H b=none->(hidT s₁.heap H).get? b=some o:=λ e n=>zhf e n;have R :∀{b:Addr} {o:Obj} {es:Array DictEntry} {ep:Nat},s₁.heap.get? b=some o->o.data=.dict es ep->H b=none:=λ {b o es ep} e d=>by
   cases q:H b with
   | none=>rfl
   | some u=>have g:b=a:=A b (by rw [q];simp);subst g;rw [ha] at e;cases e;have D:Data.seq vs.toArray _=Data.dict es ep:=d;cases D
  have f :∀{b:Addr} {m:Str->Option Value},s₁.heap.Ns b m->(hidT s₁.heap H).Ns b m:=λ {b m} ⟨o,es,ep,e,d,r⟩=>⟨o,es,ep,p e (R e d),d,r⟩
  have y:K.In (hidT s₁.heap H):=λ b o e=>p (KX b o e) (by
   cases q:H b with
   | none=>rfl
   | some u=>have g:b=a:=A b (by rw [q];simp);subst g;rw [I (by rw [q];simp)] at e;cases e)
  have M:Mod K mg (hidT s₁.heap H):=⟨y,f hns,⟨mb,f hb,hbb⟩,let ⟨mc,h1,h2⟩:=hlim;⟨mc,f h1,h2⟩⟩
  have N:Env0 P w K mg (hidT s₁.heap H) Y8 [] s₁ H:=⟨rfl,M,λ b o e=>zjr e,K7 (zgj _ _),trivial,λ b hb=>absurd (show b∈([]:List Addr) from hb) (by simp),i,.of_eq hg⟩
  refine K6 ((F _ y (f hns)).run Y8 [] s₁ H ⟨[.ref a],[]⟩ [.ref a] [.ref a] _ _ hr N (hbind s₁ (.ref a)) (.cons rfl .nil) (hsp H j E)) λ r s' h=>?_;cases r with
  | error e=>exact (hCX H e s' h).elim
  | ok fl=>
   cases fl with
   | next=>exact P3 h
   | brk=>exact P3 h
   | cont=>exact P3 h
   | ret u=>
    obtain ⟨v,T,os,O,un,J,C,q⟩:=h;have S:v=.bl true:=q;subst S;obtain rfl:u=p4 true:=C;refine ⟨rfl,OldK.of_keep λ b o e=>?_,os,O⟩;cases q:H b with
    | none=>exact un.keep b o e q (by intro z;exact absurd (show b∈([]:List Addr) from z) (by simp)) (by simp)
    | some u=>
     rcases j b with z|⟨ob,xs,z⟩
     ·rw [q] at z;cases z
     ·have Q:=un.frzs b ob _ z;obtain ⟨B,_⟩:=i b _ z;obtain ⟨G,_⟩:=J b _ Q;rw [e] at B;cases B;exact G
 cases hk:K.lookup a with
 | some o=>
  -- the script is one of the module's own objects
  have e:=KX a o hk;rw [ha] at e;cases e;refine t (λ _=>none) (λ _=>.inl rfl) (.inr ⟨_,vs.toArray,_,hk,rfl,rfl,rfl,by rw [U0,L];exact hl,by simpa using l⟩) (λ b u z=>by have c:(none:Option HO)=some u:=z;cases c) (λ b z=>absurd rfl z) λ z=>absurd rfl z
 | none=>
  refine t (λ b=>if b=a then some (.frz { cls:=.type "list",data:=.seq vs.toArray } (.lst (ns.map V.int))) else none) (λ b=>?_) (.inl (.inr ⟨{ cls:=.type "list",data:=.seq vs.toArray },if_pos rfl⟩)) (λ b u z=>?_) (λ b z=>?_) λ _=>hk
  ·by_cases hb:b=a
   ·exact .inr ⟨_,_,if_pos hb⟩
   ·exact .inl (if_neg hb)
  ·by_cases hb:b=a
   ·have c:=(if_pos hb).symm.trans z;cases c;subst hb;exact ⟨ha,by rw [L0];exact hl,vs,_,l,ha⟩
   ·have c:=(if_neg hb).symm.trans z;cases c
  ·by_cases hb:b=a
   ·exact hb
   ·exact absurd (if_neg hb) z
theorem walk_of {l:PySem.W.OpenLaw} {n k:Nat} {q:Program} {loose:List Str} {XP:(Str->Option Value)->Heap->Prop} {YP:S0->Heap->Prop} {d:DefRec} {K:M0->d0} {CX:S0->CXT} {sp:S0->Sp} {x:Str}
  (hn:l.most=some n) (hn2:n<=sizeLine) (hdf:d.params.defaults=[]) (hr:Room k Y8)
  (hY :∀(w:S0) (h:Heap),YP w h->(K w.params).In h)
  (F :∀(w:S0) (mg:Str->Option Value) (fa:Addr) (h:Heap),(K w.params).In h->h.Ns y3 mg->mg d.name=some (.ref fa)->
   ∃fd:FuncData,(∀(s:C0) (u:Value),BindsTo s fd ⟨[u],[]⟩ [(x,u)])/\
    ∀base:Heap,(K w.params).In base->base.Ns y3 mg->FnOk l.prog w (K w.params) mg base (CX w) k fa fd [x] (sp w))
  (hsp :∀(w:S0) (H:Hp) (a:Addr) (ns:List Int),ns.length<=n->Only H->SqL (K w.params) H a (ns.map V.int)->sp w [.ref a] H (λ v _=>v=.bl true) λ _ _ _=>False)
  (hCX :∀(w:S0) (H:Hp) (s:C0) (e:Value) (s':C0),CX w [] H s (λ _ _ _=>False) e s'->False) :
  PySem.W.WalkO q loose XP YP l.row.toRowW d [] (λ f vs=>PySem.call f vs):=by
 refine Att.attach_call hn hdf λ w M i mg C fa o J E I a vs ns G Y L D B z t y c A=>?_;have KX:=hY w _ Y;obtain ⟨fd,p,j⟩:=F w mg fa _ KX G.T.g z;exact zih KX G.T.g G.T.b G.T.builtins G.T.nolimit A t y (F0 c hn2) hr j p (λ H r m=>hsp w H a ns c r m) λ H e s'=>hCX w H i e s'
noncomputable def z8z (s:Stmt):Arguments:=match s with
 | .FunctionDef _ a _ _ _ _ _ _ _ _=>a
 | _=>{ posonlyargs:=[],args:=[],vararg:=none,kwonlyargs:=[],kw_defaults:=[],kwarg:=none,defaults:=[] }
noncomputable def z59 (s:Stmt):List Stmt:=match s with
 | .FunctionDef _ _ b _ _ _ _ _ _ _=>b
 | _=>[]
noncomputable def z06 (s:Stmt):Scope:=match s with
 | .FunctionDef _ _ _ _ _ _ sc _ _ _=>sc
 | _=>{ kind:=.function,names:=[],isGenerator:=false,isCoroutine:=false }
noncomputable abbrev CX0:CXT:=λ _ _ _ _ _ _=>False
noncomputable abbrev E0:XK:=λ _ _ _=>False
theorem pass0 {X:Cx}:Passes CX0 X E0:=λ _ _ _ _ _ _ _ h=>h.elim
structure Fun (K:d0) (x qual:Str) (st:Stmt) (f:Addr) (fd:FuncData):Prop where
 ex :∃(oc:Value) (od:Option Addr) (kV doc pm:Value) (an:Option Addr) (cdv ct:Value) (osl:Array (Option Value)),
  fd=v5 x qual (z8z st) (z59 st) (z06 st) .none kV doc pm an cdv ct/\K.lookup f=some ⟨oc,od,.func fd,osl⟩/\F7 K cdv qual=true
 kp:B3 K (.ref f)=true
section
variable {P:Program} {w:S0} {K:d0} {mg:Str->Option Value} {base:Heap}
theorem Fun.ok {x qual:Str} {st:Stmt} {f:Addr} {fd:FuncData} {N ps:List Str} {k:Nat} {sp:Sp} (F:Fun K x qual st f fd) (S:FnScope N ps (z06 st)) (len :∀vs H Q E,sp vs H Q E->vs.length=ps.length)
  (hbody :∀(cdv:Value) (A:A2) (outer:List Env) (s:C0) (H:Hp) (vs:List V) (Q:VK) (E:XK),Room k (A.deeper (a8 qual (z06 st) s.heap.objs.size f cdv))->sp vs H Q E->
   ∃t,PSs (cxOf CX0 P w K mg base N qual (z06 st) f cdv A outer s H E).nox (z59 st) t/\t { nx:=λ _ H'=>Q .non H',rt:=Q } (start N vs) H):FnOk P w K mg base CX0 (k + 1) f fd ps sp:=by
 obtain ⟨l,j,kV,m,e,i,cdv,n,g,rfl,b,d⟩:=F.ex;refine fn_of b d S len λ A outer s H vs Q E a c=>?_;obtain ⟨t,h,q⟩:=hbody cdv A outer s H vs Q E a c;exact ⟨t,h.nox,q⟩
theorem Fun.binds {x qual:Str} {st:Stmt} {f:Addr} {fd:FuncData} {ps:List Str} (F:Fun K x qual st f fd)
  (h :∀(kV doc pm:Value) (an:Option Addr) (cdv ct:Value) (us:List Value),us.length=ps.length->bindArgs (v5 x qual (z8z st) (z59 st) (z06 st) .none kV doc pm an cdv ct) ⟨us,[]⟩=N3 (ps.zip us)):Binds K fd ps []:=by
 obtain ⟨e,c,kV,doc,pm,an,cdv,ct,b,rfl,a,d⟩:=F.ex;exact .all (h kV doc pm an cdv ct)
theorem fun_mk {x qual:Str} {st:Stmt} {f:Addr} {oc:Value} {od an:Option Addr} {osl:Array (Option Value)} {kV doc pm cdv ct:Value} (l:K.lookup f=some ⟨oc,od,.func (v5 x qual (z8z st) (z59 st) (z06 st) .none kV doc pm an cdv ct),osl⟩)
  (c:F7 K cdv qual=true) (k:B3 K (.ref f)=true):Fun K x qual st f (v5 x qual (z8z st) (z59 st) (z06 st) .none kV doc pm an cdv ct):=⟨⟨oc,od,kV,doc,pm,an,cdv,ct,osl,rfl,l,c⟩,k⟩
end
theorem hu_of {A:A2} {k:Nat} (hr:Room k A):A.units + 1 < cLine:=Q0 (Nat.add_le_add_left (by decide:1<=64) _) hr.units
section
variable {X:Cx}
theorem pv (i:Nat) {x:Str} {pos:Pos} (hN:X.N[i]? = some x:=by rfl) (hv:Vis X.env.scope x:=by first|exact P0 rfl|exact O0 (P0 rfl)|exact O0 (O0 rfl)) (hd:(x == ("__debug__" : Str))=false:=by decide)
  (hcd:(x == ("__classdict__" : Str))=false:=by decide):PE X (.Name x pos) (tVar i):=pe_var hN hv hd hcd
end
theorem iteF {A B:Prop} (h:B):if false=true then A else B:=by rw [if_neg A1];exact h
theorem iteT {A B:Prop} (h:A):if true=true then A else B:=by rw [if_pos rfl];exact h
theorem ite2 {c A B:Prop} [Decidable c] (h1:c->A) (h2:¬ c->B):if c then A else B:=by
 by_cases h:c
 ·rw [if_pos h];exact h1 h
 ·rw [if_neg h];exact h2 h
def Same (H H':Hp):Prop:=∀b o,H b=some o->H' b=some o
theorem Same.refl (H:Hp):Same H H:=λ _ _ h=>h
theorem Same.trans {H H1 H2:Hp} (a:Same H H1) (b:Same H1 H2):Same H H2:=λ c o h=>b c o (a c o h)
theorem Same.free {H H':Hp} (e:Same H H') {l:Addr} (h:H' l=Option.none):H l=Option.none:=by
 cases q:H l with
 | none=>rfl
 | some o=>rw [e l o q] at h;cases h
theorem Same.seq {K:d0} {H H':Hp} {a:Addr} {xs:List V} (e:Same H H') (h:SqL K H a xs):SqL K H' a xs:=by
 rcases h with (h|⟨o,h⟩)|h
 ·exact .inl (.inl (e _ _ h))
 ·exact .inl (.inr ⟨o,e _ _ h⟩)
 ·exact .inr h
section
variable {κ:Type} [DecidableEq κ]
theorem zg1 {p:κ×V} {r:List (κ×V)} {k:κ} (e:p.1=k):dropK (p :: r) k=dropK r k:=by unfold dropK;rw [N5,if_neg (by simp [e])]
theorem zfz {p:κ×V} {r:List (κ×V)} {k:κ} (e:¬ p.1=k):dropK (p :: r) k=p :: dropK r k:=by unfold dropK;rw [N5,if_pos (by simp [e])]
end
end L2
set_option maxHeartbeats 4000000
namespace L2
open PySem PySem.Spec PyProof.Rows
section
variable {prog:Program} {w:S0} {A:A2} {R:Result->C0->Prop} {s:C0}
theorem zfn {elt target iter:Expr} {ifs:List Expr} {scope:Scope} {pos:Pos} {it acc:Value} {env:Env} (J:Nat->C0->Prop)
  (turn :∀n s,J n s->W0 (D1 prog w) A (A9 it) (λ r s₁=>match r with
   | none=>R (.ok .next) s₁
   | some v=>W0 (D1 prog w) A (i8 target it v) (λ _ s₂=>W0 (D1 prog w) A (assign target env v) (λ _ s₃=>
     W0 (D1 prog w) A (X8 ifs true λ c r=>if r=true then do let ok <-isTrue c env (v3 c env);N3 (Y2 ok) else N3 (Y2 r)) (λ ok s₄=>
      if ok=true then W0 (D1 prog w) A (v3 elt env) (λ x s₅=>W0 (D1 prog w) A (call (.builtin "list.append") [acc,x]) (λ _ s₆=>∃m,m < n/\J m s₆) (λ _ _=>False) s₅) (λ _ _=>False) s₄
      else∃m,m < n/\J m s₄) (λ _ _=>False) s₃) (λ _ _=>False) s₂) (λ _ _=>False) s₁) (λ _ _=>False) s)
  (n:Nat) (h:J n s):m6 (D1 prog w) A (.compLoop (.ListComp elt [⟨target,iter,ifs,0⟩] scope pos) 0 it acc env) R s:=by
 refine codeAny_loop rfl J (λ n s g=>?_) n h;show W0 _ A ((compTurn (.ListComp elt [⟨target,iter,ifs,0⟩] scope pos) 0 it acc env).onRaise (λ x=>do noteFrame x env;theTreesLotGoes x)) _ _ s;refine wpAny_noted ?_;rw [compTurn_list];refine v0 (wpAny_standAt (v0 (L3 (turn n s g) (λ r s₁ a=>?_) λ _ _ f=>f.elim)));cases r with
 | none=>exact K0 a
 | some v=>
  refine v0 (L3 a (λ _ s₂ j=>v0 (L3 j (λ _ s₃ i=>v0 (L3 i (λ ok s₄ b=>?_) λ _ _ f=>f.elim)) λ _ _ f=>f.elim)) λ _ _ f=>f.elim);cases ok with
  | false=>exact K0 ⟨rfl,b⟩
  | true=>exact v0 (v0 (L3 b (λ x s₅ d=>v0 (L3 d (λ _ s₆ e=>K0 (K0 ⟨rfl,e⟩)) λ _ _ f=>f.elim)) λ _ _ f=>f.elim))
end
theorem z31 {env:Env} :∀(names:List (Str×i5)) (acc:List (Str×Addr)),(∀y∈names,y.2=W1->∃c,env.cells.lookup y.1=some c)->(∀y c,acc.lookup y=some c->env.cells.lookup y=some c)->
  ∃cl,(X8 names acc λ (x:Str×i5) (r:List (Str×Addr))=>(match x with
    | (name,kind)=>if (kind == W1)=true then do let c <-cellOf env name;N3 (Y2 ((name,c) :: r)) else N3 (Y2 r):Sem (ForInStep (List (Str×Addr)))))=N3 cl/\
   (∀y c,cl.lookup y=some c->env.cells.lookup y=some c)/\(∀y,((y,W1)∈names\/∃c,acc.lookup y=some c)->∃c,cl.lookup y=some c)
 | [],acc,_,ha=>⟨acc,by rw [E5],ha,λ y h=>h.elim (λ z=>nomatch z) id⟩
 | (n,k) :: r,acc,hf,ha=>by
  rw [n5];dsimp only;by_cases hk:k=W1
  ·subst hk;obtain ⟨c,j⟩:=hf (n,.free) O1 rfl;have e:cellOf env n=N3 c:=by unfold cellOf;rw [j]
   rw [if_pos (by rfl),e];obtain ⟨cl,g,i,f⟩:=z31 r ((n,c) :: acc) (λ y a=>hf y (E1 _ a)) (λ y d b=>by
    rw [Z4] at b;by_cases a:(y == n)=true
    ·rw [a] at b;have:=eq_of_beq a;subst this;cases b;exact j
    ·rw [O5] at a;rw [a] at b;exact ha y d b)
   refine ⟨cl,g,i,λ y a=>f y ?_⟩;rcases a with a|⟨d,b⟩
   ·rcases List.mem_cons.mp a with z|z
    ·cases z;exact .inr ⟨c,by rw [Z4];simp⟩
    ·exact .inl z
   ·refine .inr ?_;rw [Z4];by_cases a:(y == n)=true
    ·rw [a];exact ⟨c,rfl⟩
    ·rw [O5] at a;rw [a];exact ⟨d,b⟩
  ·rw [if_neg (by simpa using hk)];obtain ⟨cl,g,i,f⟩:=z31 r acc (λ y a=>hf y (E1 _ a)) ha;refine ⟨cl,g,i,λ y a=>f y ?_⟩;rcases a with a|a
   ·rcases List.mem_cons.mp a with z|z
    ·cases z;exact absurd rfl hk
    ·exact .inl z
   ·exact .inr a
theorem zd0 {scope:Scope} {env:Env} (hf :∀y∈scope.names,y.2=W1->∃c,env.cells.lookup y.1=some c) :
  ∃cl,closureFor scope env=N3 cl/\(∀y c,cl.lookup y=some c->env.cells.lookup y=some c)/\(∀y,(y,W1)∈scope.names->∃c,cl.lookup y=some c):=by
 obtain ⟨cl,d,e,b⟩:=z31 (env:=env) scope.names [] hf (λ _ _ z=>nomatch z);refine ⟨cl,?_,e,λ y a=>b y (.inl a)⟩;simp only [closureFor];rw [d];rfl
theorem mem_of_lookup {κ:Type} {y:Str} {k:κ} :∀{l:List (Str×κ)},l.lookup y=some k->(y,k)∈l
 | (n,c) :: r,h=>by
  rw [Z4] at h;by_cases hy:(y == n)=true
  ·rw [hy] at h;cases h;rw [eq_of_beq hy];exact O1
  ·rw [O5] at hy;rw [hy] at h;exact E1 _ (mem_of_lookup h)
theorem z5z {scope:Scope} {env:Env} (hcell :∀y∈scope.names,y.2≠NameKind.cell) {y:Str} {k:i5} (h:(v7 scope env).names.lookup y=some k) (hk:k=.cell\/k=.free):(y,W1)∈scope.names:=by
 have m:=mem_of_lookup h;unfold v7 at m;obtain ⟨⟨n,c⟩,a,e⟩:=List.mem_map.mp m;dsimp only at e;by_cases hc:(c == W1)=true
 ·have:=eq_of_beq hc;subst this;split at e<;>(injection e with e1 e2;subst e1;exact a)
 ·rw [if_neg (by simp [hc])] at e;injection e with e1 e2;subst e1 e2;rcases hk with rfl|rfl
  ·exact absurd rfl (hcell _ a)
  ·exact absurd rfl hc
noncomputable abbrev cxComp (X:Cx) (scope:Scope) (cl:List (Str×Addr)) (N:List Str) (C:Addr) (s₂:C0) (H₂:Hp) (fp:List Addr):Cx:=
 { X with N:=N,s₀:=s₂,H₀:=H₂,env:=compEnvC scope cl C X.env,outer:=X.stack,stack:=X.stack,ex:=fp,fn:=λ _=>false,pn:=[],xe:=λ _ _=>False }
def PF (X:Cx) (ifs:List Expr) (t:TT):Prop:=
 ∀(pins:List (Addr×Obj)) (s:C0) (σ:St) (H:Hp) (Q:Bool->Hp->Prop),Inv X pins σ H s->t σ H Q->
  W0 (D1 X.prog X.w) X.A (X8 ifs true λ c r=>if r=true then do let ok <-isTrue c X.env (v3 c X.env);N3 (Y2 ok) else N3 (Y2 r)) (TP X pins σ Q) X.xe s
theorem pf_nil {X:Cx}:PF X [] (λ _ H Q=>Q true H):=λ _ _ _ H _ I h=>wpAny_tests_nil ⟨H,I,h⟩
theorem pf_one {X:Cx} {c:Expr} {t:TT} (h:PT X c t):PF X [c] t:=λ a s σ H Q I q=>wpAny_tests_one (h a s σ H Q I q)
theorem Vals.snoc {xs:List V} {us:List Value} {x:V} {u:Value} (r:Vals xs us) (q:RelV x u):Vals (xs++[x]) (us++[u]):=Vals.append r (.cons q .nil)
def TagOf (H:Hp) (x:V) (T:String):Prop:=match x with
 | .non=>T = "NoneType"
 | .bl _=>T = "bool"
 | .int _=>T = "int"
 | .str _=>T = "str"
 | .ref a=>((∃xs,H a=some (.lst xs))/\T = "list")\/((∃xs,H a=some (.tup xs))/\T = "tuple")\/((∃kvs,H a=some (.dK kvs))/\T = "dict")
 | _=>False
noncomputable def instB (T C:String):Bool:=T == C || (T == "bool" && C == "int")
theorem TagOf.ty {K:d0} {H:Hp} {x:V} {T:String} (h:TagOf H x T):TyOf K H x (.type T):=by
 cases x with
 | non=>cases (show T = "NoneType" from h);exact .non
 | bl b=>cases (show T = "bool" from h);exact .bl b
 | int i=>cases (show T = "int" from h);exact .int i
 | str z=>cases (show T = "str" from h);exact .str z
 | ref a=>
  rcases h with ⟨⟨c,e⟩,rfl⟩|⟨⟨c,e⟩,rfl⟩|⟨⟨c,e⟩,rfl⟩
  ·exact .lst e
  ·exact .tup e
  ·exact .dK e
 | _=>exact h.elim
theorem TagOf.one {H:Hp} {x:V} {T:String} (h:TagOf H x T):T = "NoneType"\/T = "bool"\/T = "int"\/T = "str"\/T = "list"\/T = "tuple"\/T = "dict":=by
 cases x with
 | non=>exact .inl h
 | bl b=>exact .inr (.inl h)
 | int i=>exact .inr (.inr (.inl h))
 | str z=>exact .inr (.inr (.inr (.inl h)))
 | ref a=>rcases h with ⟨_,rfl⟩|⟨_,rfl⟩|⟨_,rfl⟩<;>simp
 | _=>exact h.elim
noncomputable def isiC:List String:=["int","str","bool","tuple","list"]
theorem kit_of (K:d0) {T C:String} (h:T = "NoneType"\/T = "bool"\/T = "int"\/T = "str"\/T = "list"\/T = "tuple"\/T = "dict") (hC:C∈isiC):PySem.W.kitOne K (.type T) (.type C)=some (instB T C):=by
 have hC:C = "int"\/C = "str"\/C = "bool"\/C = "tuple"\/C = "list":=by simpa [isiC] using hC
 rcases h with rfl|rfl|rfl|rfl|rfl|rfl|rfl<;>rcases hC with rfl|rfl|rfl|rfl|rfl<;>kernel_rfl
section
variable {X:Cx}
theorem z1u:CallR X (.builtin "isinstance") (λ xs H Q=>∃x C T,xs=[x,.ty C]/\TagOf H x T/\C∈isiC/\Q (.bl (instB T C)) H):=by intro g s σ H xs us Q I r h;obtain ⟨x,C,T,rfl,a,f,q⟩:=h;obtain ⟨u,c,rfl,b,d⟩:=vals2 r;cases (show c=W4 C from d);exact zfr I b a.ty (kit_of X.K a.one f) λ e=>⟨.bl _,H,I.tok e,rfl,q⟩
theorem zfd {ys:List V} {its:List Value} (rv:Vals ys its) (hb :∀y∈ys,∃b,y=V.bl b):((V0 its.length).all λ i=>decide (ys[i]? = some (V.bl true)))=ys.all λ y=>decide (y=V.bl true):=by
 have e:=rv.length;rw [Bool.eq_iff_iff,N8,N8];constructor
 ·intro h y d;obtain ⟨i,a,rfl⟩:=List.getElem_of_mem d;have:=h i (List.mem_range.mpr (by lia));simpa [a] using this
 ·intro h i a;have c:i < ys.length:=by have:=List.mem_range.mp a;lia
  have:=h ys[i] (a7 c);simpa [c] using this
theorem z7p (hc:X.calm=true):CallR X (.builtin "all") (λ xs H Q=>∃p ys,xs=[.ref p]/\SqL X.K H p ys/\(∀y∈ys,∃b,y=V.bl b)/\Q (.bl (ys.all λ y=>decide (y=V.bl true))) H):=by
 intro G s σ H xs us Q I r h;obtain ⟨p,ys,rfl,B,j,q⟩:=h;obtain ⟨u,rfl,m⟩:=vals1 r;cases m;obtain ⟨k,d,c,L⟩:=I.list B;have t:p≠s.heap.objs.size:=by obtain ⟨o,e,_⟩:=c.isList;exact B1 (T0 e)
 refine call_all_walk (o7 c.isList ?_);refine ⟨s.heap.objs.size,_,_,_,_,_,λ i=>decide (ys[i]? = some (V.bl true)),rfl,Walks.list (show X.A.in1.handled=none from I.ok.hd hc) s.heap.objs.size p t k.toArray,⟨⟨_,Z0 _ rfl,rfl,rfl⟩,c.isList.at λ o e=>G0 _ e⟩,?_,?_⟩
 ·intro i v N F J a n;have a:k[i]? = some v:=by simpa using a
  obtain ⟨C,e⟩:=List.getElem?_eq_some_iff.mp a;have f:i < ys.length:=by rw [d.length];exact C
  obtain ⟨b,eb⟩:=j ys[i] (a7 f);obtain ⟨u,l,g⟩:=d.get (i:=i) (x:=ys[i]) (by simp [f]);rw [a] at l;cases l;rw [eb] at g;cases (show v=p4 b from g);have:decide (ys[i]? = some (V.bl true))=b:=by rw [N0 f,eb];cases b<;>simp
  exact F3 (this ▸ n)
 ·intro M D E;have e:=zfd d j;rw [<-U0] at e;refine ⟨.bl _,H,I.kept (t':=D) λ b o z=>E b o ?_ (G0 _ z),rfl,e.symm ▸ q⟩;intro w;rw [List.mem_singleton.mp w] at z;exact absurd (T0 z) (G4 _)
def CDivB (i j:Int):Prop:=0 < j/\j < 2 ^ 64
theorem zag:OpR X (V4 .FloorDiv) (rI CDivB λ i j=>.int (i / j)):=opI λ i j _ _ _ _ _ a q=>by
 obtain ⟨b,c⟩:=a;refine floordiv_int (by lia) ?_ (.inl (PyProof.noPylong_of_log2 ?_))
 ·rw [Int.fdiv_eq_ediv_of_nonneg _ (by lia)];exact q
 ·have:j.natAbs.log2 < 64:=(Nat.log2_lt (by lia)).mpr (by lia)
  lia
structure KDict (K:d0) (P:M0) (a:Addr) (kvs:List (Str×V)):Prop where
 ex :∃es n,K.lookup a=some ⟨.type "dict",none,.dict es n,#[]⟩/\G7 (λ (p:Str×V) (e:DictEntry)=>(∃t,e.key=.str p.1 t)/\e.hash=j0 P p.1/\RelV p.2 e.val) kvs es.toList
 lo:(a == M3)=false
theorem zg4 {kvs:List (Str×V)} {P:M0} :∀{es:List DictEntry},G7 (λ (p:Str×V) (e:DictEntry)=>(∃t,e.key=.str p.1 t)/\e.hash=j0 P p.1/\RelV p.2 e.val) kvs es->∀z,
  RelO (kvs.lookup z) (findBy L6 es.toArray z):=by
 intro es r;induction r with
 | nil=>intro z;exact True.intro
 | @cons p e kvs es h t a=>
  intro z;obtain ⟨⟨g,d⟩,f,c⟩:=h;have a:=a z;unfold findBy at a⊢;rw [List.find?_toArray] at a⊢;rw [Y3,Z4];have b:L6 z e.key=(z == p.1):=by rw [d];show (p.1 == z)=_;rw [Bool.eq_iff_iff,beq_iff_eq,beq_iff_eq];exact ⟨λ q=>q.symm,λ q=>q.symm⟩
  cases hz:(z == p.1) with
  | true=>rw [b,hz];exact c
  | false=>rw [b,hz];exact a
theorem KDict.mapOf {a:Addr} {kvs:List (Str×V)} (D:KDict X.K X.w.params a kvs) {h:Heap} (k:X.K.In h) :∃f,h.MapOf (strKind X.prog X.w) a f/\∀z,RelO (kvs.lookup z) (f z):=by
 obtain ⟨b,n,d,r⟩:=D.ex;have c:PySem.W.KeysLit X.w.params b.toList:=by
  clear d D;generalize b.toList=l at r;induction r with
  | nil=>exact True.intro
  | cons h t ih=>obtain ⟨⟨i,c⟩,e,j⟩:=h;exact ⟨⟨_,i,c,e⟩,ih⟩
 have g :∀z,RelO (kvs.lookup z) (findBy L6 b.toList.toArray z):=zg4 r;exact ⟨_,PySem.W.mapOf_K (prog:=X.prog) k d c,λ z=>by simpa using g z⟩
theorem zii {a:Addr} {kvs:List (Str×V)} (D:KDict X.K X.w.params a kvs):OpR X (K2 .In) (λ x y H Q=>∃z,x=.str z/\y=.ref a/\Q (.bl (kvs.lookup z).isSome) H):=by intro g s σ H x y v u Q I b e h;obtain ⟨z,rfl,rfl,q⟩:=h;obtain ⟨t,rfl⟩:=b;cases e;obtain ⟨f,c,d⟩:=D.mapOf I.kIn;refine wpAny_in_of (Z7 X.prog X.w z t) D.lo c ⟨.bl _,H,I.tok _,rfl,?_⟩;have:=d z;rw [RelO.isSome_eq this] at q;exact q
theorem ix_kd {a:Addr} {kvs:List (Str×V)} (D:KDict X.K X.w.params a kvs):IxR X (λ x y H Q=>∃z v,x=.ref a/\y=.str z/\kvs.lookup z=some v/\Q v H):=by
 intro l m k s σ H x y v u Q I d j h i;obtain ⟨z,r,rfl,rfl,e,q⟩:=h;cases d;obtain ⟨t,rfl⟩:=j;obtain ⟨f,c,g⟩:=D.mapOf I.kIn;have b:=g z;rw [e] at b;cases ef:f z with
 | none=>rw [ef] at b;exact b.elim
 | some u=>rw [ef] at b;exact tail_any c.typeIs slot_dict_getitem.lookup (wpAny_getItem_of (Z7 X.prog X.w z t) c ef ⟨r,H,I.tok _,b,q⟩) i
structure KDictT (K:d0) (P:M0) (a:Addr) (kvs:List ((Str×Str)×V)):Prop where
 ex :∃es n,K.lookup a=some ⟨.type "dict",none,.dict es n,#[]⟩/\G7 (λ (p:(Str×Str)×V) (e:DictEntry)=>(∃(b:Addr) (t t':Tok) (m:Nat),e.key=.ref b/\K.lookup b=some ⟨.type "tuple",none,.seq #[.str p.1.1 t,.str p.1.2 t'] m,#[]⟩)/\
  e.hash=F1 (u0 [j0 P p.1.1,j0 P p.1.2])/\RelV p.2 e.val) kvs es.toList
 nd:(kvs.map (·.1)).Nodup
 lo:(a == M3)=false
theorem zfg {prog:Program} {w:S0} {K:d0} {h:Heap} (k:K.In h) :∀{kvs:List ((Str×Str)×V)} {es:List DictEntry},
  G7 (λ (p:(Str×Str)×V) (e:DictEntry)=>(∃(b:Addr) (t t':Tok) (m:Nat),e.key=.ref b/\K.lookup b=some ⟨.type "tuple",none,.seq #[.str p.1.1 t,.str p.1.2 t'] m,#[]⟩)/\
   e.hash=F1 (u0 [j0 w.params p.1.1,j0 w.params p.1.2])/\RelV p.2 e.val) kvs es->
  ∃xs:List (List Str×Addr×Value),es=xs.map (entryOfKey (M5 (strKind prog w)))/\(∀x∈xs,(M5 (strKind prog w)).is h x.1 x.2.1)/\xs.map (·.1)=kvs.map (λ p=>[p.1.1,p.1.2])/\
   ∀a b,RelO (kvs.lookup (a,b)) ((T7 xs [a,b]).map (·.2)):=by
 intro kvs es r;induction r with
 | nil=>exact ⟨[],rfl,λ x f=>absurd f A0,rfl,λ a b=>True.intro⟩
 | @cons p e kvs es hpe t ih=>
  obtain ⟨xs,y,s,A,v⟩:=ih;obtain ⟨⟨b,D,C,m,l,q⟩,i,o⟩:=hpe;refine ⟨([p.1.1,p.1.2],b,e.val) :: xs,?_,?_,?_,?_⟩
  ·rw [Y0,<-y];congr 1;obtain ⟨n,u,B⟩:=e;have l:u=.ref b:=l;have i:n=_:=i;subst l i;rfl
  ·intro x f;rcases List.mem_cons.mp f with rfl|f
   ·exact ⟨_,_,m,k _ _ q,rfl,rfl,.cons (Z7 prog w _ _) (.cons (Z7 prog w _ _) .nil)⟩
   ·exact s x f
  ·rw [Y0,Y0,A]
  ·intro c d;have:=v c d;rw [Z4];unfold T7 at this⊢;rw [Y3];by_cases hcd:(c,d)=p.1
   ·have j:((c,d) == p.1)=true:=by rw [beq_iff_eq];exact hcd
    rw [j];have g:decide ([p.1.1,p.1.2]=[c,d])=true:=by rw [<-hcd];simp
    rw [g];exact o
   ·have j:((c,d) == p.1)=false:=by rw [beq_eq_false_iff_ne];exact hcd
    rw [j];have g:decide ([p.1.1,p.1.2]=[c,d])=false:=by rw [decide_eq_false_iff_not];intro z;injection z with z1 z;injection z with z2 _;exact hcd (j0e z1.symm z2.symm)
    rw [g];exact this
theorem z6i :∀{l:List (Str×Str)},l.Nodup->(l.map λ p=>[p.1,p.2]).Nodup
 | [],_=>w9
 | p :: r,h=>by obtain ⟨b,c⟩:=List.nodup_cons.mp h;rw [Y0];refine List.nodup_cons.mpr ⟨λ m=>b ?_,z6i c⟩;obtain ⟨q,a,e⟩:=List.mem_map.mp m;injection e with e1 e;injection e with e2 _;have:q=p:=j0e e1 e2;exact this ▸ a
theorem KDictT.dict {a:Addr} {kvs:List ((Str×Str)×V)} (D:KDictT X.K X.w.params a kvs) {h:Heap} (k:X.K.In h) :∃xs,h.DictOfH (M5 (strKind X.prog X.w)) a xs/\∀c d,RelO (kvs.lookup (c,d)) ((T7 xs [c,d]).map (·.2)):=by obtain ⟨j,n,e,r⟩:=D.ex;obtain ⟨xs,g,i,f,b⟩:=zfg (prog:=X.prog) (w:=X.w) k r;refine ⟨xs,⟨_,j,n,k _ _ e,⟨rfl,rfl,rfl⟩,rfl,g,i,?_⟩,b⟩;rw [f];have:=z6i D.nd;rw [V2] at this;exact this
theorem zh2 {pins:List (Addr×Obj)} {σ:St} {H:Hp} {s:C0} {p:Addr} {c d:Str} (I:Inv X pins σ H s) (hp:H p=some (.tup [.str c,.str d])):(M5 (strKind X.prog X.w)).is s.heap [c,d] p:=by
 obtain ⟨_,g,a,⟨o,f,b,n,e⟩,_⟩:=(show ObjOk X.prog X.w H s.heap p (.tup [.str c,.str d]) from I.hok p _ hp)
 cases a with
 | cons r1 a=>
  cases a with
  | cons r2 a=>cases a;obtain ⟨i,rfl⟩:=r1;obtain ⟨h,rfl⟩:=r2;exact ⟨o,_,n,f,b,e,.cons (Z7 X.prog X.w _ _) (.cons (Z7 X.prog X.w _ _) .nil)⟩
theorem zaj {a:Addr} {kvs:List ((Str×Str)×V)} (hu:X.A.units + 1 < cLine) (D:KDictT X.K X.w.params a kvs) :
  OpR X (K2 .NotIn) (λ x y H Q=>∃p c d,x=.ref p/\H p=some (.tup [.str c,.str d])/\y=.ref a/\Q (.bl (!(kvs.lookup (c,d)).isSome)) H):=by
 intro l s σ H x y v u Q I b g h;obtain ⟨p,c,d,rfl,i,rfl,q⟩:=h;cases b;cases g;obtain ⟨j,e,f⟩:=D.dict I.kIn;refine wpAny_notIn_heap (k:=[c,d]) hu (zh2 I i) D.lo e ⟨.bl _,H,I.tok _,rfl,?_⟩;have:=RelO.isSome_eq (f c d);rw [F6] at this;rw [this] at q;exact q
theorem ix_kdt {a:Addr} {kvs:List ((Str×Str)×V)} (hu:X.A.units + 1 < cLine) (D:KDictT X.K X.w.params a kvs) :
  IxR X (λ x y H Q=>∃p c d v,x=.ref a/\y=.ref p/\H p=some (.tup [.str c,.str d])/\kvs.lookup (c,d)=some v/\Q v H):=by
 intro t B o s σ H x y v u Q I g n h l;obtain ⟨p,c,d,r,rfl,rfl,m,e,q⟩:=h;cases g;cases n;obtain ⟨j,f,i⟩:=D.dict I.kIn;have b:=i c d;rw [e] at b;cases ef:T7 j [c,d] with
 | none=>rw [ef] at b;exact b.elim
 | some z=>rw [ef] at b;exact tail_any f.typeIs slot_dict_getitem.lookup (wpAny_getItem_heap (k:=[c,d]) hu (zh2 I m) f ef ⟨r,H,I.tok _,b,q⟩) l
end
structure Cal (P:Program) (w:S0) (K:d0) (mg:Str->Option Value) (base:Heap) (x:Str) (ps:List Str) (k:Nat) (sp:Sp):Prop where
 ex :∃f fd,FnOk P w K mg base CX0 k f fd ps sp/\mg x=some (.ref f)/\B3 K (.ref f)=true/\Binds K fd ps []
section
variable {X:Cx} {x:Str} {ps:List Str} {k:Nat} {sp:Sp} {e:Expr} {es:List Expr} {t:TA} {p pos:Pos}
theorem pe_cal (c:Cal X.prog X.w X.K X.mg X.base x ps k sp) (hr:Room k X.A) (hg:Gl X x) (ha:PA X (e :: es) t) (hn:x≠"__name__":=by decide) (hdb:(x == ("__debug__" : Str))=false:=by decide)
  (he:L1 (e :: es) X.env=(false,v3 e X.env) :: L1 es X.env:=by rfl) (hpl:(L4 pos (L1 es X.env)).any (·.1)=false:=by rfl):PE X (.Call (.Name x p) (e :: es) [] pos) (tCall sp [] E0 t):=by
 obtain ⟨f,g,F,a,d,b⟩:=c.ex;exact zis F hr hg a d b .nil pass0 ha hdb he hpl
end
structure TX (K:d0) (mg:Str->Option Value):Prop where
 of :∀{n:Str} {v:Value},d6 K y3 n=some (some v)->mg n=some v
 no :∀{n:Str},d6 K y3 n=some none->mg n=none
theorem TX.mk' {K:d0} {mg:Str->Option Value} {h:Heap} (X:K.In h) (G:h.Ns y3 mg):TX K mg:=⟨λ e=>PySem.W.mg_of X G e,λ e=>PySem.W.mg_none_of X G e⟩
section
variable {X:Cx}
noncomputable def rAdd4 (K:d0):R2:=λ x y H Q=>rI0 (λ i j=>.int (i + j)) x y H Q\/(∃i j,x=.str i/\y=.str j/\i.length + j.length<=sizeLine/\Q (.str (i++j)) H)\/rCat x y H Q\/rCatT K x y H Q
theorem opAdd:OpR X (V4 .Add) (rAdd4 X.K):=op_add.or (op_add_str.or (op_cat.or zb4))
theorem opEq:OpR X (K2 .Eq) rEq:=op_eq
theorem opNe:OpR X (K2 .NotEq) rNe:=op_ne
theorem z3l:CallR X (.builtin "len") (λ xs H Q=>(∃p ys,xs=[.ref p]/\(SqL X.K H p ys\/SqT X.K H p ys)/\Q (.int ys.length) H)\/∃z,xs=[.str z]/\z.length<=sizeLine/\Q (.int z.length) H):=call_len_seq.or zay
end
theorem zc3 {names:List (Str×i5)} {Q:Str×i5->Prop} (h:(names.all λ y=>y.2 != W1)=true) :∀y∈names,y.2=W1->Q y:=λ y a e=>by have:=List.all_eq_true.mp h y a;rw [e] at this;exact absurd this (by decide)
theorem Same.upd {H:Hp} {p:Addr} {o:HO} (h:H p=none):Same H (upd H p o):=λ b u e=>by rw [upd_ne (z0e e h)];exact e
theorem Same.seqT {K:d0} {H H':Hp} {a:Addr} {xs:List V} (e:Same H H') (h:SqT K H a xs):SqT K H' a xs:=by
 rcases h with (h|⟨o,h⟩)|h
 ·exact .inl (.inl (e _ _ h))
 ·exact .inl (.inr ⟨o,e _ _ h⟩)
 ·exact .inr h
end L2
namespace L2
open PySem PySem.Spec PyProof.Rows
open Builtin.Str (occurrences partsBetween strKind)
section
variable {X:Cx}
theorem zb3 {vl:Value} {lo:Option Int} (p:T8 vl lo) :∃l:Option (Int×Tok),vl=partValue l/\l.map (·.1)=lo:=by
 cases p with
 | none=>exact ⟨none,rfl,rfl⟩
 | int i t=>exact ⟨some (i,t),rfl,rfl⟩
end
end L2
namespace L2
open PySem PySem.Spec PyProof.Rows
section
variable {X:Cx}
def rSlS:V->Option Int->Option Int->Hp->VK->Prop:=λ x lo hi H Q=>∃z,x=.str z/\z.length<=sizeLine/\Q (.str (Txt.slice z lo hi)) H
theorem sl_str:SlR X rSlS:=by
 intro j s σ H x v p m o n r Q I a e b f h;obtain ⟨z,rfl,g,q⟩:=h;obtain ⟨t,rfl⟩:=a;obtain ⟨l,rfl,c⟩:=zb3 b;obtain ⟨u,rfl,i⟩:=zb3 f;subst c i;refine ⟨"str",_,F.slot_str_getitem.lookup,typeIs_str _ _ _,wpAny_getItem_str_slice (l:=l) (u:=u) (st:=none) e rfl
  (post_val_or_str ⟨F0 (Txt.slice_le z _ _) g,λ d k=>⟨.str (Txt.slice z _ _),H,I.tok k,⟨d,rfl⟩,q⟩⟩)⟩
theorem slSeq:SlR X (λ x lo hi H Q=>rSlL X.K x lo hi H Q\/rSlT X.K x lo hi H Q\/rSlS x lo hi H Q):=sl_list.or (sl_tup.or sl_str)
end
def RowAt (H:Hp) (r:Addr):Prop:=∃a b c:Int,H r=some (.lst [.int a,.int b,.int c])/\0<=c/\c < 536870909
def Kept (r:Addr) (H H':Hp):Prop:=∀b o,b≠r->H b=some o->H' b=some o
theorem Kept.refl {r:Addr} {H:Hp}:Kept r H H:=λ _ _ _ h=>h
theorem Kept.trans {r:Addr} {H H1 H2:Hp} (a:Kept r H H1) (b:Kept r H1 H2):Kept r H H2:=λ c o n h=>b c o n (a c o n h)
theorem Same.kept {r:Addr} {H H':Hp} (s:Same H H'):Kept r H H':=λ b o _ h=>s b o h
theorem Kept.set {r:Addr} {H:Hp} {o:HO}:Kept r H (upd H r o):=λ b u n h=>by rw [upd_ne n];exact h
structure Rw (r:Addr) (H H':Hp):Prop where
 k:Kept r H H'
 r:RowAt H' r
theorem Rw.trans {r:Addr} {H H1 H2:Hp} (a:Rw r H H1) (b:Rw r H1 H2):Rw r H H2:=⟨a.k.trans b.k,b.r⟩
theorem RowAt.same {r:Addr} {H H':Hp} (h:RowAt H r) (s:Same H H'):RowAt H' r:=by obtain ⟨a,b,c,e,h⟩:=h;exact ⟨a,b,c,s _ _ e,h⟩
theorem Rw.same {r:Addr} {H H1 H2:Hp} (a:Rw r H H1) (s:Same H1 H2):Rw r H H2:=⟨a.k.trans s.kept,a.r.same s⟩
theorem RowAt.fresh {r p:Addr} {H:Hp} (h:RowAt H r) (e:H p=none):p≠r:=by obtain ⟨a,b,c,d,_⟩:=h;intro z;subst z;rw [e] at d;cases d
theorem atI_of {α:Type} {xs:List α} {t:Int} (h0:0<=t) (h1:t < xs.length) :∃v,atI xs t=some v/\v∈xs:=by
 have a:t.toNat < xs.length:=by lia
 refine ⟨xs[t.toNat],?_,a7 a⟩;have:=z04 (xs:=xs) (j:=t.toNat) (v:=xs[t.toNat]) (by simp [a]);rw [Int.toNat_of_nonneg h0] at this;exact this
theorem seq_if {c:TT} {t u rest:TS} {D:Ends} {σ:St} {H:Hp} (R:Hp->Prop) (hr :∀H1,R H1->rest D σ H1) (h:(∀H1,R H1->rest D σ H1)->tIfS c t u { D with nx:=rest D } σ H):tSeq (tIfS c t u) rest D σ H:=h hr
section
variable {r:Addr} {σ:St} {H0:Hp} {K:d0}
theorem g_name {i:Nat} {v:V} {σ:St} {H:Hp} {Q:St->Hp->Prop} (h:Q (σ.set i (some v)) H):gName i v σ H Q:=h
theorem t_nx {nx ct bk:St->Hp->Prop} {rt:VK} {σ:St} {H:Hp} (h:nx σ H):Ends.nx { nx:=nx,rt:=rt,bk:=bk,ct:=ct } σ H:=h
end
end L2
namespace L2
open PySem
section
variable {prog:Program} {w:S0} {A:A2} {E:Value->C0->Prop} {s:C0}
theorem tupOn {it t:Addr} {i:Nat} {its:Array Value} {x:Value} {Q:Value->C0->Prop} (a:s.heap.IsTupleIter it t i) (b:s.heap.IsTuple t its) (c:its[i]? = some x)
  (q :∀h',h'.IsTupleIter it t (i + 1)->J5 it s.heap h'->Q x { s with heap:=h' }):W0 (D1 prog w) A (o4 (.ref it)) Q E s:=by
 obtain ⟨o,e,g,d⟩:=id a;obtain ⟨p,f,_,n,h⟩:=b;unfold o4;refine v0 (S7 (name:=j05 "__next__") a.typeIs d5 (j6 d5 a.typeIs P9 (show W0 _ _ (field (.ref it) 0 >>= _) _ _ s from v0 (r6 e d (x:=.ref t) rfl ?_)) (F9 _)));show W0 _ _ (if (v1 t == w6)=true then _ else (field (.ref it) 1 >>= _)) _ _ s;rw [if_neg (by exact A1)];refine v0 (r6 e d (x:=.int i 0) rfl (show W0 _ _ (z9 (.ref t) >>= _) _ _ s from v0 (P5 f h ?_)));simp only [M8,c];refine v0 (wpAny_setField e d (by simp) (K0 ⟨x,rfl,K0 (q _ ⟨_,J4 _ e (Obj.isFreed_of_fields (Obj.data_mapFields d _)),(Obj.cls_mapFields ..).trans g,?_⟩ (L5 ..))⟩));rw [Obj.data_mapFields d];simp [rawInt]
theorem tupOff {it t:Addr} {i:Nat} {its:Array Value} {Q:Value->C0->Prop} (hh:A.handled=none) (a:s.heap.IsTupleIter it t i) (b:s.heap.IsTuple t its) (c:its[i]? = none)
  (q :∀h' e,Heap.ExtBut it s.heap h'->(∃o,h'.get? e=some o/\o.cls=.type "StopIteration")->E (.ref e) { s with heap:=h' }):W0 (D1 prog w) A (o4 (.ref it)) Q E s:=by
 obtain ⟨o,f,j,d⟩:=id a;obtain ⟨p,g,_,n,h⟩:=b;unfold o4;refine v0 (S7 (name:=j05 "__next__") a.typeIs d5 (j6 d5 a.typeIs P9 (show W0 _ _ (field (.ref it) 0 >>= _) _ _ s from v0 (r6 f d (x:=.ref t) rfl ?_)) (F9 _)));show W0 _ _ (if (v1 t == w6)=true then _ else (field (.ref it) 1 >>= _)) _ _ s;rw [if_neg (by exact A1)];refine v0 (r6 f d (x:=.int i 0) rfl (show W0 _ _ (z9 (.ref t) >>= _) _ _ s from v0 (P5 g h ?_)));simp only [M8,c];refine v0 (P8 (v0 (wpAny_setField f d (by simp) (show W0 _ _ (newExc (.type "StopIteration") [] >>= _) _ _ _ from v0 ?_))));simp only [newExc,newTuple];refine v0 (Q3 (v0 (m:=firstArgMember _ _) (A8 (a:=w6) (by first|rfl|(simp only [firstArgMember];rfl)) (Q3 ?_ (by size_fits)))) (by size_fits));simp only [raiseNew];refine v0 (wpAny_handled ?_);first|rw [show A.in1.handled=none from hh]|rw [hh]
 exact v0 (K0 (wpAny_throw (q _ _ (((L5 ..).extBut.push _).push _) ⟨_,Z0 _ rfl,rfl⟩)))
structure ZApart (z T U i j a b:Addr):Prop where
 dis:[z,T,U,i,j].Nodup
 fa:a∉[z,T,U,i,j]
 fb:b∉[z,T,U,i,j]
structure ZAt (h:Heap) (z T U i j a b:Addr) (n:Nat) (f:Value):Prop where
 z:IsZip h z T U f
 t:IsPair h T (.ref i) (.ref j)
 u :∃p q,IsPair h U p q
 i:h.IsTupleIter i a n
 j:h.IsTupleIter j b n
end
end L2
namespace L2
open PySem PySem.Spec PyProof.Rows
inductive Dt where
 | non|bl (b:Bool)|int (i:Int)|str (z:Str)|tup (ds:List Dt)
mutual
noncomputable def IsDt (K:d0) (H:Hp):Dt->V->Prop
 | .non,v=>v=.non
 | .bl b,v=>v=.bl b
 | .int i,v=>v=.int i
 | .str z,v=>v=.str z
 | .tup ds,v=>∃a xs,v=.ref a/\SqT K H a xs/\IsDts K H ds xs
noncomputable def IsDts (K:d0) (H:Hp):List Dt->List V->Prop
 | [],xs=>xs=[]
 | d :: ds,xs=>∃x r,xs=x :: r/\IsDt K H d x/\IsDts K H ds r
end
mutual
noncomputable def Dt.deep:Dt->Nat
 | .tup ds=>Dt.deeps ds + 1
 | _=>0
noncomputable def Dt.deeps:List Dt->Nat
 | []=>0
 | d :: ds=>max d.deep (Dt.deeps ds)
noncomputable def Dt.plain:Dt->Bool
 | .int _=>true
 | .str _=>true
 | .tup ds=>Dt.plains ds
 | _=>false
noncomputable def Dt.plains:List Dt->Bool
 | []=>true
 | d :: ds=>d.plain && Dt.plains ds
end
section
variable {X:Cx}
theorem zj9 {i:Nat} {x:Str} {p pos:Pos} {e:Expr} {es:List Expr} {t:TA} (tb:Addr->Sp->Prop) (hN:X.N[i]? = some x) (hv:Vis X.env.scope x)
  (G :∀f sp,tb f sp->∃k fd ps,FnOk X.prog X.w X.K X.mg X.base CX0 k f fd ps sp/\Room k X.A/\B3 X.K (.ref f)=true/\Binds X.K fd ps [])
  (ha:PA X (e :: es) t) (hd:(x == ("__debug__" : Str))=false:=by decide) (hcd:(x == ("__classdict__" : Str))=false:=by decide)
  (he:L1 (e :: es) X.env=(false,v3 e X.env) :: L1 es X.env:=by rfl) (hpl:(L4 pos (L1 es X.env)).any (·.1)=false:=by rfl) :
  PE X (.Call (.Name x p) (e :: es) [] pos) (λ σ H Q=>∃f sp,σ[i]? = some (some (.ref f))/\tb f sp/\t σ H λ vs H1=>sp vs H1 Q E0):=by
 intro a s σ H Q I h;obtain ⟨f,sp,d,g,h⟩:=h;obtain ⟨k,fd,ps,F,b,m,j⟩:=G f sp g;refine W3 (thn (pe_var hN hv hd hcd a s σ H (λ v l=>v=.ref f/\l=H) I ⟨_,d,rfl,rfl⟩) λ u c ⟨v,H0,I0,r0,ev,eH⟩=>?_);subst ev eH;obtain rfl:u=v1 f:=r0;refine l6 (h₀:=X.base) I0.ok.mod.kin m (thn (ha pos a c σ _ _ I0 h) λ us n ⟨vs,H1,I1,r,q⟩=>⟨I1.kIn,?_⟩) he hpl;exact run_fn F b j .nil pass0 I1 r (by rw [Q2];exact q)
theorem Inv.turnedL {pins:List (Addr×Obj)} {σ:St} {H:Hp} {s:C0} {h':Heap} {t':Nat} {fp:List Addr} (I:Inv X pins σ H s) (k :∀b o,b∉fp->s.heap.get? b=some o->h'.get? b=some o) (hf :∀b∈fp,FpOk X pins H b) :
  Inv X pins σ H { s with heap:=h',toks:=t' }:=by
 have f :∀b u,H b=some u->b∉fp:=λ b u e z=>by have:=(hf b z).1;rw [this] at e;cases e
 refine I.step (g':=s.gens) (d':=s.drawn) (ch:=fp) (λ b d=>⟨(hf b d).2.2.2.1,(hf b d).2.1,(hf b d).2.2.2.2.1,(hf b d).2.2.2.2.2⟩) (λ b o _ _ a e _=>k b o a e) (λ b o _ _ a e _=>⟨o.slots,k b o a e⟩) (λ _ _ _ _ n=>n)
  (λ b o a e=>⟨o,k b o a e⟩) (λ _ _ e=>e) (λ _ _ _ e=>e) (λ b l e=>⟨#[],by rw [e];simp⟩) (λ m g=>?_) (λ b u e=>?_) I.bare
 ·obtain ⟨o,j,i,h,r⟩:=g;exact ⟨o,j,i,k _ o (λ z=>(hf _ z).2.1 rfl) h,r⟩
 ·refine (I.hok b u e).stay (λ c v a q=>k c v ?_ q) (λ _ q=>q) λ _ _ q=>q;rcases a with z|z
  ·rw [z];exact f b u e
  ·exact f c _ z
theorem Inv.turnedLaid {pins:List (Addr×Obj)} {σ:St} {H:Hp} {s:C0} {h':Heap} {t':Nat} {fp:List Addr} {a:Addr} {o:HO} (I:Inv X pins σ H s) (k :∀b o,b∉fp->s.heap.get? b=some o->h'.get? b=some o) (hf :∀b∈fp,FpOk X pins H b)
  (hp:s.heap.objs.size<=a) (new:ObjOk X.prog X.w (upd H a o) h' a o):Inv X pins σ (upd H a o) { s with heap:=h',toks:=t' }:=by
 have p:H a=none:=I.hok.fresh hp;have h :∀b u,H b=some u->b∉fp:=λ b u e z=>by have:=(hf b z).1;rw [this] at e;cases e
 have g :∀b u,H b=some u->upd H a o b=some u:=λ b u e=>by rw [upd_ne (z0e e p)];exact e
 refine I.step (g':=s.gens) (d':=s.drawn) (ch:=fp) (λ b f=>⟨(hf b f).2.2.2.1,(hf b f).2.1,(hf b f).2.2.2.2.1,(hf b f).2.2.2.2.2⟩) (λ b o _ _ d e _=>k b o d e) (λ b o _ _ d e _=>⟨o.slots,k b o d e⟩)
  (λ b u _ e n=>by rw [upd_ne (λ z=>by subst z;exact absurd (T0 e) (Nat.not_lt.mpr hp))];exact n)
  (λ b o d e=>⟨o,k b o d e⟩) (λ _ _ e=>g _ _ e) (λ _ _ _ e=>g _ _ e) (λ b y e=>⟨#[],by rw [g _ _ e];simp⟩) (λ m j=>?_) (λ b u e=>?_) I.bare
 ·obtain ⟨o,t,i,l,r⟩:=j;exact ⟨o,t,i,k _ o (λ z=>(hf _ z).2.1 rfl) l,r⟩
 ·by_cases f:b=a
  ·subst f;rw [upd_same] at e;cases e;exact new
  ·rw [upd_ne f] at e;refine (I.hok b u e).stay (λ c v d q=>k c v ?_ q) (λ c q=>g _ _ q) λ c x q=>g _ _ q;rcases d with z|z
   ·rw [z];exact h b u e
   ·exact h c _ z
theorem zig:OpR X (V4 .Add) (λ x y H Q=>∃a b ys,x=.ref a/\y=.ref b/\SqT X.K H a []/\SqT X.K H b ys/\Q (.ref b) H):=by intro E s σ H x y v u Q I k w h;obtain ⟨a,b,ys,rfl,rfl,r,m,q⟩:=h;cases k;cases w;obtain ⟨M,j,z,_⟩:=I.tuple r;obtain ⟨n,J,A,_⟩:=I.tuple m;cases j;obtain ⟨⟨L,o,G,C⟩,f,g,l,c⟩:=id z;obtain ⟨⟨F,t,D,p⟩,i,e,B,d⟩:=id A;simp only at g c e d;subst g c e d;exact concat_meets ⟨_,f,rfl⟩ ⟨_,i,rfl⟩ B9 seq_tuple_add Y6 P6 (D6 _ _) (tuple_addW0 a b ([]:List Value).toArray n.toArray l B o t C p (by simp)) ⟨f,i,⟨.ref b,H,I,rfl,q⟩⟩
noncomputable def rCatS (K:d0):R2:=λ x y H Q=>∃a b xs ys,x=.ref a/\y=.ref b/\SqT K H a xs/\SqT K H b ys/\ys≠[]/\xs.length + ys.length<=sizeLine/\∀p H',Same H H'->SqT K H' p (xs++ys)->Q (.ref p) H'
theorem op_catS:OpR X (V4 .Add) (rCatS X.K):=by
 intro f s σ H x y v u Q I e j h;obtain ⟨a,b,d,g,rfl,rfl,i,c,m,l,q⟩:=h;cases d with
 | nil=>exact zig f s σ H _ _ v u Q I e j ⟨a,b,g,rfl,rfl,i,c,q b H (Same.refl H) c⟩
 | cons x d=>exact zb4 f s σ H _ _ v u Q I e j ⟨a,b,x :: d,g,rfl,rfl,i,c,by simp,l,λ z=>absurd z m,λ _ p k=>q p _ (Same.upd k) (SqT.of upd_same)⟩
theorem z0o {o e:Expr} {es:List Expr} {to:TE} {t:TA} {apos cpos:Pos} (ho:PE X o to) (ha:PA X (e :: es) t)
  (hbase:U3 o "append" X.env (v3 o X.env)=v3 o X.env:=by rfl)
  (hfew:((L4 cpos (L1 (e :: es) X.env)).all (λ x=>!x.1) && (a9 cpos (z7 [] X.env)).all (λ x=>x.1.isSome)
   && decide ((e :: es).length + ([]:List Q6).length + (if ([]:List Q6).isEmpty then 0 else 1) < 30))=true:=by rfl)
  (hline:(apos.endLine == cpos.line)=true:=by rfl) (hs:L1 (e :: es) X.env=(false,v3 e X.env) :: L1 es X.env:=by rfl) (hplain:(L4 cpos (L1 es X.env)).any (·.1)=false:=by rfl) :
  PE X (.Call (.Attribute o "append" apos) (e :: es) [] cpos) (tBM X.K "list" zgx to t):=pe_bm N6 PySem.F.slot_list_append PySem.F.type_list_append zgc ho ha hbase hfew hline hs hplain
end
def KeptL (L:List Addr) (H H':Hp):Prop:=∀b o,b∉L->H b=some o->H' b=some o
theorem KeptL.refl {L:List Addr} {H:Hp}:KeptL L H H:=λ _ _ _ h=>h
theorem KeptL.trans {L:List Addr} {H H1 H2:Hp} (a:KeptL L H H1) (b:KeptL L H1 H2):KeptL L H H2:=λ c o n h=>b c o n (a c o n h)
theorem Same.keptL {L:List Addr} {H H':Hp} (s:Same H H'):KeptL L H H':=λ b o _ h=>s b o h
theorem KeptL.set {L:List Addr} {H:Hp} {l:Addr} {o:HO} (h:l∈L):KeptL L H (upd H l o):=λ b u n e=>by rw [upd_ne (λ z=>n (by rw [z];exact h))];exact e
theorem SqT.wrote {K:d0} {H:Hp} {l a:Addr} {o:HO} {zs xs:List V} (e:H l=some (.lst zs)) (h:SqT K H a xs):SqT K (upd H l o) a xs:=by
 rcases h with (h|⟨ob,h⟩)|h
 ·exact .inl (.inl (by rw [upd_ne (ne_of h e (by intro z;cases z))];exact h))
 ·exact .inl (.inr ⟨ob,by rw [upd_ne (ne_of h e (by intro z;cases z))];exact h⟩)
 ·exact .inr h
section
variable {prog:Program} {w:S0} {A:A2} {E:Value->C0->Prop} {s:C0}
theorem zij {v:Value} {Q:Value->C0->Prop} {ns:List Int} (hn:ns.length < 64)
  (hc :∀R:List Value->C0->Prop,(∀h' tk vs,(∀b o,s.heap.get? b=some o->h'.get? b=some o)->O3 vs ns->R vs { s with heap:=h',toks:=tk })->W0 (D1 prog w) A.in1 (collect v) R E s)
  (h :∀(h1 h':Heap) (tk:Nat) (out:Array Value) (ns':List Int) (e:Nat),(∀b o,s.heap.get? b=some o->h1.get? b=some o)->(∀b o,h1.get? b=some o->h'.get? b=some o)->h'.get? h1.objs.size=some { cls:=.type "list",data:=.seq out e }->O3 out.toList ns'->ns'.Perm ns->ns'.Pairwise (·<=·)->Q (.ref h1.objs.size) { s with heap:=h',toks:=tk }) :
  W0 (D1 prog w) A (call (.builtin "sorted") [v]) Q E s:=by
 refine Calls.call_function_entry kind_sorted plain_sorted entry_sorted (args_sorted1 _) ?_;unfold Builtin.«sorted»;refine v0 (m:=checkCount "sorted" 1 1 _) (K0 (v0 (hc _ λ h1 tk vs j d=>?_)));have c:vs.length < 64:=by rw [d.length];exact hn
 refine v0 (wpAny_newList ?_ (F0 (N2 c) (by decide)));have a:(h1.push (seqObj "list" vs.toArray 0)).get? h1.objs.size=some (seqObj "list" vs.toArray 0):=Z0 _ rfl;refine v0 (T3 (j6 slot_list_sort ⟨_,a,rfl⟩ entry_list_sort (list_sort_tree a d c λ out ns' l k g=>⟨_,rfl,?_⟩) (args_list_sort _)));obtain ⟨e,i⟩:=sortedHeap_at (out:=out) a;refine K0 ⟨_,rfl,h h1 _ tk out ns' e j (λ b o f=>?_) i l k g⟩;have lt:=T0 f;refine (sortedHeap_old (B1 lt) ?_).trans (G0 _ f);rw [size_push'];exact Z1 lt
end
section
variable {X:Cx}
def srt (ns:List Int) (H:Hp) (Q:VK):Prop:=∀(l:Addr) (ns':List Int),H l=none->ns'.Perm ns->ns'.Pairwise (·<=·)->Q (.ref l) (upd H l (.lst (ns'.map V.int)))
theorem zj3 {pins:List (Addr×Obj)} {σ:St} {H:Hp} {s:C0} {Q:VK} {ns:List Int} {h1 h':Heap} {tk:Nat} {out:Array Value} {ns':List Int} {e:Nat} (I:Inv X pins σ H s) (hn:ns.length < 64) (q:srt ns H Q)
  (k1 :∀b o,s.heap.get? b=some o->h1.get? b=some o) (k2 :∀b o,h1.get? b=some o->h'.get? b=some o) (g:h'.get? h1.objs.size=some { cls:=.type "list",data:=.seq out e }) (i:O3 out.toList ns') (p:ns'.Perm ns) (r:ns'.Pairwise (·<=·)) :
  EP X pins σ Q (.ref h1.objs.size) { s with heap:=h',toks:=tk }:=by
 have a:Inv X pins σ H { s with heap:=h1 }:=I.kept (t':=s.toks) k1;refine ⟨.ref h1.objs.size,_,a.laid (t':=tk) (o:=.lst (ns'.map V.int)) k2 (B0 _) ⟨?_,out.toList,e,z7s i,by simpa using g⟩,rfl,q _ ns' (a.hok.fresh (B0 _)) p r⟩;rw [L0,p.length_eq];exact F0 (N2 hn) (by decide)
theorem zau:CallR X (.builtin "sorted") (λ xs H Q=>∃a ns,xs=[.ref a]/\(SqL X.K H a (ns.map V.int)\/SqT X.K H a (ns.map V.int))/\ns.length < 64/\srt ns H Q):=by
 intro C s σ H xs us Q I r h;obtain ⟨a,ns,rfl,c,w,q⟩:=h;obtain ⟨u,rfl,x⟩:=vals1 r;cases x;refine zij w (λ R v=>?_) λ E d F B D e y z g i p r=>zj3 I w q y z g i p r;rcases c with c|c
 ·obtain ⟨A,b,j,m⟩:=I.list c;obtain ⟨o,t,f,n,l⟩:=j.isList;exact wpAny_collect_seq a (.inl rfl) t f l (λ d k=>v d s.toks _ k (by simpa using z5y b)) (by rw [U0,<-b.length];exact m)
 ·obtain ⟨A,b,j,m⟩:=I.tuple c;obtain ⟨o,t,f,n,l⟩:=j;exact wpAny_collect_seq a (.inr rfl) t f l (λ d k=>v d s.toks _ k (by simpa using z5y b)) (by rw [U0,<-b.length];exact m)
end
theorem iteP {c A B:Prop} [Decidable c] (hc:c) (h:A):if c then A else B:=by rw [if_pos hc];exact h
theorem iteN {c A B:Prop} [Decidable c] (hc:¬ c) (h:B):if c then A else B:=by rw [if_neg hc];exact h
theorem zep {names:List (Str×i5)} {n:Str} {Q:Str×i5->Prop} (h:(names.all λ y=>y.2 != W1 || y.1 == n)=true) (q :∀k,Q (n,k)) :∀y∈names,y.2=W1->Q y:=λ y c e=>by
 have:=List.all_eq_true.mp h y c;rw [e] at this;have:(y.1 == n)=true:=by simpa using this
 obtain ⟨a,b⟩:=y;rw [beq_iff_eq] at this;have:a=n:=this;subst this;exact q b
noncomputable def CXE (P:Program) (w:S0) (base:Heap):CXT:=λ outer H s E e s'=>∃(ea:Addr) (cls a0:Value) (B:Heap) (H':Hp),e=.ref ea/\s'.os=s.os/\B7 s'.gens/\Un (frs outer) [] H H' s.heap s'.heap/\HOk P w H' s'.heap/\H' ea=none/\
 base.StaysIn B/\Heap.FlyingW B outer ea cls a0 s'.heap/\(∀b o,s'.heap.get? b=some o->b∉frs outer->((∃u,H' b=some u)\/∃u,s.heap.get? b=some u)->B.get? b=some o)/\E cls none H'
theorem passN {X:Cx}:Passes (CXE X.prog X.w X.base) X E0:=λ _ _ _ _ _ _ _ ⟨_,_,_,_,_,_,_,_,_,_,_,_,_,_,z⟩=>z.elim
theorem PS.nox {X:Cx} {st:Stmt} {t:TS} (h:PS X.nox st t):PS X st t:=λ b s σ H D I a=>L3 (h b s σ H D (I.wish _) a) (λ _ _ q=>q.unwish) λ _ _ z=>P3 z
section
variable {P:Program} {w:S0} {K:d0} {mg:Str->Option Value} {base:Heap} {N:List Str} {qual:Str} {scope:Scope} {f:Addr} {cd:Value} {A:A2} {outer:List Env} {s:C0} {H:Hp} {E:XK}
theorem Fun.okE {x qual:Str} {st:Stmt} {f:Addr} {fd:FuncData} {N ps:List Str} {k:Nat} {sp:Sp} (F:Fun K x qual st f fd) (S:FnScope N ps (z06 st)) (len :∀vs H Q E,sp vs H Q E->vs.length=ps.length)
  (hbody :∀(cdv:Value) (A:A2) (outer:List Env) (s:C0) (H:Hp) (vs:List V) (Q:VK) (E:XK),Room k (A.deeper (a8 qual (z06 st) s.heap.objs.size f cdv))->sp vs H Q E->
   ∃t,PSs (cxOf (CXE P w base) P w K mg base N qual (z06 st) f cdv A outer s H E) (z59 st) t/\t { nx:=λ _ H'=>Q .non H',rt:=Q } (start N vs) H):FnOk P w K mg base (CXE P w base) (k + 1) f fd ps sp:=by
 obtain ⟨j,i,kV,l,e,h,cdv,m,g,rfl,b,d⟩:=F.ex;exact fn_of b d S len λ A outer s H vs Q E a c=>hbody cdv A outer s H vs Q E a c
end
structure CalE (P:Program) (w:S0) (K:d0) (mg:Str->Option Value) (base:Heap) (x:Str) (ps:List Str) (k:Nat) (sp:Sp):Prop where
 ex :∃f fd,FnOk P w K mg base (CXE P w base) k f fd ps sp/\mg x=some (.ref f)/\B3 K (.ref f)=true/\Binds K fd ps []
end L2
set_option maxHeartbeats 400000
namespace L2
open PySem PySem.Spec PyProof.Rows PySem.W PySem.Calls PySem.Builtin PySem.Builtin.ObjectAttr PySem.Builtin.Getset_descriptor
end L2
namespace L2
open PySem PySem.Spec PyProof.Rows PySem.W
end L2
namespace L2
open PySem PySem.Spec PyProof.Rows
end L2
set_option maxHeartbeats 4000000
namespace L2
open PySem PySem.Spec PyProof.Rows
noncomputable def cStG (σ:St) (fr:List (Nat×Str)) (us:List (Option V)):St:=us++fr.map λ p=>(σ[p.1]?).join
noncomputable def tCompG (wi:TI) (n:Nat) (fr:List (Nat×Str)) (g:TG) (tc:TT) (te:TE):TE:=λ σ H Q=>wi σ H λ J H1=>∃W:Nat->Nat->List V->Hp->Prop,(∃m,W 0 m [] H1)/\∀i m ys H,W i m ys H->
 (J.stop i H/\ys.length<=sizeLine/\∀p,H p=none->Q (.ref p) (upd H p (.lst ys)))\/
 (J.go i H/\ys.length<=sizeLine/\∀v H',J.yld i H v H'->g v (cStG σ fr (O2 n none)) H' λ σ6 H6=>∃us,us.length=n/\σ6=cStG σ fr us/\tc (cStG σ fr us) H6 λ b H2=>if b=true then te (cStG σ fr us) H2 λ y H3=>∃m',m' < m/\W (i + 1) m' (ys++[y]) H3 else∃m',m' < m/\W (i + 1) m' ys H2)
section
variable {X:Cx}
theorem zhw {scope:Scope} {cl:List (Str×Addr)} {N:List Str} {C:Addr} {s₂:C0} {H₂:Hp} {fp:List Addr} {x:Str} {px:Pos} (i:Nat) (hN:N.Nodup) (hi:N[i]? = some x) (hx:scope.names.lookup x=some .local):PG (cxComp X scope cl N C s₂ H₂ fp) (.Name x px) (gName i):=
 z0d hN hi (.inl (lookup_relabel_local hx)) (.inr (lookup_relabel_local hx))
theorem zd9 {xs:List Str} {tg:Expr} {g:TG} {pos:Pos} {elt iter:Expr} {ifs:List Expr} {scope:Scope} {fr:List (Nat×Str)} {wi:TI} {tc:TT} {te:TE} {use:Option (Value->Sem Unit)} {QQ:Value->C0->Prop} {pins:List (Addr×Obj)} {s:C0} {σ:St} {H:Hp} {Q:VK} {pp:Pos} (hcalm:X.calm=true) (hi:PI X tg iter wi)
  (hfr :∀p∈fr,X.N[p.1]? = some p.2/\(X.env.kindOf p.2=some .cell\/X.env.kindOf p.2=some .free))
  (hfree :∀y∈scope.names,y.2=W1->X.env.kindOf y.1=some .cell\/X.env.kindOf y.1=some .free)
  (hfs :∀p∈fr,(p.2,W1)∈scope.names/\((v7 scope X.env).names.lookup p.2=some .cell\/(v7 scope X.env).names.lookup p.2=some .free))
  (hcell :∀y∈scope.names,y.2≠NameKind.cell) (hkind:scope.kind=.function) (hnames :∀y∈scope.names,y.2=NameKind.local->scope.names.lookup y.1=some .local)
  (hg :∀cl C s₂ H₂ fp,PG (cxComp X scope cl (xs++fr.map (·.2)) C s₂ H₂ fp) tg g)
  (ht :∀cl C s₂ H₂ fp,PF (cxComp X scope cl (xs++fr.map (·.2)) C s₂ H₂ fp) ifs tc) (he :∀cl C s₂ H₂ fp,PE (cxComp X scope cl (xs++fr.map (·.2)) C s₂ H₂ fp) elt te)
  (hs :∀x,T5 iter X.env x=N3 x) (I:Inv X pins σ H s) (h:tCompG wi xs.length fr g tc te σ H Q)
  (hend :∀(D:Addr) (s4:C0) (H4:Hp),Inv X pins σ H4 s4->(∃m,s4.heap.Ns (D + 1) m)->H4 (D + 1)=none->D + 1≠X.env.locals->X.s₀.heap.objs.size<=D + 1->(D + 1∉X.fs/\(∀x c,X.env.cells.lookup x=some c->c≠D + 1)/\∀p∈X.pn++pins,p.1≠D + 1)->Q (.ref D) H4->compPost (D1 X.prog X.w) X.A X.xe use QQ (.ref D) (D + 1) (.ok .next) s4) :
  W0 (D1 X.prog X.w) X.A (comprehension (.ListComp elt [⟨tg,iter,ifs,0⟩] scope pos) scope X.env pp (newList []) false (firstIter [⟨tg,iter,ifs,0⟩] X.env) use) QQ X.xe s:=by
 obtain ⟨cl,f5,U,b9⟩:=zd0 (scope:=scope) (env:=X.env) λ y R hk=>I.ok.has y.1 (hfree y R hk);refine wpAny_comprehension_free (use:=use) rfl hs f5 hkind hnames (thn (hi pins s σ H _ I h) λ xv s₁ h₁=>thn h₁ λ g2 s₂ h₂=>?_);obtain ⟨it,fp,tn,J,L,e,f,T,b3,M,W,⟨m0,w0⟩,d7⟩:=h₂;subst e
 -- the list that is filled,the block's names
 refine Q3 (wpAny_newFunctionEnv hcell (by intro y R;simp at R) (λ h₁ a5 a0=>?_) hkind);dsimp only at a5 a0⊢;generalize hD:s₂.heap.objs.size=D at a5 a0⊢;generalize hG:s₂.heap.push { cls:=.type "list",dict:=none,data:=.seq ([]:List Value).toArray }=G at a5 a0⊢;have hC:G.objs.size=D + 1:=by rw [<-hG,K3,hD]
 generalize hCC:G.objs.size=C at a5 a0 hC⊢;subst hC;have b0 :∀b∈fp,b < D:=λ b a=>by obtain ⟨o,e,_⟩:=T.obj _ _ b3 b a;rw [<-hD];exact T0 e
 have a1 :∀b o,s₂.heap.get? b=some o->h₁.get? b=some o:=λ b o e=>a0.extBut b o (B1 (Z1 (by rw [<-hD];exact T0 e))) (G0 _ (hG ▸ G0 _ e));have d4:G.get? D=some { cls:=.type "list",dict:=none,data:=.seq ([]:List Value).toArray }:=by rw [<-hG,<-hD];exact Z0 _ rfl
 have e8:h₁.PlainList D #[]:=⟨0,a0.extBut _ _ (B1 (V1 D)) (G0 _ d4)⟩
 have f1 :∀y c,cl.lookup y=some c->c < D:=λ y c e=>by obtain ⟨v,q⟩:=f.cell y c (U y c e);rw [<-hD];exact q.lt
 have f9 :∀b∈frs X.stack,b < D:=λ b a=>by
  rcases List.mem_cons.mp (f.stkSub b a) with e|a
  ·rw [e,<-hD];exact f.lt
  ·rw [<-hD];exact Nat.lt_of_not_le λ z=>f.nofs z a
 have c2 :∀b∈fp,b∉frs X.stack:=λ b a d6=>by
  rcases List.mem_cons.mp (f.stkSub b d6) with e|z
  ·exact (M b a).2.1 e
  ·exact (M b a).2.2.1 z
 generalize hX':cxComp X scope cl (xs++fr.map (·.2)) (D + 1) s₂ L fp=X';have e0:X'.Ok:=by
  subst hX';refine ⟨f.ok.mod,hkind,f.ok.glob,f.ok.blt,(by show s₂.heap.objs.size<=D + 1;lia),λ y z c S O=>f.ok.inj y z c (U _ _ S) (U _ _ O),λ y R=>?_,(λ _ _ z=>Bool.noConfusion z),f.ok.hd,f.ok.frames,.inl rfl,λ b a=>⟨?_,λ y c e=>?_⟩,λ b o e=>f.bs b o e,?_,λ b o e a=>?_,c2,f.env0.funs,f.stkFree⟩
  ·rcases R with R|R
   ·exact b9 y (z5z hcell R (.inl rfl))
   ·exact b9 y (z5z hcell R (.inr rfl))
  ·exact B1 (Z1 (b0 b a))
  ·exact (M b a).2.2.2.2.1 y c (U y c e)
  ·exact F0 f.ok.bsz f.sz
  ·rcases (M b a).2.2.2.1 with z|z
   ·exact f.ok.noex b o e z
   ·exact absurd (P1 (T0 (f.ok.bs b o e).1) z) (G4 _)
 have Z:X'.env.locals=D + 1:=by subst hX';rfl
 have a3:X'.env.cells=cl:=by subst hX';rfl
 have a9:X'.fs=frs X.stack:=by subst hX';rfl
 have b5:X'.pn=[]:=by subst hX';rfl
 have a4:X'.s₀=s₂:=by subst hX';rfl
 have c7:X'.H₀=L:=by subst hX';rfl
 have b8:X'.ex=fp:=by subst hX';rfl
 have d2:X'.N=xs++fr.map (·.2):=by subst hX';rfl
 have c8:X'.A=X.A:=by subst hX';rfl
 have F:X'.prog=X.prog/\X'.w=X.w/\X'.K=X.K/\X'.calm=true:=by subst hX';exact ⟨rfl,rfl,rfl,hcalm⟩
 have c0:X'.xe=λ _ _=>False:=by subst hX';rfl
 have c5:X'.env=compEnvC scope cl (D + 1) X.env:=by subst hX';rfl
 have e5:PF X' ifs tc:=hX' ▸ ht cl (D + 1) s₂ L fp;have d8:PE X' elt te:=hX' ▸ he cl (D + 1) s₂ L fp;have f6:PG X' tg g:=hX' ▸ hg cl (D + 1) s₂ L fp;have fresh :∀b,D<=b->L b=none:=λ b a=>f.hok.fresh (by rw [hD];exact a);have start :∀t,Inv X' [] (cStG σ fr (O2 xs.length none)) L { s₂ with heap:=h₁,toks:=t }:=λ t=>by
  refine ⟨e0,by rw [a4],f.bare,?_,⟨_,by rw [Z];exact a5,λ i y v S O e3=>?_⟩,λ y c e=>?_,by rw [Z];exact fresh _ (Z3 _),λ y c e=>?_,λ p B=>?_,?_,?_⟩
  ·rw [a9,b8,c7,a4];exact Un.kept a1
  ·rw [d2] at S;by_cases a2:i < xs.length
   ·exfalso;unfold cStG at O;rw [J1 (by rw [G3];exact a2),b7,if_pos a2] at O;cases O
   ·have a2:xs.length<=i:=m7 a2;rw [K1 a2,E2] at S;unfold cStG at O;rw [K1 (by rw [G3];exact a2),G3,E2] at O;generalize i - xs.length=i at S O;cases ej:fr[i]? with
    | none=>rw [ej] at S;cases S
    | some p=>
     rw [ej] at S;obtain rfl:p.2=y:=Y1 S;have a8:(σ[p.1]?).join=some v:=by rw [ej] at O;exact Y1 O
     have g1:σ[p.1]? = some (some v):=by
      cases q:σ[p.1]? with
      | none=>rw [q] at a8;cases a8
      | some z=>rw [q] at a8;exact congrArg some a8
     have B:=o0 ej;obtain ⟨m,hn,hl⟩:=f.loc;obtain ⟨u,r,l⟩:=hl p.1 p.2 v (hfr p B).1 g1 (by rcases (hfr p B).2 with z|z;exact .inr (.inl z);exact .inr (.inr z));refine ⟨u,r,.inr ⟨?_,?_⟩⟩
     ·rw [c5];exact (hfs p B).2
     ·rcases l with ⟨z,_⟩|⟨_,c,ec,q⟩
      ·exfalso;rcases (hfr p B).2 with z'|z'<;>(rw [z] at z';cases z')
      ·obtain ⟨c',c3⟩:=b9 p.2 (hfs p B).1;have:=U _ _ c3;rw [ec] at this;cases this;obtain ⟨o,ho,hd⟩:=q;exact ⟨c,by rw [a3];exact c3,o,a1 _ _ ho,hd⟩
  ·rw [a3] at e;obtain ⟨v,o,ho,hd⟩:=f.cell y c (U y c e);exact ⟨v,o,a1 _ _ ho,hd⟩
  ·rw [a3] at e;exact f.freeC y c (U y c e)
  ·rw [b5] at B;exact nomatch B
  ·rw [F.1,F.2.1];exact f.hok.kept a1
  ·rw [d2];unfold cStG;simp
 have FP :∀{pins':List (Addr×Obj)} {H':Hp},(∀b∈fp,H' b=none)->(∀p∈pins',p.1=D)->∀b∈fp,FpOk X' pins' H' b:=λ hn B b a=>by
  refine ⟨hn b a,?_,?_,.inl (by rw [b8];exact a),λ y c e=>?_,λ p c1=>?_⟩
  ·rw [Z];exact B1 (Z1 (b0 b a))
  ·rw [a9];exact c2 b a
  ·rw [a3] at e;exact (M b a).2.2.2.2.1 y c (U y c e)
  ·rw [b5] at c1;rw [B p c1];exact J3 (b0 b a)
 -- the turns
 have loop :∀s₃:C0,s₃={ s₂ with heap:=h₁,toks:=s₂.toks + ([]:List (Str×Value)).length }->
   m6 (D1 X.prog X.w) X.A (.compLoop (.ListComp elt [⟨tg,iter,ifs,0⟩] scope pos) 0 (.ref it) (.ref D) (compEnvC scope cl (D + 1) X.env))
    (compPost (D1 X.prog X.w) X.A X.xe use QQ (.ref D) (D + 1)) s₃:=by
  rintro s₃ rfl;rw [<-c5,<-F.1,<-F.2.1,<-c8];refine zfn (λ k s'=>∃i ys its H',Inv X' [] (cStG σ fr (O2 xs.length none)) H' s'/\tn i s'.heap/\(∀b∈fp,H' b=none)/\s'.heap.PlainList D its.toArray/\Vals ys its/\H' D=none/\W i k ys H') ?_ m0
   ⟨0,[],[],L,start _,T.keep _ _ _ b3 λ b a o e=>a1 b o e,λ b a=>(M b a).1,e8,.nil,fresh _ (B0 _),w0⟩
  rintro n s3 ⟨i,ys,its,H3,I3,st3,fr3,ac3,rv3,hD3,w3⟩;obtain ⟨na,f8⟩:=id ac3;have c9:Inv X' [(D,{ cls:=.type "list",data:=.seq its.toArray na })] (cStG σ fr (O2 xs.length none)) H3 s3:=I3.pins_of λ p B=>by rw [z6] at B;subst B;refine ⟨f8,hD3,by rw [Z];exact B1 (V1 D),by rw [a9];exact λ z=>G4 _ (f9 D z),λ v z=>nomatch z⟩
  have hT:=T;rw [<-F.1,<-F.2.1,<-F.2.2.1] at hT;rcases d7 i n ys H3 w3 with ⟨f7,b4,qn⟩|⟨go,b4,step⟩
  ·refine thn (hT.done X' rfl rfl rfl F.2.2.2 i _ s3 _ H3 _ c9 (FP fr3 (by intro p B;rw [List.mem_singleton.mp B])) st3 f7) λ r s4 ⟨hr,I4⟩=>?_;subst hr;obtain ⟨m4,e7,_⟩:=id I4.loc;obtain ⟨h',d0⟩ :∃h',h'=s4.heap:=⟨_,rfl⟩
   have c4:J5 (D + 1) s4.heap h':=by rw [d0];exact ⟨rfl,λ _ _=>rfl⟩
   have d3:D≠D + 1:=B1 (V1 D);have e4:=(I4.pin (D,_) (G1 _ O1))
   have f3:h'.get? D=some { cls:=.type "list",data:=.seq its.toArray na }:=(c4.2 D d3).trans e4.1;have un:Un (frs X.stack) fp L H3 s₂.heap s4.heap:=by have:=I4.base;rw [a9,b8,c7,a4] at this;exact this
   have kp :∀b o,b≠D + 1->s4.heap.get? b=some o->h'.get? b=some o:=λ b o a e=>(c4.2 b a).trans e;have a7 :∀b o,s₂.heap.get? b=some o->b≠D + 1/\b≠D:=λ b o e=>by have:=T0 e;rw [hD] at this;exact ⟨B1 (Z1 this),B1 this⟩
   have f4:Un (frs X.stack) fp L (upd H3 D (.lst ys)) s₂.heap h':=by
    refine ⟨λ b o e n a Y=>kp b o (a7 b o e).1 (un.keep b o e n a Y),λ b o e n a Y=>?_,λ b o e n Y=>by rw [upd_ne (a7 b o e).2];exact un.free b o e n Y,λ b o e Y=>?_,λ b xs e=>?_,λ b o u e=>?_,λ b ps e=>?_⟩
    ·obtain ⟨sl,z⟩:=un.slot b o e n a Y;exact ⟨sl,kp _ _ (a7 b o e).1 z⟩
    ·obtain ⟨o',z⟩:=un.there b o e Y;exact ⟨o',kp _ _ (a7 b o e).1 z⟩
    ·rw [upd_ne (z0e e (fresh D (B0 _)))];exact un.tups b xs e
    ·rw [upd_ne (z0e e (fresh D (B0 _)))];exact un.frzs b o u e
    ·rw [upd_ne (z0e e (fresh D (B0 _)))];exact un.tbls b ps e
   have b1:H3 (D + 1)=none:=by have:=I4.free;rw [Z] at this;exact this
   have d5:HOk X.prog X.w (upd H3 D (.lst ys)) h':=λ b u e=>by
    by_cases a:b=D
    ·subst a;rw [upd_same] at e;cases e;exact ⟨b4,its,na,rv3,f3⟩
    ·rw [upd_ne a] at e;have z:=I4.hok b u e;rw [F.1,F.2.1] at z;refine z.stay (λ c v hc q=>kp c v ?_ q) (λ c q=>by rw [upd_ne (z0e q hD3)];exact q) λ c xs q=>by rw [upd_ne (z0e q hD3)];exact q
     rintro rfl;rcases hc with rfl|hc
     ·rw [b1] at e;cases e
     ·rw [b1] at hc;cases hc
   subst d0;have I5:Inv X pins σ (upd H3 D (.lst ys)) s4:=f.call' (s':=s4) (ch:=fp) (by have:=I4.os;rw [a4] at this;exact this) f4 d5 I4.bare (λ b a=>⟨(M b a).2.2.2.1,(M b a).2.1,(M b a).2.2.2.2.1,(M b a).2.2.2.2.2⟩);show compPost (D1 X'.prog X'.w) X'.A X.xe use QQ (.ref D) (D + 1) (.ok .next) s4;rw [F.1,F.2.1,c8];refine hend D s4 _ I5 ⟨m4,Z ▸ e7⟩ ?_ ?_ ?_ ?_ (qn D hD3)
   ·rw [upd_ne (J3 (V1 D))];exact b1
   ·exact J3 (Z1 (by rw [<-hD];exact f.lt))
   ·exact F0 f.sz (by rw [hD];exact Z3 D)
   ·refine ⟨λ z=>f.nofs (by rw [hD];exact Z3 D) z,λ y c e=>?_,λ p B=>?_⟩
    ·obtain ⟨v,q⟩:=f.cell y c e;exact B1 (Z1 (by rw [<-hD];exact q.lt))
    ·exact B1 (Z1 (by rw [<-hD];exact T0 (f.pin p B).1))
  ·refine thn (hT.item X' rfl rfl rfl F.2.2.2 i _ s3 _ H3 _ c9 (FP fr3 (by intro p B;rw [List.mem_singleton.mp B])) st3 go) λ r s4 ⟨u,hr,h4⟩=>?_;subst hr;refine thn h4 λ _ s5 ⟨v,H5,I5,r5,y5,st5,fr5⟩=>?_;have d9:=I5.pinned (FP fr5 (by intro p B;rw [List.mem_singleton.mp B])) (T.obj _ _ st5);have g5:=f6 _ s5 (cStG σ fr (O2 xs.length none)) H5 v u _ d9 r5 (step v H5 y5);rw [c0] at g5;refine thn g5 λ _ s6 ⟨σ6,H6,I6,us,hus,e6,q6⟩=>?_;subst e6;have t6:=e5 _ s6 _ H6 _ I6 q6;rw [c0] at t6;refine thn t6 λ ok s7 ⟨H7,I7,q7⟩=>?_;have c6 :∀{H8:Hp} {E:C0} {ys':List V} {its':List Value} {pl:List (Addr×Obj)},Inv X' (pl++pinsAt fp s5.heap) (cStG σ fr us) H8 E->E.heap.PlainList D its'.toArray->Vals ys' its'->H8 D=none->(∃m',m' < n/\W (i + 1) m' ys' H8)->
     ∃m,m < n/\∃i ys its H',Inv X' [] (cStG σ fr (O2 xs.length none)) H' E/\tn i E.heap/\(∀b∈fp,H' b=none)/\E.heap.PlainList D its.toArray/\Vals ys its/\H' D=none/\W i m ys H':=λ {H8 E ys' its' pl} P b6 rv8 a6 ⟨m',hm,w8⟩=>by
    refine ⟨m',hm,i + 1,ys',its',H8,(P.pins_of (pins':=[]) (λ p B=>absurd B A0)).weak (by unfold cStG;simp [hus]) ?_,T.keep _ _ _ st5 λ b a o e=>(P.pin (b,o) (G1 _ (G1 _ (z3j a e)))).1,λ b a=>?_,b6,rv8,a6,w8⟩
    ·intro j z e;unfold cStG at e⊢;by_cases hj:j < xs.length
     ·rw [J1 (by rw [G3];exact hj),b7,if_pos hj] at e;cases e
     ·have hj:xs.length<=j:=m7 hj;rw [K1 (by rw [G3];exact hj),G3] at e;rw [K1 (by rw [hus];exact hj),hus];exact e
    ·obtain ⟨o,e,d⟩:=T.obj _ _ st5 b a;exact (P.pin (b,o) (G1 _ (G1 _ (z3j a e)))).2.1
   have b2 :∀{H8:Hp} {E:C0} {σ8:St},Inv X' ([(D,{ cls:=.type "list",data:=.seq its.toArray na })]++pinsAt fp s5.heap) σ8 H8 E->E.heap.PlainList D its.toArray/\H8 D=none:=λ P=>
    have z:=P.pin (D,_) (G1 _ (Z5 _ O1))
    ⟨⟨na,z.1⟩,z.2.1⟩
   cases ok with
   | false=>rw [if_neg A1] at q7⊢;exact c6 I7 (b2 I7).1 rv3 (b2 I7).2 q7
   | true=>
    rw [if_pos rfl] at q7⊢;have t7:=d8 _ s7 _ H7 _ I7 q7;rw [c0] at t7;refine thn t7 λ y E ⟨vy,H8,P,r8,q8⟩=>?_;obtain ⟨b6,a6⟩:=b2 P;refine wpAny_list_append_plain (hsz:=by have:=rv3.length;rw [U0,<-this];exact b4) b6 λ h9 d1 f0=>?_;have I9:Inv X' ([]++pinsAt fp s5.heap) (cStG σ fr us) H8 E:=P.pins_of λ p B=>(P.pin p (G1 _ (G1 _ B)))
    have g0:Inv X' ([]++pinsAt fp s5.heap) (cStG σ fr us) H8 { E with heap:=h9 }:=by
     refine I9.turned (t':=E.toks) (it:=D) (λ b o a e=>(f0.2 b a).trans e) a6 (by rw [Z];exact B1 (V1 D)) (.inr (by rw [a4,hD];exact B0 _)) (λ y' c e=>?_) λ p B=>?_
     ·rw [a3] at e;exact B1 (f1 y' c e)
     ·rw [b5] at B;exact B1 (b0 _ (zbb B).1)
    have e9:its.toArray.push y=(its++[y]).toArray:=by simp
    rw [e9] at d1;exact c6 g0 d1 (rv3.snoc r8) a6 q8
 exact codeAny_compStart_list (loop _ rfl) (T.self _ 0 _ _ _ (T.keep _ _ _ b3 λ b a o e=>a1 b o e) (loop _ rfl))
theorem zi9 {xs:List Str} {tg:Expr} {g:TG} {pos:Pos} {elt iter:Expr} {ifs:List Expr} {scope:Scope} {fr:List (Nat×Str)} {wi:TI} {tc:TT} {te:TE} (hcalm:X.calm=true) (hi:PI X tg iter wi)
  (hfr :∀p∈fr,X.N[p.1]? = some p.2/\(X.env.kindOf p.2=some .cell\/X.env.kindOf p.2=some .free))
  (hfree :∀y∈scope.names,y.2=W1->X.env.kindOf y.1=some .cell\/X.env.kindOf y.1=some .free)
  (hfs :∀p∈fr,(p.2,W1)∈scope.names/\((v7 scope X.env).names.lookup p.2=some .cell\/(v7 scope X.env).names.lookup p.2=some .free))
  (hcell :∀y∈scope.names,y.2≠NameKind.cell) (hkind:scope.kind=.function) (hnames :∀y∈scope.names,y.2=NameKind.local->scope.names.lookup y.1=some .local)
  (hg :∀cl C s₂ H₂ fp,PG (cxComp X scope cl (xs++fr.map (·.2)) C s₂ H₂ fp) tg g)
  (ht :∀cl C s₂ H₂ fp,PF (cxComp X scope cl (xs++fr.map (·.2)) C s₂ H₂ fp) ifs tc) (he :∀cl C s₂ H₂ fp,PE (cxComp X scope cl (xs++fr.map (·.2)) C s₂ H₂ fp) elt te)
  (hs :∀x,T5 iter X.env x=N3 x:=by intro _;rfl):PE X (.ListComp elt [⟨tg,iter,ifs,0⟩] scope pos) (tCompG wi xs.length fr g tc te):=by
 intro r s σ H Q I h;rw [eval_ListComp];refine zd9 hcalm hi hfr hfree hfs hcell hkind hnames hg ht he hs I h λ D k n j a f i l ⟨c,hc,hp⟩ q=>?_;obtain ⟨m,a⟩:=a;exact ⟨m,a,λ t d=>⟨.ref D,n,j.turned (t':=k.toks) (it:=D + 1) (λ b o c e=>(d.2 b c).trans e) f i (.inr l) hc hp,rfl,q⟩⟩
theorem z92 {xs:List Str} {tg:Expr} {g:TG} {pos:Pos} {elt iter:Expr} {ifs:List Expr} {scope:Scope} {fr:List (Nat×Str)} {wi:TI} {tc:TT} {te:TE} {i:Nat} {y:Str} {py spos:Pos} (hNy:X.N.Nodup) (hiy:X.N[i]? = some y) (hy:Loc X.env.scope y) (hcalm:X.calm=true) (hi:PI X tg iter wi)
  (hfr :∀p∈fr,X.N[p.1]? = some p.2/\(X.env.kindOf p.2=some .cell\/X.env.kindOf p.2=some .free))
  (hfree :∀y∈scope.names,y.2=W1->X.env.kindOf y.1=some .cell\/X.env.kindOf y.1=some .free)
  (hfs :∀p∈fr,(p.2,W1)∈scope.names/\((v7 scope X.env).names.lookup p.2=some .cell\/(v7 scope X.env).names.lookup p.2=some .free))
  (hcell :∀y∈scope.names,y.2≠NameKind.cell) (hkind:scope.kind=.function) (hnames :∀y∈scope.names,y.2=NameKind.local->scope.names.lookup y.1=some .local)
  (hg :∀cl C s₂ H₂ fp,PG (cxComp X scope cl (xs++fr.map (·.2)) C s₂ H₂ fp) tg g)
  (ht :∀cl C s₂ H₂ fp,PF (cxComp X scope cl (xs++fr.map (·.2)) C s₂ H₂ fp) ifs tc) (he :∀cl C s₂ H₂ fp,PE (cxComp X scope cl (xs++fr.map (·.2)) C s₂ H₂ fp) elt te)
  (hs :∀x,T5 iter X.env x=N3 x:=by intro _;rfl) (hw:R6 (.ListComp elt [⟨tg,iter,ifs,0⟩] scope pos) (some (.Name y py)) spos.line X.env=N3 true:=by rfl) (hf:X.fn y=true\/X.env.scope.names.lookup y=some .local:=by first|exact .inl rfl|exact .inr rfl|assumption) :
  PS X (.Assign [.Name y py] (.ListComp elt [⟨tg,iter,ifs,0⟩] scope pos) spos) (tAsg (tCompG wi xs.length fr g tc te) (gName i)):=by
 intro f s σ H D I h;rw [exec_Assign_Name_used y py _ spos hw];refine v0 (wpAny_standAt (v0 ?_));show W0 _ _ (do let _ <-comprehension (.ListComp elt [⟨tg,iter,ifs,0⟩] scope pos) scope X.env (firstIterPos [⟨tg,iter,ifs,0⟩] pos) (newList []) (firstAsync [⟨tg,iter,ifs,0⟩]) (firstIter [⟨tg,iter,ifs,0⟩] X.env) (some (assign (.Name y py) X.env));N3 ()) _ _ _;refine v0 (zd9 hcalm hi hfr hfree hfs hcell hkind hnames hg ht he hs I h λ A n u l d J k G ⟨c,hc,hp⟩ q=>?_);obtain ⟨m,d⟩:=d;obtain ⟨o,M,F,L,r,O,K⟩:=d;have E:Inv X ((A + 1,o) :: f) σ u n:=l.pins_of λ p a=>by
  rcases List.mem_cons.mp a with rfl|a
  ·exact ⟨L,J,k,c,λ v z=>by rw [r] at z;cases z⟩
  ·exact l.pin p (G1 _ a)
 refine thn (z0d (pos:=py) hNy hiy hy hf _ n σ u (.ref A) (.ref A) D.nx E rfl q) λ _ t ⟨σ5,H5,I6,q6⟩=>?_;have j:=I6.pin (A + 1,o) (G1 _ O1);have w:Inv X f σ5 H5 t:=I6.pins_of λ p a=>I6.pin p (G1 _ (E1 _ a));refine ⟨m,⟨o,M,F,j.1,r,O,K⟩,λ P B=>?_⟩;exact K0 (K0 ⟨σ5,H5,w.turned (t':=t.toks) (it:=A + 1) (λ b o c e=>(B.2 b c).trans e) j.2.1 k (.inr G) hc hp,q6⟩)
end
end L2
set_option maxHeartbeats 400000
namespace L2
open PySem PySem.Spec PyProof.Rows
theorem ze0 {t rest:TS} {D:Ends} {σ:St} {H:Hp} (R:St->Hp->Prop) (hr :∀σ1 H1,R σ1 H1->rest D σ1 H1) (h:(∀σ1 H1,R σ1 H1->rest D σ1 H1)->t { D with nx:=rest D } σ H):tSeq t rest D σ H:=h hr
theorem z0g {te:TE} {g:TG} {rest:TS} {D:Ends} {σ:St} {H:Hp} (h:te σ H λ x H1=>g x σ H1 (rest D)):tSeq (tAsg te g) rest D σ H:=h
structure Runs (J:It) (H1:Hp) (n:Nat) (Item:Nat->V->Hp->Prop):Prop where
 go :∀i,i < n->∀H,Same H1 H->J.go i H
 stop :∀H,Same H1 H->J.stop n H
 item :∀i,i < n->∀H v H',Same H1 H->J.yld i H v H'->Same H H'/\Item i v H'
theorem z21 (p:Nat->Bool) (n:Nat):(V0 (n + 1)).filter p=(V0 n).filter p++(if p n=true then [n] else []):=by rw [m5,G2,N5];cases p n<;>rfl
inductive All2 {α β:Type} (R:α->β->Prop):List α->List β->Prop
 | nil:All2 R [] []
 | cons {a:α} {b:β} {xs:List α} {ys:List β}:R a b->All2 R xs ys->All2 R (a :: xs) (b :: ys)
theorem z5t {α β:Type} {R:α->β->Prop} :∀{xs:List α} {ys:List β} {x:α} {y:β},All2 R xs ys->R x y->All2 R (xs++[x]) (ys++[y])
 | [],_,x,y,.nil,h=>.cons h .nil
 | _ :: _,_,x,y,.cons a r,h=>.cons a (z5t r h)
theorem z02 {α β:Type} {R S:α->β->Prop} (h :∀a b,R a b->S a b) :∀{xs:List α} {ys:List β},All2 R xs ys->All2 S xs ys
 | [],_,.nil=>.nil
 | _ :: _,_,.cons a r=>.cons (h _ _ a) (z02 h r)
theorem z05 {α β:Type} {R:α->β->Prop} :∀{xs:List α} {ys:List β},All2 R xs ys->ys.length=xs.length
 | [],_,.nil=>rfl
 | _ :: _,_,.cons _ r=>congrArg (· + 1) (z05 r)
theorem z6f {α β:Type} {f:α->β} :∀{xs:List α} {ys:List β},All2 (λ x y=>y=f x) xs ys->ys=xs.map f
 | [],_,.nil=>rfl
 | _ :: _,_,.cons a r=>by rw [Y0,z6f r,a]
theorem z1c {α β:Type} (p:α->Bool) (f:α->β) (d:α) :∀xs:List α,((V0 xs.length).filter λ i=>p (xs[i]?.getD d)).map (λ i=>f (xs[i]?.getD d))=(xs.filter p).map f:=by
 intro xs;have h:(V0 xs.length).map (λ i=>xs[i]?.getD d)=xs:=by
  apply List.ext_getElem
  ·simp
  ·intro i b a;simp only [List.getElem_map,List.getElem_range,N0 a,Option.getD_some]
 have e:(xs.filter p).map f=((((V0 xs.length).map (λ i=>xs[i]?.getD d))).filter p).map f:=by rw [h]
 rw [e,List.filter_map,V2];rfl
structure QE (X:Cx) (e:Expr) (t:TE):Prop where
 run:PE X e t
structure QA (X:Cx) (es:List Expr) (t:TA):Prop where
 run:PA X es t
structure QPs (X:Cx) (pos:Pos) (ks:List (Option Expr)) (vs:List Expr) (t:List (TE×TE)):Prop where
 run:PPs X pos ks vs t
structure QS (X:Cx) (st:Stmt) (t:TS):Prop where
 run:PS X st t
structure QSs (X:Cx) (sts:List Stmt) (t:TS):Prop where
 run:PSs X sts t
section
variable {X:Cx} {pos:Pos}
theorem q_of {sts:List Stmt} {t:TS} {G:TS->Prop} (q:QSs X sts t) (g:G t) :∃t,PSs X sts t/\G t:=⟨t,q.run,g⟩
theorem zjm {st:Stmt} {t:TS} (h:QS X st t):QSs X [st] t:=⟨z03 h.run⟩
theorem z9z {st:Stmt} {rest:List Stmt} {t u:TS} (h:QS X st t) (r:QSs X rest u):QSs X (st :: rest) (tSeq t u):=⟨z01 h.run r.run⟩
theorem qs_set {i:Nat} {x:Str} {e:Expr} {te:TE} {pos':Pos} (hN:X.N.Nodup) (hi:X.N[i]? = some x) (hx:Loc X.env.scope x) (he:QE X e te) (hs:R6 e (some (.Name x pos')) pos.line X.env=N3 false:=by rfl) (hf:X.fn x=true\/X.env.scope.names.lookup x=some .local:=by first|exact .inl rfl|exact .inr rfl|assumption) :
  QS X (.Assign [.Name x pos'] e pos) (tAsg te (gName i)):=⟨ps_set hN hi hx he.run hs hf⟩
theorem qe_lst {es:List Expr} {t:TA} (h:QA X es t):QE X (.List es pos) (tLst t):=⟨pe_lst h.run⟩
theorem qa_nil:QA X [] tNil:=⟨pa_nil⟩
theorem z4p {e:Expr} {es:List Expr} {te:TE} {t:TA} (ha:QE X e te) (hr:QA X es t) (hs:L1 (e :: es) X.env=(false,v3 e X.env) :: L1 es X.env:=by rfl):QA X (e :: es) (tCons te t):=⟨z00 ha.run hr.run hs⟩
theorem qe_ix {a b:Expr} {ta tb:TE} {r:R2} (hr:IxR X r) (ha:QE X a ta) (hb:QE X b tb) (hs:zgt b):QE X (.Subscript a b pos) (tOp r ta tb):=⟨pe_ix hr ha.run hb.run hs⟩
end
theorem z0j {X:Cx} {K:d0} (h:X.K=K):IxR X (rIx K):=h ▸ ix_seq
theorem z0a {α β:Type} {R:α->β->Prop} :∀{xs:List α} {ys:List β} {i:Nat} {y:β},All2 R xs ys->ys[i]? = some y->∃x,xs[i]? = some x/\R x y
 | _,_,i,y,.nil,e=>by simp at e
 | _,_,0,y,.cons a _,e=>by rw [Z2] at e;cases e;exact ⟨_,Z2,a⟩
 | _,_,i + 1,y,.cons _ r,e=>by rw [C2] at e;obtain ⟨x,c,b⟩:=z0a r e;exact ⟨x,by rw [C2];exact c,b⟩
end L2
set_option maxHeartbeats 4000000
namespace L2
open PySem PySem.Spec PyProof.Rows
section
variable {prog:Program} {w:S0} {A:A2} {E:Value->C0->Prop} {s:C0}
theorem z6m (hh:A.handled=none) (it t:Addr) (ne:t≠it) (items:Array Value):Draws prog w A it [it,t] items.size (λ i v=>items[i]? = some v) (λ i h=>h.IsTupleIter it t i/\h.IsTuple t items) where
 live:=λ i h a=>a.1.elim λ o z=>⟨o,z.1⟩
 frame:=λ i h b a k=>⟨a.1.elim λ o z=>⟨o,k it (by simp) o z.1,z.2⟩,a.2.elim λ o z=>⟨o,k t (by simp) o z.1,z.2⟩⟩
 item:=λ i s Q E d a q=>tupOn a.1 a.2 (G6 d) λ b f c=>q _ b s.toks (G6 d) ⟨f,a.2.elim λ o z=>⟨o,(c.2 t ne).trans z.1,z.2⟩⟩ c
 done:=λ s Q E a q=>tupOff hh a.1 a.2 (by simp) λ b e x y=>q b e x y
theorem zjk (a:Addr) (xs:Array Value):Meets (Builtin.«enumerate.__new__» ⟨[.type "enumerate",.ref a],[]⟩) (λ _ R s=>s.heap.IsTuple a xs/\R (.ok (.ret (.ref (s.heap.objs.size + 1))))
  { s with heap:=(s.heap.push { cls:=.type "tuple_iterator",data:=.fields #[.ref a,.int 0 0] }).push { cls:=.type "enumerate",data:=.fields #[.none,.bool false,.ref s.heap.objs.size,rawInt 0,.none,.none] } }):=
 .of_wp λ f w A R s h=>by
  obtain ⟨k,g,d,i,e⟩:=s;obtain ⟨j,h⟩:=h;have m:=sub_enumerate;have b:Heap.IsTuple (Shared.heap ⟨k,g,d,i,e⟩) a xs:=j
  wp_walk using K5 b
  intro Γ p l;show W0 (D1 f w) A.in1 (N3 _) _ _ _;refine K0 ?_;generalize List.drop 1 ((Γ.code,p) :: Γ.below)=L;split
  ·rename_i c _ _ _ _;cases c == W4 "enumerate" with
   | true=>
    wp_walk using K5 b
    refine ⟨_,rfl,?_⟩;simpa [K3,C4] using h
   | false=>
    wp_walk using K5 b
    refine ⟨_,rfl,?_⟩;simpa [K3,C4] using h
  ·wp_walk using K5 b
   refine ⟨_,rfl,?_⟩;simpa [K3,C4] using h
theorem zhc {a:Addr} {xs:Array Value} {Q:Value->C0->Prop} (ha:s.heap.IsTuple a xs)
  (q :∀h',IsEnum h' (s.heap.objs.size + 1) s.heap.objs.size 0 .none->h'.IsTupleIter s.heap.objs.size a 0->h'.objs.size=s.heap.objs.size + 2->(∀c o,s.heap.get? c=some o->h'.get? c=some o)->Q (.ref (s.heap.objs.size + 1)) { s with heap:=h' }) :
  W0 (D1 prog w) A (call (.type "enumerate") [.ref a]) Q E s:=by
 refine callType_new F.called_enumerate (by decide) (F.typeCall_enumerate_1 _) (F.newCall_enumerate_1 _) (λ f=>F.args_object_init_2 f _) F.entry_enumerate_new (zjk a xs) ⟨ha,?_⟩;generalize hn:s.heap.objs.size=n at q⊢;generalize h0:s.heap.push { cls:=.type "tuple_iterator",data:=.fields #[.ref a,.int 0 0] }=k0;have b:k0.objs.size=n + 1:=by rw [<-h0,K3,hn]
 have g:k0.get? n=some { cls:=.type "tuple_iterator",data:=.fields #[.ref a,.int 0 0] }:=by rw [<-h0,<-hn];exact Z0 _ rfl
 have d:(k0.push { cls:=.type "enumerate",data:=.fields #[.none,.bool false,.ref n,rawInt 0,.none,.none] }).get? (n + 1)=some { cls:=.type "enumerate",data:=.fields #[.none,.bool false,.ref n,rawInt 0,.none,.none] }:=by rw [<-b];exact Z0 _ rfl
 exact ⟨⟨_,d,rfl⟩,q _ d ⟨_,G0 _ g,rfl,rfl⟩ (by rw [K3,b]) λ c o e=>G0 _ (by rw [<-h0];exact G0 _ e)⟩
end
noncomputable def IteL (K:d0) (a:Addr):It:=
  ⟨λ i H=>∃xs x,SqL K H a xs/\xs[i]? = some x,
   λ i H v H'=>∃p,H p=none/\v=.ref p/\∀xs,SqL K H a xs->∃x,xs[i]? = some x/\H'=upd H p (.tup [.int i,x]),
   λ i H=>∃xs,SqL K H a xs/\xs.length=i⟩
theorem w_0:(0:Nat)<=sizeLine:=by decide
theorem w_1:(1:Nat)<=sizeLine:=by decide
theorem w_2:(2:Nat)<=sizeLine:=by decide
theorem w_3:(3:Nat)<=sizeLine:=by decide
theorem w_4:(4:Nat)<=sizeLine:=by decide
theorem w_5:(5:Nat)<=sizeLine:=by decide
theorem w_7:(7:Nat)<=sizeLine:=by decide
theorem w_8:(8:Nat)<=sizeLine:=by decide
theorem zdb {P:Program} {w:S0} {K:d0} {elts:List Expr} {x1:Nat} {pos:Pos} {e it a:Addr} (ne:e≠it) (nae:a≠e) (nai:a≠it):Turn P w K (.Tuple elts x1 pos) (IteL K a) [e,it] e (λ n h=>(∃old,IsEnum h e it (n:Nat) old)/\h.IsListIter it a n) where
 mem:=by simp
 obj:=λ n h g c f=>by
  simp only [F2,A0,or_false] at f;rcases f with rfl|rfl
  ·obtain ⟨⟨old,z⟩,_⟩:=g;exact ⟨_,z,λ v z=>by cases (show j0i _=Data.cell v from z)⟩
  ·obtain ⟨_,o,e,_,d⟩:=g;exact ⟨o,e,λ v z=>by rw [d] at z;cases z⟩
 keep:=λ n h U g k=>by obtain ⟨⟨old,z⟩,o,e1,e2⟩:=g;exact ⟨⟨old,k e (by simp) _ z⟩,o,k it (by simp) _ e1,e2⟩
 item:=by
  intro X F L B f n a2 s σ H E I p g J;subst F L B;obtain ⟨N,x,q,S⟩:=J;obtain ⟨i,r,j,_⟩:=I.list q;have j:s.heap.IsList a i.toArray:=j.isList;obtain ⟨u,T,ru⟩:=r.get S;have D:=Draws.list (prog:=X.prog) (w:=X.w) (A:=X.A.in1) (I.ok.hd f) it a nai i.toArray;have Z:n < i.toArray.size:=by have:=(List.getElem?_eq_some_iff.mp T).1;simpa using this
  obtain ⟨⟨old,V⟩,O⟩:=g;refine wpAny_pyNext_enum_itemD D V ⟨O,j⟩ Z ne (by simp [ne,nae.symm]) λ y U t m a1 Y tT hz G=>?_;have m:i[n]? = some y:=by simpa using m
  rw [T] at m;cases m;have a6:e < s.heap.objs.size:=T0 V;have a4:it < s.heap.objs.size:=by obtain ⟨o,z,_⟩:=O;exact T0 z
  have R:s.heap.objs.size≠e:=J3 a6;have nT:s.heap.objs.size∉[e,it]:=by simp only [F2,A0,or_false,not_or];exact ⟨R,J3 a4⟩
  refine ⟨_,rfl,Z9 a1 λ Q a3 C=>?_⟩;have k2 :∀b o,b∉[e,it]->s.heap.get? b=some o->Q.get? b=some o:=λ b o l z=>by simp only [F2,A0,or_false,not_or] at l;exact (C.2 b l.1).trans (G b o l.1 l.2 z)
  have M:=(C.2 _ R).trans tT;have a0:=Y.1.elim λ o z=>(⟨o,(C.2 it ne.symm).trans z.1,z.2⟩:Q.IsListIter it a (n + 1))
  have fr:H s.heap.objs.size=none:=I.hok.fresh (B0 _);refine ⟨.ref s.heap.objs.size,upd H s.heap.objs.size (.tup [.int n,x]),I.turnedLaid (t':=t + 1) k2 p (B0 _) ⟨w_2,[.int n t,u],.cons ⟨t,rfl⟩ (.cons ru .nil),⟨_,M,rfl,_,rfl⟩,_,M,rfl⟩,rfl,⟨_,fr,rfl,λ a7 a5=>⟨x,?_,rfl⟩⟩,⟨⟨_,a3⟩,a0⟩,λ c f=>?_⟩
  ·rw [I.list_inj a5 q];exact S
  ·rw [upd_ne (λ (z:c=s.heap.objs.size)=>nT (z ▸ f))];exact (p c f).1
 done:=by
  intro X F L B f n a2 s σ H E I p g J;subst F L B;obtain ⟨N,q,rfl⟩:=J;obtain ⟨i,r,j,_⟩:=I.list q;have j:s.heap.IsList a i.toArray:=j.isList;have D:=Draws.list (prog:=X.prog) (w:=X.w) (A:=X.A.in1) (I.ok.hd f) it a nai i.toArray;have W:=WalksT.enumerateD D e ne (by simp [ne,nae.symm]) (by simp);have la:i.toArray.size=N.length:=by simpa using r.length.symm
  exact W.done s _ E (by rw [la];exact ⟨g.1,g.2,j⟩) λ U tk G=>⟨rfl,I.turnedL (t':=tk) (λ c o f e=>G c o f e) p⟩
 self:=λ _ _ _ _ _ g h=>g.1.elim λ old z=>p7 z h
noncomputable def ieL (K:d0) (ta:TA):TI:=λ σ H R=>ta σ H λ vs H1=>∃a xs,vs=[.ref a]/\SqL K H1 a xs/\R (IteL K a) H1
theorem z62 {X:Cx} {elts:List Expr} {x1:Nat} {tpos:Pos} {e:Expr} {ta:TA} {p pos:Pos} (hg:Gl X "enumerate") (hm:X.mg "enumerate" = none) (ha:PA X [e] ta) (hs:L1 [e] X.env=[(false,v3 e X.env)]:=by rfl) :
  PI X (.Tuple elts x1 tpos) (.Call (.Name "enumerate" p) [e] [] pos) (ieL X.K ta):=by
 intro m s σ H R I h;refine Call_ (ld_blt I hg hm boot_enumerate (P2 (thn (ha pos m s σ H _ I h) λ us d ⟨vs,H1,I1,r1,q1⟩=>?_) (by rw [hs];rfl) rfl));obtain ⟨a,x,k,v,q⟩:=q1;subst k;obtain ⟨u,rfl,n⟩:=vals1 r1;cases (show u=v1 a from n);obtain ⟨t,w,b,_⟩:=I1.list v;have b:d.heap.IsList a t.toArray:=b.isList;have i:a < d.heap.objs.size:=by obtain ⟨o,e,_⟩:=id b;exact T0 e
 refine call_enumerate_list b λ y j l _ r=>?_;refine p7 j ?_;refine ⟨_,_,_,_,H1,rfl,I1.kept (t':=d.toks) r,zdb (J3 (V1 _)) (B1 (Z1 i)) (B1 i),⟨⟨_,j⟩,l⟩,λ c f=>?_,q⟩;have g:d.heap.objs.size<=c:=by
  simp only [F2,A0,or_false] at f;rcases f with rfl|rfl
  ·exact S8 _ _
  ·exact B0 _
 exact I1.fpOk g (I1.hok.fresh g)
theorem z73 {K:d0} {a:Addr} {xs:List V} {g:TG} {tb:TS} {D:Ends} {σ:St} {H:Hp} (Pv:Nat->St->Hp->Prop) (h0:Pv 0 σ H) (hl :∀i σ H,Pv i σ H->SqL K H a xs)
  (hs :∀i x σ H p,xs[i]? = some x->Pv i σ H->H p=none->g (.ref p) σ (upd H p (.tup [.int i,x])) λ σ2 H2=>tb { D with nx:=Pv (i + 1),ct:=Pv (i + 1),bk:=D.nx } σ2 H2) (hd :∀σ H,Pv xs.length σ H->D.nx σ H) :
  ∃W:Nat->Nat->St->Hp->Prop,(∃m,W 0 m σ H)/\∀i m σ H,W i m σ H->
   ((IteL K a).stop i H/\D.nx σ H)\/((IteL K a).go i H/\∃N:St->Hp->Prop,(∀σ' H',N σ' H'->∃m',m' < m/\W (i + 1) m' σ' H')/\∀x H',(IteL K a).yld i H x H'->g x σ H' λ σ2 H2=>tb { D with nx:=N,ct:=N,bk:=D.nx } σ2 H2):=by
 refine ⟨λ i m σ H=>m=xs.length - i/\i<=xs.length/\Pv i σ H,⟨xs.length,by simp,B2 _,h0⟩,?_⟩;rintro i m σ H ⟨rfl,hi,p⟩;have b:=hl i σ H p;by_cases hlt:i < xs.length
 ·refine .inr ⟨⟨xs,xs[i],b,by simp [hlt]⟩,Pv (i + 1),λ σ' H' h=>⟨xs.length - (i + 1),by lia,rfl,hlt,h⟩,λ v H' y=>?_⟩;obtain ⟨t,f,rfl,c⟩:=y;obtain ⟨j,d,rfl⟩:=c xs b;exact hs i j σ H t d p f
 ·have e:i=xs.length:=by lia
  subst e;exact .inl ⟨⟨xs,b,rfl⟩,hd σ H p⟩
noncomputable def IteT (K:d0) (a:Addr):It:=
  ⟨λ i H=>∃xs x,SqT K H a xs/\xs[i]? = some x,
   λ i H v H'=>∃p,H p=none/\v=.ref p/\∀xs,SqT K H a xs->∃x,xs[i]? = some x/\H'=upd H p (.tup [.int i,x]),
   λ i H=>∃xs,SqT K H a xs/\xs.length=i⟩
theorem zec {P:Program} {w:S0} {K:d0} {elts:List Expr} {x1:Nat} {pos:Pos} {e it a:Addr} (ne:e≠it) (nae:a≠e) (nai:a≠it):Turn P w K (.Tuple elts x1 pos) (IteT K a) [e,it] e (λ n h=>(∃old,IsEnum h e it (n:Nat) old)/\h.IsTupleIter it a n) where
 mem:=by simp
 obj:=λ n h g c f=>by
  simp only [F2,A0,or_false] at f;rcases f with rfl|rfl
  ·obtain ⟨⟨old,z⟩,_⟩:=g;exact ⟨_,z,λ v z=>by cases (show j0i _=Data.cell v from z)⟩
  ·obtain ⟨_,o,e,_,d⟩:=g;exact ⟨o,e,λ v z=>by rw [d] at z;cases z⟩
 keep:=λ n h U g k=>by obtain ⟨⟨old,z⟩,o,e1,e2⟩:=g;exact ⟨⟨old,k e (by simp) _ z⟩,o,k it (by simp) _ e1,e2⟩
 item:=by
  intro X F L B f n a2 s σ H E I p g J;subst F L B;obtain ⟨N,x,q,S⟩:=J;obtain ⟨i,r,j,_⟩:=I.tuple q;have j:s.heap.IsTuple a i.toArray:=j;obtain ⟨u,T,ru⟩:=r.get S;have D:=z6m (prog:=X.prog) (w:=X.w) (A:=X.A.in1) (I.ok.hd f) it a nai i.toArray;have Z:n < i.toArray.size:=by have:=(List.getElem?_eq_some_iff.mp T).1;simpa using this
  obtain ⟨⟨old,V⟩,O⟩:=g;refine wpAny_pyNext_enum_itemD D V ⟨O,j⟩ Z ne (by simp [ne,nae.symm]) λ y U t m a1 Y tT hz G=>?_;have m:i[n]? = some y:=by simpa using m
  rw [T] at m;cases m;have a6:e < s.heap.objs.size:=T0 V;have a4:it < s.heap.objs.size:=by obtain ⟨o,z,_⟩:=O;exact T0 z
  have R:s.heap.objs.size≠e:=J3 a6;have nT:s.heap.objs.size∉[e,it]:=by simp only [F2,A0,or_false,not_or];exact ⟨R,J3 a4⟩
  refine ⟨_,rfl,Z9 a1 λ Q a3 C=>?_⟩;have k2 :∀b o,b∉[e,it]->s.heap.get? b=some o->Q.get? b=some o:=λ b o l z=>by simp only [F2,A0,or_false,not_or] at l;exact (C.2 b l.1).trans (G b o l.1 l.2 z)
  have M:=(C.2 _ R).trans tT;have a0:=Y.1.elim λ o z=>(⟨o,(C.2 it ne.symm).trans z.1,z.2⟩:Q.IsTupleIter it a (n + 1))
  have fr:H s.heap.objs.size=none:=I.hok.fresh (B0 _);refine ⟨.ref s.heap.objs.size,upd H s.heap.objs.size (.tup [.int n,x]),I.turnedLaid (t':=t + 1) k2 p (B0 _) ⟨w_2,[.int n t,u],.cons ⟨t,rfl⟩ (.cons ru .nil),⟨_,M,rfl,_,rfl⟩,_,M,rfl⟩,rfl,⟨_,fr,rfl,λ a7 a5=>⟨x,?_,rfl⟩⟩,⟨⟨_,a3⟩,a0⟩,λ c f=>?_⟩
  ·rw [I.tuple_inj a5 q];exact S
  ·rw [upd_ne (λ (z:c=s.heap.objs.size)=>nT (z ▸ f))];exact (p c f).1
 done:=by
  intro X F L B f n a2 s σ H E I p g J;subst F L B;obtain ⟨N,q,rfl⟩:=J;obtain ⟨i,r,j,_⟩:=I.tuple q;have j:s.heap.IsTuple a i.toArray:=j;have D:=z6m (prog:=X.prog) (w:=X.w) (A:=X.A.in1) (I.ok.hd f) it a nai i.toArray;have W:=WalksT.enumerateD D e ne (by simp [ne,nae.symm]) (by simp);have la:i.toArray.size=N.length:=by simpa using r.length.symm
  exact W.done s _ E (by rw [la];exact ⟨g.1,g.2,j⟩) λ U tk G=>⟨rfl,I.turnedL (t':=tk) (λ c o f e=>G c o f e) p⟩
 self:=λ _ _ _ _ _ g h=>g.1.elim λ old z=>p7 z h
noncomputable def ieT (K:d0) (ta:TA):TI:=λ σ H R=>ta σ H λ vs H1=>∃a xs,vs=[.ref a]/\SqT K H1 a xs/\R (IteT K a) H1
theorem zai {X:Cx} {elts:List Expr} {x1:Nat} {tpos:Pos} {e:Expr} {ta:TA} {p pos:Pos} (hg:Gl X "enumerate") (hm:X.mg "enumerate" = none) (ha:PA X [e] ta) (hs:L1 [e] X.env=[(false,v3 e X.env)]:=by rfl) :
  PI X (.Tuple elts x1 tpos) (.Call (.Name "enumerate" p) [e] [] pos) (ieT X.K ta):=by
 intro m s σ H R I h;refine Call_ (ld_blt I hg hm boot_enumerate (P2 (thn (ha pos m s σ H _ I h) λ us d ⟨vs,H1,I1,r1,q1⟩=>?_) (by rw [hs];rfl) rfl));obtain ⟨a,x,k,v,q⟩:=q1;subst k;obtain ⟨u,rfl,n⟩:=vals1 r1;cases (show u=v1 a from n);obtain ⟨t,w,b,_⟩:=I1.tuple v;have b:d.heap.IsTuple a t.toArray:=b;have i:a < d.heap.objs.size:=by obtain ⟨o,e,_⟩:=id b;exact T0 e
 refine zhc b λ y j l _ r=>?_;refine p7 j ?_;refine ⟨_,_,_,_,H1,rfl,I1.kept (t':=d.toks) r,zec (J3 (V1 _)) (B1 (Z1 i)) (B1 i),⟨⟨_,j⟩,l⟩,λ c f=>?_,q⟩;have g:d.heap.objs.size<=c:=by
  simp only [F2,A0,or_false] at f;rcases f with rfl|rfl
  ·exact S8 _ _
  ·exact B0 _
 exact I1.fpOk g (I1.hok.fresh g)
theorem z6x {K:d0} {a:Addr} {xs:List V} {g:TG} {tb:TS} {D:Ends} {σ:St} {H:Hp} (Pv:Nat->St->Hp->Prop) (h0:Pv 0 σ H) (hl :∀i σ H,Pv i σ H->SqT K H a xs)
  (hs :∀i x σ H p,xs[i]? = some x->Pv i σ H->H p=none->g (.ref p) σ (upd H p (.tup [.int i,x])) λ σ2 H2=>tb { D with nx:=Pv (i + 1),ct:=Pv (i + 1),bk:=D.nx } σ2 H2) (hd :∀σ H,Pv xs.length σ H->D.nx σ H) :
  ∃W:Nat->Nat->St->Hp->Prop,(∃m,W 0 m σ H)/\∀i m σ H,W i m σ H->
   ((IteT K a).stop i H/\D.nx σ H)\/((IteT K a).go i H/\∃N:St->Hp->Prop,(∀σ' H',N σ' H'->∃m',m' < m/\W (i + 1) m' σ' H')/\∀x H',(IteT K a).yld i H x H'->g x σ H' λ σ2 H2=>tb { D with nx:=N,ct:=N,bk:=D.nx } σ2 H2):=by
 refine ⟨λ i m σ H=>m=xs.length - i/\i<=xs.length/\Pv i σ H,⟨xs.length,by simp,B2 _,h0⟩,?_⟩;rintro i m σ H ⟨rfl,hi,p⟩;have b:=hl i σ H p;by_cases hlt:i < xs.length
 ·refine .inr ⟨⟨xs,xs[i],b,by simp [hlt]⟩,Pv (i + 1),λ σ' H' h=>⟨xs.length - (i + 1),by lia,rfl,hlt,h⟩,λ v H' y=>?_⟩;obtain ⟨t,f,rfl,c⟩:=y;obtain ⟨j,d,rfl⟩:=c xs b;exact hs i j σ H t d p f
 ·have e:i=xs.length:=by lia
  subst e;exact .inl ⟨⟨xs,b,rfl⟩,hd σ H p⟩
end L2
set_option maxHeartbeats 400000
namespace L2
open PySem PySem.Spec PyProof.Rows
mutual
noncomputable def IsPd (K:d0) (H:Hp):PyData->V->Prop
 | .none,v=>v=.non
 | .bool b,v=>v=.bl b
 | .int i,v=>v=.int i
 | .str z,v=>v=.str z
 | .list ds,v=>∃a xs,v=.ref a/\SqL K H a xs/\IsPds K H ds xs
 | .tuple ds,v=>∃a xs,v=.ref a/\SqT K H a xs/\IsPds K H ds xs
 | .dict _,_=>False
noncomputable def IsPds (K:d0) (H:Hp):List PyData->List V->Prop
 | [],xs=>xs=[]
 | d :: ds,xs=>∃x r,xs=x :: r/\IsPd K H d x/\IsPds K H ds r
end
section
variable {X:Cx} {pins:List (Addr×Obj)} {σ:St} {H:Hp} {s:C0}
mutual
theorem z3d (I:Inv X pins σ H s) :∀(d:PyData) (v:V) (u:Value),IsPd X.K H d v->RelV v u->∃as,Reads s.heap u d as
 | .none,v,u,h,r=>by cases (show v=.non from h);cases (show u=.none from r);exact ⟨_,.none⟩
 | .bool b,v,u,h,r=>by cases (show v=.bl b from h);cases (show u=.bool b from r);exact ⟨_,.bool b⟩
 | .int i,v,u,h,r=>by cases (show v=.int i from h);obtain ⟨t,rfl⟩:=r;exact ⟨_,.int i t⟩
 | .str z,v,u,h,r=>by cases (show v=.str z from h);obtain ⟨t,rfl⟩:=r;exact ⟨_,.str z t⟩
 | .list ds,v,u,h,r=>by obtain ⟨a,g,rfl,e,c⟩:=h;cases (show u=.ref a from r);obtain ⟨k,q,l,_⟩:=I.list e;obtain ⟨o,j,m,n,p⟩:=l.isList;obtain ⟨as,f⟩:=z7o I ds g k c q;exact ⟨_,.list j m p f⟩
 | .tuple ds,v,u,h,r=>by obtain ⟨a,g,rfl,e,c⟩:=h;cases (show u=.ref a from r);obtain ⟨k,q,l,_⟩:=I.tuple e;obtain ⟨o,j,m,n,p⟩:=l;obtain ⟨as,f⟩:=z7o I ds g k c q;exact ⟨_,.tuple j m p f⟩
 | .dict _,v,u,h,r=>h.elim
theorem z7o (I:Inv X pins σ H s) :∀(ds:List PyData) (xs:List V) (us:List Value),IsPds X.K H ds xs->Vals xs us->∃as,j06 s.heap us ds as
 | [],xs,us,h,r=>by cases (show xs=[] from h);cases r;exact ⟨_,.nil⟩
 | d :: ds,xs,us,h,r=>by
  obtain ⟨x,t,rfl,a,b⟩:=h;cases r with
  | cons r1 r2=>obtain ⟨as,c⟩:=z3d I d x _ a r1;obtain ⟨bs,e⟩:=z7o I ds t _ b r2;exact ⟨_,.cons c e⟩
end
end
mutual
noncomputable def plainP:PyData->Bool
 | .none=>true
 | .bool _=>false
 | .int _=>true
 | .str z=>(PyData.str z).canLay0
 | .list ds=>z1k ds
 | .tuple ds=>z1k ds
 | .dict _=>false
noncomputable def z1k:List PyData->Bool
 | []=>true
 | d :: ds=>plainP d && z1k ds
end
mutual
theorem z3i :∀d:PyData,plainP d=true->d.canLay0=true
 | .none,_=>rfl
 | .bool _,h=>by cases h
 | .int _,_=>rfl
 | .str _,h=>h
 | .list ds,h=>z25 ds h
 | .tuple ds,h=>z25 ds h
 | .dict _,h=>by cases h
theorem z25 :∀ds:List PyData,z1k ds=true->E6 ds=true
 | [],_=>rfl
 | d :: ds,h=>by have h:(plainP d && z1k ds)=true:=h;rw [d3] at h;show (d.canLay0 && E6 ds)=true;rw [z3i d h.1,z25 ds h.2];rfl
end
mutual
theorem z6s :∀d e:PyData,plainP d=true->plainP e=true->(d.eqv e=true↔d=e)
 | .none,e,_,he=>by
  cases e with
  | none=>exact ⟨λ _=>rfl,λ _=>rfl⟩
  | bool b=>cases he
  | dict _=>cases he
  | _=>exact ⟨λ z=>(by cases z),λ z=>(by cases z)⟩
 | .bool _,e,hd,_=>by cases hd
 | .int i,e,_,he=>by
  cases e with
  | int j=>exact ⟨λ z=>congrArg _ (eq_of_beq (show (i == j)=true from z)),λ z=>by cases z;exact beq_self_eq_true i⟩
  | bool b=>cases he
  | dict _=>cases he
  | _=>exact ⟨λ z=>(by cases z),λ z=>(by cases z)⟩
 | .str i,e,_,he=>by
  cases e with
  | str j=>exact ⟨λ z=>congrArg _ (eq_of_beq (show (i == j)=true from z)),λ z=>by cases z;exact beq_self_eq_true i⟩
  | bool b=>cases he
  | dict _=>cases he
  | _=>exact ⟨λ z=>(by cases z),λ z=>(by cases z)⟩
 | .list ds,e,hd,he=>by
  cases e with
  | list es=>exact ⟨λ z=>congrArg _ ((z5p ds es hd he).mp z),λ z=>(z5p ds es hd he).mpr (by cases z;rfl)⟩
  | bool b=>cases he
  | dict _=>cases he
  | _=>exact ⟨λ z=>(by cases z),λ z=>(by cases z)⟩
 | .tuple ds,e,hd,he=>by
  cases e with
  | tuple es=>exact ⟨λ z=>congrArg _ ((z5p ds es hd he).mp z),λ z=>(z5p ds es hd he).mpr (by cases z;rfl)⟩
  | bool b=>cases he
  | dict _=>cases he
  | _=>exact ⟨λ z=>(by cases z),λ z=>(by cases z)⟩
 | .dict _,e,hd,_=>by cases hd
theorem z5p :∀ds es:List PyData,z1k ds=true->z1k es=true->(PyData.eqvAll ds es=true↔ds=es)
 | [],[],_,_=>⟨λ _=>rfl,λ _=>rfl⟩
 | [],e :: es,_,_=>⟨λ z=>(by cases z),λ z=>(by cases z)⟩
 | d :: ds,[],_,_=>⟨λ z=>(by cases z),λ z=>(by cases z)⟩
 | d :: ds,e :: es,b,a=>by have b:(plainP d && z1k ds)=true:=b;have a:(plainP e && z1k es)=true:=a;rw [d3] at b a;show (d.eqv e && PyData.eqvAll ds es)=true↔_;rw [d3,z6s d e b.1 a.1,z5p ds es b.2 a.2];exact ⟨λ z=>by rw [z.1,z.2],λ z=>by cases z;exact ⟨rfl,rfl⟩⟩
end
theorem zit {d e:PyData} (hd:plainP d=true) (he:plainP e=true) {p:Prop} [Decidable p] (h:d=e↔p):d.eqv e=decide p:=by rw [Bool.eq_iff_iff,decide_eq_true_eq,z6s d e hd he,h]
section
variable {X:Cx}
noncomputable def rNeP (K:d0):R2:=λ x y H Q=>∃d e,IsPd K H d x/\IsPd K H e y/\plainP d=true/\plainP e=true/\d.depth<=60/\Q (.bl (!d.eqv e)) H
theorem room60 {A:A2} {k m n:Nat} (hr:Room k A) (h:m<=60):A.units + min m n < cLine:=Q0 (Nat.add_le_add_left (F0 (Nat.min_le_left _ _) (F0 h (by decide:60<=64))) _) hr.units
theorem room61 {A:A2} {k m n:Nat} (hr:Room k A) (h:n<=60):A.units + 1 + min m n < cLine:=by
 have b:=hr.units;have a:=Nat.min_le_right m n
 lia
theorem op_neP {k:Nat} (hr:Room k X.A):OpR X (K2 .NotEq) (rNeP X.K):=by intro n s σ H x y v u Q I b l h;obtain ⟨d,e,j,g,i,f,c,q⟩:=h;obtain ⟨o,a⟩:=z3d I d x v j b;obtain ⟨bs,m⟩:=z3d I e y u g l;exact SeqAt.compareNe_reads a m (z3i _ i) (z3i _ f) (room60 hr c) ⟨.bl _,H,I,rfl,q⟩
noncomputable def rInP (K:d0) (neg:Bool):R2:=λ x y H Q=>∃d ds,IsPd K H d x/\(IsPd K H (.list ds) y\/IsPd K H (.tuple ds) y)/\plainP d=true/\z1k ds=true/\d.depth<=60/\Q (.bl (if neg then !(ds.any λ e=>e.eqv d) else ds.any λ e=>e.eqv d)) H
theorem zga {k:Nat} (hr:Room k X.A):OpR X (K2 .NotIn) (rInP X.K true):=by
 intro m s σ H x y v u Q I j g h;obtain ⟨d,n,l,a,f,i,e,q⟩:=h;obtain ⟨o,c⟩:=z3d I d x v l j;rcases a with a|a
 ·obtain ⟨bs,b⟩:=z3d I _ y u a g;exact SeqAt.notIn_list_reads b c (z25 _ i) (z3i _ f) (room61 hr e) ⟨.bl _,H,I,rfl,q⟩
 ·obtain ⟨bs,b⟩:=z3d I _ y u a g;exact SeqAt.notIn_tuple_reads b c (z25 _ i) (z3i _ f) (room61 hr e) ⟨.bl _,H,I,rfl,q⟩
end
end L2
set_option maxHeartbeats 1000000
namespace L2
open PySem PySem.Spec PyProof.Rows
end L2
set_option maxHeartbeats 400000
namespace L2
open PySem PySem.Spec PyProof.Rows
structure RunsR (S:Hp->Hp->Prop) (J:It) (H1:Hp) (n:Nat) (Item:Nat->V->Hp->Prop):Prop where
 go :∀i,i < n->∀H,S H1 H->J.go i H
 stop :∀H,S H1 H->J.stop n H
 item :∀i,i < n->∀H v H',S H1 H->J.yld i H v H'->S H H'/\Item i v H'
theorem z2t {S:Hp->Hp->Prop} {J:It} {H1:Hp} {n m:Nat} {Item:Nat->V->Hp->Prop} {fr:List (Nat×Str)} {g:TG} {tc:TT} {te:TE} {σ:St} {Q:VK} (s0:S H1 H1) (st :∀a b c,S a b->S b c->S a c) (p:Nat->Bool) (R:Nat->V->Hp->Prop) (hR :∀i y H H',S H H'->R i y H->R i y H') (r:RunsR S J H1 n Item) (hn:n<=sizeLine)
  (body :∀i,i < n->∀v H,S H1 H->Item i v H->∀(KT:VK) (KF:Hp->Prop),(p i=true->∀y H',S H H'->R i y H'->KT y H')->(p i=false->∀H',S H H'->KF H')->
   g v (cStG σ fr (O2 m none)) H λ σ6 H6=>∃us,us.length=m/\σ6=cStG σ fr us/\tc (cStG σ fr us) H6 λ b H2=>if b=true then te (cStG σ fr us) H2 KT else KF H2)
  (hQ :∀l H' ys,S H1 H'->H' l=none->All2 (λ i y=>R i y H') ((V0 n).filter p) ys->Q (.ref l) (upd H' l (.lst ys))) :
  ∃W:Nat->Nat->List V->Hp->Prop,(∃m,W 0 m [] H1)/\∀i k ys H,W i k ys H->
   (J.stop i H/\ys.length<=sizeLine/\∀p,H p=none->Q (.ref p) (upd H p (.lst ys)))\/
   (J.go i H/\ys.length<=sizeLine/\∀v H',J.yld i H v H'->g v (cStG σ fr (O2 m none)) H' λ σ6 H6=>∃us,us.length=m/\σ6=cStG σ fr us/\tc (cStG σ fr us) H6 λ b H2=>if b=true then te (cStG σ fr us) H2 λ y H3=>∃m',m' < k/\W (i + 1) m' (ys++[y]) H3 else∃m',m' < k/\W (i + 1) m' ys H2):=by
 refine ⟨λ i k ys H'=>k=n - i/\i<=n/\S H1 H'/\All2 (λ i y=>R i y H') ((V0 i).filter p) ys,⟨n,by simp,B2 _,s0,.nil⟩,?_⟩;rintro i k ys H' ⟨rfl,hi,sm,fa⟩;have j:ys.length<=sizeLine:=by
  rw [z05 fa];have:=U1 p (V0 i);rw [W2] at this
  lia
 by_cases hlt:i < n
 ·refine .inr ⟨r.go i hlt H' sm,j,λ v H2 y=>?_⟩;obtain ⟨d,o⟩:=r.item i hlt H' v H2 sm y;refine body i hlt v H2 (st _ _ _ sm d) o _ _ (λ h y H3 f q=>⟨n - (i + 1),by lia,rfl,hlt,st _ _ _ (st _ _ _ sm d) f,?_⟩) (λ h H3 f=>⟨n - (i + 1),by lia,rfl,hlt,st _ _ _ (st _ _ _ sm d) f,?_⟩)
  ·rw [z21,if_pos h];exact z5t (z02 (λ a b z=>hR a b _ _ (st _ _ _ d f) z) fa) q
  ·rw [z21,if_neg (by rw [h];decide),Q2];exact z02 (λ a b z=>hR a b _ _ (st _ _ _ d f) z) fa
 ·have e:i=n:=by lia
  subst e;exact .inl ⟨r.stop H' sm,j,λ l s=>hQ l H' ys sm s fa⟩
theorem z9s {S:Hp->Hp->Prop} {K:d0} {a:Addr} {xs:List V} {H1:Hp} (hs :∀H,S H1 H->S H H) (hq :∀H,S H1 H->SqL K H a xs):RunsR S (Itl K a) H1 xs.length (λ i v _=>xs[i]? = some v):=
 ⟨λ i b H s=>⟨xs,xs[i],hq H s,by simp [b]⟩,λ H s=>⟨xs,hq H s,B0 _⟩,λ i b H v c s y=>by obtain ⟨e,y⟩:=y;subst e;exact ⟨hs _ s,y xs (hq _ s)⟩⟩
theorem zfw {S:Hp->Hp->Prop} {K:d0} {a:Addr} {xs:List V} {H1:Hp} (hs :∀H,S H1 H->S H H) (hq :∀H,S H1 H->SqT K H a xs):RunsR S (Itt K a) H1 xs.length (λ i v _=>xs[i]? = some v):=
 ⟨λ i b H s=>⟨xs,xs[i],hq H s,by simp [b]⟩,λ H s=>⟨xs,hq H s,B0 _⟩,λ i b H v c s y=>by obtain ⟨e,y⟩:=y;subst e;exact ⟨hs _ s,y xs (hq _ s)⟩⟩
theorem zfx {S:Hp->Hp->Prop} {n:Nat} {H1:Hp} (hs :∀H,S H1 H->S H H):RunsR S (Itr 0 n) H1 n (λ i v _=>v=.int (i:Nat)):=
 ⟨λ i a H s=>a,λ H s=>B0 _,λ i a H v b s y=>by obtain ⟨e,y⟩:=y;subst e;exact ⟨hs _ s,by rw [y,j07]⟩⟩
def Ris (xs:Array Nat):Prop:=xs.toList.Pairwise (· < ·)
theorem Ris.lt {xs:Array Nat} (r:Ris xs) {i k:Nat} (h:i < k) (hk:k < xs.size):xs[i]'(J7 h hk) < xs[k]:=by have:=(List.pairwise_iff_getElem.mp r) i k (by simpa using J7 h hk) (by simpa using hk) h;simpa using this
theorem zjh {xs:Array Nat} {i d:Nat} (h:i < xs.size):xs.getD i d=xs[i]:=by simp [Array.getD,h]
theorem zad {xs:Array Nat} {j:Nat} (r:Ris xs) :∀(f lo hi:Nat),lo<=hi->hi<=xs.size->hi - lo<=f->(∀i (h:i < xs.size),i < lo->xs[i] < j)->(∀i (h:i < xs.size),hi<=i->j<=xs[i])->
  V5 xs j f lo hi<=xs.size/\(∀i (h:i < xs.size),i < V5 xs j f lo hi->xs[i] < j)/\(∀i (h:i < xs.size),V5 xs j f lo hi<=i->j<=xs[i])
 | 0,lo,hi,h1,h2,h3,ha,hb=>by
  have:lo=hi:=by lia
  subst this;exact ⟨h2,ha,hb⟩
 | f + 1,lo,hi,h1,h2,h3,ha,hb=>by
  unfold V5;by_cases z:lo < hi
  ·rw [if_pos z];have a:(lo + hi) / 2 < xs.size:=by lia
   dsimp only;rw [zjh a];by_cases y:xs[(lo + hi) / 2] < j
   ·rw [if_pos y];refine zad r f _ _ (by lia) h2 (by lia) (λ i h b=>?_) hb;by_cases e:i=(lo + hi) / 2
    ·subst e;exact y
    ·exact J7 (r.lt (by lia) a) y
   ·rw [if_neg y];refine zad r f _ _ (by lia) (by lia) (by lia) ha λ i h b=>?_;by_cases e:i=(lo + hi) / 2
    ·subst e;lia
    ·exact F0 (Nat.not_lt.mp y) (N2 (r.lt (by lia) h))
  ·rw [if_neg z];have:lo=hi:=by lia
   subst this;exact ⟨h2,ha,hb⟩
theorem zeo {xs:Array Nat} (r:Ris xs) (j:Nat):D2 xs j<=xs.size/\(∀i (h:i < xs.size),i < D2 xs j->xs[i] < j)/\(∀i (h:i < xs.size),D2 xs j<=i->j<=xs[i]):=
 zad r _ _ _ (B2 _) (B0 _) (B0 _) (λ i h z=>absurd z (T2 _)) (λ i h z=>absurd h (Nat.not_lt.mpr z))
theorem z66 {α:Type} (xs:Array α) (p:Nat) (x:α) (hp:p<=xs.size):(j8 xs p x).toList=xs.toList.take p++x :: xs.toList.drop p:=by unfold j8;simp [B5]
theorem Ris.insert {xs:Array Nat} (r:Ris xs) {j:Nat} (h:¬ xs[D2 xs j]? = some j):Ris (j8 xs (D2 xs j) j):=by
 obtain ⟨u,t,g⟩:=zeo r j;unfold Ris;rw [z66 _ _ _ u];refine List.pairwise_append.mpr ⟨r.sublist (List.take_sublist _ _),List.pairwise_cons.mpr ⟨λ y p=>?_,r.sublist (List.drop_sublist _ _)⟩,λ a s b d=>?_⟩
 ·obtain ⟨i,f,e⟩:=List.mem_drop_iff_getElem.mp p;have l:D2 xs j + i < xs.size:=by simpa [Nat.add_comm] using f
  have c:xs[D2 xs j + i]=y:=by simpa using e
  have le:=g _ l (by lia);rw [c] at le;rcases Nat.lt_or_eq_of_le le with z|z
  ·exact z
  ·exfalso;have d:D2 xs j < xs.size:=by lia
   have x:=g _ d (B0 _);have:xs[D2 xs j]=j:=by
    by_cases i0:i=0
    ·subst i0;exact c.trans z.symm
    ·have:=r.lt (show D2 xs j < D2 xs j + i by lia) l;rw [c] at this
     lia
   exact h (by rw [G6 d,this])
 ·obtain ⟨i,f,e⟩:=List.mem_take_iff_getElem.mp s;have v:i < xs.size:=by have:=f;simp at this;lia
  have q:i < D2 xs j:=by have:=f;simp at this;lia
  have lt:=t i v q;have c:xs[i]=a:=by simpa using e
  rw [c] at lt;rcases List.mem_cons.mp d with z|z
  ·rw [z];exact lt
  ·obtain ⟨k,w,o⟩:=List.mem_drop_iff_getElem.mp z;have m:D2 xs j + k < xs.size:=by simpa [Nat.add_comm] using w
   have n:xs[D2 xs j + k]=b:=by simpa using o
   have:=g _ m (by lia);rw [n] at this
   lia
theorem zfp (n:Nat):Ris (Array.range n):=by unfold Ris;rw [Array.toList_range];exact C5
def z89 (t:X6) (j:Nat):Prop:=¬ t.place[D2 t.place j]? = some j
theorem z8c {t:X6} {j:Nat} (h :∀i,t.slot j≠.live i):z89 t j:=λ e=>by refine h (D2 t.place j) ?_;unfold SetTable.slot;dsimp only;rw [if_pos (by rw [e];exact beq_self_eq_true _)]
theorem z56 {t:X6} {hs:Nat->Int} {h:Int} :∀(f:Nat) (p:SetTable.Probe) (j:Nat) (d:Option Nat),(∀k,p.dummy=some k->z89 t k)->c9 t hs h f p=some (.empty j d)->z89 t j/\∀k,d=some k->z89 t k
 | 0,p,j,d,hd,e=>by cases e
 | f + 1,p,j,d,hd,e=>by
  unfold c9 at e;cases q:t.slot p.j with
  | empty=>rw [q] at e;cases e;exact ⟨z8c (λ i z=>by rw [q] at z;cases z),hd⟩
  | dummy=>rw [q] at e;refine z56 f _ j d (λ k z=>?_) e;unfold j08 at z;dsimp only at z;split at z<;>(cases z;exact z8c λ i z=>by rw [q] at z;cases z)
  | live i=>
   rw [q] at e;dsimp only at e;split at e
   ·cases e
   ·refine z56 f _ j d (λ k z=>?_) e;unfold j08 at z;dsimp only at z;split at z<;>exact hd k z
theorem zcs {t:X6} {h:Int} {s:Nat} {b:Bool} (e:t.freeSlot h=some (s,b)):z89 t s:=by
 unfold SetTable.freeSlot at e;cases q:t.probe (λ _=>h + 1) h (t.probeStart h) with
 | none=>rw [q] at e;cases e
 | some m=>
  rw [q] at e;cases m with
  | candidate a b c=>cases e
  | empty j d=>
   have:=z56 _ _ j d (λ k z=>by cases z) q;cases e;cases d with
   | none=>exact this.1
   | some k=>exact this.2 k rfl
def Tidy (l:Bool) (t:X6):Prop:=t.led=l/\Ris t.place
theorem Tidy.standIn {l:Bool} {t:X6} (h:Tidy l t) (n:Nat):Tidy l (t.standIn n):=⟨h.1,zfp n⟩
theorem Tidy.layNew {l:Bool} {t:X6} (h:Tidy l t) (es:Array (Int×Value)) (k:Int) (x:Value):Tidy l (layNew t es k x).2.1:=by
 unfold PySem.layNew;cases q:t.freeSlot k with
 | none=>exact h.standIn _
 | some s=>
  obtain ⟨s,b⟩:=s;dsimp only;have a:Tidy l (t.put s).1:=⟨h.1,Ris.insert h.2 (zcs q)⟩
  unfold SetTable.orStandIn;split
  ·exact a
  ·exact a.standIn _
theorem Tidy.relayAll {l:Bool} {t:X6} (h:Tidy l t) (es:Array (Int×Value)) (n:Nat):Tidy l (j00 t es n).2.1:=by
 unfold PySem.relayAll;cases q:t.relaid (es.map (·.1)) n with
 | none=>exact h.standIn _
 | some p=>
  obtain ⟨k,o⟩:=p;dsimp only;split
  ·unfold SetTable.relaid SetTable.laid at q;cases q2:SetTable.layClean (SetTable.sizeAbove n - 1) (es.map (·.1)) with
   | none=>rw [q2] at q;cases q
   | some ow=>rw [q2] at q;cases q;refine ⟨h.1,?_⟩;show (List.map _ _).Pairwise _;rw [List.pairwise_map];refine List.Pairwise.filterMap _ (λ a b f c e d g=>?_) (C5);obtain ⟨r,_,i⟩:=Option.map_eq_some_iff.mp e;obtain ⟨m,_,j⟩:=Option.map_eq_some_iff.mp g;rw [<-i,<-j];exact f
  ·exact h.standIn _
end L2
set_option maxHeartbeats 1000000
namespace L2
open PySem PySem.Spec PyProof.Rows
noncomputable def intOf:Value->Int
 | .int i _=>i
 | _=>0
theorem z78 {vs:List Value} {ns:List Int} (h:O3 vs ns):ns=vs.map intOf/\∀v∈vs,∃i t,v=.int i t:=by
 induction h with
 | nil=>exact ⟨rfl,λ v a=>by cases a⟩
 | cons n t r ih=>
  refine ⟨by rw [ih.1];rfl,λ v a=>?_⟩;rcases List.mem_cons.mp a with e|a
  ·exact ⟨n,t,e⟩
  ·exact ih.2 v a
theorem zdz :∀vs:List Value,(∀v∈vs,∃i t,v=.int i t)->O3 vs (vs.map intOf)
 | [],_=>.nil
 | v :: vs,h=>by obtain ⟨i,t,e⟩:=h v (.head _);subst e;exact .cons i t (zdz vs λ v a=>h v (.tail _ a))
theorem zb9 {vs vs':List Value} {ns:List Int} (h:O3 vs ns) (p:vs'.Perm vs) :∃ns',O3 vs' ns'/\ns'.Perm ns:=by obtain ⟨e,k⟩:=z78 h;refine ⟨vs'.map intOf,zdz vs' λ v a=>k v (p.mem_iff.mp a),?_⟩;rw [e];exact p.map _
theorem zf1 {vs:List Value} {ns:List Int} (h:O3 vs ns):ns.length=vs.length:=by rw [(z78 h).1,L0]
theorem zgd {vs:List Value} {ns:List Int} (h:O3 vs ns) (n:Int) (t:Tok):O3 (vs++[.int n t]) (ns++[n]):=by
 induction h with
 | nil=>exact .cons n t .nil
 | cons m u r ih=>exact .cons m u ih
section
variable {prog:Program} {w:S0} {A:A2} {E:Value->C0->Prop} {s:C0}
def SetAt (prog:Program) (w:S0) (l:Bool) (h:Heap) (a:Addr) (ns:List Int):Prop:=
 ∃es ep t,h.get? a=some { cls:=.type "set",dict:=none,data:=.set es ep t,slots:=#[] }/\ElemsOf (y4 prog w) es.toList/\O3 (es.toList.map (·.2)) ns/\ns.Nodup/\es.size < scanBound/\t.fits es.size=true/\Tidy l t
theorem zbm {l:Bool} {h:Heap} {a:Addr} {es0 es:Array (Int×Value)} {ep:Nat} {t0 t:X6} {ns:List Int} (ho:h.get? a=some { cls:=.type "set",dict:=none,data:=.set es0 ep t0,slots:=#[] })
  (hel:ElemsOf (y4 prog w) es.toList) (hi:O3 (es.toList.map (·.2)) ns) (nd:ns.Nodup) (hb:es.size < scanBound) (hf:t.fits es.size=true) (ht:Tidy l t) :
  (h.update a (B8 es t)).get? a=some { cls:=.type "set",dict:=none,data:=.set es (ep + 1) t,slots:=#[] }/\SetAt prog w l (h.update a (B8 es t)) a ns:=by
 have g:(h.update a (B8 es t)).get? a=some { cls:=.type "set",dict:=none,data:=.set es (ep + 1) t,slots:=#[] }:=J4 (B8 es t) ho rfl;exact ⟨g,es,ep + 1,t,g,hel,hi,nd,hb,hf,ht⟩
theorem zhj {es:List (Int×Value)} {ns:List Int} {v:Int} (hi:O3 (es.map (·.2)) ns) (h:es.findIdx? (λ e=>(y4 prog w).is v e.2)=none):¬ v∈ns:=λ b=>by
 obtain ⟨e,k⟩:=z78 hi;rw [e] at b;obtain ⟨y,a,f⟩:=List.mem_map.mp b;obtain ⟨p,j,g⟩:=List.mem_map.mp a;obtain ⟨i,t,c⟩:=k y a;have:=List.findIdx?_eq_none_iff.mp h p j;have d:v=i:=by rw [<-f,c];rfl
 have:(y4 prog w).is v p.2=false:=by simpa using this
 rw [g,c,d,V6] at this;cases this
theorem zj7 {es:List (Int×Value)} {ns:List Int} {v:Int} {j:Nat} (hi:O3 (es.map (·.2)) ns) (h:es.findIdx? (λ e=>(y4 prog w).is v e.2)=some j):v∈ns:=by obtain ⟨a,b,_⟩:=List.findIdx?_eq_some_iff_getElem.mp h;obtain ⟨t,e⟩:=Value.isInt_shape (show j02 v es[j].2=true from b);rw [(z78 hi).1];exact List.mem_map.mpr ⟨es[j].2,List.mem_map.mpr ⟨es[j],a7 a,rfl⟩,by rw [e];rfl⟩
theorem zeh {ns:List Int} {v:Int} (h:ns.Nodup) (n:¬ v∈ns):(ns++[v]).Nodup:=by refine List.nodup_append.mpr ⟨h,by simp,λ a c b d e=>?_⟩;rw [List.mem_singleton.mp d] at e;exact n (e ▸ c)
noncomputable def addI (ns:List Int) (v:Int):List Int:=if v∈ns then ns else ns++[v]
theorem zjq {l:Bool} {a:Addr} {v:Int} {tk:Tok} {ns:List Int} {Q:Bool->C0->Prop} (hS:SetAt prog w l s.heap a ns) (hroom:ns.length + 1 < scanBound)
  (h :∀b h' ns',J5 a s.heap h'->SetAt prog w l h' a ns'->ns'.Perm (addI ns v)->Q b { s with heap:=h' }):W0 (D1 prog w) A (setAddHashed a (.int v tk) ((y4 prog w).hash v)) Q E s:=by
 obtain ⟨f,ep,t,n,p,m,K,M,C,N⟩:=hS;have a3:f.size=ns.length:=by rw [zf1 m,L0,J2]
 have V:(y4 prog w).is v (.int v tk)=true:=V6 prog w v tk;unfold setAddHashed setAddHashedIn;refine T3 (v0 (wpAny_setState_of n rfl C ?_));dsimp only;rw [byScan_of rfl M p];simp only [↓reduceIte];unfold setAddByScan;refine v0 (v0 (P8 (v0 (wpAny_setScan_of V n rfl C p ?_))));cases hr:List.findIdx? (λ e=>(y4 prog w).is v e.2) f.toList with
 | some j=>refine K0 (K0 ?_);have:=h false s.heap ns (Heap.SameBut.refl a s.heap) ⟨f,ep,t,n,p,m,K,M,C,N⟩ (by unfold addI;rw [if_pos (zj7 m hr)]);exact this
 | none=>
  dsimp only;have g:=layNew_perm t f ((y4 prog w).hash v) (.int v tk);have H:=layNew_fits t f ((y4 prog w).hash v) (.int v tk);have u:=N.layNew f ((y4 prog w).hash v) (.int v tk);generalize layNew t f ((y4 prog w).hash v) (.int v tk)=L at g H u⊢;obtain ⟨c,d,wd,a1⟩:=L;dsimp only at g H u⊢;rw [Array.toList_push] at g;have O:ElemsOf (y4 prog w) c.toList:=(p.push V rfl).perm g;have y :∃i,O3 (c.toList.map (·.2)) i/\i.Perm (ns++[v]):=zb9 (zgd m v tk) (by have:=g.map (λ e:Int×Value=>e.2);rwa [X0] at this);obtain ⟨i,y,D⟩:=y;have R:=zhj m hr;have T:i.Nodup:=D.nodup_iff.mpr (zeh K R);have J:addI ns v=ns++[v]:=if_neg R;have G:c.size < scanBound:=by rw [<-J2,g.length_eq,D0,J2,a3];exact hroom
  have S :∀(b:Bool) {B:C0} {Q':Unit->C0->Prop},Q' () B->W0 (D1 prog w) A (match b with|true=>rule "set.scan.the-table-gave-way" | false=>N3 ()) Q' E B:=λ b B Q' q=>by cases b with|false=>exact K0 q|true=>exact P8 q
  have last:W0 (D1 prog w) A (do
    storeSet a c d
    if (!wd && d.tooFull)=true then do
      (match (j00 d c (F4 c.size)).2.2 with|true=>rule "set.scan.the-table-gave-way" | false=>N3 ())
      storeSet a (j00 d c (F4 c.size)).1 (j00 d c (F4 c.size)).2.1
      N3 (some true)
     else N3 (some true)) (λ r o=>∃b,r=some b/\Q b o) E s:=by
   obtain ⟨W,S1⟩:=zbm (prog:=prog) (w:=w) n O y T G H u;have U:=L5 s.heap a (B8 c d);refine v0 (wpAny_storeSet_of n rfl ?_ (fits_of_scanBound G));split
   ·have k:=relayAll_perm d c (F4 c.size);have I:=relayAll_fits d c (F4 c.size);have F:=u.relayAll c (F4 c.size);generalize j00 d c (F4 c.size)=L2 at k I F⊢;obtain ⟨a0,t2,g2⟩:=L2;dsimp only at k I F⊢;obtain ⟨a2,a4,Y⟩:=zb9 y (k.map (λ e:Int×Value=>e.2));have X:a0.size < scanBound:=by rw [<-J2,k.length_eq,J2];exact G
    refine v0 (S g2 (v0 (wpAny_storeSet_of W rfl ?_ (fits_of_scanBound X))));obtain ⟨_,Z⟩:=zbm (prog:=prog) (w:=w) W (O.perm k) a4 (Y.nodup_iff.mpr T) X I F;exact K0 ⟨true,rfl,h true _ a2 (U.trans (L5 _ a _)) Z (by rw [J];exact Y.trans D)⟩
   ·exact K0 ⟨true,rfl,h true _ i U S1 (by rw [J];exact D)⟩
  refine v0 (S a1 ?_);have P:=L3 last (Q':=λ r o=>W0 (D1 prog w) A (match r with|some added=>N3 added|none=>setAddHashedIn a (.int v tk) ((y4 prog w).hash v) 99999) Q E o) (E':=E) (λ r o x=>by obtain ⟨b,e,q⟩:=x;subst e;exact K0 q) (λ e o x=>x);by_cases z:d.plain=true
  ·rw [if_pos z];exact v0 (A8 (show hashByValue 8 (W6 v tk)=N3 true from rfl) P)
  ·rw [if_neg z];exact v0 (K0 P)
end
theorem zgb {ns ms:List Int} (p:ns.Perm ms) (v:Int):(addI ns v).Perm (addI ms v):=by
 unfold addI;by_cases z:v∈ns
 ·rw [if_pos z,if_pos (p.mem_iff.mp z)];exact p
 ·rw [if_neg z,if_neg (λ y=>z (p.mem_iff.mpr y))];exact p.append_right [v]
theorem z3g :∀(vs:List Int) {ns ms:List Int},ns.Perm ms->(vs.foldl addI ns).Perm (vs.foldl addI ms)
 | [],_,_,p=>p
 | v :: vs,_,_,p=>z3g vs (zgb p v)
theorem zdj (ns:List Int) (v:Int):(addI ns v).length<=ns.length + 1:=by
 unfold addI;split
 ·exact Z3 _
 ·rw [D0];exact B0 _
section
variable {prog:Program} {w:S0} {A:A2} {E:Value->C0->Prop} {s:C0}
theorem SetAt.at' {l:Bool} {h h':Heap} {a:Addr} {ns:List Int} (k :∀o,h.get? a=some o->h'.get? a=some o) (x:SetAt prog w l h a ns):SetAt prog w l h' a ns:=by obtain ⟨c,b,t,e,r⟩:=x;exact ⟨c,b,t,k _ e,r⟩
theorem zft (a:Args):(Code.builtin "set.update.loop" a).quiet=true:=C7 (by decide +kernel) _
noncomputable def set0 (w:S0):Obj:={ cls:=.type "set",dict:=none,data:=.set #[] 0 (.fresh 0 0 (!w.params.followText "set-order")) }
theorem zio (a:Value) {Q₁:Value->C0->Prop} (h:Q₁ (.ref s.heap.objs.size) { s with heap:=s.heap.push (set0 w) }):m6 (D1 prog w) A (.call (.builtin "set.__new__") ⟨[.type "set",a],[]⟩) (wants Q₁ E) s:=by refine codeAny_call_builtin F.plain_set_new F.entry_set_new (A8 (F.newCall_set_1 a) ?_);show W0 _ _ (Builtin.Frozenset.newClass "set" ⟨[.type "set",a],[]⟩ >>= _) _ _ _;refine v0 (v0 (show W0 _ _ (N3 true) _ _ _ from K0 ?_));show W0 _ _ (isSubtype (.type "set") (.type "set") >>= _) _ _ _;refine v0 (A8 sub_set_self ?_);refine K0 ?_;show W0 _ _ (newSet (.type "set") >>= _) _ _ _;unfold newSet setsByText;refine v0 (v0 (v0 (wpAny_askSetting (K0 ?_))));exact v0 (wpAny_alloc (K0 (K0 h)))
theorem ziq {h:Heap} {a:Addr} (e:h.get? a=some (set0 w)):SetAt prog w (!w.params.followText "set-order") h a []:=
 ⟨#[],0,_,e,λ x b=>by simp at b,.nil,w9,by decide,by rfl,rfl,N7⟩
end
section
variable {X:Cx}
theorem z4t :∀(vs ns:List Int),(vs.foldl addI ns).length<=ns.length + vs.length
 | [],ns=>B0 _
 | v :: vs,ns=>by
  have b:=z4t vs (addI ns v);have a:=zdj ns v;show (vs.foldl addI (addI ns v)).length<=_;rw [C1]
  lia
end
end L2
set_option maxHeartbeats 400000
namespace HT
open PySem PySem.Spec PyProof.Rows L2
variable {prog:Program} {w:S0} {A:A2} {E:Value->C0->Prop} {s:C0}
end HT
namespace L2
open PySem PySem.Spec PyProof.Rows
theorem ziv {names:List (Str×i5)} {ns:List Str} {Q:Str×i5->Prop} (h:(names.all λ y=>y.2 != W1 || ns.contains y.1)=true) (q :∀n,n∈ns->∀k,Q (n,k)) :∀y∈names,y.2=W1->Q y:=λ y c e=>by
 have z:=List.all_eq_true.mp h y c;rw [e] at z;have z:ns.contains y.1=true:=by simpa using z
 obtain ⟨a,b⟩:=y;exact q a (by simpa using z) b
theorem zcz {S:Hp->Hp->Prop} {ta:TA} {te:TE} {tc:TT} {g:TG} {m n:Nat} {fr:List (Nat×Str)} {σ:St} {H H1:Hp} {Q:VK} (p:Nat->Bool) (R:Nat->V->Hp->Prop) (s0:S H1 H1) (st :∀a b c,S a b->S b c->S a c) (hs :∀H,S H1 H->S H H) (hR :∀i y H H',S H H'->R i y H->R i y H')
  (hta :∀T:List V->Hp->Prop,T [.int (n:Nat)] H1->ta σ H T) (hn:n<=sizeLine)
  (body :∀i,i < n->∀H,S H1 H->∀(KT:VK) (KF:Hp->Prop),(p i=true->∀y H',S H H'->R i y H'->KT y H')->(p i=false->∀H',S H H'->KF H')->
   g (.int (i:Nat)) (cStG σ fr (O2 m none)) H λ σ6 H6=>∃us,us.length=m/\σ6=cStG σ fr us/\tc (cStG σ fr us) H6 λ b H2=>if b=true then te (cStG σ fr us) H2 KT else KF H2)
  (hQ :∀l H' ys,S H1 H'->H' l=none->All2 (λ i y=>R i y H') ((V0 n).filter p) ys->Q (.ref l) (upd H' l (.lst ys))):tCompG (iRng1 ta) m fr g tc te σ H Q:=by
 have b:(n:Int) < 2 ^ 62:=Int.lt_of_le_of_lt (Int.ofNat_le.mpr hn) (by decide);refine hta _ ⟨n,rfl,by lia,b,?_⟩;exact z2t s0 st p R hR (zfx hs) hn (λ i d v H s e KT KF f h=>by subst e;exact body i d H s KT KF f h) hQ
def rIndex:V->List V->Hp->VK->Prop:=λ x vs H Q=>∃(l:Addr) (ss:List Str) (z:Str) (j:Nat),x=.ref l/\vs=[.str z]/\H l=some (.lst (ss.map V.str))/\ss.length<=1000/\ss[j]? = some z/\(∀m,m < j->ss[m]?≠some z)/\Q (.int (j:Nat)) H
section
variable {X:Cx}
theorem ziz {ss:List Str} :∀{us:List Value},Vals (ss.map V.str) us->∀(j:Nat) (u:Value),us[j]? = some u->∃y t,ss[j]? = some y/\u=n6 y t:=by
 induction ss with
 | nil=>intro us r j u e;rw [o6] at r;cases r;simp at e
 | cons n ss ih=>
  intro us r j u e;rw [Y0] at r;cases r with
  | cons r1 r2=>
   obtain ⟨t,rfl⟩:=r1;cases j with
   | zero=>rw [Z2] at e;cases e;exact ⟨n,t,rfl,rfl⟩
   | succ j=>rw [C2] at e;exact ih r2 j u e
theorem zhd:MtM X "list.index" rIndex:=by
 intro J s σ H x M v us Q I w C h;obtain ⟨l,D,z,j,rfl,rfl,p,L,k,g,q⟩:=h;cases w;obtain ⟨u,rfl,G⟩:=C.one;obtain ⟨t,rfl⟩:=G;obtain ⟨N,d,n,r,K,e⟩:=I.lstM p;have lt:j < d.length:=by rw [<-r.length,L0];exact (List.getElem?_eq_some_iff.mp k).1
 let ev:Value->Bool:=λ y=>match y with | .str a _=>a == z|_=>false
 have at_ :∀m (g:m < d.toArray.size),∃y b,D[m]? = some y/\d.toArray[m]=n6 y b:=λ m g=>ziz r m _ ((N0 (show m < d.length by simpa using g)).trans (by simp));refine call_meets F.slot_list_index ⟨_,e,rfl⟩ F.entry_list_index (F.args_list_index_2 _ _) (SeqAt.list_indexAt l d.toArray n none #[] (.str z t) ev j (by simpa using lt) ?_ ?_ ?_) ⟨e,λ y E=>?_,?_⟩
 ·have:=(List.getElem?_eq_some_iff.mp k).1;have:(j:Int) < 1000:=by lia
  exact Int.lt_trans this (by decide)
 ·obtain ⟨y,b,f,c⟩:=at_ j (by simpa using lt);rw [c];rw [k] at f;cases f;exact beq_self_eq_true z
 ·intro m i B;obtain ⟨y,b,f,c⟩:=at_ m i;rw [c];refine beq_eq_false_iff_ne.mpr λ e=>g m B ?_;rw [f,e]
 ·obtain ⟨m,i,o⟩:=Array.mem_iff_getElem.mp E;obtain ⟨A,b,f,c⟩:=at_ m i;rw [c] at o;subst o;exact K9 A b z t
 ·exact ⟨.int (j:Nat),H,I.tok _,⟨_,rfl⟩,q⟩
theorem zic {o e:Expr} {es:List Expr} {to:TE} {t:TA} {apos cpos:Pos} (ho:PE X o to) (ha:PA X (e :: es) t)
  (hbase:U3 o "index" X.env (v3 o X.env)=v3 o X.env:=by rfl)
  (hfew:((L4 cpos (L1 (e :: es) X.env)).all (λ x=>!x.1) && (a9 cpos (z7 [] X.env)).all (λ x=>x.1.isSome) && decide ((e :: es).length + ([]:List Q6).length + (if ([]:List Q6).isEmpty then 0 else 1) < 30))=true:=by rfl)
  (hline:(apos.endLine == cpos.line)=true:=by rfl) (hs:L1 (e :: es) X.env=(false,v3 e X.env) :: L1 es X.env:=by rfl) (hplain:(L4 cpos (L1 es X.env)).any (·.1)=false:=by rfl) :
  PE X (.Call (.Attribute o "index" apos) (e :: es) [] cpos) (tBM X.K "list" rIndex to t):=pe_bm N6 PySem.F.slot_list_index PySem.F.type_list_index zhd ho ha hbase hfew hline hs hplain
end
theorem zc8 {K:d0} {a:Addr} {xs:List V} {H1:Hp} (hq:SqL K H1 a xs):RunsR Same (IteL K a) H1 xs.length (λ i v H=>∃x p,xs[i]? = some x/\v=.ref p/\H p=some (.tup [.int (i:Nat),x])):=by refine ⟨λ i b H s=>⟨xs,xs[i],s.seq hq,by simp [b]⟩,λ H s=>⟨xs,s.seq hq,rfl⟩,λ i b H v e s y=>?_⟩;obtain ⟨p,d,rfl,f⟩:=y;obtain ⟨x,c,rfl⟩:=f xs (s.seq hq);exact ⟨Same.upd d,x,p,c,rfl,upd_same⟩
end L2
set_option maxHeartbeats 1000000
namespace L2
open PySem PySem.Spec PyProof.Rows
section
variable {prog:Program} {w:S0} {A:A2} {E:Value->C0->Prop} {s:C0}
theorem zda {b:Bool} {S it l:Addr} {items:Array Value} (nsi:S≠it) (nsl:S≠l) (nil':it≠l) :∀(ms:List Int) (i:Nat) (ns:List Int) (A:A2) (R:Result->C0->Prop) (s:C0),A.handled=none->s.heap.IsListIter it l i->s.heap.IsList l items->
  O3 (items.toList.drop i) ms->SetAt prog w b s.heap S ns->ns.length + ms.length < scanBound->
  (∀h' tk ns',SetAt prog w b h' S ns'->ns'.Perm (ms.foldl addI ns)->(∀c o,c≠S->c≠it->s.heap.get? c=some o->h'.get? c=some o)->R (.ok (.ret .none)) { s with heap:=h',toks:=tk })->
  m6 (D1 prog w) A (Code.builtin "set.update.loop" { pos:=[.ref S,.ref it],kw:=[] }) R s
 | [],i,ns,A,R,s,hh,si,sl,al,dd,hz,q=>by
  have J:items[i]? = none:=by
   cases hd:items.toList.drop i with
   | nil=>have:=List.drop_eq_nil_iff.mp hd;rw [J2] at this;exact V9 this
   | cons u us=>rw [hd] at al;cases al
  refine A5 j0h ?_;show W0 _ _ (A9 (.ref it) >>= _) _ _ s;refine v0 (n8 (show (A.under _).handled=none from hh) si sl J λ h' eb=>?_);exact K0 (q h' s.toks ns (dd.at' λ o e=>eb S o nsi e) (List.Perm.refl _) λ c o _ x e=>eb c o x e)
 | m :: ms,i,ns,A,R,s,hh,si,sl,al,dd,hz,q=>by
  cases hd:items.toList.drop i with
  | nil=>rw [hd] at al;cases al
  | cons u us=>
   rw [hd] at al;cases al with
   | cons _ tk al=>
    have F:items.toList[i]? = some (.int m tk):=by have:=congrArg (λ l=>l[0]?) hd;simpa using this
    have D:items[i]? = some (.int m tk):=by simpa using F
    have I:items.toList.drop (i + 1)=us:=by have:=congrArg List.tail hd;simpa using this
    refine A5 j0h ?_;show W0 _ _ (A9 (.ref it) >>= _) _ _ s;refine v0 (Q5 si sl D λ j E f=>?_);have C:j.IsList l items:=by obtain ⟨o,d,a⟩:=sl;exact ⟨o,(f.2 l (c4 nil')).trans d,a⟩
    have B:SetAt prog w b j S ns:=dd.at' λ o e=>(f.2 S nsi).trans e;rw [C1] at hz;refine v0 (T3 (show W0 _ _ (setAdd S (.int m tk)) _ _ _ from ?_));unfold setAdd;refine T3 (v0 ((y4 prog w).pyHash (k:=m) (V6 prog w m tk) ?_));refine zjq (s:={ s with heap:=j,toks:=s.toks + 1 }) B (Q0 (by lia) hz) λ c h t g L p=>?_;refine K0 ⟨zft _,?_⟩;have y:h.IsListIter it l (i + 1):=by obtain ⟨o,d,a⟩:=E;exact ⟨o,(g.2 it (c4 nsi)).trans d,a⟩
    have K:h.IsList l items:=by obtain ⟨o,d,a⟩:=C;exact ⟨o,(g.2 l (c4 nsl)).trans d,a⟩
    have M:t.length<=ns.length + 1:=by rw [p.length_eq];exact zdj ns m
    refine zda nsi nsl nil' ms (i + 1) t A R { s with heap:=h,toks:=s.toks + 1 } hh y K (by rw [I];exact al) L (by lia) λ h' v ns' G z H=>q h' v ns' G (z.trans (z3g ms p)) λ c o r n e=>H c o r n ((g.2 c r).trans ((f.2 c n).trans e))
theorem zev:isSubtype (.type "list") (.type "set")=N3 false:=by rw [isSubtype_type];kernel_rfl
theorem zcq:isSubtype (.type "list") (.type "frozenset")=N3 false:=by rw [isSubtype_type];kernel_rfl
theorem zac {l:Addr} {items:Array Value} {ns:List Int} {Q:Value->C0->Prop} (hh:A.handled=none) (ht:s.heap.IsList l items) (hi:O3 items.toList ns) (hb:ns.length < scanBound)
  (h :∀h' tk ns',SetAt prog w (!w.params.followText "set-order") h' s.heap.objs.size ns'->ns'.Perm (ns.foldl addI [])->(∀b o,s.heap.get? b=some o->h'.get? b=some o)->Q (.ref s.heap.objs.size) { s with heap:=h',toks:=tk }) :
  W0 (D1 prog w) A (call (.type "set") [.ref l]) Q E s:=by
 obtain ⟨c,R,V⟩:=F.called_set.mro;have K:=F.called_set.made;have L:=F.called_set.sub;refine wpAny_call (codeAny_of_tree (show W0 _ _ (callAny (.type "set") _) _ _ _ from K0 ⟨Code.quiet_builtin _ (by decide +kernel),A5 F.entry_type_call ?_⟩));rw [Around.under_plain (weight_type_call_type "set" [.ref l] []) rfl];have W:=F.called_set.notType;have T:=F.called_set.canCreate;have Y:=F.typeCall_set_1 (.ref l)
 (repeat (any_goals (first|assumption|wp_step)));refine K6 (zio (.ref l) (E:=E) (Q₁:=λ u k=>u=.ref s.heap.objs.size/\k={ s with heap:=s.heap.push (set0 w) }) ⟨rfl,rfl⟩) λ r k d=>?_
 cases r with
 | error e=>exact d
 | ok fl=>
  cases fl with
  | next=>exact d.elim
  | brk=>exact d.elim
  | cont=>exact d.elim
  | ret u=>
   obtain ⟨rfl,rfl⟩:=d;have f:(s.heap.push (set0 w)).get? s.heap.objs.size=some (set0 w):=Z0 _ rfl;have x:Shared.TypeIs { s with heap:=s.heap.push (set0 w) } (.ref s.heap.objs.size) "set":=⟨_,f,rfl⟩
   have U:=F.called_set.init.lookup;have a0:=F.called_set.init.bind (.ref s.heap.objs.size)
   (repeat (any_goals (first|assumption|wp_step)))
   have D:m6 (D1 prog w) A.in1 (.call (.builtin "set.__init__") ⟨[.ref s.heap.objs.size,.ref l],[]⟩) (wants (λ r q=>r=.none/\Q (.ref s.heap.objs.size) q) E) { s with heap:=s.heap.push (set0 w) }:=by
    refine codeAny_call_builtin F.called_set.init.plain F.entry_set_init (check_set_init_1 x ?_);obtain ⟨o,i,j,n,t⟩:=ht;obtain ⟨M,C,X,I⟩:=o;dsimp only at j t;subst j t;have B:(s.heap.push (set0 w)).get? l=some { cls:=.type "list",dict:=C,data:=.seq items n,slots:=I }:=G0 _ i;have Z:=zev;have N:=zcq;have O:(W4 "list" == W4 "dict")=false:=by decide
    have P:(s.heap.push (set0 w)).get? s.heap.objs.size=some { cls:=.type "set",dict:=none,data:=.set #[] 0 (.fresh 0 0 (!w.params.followText "set-order")),slots:=#[] }:=f;have v:(s.heap.push (set0 w)).IsList l items:=⟨_,B,rfl,n,rfl⟩
    have p:l < s.heap.objs.size:=T0 i;unfold Builtin.«set.__init__» noKeywords Builtin.Frozenset.updateFrom;generalize hPI:pyIter=PI
    wp_walk
    subst hPI;refine o7 v (v0 (wpAny_runValue ?_));have m :∀b o,s.heap.get? b=some o->((s.heap.push (set0 w)).push { cls:=.type "list_iterator",data:=.fields #[.ref l,.int 0 0] }).get? b=some o:=λ b o e=>G0 _ (G0 _ e);have g:(s.heap.push (set0 w)).objs.size=s.heap.objs.size + 1:=K3 _ _;refine zda (S:=s.heap.objs.size) (it:=(s.heap.push (set0 w)).objs.size) (l:=l) (items:=items) (by rw [g];exact B1 (V1 _)) (J3 p) (by rw [g];exact J3 (Z1 p)) ns 0 [] _ _ _ (by simp [hh]) ⟨_,Z0 _ rfl,rfl,rfl⟩ ⟨_,m _ _ i,rfl,n,rfl⟩ (by rw [G5];exact hi) (ziq (G0 _ f)) (by simpa using hb) λ h' tk ns' J z H=>?_;refine K0 (K0 ⟨rfl,h h' tk ns' J z λ b o e=>H b o (B1 (T0 e)) (by rw [g];exact B1 (Z1 (T0 e))) (m b o e)⟩)
   refine K6 D λ G q a=>?_;cases G with
   | error e=>exact a
   | ok f2=>
    cases f2 with
    | next=>exact a.elim
    | brk=>exact a.elim
    | cont=>exact a.elim
    | ret r=>obtain ⟨rfl,y⟩:=a;exact K0 (K0 y)
end
section
variable {X:Cx}
noncomputable def tLSet (K:d0) (te:TE):TE:=λ σ H Q=>te σ H λ x H1=>∃(a:Addr) (ns:List Int),x=.ref a/\SqL K H1 a (ns.map V.int)/\ns.length < 100/\Q (.int ((ns.foldl addI []).length:Nat)) H1
theorem zb7 {e:Expr} {te:TE} {p1 p2 c1 c2:Pos} (hcalm:X.calm=true) (g1:Gl X "len") (m1:X.mg "len" = none) (g2:Gl X "set") (m2:X.mg "set" = none) (b1:l5 "len" = some (.builtin "len")) (b2:l5 "set" = some (.type "set")) (ha:PE X e te)
  (he:L1 [e] X.env=[(false,v3 e X.env)]:=by rfl):PE X (.Call (.Name "len" p1) [.Call (.Name "set" p2) [e] [] c2] [] c1) (tLSet X.K te):=by
 intro g s σ H Q I h;have n:X.A.handled=none:=I.ok.hd hcalm;refine W3 (ld_blt I g1 m1 b1 ?_ (by decide) (by decide));refine Y7 ?_ rfl rfl;refine (show W0 _ _ (spliced ((false,v3 (.Call (.Name "set" p2) [e] [] c2) X.env) :: [])) _ _ s from v4 ?_);refine W3 (ld_blt I g2 m2 b2 ?_ (by decide) (by decide));refine P2 ?_ he rfl;rw [he];refine (show W0 _ _ (spliced ((false,v3 e X.env) :: [])) _ _ s from v4 (thn (ha g s σ H _ I h) λ u v ⟨x,H1,I1,r1,a,ns,ex,sq,hl,q⟩=>?_));subst ex;cases r1;refine K4 ?_;obtain ⟨D,f,d,E⟩:=I1.list sq;refine zac n d.isList (by simpa using z5y f) (J7 hl (by decide)) λ k b B c m j=>K4 ?_;obtain ⟨r,z,t,o,_,l,w,y,i,_⟩:=c;have p:r.size=(ns.foldl addI []).length:=by rw [<-m.length_eq,zf1 l,L0,J2]
 have C:(ns.foldl addI []).length < 100:=by
  have:=z4t ns [];rw [X3,X2] at this
  lia
 refine call_len_set (s:={ v with heap:=k,toks:=b }) o ⟨rfl,rfl,rfl⟩ rfl i (by lia) ?_;rw [p];exact ⟨.int ((ns.foldl addI []).length:Nat),H1,(I1.kept (t':=b + 1 + 1) j),⟨_,rfl⟩,q⟩
end
theorem z29 {K:d0} {a:Addr} {xs:List V} {tl te:TE} {tc:TT} {g:TG} {m:Nat} {fr:List (Nat×Str)} {σ:L2.St} {H H1:Hp} {Q:VK} (p:Nat->Bool) (R:Nat->V->Hp->Prop) (hR :∀i y H H',Same H H'->R i y H->R i y H') (htl :∀R:VK,R (.ref a) H1->tl σ H R) (hq:SqL K H1 a xs) (hn:xs.length<=sizeLine)
  (body :∀i,i < xs.length->∀v H,Same H1 H->xs[i]? = some v->∀(KT:VK) (KF:Hp->Prop),(p i=true->∀y H',Same H H'->R i y H'->KT y H')->(p i=false->∀H',Same H H'->KF H')->
   g v (cStG σ fr (O2 m none)) H λ σ6 H6=>∃us,us.length=m/\σ6=cStG σ fr us/\tc (cStG σ fr us) H6 λ b H2=>if b=true then te (cStG σ fr us) H2 KT else KF H2)
  (hQ :∀l H' ys,Same H1 H'->H' l=none->All2 (λ i y=>R i y H') ((V0 xs.length).filter p) ys->Q (.ref l) (upd H' l (.lst ys))):tCompG (iList K tl) m fr g tc te σ H Q:=
 htl _ ⟨a,rfl,⟨xs,hq⟩,z2t (Same.refl _) (λ _ _ _ a b=>a.trans b) p R hR (z9s (S:=Same) (λ _ _=>Same.refl _) λ H s=>s.seq hq) hn body hQ⟩
theorem zc5 {K:d0} {a:Addr} {xs:List V} {ta:TA} {te:TE} {tc:TT} {g:TG} {m:Nat} {fr:List (Nat×Str)} {σ:L2.St} {H H1:Hp} {Q:VK} (p:Nat->Bool) (R:Nat->V->Hp->Prop) (hR :∀i y H H',Same H H'->R i y H->R i y H') (hta :∀T:List V->Hp->Prop,T [.ref a] H1->ta σ H T) (hq:SqL K H1 a xs) (hn:xs.length<=sizeLine)
  (body :∀i,i < xs.length->∀v H,Same H1 H->(∃x p,xs[i]? = some x/\v=.ref p/\H p=some (.tup [.int (i:Nat),x]))->∀(KT:VK) (KF:Hp->Prop),(p i=true->∀y H',Same H H'->R i y H'->KT y H')->(p i=false->∀H',Same H H'->KF H')->
   g v (cStG σ fr (O2 m none)) H λ σ6 H6=>∃us,us.length=m/\σ6=cStG σ fr us/\tc (cStG σ fr us) H6 λ b H2=>if b=true then te (cStG σ fr us) H2 KT else KF H2)
  (hQ :∀l H' ys,Same H1 H'->H' l=none->All2 (λ i y=>R i y H') ((V0 xs.length).filter p) ys->Q (.ref l) (upd H' l (.lst ys))):tCompG (ieL K ta) m fr g tc te σ H Q:=
 hta _ ⟨a,xs,rfl,hq,z2t (Same.refl _) (λ _ _ _ a b=>a.trans b) p R hR (zc8 hq) hn body hQ⟩
theorem zdi {K:d0} {tl te:TE} {tc:TT} {g:TG} {m:Nat} {fr:List (Nat×Str)} {σ:L2.St} {H:Hp} {Q:VK} (Pr:Addr->List V->Hp->Prop) (htl :∀R:VK,(∀a xs H1,Pr a xs H1->R (.ref a) H1)->tl σ H R) (hq :∀a xs H1,Pr a xs H1->SqL K H1 a xs/\xs.length<=sizeLine)
  (p:Nat->Bool) (R:Nat->V->Hp->Prop) (hR :∀i y H H',Same H H'->R i y H->R i y H')
  (body :∀a xs H1,Pr a xs H1->∀i,i < xs.length->∀v H,Same H1 H->xs[i]? = some v->∀(KT:VK) (KF:Hp->Prop),(p i=true->∀y H',Same H H'->R i y H'->KT y H')->(p i=false->∀H',Same H H'->KF H')->
   g v (cStG σ fr (O2 m none)) H λ σ6 H6=>∃us,us.length=m/\σ6=cStG σ fr us/\tc (cStG σ fr us) H6 λ b H2=>if b=true then te (cStG σ fr us) H2 KT else KF H2)
  (hQ :∀a xs H1,Pr a xs H1->∀l H' ys,Same H1 H'->H' l=none->All2 (λ i y=>R i y H') ((V0 xs.length).filter p) ys->Q (.ref l) (upd H' l (.lst ys))):tCompG (iList K tl) m fr g tc te σ H Q:=
 htl _ λ a xs H1 c=>⟨a,rfl,⟨xs,(hq a xs H1 c).1⟩,z2t (Same.refl _) (λ _ _ _ a b=>a.trans b) p R hR (z9s (S:=Same) (λ _ _=>Same.refl _) λ H s=>s.seq (hq a xs H1 c).1) (hq a xs H1 c).2 (body a xs H1 c) (hQ a xs H1 c)⟩
theorem z53 {K:d0} {a:Addr} {xs:List V} {tl te:TE} {tc:TT} {g:TG} {m:Nat} {fr:List (Nat×Str)} {σ:L2.St} {H H1:Hp} {Q:VK} (p:Nat->Bool) (R:Nat->V->Hp->Prop) (hR :∀i y H H',Same H H'->R i y H->R i y H') (htl :∀R:VK,R (.ref a) H1->tl σ H R) (hq:SqT K H1 a xs) (hn:xs.length<=sizeLine)
  (body :∀i,i < xs.length->∀v H,Same H1 H->xs[i]? = some v->∀(KT:VK) (KF:Hp->Prop),(p i=true->∀y H',Same H H'->R i y H'->KT y H')->(p i=false->∀H',Same H H'->KF H')->
   g v (cStG σ fr (O2 m none)) H λ σ6 H6=>∃us,us.length=m/\σ6=cStG σ fr us/\tc (cStG σ fr us) H6 λ b H2=>if b=true then te (cStG σ fr us) H2 KT else KF H2)
  (hQ :∀l H' ys,Same H1 H'->H' l=none->All2 (λ i y=>R i y H') ((V0 xs.length).filter p) ys->Q (.ref l) (upd H' l (.lst ys))):tCompG (iTup K tl) m fr g tc te σ H Q:=
 htl _ ⟨a,rfl,⟨xs,hq⟩,z2t (Same.refl _) (λ _ _ _ a b=>a.trans b) p R hR (zfw (S:=Same) (λ _ _=>Same.refl _) λ H s=>s.seqT hq) hn body hQ⟩
theorem e_cb1 {f:List V->Hp->VK->Prop} {te:TE} {σ:L2.St} {H:Hp} {Q:VK} (h:te σ H λ x H1=>f [x] H1 Q):tCB f (tCons te tNil) σ H Q:=h
theorem t_test {r:R2} {ta tb:TE} {σ:L2.St} {H:Hp} {Q:Bool->Hp->Prop} (h:ta σ H λ x H1=>tb σ H1 λ y H2=>r x y H2 λ x H3=>∃c,x=.bl c/\Q c H3):tTest (tOp r ta tb) σ H Q:=h
theorem t_lset {K:d0} {te:TE} {σ:L2.St} {H:Hp} {Q:VK} (h:te σ H λ x H1=>∃(a:Addr) (ns:List Int),x=.ref a/\SqL K H1 a (ns.map V.int)/\ns.length < 100/\Q (.int ((ns.foldl addI []).length:Nat)) H1):tLSet K te σ H Q:=h
theorem t_or {t u:TT} {σ:L2.St} {H:Hp} {Q:Bool->Hp->Prop} (h:t σ H λ c H1=>if c=true then Q true H1 else u σ H1 Q):tOr t u σ H Q:=h
theorem sq_if {c:TT} {a b rest:TS} {D:Ends} {σ:L2.St} {H:Hp} (h:c σ H λ k H1=>if k=true then a { D with nx:=rest D } σ H1 else b { D with nx:=rest D } σ H1):tSeq (tIfS c a b) rest D σ H:=h
theorem sq_ret {te:TE} {D:Ends} {σ:L2.St} {H:Hp} (h:te σ H D.rt):tRet te D σ H:=h
section
variable {X:Cx} {pins:List (Addr×Obj)} {σ:St} {H:Hp} {s:C0} {a:Addr} {u v:HO}
theorem Inv.retold (I:Inv X pins σ H s) (e:H a=some u) (nt :∀xs,u≠.tup xs) (nb :∀ps,u≠.tbl ps) (no :∀c,u≠.own c) (nf :∀o w,X.H₀ a≠some (.frz o w)) (ok:ObjOk X.prog X.w (upd H a v) s.heap a v):Inv X pins σ (upd H a v) s:=by
 have ne :∀{b:Addr},H b=none->b≠a:=λ n z=>by rw [z,e] at n;cases n
 refine ⟨I.ok,I.os,I.bare,⟨I.base.keep,I.base.slot,λ b o q n g=>?_,I.base.there,λ b xs q=>?_,λ b o w q=>?_,λ b ps q=>?_⟩,I.loc,I.cell,?_,λ x c q=>?_,λ p j=>?_,λ b o q=>?_,I.len⟩
 ·have z:=I.base.free b o q n g;rw [upd_ne (ne z)];exact z
 ·have z:=I.base.tups b xs q;rw [upd_ne (λ y=>by rw [y,e] at z;exact nt xs (Y1 z))];exact z
 ·have z:=I.base.frzs b o w q;rw [upd_ne (λ y=>by rw [y] at q;exact nf o w q)];exact z
 ·obtain ⟨i,z⟩:=I.base.tbls b ps q;exact ⟨i,by rw [upd_ne (λ y=>by rw [y,e] at z;exact nb _ (Y1 z))];exact z⟩
 ·rw [upd_ne (ne I.free)];exact I.free
 ·rw [upd_ne (ne (I.freeC x c q))];exact I.freeC x c q
 ·obtain ⟨h,d,f⟩:=I.pin p j;exact ⟨h,by rw [upd_ne (ne d)];exact d,f⟩
 ·by_cases z:b=a
  ·subst z;rw [upd_same] at q;cases q;exact ok
  ·rw [upd_ne z] at q;refine (I.hok b o q).stay (λ _ _ _ y=>y) (λ c y=>?_) λ c xs y=>?_
   ·rw [upd_ne (λ x=>by rw [x,e] at y;exact no b (Y1 y))];exact y
   ·rw [upd_ne (λ x=>by rw [x,e] at y;exact nt xs (Y1 y))];exact y
theorem Inv.noFrz {kvs:List (Key×V)} (I:Inv X pins σ H s) (e:H a=some (.dK kvs)) :∀o w,X.H₀ a≠some (.frz o w):=λ o w q=>by have z:=I.base.frzs a o w q;rw [e] at z;cases z
theorem Inv.freeze {kvs:List (Key×V)} {ob:Obj} (I:Inv X pins σ H s) (e:H a=some (.dK kvs)) (ho:s.heap.get? a=some ob):Inv X pins σ (upd H a (.frz ob (.dK kvs))) s:=
 I.retold e (λ _ z=>by cases z) (λ _ z=>by cases z) (λ _ z=>by cases z) (I.noFrz e) ⟨ho,(show ObjOk X.prog X.w H s.heap a (.dK kvs) from I.hok a _ e)⟩
theorem Inv.thaw {kvs:List (Key×V)} {ob:Obj} (I:Inv X pins σ H s) (nf :∀o w,X.H₀ a≠some (.frz o w)) (e:H a=some (.frz ob (.dK kvs))):Inv X pins σ (upd H a (.dK kvs)) s:=
 I.retold e (λ _ z=>by cases z) (λ _ z=>by cases z) (λ _ z=>by cases z) nf (show ObjOk X.prog X.w H s.heap a (.frz ob (.dK kvs)) from I.hok a _ e).2
end
theorem zbv {α β:Type} {F:α->β->Prop} :∀{l:List α} {m:List β} {i:Nat} {x:α},G7 F l m->l[i]? = some x->∃y,m[i]? = some y/\F x y
 | _,_,i,x,.nil,e=>by simp at e
 | _,_,0,x,.cons a _,e=>by rw [Z2] at e;cases e;exact ⟨_,Z2,a⟩
 | _,_,i + 1,x,.cons _ r,e=>by rw [C2] at e;obtain ⟨y,c,b⟩:=zbv r e;exact ⟨y,by rw [C2];exact c,b⟩
noncomputable def Itv (a:Addr) (ob:Obj) (kvs:List (Key×V)):It:=
 ⟨λ i H=>H a=some (.frz ob (.dK kvs))/\i < kvs.length,λ i H x H'=>H'=H/\∃k,kvs[i]? = some (k,x),λ i H=>H a=some (.frz ob (.dK kvs))/\kvs.length<=i⟩
theorem frz_at {X:Cx} {pins:List (Addr×Obj)} {σ:St} {H:Hp} {s:C0} {a:Addr} {ob:Obj} {kvs:List (Key×V)} {es:Array DictEntry} {ep:Nat} (I:Inv X pins σ H s) (hob:ob.data=.dict es ep) (e:H a=some (.frz ob (.dK kvs))) :
  ∃vs,KV kvs vs/\vs.length=kvs.length/\s.heap.DictAt (z0q X.prog X.w) a vs ep:=by
 obtain ⟨g,_,_,vs,c,h⟩:=(show ObjOk X.prog X.w H s.heap a (.frz ob (.dK kvs)) from I.hok a _ e)
 obtain ⟨j,b⟩:=h.dictAt;refine ⟨vs,c,c.length.symm,?_⟩;obtain ⟨o,l,f,k,d,i⟩:=id b;rw [g] at f;cases f;rw [hob] at d;cases d;exact b
theorem zg9 {P:Program} {w:S0} {K:d0} {tg:Expr} {a it:Addr} {ob:Obj} {kvs:List (Key×V)} {es:Array DictEntry} {ep:Nat} (hob:ob.data=.dict es ep):Turn P w K tg (Itv a ob kvs) [it] it (λ i h=>h.IsValIter it a i kvs.length ep) where
 mem:=by simp
 obj:=λ i h f b g=>by
  obtain rfl:b=it:=by simpa using g
  obtain ⟨o,e,c,d⟩:=f;exact ⟨o,e,λ v z=>by rw [d] at z;cases z⟩
 keep:=λ i h m f k=>by obtain ⟨o,e,r⟩:=f;exact ⟨o,k it (by simp) o e,r⟩
 item:=by intro X y C p J i L s σ H E I j f B;subst y C p;obtain ⟨n,N⟩:=B;obtain ⟨U,M,l,A⟩:=frz_at I hob n;obtain ⟨D,x,S,t,G,q⟩:=j it (by simp);have O:kvs[i]? = some kvs[i]:=N0 N;obtain ⟨⟨Y,u⟩,T,Z,W⟩:=zbv M O;rw [<-l] at f;refine wpAny_pyNext_values_item f A T λ m F R=>?_;have Q:Inv X L σ H { s with heap:=m }:=I.turned (t':=s.toks) (λ b o g e=>(R.2 b g).trans e) D x t G q;obtain ⟨o,e,c,d⟩:=id F;rw [l] at F;exact ⟨u,rfl,go_of (s:={ s with heap:=m }) e c d (by decide) ⟨kvs[i].2,H,Q,W,⟨rfl,kvs[i].1,O⟩,F,λ b g=>(j b g).1⟩⟩
 done:=by intro X y C p J i L s σ H E I j f B;subst y C p;obtain ⟨n,N⟩:=B;obtain ⟨U,M,l,A⟩:=frz_at I hob n;obtain ⟨D,x,S,t,G,q⟩:=j it (by simp);rw [<-l] at f;exact wpAny_pyNext_values_end (I.ok.hd J) f A (by rw [Q7];lia) λ m eb=>⟨rfl,I.turned (t':=s.toks) (λ b o g e=>eb b o g e) D x t G q⟩
 self:=λ _ _ _ _ _ f h=>wpAny_pyIter_valiter f h
noncomputable def iVals (td:TE):TI:=λ σ H R=>td σ H λ x H1=>∃a kvs,x=.ref a/\H1 a=some (.dK kvs)/\∀ob,R (Itv a ob kvs) (upd H1 a (.frz ob (.dK kvs)))
section
variable {X:Cx}
theorem zgu {tg o:Expr} {to:TE} {apos cpos:Pos} (ho:PE X o to) (hbase:U3 o "values" X.env (v3 o X.env)=v3 o X.env:=by rfl) (hline:(apos.endLine == cpos.line)=true:=by rfl):PI X tg (.Call (.Attribute o "values" apos) [] [] cpos) (iVals to):=by
 intro g s σ H R I h;refine wpAny_Call_method0_late hbase hline (thn (ho g s σ H _ I h) λ v c ⟨x,H1,I1,r1,a,kvs,ex,ea,q⟩=>?_);subst ex;cases r1;obtain ⟨m,u,z⟩:=isD_at I1 (.inl ⟨_,.inl ea⟩);obtain ⟨_,_,l,A,n⟩:=dk_of I1.hok ea;obtain ⟨y,k⟩:=n.dictAt;obtain ⟨j,p,ho,E,D,_⟩:=id k;refine ⟨"dict","dict.values",O6,d9,PySem.F.type_dict_values,m,u,w4 rfl (j09 ?_)⟩;refine Z8 d9 m PySem.F.entry_dict_values (PySem.F.args_dict_values_1 _) (meets_dict_values (z0q X.prog X.w) a z) ⟨⟨_,n⟩,?_⟩;have i :∀b o,c.heap.get? b=some o->(c.heap.push { cls:=.type "dict_values",data:=.fields #[.ref a] }).get? b=some o:=λ b o e=>G0 _ e;have d:Inv X g σ (upd H1 a (.frz j (.dK kvs))) { c with heap:=c.heap.push { cls:=.type "dict_values",data:=.fields #[.ref a] } }:=(I1.freeze ea ho).kept (t':=c.toks) i;have f:(c.heap.push { cls:=.type "dict_values",data:=.fields #[.ref a] }).DictAt (z0q X.prog X.w) a l y:=by obtain ⟨o,p,C,r⟩:=k;exact ⟨o,p,i _ _ C,r⟩
 refine wpAny_pyIter_values (s:={ c with heap:=c.heap.push { cls:=.type "dict_values",data:=.fields #[.ref a] } }) ⟨_,Z0 _ rfl,rfl,rfl⟩ f ?_;have B:l.length=kvs.length:=A.length.symm;generalize hh2:c.heap.push { cls:=.type "dict_values",data:=.fields #[.ref a] }=h2 at d f;refine ⟨h2.objs.size,[h2.objs.size],_,_,_,rfl,d.kept (t':=c.toks) λ b o e=>G0 _ e,zg9 D,⟨_,Z0 _ rfl,rfl,by rw [B];rfl⟩,λ b t=>?_,q j⟩;obtain rfl:b=h2.objs.size:=by simpa using t
 exact d.fpOk (B0 _) (d.hok.fresh (B0 _))
noncomputable def tThaw (t:TE):TE:=λ σ H Q=>∃a kvs,H a=some (.dK kvs)/\t σ H λ v H4=>(∃ob,H4 a=some (.frz ob (.dK kvs)))/\Q v (upd H4 a (.dK kvs))
theorem zjd {e:Expr} {t:TE} (h:PE X e t):PE X e (tThaw t):=by intro b s σ H Q I ⟨a,kvs,ea,q⟩;refine thn (h b s σ H _ I q) λ u c ⟨v,H4,I4,r4,⟨ob,e4⟩,q4⟩=>?_;exact ⟨v,_,I4.thaw (I.noFrz ea) e4,r4,q4⟩
noncomputable def sThaw (t:TS):TS:=λ D σ H=>∃a kvs,H a=some (.dK kvs)/\t { D with nx:=λ σ' H4=>(∃ob,H4 a=some (.frz ob (.dK kvs)))/\D.nx σ' (upd H4 a (.dK kvs)) } σ H
theorem zj5 {st:Stmt} {t:TS} (h:PS X st t):PS X st (sThaw t):=by
 intro d s σ H D I ⟨a,kvs,ea,q⟩;refine thn (h d s σ H _ I q) λ f k z=>?_;cases f with
 | next=>obtain ⟨b,j,e,⟨i,g⟩,c⟩:=z;exact ⟨b,_,e.thaw (I.noFrz ea) g,c⟩
 | brk=>exact z
 | cont=>exact z
 | ret u=>exact z
end
theorem zdc {S:Hp->Hp->Prop} {a:Addr} {ob:Obj} {kvs:List (Key×V)} {H1:Hp} (hs :∀H,S H1 H->S H H) (hq :∀H,S H1 H->H a=some (.frz ob (.dK kvs))):RunsR S (Itv a ob kvs) H1 kvs.length (λ i v _=>∃k,kvs[i]? = some (k,v)):=
 ⟨λ i b H s=>⟨hq H s,b⟩,λ H s=>⟨hq H s,B0 _⟩,λ i b H v c s y=>by obtain ⟨e,y⟩:=y;subst e;exact ⟨hs _ s,y⟩⟩
theorem zcd {K:d0} {H:Hp} {l c:Addr} {o:HO} {kvs:List (Key×V)} {xs:List V} (e:H l=some (.dK kvs)) (h:SqT K H c xs):SqT K (upd H l o) c xs:=by
 rcases h with (h|⟨ob,h⟩)|h
 ·exact .inl (.inl (by rw [upd_ne (ne_of h e (by intro z;cases z))];exact h))
 ·exact .inl (.inr ⟨ob,by rw [upd_ne (ne_of h e (by intro z;cases z))];exact h⟩)
 ·exact .inr h
theorem tcompV {K:d0} {a:Addr} {kvs:List (Key×V)} {td te:TE} {tc:TT} {g:TG} {m:Nat} {fr:List (Nat×Str)} {σ:L2.St} {H:Hp} {Q:VK} (p:Nat->Bool) (R:Nat->V->Prop) (htd :∀R:VK,R (.ref a) H->td σ H R) (ea:H a=some (.dK kvs)) (hn:kvs.length<=sizeLine)
  (body :∀i k v,kvs[i]? = some (k,v)->∀H1,(∀c xs,SqT K H c xs->SqT K H1 c xs)->∀(KT:VK) (KF:Hp->Prop),(p i=true->∀y H',Same H1 H'->R i y->KT y H')->(p i=false->∀H',Same H1 H'->KF H')->
   g v (cStG σ fr (O2 m none)) H1 λ σ6 H6=>∃us,us.length=m/\σ6=cStG σ fr us/\tc (cStG σ fr us) H6 λ b H2=>if b=true then te (cStG σ fr us) H2 KT else KF H2)
  (hQ :∀l H' ys,Same H H'->H l=none->H' l=some (.lst ys)->All2 R ((V0 kvs.length).filter p) ys->Q (.ref l) H'):tThaw (tCompG (iVals td) m fr g tc te) σ H Q:=by
 refine ⟨a,kvs,ea,htd _ ⟨a,kvs,rfl,ea,λ d=>?_⟩⟩;have n :∀{H':Hp},Same (upd H a (.frz d (.dK kvs))) H'->H' a=some (.frz d (.dK kvs)):=λ s=>s _ _ upd_same;refine z2t (S:=Same) (H1:=upd H a (.frz d (.dK kvs))) (Q:=λ v r=>(∃d,r a=some (.frz d (.dK kvs)))/\Q v (upd r a (.dK kvs))) (fr:=fr) (g:=g) (tc:=tc) (te:=te) (σ:=σ) (m:=m) (Same.refl _) (λ _ _ _ a b=>a.trans b) p (λ i y _=>R i y) (λ _ _ _ _ _ z=>z) (zdc (S:=Same) (λ _ _=>Same.refl _) λ H s=>n s) hn (λ i C v H1 x u KT KF w A=>?_) λ l H' ys f h t=>?_
 ·obtain ⟨k,B⟩:=u;exact body i k v B H1 (λ c xs z=>x.seqT (zcd ea z)) KT KF w A
 ·have j:l≠a:=λ z=>by rw [z,n f] at h;cases h
  refine ⟨⟨d,by rw [upd_ne j.symm];exact n f⟩,hQ l _ ys (λ b o e=>?_) ?_ (by rw [upd_ne j];exact upd_same) t⟩
  ·by_cases z:b=a
   ·rw [z] at e⊢;rw [ea] at e;cases e;exact upd_same
   ·have q:H' b=some o:=f b o (by rw [upd_ne z];exact e);rw [upd_ne z,upd_ne (λ y=>by rw [y,h] at q;cases q)];exact q
  ·cases hx:H l with
   | none=>rfl
   | some o=>have:=f l o (by rw [upd_ne j];exact hx);rw [h] at this;cases this
theorem zho {te:TE} {i:Nat} {rest:TS} {D:Ends} {σ:L2.St} {H:Hp} (h:tThaw te σ H λ x H1=>rest D (σ.set i (some x)) H1):tSeq (sThaw (tAsg te (gName i))) rest D σ H:=h
def TupI (h:Heap) (v:Value) (x:Int×Int):Prop:=∃(p:Addr) (o:Obj) (n:Nat) (t u:Tok),v=.ref p/\h.get? p=some o/\o.cls=.type "tuple"/\o.data=.seq #[.int x.1 t,.int x.2 u] n
noncomputable def gtI (x y:Int×Int):Bool:=if x.1=y.1 then decide (y.2 < x.2) else decide (y.1 < x.1)
section
variable {prog:Program} {w:S0} {A:A2} {E:Value->C0->Prop} {s:C0}
theorem tup_gt {v z:Value} {x y:Int×Int} {Q:Value->C0->Prop} (hx:TupI s.heap v x) (hy:TupI s.heap z y) (hu:A.units < cLine) (h:Q (.bool (gtI x y)) s):W0 (D1 prog w) A (richCompare .Gt v z) Q E s:=by
 obtain ⟨p,o,n,t,u,rfl,d,f,l⟩:=hx;obtain ⟨r,k,D,C,B,rfl,c,e,m⟩:=hy;refine wpAny_richCompare_same_room (op:=.Gt) (T:="tuple") ⟨o,d,f⟩ ⟨k,c,e⟩ F.slot_tuple_gt (j6 F.slot_tuple_gt ⟨o,d,f⟩ F.entry_tuple_gt ?_ (F.args_tuple_gt_2 _ _)) hu;refine (show W0 _ _ (isInstance (.ref r) (.type "tuple") >>= _) _ _ s from v0 (wpAny_isInstance (T:="tuple") ⟨k,c,e⟩ isSubtype_tuple_tuple ?_));simp only [X5,S3,if_false];refine v0 (O8 d l (v0 (O8 c m (v0 ?_))));simp only [List.zip_cons_cons,List.zip_nil_left,n5,E5];refine v0 (v0 ((y4 prog w).eqBool (a:=x.1) (b:=y.1) (V6 prog w _ _) (V6 prog w _ _) ?_));have g :∀{i j:Int} {a b:Tok} {R:Value->C0->Prop},R (.bool (decide (j < i))) s->W0 (D1 prog w) A.in1 (richCompare .Gt (.int i a) (.int j b)) R E s:=λ q=>(show W0 _ _ (K2 .Gt _ _) _ _ _ from gt_int q)
 by_cases e1:x.1=y.1
 ·rw [decide_eq_true e1];simp only [X5,S3,if_false];refine K0 (v0 (v0 ((y4 prog w).eqBool (a:=x.2) (b:=y.2) (V6 prog w _ _) (V6 prog w _ _) ?_)));unfold gtI at h;rw [if_pos e1] at h;by_cases e2:x.2=y.2
  ·rw [decide_eq_true e2];simp only [X5,S3,if_false];rw [decide_eq_false (by lia)] at h;exact K0 (K0 (K0 ⟨_,rfl,(λ z=>nomatch z),h⟩))
  ·rw [decide_eq_false e2];simp only [Bool.not_false,if_true];exact v0 (P8 (v0 (g (v0 (K0 (K0 (K0 (K0 ⟨_,rfl,(λ z=>nomatch z),h⟩))))))))
 ·rw [decide_eq_false e1];simp only [Bool.not_false,if_true];unfold gtI at h;rw [if_neg e1] at h;exact v0 (P8 (v0 (g (v0 (K0 (K0 (K0 (K0 ⟨_,rfl,(λ z=>nomatch z),h⟩))))))))
theorem TupI.kept {h h':Heap} {v:Value} {x:Int×Int} {c:Addr} {oc:Obj} (q:TupI h v x) (e:h.get? c=some oc) (nc:oc.cls≠.type "tuple") (k :∀b o,b≠c->h.get? b=some o->h'.get? b=some o):TupI h' v x:=by obtain ⟨p,o,n,t,u,rfl,a,d,f⟩:=q;exact ⟨p,o,n,t,u,rfl,k p o (λ z=>by rw [z,e] at a;cases a;exact nc d) a,d,f⟩
noncomputable def bestI (m:Value×(Int×Int)):List (Value×(Int×Int))->Value×(Int×Int)
 | []=>m
 | x :: r=>bestI (if gtI x.2 m.2=true then x else m) r
theorem z6v {I l S:Addr} {its:Array Value} (nl:l≠I) (ns:S≠I) (nsl:l≠S) :∀(xs:List (Value×(Int×Int))) (k c:Nat) (m:Value×(Int×Int)) (A:A2) (R:Result->C0->Prop) (s:C0),A.handled=none->A.units + 1 < cLine->s.heap.IsListIter I l k->s.heap.IsList l its->its.toList.drop k=xs.map (·.1)->
  s.heap.get? S=some { cls:=.type "list",dict:=none,data:=.seq #[m.1,m.1] c,slots:=#[] }->TupI s.heap m.1 m.2->(∀x∈xs,TupI s.heap x.1 x.2)->
  (∀h' tk,(∀b o,b≠I->b≠S->s.heap.get? b=some o->h'.get? b=some o)->R (.ok (.ret (bestI m xs).1)) { s with heap:=h',toks:=tk })->
  m6 (D1 prog w) A (.builtin "max.loop" ⟨[.ref I,.none,.ref S],[]⟩) R s
 | [],k,c,m,A,R,s,hh,hu,hI,hl,hd,hS,hm,hx,q=>by
  have K:its[k]? = none:=by have:=List.drop_eq_nil_iff.mp hd;rw [J2] at this;exact V9 this
  refine A5 m9 ?_;rw [R7 u4 _];refine (show W0 _ A.in1 (z9 (.ref S) >>= _) _ _ s from v0 (P5 hS rfl ?_));refine (show W0 _ A.in1 (tryCatch (A9 (.ref I)) _ >>= _) _ _ s from v0 (z8 (n8 (show A.in1.handled=none from hh) hI hl K λ h' eb=>?_)));have d:=eb S _ ns hS;refine (show W0 _ A.in1 (updateSeq S (λ _=>#[]) >>= _) _ _ _ from v0 (Q9 d rfl (v0 (G9 (K0 ?_)))));exact q _ _ λ b o a g e=>(A4 _ _ (c4 g)).trans (eb b o a e)
 | x :: xs,k,c,m,A,R,s,hh,hu,hI,hl,hd,hS,hm,hx,q=>by
  have t:its.toList[k]? = some x.1:=by have:=congrArg (λ z=>z[0]?) hd;simpa using this
  have t:its[k]? = some x.1:=by simpa using t
  have E:its.toList.drop (k + 1)=xs.map (·.1):=by have:=congrArg List.tail hd;simpa using this
  have F:(toString "max"++toString ".loop" : String) = "max.loop":=by decide
  obtain ⟨J,D,G,_⟩:=id hI;have v:J.cls≠.type "tuple":=by rw [G];decide
  refine A5 m9 ?_;rw [R7 u4 _];refine (show W0 _ A.in1 (z9 (.ref S) >>= _) _ _ s from v0 (P5 hS rfl ?_));refine (show W0 _ A.in1 (tryCatch (A9 (.ref I)) _ >>= _) _ _ s from v0 (z8 (Q5 hI hl t λ h' B H=>?_)));have f :∀b o,b≠I->s.heap.get? b=some o->h'.get? b=some o:=λ b o n e=>(H.2 b n).trans e;have d:=f S _ ns hS;have u:h'.IsList l its:=hl.elim λ o z=>⟨o,f l o nl z.1,z.2⟩
  have C:TupI h' m.1 m.2:=hm.kept D v f;have j :∀y∈x :: xs,TupI h' y.1 y.2:=λ y h=>(hx y h).kept D v f;refine (show W0 _ A.in1 (tryCatch (W8 [x.1,x.1] (richCompare .Gt x.1 m.1 >>= _)) _ >>= _) _ _ _ from v0 (z8 (T3 (v0 (tup_gt (s:={ s with heap:=h' }) (j x (.head _)) C (by simpa using hu) (v0 (T3 (F3 (v0 (G9 (K0 ?_)))))))))));have eb:bestI m (x :: xs)=bestI (if gtI x.2 m.2=true then x else m) xs:=rfl;cases hg:gtI x.2 m.2 with
  | true=>rw [hg,if_pos rfl] at eb;simp only [if_true];refine v0 (Q9 d rfl (v0 (G9 ?_)));rw [F];have i :∀b o,b≠S->h'.get? b=some o->(h'.update S (Y4 λ _=>#[x.1,x.1])).get? b=some o:=λ b o n e=>(A4 _ _ (c4 n)).trans e;refine K0 ⟨C7 u4 _,z6v nl ns nsl xs (k + 1) _ x A R { s with heap:=h'.update S (Y4 λ _=>#[x.1,x.1]) } hh hu (B.elim λ o z=>⟨o,i I o (c4 ns) z.1,z.2⟩) (u.elim λ o z=>⟨o,i l o nsl z.1,z.2⟩) E (J4 _ d rfl) ((j x (.head _)).kept d (show W4 "list"≠.type "tuple" by decide) i) (λ y h=>(j y (.tail _ h)).kept d (show W4 "list"≠.type "tuple" by decide) i) λ p tk r=>?_⟩;rw [<-eb];exact q p tk λ b o a g e=>r b o a g (i b o g (f b o a e))
  | false=>rw [hg,if_neg (by decide)] at eb;simp only [S3,if_false];refine v0 (G9 ?_);rw [F];refine K0 ⟨C7 u4 _,z6v nl ns nsl xs (k + 1) c m A R { s with heap:=h' } hh hu B u E d C (λ y h=>j y (.tail _ h)) λ p tk r=>?_⟩;rw [<-eb];exact q p tk λ b o a g e=>r b o a g (f b o a e)
theorem zfq {l:Addr} {its:Array Value} {m:Value×(Int×Int)} {xs:List (Value×(Int×Int))} {Q:Value->C0->Prop} (hh:A.handled=none) (hu:A.units + 1 < cLine) (hl:s.heap.IsList l its) (hi:its.toList=(m :: xs).map (·.1)) (ht :∀x∈m :: xs,TupI s.heap x.1 x.2)
  (q :∀h' tk,(∀b o,s.heap.get? b=some o->h'.get? b=some o)->Q (bestI m xs).1 { s with heap:=h',toks:=tk }):W0 (D1 prog w) A (call (.builtin "max") [.ref l]) Q E s:=by
 have L:(toString "max"++toString ".loop" : String) = "max.loop":=by decide
 refine call_function_tree F.kind_max F.plain_max F.entry_max (F.args_max1 _) ?_;refine (show W0 _ A.in1 (X7 "max" ["key","default"] 0 ⟨[],[]⟩ >>= _) _ _ s from v0 (A8 (show X7 "max" ["key","default"] 0 ⟨[],[]⟩=N3 [none,none] from rfl) (v0 (K0 ?_))));refine v0 (o7 hl ?_);refine v0 (Q3 ?_);rw [L];dsimp only;generalize hI0:s.heap.push { cls:=.type "list_iterator",data:=.fields #[.ref l,.int 0 0] }=h1;have y:h1.get? s.heap.objs.size=some { cls:=.type "list_iterator",data:=.fields #[.ref l,.int 0 0] }:=by rw [<-hI0];exact Z0 _ rfl
 have h:h1.objs.size=s.heap.objs.size + 1:=by rw [<-hI0];exact K3 _ _
 have g :∀b o,s.heap.get? b=some o->h1.get? b=some o:=λ b o e=>by rw [<-hI0];exact G0 _ e
 generalize hS0:h1.push { cls:=.type "list",data:=.seq #[] }=h2;have v:h2.get? h1.objs.size=some { cls:=.type "list",data:=.seq #[] }:=by rw [<-hS0];exact Z0 _ rfl
 have a :∀b o,h1.get? b=some o->h2.get? b=some o:=λ b o e=>by rw [<-hS0];exact G0 _ e
 have j:l < s.heap.objs.size:=hl.elim λ o z=>T0 z.1;generalize hI:s.heap.objs.size=I at y h j;generalize hSS:h1.objs.size=S at v h;have B:S≠I:=by lia
 have K:l≠I:=B1 j;have G:l≠S:=B1 (by rw [h];exact Z1 j);have P :∀x∈m :: xs,TupI h2 x.1 x.2:=λ x c=>by obtain ⟨p,o,n,t,u,e,R,r⟩:=ht x c;exact ⟨p,o,n,t,u,e,a _ _ (g _ _ R),r⟩
 refine K0 ⟨C7 u4 _,A5 m9 ?_⟩;rw [R7 u4 _];refine (show W0 _ A.in1 (z9 (.ref S) >>= _) _ _ _ from v0 (P5 v rfl ?_));have T:its[0]? = some m.1:=by have:=congrArg (λ z=>z[0]?) hi;simpa using this
 refine (show W0 _ A.in1 (tryCatch (A9 (.ref I)) _ >>= _) _ _ _ from v0 (z8 (Q5 (l:=l) ⟨_,a _ _ y,rfl,rfl⟩ (hl.elim λ o z=>⟨o,a _ _ (g _ _ z.1),z.2⟩) T λ d N M=>?_)));have f :∀b o,b≠I->h2.get? b=some o->d.get? b=some o:=λ b o n e=>(M.2 b n).trans e;have k:=f S _ B v;refine (show W0 _ A.in1 (updateSeq S (λ _=>#[m.1,m.1]) >>= _) _ _ _ from v0 (Q9 k rfl ?_));rw [L];have i :∀b o,b≠S->d.get? b=some o->(d.update S (Y4 λ _=>#[m.1,m.1])).get? b=some o:=λ b o n e=>(A4 _ _ (c4 n)).trans e;have D :∀x∈m :: xs,TupI (d.update S (Y4 λ _=>#[m.1,m.1])) x.1 x.2:=λ x c=>((P x c).kept (a _ _ y) (show W4 "list_iterator"≠.type "tuple" by decide) f).kept k (show W4 "list"≠.type "tuple" by decide) i;refine K0 ⟨C7 u4 _,z6v K B G xs 1 _ m A _ { s with heap:=d.update S (Y4 λ _=>#[m.1,m.1]) } hh hu (N.elim λ o z=>⟨o,i I o (c4 B) z.1,z.2⟩) (hl.elim λ o z=>⟨o,i l o G (f _ _ K (a _ _ (g _ _ z.1))),z.2⟩) ?_ (J4 _ k rfl) (D m (.head _)) (λ x c=>D x (.tail _ c)) λ h' tk O=>?_⟩
 ·rw [hi];rfl
 ·refine q h' tk λ b o e=>?_;have H:b < I:=by rw [<-hI];exact T0 e
  have C:b≠I:=B1 H;have J:b≠S:=B1 (by rw [h];exact Z1 H);exact O b o C J (i _ _ J (f _ _ C (a _ _ (g _ _ e))))
end
section
variable {X:Cx}
theorem gtI_iff {x y:Int×Int}:gtI x y=true↔y.1 < x.1\/(x.1=y.1/\y.2 < x.2):=by
 unfold gtI;by_cases e:x.1=y.1
 ·rw [if_pos e,decide_eq_true_iff];lia
 ·rw [if_neg e,decide_eq_true_iff];lia
theorem zab :∀(xs:List (Value×(Int×Int))) (m:Value×(Int×Int)),bestI m xs∈m :: xs/\∀x∈m :: xs,gtI x.2 (bestI m xs).2=false
 | [],m=>⟨.head _,λ x d=>by rw [List.mem_singleton.mp d];exact Bool.eq_false_iff.mpr λ z=>by have:m.2.1 < m.2.1\/(m.2.1=m.2.1/\m.2.2 < m.2.2):=gtI_iff.mp z;lia⟩
 | y :: xs,m=>by
  show bestI (if gtI y.2 m.2=true then y else m) xs∈m :: y :: xs/\∀x∈m :: y :: xs,gtI x.2 (bestI (if gtI y.2 m.2=true then y else m) xs).2=false;by_cases z:gtI y.2 m.2=true
  ·rw [if_pos z];obtain ⟨g,f⟩:=zab xs y;refine ⟨.tail _ g,λ x d=>?_⟩;rcases List.mem_cons.mp d with e|d
   ·have a:=f y (.head _);rw [e];refine Bool.eq_false_iff.mpr λ b=>Bool.eq_false_iff.mp a ?_;have b:=gtI_iff.mp b;have c:=gtI_iff.mp z;exact gtI_iff.mpr (by lia)
   ·exact f x d
  ·rw [if_neg z];obtain ⟨g,f⟩:=zab xs m;refine ⟨?_,λ x d=>?_⟩
   ·rcases List.mem_cons.mp g with e|e
    ·rw [e];exact .head _
    ·exact .tail _ (.tail _ e)
   ·rcases List.mem_cons.mp d with e|d
    ·rw [e];exact f m (.head _)
    ·rcases List.mem_cons.mp d with e|d
     ·have a:=f m (.head _);rw [e];refine Bool.eq_false_iff.mpr λ b=>Bool.eq_false_iff.mp a ?_;have b:=gtI_iff.mp b;have c:¬ _:=λ c=>z (gtI_iff.mpr c);exact gtI_iff.mpr (by lia)
     ·exact f x (.tail _ d)
theorem zfh (hcalm:X.calm=true) {k:Nat} (hr:Room k X.A):CallR X (.builtin "max") (λ xs H Q=>∃(l:Addr) (m:Addr×(Int×Int)) (r:List (Addr×(Int×Int))),xs=[.ref l]/\SqL X.K H l ((m :: r).map λ x=>V.ref x.1)/\(∀x∈m :: r,SqT X.K H x.1 [.int x.2.1,.int x.2.2])/\
  ∀b,(b∈m :: r)->(∀x∈m :: r,gtI x.2 b.2=false)->Q (.ref b.1) H):=by
 intro T s σ H xs us Q I B h;obtain ⟨l,m,r,rfl,sq,E,q⟩:=h;obtain ⟨u,rfl,p⟩:=vals1 B;cases p;obtain ⟨i,F,v,Y⟩:=I.list sq;have M:i.toArray.toList=(((v1 m.1,m.2) :: r.map λ x=>(v1 x.1,x.2)):List (Value×(Int×Int))).map (·.1):=by
  have t :∀(f:List (Addr×(Int×Int))) (us:List Value),Vals (f.map λ x=>V.ref x.1) us->us=(f.map λ x=>(v1 x.1,x.2)).map (·.1):=by
   intro f;induction f with
   | nil=>intro us h;cases h;rfl
   | cons y f ih=>
    intro us h;cases h with
    | cons a b=>cases (show _=v1 y.1 from a);rw [Y0,Y0,<-ih _ b]
  simpa using t (m :: r) i F
 have z :∀x∈(((v1 m.1,m.2) :: r.map λ x=>(v1 x.1,x.2)):List (Value×(Int×Int))),TupI s.heap x.1 x.2:=λ x c=>by
  obtain ⟨y,d,rfl⟩ :∃y∈m :: r,x=(v1 y.1,y.2):=by
   rcases List.mem_cons.mp c with e|c
   ·exact ⟨m,.head _,e⟩
   ·obtain ⟨y,d,e⟩:=List.mem_map.mp c;exact ⟨y,.tail _ d,e.symm⟩
  obtain ⟨U,L,⟨o,O,j,n,J⟩,_⟩:=I.tuple (E y d);obtain ⟨S,W,rfl,R,G⟩:=vals2 L;obtain ⟨N,rfl⟩:=R;obtain ⟨D,rfl⟩:=G;exact ⟨y.1,o,n,N,D,rfl,O,j,J⟩
 refine zfq (I.ok.hd hcalm) (hu_of hr) v.isList M z λ Z P k=>?_;obtain ⟨w,g⟩:=zab (r.map λ x=>(v1 x.1,x.2)) (v1 m.1,m.2);obtain ⟨y,d,C⟩ :∃y∈m :: r,bestI (v1 m.1,m.2) (r.map λ x=>(v1 x.1,x.2))=(v1 y.1,y.2):=by
  rcases List.mem_cons.mp w with e|c
  ·exact ⟨m,.head _,e⟩
  ·obtain ⟨y,d,e⟩:=List.mem_map.mp c;exact ⟨y,.tail _ d,e.symm⟩
 rw [C] at g⊢;refine ⟨.ref y.1,H,I.kept (t':=P) k,rfl,q y d λ x c=>?_⟩;rcases List.mem_cons.mp c with e|c
 ·rw [e];exact g _ (.head _)
 ·exact g (v1 x.1,x.2) (.tail _ (List.mem_map.mpr ⟨x,c,rfl⟩))
end
end L2
set_option maxHeartbeats 400000
namespace L2
open PySem PySem.Spec PyProof.Rows
end L2
set_option maxHeartbeats 1000000
namespace L2
open PySem PySem.Spec PyProof.Rows
theorem zed {te:TE} {σ:L2.St} {H:Hp} {Q:List V->Hp->Prop} (h:te σ H λ y H1=>Q [y] H1):tCons te tNil σ H Q:=h
structure ZLAt (h:Heap) (z T U i j a b:Addr) (n:Nat) (f:Value):Prop where
 z:IsZip h z T U f
 t:IsPair h T (.ref i) (.ref j)
 u :∃p q,IsPair h U p q
 i:h.IsListIter i a n
 j:h.IsListIter j b n
noncomputable def jl (c:Nat):List (List Nat)->List Nat
 | []=>[]
 | [a]=>a
 | a :: b :: r=>a++c :: jl c (b :: r)
end L2
namespace L2
open PySem PySem.Spec PyProof.Rows PySem.NumText
end L2
namespace L2
open PySem PySem.Spec PyProof.Rows
end L2
open PySem PySem.W PyProof.Rows
set_option maxHeartbeats 4000000
namespace TJ
section
variable (p:Program) (w:S0) (n₀:Nat) (ann:Option Value) (code:Code) (q:Pos)
theorem zf9 {n m:Nat} :∀{s s' s'':C0} {t t' t'':j04},segGo A3 p w n₀ ann 1 n s t=some (s',t')->segGo A3 p w n₀ ann 1 m s' t'=some (s'',t'')->
  segGo A3 p w n₀ ann 1 (n + m) s t=some (s'',t''):=by
 induction n with
 | zero=>
  intro s s' s'' t t' t'' h k;obtain ⟨rfl,rfl⟩:s=s'/\t=t':=by simpa [segGo] using h
  rw [X2];exact k
 | succ n ih=>
  intro s s' s'' t t' t'' h k;rw [show n + 1 + m=n + m + 1 by omega];unfold segGo at h⊢;cases he:endAt 1 t with
  | some f=>rw [he] at h;cases h
  | none=>
   rw [he] at h;cases hk:stepOk n₀ ann t with
   | false=>rw [hk] at h;cases h
   | true=>
    rw [hk] at h;cases hs:step (denote A3) p w s t with
    | halt o s₂=>rw [hs] at h;cases h
    | go s₂ t₂=>rw [hs] at h;exact ih h k
def Steps (c:Nat) (s:C0) (t:j04) (s':C0) (t':j04):Prop:=∃n,n<=c/\segGo A3 p w n₀ ann 1 n s t=some (s',t')
def Goes {α:Type} (c:Nat) (x:Sem α) (s:C0) (pos:Pos) (a:α) (s':C0) (pos':Pos):Prop:=
 ∀(K:α->Sem Fin) (H:Value->Sem Fin) (gd:Bool->Bool) (lv:List Value->List Value),
  Steps p w n₀ ann c s ⟨x.wrap K H gd lv,code,pos,[topFrame q]⟩ s' ⟨K a,code,pos',[topFrame q]⟩
end
section
variable {p:Program} {w:S0} {n₀:Nat} {ann:Option Value} {code:Code} {q:Pos}
theorem Steps.trans {c d:Nat} {s s' s'':C0} {t t' t'':j04} (h:Steps p w n₀ ann c s t s' t') (k:Steps p w n₀ ann d s' t' s'' t''):Steps p w n₀ ann (c + d) s t s'' t'':=by obtain ⟨n,b,h⟩:=h;obtain ⟨m,a,k⟩:=k;exact ⟨n + m,by omega,zf9 p w n₀ ann h k⟩
theorem Steps.refl {s:C0} {t:j04}:Steps p w n₀ ann 0 s t s t:=⟨0,B0 _,rfl⟩
theorem Steps.le {c d:Nat} {s s':C0} {t t':j04} (h:Steps p w n₀ ann c s t s' t') (l:c<=d):Steps p w n₀ ann d s t s' t':=let ⟨n,a,b⟩:=h;⟨n,F0 a l,b⟩
theorem Steps.one {s s':C0} {t t':j04} (he:endAt 1 t=none) (hk:stepOk n₀ ann t=true) (hs:step (denote A3) p w s t=.go s' t'):Steps p w n₀ ann 1 s t s' t':=by refine ⟨1,B0 _,?_⟩;unfold segGo;rw [he,hk,hs];rfl
variable {α β:Type} {s s' s'':C0} {pos pos' pos'':Pos} {a:α} {b:β} {c d:Nat}
theorem Goes.pure:Goes p w n₀ ann code q 0 (T9 a:Sem α) s pos a s pos:=λ _ _ _ _=>.refl
theorem Goes.le {x:Sem α} (h:Goes p w n₀ ann code q c x s pos a s' pos') (l:c<=d):Goes p w n₀ ann code q d x s pos a s' pos':=λ K H gd b=>(h K H gd b).le l
theorem Goes.bind {x:Sem α} {f:α->Sem β} (h:Goes p w n₀ ann code q c x s pos a s' pos') (k:Goes p w n₀ ann code q d (f a) s' pos' b s'' pos''):Goes p w n₀ ann code q (c + d) (x >>= f) s pos b s'' pos'':=by
 intro K H gd g;have e:(x >>= f).wrap K H gd g=x.wrap (λ a=>(f a).wrap K H gd g) H gd g:=by rw [Sem.bind_eq_wrap',Sem.wrap_wrap];rfl
 rw [e];exact (h _ H gd g).trans (k K H gd g)
theorem Goes.keep {x:Sem α} {vs:List Value} (h:Goes p w n₀ ann code q c x s pos a s' pos'):Goes p w n₀ ann code q c (x.keep vs) s pos a s' pos':=by intro K H gd b;rw [Sem.keep_eq_wrap,Sem.wrap_wrap];exact h K H _ _
theorem Goes.holding {x:Sem α} {vs:List Value} (h:Goes p w n₀ ann code q c x s pos a s' pos'):Goes p w n₀ ann code q c (W8 vs x) s pos a s' pos':=by rw [holding_eq_keep];exact h.keep
theorem Goes.rule {tag:String}:Goes p w n₀ ann code q 1 (PySem.rule tag) s pos () s pos:=λ _ _ _ _=>.one rfl rfl rfl
theorem Goes.at' {pos₁:Pos}:Goes p w n₀ ann code q 1 (W9 pos₁) s pos () s pos₁:=λ _ _ _ _=>.one rfl rfl rfl
theorem Goes.loadPart {A:Addr} {o:Obj} {part:Option Value} (ho:s.heap.get? A=some o):Goes p w n₀ ann code q 1 (loadPart A part) s pos o s pos:=λ K H gd b=>.one rfl rfl (by obtain ⟨heap,e,d,c,a⟩:=s;show (match heap.get? A with|some o=>Step.go _ _|none=>_)=_;have ho:heap.get? A=some o:=ho;rw [ho];rfl)
theorem Goes.updatePart {A:Addr} {o:Obj} {f:Obj->Obj} {part:Option Value} (ho:s.heap.get? A=some o) (hn:Nat.ble n₀ A=true):Goes p w n₀ ann code q 1 (updatePart A part f) s pos () { s with heap:=s.heap.update A f } pos:=λ K H gd b=>
 .one rfl (by
  show (_ && (Nat.ble n₀ A || _ || _ || _))=true;rw [hn];rfl) (by
  obtain ⟨heap,e,d,c,a⟩:=s;have ho:heap.get? A=some o:=ho;show (if (heap.get? A).isSome=true then Step.go _ _ else _)=_;rw [ho];rfl)
theorem Goes.leaf {x:Sem α} {sT sT':SharedT} (n:Nat) (h :∀K H gd lv,segGoT A3 p w n₀ ann 1 n sT ⟨x.wrap K H gd lv,code,pos,[topFrame q]⟩=some (sT',⟨K a,code,pos',[topFrame q]⟩)) :
  Goes p w n₀ ann code q n x sT.abs pos a sT'.abs pos':=λ K H gd lv=>⟨n,B0 _,segGo_of (h K H gd lv)⟩
end
end TJ
open PySem PySem.W PyProof.Rows
namespace TJ
section
variable {p:Program} {w:S0} {n₀:Nat} {ann:Option Value} {code:Code} {q:Pos} {s:C0} {pos:Pos}
theorem Goes.forIn {γ β:Type} {c:Nat} {f:γ->β->Sem (ForInStep β)} {b:β} :∀{l:List γ},(∀x∈l,Goes p w n₀ ann code q c (f x b) s pos (.yield b) s pos)->Goes p w n₀ ann code q (l.length * c) (ForIn.forIn l b f) s pos b s pos
 | [],_=>by rw [E5];exact Goes.pure.le (B2 _)
 | x :: l,h=>by rw [n5];have k:=Goes.forIn (l:=l) λ y a=>h y (E1 _ a);have e:=Goes.bind (f:=λ r=>match r with | .done b=>(T9 b:Sem β) | .yield b=>ForIn.forIn l b f) (h x O1) k;exact e.le (by rw [C1,Nat.add_mul];omega)
theorem Goes.entries {d:Addr} {o:Obj} {es:Array DictEntry} {ep:Nat} {part:Option Value} (ho:s.heap.get? d=some o) (hd:o.data=.dict es ep):Goes p w n₀ ann code q 1 (dictEntries d part) s pos es s pos:=by unfold dictEntries;refine (Goes.bind (d:=0) (Goes.loadPart ho) ?_);rw [hd];exact Goes.pure
theorem Goes.epoch {d:Addr} {o:Obj} {es:Array DictEntry} {ep:Nat} {part:Option Value} (ho:s.heap.get? d=some o) (hd:o.data=.dict es ep):Goes p w n₀ ann code q 1 (dictEpoch d part) s pos ep s pos:=by unfold dictEpoch;refine (Goes.bind (d:=0) (Goes.loadPart ho) ?_);rw [hd];exact Goes.pure
theorem Goes.mayTell {a:Addr} {stored:List Value} {cq:Nat} (hq:Goes p w n₀ ann code q cq (d4 8 (.ref a)) s pos true s pos) (hs :∀v∈stored,Goes p w n₀ ann code q cq (d4 8 v) s pos true s pos) :
  Goes p w n₀ ann code q (cq + stored.length * cq) (tableMayTell (.ref a) stored) s pos false s pos:=by
 unfold tableMayTell;split
 ·exact Goes.pure.le (B2 _)
 ·refine Goes.bind hq ?_;simp only [X5,S3,if_false];refine (Goes.bind (a:=(none,())) (d:=0) (Goes.forIn λ v b=>?_) ?_).le (B0 _)
  ·refine (Goes.bind (d:=0) (hs v b) ?_).le (B0 _);simp only [X5,S3,if_false];exact Goes.pure
  ·exact Goes.pure
theorem Goes.find_none {d a:Addr} {o:Obj} {es:Array DictEntry} {ep:Nat} {h:Int} {cq ce:Nat} (ho:s.heap.get? d=some o) (hd:o.data=.dict es ep)
  (hq:Goes p w n₀ ann code q cq (d4 8 (.ref a)) s pos true s pos)
  (hk :∀e∈es.toList,∃b,e.key=.ref b/\b≠a/\Goes p w n₀ ann code q cq (d4 8 (.ref b)) s pos true s pos/\Goes p w n₀ ann code q ce (eqBool (.ref b) (.ref a)) s pos false s pos) :
  Goes p w n₀ ann code q (2 + cq + es.size * (cq + ce + 10)) (dictFind d (.ref a) h) s pos none s pos:=by
 have m :∀(i:Nat) (e:DictEntry),es[i]? = some e->e∈es.toList:=λ i e r=>Array.mem_toList_iff.mpr (Array.mem_of_getElem? r);have A:¬ (es.any λ e=>e.key == v1 a && e.hash != h)=true:=by rw [<-Array.any_toList,c7];rintro ⟨e,hin,hc⟩;obtain ⟨b,f,g,_⟩:=hk e hin;simp only [f,d3,beq_iff_eq,Value.ref.injEq] at hc;exact g hc.1
 have l :∀v∈(S5 es.size (λ i=>es[i]?.map (·.hash)) h).filterMap (λ i=>es[i]?.map (·.key)),∃b,v=.ref b/\b≠a/\Goes p w n₀ ann code q cq (d4 8 v) s pos true s pos:=by
  intro v k;obtain ⟨i,_,j⟩:=List.mem_filterMap.mp k;cases hei:es[i]? with
  | none=>rw [hei] at j;cases j
  | some e=>
   rw [hei] at j;obtain rfl:e.key=v:=by simpa using j
   obtain ⟨b,f,g,x,_⟩:=hk e (m i e hei);exact ⟨b,f,g,f ▸ x⟩
 have n:(S5 es.size (λ i=>es[i]?.map (·.hash)) h).length<=es.size:=by unfold S5;exact F0 (U1 _ _) (by rw [W2];exact B0 _)
 have B:((S5 es.size (λ i=>es[i]?.map (·.hash)) h).filterMap (λ i=>es[i]?.map (·.key))).length<=es.size:=F0 (O9 _ _) n;unfold dictFind;refine Goes.holding ?_;refine (Goes.bind (d:=1 + cq + es.size * (cq + ce + 10)) (Goes.entries ho hd) ?_).le (by omega);dsimp only;rw [if_neg (show ¬ ((v1 a :: (S5 es.size (λ i=>es[i]?.map (·.hash)) h).filterMap (λ i=>es[i]?.map (·.key))).all carriedByValue)=true by simp [carriedByValue])];rw [if_neg A];have y:¬ (((S5 es.size (λ i=>es[i]?.map (·.hash)) h).filterMap (λ i=>es[i]?.map (·.key))) == [v1 a])=true:=by intro e;have e:=eq_of_beq e;obtain ⟨b,f,g,_⟩:=l (.ref a) (by rw [e];exact List.mem_singleton.mpr rfl);exact g (by injection f with f;exact f.symm)
 rw [if_neg y];refine (Goes.bind (d:=1 + es.size * (ce + 10)) (Goes.mayTell hq λ v k=>(let ⟨_,_,_,z⟩:=l v k;z)) ?_).le ?_
 ·rw [if_neg (by simp)];refine (Goes.bind (a:=(none,none)) (d:=0) (Goes.forIn (c:=ce + 10) λ i j=>?_) ?_).le ?_
  ·cases hei:es[i]? with
   | none=>exact Goes.pure.le (B2 _)
   | some e=>
    dsimp only;split
    ·obtain ⟨b,f,g,_,t⟩:=hk e (m i e hei);rw [f];refine (Goes.bind (d:=ce + 2) (Goes.epoch ho hd) (Goes.bind (d:=2) t (Goes.bind (d:=1) (Goes.epoch ho hd) ?_))).le (by omega);rw [if_neg (by simp)];rw [if_neg (by simp)];refine Goes.bind (d:=0) Goes.rule ?_;rw [if_neg (by simp)];exact Goes.pure
    ·exact Goes.pure.le (B2 _)
  ·exact Goes.pure
  ·have:=c8 (ce + 10) n;omega
 ·have:=c8 cq B;have u:es.size * (cq + ce + 10)=es.size * cq + es.size * (ce + 10):=by rw [<-Nat.mul_add,U9]
  rw [u];omega
end
end TJ
open PySem PySem.W PyProof.Rows
namespace TJ
noncomputable abbrev dObj (es:Array DictEntry) (ep:Nat):Obj:={ cls:=.type "dict",data:=.dict es ep }
noncomputable abbrev KV3:=Addr×Value×Int
noncomputable def ent (x:KV3):DictEntry:=⟨x.2.2,.ref x.1,x.2.1⟩
noncomputable def unh (a:Addr):Sem Value:=do rule "hash.unhashable";raiseError "TypeError" s!"unhashable type: '{← typeNameOf (.ref a)}'"
noncomputable def zba (d:Addr) (vs:List (Value×Value)):Sem PUnit:=X8 vs t8 λ (x:Value×Value) (_:PUnit)=>(do dictSet d x.1 x.2;N3 (Y2 t8):Sem (ForInStep PUnit))
section
variable {p:Program} {w:S0} {n₀:Nat} {ann:Option Value} {code:Code} {q:Pos} {pos:Pos} {F:Obj->Nat->SharedT} {d:Addr}
structure Fam (n₀:Nat) (d:Addr) (F:Obj->Nat->SharedT):Prop where
 le:Nat.ble n₀ d=true
 get :∀es ep tk,(F (dObj es ep) tk).abs.heap.get? d=some (dObj es ep)
 upd :∀es ep tk (e:DictEntry),({ (F (dObj es ep) tk).abs with heap:=(F (dObj es ep) tk).abs.heap.update d (O7 (·.push e)) }:C0)=(F (dObj (es.push e) (ep + 1)) tk).abs
theorem Goes.updKeys (Z:Fam n₀ d F) {es:Array DictEntry} {ep tk:Nat} {e:DictEntry} {part:Option Value} (hsz:es.size < sizeLine) :
  Goes p w n₀ ann code q 3 (updateDictKeys d (·.push e) part) (F (dObj es ep) tk).abs pos () (F (dObj (es.push e) (ep + 1)) tk).abs pos:=by
 unfold updateDictKeys;refine (Goes.bind (d:=2) (Goes.loadPart (Z.get es ep tk)) ?_);dsimp only;have u:=Goes.updatePart (p:=p) (w:=w) (ann:=ann) (code:=code) (q:=q) (pos:=pos) (part:=part) (f:=O7 (·.push e)) (Z.get es ep tk) Z.le;rw [Z.upd es ep tk e] at u;refine Goes.bind (d:=1) u ?_;unfold lookBehind;refine Goes.bind (d:=0) (Goes.loadPart (Z.get _ _ tk)) ?_;have a:(dObj (es.push e) (ep + 1)).data.pastItsLine=none:=by unfold Data.pastItsLine;dsimp only;rw [if_neg (by rw [Array.size_push];omega)]
 rw [a];exact Goes.pure
theorem Goes.set (Z:Fam n₀ d F) {a:Addr} {v:Value} {es:Array DictEntry} {ep tk k cp cq ce:Nat} {hsh:Int} (hsz:es.size < sizeLine)
  (hpy:Goes p w n₀ ann code q cp (pyHash (.ref a)) (F (dObj es ep) tk).abs pos hsh (F (dObj es ep) (tk + k)).abs pos)
  (hq:Goes p w n₀ ann code q cq (d4 8 (.ref a)) (F (dObj es ep) (tk + k)).abs pos true (F (dObj es ep) (tk + k)).abs pos)
  (hk :∀e∈es.toList,∃b,e.key=.ref b/\b≠a/\Goes p w n₀ ann code q cq (d4 8 (.ref b)) (F (dObj es ep) (tk + k)).abs pos true (F (dObj es ep) (tk + k)).abs pos/\
   Goes p w n₀ ann code q ce (eqBool (.ref b) (.ref a)) (F (dObj es ep) (tk + k)).abs pos false (F (dObj es ep) (tk + k)).abs pos) :
  Goes p w n₀ ann code q (cp + (2 + cq + es.size * (cq + ce + 10)) + 4) (dictSet d (.ref a) v) (F (dObj es ep) tk).abs pos () (F (dObj (es.push ⟨hsh,.ref a,v⟩) (ep + 1)) (tk + k)).abs pos:=by
 unfold dictSet;refine Goes.holding ?_;refine (Goes.bind (d:=(2 + cq + es.size * (cq + ce + 10)) + 4) hpy ?_).le (by omega);unfold dictSetHashed;refine Goes.holding ?_;refine Goes.bind (d:=4) (Goes.find_none (h:=hsh) (Z.get es ep (tk + k)) rfl hq hk) ?_;exact Goes.bind (d:=3) Goes.rule (Goes.updKeys Z hsz)
theorem zj1 {γ β:Type} {f:γ->β->Sem (ForInStep β)} {x:γ} {xs:List γ} {b b' b'':β} {c c':Nat} {s s' s'':C0} (h:Goes p w n₀ ann code q c (f x b) s pos (.yield b') s' pos) (k:Goes p w n₀ ann code q c' (X8 xs b' f) s' pos b'' s'' pos) :
  Goes p w n₀ ann code q (c + c') (X8 (x :: xs) b f) s pos b'' s'' pos:=by
 rw [n5];exact Goes.bind (f:=λ r=>match r with | .done b=>(T9 b:Sem β) | .yield b=>X8 xs b f) h k
theorem Goes.loop (Z:Fam n₀ d F) {cp cq ce N:Nat} (all:List KV3) (hN:all.length<=N) (hN':N < sizeLine) (hnd:(all.map (·.1)).Nodup)
  (hQ :∀x∈all,∀oD tk,Goes p w n₀ ann code q cq (d4 8 (.ref x.1)) (F oD tk).abs pos true (F oD tk).abs pos)
  (hE:all.Pairwise λ x y=>∀oD tk,Goes p w n₀ ann code q ce (eqBool (.ref x.1) (.ref y.1)) (F oD tk).abs pos false (F oD tk).abs pos)
  (hH :∀x∈all,∀oD tk,Goes p w n₀ ann code q cp (pyHash (.ref x.1)) (F oD tk).abs pos x.2.2 (F oD (tk + 3)).abs pos) :
  ∀(todo done:List KV3) (tk:Nat),all=done++todo->
   Goes p w n₀ ann code q (todo.length * (cp + (2 + cq + N * (cq + ce + 10)) + 4)) (zba d (todo.map λ x=>(v1 x.1,x.2.1)))
    (F (dObj (done.map ent).toArray done.length) tk).abs pos () (F (dObj (all.map ent).toArray all.length) (tk + 3 * todo.length)).abs pos:=by
 intro todo;induction todo with
 | nil=>intro done tk e;rw [Q2] at e;subst e;unfold zba;rw [o6,E5];exact Goes.pure.le (B2 _)
 | cons x todo ih=>
  intro done tk e;have h:x∈all:=by rw [e];exact G1 _ O1
  have c:=ih (done++[x]) (tk + 3) (by rw [e,G8];rfl);unfold zba at c⊢;rw [Y0];have g:(done.map ent).toArray.size<=N:=by rw [U0,L0];rw [e,D0] at hN;omega
  have f:=Goes.set (p:=p) (w:=w) (ann:=ann) (code:=code) (q:=q) (pos:=pos) (v:=x.2.1) (ep:=done.length) Z (Q0 g hN') (hH x h _ tk) (hQ x h _ _) (es:=(done.map ent).toArray) (ce:=ce) (by
   intro s n;obtain ⟨y,a,rfl⟩:=List.mem_map.mp n;have r:y∈all:=by rw [e];exact Z5 _ a
   have k:y.1≠x.1:=by rw [e,X0,Y0] at hnd;intro q;exact (List.nodup_append.mp hnd).2.2 y.1 (List.mem_map.mpr ⟨y,a,rfl⟩) x.1 O1 q
   rw [e] at hE;exact ⟨y.1,rfl,k,hQ y r _ _,(List.pairwise_append.mp hE).2.2 y a x O1 _ _⟩)
  have l:((done.map ent).toArray.push ⟨x.2.2,.ref x.1,x.2.1⟩)=((done++[x]).map ent).toArray:=by rw [List.push_toArray,X0];rfl
  have m:done.length + 1=(done++[x]).length:=by rw [D0];rfl
  rw [l,m] at f;have o:tk + 3 * (x :: todo).length=(tk + 3) + 3 * todo.length:=by rw [C1];omega
  rw [o];have j:Goes p w n₀ ann code q (_ + 0) (do dictSet d (v1 x.1,x.2.1).1 (v1 x.1,x.2.1).2;T9 (Y2 t8):Sem (ForInStep PUnit)) _ pos (Y2 t8) _ pos:=Goes.bind f Goes.pure;have i:=zj1 (b:=t8) (xs:=todo.map λ x=>(v1 x.1,x.2.1)) j c;refine i.le ?_;rw [C1,Nat.add_mul];have:=c8 (cq + ce + 10) g;omega
noncomputable def zar (acc:Nat):Int:=if acc == 2 ^ 64 - 1 then 1546275796 else if acc < 2 ^ 63 then acc else (acc:Int) - (2 ^ 64:Nat)
theorem z72 (acc:Nat) (h:acc < 2 ^ 64):-(2:Int) ^ 63<=zar acc/\zar acc < 2 ^ 63:=by
 unfold zar;split
 ·constructor<;>decide
 ·split
  ·constructor<;>omega
  ·constructor<;>omega
theorem z69 (hs:List Int):-(2:Int) ^ 63<=u0 hs/\u0 hs < 2 ^ 63:=
 z72 _ (Nat.mod_lt _ (by decide))
theorem Goes.pyHashT {a:Addr} {s s':C0} {hs:List Int} {tok:Tok} (h1:Goes p w n₀ ann code q 1 (cRoomFor "hash" [.ref a]) s pos () s pos)
  (h2:Goes p w n₀ ann code q 1 (specialOf (.ref a) "__hash__") s pos (some (.builtin "tuple.__hash__")) s pos)
  (h3:Goes p w n₀ ann code q 22 (v6 (.ref a) "__hash__" (unh a)) s pos (some (.int (u0 hs) tok)) s' pos) :
  Goes p w n₀ ann code q 25 (pyHash (.ref a)) s pos (F1 (u0 hs)) s' pos:=by
 have e:pyHash (.ref a)=pyHashByItsType (.ref a):=rfl;rw [e];unfold pyHashByItsType;refine Goes.bind (d:=24) h1 ?_;refine Goes.bind (d:=23) h2 ?_;rw [if_neg (by rw [beq_builtin_none];exact A1)];refine Goes.bind (d:=22) h2 ?_;show Goes p w n₀ ann code q 22 (v6 (.ref a) "__hash__" (unh a) >>= _) s pos _ s' pos;refine Goes.bind (d:=0) h3 ?_;have r:(decide (-(2:Int) ^ 63<=u0 hs) && decide (u0 hs < 2 ^ 63))=true:=by have r:=z69 hs;rw [decide_eq_true r.1,decide_eq_true r.2];rfl
 show Goes p w n₀ ann code q 0 (if (decide (-(2:Int) ^ 63<=u0 hs) && decide (u0 hs < 2 ^ 63))=true then _ else _) s' pos _ s' pos;have b:F1 (u0 hs)=(if (u0 hs == -1)=true then -2 else u0 hs):=by unfold F1;rw [if_pos r]
 rw [if_pos r,b];exact Goes.pure
theorem Goes.subDict {pairs:List (Sem Value×Sem Value)} {s s₁ s':C0} {vs:List (Value×Value)} {c c':Nat} {d:Addr} (hlen:pairs.length<=15) (hd:s.heap.objs.size=d)
  (h1:Goes p w n₀ ann code q c (evalPairs pairs) { s with heap:=s.heap.push { cls:=.type "dict",data:=.dict #[] } } pos vs s₁ pos)
  (h2:Goes p w n₀ ann code q c' (zba d vs) s₁ pos () s' pos):Goes p w n₀ ann code q (1 + (c + c')) (subDict pairs) s pos d s' pos:=by
 subst hd;unfold PySem.subDict;refine Goes.bind (a:=s.heap.objs.size) (λ _ _ _ _=>.one rfl rfl rfl) ?_;refine (Goes.bind (d:=0) (a:=()) (Goes.holding ?_) Goes.pure);rw [if_pos hlen];refine Goes.bind h1 ?_;exact Goes.holding (Goes.bind (d:=0) h2 Goes.pure)
theorem Goes.execs1 {st:Stmt} {env:Env} {s s':C0} {pos':Pos} {c:Nat} (h:Goes p w n₀ ann code q c (exec st env) s pos .next s' pos'):Goes p w n₀ ann code q c (execs [st] env) s pos .next s' pos':=by rw [execs_cons];exact Goes.bind (d:=0) h Goes.pure
theorem Goes.seg {l:List Stmt} {env:Env} {s s':C0} {pos':Pos} {c:Nat} (h:Goes p w n₀ ann code q c (execs l env) s pos .next s' pos') :∃n,n<=c + 1/\segRun A3 p w n₀ ann 1 n s (piecesOf l env code pos [topFrame q])=some (.next,s',code,pos'):=by obtain ⟨n,a,h⟩:=h doneF deadEnd id id;exact ⟨n + 1,by omega,seg_go h rfl⟩
end
theorem zhy {p q:Program} {loose:List Str} {Xt:C0->Bool} {α:Type} {Yf:C0->α} {Ya:S0->α} {N:Nat} {H₀:M0->Heap} {gs₀:Array GenState} {d₀:Drawn} {k₀ m₀:Nat} {ann:Option Value} {S:S0->U2->C0}
  (opens :∀w:S0,(fencedOpening A3 p w N).map (λ s=>(s.heap,s.gens,s.drawn,s.toks))=some (H₀ w.params,gs₀,d₀,k₀))
  (sizes :∀w:S0,(((H₀ w.params).isNs y3 && gs₀.size == 0),(H₀ w.params).objs.size,(H₀ w.params).nsMap y3 "__annotations__")=(true,m₀,ann))
  (runs :∀(w:S0) (os:U2),∃M,M<=N/\topRun A3 p w m₀ ann M ⟨H₀ w.params,gs₀,d₀,k₀,os⟩ (topStub p)=some (S w os))
  (looks1 :∀(w:S0) (os:U2),(staticsOk (B6 p.main.body) (H₀ w.params) (S w os).heap && namesBound p (S w os).heap && gensDone (S w os) && laidKept (H₀ w.params) (S w os).heap)=true)
  (looks2 :∀(w:S0) (os:U2),openSeen q loose (B6 p.main.body) Xt true (S w os)=openGood q loose) (looks3 :∀(w:S0) (os:U2),Yf (S w os)=Ya w):LeftO p q loose Xt Yf Ya N:=by
 intro w;obtain ⟨⟨h,i,g,k,os⟩,e,a⟩:=Option.map_eq_some_iff.mp (opens w);simp only [Prod.mk.injEq] at a;obtain ⟨rfl,rfl,rfl,rfl⟩:=a;have z:=sizes w;simp only [Prod.mk.injEq] at z;obtain ⟨d,f,b⟩:=z;obtain ⟨M,c,r⟩:=runs w os;have r:=topRun_mono (N - M) _ _ _ _ r;rw [Nat.add_sub_cancel' c] at r;have t:topFrom A3 p w N ⟨H₀ w.params,i,g,k,os⟩=some (S w os):=by unfold topFrom;dsimp only;rw [d,f,b,r];show (match (staticsOk (B6 p.main.body) (H₀ w.params) (S w os).heap && namesBound p (S w os).heap && gensDone (S w os) && laidKept (H₀ w.params) (S w os).heap) with|true=>some (S w os)|false=>none)=_;rw [looks1 w os]
 unfold openEnds;rw [e];show (topFrom A3 p w N _).map _=_;rw [t];show some (_,_)=some (_,_);rw [looks2 w os,looks3 w os]
theorem zdu {p:Program} {w:S0} {n₀:Nat} {ann:Option Value} {env:Env} {q:Pos} {c N:Nat} {s s' r:C0} {l rest:List Stmt} {b:Code} {pos pos':Pos} (h:Goes p w n₀ ann b q c (execs l env) s pos .next s' pos')
  (k:topRun A3 p w n₀ ann N s' (restOf rest env b pos' [topFrame q])=some r) :∃M,M<=c + 1 + N/\topRun A3 p w n₀ ann M s (restOf (l++rest) env b pos [topFrame q])=some r:=by
 obtain ⟨n,a,g⟩:=Goes.seg h;exact ⟨n + N,by omega,piece_app g k⟩
end TJ
open PySem PySem.Spec PyProof.Rows
namespace L2
noncomputable abbrev fnX (x q:Str) (s:Stmt) (m:Str) (k c:Nat):FuncData:=v5 x q (z8z s) (z59 s) (z06 s) .none .none .none (.str m k) none (.ref c) .none
noncomputable abbrev fY (x q:Str) (s:Stmt):=fnX x q s "law_talejudge_k24_whole_read_by_read" 789
noncomputable abbrev fO (x q:Str) (s:Stmt) (m:Str) (k c:Nat):Obj:=⟨.type "function",none,.func (fnX x q s m k c),#[]⟩
noncomputable abbrev fL (x q:Str) (s:Stmt):=fO x q s "law_talejudge_k24_whole_read_by_read" 789
noncomputable abbrev cO (x q:Str) (i l n a j:Nat):Obj:=
 ⟨.type "code",none,.fields #[.str x i,.str q (i + 1),.str "/claim/cut.py" (i + 2),.int l 0,.int n 0,.int 0 0,.int 0 0,.int 3 0,.ref a,.bool true,.int 181 0,.ref (a + 1),.none,.ref (a + 2),.ref (a + 3),.ref (a + 4),.int j 0,.int l 0,.str "/claim/cut.py" (j + 1)],#[]⟩
noncomputable abbrev cP (x q:Str) (i l n a j:Nat):Obj:=
 ⟨.type "code",none,.fields #[.str x i,.str q (i + 1),.str "/claim/cut.py" (i + 2),.int l 0,.int n 0,.int 0 0,.int 0 0,.int 3 0,.ref a,.bool true,.int 181 0,.ref (a + 1),.none,.none,.none,.ref (a + 2),.int j 0,.int l 0,.str "/claim/cut.py" (j + 1)],#[]⟩
noncomputable abbrev kR (P:M0) (x:Str) (i a:Nat):DictEntry:=⟨j0 P x,.str x i,.ref a⟩
section
variable {P:Program} {w:S0} {K:d0} {mg:Str->Option Value} {base:Heap} {x q:Str} {st:Stmt} {f:Addr} {fd:FuncData} {k:Nat} {ps:List Str} {sp:Sp}
theorem z0b {m:Str} {i c:Nat} (l:K.lookup f=some (fO x q st m i c):=by kernel_rfl) (hc:F7 K (.ref c) q=true:=by kernel_rfl) (hk:B3 K (.ref f)=true:=by kernel_rfl):Fun K x q st f (fnX x q st m i c):=fun_mk l hc hk
theorem cal_mk (T:TX K mg) (F:Fun K x q st f fd) (g:d6 K y3 x=some (some (.ref f))) (b:Binds K fd ps []) (G:FnOk P w K mg base CX0 k f fd ps sp):Cal P w K mg base x ps k sp:=⟨⟨f,fd,G,T.of g,F.kp,b⟩⟩
end
section
variable {p:List Value->Prop}
theorem us1 (h :∀a,p [a]) :∀us:List Value,us.length=1->p us | [a],_=>h a
theorem us2 (h :∀a b,p [a,b]) :∀us:List Value,us.length=2->p us | [a,b],_=>h a b
theorem us3 (h :∀a b c,p [a,b,c]) :∀us:List Value,us.length=3->p us | [a,b,c],_=>h a b c
theorem us4 (h :∀a b c d,p [a,b,c,d]) :∀us:List Value,us.length=4->p us | [a,b,c,d],_=>h a b c d
theorem us6 (h :∀a b c d e f,p [a,b,c,d,e,f]) :∀us:List Value,us.length=6->p us | [a,b,c,d,e,f],_=>h a b c d e f
end
end L2
set_option maxHeartbeats 1000000
namespace L2
open PySem PySem.Spec PyProof.Rows
section
variable {X:Cx}
noncomputable def rEqL0 (K:d0):R2:=λ x y H Q=>∃a b xs,x=.ref a/\y=.ref b/\SqL K H a xs/\SqL K H b []/\Q (.bl (decide (xs=[]))) H
theorem zj6 {k:Nat} (hr:Room k X.A):OpR X (K2 .Eq) (rEqL0 X.K):=by
 intro C s σ H x y v u Q I i p h;obtain ⟨a,b,n,rfl,rfl,o,m,q⟩:=h;cases i;cases p;obtain ⟨D,c,f,_⟩:=I.list o;obtain ⟨B,t,g,_⟩:=I.list m;cases t;have d:X.A.units < cLine:=Nat.lt_of_succ_lt (hu_of hr);have l:=c.length;cases n with
 | nil=>cases c;exact SeqAt.RcAt.lists (e:=λ _=>true) f.isList g.isList rfl d (λ j r _=>absurd r (T2 _)) X.prog X.w _ _ ⟨.bl _,H,I,rfl,q⟩
 | cons z zs=>refine SeqAt.RcAt.lists_lengths f.isList g.isList ?_ d X.prog X.w _ _ ⟨.bl _,H,I,rfl,q⟩;rw [U0,<-l];rfl
end
mutual
noncomputable def keyD:PyData->Bool
 | .int _=>true
 | .str _=>false
 | .tuple xs=>keyDs xs
 | .none=>false
 | .bool _=>false
 | .list _=>false
 | .dict _=>false
noncomputable def keyDs:List PyData->Bool
 | []=>true
 | x :: xs=>keyD x && keyDs xs
end
mutual
noncomputable def hashD:PyData->Int
 | .int i=>hashInt i
 | .str _=>0
 | .tuple xs=>F1 (u0 (hashDs xs))
 | .none=>0
 | .bool _=>0
 | .list _=>0
 | .dict _=>0
noncomputable def hashDs:List PyData->List Int
 | []=>[]
 | x :: xs=>hashD x :: hashDs xs
end
mutual
noncomputable def drawD:PyData->Nat
 | .tuple xs=>drawDs xs + 1
 | .int _=>1
 | .str _=>1
 | .none=>1
 | .bool _=>1
 | .list _=>1
 | .dict _=>1
noncomputable def drawDs:List PyData->Nat
 | []=>0
 | x :: xs=>drawD x + drawDs xs
end
mutual
theorem zd8 {h h':Heap} (k :∀b o vs n,h.get? b=some o->o.cls=.type "tuple"->o.data=.seq vs n->h'.get? b=some o) :∀(d:PyData) (v:Value) (as:List Addr),keyD d=true->Reads h v d as->Reads h' v d as
 | .int i,v,as,_,r=>by cases r;exact .int _ _
 | .str _,_,_,hk,_=>by cases hk
 | .tuple xs,v,as,hk,r=>by
  cases r with
  | tuple e c d r=>exact .tuple (k _ _ _ _ e c d) c d (zc1 k xs _ _ hk r)
 | .none,_,_,hk,_=>by cases hk
 | .bool _,_,_,hk,_=>by cases hk
 | .list _,_,_,hk,_=>by cases hk
 | .dict _,_,_,hk,_=>by cases hk
theorem zc1 {h h':Heap} (k :∀b o vs n,h.get? b=some o->o.cls=.type "tuple"->o.data=.seq vs n->h'.get? b=some o) :∀(ds:List PyData) (vs:List Value) (as:List Addr),keyDs ds=true->j06 h vs ds as->j06 h' vs ds as
 | [],_,_,_,r=>by cases r;exact .nil
 | d :: ds,_,_,c,r=>by
  have c:=Bool.and_eq_true_iff.mp (show (keyD d && keyDs ds)=true from c);cases r with
  | cons a r=>exact .cons (zd8 k d _ _ c.1 a) (zc1 k ds _ _ c.2 r)
end
mutual
theorem z86 :∀d:PyData,keyD d=true->plainP d=true
 | .int _,_=>rfl
 | .str _,hk=>by cases hk
 | .tuple xs,h=>z8q xs h
 | .none,hk=>by cases hk
 | .bool _,hk=>by cases hk
 | .list _,hk=>by cases hk
 | .dict _,hk=>by cases hk
theorem z8q :∀ds:List PyData,keyDs ds=true->z1k ds=true
 | [],_=>rfl
 | d :: ds,a=>by have a:=Bool.and_eq_true_iff.mp (show (keyD d && keyDs ds)=true from a);show (plainP d && z1k ds)=true;rw [z86 d a.1,z8q ds a.2];rfl
end
mutual
theorem zbe :∀d:PyData,keyD d=true->d.canLay0=true
 | .int _,_=>rfl
 | .str _,hk=>by cases hk
 | .tuple xs,h=>zdv xs h
 | .none,hk=>by cases hk
 | .bool _,hk=>by cases hk
 | .list _,hk=>by cases hk
 | .dict _,hk=>by cases hk
theorem zdv :∀ds:List PyData,keyDs ds=true->E6 ds=true
 | [],_=>rfl
 | d :: ds,a=>by have a:=Bool.and_eq_true_iff.mp (show (keyD d && keyDs ds)=true from a);show (d.canLay0 && E6 ds)=true;rw [zbe d a.1,zdv ds a.2];rfl
end
section
variable {prog:Program} {w:S0} {E:Value->C0->Prop}
mutual
theorem zdl :∀(d:PyData) (v:Value) (as:List Addr) (A:A2) (s:C0) (Q:Int->C0->Prop),keyD d=true->Reads s.heap v d as->A.units + d.depth < cLine->Q (hashD d) { s with toks:=s.toks + drawD d }->W0 (D1 prog w) A (pyHash v) Q E s
 | .int i,v,as,A,s,Q,_,r,_,q=>by cases r;exact wpAny_pyHash_int q
 | .str _,_,_,_,_,_,hk,_,_,_=>by cases hk
 | .tuple xs,v,as,A,s,Q,hk,r,b,q=>by
  cases r with
  | @tuple a o vs n _ _ e c d r=>
   have b:A.units + (E3 xs + 1) < cLine:=b;have ty:s.TypeIs (.ref a) "tuple":=⟨o,e,c⟩
   refine W.pyHash_slot (v:=.ref a) ty F.slot_tuple_hash F.entry_tuple_hash (F.args_tuple_hash_1 _) rfl (.inr (by lia)) ?_;refine v0 (K0 ?_);refine v0 (O8 e d ?_);refine v0 ?_;rw [<-Array.forIn_toList];refine z97 xs vs.toList _ #[] A.in1 s _ hk r (show A.units + 1 + E3 xs < cLine by lia) ?_;refine v0 (wpAny_mkInt (K0 ⟨_,_,rfl,?_⟩));simpa [hashD,drawD,U9] using q
 | .none,_,_,_,_,_,hk,_,_,_=>by cases hk
 | .bool _,_,_,_,_,_,hk,_,_,_=>by cases hk
 | .list _,_,_,_,_,_,hk,_,_,_=>by cases hk
 | .dict _,_,_,_,_,_,hk,_,_,_=>by cases hk
theorem z97 :∀(ds:List PyData) (vs:List Value) (as:List Addr) (hs:Array Int) (A:A2) (s:C0) (Q:Array Int->C0->Prop),keyDs ds=true->j06 s.heap vs ds as->A.units + E3 ds < cLine->Q (hs++(hashDs ds).toArray) { s with toks:=s.toks + drawDs ds }->
  W0 (D1 prog w) A (X8 vs hs λ x hs=>do let h <-pyHash x;N3 (Y2 (hs.push h))) Q E s
 | [],_,_,hs,A,s,Q,_,r,_,q=>by cases r;rw [E5];exact K0 (by simpa [hashDs,drawDs] using q)
 | d :: ds,_,_,hs,A,s,Q,b,r,c,q=>by
  have b:=Bool.and_eq_true_iff.mp (show (keyD d && keyDs ds)=true from b);have c:A.units + max d.depth (E3 ds) < cLine:=c;cases r with
  | @cons v vs _ _ as bs a r=>rw [n5];refine v0 (v0 (zdl d v as A s _ b.1 a (by lia) (K0 ?_)));refine z97 ds vs bs (hs.push (hashD d)) A { s with toks:=s.toks + drawD d } Q b.2 r (by lia) ?_;simpa [hashDs,drawDs,U9] using q
end
theorem zex {a:Addr} {n:Nat} {o:Obj} {vs:Array Value} {m:Nat} {A:A2} {s:C0} {Q:Bool->C0->Prop} (e:s.heap.get? a=some o) (c:o.cls=.type "tuple") (d:o.data=.seq vs m)
  (h:W0 (D1 prog w) A (X8 vs.toList ((none:Option Bool),()) λ y _=>do
    let b <-d4 n y
    if (!b)=true then N3 (ForInStep.done (some false,())) else N3 (Y2 (none,())))
   (λ r s'=>r.1=none/\Q true s') E s):W0 (D1 prog w) A (d4 (n + 1) (.ref a)) Q E s:=by
 rw [eqIsQuiet.eq_2];have ty:s.TypeIs (.ref a) "tuple":=⟨o,e,c⟩
 refine v0 (wpAny_specialOf (r:=some (.builtin "tuple.__eq__")) ty (by rfl) ?_);refine v0 (wpAny_isInstance (T:="tuple") ty isSubtype_tuple_tuple ?_);simp only [X5,S3,if_false];refine v0 (P5 e d (v0 ?_));show W0 _ _ (X8 vs _ _) _ _ _;rw [<-Array.forIn_toList];refine L3 h (λ r s' h=>?_) (λ _ _ h=>h);obtain ⟨g,j⟩:=r;obtain ⟨i,f⟩:=h;cases (show g=none from i);exact K0 f
mutual
theorem zbj :∀(d:PyData) (v:Value) (as:List Addr) (n:Nat) (A:A2) (s:C0) (Q:Bool->C0->Prop),keyD d=true->Reads s.heap v d as->d.depth<=n->Q true s->W0 (D1 prog w) A (d4 n v) Q E s
 | .int i,v,as,n,A,s,Q,_,r,_,q=>by cases r;rw [eqIsQuiet.eq_3];exact K0 q;intro a h;cases h
 | .str _,_,_,_,_,_,_,hk,_,_,_=>by cases hk
 | .tuple xs,v,as,n,A,s,Q,hk,r,b,q=>by
  cases r with
  | @tuple a o vs m _ _ e c d r=>
   have b:E3 xs + 1<=n:=b;obtain ⟨n,rfl⟩ :∃k,n=k + 1:=⟨n - 1,by lia⟩
   exact zex e c d (z93 xs vs.toList _ n A s _ hk r (by lia) ⟨rfl,q⟩)
 | .none,_,_,_,_,_,_,hk,_,_,_=>by cases hk
 | .bool _,_,_,_,_,_,_,hk,_,_,_=>by cases hk
 | .list _,_,_,_,_,_,_,hk,_,_,_=>by cases hk
 | .dict _,_,_,_,_,_,_,hk,_,_,_=>by cases hk
theorem z93 :∀(ds:List PyData) (vs:List Value) (as:List Addr) (n:Nat) (A:A2) (s:C0) (Q:Option Bool×Unit->C0->Prop),keyDs ds=true->j06 s.heap vs ds as->E3 ds<=n->Q (none,()) s->
  W0 (D1 prog w) A (X8 vs ((none:Option Bool),()) λ y _=>do
    let b <-d4 n y
    if (!b)=true then N3 (ForInStep.done (some false,())) else N3 (Y2 (none,()))) Q E s
 | [],_,_,n,A,s,Q,_,r,_,q=>by cases r;rw [E5];exact K0 q
 | d :: ds,_,_,n,A,s,Q,c,r,e,q=>by
  have c:=Bool.and_eq_true_iff.mp (show (keyD d && keyDs ds)=true from c);have e:max d.depth (E3 ds)<=n:=e;cases r with
  | @cons v vs _ _ as bs a r=>rw [n5];refine v0 (v0 (zbj d v as n A s _ c.1 a (by lia) ?_));exact K0 (z93 ds vs bs n A s Q c.2 r (by lia) q)
end
end
open Classical in
noncomputable instance:DecidableEq PyData:=λ a b=>Classical.propDecidable (a=b)
noncomputable def z7n (prog:Program) (w:S0):HeapKind prog w PyData where
 is h d a:=keyD d=true/\d.depth<=7/\∃as,Reads h (.ref a) d as
 hash:=hashD
 draws:=drawD
 room A:=A.units + 8 < cLine
 inj:=λ {h a x y} hx hy=>by obtain ⟨kx,_,as,rx⟩:=hx;obtain ⟨_,_,bs,ry⟩:=hy;exact SeqAt.Reads.unique x y _ as bs (zbe x kx) rx ry
 keeps:=λ {h h' k a d o es ep} hk e hd sb=>by
  obtain ⟨k1,k2,as,r⟩:=hk;refine ⟨k1,k2,as,zd8 (λ b o' vs n eb _ eo=>?_) k _ as k1 r⟩;have nb:b≠d:=λ z=>by rw [z,e] at eb;cases eb;rw [hd] at eo;cases eo
  rw [sb.2 b nb];exact eb
 pyHash:=λ {A E s k a Q} hr hk q=>by obtain ⟨k1,k2,as,r⟩:=hk;exact zdl k _ as A s Q k1 r (by lia) q
 eqBool:=λ {A E s x y a b Q} hr hx hy q=>by obtain ⟨x1,x2,as,rx⟩:=hx;obtain ⟨y1,y2,bs,ry⟩:=hy;refine SeqAt.eqAt_reads x y A s _ _ as bs rx ry (zbe x x1) (zbe y y1) (by have:=Nat.min_le_left x.depth y.depth;lia) prog w E Q ?_;rw [zit (p:=x=y) (z86 x x1) (z86 y y1) Iff.rfl];exact q
 quiet:=λ {A E s k a Q} hk q=>by obtain ⟨k1,k2,as,r⟩:=hk;exact zbj k _ as 8 A s Q k1 r (by lia) q
section
variable {prog:Program} {w:S0} {A:A2} {E:Value->C0->Prop} {s:C0}
def DcAt (h:Heap) (d:Addr) (es:Array DictEntry) (ep:Nat):Prop:=∃o,h.get? d=some o/\o.ExactDict/\o.data=.dict es ep
end
mutual
noncomputable def ltD:PyData->PyData->Option Bool
 | .int i,e=>match e with
  | .int j=>some (decide (i < j))
  | _=>none
 | .tuple xs,e=>match e with
  | .tuple ys=>ltDs xs ys
  | _=>none
 | .none,_=>none
 | .bool _,_=>none
 | .str _,_=>none
 | .list _,_=>none
 | .dict _,_=>none
noncomputable def ltDs:List PyData->List PyData->Option Bool
 | [],ys=>some (decide (0 < ys.length))
 | x :: xs,ys=>match ys with
  | []=>some false
  | y :: ys=>if x=y then ltDs xs ys else ltD x y
end
noncomputable def nsE (k:PyData×Addr):DictEntry:={ hash:=hashD k.1,key:=.ref k.2,val:=.bool true }
noncomputable def NsO (a:Addr) (ks:List (PyData×Addr)):HO:=.ext λ h=>(a == M3)=false/\ks.length<=sizeLine/\(ks.map (·.1)).Nodup/\∃ep,DcAt h a (ks.map nsE).toArray ep
def NsAt (K:d0) (H:Hp) (a:Addr) (ks:List (PyData×Addr)):Prop:=Rd H a (NsO a ks)/\∀k∈ks,keyD k.1=true/\k.1.depth<=7/\IsPd K H k.1 (.ref k.2)
noncomputable def putN (ks:List (PyData×Addr)) (d:PyData) (b:Addr):List (PyData×Addr):=if d∈ks.map (·.1) then ks else ks++[(d,b)]
section
variable {X:Cx} {pins:List (Addr×Obj)} {σ:St} {H:Hp} {s:C0} {a b:Addr} {ks:List (PyData×Addr)} {d:PyData} {A:A2} {E:Value->C0->Prop}
theorem ns_is (I:Inv X pins σ H s) (hk:keyD d=true) (hd:d.depth<=7) (h:IsPd X.K H d (.ref b)):(z7n X.prog X.w).is s.heap d b:=by obtain ⟨a,r⟩:=z3d I d (.ref b) (.ref b) h rfl;exact ⟨hk,hd,a,r⟩
theorem zh1 (I:Inv X pins σ H s) (h:NsAt X.K H a ks):(a == M3)=false/\ks.length<=sizeLine/\(ks.map (·.1)).Nodup/\(∃ep,DcAt s.heap a (ks.map nsE).toArray ep)/\s.heap.DictOfH (z7n X.prog X.w) a (ks.map λ k=>(k.1,k.2,p4 true)):=by
 obtain ⟨m,d⟩:=h;obtain ⟨⟨l,g,c,ep,b⟩,_⟩:=(show ObjOk X.prog X.w H s.heap a (NsO a ks) from m.ok I.hok)
 refine ⟨l,g,c,⟨ep,b⟩,?_⟩;obtain ⟨o,e,j,n⟩:=b;refine ⟨o,_,ep,e,j,n,?_,λ x q=>?_,?_⟩
 ·rw [V2];rfl
 ·obtain ⟨k,f,rfl⟩:=List.mem_map.mp q;obtain ⟨i,r,p⟩:=d k f;exact ns_is I i r p
 ·rw [V2];exact c
theorem at_ns:(T7 (ks.map λ k=>(k.1,k.2,p4 true)) d).isSome=decide (d∈ks.map (·.1)):=by
 unfold T7;rw [F6,Bool.eq_iff_iff,List.find?_isSome,decide_eq_true_iff];constructor
 ·rintro ⟨x,hx,e⟩;obtain ⟨k,a,rfl⟩:=List.mem_map.mp hx;exact List.mem_map.mpr ⟨k,a,of_decide_eq_true e⟩
 ·intro h;obtain ⟨k,a,e⟩:=List.mem_map.mp h;exact ⟨_,List.mem_map.mpr ⟨k,a,rfl⟩,decide_eq_true e⟩
theorem zfs:storedH (ks.map λ k=>(k.1,k.2,p4 true)) d b (.bool true)=(putN ks d b).map λ k=>(k.1,k.2,p4 true):=by
 unfold storedH putN;rw [at_ns];by_cases z:d∈ks.map (·.1)
 ·rw [if_pos (decide_eq_true z),if_pos z,V2];refine k8 λ k a=>?_;show putAt d (.bool true) (k.1,k.2,p4 true)=_;unfold putAt;split<;>rfl
 ·rw [if_neg (by rw [decide_eq_false z];decide),if_neg z,X0];rfl
theorem zhb:(putN ks d b).length<=ks.length + 1:=by
 unfold putN;split
 ·lia
 ·rw [D0];exact B0 _
theorem ns_put {Q:Unit->C0->Prop} (hu:A.units + 9 < cLine) (I:Inv X pins σ H s) (ha:H a=some (NsO a ks)) (h:NsAt X.K H a ks) (hl:ks.length < sizeLine) (hk:keyD d=true) (hd:d.depth<=7) (hb:IsPd X.K H d (.ref b)) (q :∀s',Inv X pins σ (upd H a (NsO a (putN ks d b))) s'->Q () s'):W0 (D1 X.prog X.w) A (setItem (.ref a) (.ref b) (.bool true)) Q E s:=by
 obtain ⟨v,B,J,_,z⟩:=zh1 I h;refine wpAny_setItem_heap (knd:=z7n X.prog X.w) (hsz:=by rw [L0];exact B) (show A.units + 1 + 8 < cLine by lia) (ns_is I hk hd hb) z λ M g n=>q _ ?_;rw [zfs] at g;obtain ⟨o,F,t,c,l,x,y,_,f⟩:=g;have u:F=((putN ks d b).map nsE).toArray:=by apply Array.ext';rw [y,V2];rfl
 subst u;refine z8u I (by rw [ha];exact True.intro) n ⟨o,c⟩ ⟨⟨v,by have:=zhb (ks:=ks) (d:=d) (b:=b);lia,?_,t,o,c,l,x⟩,⟨o,c⟩,λ L G p k=>?_⟩
 ·rw [V2] at f;exact f
 ·obtain ⟨j,m,C,D,e,r,i⟩:=p;exact ⟨j,m,C,D,e,k e r,i⟩
end
noncomputable def tDNewN:TE:=λ _ H Q=>∀p,H p=none->Q (.ref p) (upd H p (NsO p []))
noncomputable def rInN (K:d0) (neg:Bool):R2:=λ y x H Q=>∃a b ks d,x=.ref a/\y=.ref b/\NsAt K H a ks/\keyD d=true/\d.depth<=7/\IsPd K H d (.ref b)/\Q (.bl (xor neg (decide (d∈ks.map (·.1))))) H
noncomputable def sNPut (K:d0) (td ty tv:TE):TS:=λ D σ H=>tv σ H λ v H1=>td σ H1 λ x H2=>ty σ H2 λ y H3=>∃a b ks d,v=.bl true/\x=.ref a/\y=.ref b/\H3 a=some (NsO a ks)/\NsAt K H3 a ks/\ks.length < sizeLine/\keyD d=true/\d.depth<=7/\IsPd K H3 d (.ref b)/\D.nx σ (upd H3 a (NsO a (putN ks d b)))
section
variable {X:Cx}
theorem zia {P:Program} {w:S0} {H:Hp} (h:Heap) (hb:M3 < h.objs.size):ObjOk P w H (h.push { cls:=.type "dict",data:=.dict #[] }) h.objs.size (NsO h.objs.size []):=by refine ⟨⟨beq_eq_false_iff_ne.mpr (c4 (B1 hb)),B2 _,w9,0,_,Z0 _ rfl,⟨rfl,rfl,rfl⟩,rfl⟩,⟨_,Z0 _ rfl⟩,λ i j p k=>?_⟩;obtain ⟨c,g,d,e,a,f,b⟩:=p;exact ⟨c,g,d,e,a,k a f,b⟩
theorem zi2 {pos:Pos}:PE X (.Dict [] [] pos) tDNewN:=λ b s σ H Q I h=>wpAny_Dict_empty ⟨.ref s.heap.objs.size,_,I.laid (a:=s.heap.objs.size) (o:=NsO s.heap.objs.size []) (t':=s.toks) (λ _ _ q=>G0 _ q) (B0 _) (zia s.heap I.big),rfl,h _ (I.hok.fresh (B0 _))⟩
theorem zfj {k:Nat} (hr:Room k X.A):OpR X (K2 .NotIn) (rInN X.K true):=by intro p s σ H y x u v Q I g c h;obtain ⟨a,b,n,d,rfl,rfl,j,e,m,f,q⟩:=h;cases g;cases c;have o:=hr.units;obtain ⟨i,t,r,_,l⟩:=zh1 I j;refine wpAny_notIn_heap (knd:=z7n X.prog X.w) (show X.A.units + 1 + 8 < cLine by lia) (ns_is I e m f) i l ?_;rw [at_ns];rw [Bool.true_xor] at q;exact ⟨.bl _,H,I.tok _,rfl,q⟩
theorem zir {o i value:Expr} {pos pos':Pos} {td ty tv:TE} {k:Nat} (hr:Room k X.A) (ho:PE X o td) (hi:PE X i ty) (hv:PE X value tv) (hs:R6 value (some (.Subscript o i pos')) pos.line X.env=N3 false) :
  PS X (.Assign [.Subscript o i pos'] value pos) (sNPut X.K td ty tv):=by
 intro c s σ H D I h;refine wpAny_Assign_Subscript (thn (hv c s σ H _ I h) λ r j ⟨v,H1,I1,rv,q1⟩=>thn (ho c j σ H1 _ I1 q1) λ u e ⟨x,H2,I2,rx,q2⟩=>thn (hi c e σ H2 _ I2 q2) λ f l ⟨y,H3,I3,ry,a,b,ks,d,ev,ex,ey,h0,h1,h2,h3,h4,h5,q3⟩=>?_) hs;subst ev ex ey;obtain rfl:u=v1 a:=rx;obtain rfl:f=v1 b:=ry;obtain rfl:r=p4 true:=rv;have m:=hr.units;exact ns_put (by lia) I3 h0 h1 h2 h3 h4 h5 λ n g=>⟨σ,_,g,q3⟩
end
noncomputable def ItRv (a:Addr) (n:Nat):It:=
 ⟨λ i H=>i < n/\∃xs,H a=some (.lst xs)/\xs.length=n,λ i H x H'=>H'=H/\∀xs,H a=some (.lst xs)->xs[n - 1 - i]? = some x,λ i H=>i=n⟩
theorem zi8 {P:Program} {w:S0} {K:d0} {tg:Expr} (a it:Addr) (n:Nat):Turn P w K tg (ItRv a n) [it] it (λ i h=>h.IsRevIter it a ((n:Int) - 1 - (i:Nat))) where
 mem:=by simp
 obj:=λ i h f b g=>by
  obtain rfl:b=it:=by simpa using g
  obtain ⟨o,e,c,d⟩:=f;exact ⟨o,e,λ v z=>by rw [d] at z;cases z⟩
 keep:=λ i h m f k=>by obtain ⟨o,e,r⟩:=f;exact ⟨o,k it (by simp) o e,r⟩
 item:=by
  intro X A B q G i L s σ H E I j f l;subst A B q;obtain ⟨hi,M,N,Y⟩:=l;obtain ⟨Z,J,p,hz⟩:=I.list (SqL.of N);obtain ⟨C,y,S,x,F,t⟩:=j it (by simp);have W:=J.length;have lt:n - 1 - i < M.length:=by lia
  obtain ⟨u,T,U⟩:=J.get (N0 lt);rw [show (n:Int) - 1 - (i:Nat)=((n - 1 - i:Nat):Int) by lia] at f;refine wpAny_pyNext_rev_item f p.isList (by simpa using T) λ m D R=>?_;have Q:Inv X L σ H { s with heap:=m }:=I.turned (t':=s.toks) (λ b o g e=>(R.2 b g).trans e) C y x F t;obtain ⟨o,e,c,d⟩:=id D;rw [show ((n - 1 - i:Nat):Int) - 1=(n:Int) - 1 - ((i + 1:Nat):Int) by lia] at D;refine ⟨_,rfl,go_of (s:={ s with heap:=m }) e c d (by decide) ⟨M[n - 1 - i],H,Q,U,⟨rfl,λ V O=>?_⟩,D,λ b g=>(j b g).1⟩⟩;rw [N] at O;cases O;exact N0 lt
 done:=by intro X A B q G i L s σ H E I j f l;subst A B q;obtain ⟨C,y,S,x,F,t⟩:=j it (by simp);have l:i=n:=l;rw [show (n:Int) - 1 - (i:Nat)=-1 by lia] at f;exact wpAny_pyNext_rev_end (I.ok.hd G) f λ m eb=>⟨rfl,I.turned (t':=s.toks) (λ b o g e=>eb b o g e) C y x F t⟩
 self:=λ _ _ _ _ _ f h=>wpAny_pyIter_revIter f h
noncomputable def iRevL (tl:TE):TI:=λ σ H R=>tl σ H λ x H1=>∃a xs,x=.ref a/\H1 a=some (.lst xs)/\R (ItRv a xs.length) H1
theorem ziy {X:Cx} {tg e:Expr} {te:TE} {p2 c2:Pos} (g2:Gl X "reversed") (m2:X.mg "reversed" = none) (ha:PE X e te) (he:L1 [e] X.env=[(false,v3 e X.env)]:=by rfl):PI X tg (.Call (.Name "reversed" p2) [e] [] c2) (iRevL te):=by
 intro j s σ H R I h;refine Call_ (ld_blt I g2 m2 boot_reversed (P2 ?_ he rfl));rw [he];refine (show W0 _ _ (spliced ((false,v3 e X.env) :: [])) _ _ s from v4 (thn (ha j s σ H _ I h) λ u c ⟨x,H1,I1,r1,a,xs,ex,sq,q⟩=>?_));subst ex;cases r1;refine K4 ?_;obtain ⟨d,l,i,m⟩:=I1.list (SqL.of sq);have g:=l.length;refine call_reversed_list i.isList ?_;have f:(c.heap.push (revObj a ((d.toArray.size:Int) - 1))).IsRevIter c.heap.objs.size a ((d.toArray.size:Int) - 1):=⟨_,Z0 _ rfl,rfl,rfl⟩
 refine wpAny_pyIter_revIter f ?_;refine ⟨c.heap.objs.size,[c.heap.objs.size],_,_,H1,rfl,I1.kept (t':=c.toks) λ b o e=>G0 _ e,zi8 a _ _,?_,λ b k=>?_,q⟩
 ·rw [show (xs.length:Int) - 1 - ((0:Nat):Int)=(d.toArray.size:Int) - 1 by rw [U0,<-g];lia];exact f
 obtain rfl:b=c.heap.objs.size:=by simpa using k
 exact I1.fpOk (B0 _) (I1.hok.fresh (B0 _))
theorem zja {a:Addr} {xs:List V} {g:TG} {tb:TS} {D:Ends} {σ:St} {H:Hp} (Pv:Nat->St->Hp->Prop) (h0:Pv 0 σ H) (hl :∀i σ H,Pv i σ H->H a=some (.lst xs))
  (hs :∀i x σ H,xs.reverse[i]? = some x->Pv i σ H->g x σ H λ σ2 H2=>tb { D with nx:=Pv (i + 1),ct:=Pv (i + 1),bk:=D.nx } σ2 H2) (hd :∀σ H,Pv xs.length σ H->D.nx σ H) :
  ∃W:Nat->Nat->St->Hp->Prop,(∃m,W 0 m σ H)/\∀i m σ H,W i m σ H->
   ((ItRv a xs.length).stop i H/\D.nx σ H)\/((ItRv a xs.length).go i H/\∃N:St->Hp->Prop,(∀σ' H',N σ' H'->∃m',m' < m/\W (i + 1) m' σ' H')/\∀x H',(ItRv a xs.length).yld i H x H'->g x σ H' λ σ2 H2=>tb { D with nx:=N,ct:=N,bk:=D.nx } σ2 H2):=by
 refine ⟨λ i m σ H=>m=xs.length - i/\i<=xs.length/\Pv i σ H,⟨xs.length,by simp,B2 _,h0⟩,?_⟩;rintro i m σ H ⟨rfl,hi,p⟩;have q:=hl i σ H p;by_cases hlt:i < xs.length
 ·refine .inr ⟨⟨hlt,xs,q,rfl⟩,Pv (i + 1),λ σ' H' b=>⟨xs.length - (i + 1),by lia,rfl,hlt,b⟩,λ x H' y=>?_⟩;obtain ⟨rfl,y⟩:=y;refine hs i x σ _ ?_ p;rw [List.getElem?_reverse hlt];exact y xs q
 ·obtain rfl:i=xs.length:=by lia
  exact .inl ⟨rfl,hd σ H p⟩
end L2
set_option maxHeartbeats 400000
namespace L2
open PySem PySem.Spec PyProof.Rows
section
variable {X:Cx}
theorem zjs {o:Expr} {to:TE} {apos cpos:Pos} (ho:PE X o to) (hbase:U3 o "pop" X.env (v3 o X.env)=v3 o X.env:=by rfl) (hline:(apos.endLine == cpos.line)=true:=by rfl):PE X (.Call (.Attribute o "pop" apos) [] [] cpos) (tBM0 X.K "list" rPop to):=
 pe_bm0 N6 PySem.F.slot_list_pop PySem.F.type_list_pop mt_pop ho hbase hline
end
end L2
set_option maxHeartbeats 1000000
namespace L2
open PySem PySem.Spec PyProof.Rows
theorem hid {P:Prop} (h :∀G:Prop,(P->G)->G):P:=h P id
end L2
set_option maxHeartbeats 0
namespace K24
open PySem PySem.W PyProof.Rows TJ L2
noncomputable abbrev PX:Program:=PySem.Challenge.pw_talejudge_k24_whole_read_by_read
noncomputable abbrev annX:Option Value:=some (.ref 6)
noncomputable def tp (a b:Str) (t:Nat):Obj:={ cls:=.type "tuple",data:=.seq #[.str a t,.str b (t + 1)] 0 }
noncomputable def tups:List Obj:=[tp "register" "read" 407,tp "register" "write" 409,tp "counter" "read" 411,tp "counter" "add" 413,tp "queue" "put" 415,tp "queue" "take" 417,tp "set" "put" 419,tp "set" "cut" 421,tp "set" "has" 423,tp "cell" "read" 425,tp "cell" "write" 427,tp "cell" "swap" 429]
noncomputable def insAll:List Obj->Nat->BT->BT
 | [],_,t=>t
 | x :: r,n,t=>insAll r (n + 1) (t.ins n x)
noncomputable def treeD (P:M0) (oD:Obj):BT:=insAll tups 165 ((K24.pre.tree_194 P).ins 164 oD)
noncomputable def FX (w:S0) (os:U2) (oD:Obj) (tk:Nat):SharedT:=⟨treeD w.params oD,177,{},⟨[]⟩,{},tk,os⟩
noncomputable abbrev cdX:Code:=.body (behindTheImports PX) K24.pre.env_1
noncomputable abbrev qX:Pos:=⟨0,0,0,0⟩
noncomputable abbrev BX:List Frame:=[topFrame qX]
noncomputable abbrev GX {α:Type} (w:S0) (c:Nat) (x:Sem α) (s:C0) (pos:Pos) (a:α) (s':C0) (pos':Pos):Prop:=Goes PX w 11 annX cdX qX c x s pos a s' pos'
def LX (n:Nat) {α:Type} (x:Sem α) (w:S0) (pos:Pos) (s:U2->Obj->Nat->SharedT) (a:Nat->α) (s':U2->Obj->Nat->SharedT) (pos':Pos):Prop:=
 ∀(os:U2) (oD:Obj) (tk:Nat) (K:α->Sem PySem.Fin) (H:Value->Sem PySem.Fin) (gd:Bool->Bool) (lv:List Value->List Value),
  PySem.W.Fast.tw10295753902157049106 d7 PX w 11 annX 1 n (s os oD tk) ⟨x.wrap K H gd lv,cdX,pos,BX⟩=some (s' os oD tk,⟨K (a tk),cdX,pos',BX⟩)
theorem LX.goes {n:Nat} {α:Type} {x:Sem α} {w:S0} {pos pos':Pos} {s s':U2->Obj->Nat->SharedT} {a:Nat->α} (h:LX n x w pos s a s' pos') (os:U2) (oD:Obj) (tk:Nat):GX w n x (s os oD tk).abs pos (a tk) (s' os oD tk).abs pos':=by refine Goes.leaf n λ K H gd b=>?_;have e:=h os oD tk K H gd b;rw [<-PySem.W.Fast.te10295753902157049106,<-Q4] at e;exact e
noncomputable abbrev stay (w:S0):U2->Obj->Nat->SharedT:=FX w
noncomputable abbrev plus3 (w:S0):U2->Obj->Nat->SharedT:=λ os oD tk=>FX w os oD (tk + 3)
theorem qtH (a:Addr) (h :∀(w:S0) (pos:Pos),LX 3 (PySem.W.Fast.tw13066428366354244818 8 (.ref a)) w pos (stay w) (λ _=>true) (stay w) pos:=by intro w pos os oD tk K H gd lv;kernel_rfl) (w:S0) (pos:Pos):LX 3 (d4 8 (.ref a)) w pos (stay w) (λ _=>true) (stay w) pos:=by rw [PySem.W.Fast.te13066428366354244818];exact h w pos
noncomputable def qt0:=qtH 165
noncomputable def qt1:=qtH 166
noncomputable def qt2:=qtH 167
noncomputable def qt3:=qtH 168
noncomputable def qt4:=qtH 169
noncomputable def qt5:=qtH 170
noncomputable def qt6:=qtH 171
noncomputable def qt7:=qtH 172
noncomputable def qt8:=qtH 173
noncomputable def qt9:=qtH 174
noncomputable def qt10:=qtH 175
noncomputable def qt11:=qtH 176
theorem eqH (n:Nat) (a b:Addr) (hf :∀(w:S0) (pos:Pos),LX n (O4 (.ref a) (.ref b)) (w.withFollow "special-get-raises" false) pos (stay (w.withFollow "special-get-raises" false)) (λ _=>false) (stay (w.withFollow "special-get-raises" false)) pos:=by intro w pos os oD tk K H gd lv;kernel_rfl) (ht :∀(w:S0) (pos:Pos),LX n (O4 (.ref a) (.ref b)) (w.withFollow "special-get-raises" true) pos (stay (w.withFollow "special-get-raises" true)) (λ _=>false) (stay (w.withFollow "special-get-raises" true)) pos:=by intro w pos os oD tk K H gd lv;kernel_rfl) (w:S0) (pos:Pos):LX n (eqBool (.ref a) (.ref b)) w pos (stay w) (λ _=>false) (stay w) pos:=by rw [PySem.W.Fast.te13926502685295537346];exact byRow2 "special-get-raises" (P:=λ w=>LX n (O4 (.ref a) (.ref b)) w pos (stay w) (λ _=>false) (stay w) pos) (λ w=>hf w pos) (λ w=>ht w pos) w
noncomputable def eq0_1:=eqH 20 165 166
noncomputable def eq0_2:=eqH 16 165 167
noncomputable def eq0_3:=eqH 16 165 168
noncomputable def eq0_4:=eqH 16 165 169
noncomputable def eq0_5:=eqH 16 165 170
noncomputable def eq0_6:=eqH 16 165 171
noncomputable def eq0_7:=eqH 16 165 172
noncomputable def eq0_8:=eqH 16 165 173
noncomputable def eq0_9:=eqH 16 165 174
noncomputable def eq0_10:=eqH 16 165 175
noncomputable def eq0_11:=eqH 16 165 176
noncomputable def eq1_2:=eqH 16 166 167
noncomputable def eq1_3:=eqH 16 166 168
noncomputable def eq1_4:=eqH 16 166 169
noncomputable def eq1_5:=eqH 16 166 170
noncomputable def eq1_6:=eqH 16 166 171
noncomputable def eq1_7:=eqH 16 166 172
noncomputable def eq1_8:=eqH 16 166 173
noncomputable def eq1_9:=eqH 16 166 174
noncomputable def eq1_10:=eqH 16 166 175
noncomputable def eq1_11:=eqH 16 166 176
noncomputable def eq2_3:=eqH 20 167 168
noncomputable def eq2_4:=eqH 16 167 169
noncomputable def eq2_5:=eqH 16 167 170
noncomputable def eq2_6:=eqH 16 167 171
noncomputable def eq2_7:=eqH 16 167 172
noncomputable def eq2_8:=eqH 16 167 173
noncomputable def eq2_9:=eqH 16 167 174
noncomputable def eq2_10:=eqH 16 167 175
noncomputable def eq2_11:=eqH 16 167 176
noncomputable def eq3_4:=eqH 16 168 169
noncomputable def eq3_5:=eqH 16 168 170
noncomputable def eq3_6:=eqH 16 168 171
noncomputable def eq3_7:=eqH 16 168 172
noncomputable def eq3_8:=eqH 16 168 173
noncomputable def eq3_9:=eqH 16 168 174
noncomputable def eq3_10:=eqH 16 168 175
noncomputable def eq3_11:=eqH 16 168 176
noncomputable def eq4_5:=eqH 20 169 170
noncomputable def eq4_6:=eqH 16 169 171
noncomputable def eq4_7:=eqH 16 169 172
noncomputable def eq4_8:=eqH 16 169 173
noncomputable def eq4_9:=eqH 16 169 174
noncomputable def eq4_10:=eqH 16 169 175
noncomputable def eq4_11:=eqH 16 169 176
noncomputable def eq5_6:=eqH 16 170 171
noncomputable def eq5_7:=eqH 16 170 172
noncomputable def eq5_8:=eqH 16 170 173
noncomputable def eq5_9:=eqH 16 170 174
noncomputable def eq5_10:=eqH 16 170 175
noncomputable def eq5_11:=eqH 16 170 176
noncomputable def eq6_7:=eqH 20 171 172
noncomputable def eq6_8:=eqH 20 171 173
noncomputable def eq6_9:=eqH 16 171 174
noncomputable def eq6_10:=eqH 16 171 175
noncomputable def eq6_11:=eqH 16 171 176
noncomputable def eq7_8:=eqH 20 172 173
noncomputable def eq7_9:=eqH 16 172 174
noncomputable def eq7_10:=eqH 16 172 175
noncomputable def eq7_11:=eqH 16 172 176
noncomputable def eq8_9:=eqH 16 173 174
noncomputable def eq8_10:=eqH 16 173 175
noncomputable def eq8_11:=eqH 16 173 176
noncomputable def eq9_10:=eqH 20 174 175
noncomputable def eq9_11:=eqH 20 174 176
noncomputable def zjg:=eqH 20 175 176
theorem crH (a:Addr) (hf :∀(w:S0) (pos:Pos),LX 1 (P4 "hash" [.ref a]) (w.withFollow "special-get-raises" false) pos (stay (w.withFollow "special-get-raises" false)) (λ _=>()) (stay (w.withFollow "special-get-raises" false)) pos:=by intro w pos os oD tk K H gd lv;kernel_rfl) (ht :∀(w:S0) (pos:Pos),LX 1 (P4 "hash" [.ref a]) (w.withFollow "special-get-raises" true) pos (stay (w.withFollow "special-get-raises" true)) (λ _=>()) (stay (w.withFollow "special-get-raises" true)) pos:=by intro w pos os oD tk K H gd lv;kernel_rfl) (w:S0) (pos:Pos):LX 1 (cRoomFor "hash" [.ref a]) w pos (stay w) (λ _=>()) (stay w) pos:=by rw [PySem.W.Fast.te13383273872528276517];exact byRow2 "special-get-raises" (P:=λ w=>LX 1 (P4 "hash" [.ref a]) w pos (stay w) (λ _=>()) (stay w) pos) (λ w=>hf w pos) (λ w=>ht w pos) w
theorem soH (a:Addr) (hf :∀(w:S0) (pos:Pos),LX 1 (X4 (.ref a) "__hash__") (w.withFollow "special-get-raises" false) pos (stay (w.withFollow "special-get-raises" false)) (λ _=>some (.builtin "tuple.__hash__")) (stay (w.withFollow "special-get-raises" false)) pos:=by intro w pos os oD tk K H gd lv;kernel_rfl) (ht :∀(w:S0) (pos:Pos),LX 1 (X4 (.ref a) "__hash__") (w.withFollow "special-get-raises" true) pos (stay (w.withFollow "special-get-raises" true)) (λ _=>some (.builtin "tuple.__hash__")) (stay (w.withFollow "special-get-raises" true)) pos:=by intro w pos os oD tk K H gd lv;kernel_rfl) (w:S0) (pos:Pos):LX 1 (specialOf (.ref a) "__hash__") w pos (stay w) (λ _=>some (.builtin "tuple.__hash__")) (stay w) pos:=by rw [PySem.W.Fast.te4214721358667687652];exact byRow2 "special-get-raises" (P:=λ w=>LX 1 (X4 (.ref a) "__hash__") w pos (stay w) (λ _=>some (.builtin "tuple.__hash__")) (stay w) pos) (λ w=>hf w pos) (λ w=>ht w pos) w
theorem csH (a:Addr) (k l:Str) (hf :∀(w:S0) (pos:Pos),LX 22 (N4 (.ref a) "__hash__" (unh a)) (w.withFollow "special-get-raises" false) pos (stay (w.withFollow "special-get-raises" false)) (λ tk=>some (.int (u0 [j0 (w.withFollow "special-get-raises" false).params k,j0 (w.withFollow "special-get-raises" false).params l]) (tk + 2))) (plus3 (w.withFollow "special-get-raises" false)) pos:=by intro w pos os oD tk K H gd lv;kernel_rfl) (ht :∀(w:S0) (pos:Pos),LX 22 (N4 (.ref a) "__hash__" (unh a)) (w.withFollow "special-get-raises" true) pos (stay (w.withFollow "special-get-raises" true)) (λ tk=>some (.int (u0 [j0 (w.withFollow "special-get-raises" true).params k,j0 (w.withFollow "special-get-raises" true).params l]) (tk + 2))) (plus3 (w.withFollow "special-get-raises" true)) pos:=by intro w pos os oD tk K H gd lv;kernel_rfl) (w:S0) (pos:Pos):LX 22 (v6 (.ref a) "__hash__" (unh a)) w pos (stay w) (λ tk=>some (.int (u0 [j0 w.params k,j0 w.params l]) (tk + 2))) (plus3 w) pos:=by rw [PySem.W.Fast.te16697807410369149715];exact byRow2 "special-get-raises" (P:=λ w=>LX 22 (N4 (.ref a) "__hash__" (unh a)) w pos (stay w) (λ tk=>some (.int (u0 [j0 w.params k,j0 w.params l]) (tk + 2))) (plus3 w) pos) (λ w=>hf w pos) (λ w=>ht w pos) w
noncomputable def cr0:=crH 165
noncomputable def so0:=soH 165
noncomputable def cs0:=csH 165 "register" "read"
noncomputable def cr1:=crH 166
noncomputable def so1:=soH 166
noncomputable def cs1:=csH 166 "register" "write"
noncomputable def cr2:=crH 167
noncomputable def so2:=soH 167
noncomputable def cs2:=csH 167 "counter" "read"
noncomputable def cr3:=crH 168
noncomputable def so3:=soH 168
noncomputable def cs3:=csH 168 "counter" "add"
noncomputable def cr4:=crH 169
noncomputable def so4:=soH 169
noncomputable def cs4:=csH 169 "queue" "put"
noncomputable def cr5:=crH 170
noncomputable def so5:=soH 170
noncomputable def cs5:=csH 170 "queue" "take"
noncomputable def cr6:=crH 171
noncomputable def so6:=soH 171
noncomputable def cs6:=csH 171 "set" "put"
noncomputable def cr7:=crH 172
noncomputable def so7:=soH 172
noncomputable def cs7:=csH 172 "set" "cut"
noncomputable def cr8:=crH 173
noncomputable def so8:=soH 173
noncomputable def cs8:=csH 173 "set" "has"
noncomputable def cr9:=crH 174
noncomputable def so9:=soH 174
noncomputable def cs9:=csH 174 "cell" "read"
noncomputable def cr10:=crH 175
noncomputable def so10:=soH 175
noncomputable def cs10:=csH 175 "cell" "write"
noncomputable def cr11:=crH 176
noncomputable def so11:=soH 176
noncomputable def cs11:=csH 176 "cell" "swap"
noncomputable def allX (P:M0):List KV3:=[(165,(.ref 109),(F1 (u0 [j0 P "register",j0 P "read"]))),(166,(.ref 116),(F1 (u0 [j0 P "register",j0 P "write"]))),(167,(.ref 109),(F1 (u0 [j0 P "counter",j0 P "read"]))),(168,(.ref 123),(F1 (u0 [j0 P "counter",j0 P "add"]))),(169,(.ref 130),(F1 (u0 [j0 P "queue",j0 P "put"]))),(170,(.ref 137),(F1 (u0 [j0 P "queue",j0 P "take"]))),(171,(.ref 144),(F1 (u0 [j0 P "set",j0 P "put"]))),(172,(.ref 149),(F1 (u0 [j0 P "set",j0 P "cut"]))),(173,(.ref 156),(F1 (u0 [j0 P "set",j0 P "has"]))),(174,(.ref 109),(F1 (u0 [j0 P "cell",j0 P "read"]))),(175,(.ref 116),(F1 (u0 [j0 P "cell",j0 P "write"]))),(176,(.ref 163),(F1 (u0 [j0 P "cell",j0 P "swap"])))]
theorem zjc (w:S0) (os:U2) (pos:Pos):(allX w.params).Pairwise λ x y=>∀oD tk,GX w 20 (eqBool (.ref x.1) (.ref y.1)) (FX w os oD tk).abs pos false (FX w os oD tk).abs pos:=by
 unfold allX;refine
 .cons (λ y a oD tk=>(by
  revert y;simp only [v2,A0,false_implies,implies_true,and_true];exact ⟨(eq0_1 w pos).goes os oD tk |>.le (by decide),(eq0_2 w pos).goes os oD tk |>.le (by decide),(eq0_3 w pos).goes os oD tk |>.le (by decide),(eq0_4 w pos).goes os oD tk |>.le (by decide),(eq0_5 w pos).goes os oD tk |>.le (by decide),(eq0_6 w pos).goes os oD tk |>.le (by decide),(eq0_7 w pos).goes os oD tk |>.le (by decide),(eq0_8 w pos).goes os oD tk |>.le (by decide),(eq0_9 w pos).goes os oD tk |>.le (by decide),(eq0_10 w pos).goes os oD tk |>.le (by decide),(eq0_11 w pos).goes os oD tk |>.le (by decide)⟩))
  (.cons (λ y a oD tk=>(by
  revert y;simp only [v2,A0,false_implies,implies_true,and_true];exact ⟨(eq1_2 w pos).goes os oD tk |>.le (by decide),(eq1_3 w pos).goes os oD tk |>.le (by decide),(eq1_4 w pos).goes os oD tk |>.le (by decide),(eq1_5 w pos).goes os oD tk |>.le (by decide),(eq1_6 w pos).goes os oD tk |>.le (by decide),(eq1_7 w pos).goes os oD tk |>.le (by decide),(eq1_8 w pos).goes os oD tk |>.le (by decide),(eq1_9 w pos).goes os oD tk |>.le (by decide),(eq1_10 w pos).goes os oD tk |>.le (by decide),(eq1_11 w pos).goes os oD tk |>.le (by decide)⟩))
  (.cons (λ y a oD tk=>(by
  revert y;simp only [v2,A0,false_implies,implies_true,and_true];exact ⟨(eq2_3 w pos).goes os oD tk |>.le (by decide),(eq2_4 w pos).goes os oD tk |>.le (by decide),(eq2_5 w pos).goes os oD tk |>.le (by decide),(eq2_6 w pos).goes os oD tk |>.le (by decide),(eq2_7 w pos).goes os oD tk |>.le (by decide),(eq2_8 w pos).goes os oD tk |>.le (by decide),(eq2_9 w pos).goes os oD tk |>.le (by decide),(eq2_10 w pos).goes os oD tk |>.le (by decide),(eq2_11 w pos).goes os oD tk |>.le (by decide)⟩))
  (.cons (λ y a oD tk=>(by
  revert y;simp only [v2,A0,false_implies,implies_true,and_true];exact ⟨(eq3_4 w pos).goes os oD tk |>.le (by decide),(eq3_5 w pos).goes os oD tk |>.le (by decide),(eq3_6 w pos).goes os oD tk |>.le (by decide),(eq3_7 w pos).goes os oD tk |>.le (by decide),(eq3_8 w pos).goes os oD tk |>.le (by decide),(eq3_9 w pos).goes os oD tk |>.le (by decide),(eq3_10 w pos).goes os oD tk |>.le (by decide),(eq3_11 w pos).goes os oD tk |>.le (by decide)⟩))
  (.cons (λ y a oD tk=>(by
  revert y;simp only [v2,A0,false_implies,implies_true,and_true];exact ⟨(eq4_5 w pos).goes os oD tk |>.le (by decide),(eq4_6 w pos).goes os oD tk |>.le (by decide),(eq4_7 w pos).goes os oD tk |>.le (by decide),(eq4_8 w pos).goes os oD tk |>.le (by decide),(eq4_9 w pos).goes os oD tk |>.le (by decide),(eq4_10 w pos).goes os oD tk |>.le (by decide),(eq4_11 w pos).goes os oD tk |>.le (by decide)⟩))
  (.cons (λ y a oD tk=>(by
  revert y;simp only [v2,A0,false_implies,implies_true,and_true];exact ⟨(eq5_6 w pos).goes os oD tk |>.le (by decide),(eq5_7 w pos).goes os oD tk |>.le (by decide),(eq5_8 w pos).goes os oD tk |>.le (by decide),(eq5_9 w pos).goes os oD tk |>.le (by decide),(eq5_10 w pos).goes os oD tk |>.le (by decide),(eq5_11 w pos).goes os oD tk |>.le (by decide)⟩))
  (.cons (λ y a oD tk=>(by
  revert y;simp only [v2,A0,false_implies,implies_true,and_true];exact ⟨(eq6_7 w pos).goes os oD tk |>.le (by decide),(eq6_8 w pos).goes os oD tk |>.le (by decide),(eq6_9 w pos).goes os oD tk |>.le (by decide),(eq6_10 w pos).goes os oD tk |>.le (by decide),(eq6_11 w pos).goes os oD tk |>.le (by decide)⟩))
  (.cons (λ y a oD tk=>(by
  revert y;simp only [v2,A0,false_implies,implies_true,and_true];exact ⟨(eq7_8 w pos).goes os oD tk |>.le (by decide),(eq7_9 w pos).goes os oD tk |>.le (by decide),(eq7_10 w pos).goes os oD tk |>.le (by decide),(eq7_11 w pos).goes os oD tk |>.le (by decide)⟩))
  (.cons (λ y a oD tk=>(by
  revert y;simp only [v2,A0,false_implies,implies_true,and_true];exact ⟨(eq8_9 w pos).goes os oD tk |>.le (by decide),(eq8_10 w pos).goes os oD tk |>.le (by decide),(eq8_11 w pos).goes os oD tk |>.le (by decide)⟩))
  (.cons (λ y a oD tk=>(by
  revert y;simp only [v2,A0,false_implies,implies_true,and_true];exact ⟨(eq9_10 w pos).goes os oD tk |>.le (by decide),(eq9_11 w pos).goes os oD tk |>.le (by decide)⟩))
  (.cons (λ y a oD tk=>(by
  revert y;simp only [v2,A0,false_implies,implies_true,and_true];exact (zjg w pos).goes os oD tk |>.le (by decide)))
  (.cons (λ y a=>nomatch a)
  (N7))))))))))))
theorem allX_q (w:S0) (os:U2) (pos:Pos) :∀x∈allX w.params,∀oD tk,GX w 3 (d4 8 (.ref x.1)) (FX w os oD tk).abs pos true (FX w os oD tk).abs pos:=by unfold allX;simp only [v2,A0,false_implies,implies_true,and_true];exact ⟨λ oD tk=>(qt0 w pos).goes os oD tk,λ oD tk=>(qt1 w pos).goes os oD tk,λ oD tk=>(qt2 w pos).goes os oD tk,λ oD tk=>(qt3 w pos).goes os oD tk,λ oD tk=>(qt4 w pos).goes os oD tk,λ oD tk=>(qt5 w pos).goes os oD tk,λ oD tk=>(qt6 w pos).goes os oD tk,λ oD tk=>(qt7 w pos).goes os oD tk,λ oD tk=>(qt8 w pos).goes os oD tk,λ oD tk=>(qt9 w pos).goes os oD tk,λ oD tk=>(qt10 w pos).goes os oD tk,λ oD tk=>(qt11 w pos).goes os oD tk⟩
theorem allX_h (w:S0) (os:U2) (pos:Pos) :∀x∈allX w.params,∀oD tk,GX w 25 (pyHash (.ref x.1)) (FX w os oD tk).abs pos x.2.2 (FX w os oD (tk + 3)).abs pos:=by unfold allX;simp only [v2,A0,false_implies,implies_true,and_true];exact ⟨λ oD tk=>Goes.pyHashT ((cr0 w pos).goes os oD tk) ((so0 w pos).goes os oD tk) ((cs0 w pos).goes os oD tk),λ oD tk=>Goes.pyHashT ((cr1 w pos).goes os oD tk) ((so1 w pos).goes os oD tk) ((cs1 w pos).goes os oD tk),λ oD tk=>Goes.pyHashT ((cr2 w pos).goes os oD tk) ((so2 w pos).goes os oD tk) ((cs2 w pos).goes os oD tk),λ oD tk=>Goes.pyHashT ((cr3 w pos).goes os oD tk) ((so3 w pos).goes os oD tk) ((cs3 w pos).goes os oD tk),λ oD tk=>Goes.pyHashT ((cr4 w pos).goes os oD tk) ((so4 w pos).goes os oD tk) ((cs4 w pos).goes os oD tk),λ oD tk=>Goes.pyHashT ((cr5 w pos).goes os oD tk) ((so5 w pos).goes os oD tk) ((cs5 w pos).goes os oD tk),λ oD tk=>Goes.pyHashT ((cr6 w pos).goes os oD tk) ((so6 w pos).goes os oD tk) ((cs6 w pos).goes os oD tk),λ oD tk=>Goes.pyHashT ((cr7 w pos).goes os oD tk) ((so7 w pos).goes os oD tk) ((cs7 w pos).goes os oD tk),λ oD tk=>Goes.pyHashT ((cr8 w pos).goes os oD tk) ((so8 w pos).goes os oD tk) ((cs8 w pos).goes os oD tk),λ oD tk=>Goes.pyHashT ((cr9 w pos).goes os oD tk) ((so9 w pos).goes os oD tk) ((cs9 w pos).goes os oD tk),λ oD tk=>Goes.pyHashT ((cr10 w pos).goes os oD tk) ((so10 w pos).goes os oD tk) ((cs10 w pos).goes os oD tk),λ oD tk=>Goes.pyHashT ((cr11 w pos).goes os oD tk) ((so11 w pos).goes os oD tk) ((cs11 w pos).goes os oD tk)⟩
theorem famX (w:S0) (os:U2):Fam 11 164 (FX w os):=by
 have g :∀c,(treeD w.params c).get 164=some c:=λ c=>by kernel_rfl
 refine ⟨by decide,λ b a d=>abs_get (show 164 < 177 by decide) (g _),λ b a d e=>?_⟩;have u:(absHeap (treeD w.params (dObj b a)) 177 {}).update 164 (O7 (·.push e))=absHeap (treeD w.params (dObj (b.push e) (a + 1))) 177 {}:=by
  rw [<-absHeap_set (g _)];have v:(treeD w.params (dObj b a)).set 164 (O7 (·.push e))=treeD w.params (dObj (b.push e) (a + 1)):=by kernel_rfl
  rw [v]
 exact congrArg (λ h=>(⟨h,⟨[]⟩,{},d,os⟩:C0)) u
noncomputable def stD:Stmt:=(behindTheImports PX).getD 24 (.Pass ⟨0,0,0,0⟩)
noncomputable def sufX:List Stmt:=(behindTheImports PX).drop 25
theorem bodyX:behindTheImports PX=K24.pre.sts_7++(K24.pre.sts_33++(K24.pre.sts_52++(K24.pre.sts_71++(K24.pre.sts_118++(K24.pre.sts_172++([stD]++sufX)))))):=by kernel_rfl
noncomputable def dKeys:Stmt->List (Option Expr)
 | .Assign _ (.Dict ks _ _) _=>ks
 | _=>[]
noncomputable def dVals:Stmt->List Expr
 | .Assign _ (.Dict _ vs _) _=>vs
 | _=>[]
noncomputable def dPos:Stmt->Pos
 | .Assign _ (.Dict _ _ p) _=>p
 | _=>⟨0,0,0,0⟩
noncomputable def sPos:Stmt->Pos
 | .Assign _ _ p=>p
 | _=>⟨0,0,0,0⟩
noncomputable abbrev p1X:Pos:=sPos stD
noncomputable abbrev p2X:Pos:=dPos stD
noncomputable abbrev p3X:Pos:=⟨52,0,52,5⟩
noncomputable def runX:List (Sem Value×Sem Value):=(((evalEachOpt (dKeys stD) K24.pre.env_1).zip ((evalEach (dVals stD) K24.pre.env_1).map λ v=>do let x <-v;W9 p2X;N3 x))).filterMap λ x=>x.1.map (·,x.2)
theorem stD_eq:stD=.Assign [.Name "DOERS" p3X] (.Dict (dKeys stD) (dVals stD) p2X) p1X:=by kernel_rfl
theorem evD:v3 (.Dict (dKeys stD) (dVals stD) p2X) K24.pre.env_1=(do W9 p2X;let r <-(do let x <-subDict runX;N3 (some x));match r with|some x=>N3 (v1 x)|none=>newDict):=by kernel_rfl
theorem swD:R6 (.Dict (dKeys stD) (dVals stD) p2X) (some (.Name "DOERS" p3X)) p1X.line K24.pre.env_1=N3 false:=by kernel_rfl
noncomputable def F0X (w:S0) (os:U2):SharedT:=⟨K24.pre.tree_194 w.params,164,{},⟨[]⟩,{},407,os⟩
noncomputable def F1X (w:S0) (os:U2):SharedT:=⟨(K24.pre.tree_194 w.params).ins 164 (dObj #[] 0),165,{},⟨[]⟩,{},407,os⟩
noncomputable def vsX:List (Value×Value):=[(.ref 165,(.ref 109)),(.ref 166,(.ref 116)),(.ref 167,(.ref 109)),(.ref 168,(.ref 123)),(.ref 169,(.ref 130)),(.ref 170,(.ref 137)),(.ref 171,(.ref 144)),(.ref 172,(.ref 149)),(.ref 173,(.ref 156)),(.ref 174,(.ref 109)),(.ref 175,(.ref 116)),(.ref 176,(.ref 163))]
theorem zdr (w:S0):LX 84 (evalPairs runX) w p2X (λ os _ _=>F1X w os) (λ _=>vsX) (λ os _ _=>FX w os (dObj #[] 0) 431) p2X:=by rw [PySem.W.Fast.te1788576489739465902];exact λ os b c K H gd a=>by kernel_rfl
noncomputable def F2X (w:S0) (os:U2) (oD:Obj) (tk:Nat):SharedT:=⟨(treeD w.params oD).set 3 (Obj.putName "DOERS" (j0 w.params "DOERS") (.str "DOERS" tk) (.ref 164)),177,{},⟨[]⟩,{},tk + 1,os⟩
theorem zg2 (w:S0) (pos:Pos):LX 6 (bindName K24.pre.env_1 "DOERS" (.ref 164)) w pos (stay w) (λ _=>()) (λ os oD tk=>F2X w os oD tk) pos:=by
 rw [PySem.W.Fast.te7536695828754713326];exact byRow2 "special-get-raises" (P:=λ w=>LX 6 (PySem.W.Fast.tw7536695828754713326 K24.pre.env_1 "DOERS" (.ref 164)) w pos (stay w) (λ _=>()) (λ os oD tk=>F2X w os oD tk) pos)
  (λ w os oD tk K H gd a=>by kernel_rfl) (λ w os oD tk K H gd a=>by kernel_rfl) w
noncomputable abbrev oDX (P:M0):Obj:=dObj ((allX P).map ent).toArray 12
noncomputable abbrev S2X (w:S0) (os:U2):SharedT:=F2X w os (oDX w.params) 467
theorem stD_go (w:S0) (os:U2) (pos:Pos):GX w 100000 (exec stD K24.pre.env_1) (F0X w os).abs pos .next (S2X w os).abs p3X:=by
 rw [stD_eq,exec_Assign_Name _ _ _ _ _ swD];have l:=Goes.loop (p:=PX) (w:=w) (ann:=annX) (code:=cdX) (q:=qX) (pos:=p2X) (famX w os) (N:=12) (allX w.params) (show 12<=12 by decide) (by decide) (show ([165,166,167,168,169,170,171,172,173,174,175,176]:List Nat).Nodup by decide) (allX_q w os p2X) (zjc w os p2X) (allX_h w os p2X) (allX w.params) [] 431 rfl;have b:=(zdr w).goes os (dObj #[] 0) 0;have d:GX w _ (subDict runX) (F0X w os).abs p2X 164 (FX w os (oDX w.params) 467).abs p2X:=
  Goes.subDict (by decide +kernel) (absHeap_size _ _ _) (show GX w _ (evalPairs runX) _ p2X vsX _ p2X from by
   have e:({ (F0X w os).abs with heap:=(F0X w os).abs.heap.push { cls:=.type "dict",data:=.dict #[] } }:C0)=(F1X w os).abs:=by have i:=absHeap_ins (t:=K24.pre.tree_194 w.params) (n:=164) (life:={}) (o:=dObj #[] 0) (by kernel_rfl);exact congrArg (λ h=>(⟨h,⟨[]⟩,{},407,os⟩:C0)) i.symm
   rw [e];exact b) l
 refine (Goes.bind Goes.at' (Goes.bind (a:=v1 164) (pos':=p2X) ?_ (Goes.bind Goes.at' (Goes.bind (f:=λ _=>N3 Flow.next) ((zg2 w p3X).goes os (oDX w.params) 467) Goes.pure)))).le (c:=1 + (((1 + ((1 + (84 + 12 * (25 + (2 + 3 + 12 * (3 + 20 + 10)) + 4))) + 0 + 0)) + (1 + (6 + 0))))) (by decide);rw [evD];exact Goes.bind Goes.at' (Goes.bind (Goes.bind d Goes.pure) Goes.pure)
noncomputable abbrev pLX:Pos:=⟨360,0,375,15⟩
noncomputable def R3X (w:S0) (os:U2):Option (Flow×SharedT×Code×Pos):=PySem.W.Fast.tw10110043849684766642 d7 PX w 11 annX 1 1859 (S2X w os) ⟨(PySem.W.Fast.tw12563942051412417395 sufX K24.pre.env_1).wrap doneF deadEnd id id,cdX,p3X,BX⟩
noncomputable def S3X (w:S0) (os:U2):SharedT:=match R3X w os with|some r=>r.2.1|none=>S2X w os
theorem R3X_eq (w:S0) (os:U2):R3X w os=some (.next,S3X w os,cdX,pLX):=by kernel_rfl
theorem zim (w:S0) (os:U2):segRun A3 PX w 11 annX 1 1859 (S2X w os).abs (piecesOf sufX K24.pre.env_1 cdX p3X BX)=some (.next,(S3X w os).abs,cdX,pLX):=by have e:=R3X_eq w os;unfold R3X at e;rw [<-PySem.W.Fast.te10110043849684766642,<-Q4,<-PySem.W.Fast.te12563942051412417395] at e;exact segRun_of e
noncomputable def S0X (w:S0) (os:U2):SharedT:=⟨K24.pre.tree_6 w.params,15,{},⟨[]⟩,{},187,os⟩
theorem pre_go (w:S0) (os:U2):topGo A3 PX w 11 annX 12 ⟨boot_heap w.params,Array.mk [],boot_drawn,boot_toks,os⟩ (topStub PX)=some ((S0X w os).abs,⟨denote A3 cdX,cdX,qX,BX⟩):=by rw [PySem.W.Fast.te15667345088766844465,Q4,PySem.W.Fast.te11892475500146522536];kernel_rfl
theorem zi4 (w:S0) (os:U2) :∃M,M<=200000/\topRun A3 PX w 11 annX M ⟨boot_heap w.params,Array.mk [],boot_drawn,boot_toks,os⟩ (topStub PX)=some (S3X w os).abs:=by have g:topRun A3 PX w 11 annX 2 (S3X w os).abs (restOf [] K24.pre.env_1 cdX pLX BX)=some (S3X w os).abs:=rfl;have b:=piece_app (zim w os) g;rw [Q2] at b;obtain ⟨M,h,e⟩:=zdu (Goes.execs1 (stD_go w os ⟨48,0,51,21⟩)) b;have a:=K24.pre.chain PX (behindTheImports PX) w os _ M _ e;rw [<-bodyX] at a;have f:segRun A3 PX w 11 annX 1 1 (S0X w os).abs (blockOf (behindTheImports PX) K24.pre.env_1 cdX qX BX)=some (.next,(S0X w os).abs,cdX,qX):=rfl;have d:=piece_block f a;have c:=go_top (pre_go w os) d;refine ⟨_,?_,c⟩;simp only [Nat.add_eq];omega
noncomputable def looseX:List Str:=[("_wall" : Str),("TaleError" : Str),("NoDeed" : Str),("NoStrictness" : Str),("NotPlain" : Str),("GREATEST_WORTH" : Str),("is_whole" : Str),("is_within" : Str),("is_worth" : Str),("is_tuple_of" : Str),("FIRST_STATES" : Str),("WORTHS_OF_VERBS" : Str),("read_state" : Str),("write_state" : Str),("add_to_number" : Str),("put_behind" : Str),("take_first" : Str),("put_into_set" : Str),("cut_from_set" : Str),("has_in_set" : Str),("swap_state" : Str),("DOERS" : Str),("is_kind" : Str),("first_state" : Str),("is_deed" : Str),("do" : Str),("deeds" : Str),("FIRST_WRITE" : Str),("plain_deeds" : Str),("are_plain" : Str),("is_answered" : Str),("writers" : Str),("ended_reads" : Str),("lone_writer_deeds" : Str),("is_regular" : Str),("is_safe" : Str),("writes_beside" : Str),("last_ahead" : Str),("turn_about" : Str),("STRICTNESSES" : Str),("has_to" : Str),("check_strictness" : Str),("goes_ahead" : Str),("Candidate" : Str),("Board" : Str),("step_of" : Str),("ended_numbers" : Str),("holds_all" : Str),("first_place" : Str),("judged" : Str),("_law_cell_at" : Str),("_law_stream" : Str),("_law_take" : Str),("_law_worth" : Str),("_law_name" : Str),("_law_fresh" : Str),("_law_answer" : Str),("_law_events" : Str),("_law_tale" : Str),("_law_deeds" : Str),("_law_last" : Str),("_law_beside" : Str),("_law_with" : Str)]
noncomputable def viewX:Program:={ PX with main:={ PX.main with body:=(PX.main.body[73]?).toList } }
noncomputable def top (i:Nat):Stmt:=PX.main.body.getD i (.Pass ⟨0,0,0,0⟩)
noncomputable def subS (s:Stmt) (j:Nat):Stmt:=match s with
 | .ClassDef _ _ _ b _ _ _ _ _ _ _=>b.getD j s
 | _=>s
noncomputable def asX:List Addr:=[3,22,24,29,30,31,35,37,42,43,44,47,49,54,55,56,59,61,66,67,68,76,77,83,84,90,91,97,98,99,100,101,102,108,109,115,116,164,165,166,167,168,169,170,171,172,173,174,175,176,182,183,189,190,194,195,201,202,208,209,210,214,215,219,220,226,227,233,234,238,239,243,244,250,251,257,258,262,263,267,268,272,273,274,280,281,287,288,294,295,296,298,306,307,313,314,315,316,317,322,324,332,333,339,340,346,347,355,356,357,367,368,372,373,377,378,382,383,389,390,396,397,403,404,410,411,417,418,424,425,431,432,438,439,445,446,452,453,459,460,473,474,480,481,485,486]
noncomputable def KX (P:M0):Frag:=[
 (3,⟨(.type "dict"),none,(.dict #[⟨(j0 P "__name__"),(.str "__name__" 165),(.str "law_talejudge_k24_whole_read_by_read" 789)⟩,⟨(j0 P "__doc__"),(.str "__doc__" 166),.none⟩,⟨(j0 P "__package__"),(.str "__package__" 167),.none⟩,⟨(j0 P "__loader__"),(.str "__loader__" 168),(.builtin "__main__.__loader__#opaque")⟩,⟨(j0 P "__spec__"),(.str "__spec__" 169),.none⟩,kR P "__annotations__" 170 6,kR P "__builtins__" 171 4,⟨(j0 P "__file__"),(.str "__file__" 173),(.str "/claim/cut.py" 172)⟩,⟨(j0 P "__cached__"),(.str "__cached__" 174),.none⟩,kR P "_wall" 193 21,kR P "TaleError" 213 31,kR P "NoDeed" 229 44,kR P "NoStrictness" 245 56,kR P "NotPlain" 261 68,⟨(j0 P "GREATEST_WORTH"),(.str "GREATEST_WORTH" 265),(.int (1000000000) 264)⟩,kR P "is_whole" 272 77,kR P "is_within" 280 84,kR P "is_worth" 287 91,kR P "is_tuple_of" 295 98,kR P "FIRST_STATES" 311 99,kR P "WORTHS_OF_VERBS" 336 102,kR P "read_state" 344 109,kR P "write_state" 352 116,kR P "add_to_number" 360 123,kR P "put_behind" 368 130,kR P "take_first" 376 137,kR P "put_into_set" 384 144,kR P "cut_from_set" 390 149,kR P "has_in_set" 398 156,kR P "swap_state" 406 163,kR P "DOERS" 467 164,kR P "is_kind" 474 183,kR P "first_state" 481 190,kR P "is_deed" 487 195,kR P "do" 498 202,kR P "deeds" 513 209,kR P "FIRST_WRITE" 520 210,kR P "plain_deeds" 526 215,kR P "are_plain" 532 220,kR P "is_answered" 539 227,kR P "writers" 548 234,kR P "ended_reads" 554 239,kR P "lone_writer_deeds" 562 244,kR P "is_regular" 573 251,kR P "is_safe" 584 258,kR P "writes_beside" 590 263,kR P "last_ahead" 596 268,kR P "turn_about" 602 273,kR P "STRICTNESSES" 608 274,kR P "has_to" 622 281,kR P "check_strictness" 629 288,kR P "goes_ahead" 638 295,kR P "Candidate" 684 317,kR P "Board" 741 357,kR P "step_of" 753 368,kR P "ended_numbers" 759 373,kR P "holds_all" 765 378,kR P "first_place" 771 383,kR P "judged" 788 390,kR P "_law_cell_at" 798 397,kR P "_law_stream" 807 404,kR P "_law_take" 816 411,kR P "_law_worth" 824 418,kR P "_law_name" 834 425,kR P "_law_fresh" 843 432,kR P "_law_answer" 853 439,kR P "_law_events" 873 446,kR P "_law_tale" 884 453,kR P "_law_deeds" 896 460,kR P "_law_last" 908 467,kR P "_law_beside" 921 474,kR P "_law_with" 935 481,kR P "law" 941 486] 73),#[]⟩),
 (22,⟨(.type "tuple"),none,(.seq #[(.type "ValueError")] 0),#[]⟩),
 (24,⟨(.type "dict"),none,(.dict #[⟨(j0 P "__module__"),(.str "__module__" 203),(.str "talejudge.errors" 194)⟩,⟨(j0 P "__qualname__"),(.str "__qualname__" 205),(.str "TaleError" 204)⟩,⟨(j0 P "__firstlineno__"),(.str "__firstlineno__" 207),(.int (5) 206)⟩,kR P "__static_attributes__" 208 29] 4),#[]⟩),
 (29,⟨(.type "tuple"),none,(.seq #[] 0),#[]⟩),
 (30,⟨(.type "dict"),none,(.dict #[⟨(j0 P "__module__"),(.str "__module__" 203),(.str "talejudge.errors" 194)⟩,⟨(j0 P "__firstlineno__"),(.str "__firstlineno__" 207),(.int (5) 206)⟩,kR P "__static_attributes__" 208 29,kR P "__weakref__" 210 32,⟨(j0 P "__doc__"),(.str "__doc__" 211),.none⟩] 3),#[]⟩),
 (31,⟨(.type "type"),none,(.cls ⟨"TaleError",[(.type "ValueError")],[(.ref 31),(.type "ValueError"),(.type "Exception"),(.type "BaseException"),(.type "object")],30,"TaleError",true,[],[(.ref 44),(.ref 56),(.ref 68)],false,none,false⟩),#[some (.ref 22),none,some (.str "TaleError" 196),some (.str "TaleError" 204),some (.builtin "ValueError.__new__"),some (.bool true)]⟩),
 (35,⟨(.type "tuple"),none,(.seq #[(.ref 31)] 0),#[]⟩),
 (37,⟨(.type "dict"),none,(.dict #[⟨(j0 P "__module__"),(.str "__module__" 221),(.str "talejudge.errors" 194)⟩,⟨(j0 P "__qualname__"),(.str "__qualname__" 223),(.str "NoDeed" 222)⟩,⟨(j0 P "__firstlineno__"),(.str "__firstlineno__" 225),(.int (7) 224)⟩,kR P "__static_attributes__" 226 42] 4),#[]⟩),
 (42,⟨(.type "tuple"),none,(.seq #[] 0),#[]⟩),
 (43,⟨(.type "dict"),none,(.dict #[⟨(j0 P "__module__"),(.str "__module__" 221),(.str "talejudge.errors" 194)⟩,⟨(j0 P "__firstlineno__"),(.str "__firstlineno__" 225),(.int (7) 224)⟩,kR P "__static_attributes__" 226 42,⟨(j0 P "__doc__"),(.str "__doc__" 227),.none⟩] 2),#[]⟩),
 (44,⟨(.type "type"),none,(.cls ⟨"NoDeed",[(.ref 31)],[(.ref 44),(.ref 31),(.type "ValueError"),(.type "Exception"),(.type "BaseException"),(.type "object")],43,"NoDeed",true,[],[],false,none,false⟩),#[some (.ref 35),none,some (.str "NoDeed" 214),some (.str "NoDeed" 222),some (.builtin "ValueError.__new__"),some (.bool true)]⟩),
 (47,⟨(.type "tuple"),none,(.seq #[(.ref 31)] 0),#[]⟩),
 (49,⟨(.type "dict"),none,(.dict #[⟨(j0 P "__module__"),(.str "__module__" 237),(.str "talejudge.errors" 194)⟩,⟨(j0 P "__qualname__"),(.str "__qualname__" 239),(.str "NoStrictness" 238)⟩,⟨(j0 P "__firstlineno__"),(.str "__firstlineno__" 241),(.int (9) 240)⟩,kR P "__static_attributes__" 242 54] 4),#[]⟩),
 (54,⟨(.type "tuple"),none,(.seq #[] 0),#[]⟩),
 (55,⟨(.type "dict"),none,(.dict #[⟨(j0 P "__module__"),(.str "__module__" 237),(.str "talejudge.errors" 194)⟩,⟨(j0 P "__firstlineno__"),(.str "__firstlineno__" 241),(.int (9) 240)⟩,kR P "__static_attributes__" 242 54,⟨(j0 P "__doc__"),(.str "__doc__" 243),.none⟩] 2),#[]⟩),
 (56,⟨(.type "type"),none,(.cls ⟨"NoStrictness",[(.ref 31)],[(.ref 56),(.ref 31),(.type "ValueError"),(.type "Exception"),(.type "BaseException"),(.type "object")],55,"NoStrictness",true,[],[],false,none,false⟩),#[some (.ref 47),none,some (.str "NoStrictness" 230),some (.str "NoStrictness" 238),some (.builtin "ValueError.__new__"),some (.bool true)]⟩),
 (59,⟨(.type "tuple"),none,(.seq #[(.ref 31)] 0),#[]⟩),
 (61,⟨(.type "dict"),none,(.dict #[⟨(j0 P "__module__"),(.str "__module__" 253),(.str "talejudge.errors" 194)⟩,⟨(j0 P "__qualname__"),(.str "__qualname__" 255),(.str "NotPlain" 254)⟩,⟨(j0 P "__firstlineno__"),(.str "__firstlineno__" 257),(.int (11) 256)⟩,kR P "__static_attributes__" 258 66] 4),#[]⟩),
 (66,⟨(.type "tuple"),none,(.seq #[] 0),#[]⟩),
 (67,⟨(.type "dict"),none,(.dict #[⟨(j0 P "__module__"),(.str "__module__" 253),(.str "talejudge.errors" 194)⟩,⟨(j0 P "__firstlineno__"),(.str "__firstlineno__" 257),(.int (11) 256)⟩,kR P "__static_attributes__" 258 66,⟨(j0 P "__doc__"),(.str "__doc__" 259),.none⟩] 2),#[]⟩),
 (68,⟨(.type "type"),none,(.cls ⟨"NotPlain",[(.ref 31)],[(.ref 68),(.ref 31),(.type "ValueError"),(.type "Exception"),(.type "BaseException"),(.type "object")],67,"NotPlain",true,[],[],false,none,false⟩),#[some (.ref 59),none,some (.str "NotPlain" 246),some (.str "NotPlain" 254),some (.builtin "ValueError.__new__"),some (.bool true)]⟩),
 (76,cO "is_whole" "is_whole" 266 15 1 71 270),
 (77,fO "is_whole" "is_whole" (top 8) "talejudge.basics" 262 76),
 (83,cO "is_within" "is_within" 273 17 2 78 278),
 (84,fO "is_within" "is_within" (top 9) "talejudge.basics" 262 83),
 (90,cO "is_worth" "is_worth" 281 19 1 85 285),
 (91,fO "is_worth" "is_worth" (top 10) "talejudge.basics" 262 90),
 (97,cO "is_tuple_of" "is_tuple_of" 288 21 2 92 293),
 (98,fO "is_tuple_of" "is_tuple_of" (top 11) "talejudge.basics" 262 97),
 (99,⟨(.type "dict"),none,(.dict #[⟨(j0 P "register"),(.str "register" 298),(.int (0) 299)⟩,⟨(j0 P "counter"),(.str "counter" 300),(.int (0) 301)⟩,kR P "queue" 302 100,kR P "set" 303 101,⟨(j0 P "cell"),(.str "cell" 304),(.int (0) 305)⟩] 5),#[]⟩),
 (100,⟨(.type "tuple"),none,(.seq #[] 0),#[]⟩),
 (101,⟨(.type "tuple"),none,(.seq #[] 0),#[]⟩),
 (102,⟨(.type "dict"),none,(.dict #[⟨(j0 P "read"),(.str "read" 312),(.int (0) 313)⟩,⟨(j0 P "take"),(.str "take" 314),(.int (0) 315)⟩,⟨(j0 P "write"),(.str "write" 316),(.int (1) 317)⟩,⟨(j0 P "add"),(.str "add" 318),(.int (1) 319)⟩,⟨(j0 P "put"),(.str "put" 320),(.int (1) 321)⟩,⟨(j0 P "cut"),(.str "cut" 322),(.int (1) 323)⟩,⟨(j0 P "has"),(.str "has" 324),(.int (1) 325)⟩,⟨(j0 P "swap"),(.str "swap" 326),(.int (2) 327)⟩] 8),#[]⟩),
 (108,cO "read_state" "read_state" 337 26 2 103 342),
 (109,fO "read_state" "read_state" (top 15) "talejudge.store" 296 108),
 (115,cO "write_state" "write_state" 345 28 2 110 350),
 (116,fO "write_state" "write_state" (top 16) "talejudge.store" 296 115),
 (164,⟨(.type "dict"),none,(.dict #[⟨(F1 (u0 [j0 P "register",j0 P "read"])),(.ref 165),(.ref 109)⟩,⟨(F1 (u0 [j0 P "register",j0 P "write"])),(.ref 166),(.ref 116)⟩,⟨(F1 (u0 [j0 P "counter",j0 P "read"])),(.ref 167),(.ref 109)⟩,⟨(F1 (u0 [j0 P "counter",j0 P "add"])),(.ref 168),(.ref 123)⟩,⟨(F1 (u0 [j0 P "queue",j0 P "put"])),(.ref 169),(.ref 130)⟩,⟨(F1 (u0 [j0 P "queue",j0 P "take"])),(.ref 170),(.ref 137)⟩,⟨(F1 (u0 [j0 P "set",j0 P "put"])),(.ref 171),(.ref 144)⟩,⟨(F1 (u0 [j0 P "set",j0 P "cut"])),(.ref 172),(.ref 149)⟩,⟨(F1 (u0 [j0 P "set",j0 P "has"])),(.ref 173),(.ref 156)⟩,⟨(F1 (u0 [j0 P "cell",j0 P "read"])),(.ref 174),(.ref 109)⟩,⟨(F1 (u0 [j0 P "cell",j0 P "write"])),(.ref 175),(.ref 116)⟩,⟨(F1 (u0 [j0 P "cell",j0 P "swap"])),(.ref 176),(.ref 163)⟩] 12),#[]⟩),
 (165,⟨(.type "tuple"),none,(.seq #[(.str "register" 407),(.str "read" 408)] 0),#[]⟩),
 (166,⟨(.type "tuple"),none,(.seq #[(.str "register" 409),(.str "write" 410)] 0),#[]⟩),
 (167,⟨(.type "tuple"),none,(.seq #[(.str "counter" 411),(.str "read" 412)] 0),#[]⟩),
 (168,⟨(.type "tuple"),none,(.seq #[(.str "counter" 413),(.str "add" 414)] 0),#[]⟩),
 (169,⟨(.type "tuple"),none,(.seq #[(.str "queue" 415),(.str "put" 416)] 0),#[]⟩),
 (170,⟨(.type "tuple"),none,(.seq #[(.str "queue" 417),(.str "take" 418)] 0),#[]⟩),
 (171,⟨(.type "tuple"),none,(.seq #[(.str "set" 419),(.str "put" 420)] 0),#[]⟩),
 (172,⟨(.type "tuple"),none,(.seq #[(.str "set" 421),(.str "cut" 422)] 0),#[]⟩),
 (173,⟨(.type "tuple"),none,(.seq #[(.str "set" 423),(.str "has" 424)] 0),#[]⟩),
 (174,⟨(.type "tuple"),none,(.seq #[(.str "cell" 425),(.str "read" 426)] 0),#[]⟩),
 (175,⟨(.type "tuple"),none,(.seq #[(.str "cell" 427),(.str "write" 428)] 0),#[]⟩),
 (176,⟨(.type "tuple"),none,(.seq #[(.str "cell" 429),(.str "swap" 430)] 0),#[]⟩),
 (182,cO "is_kind" "is_kind" 468 53 1 177 472),
 (183,fO "is_kind" "is_kind" (top 25) "talejudge.store" 296 182),
 (189,cO "first_state" "first_state" 475 55 1 184 479),
 (190,fO "first_state" "first_state" (top 26) "talejudge.store" 296 189),
 (194,cP "is_deed" "is_deed" 482 59 3 191 485),
 (195,fO "is_deed" "is_deed" (top 27) "talejudge.store" 296 194),
 (201,cO "do" "do" 488 68 4 196 496),
 (202,fO "do" "do" (top 28) "talejudge.store" 296 201),
 (208,cO "deeds" "deeds" 501 74 1 203 511),
 (209,fO "deeds" "deeds" (top 30) "talejudge.tales" 499 208),
 (210,⟨(.type "tuple"),none,(.seq #[(.int (-2) 517),(.int (-1) 519)] 0),#[]⟩),
 (214,cP "plain_deeds" "plain_deeds" 521 88 1 211 524),
 (215,fO "plain_deeds" "plain_deeds" (top 33) "talejudge.zones" 514 214),
 (219,cP "are_plain" "are_plain" 527 93 1 216 530),
 (220,fO "are_plain" "are_plain" (top 34) "talejudge.zones" 514 219),
 (226,cO "is_answered" "is_answered" 533 98 1 221 537),
 (227,fO "is_answered" "is_answered" (top 35) "talejudge.zones" 514 226),
 (233,cO "writers" "writers" 540 102 1 228 546),
 (234,fO "writers" "writers" (top 36) "talejudge.zones" 514 233),
 (238,cP "ended_reads" "ended_reads" 549 108 1 235 552),
 (239,fO "ended_reads" "ended_reads" (top 37) "talejudge.zones" 514 238),
 (243,cP "lone_writer_deeds" "lone_writer_deeds" 557 111 1 240 560),
 (244,fO "lone_writer_deeds" "lone_writer_deeds" (top 39) "talejudge.weaker" 555 243),
 (250,cO "is_regular" "is_regular" 563 116 1 245 571),
 (251,fO "is_regular" "is_regular" (top 40) "talejudge.weaker" 555 250),
 (257,cO "is_safe" "is_safe" 574 123 1 252 582),
 (258,fO "is_safe" "is_safe" (top 41) "talejudge.weaker" 555 257),
 (262,cP "writes_beside" "writes_beside" 585 130 2 259 588),
 (263,fO "writes_beside" "writes_beside" (top 42) "talejudge.weaker" 555 262),
 (267,cP "last_ahead" "last_ahead" 591 133 2 264 594),
 (268,fO "last_ahead" "last_ahead" (top 43) "talejudge.weaker" 555 267),
 (272,cP "turn_about" "turn_about" 597 135 1 269 600),
 (273,fO "turn_about" "turn_about" (top 44) "talejudge.weaker" 555 272),
 (274,⟨(.type "tuple"),none,(.seq #[(.str "strict" 605),(.str "hands" 606),(.str "bare" 607)] 0),#[]⟩),
 (280,cO "has_to" "has_to" 609 146 2 275 620),
 (281,fO "has_to" "has_to" (top 47) "talejudge.orders" 603 280),
 (287,cO "check_strictness" "check_strictness" 623 155 1 282 627),
 (288,fO "check_strictness" "check_strictness" (top 48) "talejudge.orders" 603 287),
 (294,cO "goes_ahead" "goes_ahead" 630 158 3 289 636),
 (295,fO "goes_ahead" "goes_ahead" (top 49) "talejudge.orders" 603 294),
 (296,⟨(.type "tuple"),none,(.seq #[] 0),#[]⟩),
 (298,⟨(.type "dict"),none,(.dict #[⟨(j0 P "__module__"),(.str "__module__" 648),(.str "talejudge.places" 639)⟩,⟨(j0 P "__qualname__"),(.str "__qualname__" 650),(.str "Candidate" 649)⟩,⟨(j0 P "__firstlineno__"),(.str "__firstlineno__" 652),(.int (165) 651)⟩,kR P "__init__" 658 307,kR P "may_stand" 668 314,kR P "__static_attributes__" 677 315] 6),#[]⟩),
 (306,cP "__init__" "Candidate.__init__" 653 167 6 303 656),
 (307,fO "__init__" "Candidate.__init__" (subS (top 51) 0) "talejudge.places" 639 306),
 (313,cO "may_stand" "Candidate.may_stand" 659 177 2 308 666),
 (314,fO "may_stand" "Candidate.may_stand" (subS (top 51) 1) "talejudge.places" 639 313),
 (315,⟨(.type "tuple"),none,(.seq #[(.str "aheads" 669),(.str "answer" 670),(.str "behinds" 671),(.str "kind" 672),(.str "number" 673),(.str "thing" 674),(.str "verb" 675),(.str "worth" 676)] 0),#[]⟩),
 (316,⟨(.type "dict"),none,(.dict #[⟨(j0 P "__module__"),(.str "__module__" 648),(.str "talejudge.places" 639)⟩,⟨(j0 P "__firstlineno__"),(.str "__firstlineno__" 652),(.int (165) 651)⟩,kR P "__init__" 658 307,kR P "may_stand" 668 314,kR P "__static_attributes__" 677 315,kR P "__dict__" 679 318,kR P "__weakref__" 681 319,⟨(j0 P "__doc__"),(.str "__doc__" 682),.none⟩] 4),#[]⟩),
 (317,⟨(.type "type"),none,(.cls ⟨"Candidate",[(.type "object")],[(.ref 317),(.type "object")],316,"Candidate",true,[],[],false,none,false⟩),#[none,none,some (.str "Candidate" 641),some (.str "Candidate" 649),some (.builtin "object.__new__"),some (.bool true)]⟩),
 (322,⟨(.type "tuple"),none,(.seq #[] 0),#[]⟩),
 (324,⟨(.type "dict"),none,(.dict #[⟨(j0 P "__module__"),(.str "__module__" 692),(.str "talejudge.places" 639)⟩,⟨(j0 P "__qualname__"),(.str "__qualname__" 694),(.str "Board" 693)⟩,⟨(j0 P "__firstlineno__"),(.str "__firstlineno__" 696),(.int (187) 695)⟩,kR P "__init__" 702 333,kR P "steps_from" 713 340,kR P "ends_at" 721 347,kR P "has_place" 729 354,kR P "__static_attributes__" 734 355] 8),#[]⟩),
 (332,cP "__init__" "Board.__init__" 697 189 3 329 700),
 (333,fO "__init__" "Board.__init__" (subS (top 52) 0) "talejudge.places" 639 332),
 (339,cO "steps_from" "Board.steps_from" 703 201 2 334 711),
 (340,fO "steps_from" "Board.steps_from" (subS (top 52) 1) "talejudge.places" 639 339),
 (346,cO "ends_at" "Board.ends_at" 714 210 2 341 719),
 (347,fO "ends_at" "Board.ends_at" (subS (top 52) 2) "talejudge.places" 639 346),
 (355,⟨(.type "tuple"),none,(.seq #[(.str "candidates" 730),(.str "ended" 731),(.str "first" 732),(.str "kinds" 733)] 0),#[]⟩),
 (356,⟨(.type "dict"),none,(.dict #[⟨(j0 P "__module__"),(.str "__module__" 692),(.str "talejudge.places" 639)⟩,⟨(j0 P "__firstlineno__"),(.str "__firstlineno__" 696),(.int (187) 695)⟩,kR P "__init__" 702 333,kR P "steps_from" 713 340,kR P "ends_at" 721 347,kR P "has_place" 729 354,kR P "__static_attributes__" 734 355,kR P "__dict__" 736 358,kR P "__weakref__" 738 359,⟨(j0 P "__doc__"),(.str "__doc__" 739),.none⟩] 4),#[]⟩),
 (357,⟨(.type "type"),none,(.cls ⟨"Board",[(.type "object")],[(.ref 357),(.type "object")],356,"Board",true,[],[],false,none,false⟩),#[none,none,some (.str "Board" 685),some (.str "Board" 693),some (.builtin "object.__new__"),some (.bool true)]⟩),
 (367,cO "step_of" "step_of" 742 215 2 362 751),
 (368,fO "step_of" "step_of" (top 53) "talejudge.places" 639 367),
 (372,cP "ended_numbers" "ended_numbers" 754 221 1 369 757),
 (373,fO "ended_numbers" "ended_numbers" (top 54) "talejudge.places" 639 372),
 (377,cP "holds_all" "holds_all" 760 223 2 374 763),
 (378,fO "holds_all" "holds_all" (top 55) "talejudge.places" 639 377),
 (382,cP "first_place" "first_place" 766 225 1 379 769),
 (383,fO "first_place" "first_place" (top 56) "talejudge.places" 639 382),
 (389,cO "judged" "judged" 774 228 2 384 786),
 (390,fO "judged" "judged" (top 58) "talejudge.judge" 772 389),
 (396,cO "_law_cell_at" "_law_cell_at" 791 242 2 391 796),
 (397,fL "_law_cell_at" "_law_cell_at" (top 60) 396),
 (403,cO "_law_stream" "_law_stream" 799 246 2 398 805),
 (404,fL "_law_stream" "_law_stream" (top 61) 403),
 (410,cO "_law_take" "_law_take" 808 249 2 405 814),
 (411,fL "_law_take" "_law_take" (top 62) 410),
 (417,cO "_law_worth" "_law_worth" 817 256 1 412 822),
 (418,fL "_law_worth" "_law_worth" (top 63) 417),
 (424,cO "_law_name" "_law_name" 825 263 1 419 832),
 (425,fL "_law_name" "_law_name" (top 64) 424),
 (431,cO "_law_fresh" "_law_fresh" 835 269 2 426 841),
 (432,fL "_law_fresh" "_law_fresh" (top 65) 431),
 (438,cO "_law_answer" "_law_answer" 844 277 2 433 851),
 (439,fL "_law_answer" "_law_answer" (top 66) 438),
 (445,cO "_law_events" "_law_events" 854 283 4 440 871),
 (446,fL "_law_events" "_law_events" (top 67) 445),
 (452,cO "_law_tale" "_law_tale" 874 306 2 447 882),
 (453,fL "_law_tale" "_law_tale" (top 68) 452),
 (459,cO "_law_deeds" "_law_deeds" 885 311 1 454 894),
 (460,fL "_law_deeds" "_law_deeds" (top 69) 459),
 (473,cO "_law_beside" "_law_beside" 909 336 3 468 919),
 (474,fL "_law_beside" "_law_beside" (top 71) 473),
 (480,cO "_law_with" "_law_with" 922 350 2 475 933),
 (481,fL "_law_with" "_law_with" (top 72) 480),
 (485,cP "law" "law" 936 360 1 482 939),
 (486,fL "law" "law" (top 73) 485)]
noncomputable def HX:Hook:=kHook KX asX (λ _=>by kernel_rfl)
noncomputable abbrev XtX:C0->Bool:=λ s=>xlAt viewX [] s && recOk (RowW.records (OpenRow.toRowW PySem.Challenge.rw_talejudge_k24_whole_read_by_read.row)) s
theorem look1 (w:S0) (os:U2):(staticsOk (B6 PX.main.body) (boot_heap w.params) (S3X w os).abs.heap && namesBound PX (S3X w os).abs.heap && gensDone (S3X w os).abs && laidKept (boot_heap w.params) (S3X w os).abs.heap)=true:=by kernel_rfl
theorem look2 (w:S0) (os:U2):openSeen viewX looseX (B6 PX.main.body) XtX true (S3X w os).abs=openGood viewX looseX:=by rw [PySem.W.Fast.te4187177175401517315];kernel_rfl
theorem look3 (w:S0) (os:U2):Hook.obs HX (S3X w os).abs=Hook.val HX w:=by kernel_rfl
theorem leftX:LeftO PX viewX looseX XtX (Hook.obs HX) (Hook.val HX) 200000:=
 zhy (H₀:=boot_heap) (gs₀:=Array.mk []) (boot_open (by kernel_rfl) (by decide) (λ s=>rfl)) (λ w=>by kernel_rfl) zi4 look1 look2 look3
end K24
set_option maxHeartbeats 4000000
namespace L2
open PySem PySem.Spec PyProof.Rows
theorem FnScope.k {N P:List Str} {sc:Scope} (a:sc.kind=.function:=by exact rfl) (b:sc.isCoroutine=false:=by exact rfl) (c:sc.isGenerator=false:=by exact rfl) (d:N.Nodup:=by decide +kernel) (e:N.take P.length=P:=by exact rfl) (f :∀x∈P,sc.names.lookup x=some .local\/sc.names.lookup x=some .cell:=by decide +kernel) (g :∀y∈sc.names,y.2≠.free:=by decide +kernel):FnScope N P sc:=⟨a,b,c,d,e,f,g⟩
theorem newA {H:Hp} {p:Addr} (o:HO) (h:H p=none) :∃H',H'=upd H p o/\Same H H'/\H' p=some o:=⟨_,rfl,Same.upd h,upd_same⟩
theorem iteK {c A B:Prop} [Decidable c] (h:B) (hc:¬ c:=by decide +kernel):if c then A else B:=iteN hc h
theorem pg_cn {X:Cx} {scope:Scope} {cl:List (Str×Addr)} {N:List Str} {C:Addr} {s₂:C0} {H₂:Hp} {fp:List Addr} {x:Str} {px:Pos} (i:Nat) (hN:N.Nodup:=by decide +kernel) (hi:N[i]? = some x:=by exact rfl) (hx:scope.names.lookup x=some .local:=by exact rfl):PG (cxComp X scope cl N C s₂ H₂ fp) (.Name x px) (gName i):=zhw i hN hi hx
theorem pe_cg {X:Cx} {xs:List Str} {tg:Expr} {g:TG} {pos:Pos} {elt iter:Expr} {ifs:List Expr} {scope:Scope} {fr:List (Nat×Str)} {wi:TI} {tc:TT} {te:TE} (hi:PI X tg iter wi)
  (hg :∀cl C s₂ H₂ fp,PG (cxComp X scope cl (xs++fr.map (·.2)) C s₂ H₂ fp) tg g)
  (ht :∀cl C s₂ H₂ fp,PF (cxComp X scope cl (xs++fr.map (·.2)) C s₂ H₂ fp) ifs tc) (he :∀cl C s₂ H₂ fp,PE (cxComp X scope cl (xs++fr.map (·.2)) C s₂ H₂ fp) elt te) (hcalm:X.calm=true:=by exact rfl)
  (hfr :∀p∈fr,X.N[p.1]? = some p.2/\(X.env.kindOf p.2=some .cell\/X.env.kindOf p.2=some .free):=by first|exact λ _ z=>absurd z A0|(intro p hp;obtain rfl:=List.mem_singleton.mp hp;first|exact ⟨rfl,.inl rfl⟩|exact ⟨rfl,.inr rfl⟩))
  (hin:(scope.names.all λ y=>y.2 != W1 || fr.any λ p=>p.2 == y.1)=true:=by decide +kernel)
  (hfs :∀p∈fr,(p.2,W1)∈scope.names/\((v7 scope X.env).names.lookup p.2=some .cell\/(v7 scope X.env).names.lookup p.2=some .free):=by first|exact λ _ z=>absurd z A0|(intro p hp;obtain rfl:=List.mem_singleton.mp hp;exact ⟨by decide +kernel,by first|exact .inl rfl|exact .inr rfl⟩))
  (hcell :∀y∈scope.names,y.2≠NameKind.cell:=by decide +kernel) (hkind:scope.kind=.function:=by exact rfl) (hnames :∀y∈scope.names,y.2=NameKind.local->scope.names.lookup y.1=some .local:=by decide +kernel)
  (hs :∀x,T5 iter X.env x=N3 x:=by intro _;rfl):PE X (.ListComp elt [⟨tg,iter,ifs,0⟩] scope pos) (tCompG wi xs.length fr g tc te):=
 zi9 hcalm hi hfr (λ y a e=>by
  have h:=List.all_eq_true.mp hin y a;rw [e] at h;obtain ⟨p,hp,z⟩:=List.any_eq_true.mp (show fr.any (λ p=>p.2 == y.1)=true from h);have:=(hfr p hp).2
  rwa [eq_of_beq z] at this) hfs hcell hkind hnames hg ht he hs
end L2
namespace K24
open PySem PySem.Spec PyProof.Rows TJ L2
abbrev Gg (n:Str) (a:Addr):Prop:=∀P,d6 (KX P) y3 n=some (some (.ref a))
abbrev Gn (n:Str):Prop:=∀P,d6 (KX P) y3 n=some none
noncomputable abbrev kx (w:S0):=KX w.params
noncomputable abbrev Ca (P:Program) (w:S0) (mg:Str->Option Value) (base:Heap):=Cal P w (KX w.params) mg base
noncomputable abbrev CaE (P:Program) (w:S0) (mg:Str->Option Value) (base:Heap):=CalE P w (KX w.params) mg base
noncomputable abbrev Fo (P:Program) (w:S0) (mg:Str->Option Value) (base:Heap):=FnOk P w (KX w.params) mg base
theorem z1e:Gn "isinstance":=λ _=>by kernel_rfl
theorem n_len:Gn "len":=λ _=>by kernel_rfl
theorem n_all:Gn "all":=λ _=>by kernel_rfl
theorem n_max:Gn "max":=λ _=>by kernel_rfl
theorem n_int:Gn "int":=λ _=>by kernel_rfl
theorem n_str:Gn "str":=λ _=>by kernel_rfl
theorem n_bool:Gn "bool":=λ _=>by kernel_rfl
theorem zc0:Gn "tuple":=λ _=>by kernel_rfl
theorem zb5:Gn "range":=λ _=>by kernel_rfl
theorem zha:Gn "sorted":=λ _=>by kernel_rfl
theorem n_set:Gn "set":=λ _=>by kernel_rfl
theorem z0u:Gn "enumerate":=λ _=>by kernel_rfl
theorem zd5:Gn "reversed":=λ _=>by kernel_rfl
theorem z5g (P:M0):d6 (KX P) y3 "GREATEST_WORTH" = some (some (.int (1000000000) 264)):=by kernel_rfl
theorem zdy:Gg "is_whole" 77:=λ _=>by kernel_rfl
theorem zcg:Gg "is_within" 84:=λ _=>by kernel_rfl
theorem zdx:Gg "is_worth" 91:=λ _=>by kernel_rfl
theorem z8v:Gg "is_tuple_of" 98:=λ _=>by kernel_rfl
theorem z3k:Gg "FIRST_STATES" 99:=λ _=>by kernel_rfl
theorem z50:Gg "WORTHS_OF_VERBS" 102:=λ _=>by kernel_rfl
theorem z5l:Gg "read_state" 109:=λ _=>by kernel_rfl
theorem z4w:Gg "write_state" 116:=λ _=>by kernel_rfl
theorem zgz:Gg "DOERS" 164:=λ _=>by kernel_rfl
theorem zge:Gg "is_kind" 183:=λ _=>by kernel_rfl
theorem z8e:Gg "first_state" 190:=λ _=>by kernel_rfl
theorem zfv:Gg "is_deed" 195:=λ _=>by kernel_rfl
theorem g_do:Gg "do" 202:=λ _=>by kernel_rfl
theorem ziw:Gg "deeds" 209:=λ _=>by kernel_rfl
theorem z4x:Gg "FIRST_WRITE" 210:=λ _=>by kernel_rfl
theorem z8w:Gg "plain_deeds" 215:=λ _=>by kernel_rfl
theorem zco:Gg "are_plain" 220:=λ _=>by kernel_rfl
theorem z9f:Gg "is_answered" 227:=λ _=>by kernel_rfl
theorem zbn:Gg "writers" 234:=λ _=>by kernel_rfl
theorem z87:Gg "ended_reads" 239:=λ _=>by kernel_rfl
theorem z3m:Gg "lone_writer_deeds" 244:=λ _=>by kernel_rfl
theorem zav:Gg "is_regular" 251:=λ _=>by kernel_rfl
theorem zfb:Gg "is_safe" 258:=λ _=>by kernel_rfl
theorem z6c:Gg "writes_beside" 263:=λ _=>by kernel_rfl
theorem zas:Gg "last_ahead" 268:=λ _=>by kernel_rfl
theorem za6:Gg "turn_about" 273:=λ _=>by kernel_rfl
theorem z6w:Gg "STRICTNESSES" 274:=λ _=>by kernel_rfl
theorem zh9:Gg "has_to" 281:=λ _=>by kernel_rfl
theorem z4i:Gg "check_strictness" 288:=λ _=>by kernel_rfl
theorem zaf:Gg "goes_ahead" 295:=λ _=>by kernel_rfl
theorem zc9:Gg "Candidate" 317:=λ _=>by kernel_rfl
theorem zj0:Gg "Board" 357:=λ _=>by kernel_rfl
theorem zfc:Gg "step_of" 368:=λ _=>by kernel_rfl
theorem z64:Gg "ended_numbers" 373:=λ _=>by kernel_rfl
theorem zcv:Gg "holds_all" 378:=λ _=>by kernel_rfl
theorem z95:Gg "first_place" 383:=λ _=>by kernel_rfl
theorem zhm:Gg "judged" 390:=λ _=>by kernel_rfl
theorem z76:Gg "_law_cell_at" 397:=λ _=>by kernel_rfl
theorem z94:Gg "_law_stream" 404:=λ _=>by kernel_rfl
theorem zce:Gg "_law_take" 411:=λ _=>by kernel_rfl
theorem zax:Gg "_law_worth" 418:=λ _=>by kernel_rfl
theorem zcl:Gg "_law_name" 425:=λ _=>by kernel_rfl
theorem zap:Gg "_law_fresh" 432:=λ _=>by kernel_rfl
theorem z9n:Gg "_law_answer" 439:=λ _=>by kernel_rfl
theorem z8g:Gg "_law_events" 446:=λ _=>by kernel_rfl
theorem zci:Gg "_law_tale" 453:=λ _=>by kernel_rfl
theorem za5:Gg "_law_deeds" 460:=λ _=>by kernel_rfl
theorem z9b:Gg "_law_beside" 474:=λ _=>by kernel_rfl
theorem zcx:Gg "_law_with" 481:=λ _=>by kernel_rfl
theorem g_law:Gg "law" 486:=λ _=>by kernel_rfl
noncomputable def z6b:List (Str×V):=[("register",.int (0)),("counter",.int (0)),("queue",.ref 100),("set",.ref 101),("cell",.int (0))]
theorem z2y (P:M0):KDict (KX P) P 99 z6b:=⟨⟨#[⟨(j0 P "register"),(.str "register" 298),(.int (0) 299)⟩,⟨(j0 P "counter"),(.str "counter" 300),(.int (0) 301)⟩,⟨(j0 P "queue"),(.str "queue" 302),(.ref 100)⟩,⟨(j0 P "set"),(.str "set" 303),(.ref 101)⟩,⟨(j0 P "cell"),(.str "cell" 304),(.int (0) 305)⟩],5,by kernel_rfl,(.cons ⟨⟨_,rfl⟩,rfl,⟨_,rfl⟩⟩ (.cons ⟨⟨_,rfl⟩,rfl,⟨_,rfl⟩⟩ (.cons ⟨⟨_,rfl⟩,rfl,rfl⟩ (.cons ⟨⟨_,rfl⟩,rfl,rfl⟩ (.cons ⟨⟨_,rfl⟩,rfl,⟨_,rfl⟩⟩ .nil)))))⟩,by decide⟩
noncomputable def z4c:List (Str×V):=[("read",.int (0)),("take",.int (0)),("write",.int (1)),("add",.int (1)),("put",.int (1)),("cut",.int (1)),("has",.int (1)),("swap",.int (2))]
theorem z4h (P:M0):KDict (KX P) P 102 z4c:=⟨⟨#[⟨(j0 P "read"),(.str "read" 312),(.int (0) 313)⟩,⟨(j0 P "take"),(.str "take" 314),(.int (0) 315)⟩,⟨(j0 P "write"),(.str "write" 316),(.int (1) 317)⟩,⟨(j0 P "add"),(.str "add" 318),(.int (1) 319)⟩,⟨(j0 P "put"),(.str "put" 320),(.int (1) 321)⟩,⟨(j0 P "cut"),(.str "cut" 322),(.int (1) 323)⟩,⟨(j0 P "has"),(.str "has" 324),(.int (1) 325)⟩,⟨(j0 P "swap"),(.str "swap" 326),(.int (2) 327)⟩],8,by kernel_rfl,(.cons ⟨⟨_,rfl⟩,rfl,⟨_,rfl⟩⟩ (.cons ⟨⟨_,rfl⟩,rfl,⟨_,rfl⟩⟩ (.cons ⟨⟨_,rfl⟩,rfl,⟨_,rfl⟩⟩ (.cons ⟨⟨_,rfl⟩,rfl,⟨_,rfl⟩⟩ (.cons ⟨⟨_,rfl⟩,rfl,⟨_,rfl⟩⟩ (.cons ⟨⟨_,rfl⟩,rfl,⟨_,rfl⟩⟩ (.cons ⟨⟨_,rfl⟩,rfl,⟨_,rfl⟩⟩ (.cons ⟨⟨_,rfl⟩,rfl,⟨_,rfl⟩⟩ .nil))))))))⟩,by decide⟩
noncomputable def zhx:List ((Str×Str)×V):=[(("register","read"),.ref 109),(("register","write"),.ref 116),(("counter","read"),.ref 109),(("counter","add"),.ref 123),(("queue","put"),.ref 130),(("queue","take"),.ref 137),(("set","put"),.ref 144),(("set","cut"),.ref 149),(("set","has"),.ref 156),(("cell","read"),.ref 109),(("cell","write"),.ref 116),(("cell","swap"),.ref 163)]
theorem zd7 (P:M0):KDictT (KX P) P 164 zhx:=⟨⟨#[⟨(F1 (u0 [j0 P "register",j0 P "read"])),(.ref 165),(.ref 109)⟩,⟨(F1 (u0 [j0 P "register",j0 P "write"])),(.ref 166),(.ref 116)⟩,⟨(F1 (u0 [j0 P "counter",j0 P "read"])),(.ref 167),(.ref 109)⟩,⟨(F1 (u0 [j0 P "counter",j0 P "add"])),(.ref 168),(.ref 123)⟩,⟨(F1 (u0 [j0 P "queue",j0 P "put"])),(.ref 169),(.ref 130)⟩,⟨(F1 (u0 [j0 P "queue",j0 P "take"])),(.ref 170),(.ref 137)⟩,⟨(F1 (u0 [j0 P "set",j0 P "put"])),(.ref 171),(.ref 144)⟩,⟨(F1 (u0 [j0 P "set",j0 P "cut"])),(.ref 172),(.ref 149)⟩,⟨(F1 (u0 [j0 P "set",j0 P "has"])),(.ref 173),(.ref 156)⟩,⟨(F1 (u0 [j0 P "cell",j0 P "read"])),(.ref 174),(.ref 109)⟩,⟨(F1 (u0 [j0 P "cell",j0 P "write"])),(.ref 175),(.ref 116)⟩,⟨(F1 (u0 [j0 P "cell",j0 P "swap"])),(.ref 176),(.ref 163)⟩],12,by kernel_rfl,(.cons ⟨⟨165,407,408,0,rfl,by kernel_rfl⟩,rfl,rfl⟩ (.cons ⟨⟨166,409,410,0,rfl,by kernel_rfl⟩,rfl,rfl⟩ (.cons ⟨⟨167,411,412,0,rfl,by kernel_rfl⟩,rfl,rfl⟩ (.cons ⟨⟨168,413,414,0,rfl,by kernel_rfl⟩,rfl,rfl⟩ (.cons ⟨⟨169,415,416,0,rfl,by kernel_rfl⟩,rfl,rfl⟩ (.cons ⟨⟨170,417,418,0,rfl,by kernel_rfl⟩,rfl,rfl⟩ (.cons ⟨⟨171,419,420,0,rfl,by kernel_rfl⟩,rfl,rfl⟩ (.cons ⟨⟨172,421,422,0,rfl,by kernel_rfl⟩,rfl,rfl⟩ (.cons ⟨⟨173,423,424,0,rfl,by kernel_rfl⟩,rfl,rfl⟩ (.cons ⟨⟨174,425,426,0,rfl,by kernel_rfl⟩,rfl,rfl⟩ (.cons ⟨⟨175,427,428,0,rfl,by kernel_rfl⟩,rfl,rfl⟩ (.cons ⟨⟨176,429,430,0,rfl,by kernel_rfl⟩,rfl,rfl⟩ .nil))))))))))))⟩,by decide +kernel,by decide⟩
noncomputable abbrev y29:Stmt:=top 8
noncomputable abbrev y1b:FuncData:=fnX "is_whole" "is_whole" (top 8) "talejudge.basics" 262 76
theorem z5e (P:M0):Fun (KX P) "is_whole" "is_whole" y29 77 y1b:=z0b
theorem zd6 (P:M0):Binds (KX P) y1b ["value"] []:=(z5e P).binds λ _ _ _ _ _ _=>us1 λ _=>rfl
theorem zc7:FnScope ["value"] ["value"] (z06 y29):=.k
noncomputable abbrev y20:Stmt:=top 9
noncomputable abbrev y10:FuncData:=fnX "is_within" "is_within" (top 9) "talejudge.basics" 262 83
theorem z4j (P:M0):Fun (KX P) "is_within" "is_within" y20 84 y10:=z0b
theorem zct (P:M0):Binds (KX P) y10 ["value","greatest"] []:=(z4j P).binds λ _ _ _ _ _ _=>us2 λ _ _=>rfl
theorem zaz:FnScope ["value","greatest"] ["value","greatest"] (z06 y20):=.k
noncomputable abbrev y2a:Stmt:=top 10
noncomputable abbrev y1c:FuncData:=fnX "is_worth" "is_worth" (top 10) "talejudge.basics" 262 90
theorem z5c (P:M0):Fun (KX P) "is_worth" "is_worth" y2a 91 y1c:=z0b
theorem zeu (P:M0):Binds (KX P) y1c ["value"] []:=(z5c P).binds λ _ _ _ _ _ _=>us1 λ _=>rfl
theorem zcn:FnScope ["value"] ["value"] (z06 y2a):=.k
noncomputable abbrev y1d:Stmt:=top 11
noncomputable abbrev y0f:FuncData:=fnX "is_tuple_of" "is_tuple_of" (top 11) "talejudge.basics" 262 97
theorem z2b (P:M0):Fun (KX P) "is_tuple_of" "is_tuple_of" y1d 98 y0f:=z0b
theorem z9p (P:M0):Binds (KX P) y0f ["value","many"] []:=(z2b P).binds λ _ _ _ _ _ _=>us2 λ _ _=>rfl
theorem z6y:FnScope ["value","many"] ["value","many"] (z06 y1d):=.k
noncomputable abbrev y1s:Stmt:=top 15
noncomputable abbrev y0q:FuncData:=fnX "read_state" "read_state" (top 15) "talejudge.store" 296 108
theorem z3c (P:M0):Fun (KX P) "read_state" "read_state" y1s 109 y0q:=z0b
theorem zaq (P:M0):Binds (KX P) y0q ["state","worth"] []:=(z3c P).binds λ _ _ _ _ _ _=>us2 λ _ _=>rfl
theorem z90:FnScope ["state","worth"] ["state","worth"] (z06 y1s):=.k
noncomputable abbrev y1e:Stmt:=top 16
noncomputable abbrev y0g:FuncData:=fnX "write_state" "write_state" (top 16) "talejudge.store" 296 115
theorem z26 (P:M0):Fun (KX P) "write_state" "write_state" y1e 116 y0g:=z0b
theorem z8s (P:M0):Binds (KX P) y0g ["state","worth"] []:=(z26 P).binds λ _ _ _ _ _ _=>us2 λ _ _=>rfl
theorem z75:FnScope ["state","worth"] ["state","worth"] (z06 y1e):=.k
noncomputable abbrev y2c:Stmt:=top 25
noncomputable abbrev y1o:FuncData:=fnX "is_kind" "is_kind" (top 25) "talejudge.store" 296 182
theorem z82 (P:M0):Fun (KX P) "is_kind" "is_kind" y2c 183 y1o:=z0b
theorem zg6 (P:M0):Binds (KX P) y1o ["kind"] []:=(z82 P).binds λ _ _ _ _ _ _=>us1 λ _=>rfl
theorem zek:FnScope ["kind"] ["kind"] (z06 y2c):=.k
noncomputable abbrev y1f:Stmt:=top 26
noncomputable abbrev y0h:FuncData:=fnX "first_state" "first_state" (top 26) "talejudge.store" 296 189
theorem z2f (P:M0):Fun (KX P) "first_state" "first_state" y1f 190 y0h:=z0b
theorem z88 (P:M0):Binds (KX P) y0h ["kind"] []:=(z2f P).binds λ _ _ _ _ _ _=>us1 λ _=>rfl
theorem z7b:FnScope ["kind"] ["kind"] (z06 y1f):=.k
noncomputable abbrev y2d:Stmt:=top 27
noncomputable abbrev y1p:FuncData:=fnX "is_deed" "is_deed" (top 27) "talejudge.store" 296 194
theorem z7d (P:M0):Fun (KX P) "is_deed" "is_deed" y2d 195 y1p:=z0b
theorem zgf (P:M0):Binds (KX P) y1p ["kind","verb","worth"] []:=(z7d P).binds λ _ _ _ _ _ _=>us3 λ _ _ _=>rfl
theorem sc_is_deed:FnScope ["kind","verb","worth","many"] ["kind","verb","worth"] (z06 y2d):=.k
noncomputable abbrev y2k:Stmt:=top 28
noncomputable abbrev y2l:FuncData:=fnX "do" "do" (top 28) "talejudge.store" 296 201
theorem F_do (P:M0):Fun (KX P) "do" "do" y2k 202 y2l:=z0b
theorem b_do (P:M0):Binds (KX P) y2l ["kind","state","verb","worth"] []:=(F_do P).binds λ _ _ _ _ _ _=>us4 λ _ _ _ _=>rfl
theorem sc_do:FnScope ["kind","state","verb","worth","doer"] ["kind","state","verb","worth"] (z06 y2k):=.k
noncomputable abbrev y2j:Stmt:=top 30
noncomputable abbrev y2b:FuncData:=fnX "deeds" "deeds" (top 30) "talejudge.tales" 499 208
theorem zdh (P:M0):Fun (KX P) "deeds" "deeds" y2j 209 y2b:=z0b
theorem zjj (P:M0):Binds (KX P) y2b ["tale"] []:=(zdh P).binds λ _ _ _ _ _ _=>us1 λ _=>rfl
theorem sc_deeds:FnScope ["tale","told","numbers","place","event","number","begun"] ["tale"] (z06 y2j):=.k
noncomputable abbrev y1g:Stmt:=top 33
noncomputable abbrev y0i:FuncData:=fnX "plain_deeds" "plain_deeds" (top 33) "talejudge.zones" 514 214
theorem z2c (P:M0):Fun (KX P) "plain_deeds" "plain_deeds" y1g 215 y0i:=z0b
theorem z9l (P:M0):Binds (KX P) y0i ["tale"] []:=(z2c P).binds λ _ _ _ _ _ _=>us1 λ _=>rfl
theorem sc_plain_deeds:FnScope ["tale","told"] ["tale"] (z06 y1g):=.k
noncomputable abbrev y21:Stmt:=top 34
noncomputable abbrev y11:FuncData:=fnX "are_plain" "are_plain" (top 34) "talejudge.zones" 514 219
theorem z4d (P:M0):Fun (KX P) "are_plain" "are_plain" y21 220 y11:=z0b
theorem zch (P:M0):Binds (KX P) y11 ["told"] []:=(z4d P).binds λ _ _ _ _ _ _=>us1 λ _=>rfl
theorem sc_are_plain:FnScope ["told","worths"] ["told"] (z06 y21):=.k
noncomputable abbrev y1h:Stmt:=top 35
noncomputable abbrev y0j:FuncData:=fnX "is_answered" "is_answered" (top 35) "talejudge.zones" 514 226
theorem z2d (P:M0):Fun (KX P) "is_answered" "is_answered" y1h 227 y0j:=z0b
theorem z9d (P:M0):Binds (KX P) y0j ["deed"] []:=(z2d P).binds λ _ _ _ _ _ _=>us1 λ _=>rfl
theorem z7c:FnScope ["deed"] ["deed"] (z06 y1h):=.k
noncomputable abbrev y2e:Stmt:=top 36
noncomputable abbrev y0z:FuncData:=fnX "writers" "writers" (top 36) "talejudge.zones" 514 233
theorem z3p (P:M0):Fun (KX P) "writers" "writers" y2e 234 y0z:=z0b
theorem zc4 (P:M0):Binds (KX P) y0z ["told"] []:=(z3p P).binds λ _ _ _ _ _ _=>us1 λ _=>rfl
theorem sc_writers:FnScope ["told","found","deed"] ["told"] (z06 y2e):=.k
noncomputable abbrev y1i:Stmt:=top 37
noncomputable abbrev y0k:FuncData:=fnX "ended_reads" "ended_reads" (top 37) "talejudge.zones" 514 238
theorem z2l (P:M0):Fun (KX P) "ended_reads" "ended_reads" y1i 239 y0k:=z0b
theorem z8i (P:M0):Binds (KX P) y0k ["told"] []:=(z2l P).binds λ _ _ _ _ _ _=>us1 λ _=>rfl
theorem z7e:FnScope ["told"] ["told"] (z06 y1i):=.k
noncomputable abbrev y0b:Stmt:=top 39
noncomputable abbrev y04:FuncData:=fnX "lone_writer_deeds" "lone_writer_deeds" (top 39) "talejudge.weaker" 555 243
theorem z0z (P:M0):Fun (KX P) "lone_writer_deeds" "lone_writer_deeds" y0b 244 y04:=z0b
theorem z47 (P:M0):Binds (KX P) y04 ["tale"] []:=(z0z P).binds λ _ _ _ _ _ _=>us1 λ _=>rfl
theorem sc_lone_writer_deeds:FnScope ["tale","told"] ["tale"] (z06 y0b):=.k
noncomputable abbrev y1t:Stmt:=top 40
noncomputable abbrev y0r:FuncData:=fnX "is_regular" "is_regular" (top 40) "talejudge.weaker" 555 250
theorem z3a (P:M0):Fun (KX P) "is_regular" "is_regular" y1t 251 y0r:=z0b
theorem z9x (P:M0):Binds (KX P) y0r ["tale"] []:=(z3a P).binds λ _ _ _ _ _ _=>us1 λ _=>rfl
theorem sc_is_regular:FnScope ["tale","told","written","number","read"] ["tale"] (z06 y1t):=.k
noncomputable abbrev y2f:Stmt:=top 41
noncomputable abbrev y1q:FuncData:=fnX "is_safe" "is_safe" (top 41) "talejudge.weaker" 555 257
theorem z84 (P:M0):Fun (KX P) "is_safe" "is_safe" y2f 258 y1q:=z0b
theorem zff (P:M0):Binds (KX P) y1q ["tale"] []:=(z84 P).binds λ _ _ _ _ _ _=>us1 λ _=>rfl
theorem sc_is_safe:FnScope ["tale","told","written","number","read"] ["tale"] (z06 y2f):=.k
noncomputable abbrev y12:Stmt:=top 42
noncomputable abbrev y08:FuncData:=fnX "writes_beside" "writes_beside" (top 42) "talejudge.weaker" 555 262
theorem z1p (P:M0):Fun (KX P) "writes_beside" "writes_beside" y12 263 y08:=z0b
theorem z6d (P:M0):Binds (KX P) y08 ["written","read"] []:=(z1p P).binds λ _ _ _ _ _ _=>us2 λ _ _=>rfl
theorem sc_writes_beside:FnScope ["written","read","begun"] ["written","read"] (z06 y12):=.k
noncomputable abbrev y1u:Stmt:=top 43
noncomputable abbrev y0s:FuncData:=fnX "last_ahead" "last_ahead" (top 43) "talejudge.weaker" 555 267
theorem z3b (P:M0):Fun (KX P) "last_ahead" "last_ahead" y1u 268 y0s:=z0b
theorem zaw (P:M0):Binds (KX P) y0s ["written","read"] []:=(z3b P).binds λ _ _ _ _ _ _=>us2 λ _ _=>rfl
theorem z9g:FnScope ["written","read"] ["written","read"] (z06 y1u):=.k
noncomputable abbrev y1v:Stmt:=top 44
noncomputable abbrev y0t:FuncData:=fnX "turn_about" "turn_about" (top 44) "talejudge.weaker" 555 272
theorem z38 (P:M0):Fun (KX P) "turn_about" "turn_about" y1v 273 y0t:=z0b
theorem zah (P:M0):Binds (KX P) y0t ["tale"] []:=(z38 P).binds λ _ _ _ _ _ _=>us1 λ _=>rfl
theorem sc_turn_about:FnScope ["tale","told","written","reads","number","read","behind","other"] ["tale"] (z06 y1v):=.k
noncomputable abbrev y2h:Stmt:=top 47
noncomputable abbrev y22:FuncData:=fnX "has_to" "has_to" (top 47) "talejudge.orders" 603 280
theorem za3 (P:M0):Fun (KX P) "has_to" "has_to" y2h 281 y22:=z0b
theorem zi3 (P:M0):Binds (KX P) y22 ["tale","strictness"] []:=(za3 P).binds λ _ _ _ _ _ _=>us2 λ _ _=>rfl
theorem sc_has_to:FnScope ["tale","strictness","told","pairs","ahead","one","behind","other"] ["tale","strictness"] (z06 y2h):=.k
noncomputable abbrev y0d:Stmt:=top 48
noncomputable abbrev y06:FuncData:=fnX "check_strictness" "check_strictness" (top 48) "talejudge.orders" 603 287
theorem z10 (P:M0):Fun (KX P) "check_strictness" "check_strictness" y0d 288 y06:=z0b
theorem z4l (P:M0):Binds (KX P) y06 ["strictness"] []:=(z10 P).binds λ _ _ _ _ _ _=>us1 λ _=>rfl
theorem z46:FnScope ["strictness"] ["strictness"] (z06 y0d):=.k
noncomputable abbrev y1w:Stmt:=top 49
noncomputable abbrev y0u:FuncData:=fnX "goes_ahead" "goes_ahead" (top 49) "talejudge.orders" 603 294
theorem z33 (P:M0):Fun (KX P) "goes_ahead" "goes_ahead" y1w 295 y0u:=z0b
theorem zaa (P:M0):Binds (KX P) y0u ["one","other","strictness"] []:=(z33 P).binds λ _ _ _ _ _ _=>us3 λ _ _ _=>rfl
theorem z8t:FnScope ["one","other","strictness"] ["one","other","strictness"] (z06 y1w):=.k
noncomputable abbrev y2g:Stmt:=top 53
noncomputable abbrev y1r:FuncData:=fnX "step_of" "step_of" (top 53) "talejudge.places" 639 367
theorem z7f (P:M0):Fun (KX P) "step_of" "step_of" y2g 368 y1r:=z0b
theorem zf7 (P:M0):Binds (KX P) y1r ["candidate","place"] []:=(z7f P).binds λ _ _ _ _ _ _=>us2 λ _ _=>rfl
theorem sc_step_of:FnScope ["candidate","place","thing","states","done","numbers"] ["candidate","place"] (z06 y2g):=.k
noncomputable abbrev y13:Stmt:=top 54
noncomputable abbrev y09:FuncData:=fnX "ended_numbers" "ended_numbers" (top 54) "talejudge.places" 639 372
theorem z1q (P:M0):Fun (KX P) "ended_numbers" "ended_numbers" y13 373 y09:=z0b
theorem z6e (P:M0):Binds (KX P) y09 ["told"] []:=(z1q P).binds λ _ _ _ _ _ _=>us1 λ _=>rfl
theorem z5r:FnScope ["told"] ["told"] (z06 y13):=.k
noncomputable abbrev y23:Stmt:=top 55
noncomputable abbrev y14:FuncData:=fnX "holds_all" "holds_all" (top 55) "talejudge.places" 639 377
theorem z4a (P:M0):Fun (KX P) "holds_all" "holds_all" y23 378 y14:=z0b
theorem zca (P:M0):Binds (KX P) y14 ["done","numbers"] []:=(z4a P).binds λ _ _ _ _ _ _=>us2 λ _ _=>rfl
theorem za1:FnScope ["done","numbers"] ["done","numbers"] (z06 y23):=.k
noncomputable abbrev y1j:Stmt:=top 56
noncomputable abbrev y0l:FuncData:=fnX "first_place" "first_place" (top 56) "talejudge.places" 639 382
theorem z2q (P:M0):Fun (KX P) "first_place" "first_place" y1j 383 y0l:=z0b
theorem z8o (P:M0):Binds (KX P) y0l ["tale"] []:=(z2q P).binds λ _ _ _ _ _ _=>us1 λ _=>rfl
theorem z7g:FnScope ["tale"] ["tale"] (z06 y1j):=.k
noncomputable abbrev y2i:Stmt:=top 58
noncomputable abbrev y24:FuncData:=fnX "judged" "judged" (top 58) "talejudge.judge" 772 389
theorem zal (P:M0):Fun (KX P) "judged" "judged" y2i 390 y24:=z0b
theorem zi7 (P:M0):Binds (KX P) y24 ["tale","strictness"] []:=(zal P).binds λ _ _ _ _ _ _=>us2 λ _ _=>rfl
theorem sc_judged:FnScope ["tale","strictness","board","seen","waiting","reached","number","answer","place"] ["tale","strictness"] (z06 y2i):=.k
noncomputable abbrev y1a:Stmt:=top 60
noncomputable abbrev y0c:FuncData:=fY "_law_cell_at" "_law_cell_at" (top 60) 396
theorem z1w (P:M0):Fun (KX P) "_law_cell_at" "_law_cell_at" y1a 397 y0c:=z0b
theorem z7z (P:M0):Binds (KX P) y0c ["script","k"] []:=(z1w P).binds λ _ _ _ _ _ _=>us2 λ _ _=>rfl
theorem z67:FnScope ["script","k"] ["script","k"] (z06 y1a):=.k
noncomputable abbrev y1k:Stmt:=top 61
noncomputable abbrev y0m:FuncData:=fY "_law_stream" "_law_stream" (top 61) 403
theorem z2h (P:M0):Fun (KX P) "_law_stream" "_law_stream" y1k 404 y0m:=z0b
theorem z9i (P:M0):Binds (KX P) y0m ["cell","way"] []:=(z2h P).binds λ _ _ _ _ _ _=>us2 λ _ _=>rfl
theorem sc__law_stream:FnScope ["cell","way","low"] ["cell","way"] (z06 y1k):=.k
noncomputable abbrev y25:Stmt:=top 62
noncomputable abbrev y15:FuncData:=fY "_law_take" "_law_take" (top 62) 410
theorem z4m (P:M0):Fun (KX P) "_law_take" "_law_take" y25 411 y15:=z0b
theorem zcc (P:M0):Binds (KX P) y15 ["row","many"] []:=(z4m P).binds λ _ _ _ _ _ _=>us2 λ _ _=>rfl
theorem sc__law_take:FnScope ["row","many","told"] ["row","many"] (z06 y25):=.k
noncomputable abbrev y1x:Stmt:=top 63
noncomputable abbrev y0v:FuncData:=fY "_law_worth" "_law_worth" (top 63) 417
theorem z3e (P:M0):Fun (KX P) "_law_worth" "_law_worth" y1x 418 y0v:=z0b
theorem za0 (P:M0):Binds (KX P) y0v ["row"] []:=(z3e P).binds λ _ _ _ _ _ _=>us1 λ _=>rfl
theorem sc__law_worth:FnScope ["row","kind"] ["row"] (z06 y1x):=.k
noncomputable abbrev y26:Stmt:=top 64
noncomputable abbrev y16:FuncData:=fY "_law_name" "_law_name" (top 64) 424
theorem z48 (P:M0):Fun (KX P) "_law_name" "_law_name" y26 425 y16:=z0b
theorem zcu (P:M0):Binds (KX P) y16 ["row"] []:=(z48 P).binds λ _ _ _ _ _ _=>us1 λ _=>rfl
theorem sc__law_name:FnScope ["row","letters","name","k"] ["row"] (z06 y26):=.k
noncomputable abbrev y1y:Stmt:=top 65
noncomputable abbrev y0w:FuncData:=fY "_law_fresh" "_law_fresh" (top 65) 431
theorem z34 (P:M0):Fun (KX P) "_law_fresh" "_law_fresh" y1y 432 y0w:=z0b
theorem zae (P:M0):Binds (KX P) y0w ["row","used"] []:=(z34 P).binds λ _ _ _ _ _ _=>us2 λ _ _=>rfl
theorem sc__law_fresh:FnScope ["row","used","worth"] ["row","used"] (z06 y1y):=.k
noncomputable abbrev y1l:Stmt:=top 66
noncomputable abbrev y0n:FuncData:=fY "_law_answer" "_law_answer" (top 66) 438
theorem z2e (P:M0):Fun (KX P) "_law_answer" "_law_answer" y1l 439 y0n:=z0b
theorem z91 (P:M0):Binds (KX P) y0n ["row","worths"] []:=(z2e P).binds λ _ _ _ _ _ _=>us2 λ _ _=>rfl
theorem sc__law_answer:FnScope ["row","worths","kind","back"] ["row","worths"] (z06 y1l):=.k
noncomputable abbrev y1m:Stmt:=top 67
noncomputable abbrev y0o:FuncData:=fY "_law_events" "_law_events" (top 67) 445
theorem z2k (P:M0):Fun (KX P) "_law_events" "_law_events" y1m 446 y0o:=z0b
theorem z8r (P:M0):Binds (KX P) y0o ["cells","way","head","name"] []:=(z2k P).binds λ _ _ _ _ _ _=>us4 λ _ _ _ _=>rfl
theorem sc__law_events:FnScope ["cells","way","head","name","hands","writer","used","worths","busy","events","cell","row","hand","answer"] ["cells","way","head","name"] (z06 y1m):=.k
noncomputable abbrev y27:Stmt:=top 68
noncomputable abbrev y17:FuncData:=fY "_law_tale" "_law_tale" (top 68) 452
theorem z4g (P:M0):Fun (KX P) "_law_tale" "_law_tale" y27 453 y17:=z0b
theorem zcf (P:M0):Binds (KX P) y17 ["script","most"] []:=(z4g P).binds λ _ _ _ _ _ _=>us2 λ _ _=>rfl
theorem sc__law_tale:FnScope ["script","most","first","head","name"] ["script","most"] (z06 y27):=.k
noncomputable abbrev y1z:Stmt:=top 69
noncomputable abbrev y0x:FuncData:=fY "_law_deeds" "_law_deeds" (top 69) 459
theorem z39 (P:M0):Fun (KX P) "_law_deeds" "_law_deeds" y1z 460 y0x:=z0b
theorem zan (P:M0):Binds (KX P) y0x ["events"] []:=(z39 P).binds λ _ _ _ _ _ _=>us1 λ _=>rfl
theorem sc__law_deeds:FnScope ["events","found","last","place","event","deed"] ["events"] (z06 y1z):=.k
noncomputable abbrev y1n:Stmt:=top 71
noncomputable abbrev y0p:FuncData:=fY "_law_beside" "_law_beside" (top 71) 473
theorem z27 (P:M0):Fun (KX P) "_law_beside" "_law_beside" y1n 474 y0p:=z0b
theorem z8l (P:M0):Binds (KX P) y0p ["events","begin","end"] []:=(z27 P).binds λ _ _ _ _ _ _=>us3 λ _ _ _=>rfl
theorem sc__law_beside:FnScope ["events","begin","end","found","open_one","place","event"] ["events","begin","end"] (z06 y1n):=.k
noncomputable abbrev y28:Stmt:=top 72
noncomputable abbrev y18:FuncData:=fY "_law_with" "_law_with" (top 72) 480
theorem z4b (P:M0):Fun (KX P) "_law_with" "_law_with" y28 481 y18:=z0b
theorem zcw (P:M0):Binds (KX P) y18 ["tale","places"] []:=(z4b P).binds λ _ _ _ _ _ _=>us2 λ _ _=>rfl
theorem sc__law_with:FnScope ["tale","places","things","events","found","mine","place","event"] ["tale","places"] (z06 y28):=.k
noncomputable abbrev y2m:Stmt:=top 73
noncomputable abbrev fd_law:FuncData:=fY "law" "law" (top 73) 485
theorem F_law (P:M0):Fun (KX P) "law" "law" y2m 486 fd_law:=z0b
theorem sc_law:FnScope ["script","tale","events","reads","good","calm","k","pair","fine"] ["script"] (z06 y2m):=.k
noncomputable abbrev y0a:Stmt:=subS (top 51) 0
noncomputable abbrev y01:FuncData:=fnX "__init__" "Candidate.__init__" (subS (top 51) 0) "talejudge.places" 639 306
theorem z1a (P:M0):Fun (KX P) "__init__" "Candidate.__init__" y0a 307 y01:=z0b
theorem z35 (P:M0):Binds (KX P) y01 ["self","number","deed","thing","kind","pairs"] []:=(z1a P).binds λ _ _ _ _ _ _=>us6 λ _ _ _ _ _ _=>rfl
theorem z2u:FnScope ["self","number","deed","thing","kind","pairs"] ["self","number","deed","thing","kind","pairs"] (z06 y0a):=.k
theorem zb0 (P:M0):Mk (KX P) 317 307:=⟨by kernel_rfl,by kernel_rfl,by kernel_rfl,by kernel_rfl⟩
theorem z09 (P:M0):Cls (KX P) 317:=⟨by kernel_rfl,by kernel_rfl,by kernel_rfl,by kernel_rfl⟩
theorem z0k (P:M0):NoAttr (KX P) 317 "number":=by unfold NoAttr;kernel_rfl
theorem z1s (P:M0):NoAttr (KX P) 317 "thing":=by unfold NoAttr;kernel_rfl
theorem z22 (P:M0):NoAttr (KX P) 317 "kind":=by unfold NoAttr;kernel_rfl
theorem z20 (P:M0):NoAttr (KX P) 317 "verb":=by unfold NoAttr;kernel_rfl
theorem z1r (P:M0):NoAttr (KX P) 317 "worth":=by unfold NoAttr;kernel_rfl
theorem z0x (P:M0):NoAttr (KX P) 317 "answer":=by unfold NoAttr;kernel_rfl
theorem z1h (P:M0):NoAttr (KX P) 317 "aheads":=by unfold NoAttr;kernel_rfl
theorem z1d (P:M0):NoAttr (KX P) 317 "behinds":=by unfold NoAttr;kernel_rfl
noncomputable abbrev y07:Stmt:=subS (top 51) 1
noncomputable abbrev y00:FuncData:=fnX "may_stand" "Candidate.may_stand" (subS (top 51) 1) "talejudge.places" 639 313
theorem z15 (P:M0):Fun (KX P) "may_stand" "Candidate.may_stand" y07 314 y00:=z0b
theorem z2v (P:M0):Binds (KX P) y00 ["self","done"] []:=(z15 P).binds λ _ _ _ _ _ _=>us2 λ _ _=>rfl
theorem sc_Candidate_may_stand:FnScope ["self","done","ahead","behind"] ["self","done"] (z06 y07):=.k
theorem z2n (P:M0):Meth (KX P) 317 "may_stand" 314:=⟨by kernel_rfl,by kernel_rfl,by kernel_rfl⟩
noncomputable abbrev y0y:Stmt:=subS (top 52) 0
noncomputable abbrev y03:FuncData:=fnX "__init__" "Board.__init__" (subS (top 52) 0) "talejudge.places" 639 332
theorem z2g (P:M0):Fun (KX P) "__init__" "Board.__init__" y0y 333 y03:=z0b
theorem z61 (P:M0):Binds (KX P) y03 ["self","tale","strictness"] []:=(z2g P).binds λ _ _ _ _ _ _=>us3 λ _ _ _=>rfl
theorem sc_Board___init__:FnScope ["self","tale","strictness","pairs","told","names","number","deed","thing"] ["self","tale","strictness"] (z06 y0y):=.k
theorem zie (P:M0):Mk (KX P) 357 333:=⟨by kernel_rfl,by kernel_rfl,by kernel_rfl,by kernel_rfl⟩
theorem z1g (P:M0):Cls (KX P) 357:=⟨by kernel_rfl,by kernel_rfl,by kernel_rfl,by kernel_rfl⟩
theorem z3r (P:M0):NoAttr (KX P) 357 "kinds":=by unfold NoAttr;kernel_rfl
theorem z3z (P:M0):NoAttr (KX P) 357 "first":=by unfold NoAttr;kernel_rfl
theorem z3q (P:M0):NoAttr (KX P) 357 "ended":=by unfold NoAttr;kernel_rfl
theorem z0w (P:M0):NoAttr (KX P) 357 "candidates":=by unfold NoAttr;kernel_rfl
noncomputable abbrev y0e:Stmt:=subS (top 52) 1
noncomputable abbrev y02:FuncData:=fnX "steps_from" "Board.steps_from" (subS (top 52) 1) "talejudge.places" 639 339
theorem z1t (P:M0):Fun (KX P) "steps_from" "Board.steps_from" y0e 340 y02:=z0b
theorem z4k (P:M0):Binds (KX P) y02 ["self","place"] []:=(z1t P).binds λ _ _ _ _ _ _=>us2 λ _ _=>rfl
theorem sc_Board_steps_from:FnScope ["self","place","steps","candidate","step"] ["self","place"] (z06 y0e):=.k
theorem z3s (P:M0):Meth (KX P) 357 "steps_from" 340:=⟨by kernel_rfl,by kernel_rfl,by kernel_rfl⟩
noncomputable abbrev y19:Stmt:=subS (top 52) 2
noncomputable abbrev y05:FuncData:=fnX "ends_at" "Board.ends_at" (subS (top 52) 2) "talejudge.places" 639 346
theorem z30 (P:M0):Fun (KX P) "ends_at" "Board.ends_at" y19 347 y05:=z0b
theorem z68 (P:M0):Binds (KX P) y05 ["self","place"] []:=(z30 P).binds λ _ _ _ _ _ _=>us2 λ _ _=>rfl
theorem z5i:FnScope ["self","place"] ["self","place"] (z06 y19):=.k
theorem z5h (P:M0):Meth (KX P) 357 "ends_at" 347:=⟨by kernel_rfl,by kernel_rfl,by kernel_rfl⟩
section
variable {P:Program} {w:S0} {mg:Str->Option Value} {base:Heap}
def z2z (K:d0):Sp:=λ vs H Q _=>∃(a:Addr) (ns:List Int),vs=[.ref a,.int 0]/\SqL K H a (ns.map V.int)/\∀i,Q (.int i) H
theorem z6a (T:TX (kx w) mg):Fo P w mg base CX0 1 397 y0c ["script","k"] (z2z (kx w)):=by
 refine (z1w w.params).ok z67 (λ c H Q E h=>?_) (λ d A f s H c Q E e h=>?_)
 ·obtain ⟨a,b,rfl,_⟩:=h;rfl
 ·obtain ⟨a,b,rfl,sq,q⟩:=h;refine ⟨_,(z01 (ps_if (z07 op_lt (pv 1) (z0h z3l rfl (T.no (n_len _)) U5 (z00 (pv 0) pa_nil)) (nomark _))
   (z03 (ps_ret (pe_ix ix_seq (pv 0) (pv 1) (λ _ _=>rfl))))
   z0c)
   (z03 (ps_ret pe_int))),?_⟩
  refine ⟨_,rfl,_,rfl,.inl ⟨a,_,rfl,.inl sq,_,_,rfl,rfl,_,rfl,?_⟩⟩;cases b with
  | nil=>exact iteF (q 0)
  | cons n b=>rw [if_pos (by simp)];exact ⟨_,rfl,_,rfl,.inl ⟨a,_,0,.int n,rfl,rfl,sq,z04 (xs:=(n :: b).map V.int) (j:=0) rfl,q n⟩⟩
def z1x:Sp:=λ vs H Q _=>∃(c d:Int),vs=[.int c,.int d]/\∀p t,H p=none->0<=t->t < 536870909->Q (.ref p) (upd H p (.lst [.int c,.int d,.int t]))
theorem z7t (T:TX (kx w) mg):Fo P w mg base CX0 1 404 y0m ["cell","way"] z1x:=by
 refine (z2h w.params).ok sc__law_stream (λ b H Q E h=>?_) (λ f A m s H b Q E g h=>?_)
 ·obtain ⟨c,d,rfl,_⟩:=h;rfl
 ·obtain ⟨c,d,rfl,q⟩:=h;refine ⟨_,(z01 (ps_set (i:=2) sc__law_stream.nd rfl (P0 rfl) (pe_op op_mod (pv 0) pe_int))
   (z03 (ps_ret (pe_lst (z00 (pv 0) (z00 (pv 1) (z00 (pe_op op_mod (pe_op opAdd (pe_op op_mul (pe_op op_mod (pe_op op_mul (pv 2) (pv 2)) pe_int) (pe_op opAdd (pv 2) pe_int)) pe_int) pe_int) pa_nil))))))),?_⟩
  have j:0<=c % 536870909:=u5 _ (by decide);have k:c % 536870909 < 536870909:=D4 _ (by decide);refine ⟨_,rfl,_,_,rfl,rfl,(show (0:Int) < 536870909 by decide),?_⟩;refine ⟨_,rfl,_,rfl,_,rfl,_,rfl,_,_,rfl,rfl,.inl ⟨by lia,by lia⟩,_,_,rfl,rfl,(show (0:Int) < 536870909 by decide),?_⟩;have e:0<=(c % 536870909 * (c % 536870909)) % 536870909:=u5 _ (by decide);have l:(c % 536870909 * (c % 536870909)) % 536870909 < 536870909:=D4 _ (by decide);refine ⟨_,rfl,.inl ⟨_,_,rfl,rfl,_,_,rfl,rfl,.inl ⟨by lia,by lia⟩,.inl ⟨_,_,rfl,rfl,_,_,rfl,rfl,(show (0:Int) < 536870909 by decide),?_⟩⟩⟩;exact ⟨w_3,λ p a=>q p _ a (u5 _ (by decide)) (D4 _ (by decide))⟩
def z1f:Sp:=λ vs H Q _=>∃(r:Addr) (m:Int),vs=[.ref r,.int m]/\RowAt H r/\0 < m/\m < 2 ^ 64/\∀t H',Rw r H H'->0<=t->t < m->Q (.int t) H'
theorem zak (T:TX (kx w) mg):Fo P w mg base CX0 1 411 y15 ["row","many"] z1f:=by
 refine (z4m w.params).ok sc__law_take (λ v H Q E h=>?_) (λ y A B s H v Q E z h=>?_)
 ·obtain ⟨r,m,rfl,_⟩:=h;rfl
 ·obtain ⟨r,m,rfl,⟨a,b,c,e,l,n⟩,g,u,q⟩:=h;refine ⟨_,(z01 (ps_if (PW.pt (pw_and (z07 opEq (pe_ix ix_seq (pv 0) pe_int (λ _ _=>rfl)) pe_int (nomark _)) (z2w (z07 z1b (pe_ix ix_seq (pv 0) pe_int (λ _ _=>rfl)) (pe_tup (z00 pe_int (z00 (pe_un un_neg pe_int) pa_nil))) (by with_unfolding_all rfl)))))
   (z01 (ps_set (i:=2) sc__law_take.nd rfl (P0 rfl) (pe_op op_mod (pe_ix ix_seq (pv 0) pe_int (λ _ _=>rfl)) (pv 1)))
   (z01 (ps_asg (pe_op zag (pe_ix ix_seq (pv 0) pe_int (λ _ _=>rfl)) (pv 1)) (pg_sub (pv 0) pe_int z49))
   (z03 (ps_ret (pv 2)))))
   z0c)
   (z01 (ps_asg (pe_op op_mod (pe_op op_mul (pe_op opAdd (pe_ix ix_seq (pv 0) pe_int (λ _ _=>rfl)) pe_int) (pe_op opAdd (pe_ix ix_seq (pv 0) pe_int (λ _ _=>rfl)) pe_int)) pe_int) (pg_sub (pv 0) pe_int z49))
   (z03 (ps_ret (pe_op op_mod (pe_op opAdd (pe_op op_mul (pe_ix ix_seq (pv 0) pe_int (λ _ _=>rfl)) pe_int) pe_int) (pv 1)))))),?_⟩
  have j :∀f,Same H f->SqL (kx w) f r [.int a,.int b,.int c]:=λ f d=>SqL.of (d _ _ e);refine seq_if (λ f=>Same H f) (λ f d=>?_) λ k=>?_
  ·have t:0<=((c + 7919) * (c + 104729)) % 536870909:=u5 _ (by decide);have x:((c + 7919) * (c + 104729)) % 536870909 < 536870909:=D4 _ (by decide);refine ⟨_,rfl,.inl ⟨r,_,2,.int c,rfl,rfl,j f d,rfl,.inl ⟨_,_,rfl,rfl,?_⟩⟩⟩;refine ⟨_,rfl,.inl ⟨r,_,2,.int c,rfl,rfl,j f d,rfl,.inl ⟨_,_,rfl,rfl,?_⟩⟩⟩;refine ⟨_,_,rfl,rfl,.inl ⟨by lia,by lia⟩,_,_,rfl,rfl,(show (0:Int) < 536870909 by decide),?_⟩;refine ⟨_,rfl,r,_,2,2,rfl,rfl,d _ _ e,rfl,?_⟩;refine ⟨_,rfl,.inl ⟨r,_,2,.int _,rfl,rfl,SqL.of upd_same,rfl,?_⟩⟩;refine ⟨_,_,rfl,rfl,.inl ⟨by lia,by lia⟩,.inl ⟨_,_,rfl,rfl,_,rfl,_,_,rfl,rfl,g,?_⟩⟩;exact q _ _ ⟨(Same.kept d).trans .set,a,b,_,upd_same,t,x⟩ (u5 _ (by lia)) (D4 _ g)
  ·refine ⟨_,rfl,.inl ⟨r,_,1,.int b,rfl,rfl,SqL.of e,rfl,rfl,_,rfl,?_⟩⟩;by_cases hb:b=0
   ·subst hb;refine iteT ⟨_,rfl,.inl ⟨r,_,0,.int a,rfl,rfl,SqL.of e,rfl,?_⟩⟩;refine ⟨_,rfl,w_2,λ p o=>⟨p,_,rfl,.inr (SqT.of upd_same),rfl,rfl,_,rfl,?_⟩⟩;have d:Same H (upd H p (.tup [.int 0,.int (-1)])):=Same.upd o;refine ite2 (λ _=>?_) λ _=>k _ d;refine ⟨_,rfl,.inl ⟨r,_,0,.int a,rfl,rfl,j _ d,rfl,_,rfl,_,_,rfl,rfl,g,?_⟩⟩;refine ⟨_,rfl,.inl ⟨r,_,0,.int a,rfl,rfl,j _ d,rfl,_,rfl,_,_,rfl,rfl,⟨g,u⟩,?_⟩⟩;refine ⟨_,rfl,r,_,0,0,rfl,rfl,d _ _ e,rfl,?_⟩;exact ⟨_,rfl,q _ _ ⟨(Same.kept d).trans .set,_,_,c,upd_same,l,n⟩ (u5 _ (by lia)) (D4 _ g)⟩
   ·have:decide (V.int b=V.int 0)=false:=by simp [hb]
    rw [this];exact iteF (k _ (Same.refl H))
theorem e9:(10:Int) ^ (9:Int).toNat=1000000000:=by decide
theorem p9:CPow 10 9:=⟨by decide,by decide,by decide⟩
def z2m:Sp:=λ vs H Q _=>∃r:Addr,vs=[.ref r]/\RowAt H r/\∀i H',Rw r H H'->-1000000000<=i->i<=1000000000->Q (.int i) H'
theorem z8x (T:TX (kx w) mg) (c0:Ca P w mg base "_law_take" ["row","many"] 1 z1f):Fo P w mg base CX0 2 418 y0v ["row"] z2m:=by
 refine (z3e w.params).ok sc__law_worth (λ o H Q E h=>?_) (λ u A B s H o Q E c h=>?_)
 ·obtain ⟨r,rfl,_⟩:=h;rfl
 ·obtain ⟨r,rfl,R,q⟩:=h;refine ⟨_,(z01 (ps_set (i:=1) sc__law_worth.nd rfl (P0 rfl) (pe_cal c0 (c.mono (by decide)) rfl (z00 (pv 0) (z00 pe_int pa_nil))))
   (z01 (ps_if (z07 opEq (pv 1) pe_int (nomark _))
   (z03 (ps_ret (pe_op op_sub (pe_cal c0 (c.mono (by decide)) rfl (z00 (pv 0) (z00 (pe_op opAdd (pe_op op_mul pe_int (pe_op op_pow pe_int pe_int)) pe_int) pa_nil))) (pe_op op_pow pe_int pe_int))))
   z0c)
   (z01 (ps_if (z07 opEq (pv 1) pe_int (nomark _))
   (z03 (ps_ret (pe_ix ix_seq (pe_lst (z00 (pe_op op_pow pe_int pe_int) (z00 (pe_un un_neg (pe_op op_pow pe_int pe_int)) (z00 (pe_op op_sub (pe_op op_pow pe_int pe_int) pe_int) (z00 (pe_op op_sub pe_int (pe_op op_pow pe_int pe_int)) pa_nil))))) (pe_cal c0 (c.mono (by decide)) rfl (z00 (pv 0) (z00 pe_int pa_nil))) (λ _ _=>rfl))))
   z0c)
   (z03 (ps_ret (pe_op op_sub (pe_cal c0 (c.mono (by decide)) rfl (z00 (pv 0) (z00 pe_int pa_nil))) pe_int)))))),?_⟩
  refine ⟨_,rfl,r,4,rfl,R,by decide,by decide,λ t z a x y=>?_⟩;refine ⟨_,rfl,rfl,_,rfl,?_⟩;refine ite2 (λ _=>?_) λ _=>?_
  ·refine ⟨_,rfl,_,_,rfl,rfl,p9,_,_,rfl,rfl,.inl ⟨by decide,by decide⟩,.inl ⟨_,_,rfl,rfl,r,_,rfl,a.r,by decide,by decide,λ j f b e d=>?_⟩⟩;rw [e9] at d;refine ⟨_,_,rfl,rfl,p9,_,_,rfl,rfl,?_⟩;rw [e9];exact q _ _ (a.trans b) (by lia) (by lia)
  ·refine ⟨_,rfl,rfl,_,rfl,?_⟩;refine ite2 (λ _=>?_) λ _=>?_
   ·refine ⟨_,_,rfl,rfl,p9,_,_,rfl,rfl,p9,_,rfl,_,_,rfl,rfl,p9,_,_,rfl,rfl,_,_,rfl,rfl,p9,_,_,rfl,rfl,w_4,λ p g=>?_⟩;refine ⟨_,rfl,r,4,rfl,a.r.same (Same.upd g),by decide,by decide,λ j f b e d=>?_⟩;rw [e9] at b;obtain ⟨v,m,l⟩:=atI_of (xs:=[V.int 1000000000,.int (-1000000000),.int (1000000000 - 1),.int (1 - 1000000000)]) e d;refine .inl ⟨p,_,_,v,rfl,rfl,SqL.of (b.k _ _ (a.r.fresh g) upd_same),m,?_⟩;have n:Rw r H f:=(a.same (Same.upd g)).trans b;simp only [F2,A0,or_false] at l;rcases l with rfl|rfl|rfl|rfl<;>exact q _ _ n (by decide) (by decide)
   ·refine ⟨_,rfl,r,7,rfl,a.r,by decide,by decide,λ j f b e d=>?_⟩;exact ⟨_,_,rfl,rfl,q _ _ (a.trans b) (by lia) (by lia)⟩
inductive Ev
 | beg (h:Int) (n v x:V)
 | fin (h:Int) (a:V)
noncomputable def EvAt (K:d0) (H:Hp):Ev->V->Prop
 | .beg h n v x,y=>∃p,y=.ref p/\SqT K H p [.str "begin",.int h,n,v,x]
 | .fin h a,y=>∃p,y=.ref p/\SqT K H p [.str "end",.int h,a]
structure Rc where
 h:Int
 n:V
 v:V
 x:V
 a:V
 b:Nat
 e:Option Nat
noncomputable def endV:Option Nat->V
 | none=>.non
 | some i=>.int i
def RcAt (K:d0) (H:Hp) (r:Rc) (y:V):Prop:=∃p,y=.ref p/\SqT K H p [.int r.h,r.n,r.v,r.x,r.a,.int r.b,endV r.e]
def Tups (K:d0) (H H':Hp):Prop:=∀a xs,SqT K H a xs->SqT K H' a xs
theorem Tups.of {K:d0} {H H':Hp} (s:Same H H'):Tups K H H':=λ _ _ q=>s.seqT q
theorem Tups.trans {K:d0} {H H1 H2:Hp} (a:Tups K H H1) (b:Tups K H1 H2):Tups K H H2:=λ _ _ q=>b _ _ (a _ _ q)
theorem Tups.lst {K:d0} {H:Hp} {l:Addr} {o:HO} {zs:List V} (e:H l=some (.lst zs)):Tups K H (upd H l o):=λ _ _ q=>q.wrote e
theorem Tups.dict {K:d0} {H:Hp} {l:Addr} {o:HO} {kvs:List (Key×V)} (e:H l=some (.dK kvs)):Tups K H (upd H l o):=λ a b h=>by
 rcases h with (h|⟨ob,h⟩)|h
 ·exact .inl (.inl (by rw [upd_ne (ne_of h e (by intro z;cases z))];exact h))
 ·exact .inl (.inr ⟨ob,by rw [upd_ne (ne_of h e (by intro z;cases z))];exact h⟩)
 ·exact .inr h
theorem zik {n j:Nat} (h:j < n):ixN n (j:Nat)=some j:=by unfold ixN;rw [if_pos (by lia),if_pos (by lia)];rfl
theorem Same.keep {H H':Hp} {l:Addr} {o:HO} (s:Same H H') (n:H l=none):Same H (upd H' l o):=λ a x e=>by rw [upd_ne (z0e e n)];exact s a x e
theorem z0m {α β:Type} {R:α->β->Prop} {x:α} {y:β} :∀{xs:List α} {ys:List β},All2 R xs ys->R x y->All2 R (xs++[x]) (ys++[y])
 | _,_,.nil,h=>.cons h .nil
 | _,_,.cons a r,h=>.cons a (z0m r h)
theorem z7w {κ:Type} [DecidableEq κ] {kvs:List (κ×V)} {k:κ} {v:V}:(putK kvs k v).length<=kvs.length + 1:=by
 unfold putK;by_cases z:(kvs.any λ a=>decide (a.1=k))=true
 ·rw [if_pos z,L0];lia
 ·rw [if_neg z,D0];exact B0 _
noncomputable def lastI (h:Int) (hs:List Int):Option Nat:=(hs.foldl (λ (acc:Nat×Option Nat) k=>(acc.1 + 1,if k=h then some acc.1 else acc.2)) (0,none)).2
theorem lastF (h:Int) :∀hs:List Int,(hs.foldl (λ (acc:Nat×Option Nat) k=>(acc.1 + 1,if k=h then some acc.1 else acc.2)) (0,none)).1=hs.length:=by
 have b :∀(hs:List Int) (a:Nat×Option Nat),(hs.foldl (λ (acc:Nat×Option Nat) k=>(acc.1 + 1,if k=h then some acc.1 else acc.2)) a).1=a.1 + hs.length:=by
  intro hs;induction hs with
  | nil=>intro a;rfl
  | cons k hs ih=>intro a;rw [o5,ih,C1];show a.1 + 1 + hs.length=_;lia
 intro hs;rw [b hs (0,none)];simp
theorem z1v (h k:Int) (hs:List Int):lastI h (hs++[k])=if k=h then some hs.length else lastI h hs:=by unfold lastI;rw [F5];show (if k=h then some _ else _)=_;rw [lastF]
theorem z7i {h:Int} {hs:List Int} {j:Nat} (e:lastI h hs=some j):j < hs.length:=by
 have c :∀(hs:List Int) (a:Nat×Option Nat),(∀j,a.2=some j->j < a.1)->∀j,(hs.foldl (λ (acc:Nat×Option Nat) k=>(acc.1 + 1,if k=h then some acc.1 else acc.2)) a).2=some j->j < a.1 + hs.length:=by
  intro hs;induction hs with
  | nil=>intro a b j e;exact b j e
  | cons k hs ih=>
   intro a b j e;rw [o5] at e;have:=ih (a.1 + 1,if k=h then some a.1 else a.2) (λ j e=>by
    dsimp only at e⊢;by_cases z:k=h
    ·rw [if_pos z] at e;cases e;lia
    ·rw [if_neg z] at e;have:=b j e;lia) j e
   rw [C1];dsimp only at this
   lia
 have:=c hs (0,none) (λ j e=>by cases e) j e;simpa using this
noncomputable def dstep (i:Nat) (rs:List Rc):Ev->List Rc
 | .beg h n v x=>rs++[⟨h,n,v,x,.non,i,none⟩]
 | .fin h a=>match lastI h (rs.map Rc.h) with|some j=>rs.modify j (λ r=>{ r with a:=a,e:=some i })|none=>rs
noncomputable def dAll:Nat->List Rc->List Ev->List Rc
 | _,rs,[]=>rs
 | i,rs,e :: es=>dAll (i + 1) (dstep i rs e) es
noncomputable def dWf:Nat->List Rc->List Ev->Prop
 | _,_,[]=>True
 | i,rs,e :: es=>(∀h a,e=.fin h a->(lastI h (rs.map Rc.h)).isSome=true)/\dWf (i + 1) (dstep i rs e) es
theorem RcAt.tups {K:d0} {H H':Hp} {r:Rc} {y:V} (t:Tups K H H') (h:RcAt K H r y):RcAt K H' r y:=h.elim λ p z=>⟨p,z.1,t _ _ z.2⟩
theorem EvAt.tups {K:d0} {H H':Hp} (t:Tups K H H') :∀{e:Ev} {y:V},EvAt K H e y->EvAt K H' e y
 | .beg h n v x,_,z=>z.elim λ p z=>⟨p,z.1,t _ _ z.2⟩
 | .fin h a,_,z=>z.elim λ p z=>⟨p,z.1,t _ _ z.2⟩
theorem z6o {α β:Type} {R:α->β->Prop} {f:α->α} {y:β} :∀{xs:List α} {ys:List β} {j:Nat} {x:α},All2 R xs ys->xs[j]? = some x->R (f x) y->All2 R (xs.modify j f) (ys.set j y)
 | _,_,_,_,.nil,e,_=>by simp at e
 | _,_,0,x,.cons a r,e,h=>by rw [Z2] at e;cases e;exact .cons h r
 | _,_,j + 1,x,.cons a r,e,h=>by rw [C2] at e;exact .cons a (z6o r e h)
theorem z8a {α β:Type} {R:α->β->Prop} :∀{xs:List α} {ys:List β} {i:Nat} {x:α},All2 R xs ys->xs[i]? = some x->∃y,ys[i]? = some y/\R x y
 | _,_,i,x,.nil,e=>by simp at e
 | _,_,0,x,.cons a _,e=>by rw [Z2] at e;cases e;exact ⟨_,Z2,a⟩
 | _,_,i + 1,x,.cons _ r,e=>by rw [C2] at e;obtain ⟨y,c,b⟩:=z8a r e;exact ⟨y,by rw [C2];exact c,b⟩
def z80 (K:d0):Sp:=λ vs H Q _=>∃(t te:Addr) (th:V) (ys:List V) (es:List Ev),vs=[.ref t]/\SqT K H t [th,.ref te]/\SqT K H te ys/\All2 (EvAt K H) es ys/\es.length<=100/\dWf 0 [] es/\
 ∀l zs H',Same H H'->H l=none->H' l=some (.lst zs)->All2 (RcAt K H') (dAll 0 [] es) zs->Q (.ref l) H'
theorem zi0 (T:TX (kx w) mg):Fo P w mg base CX0 1 209 y2b ["tale"] (z80 (kx w)):=by
 refine (zdh w.params).ok sc_deeds (λ vs H Q E h=>?_) (λ c4 A c5 s H vs Q E hr h=>?_)
 ·obtain ⟨t,te,th,ys,B,rfl,_⟩:=h;rfl
 ·obtain ⟨t,te,th,ys,B,rfl,st,se,al,hl,wf,q⟩:=h;refine ⟨_,(z01 (ps_set (i:=1) sc_deeds.nd rfl (P0 rfl) (pe_lst pa_nil))
   (z01 (ps_set (i:=2) sc_deeds.nd rfl (P0 rfl) z77)
   (z01 (ps_for Q1 rfl (zai rfl (T.no (z0u _)) (z00 (pe_ix ix_seq (pv 0) pe_int (λ _ _=>rfl)) pa_nil)) (pg_tup rfl (z08 (z0d (i:=3) sc_deeds.nd rfl (P0 rfl)) (z08 (z0d (i:=4) sc_deeds.nd rfl (P0 rfl)) z0p)))
   (z03 (ps_if (z07 opEq (pe_ix ix_seq (pv 4) pe_int (λ _ _=>rfl)) pe_str (nomark _))
   (z01 (z4u (hu_of hr) (pv 2) (pe_ix ix_seq (pv 4) pe_int (λ _ _=>rfl)) (z0h z3l rfl (T.no (n_len _)) U5 (z00 (pv 1) pa_nil)) rfl)
   (z03 (z1n (z0o (pv 1) (z00 (pe_op opAdd (z32 slSeq (pv 4) (z4q pe_int) z6r) (pe_tup (z00 pe_non (z00 (pv 3) (z00 pe_non pa_nil))))) pa_nil)))))
   (z01 (ps_set (i:=5) sc_deeds.nd rfl (P0 rfl) (z8b (hu_of hr) (pv 2) (pe_ix ix_seq (pv 4) pe_int (λ _ _=>rfl)) (λ _ _=>rfl)))
   (z01 (ps_set (i:=6) sc_deeds.nd rfl (P0 rfl) (pe_ix ix_seq (pv 1) (pv 5) (λ _ _=>rfl)))
   (z03 (ps_asg (pe_op opAdd (z32 slSeq (pv 6) z6r (z4q pe_int)) (pe_tup (z00 (pe_ix ix_seq (pv 4) pe_int (λ _ _=>rfl)) (z00 (pe_ix ix_seq (pv 6) pe_int (λ _ _=>rfl)) (z00 (pv 3) pa_nil))))) (pg_sub (pv 1) (pv 5) z49))))))))
   (z03 (ps_ret (pv 1)))))),?_⟩
  refine ⟨w_0,λ l a0=>?_⟩;intro d a3;have U:l≠d:=z0e upd_same a3;have s0:upd H l (.lst []) d=none->H d=none:=λ z=>by rwa [upd_ne U.symm] at z
  have s2:Same H (upd (upd H l (.lst [])) d (.dK [])):=(Same.upd a0).trans (Same.upd a3);have e1:upd (upd H l (.lst [])) d (.dK []) l=some (.lst []):=by rw [upd_ne U];exact upd_same
  have e2:upd (upd H l (.lst [])) d (.dK []) d=some (.dK []):=upd_same;generalize upd (upd H l (.lst [])) d (.dK [])=H2 at s2 e1 e2⊢;have b8:=z05 al;refine ⟨_,rfl,.inr (.inl ⟨t,_,1,.ref te,rfl,rfl,s2.seqT st,z04 (j:=1) rfl,te,ys,rfl,s2.seqT se,?_⟩)⟩;refine z6x (K:=KX w.params) (a:=te) (xs:=ys) (λ i σ S=>∃rs c f,S l=some (.lst c)/\All2 (RcAt (kx w) S) rs c/\S d=some (.dK f)/\f.length<=i/\rs.length<=i/\(∀h,valV f (.inl h)=(lastI h (rs.map Rc.h)).map λ j=>V.int (j:Nat))/\dAll i rs (B.drop i)=dAll 0 [] B/\dWf i rs (B.drop i)/\Same H S/\∃x3 x4 x5 x6,σ=[some (.ref t),some (.ref l),some (.ref d),x3,x4,x5,x6])
   ⟨[],[],[],e1,.nil,e2,B0 _,B0 _,λ h=>rfl,by rw [G5],by rw [G5];exact wf,s2,_,_,_,_,rfl⟩ (λ i σ S h=>?_) ?_ ?_
  ·obtain ⟨rs,c,f,_,_,_,_,_,_,_,_,s',_⟩:=h;exact s'.seqT se
  ·intro i y σ H3 p hy z0 hp;refine hid λ _ N=>?_;obtain ⟨rs,c,f,el,ar,ed,hk,b0,hv,F,Y,s3,x3,x4,x5,x6,rfl⟩:=z0;refine N ?_;clear N;obtain ⟨e,he,ev⟩:=z0a al hy;obtain ⟨hi,ee⟩:=List.getElem?_eq_some_iff.mp he;have dr:B.drop i=e :: B.drop (i + 1):=by rw [J6 hi,ee]
   rw [dr] at F Y;have s4:=s3.trans (Same.upd (o:=.tup [.int i,y]) hp);have X:=(Same.upd (o:=.tup [.int i,y]) hp) _ _ el;have L:=(Same.upd (o:=.tup [.int i,y]) hp) _ _ ed;have R:=z02 (λ a b z=>RcAt.tups (.of (Same.upd (o:=.tup [.int i,y]) hp)) z) ar;have b1:upd H3 p (.tup [.int i,y]) p=some (.tup [.int i,y]):=upd_same;generalize upd H3 p (.tup [.int i,y])=H4 at s4 X L R b1⊢;have b5:=EvAt.tups (.of s4) ev;refine ⟨p,_,rfl,SqT.of b1,rfl,.int i,_,rfl,y,_,rfl,rfl,?_⟩;have lz:c.length=rs.length:=z05 R;have b3:100<=sizeLine:=by decide
   have b2:i < 100:=P1 hi hl;cases e with
   | beg h n v x=>
    obtain ⟨I,rfl,G⟩:=b5;refine ⟨_,rfl,.inr (.inl ⟨I,_,0,.str "begin",rfl,rfl,G,z04 (j:=0) rfl,rfl,_,rfl,iteP (decide_eq_true rfl) ?_⟩)⟩;refine ⟨_,rfl,.inl ⟨l,c,rfl,.inl (SqL.of X),⟨_,rfl,⟨_,rfl,.inr (.inl ⟨I,_,1,.int h,rfl,rfl,G,z04 (j:=1) rfl,d,_,rfl,DPut.k (k:=.inl h) L (Q0 hk (P1 b2 b3)),?_⟩)⟩⟩⟩⟩;have b9:H d=none:=s0 a3;have t5:Tups (kx w) H4 (upd H4 d (.dK (putK f (.inl h) (.int (c.length:Nat))))):=Tups.dict L;have s5:=Same.keep (o:=.dK (putK f (.inl h) (.int (c.length:Nat)))) s4 b9;have a4:upd H4 d (.dK (putK f (.inl h) (.int (c.length:Nat)))) l=some (.lst c):=by rw [upd_ne U];exact X
    have b4:upd H4 d (.dK (putK f (.inl h) (.int (c.length:Nat)))) d=some (.dK (putK f (.inl h) (.int (c.length:Nat)))):=upd_same;generalize upd H4 d (.dK (putK f (.inl h) (.int (c.length:Nat))))=H5 at t5 s5 a4 b4⊢;have b6:=t5 _ _ G;have c3:=z02 (λ a b z=>RcAt.tups t5 z) R;refine ⟨_,rfl,.inl ⟨rfl,c,SqL.of a4⟩,⟨_,rfl,1,rfl,.inr (.inl ⟨I,_,rfl,b6,λ z=>absurd z.1 (show ¬ HT.sIx 5 0 (some 1)=0 by decide),λ C Z=>?_⟩)⟩⟩;have c1:cutV [V.str "begin",.int h,n,v,x] (some 1) none=[.int h,n,v,x]:=rfl;rw [c1];refine ⟨_,rfl,w_3,λ D J=>.inr (.inr (.inr ⟨C,D,_,_,rfl,rfl,(Same.upd J).seqT (SqT.of upd_same),SqT.of upd_same,by simp,w_7,λ z=>(by cases z),λ _ g a2=>?_⟩))⟩;have u:Same H5 (upd (upd (upd H5 C (.tup [.int h,n,v,x])) D (.tup [.non,.int i,.non])) g (.tup ([.int h,n,v,x]++[.non,.int i,.non]))):=((Same.upd Z).trans (Same.upd J)).trans (Same.upd a2);have O:upd (upd (upd H5 C (.tup [.int h,n,v,x])) D (.tup [.non,.int i,.non])) g (.tup ([.int h,n,v,x]++[.non,.int i,.non])) g=some (.tup ([.int h,n,v,x]++[.non,.int i,.non])):=upd_same;generalize upd (upd (upd H5 C (.tup [.int h,n,v,x])) D (.tup [.non,.int i,.non])) g (.tup ([.int h,n,v,x]++[.non,.int i,.non]))=H6 at u O⊢;have W:=u _ _ a4;have a5:=u _ _ b4;have a1:=z02 (λ a b z=>RcAt.tups (.of u) z) c3;have M:Tups (kx w) H6 (upd H6 l (.lst (c++[.ref g]))):=Tups.lst W;refine ⟨l,c,_,rfl,rfl,W,Q0 (F0 (K7 lz) b0) (P1 b2 b3),?_⟩;refine ⟨rs++[⟨h,n,v,x,.non,i,none⟩],c++[.ref g],putK f (.inl h) (.int (c.length:Nat)),upd_same,?_,?_,?_,?_,?_,(show dAll (i + 1) (dstep i rs (.beg h n v x)) _=_ from F),Y.2,Same.keep (s5.trans u) a0,_,_,_,_,rfl⟩
    ·exact z0m (z02 (λ a b z=>RcAt.tups M z) a1) ⟨g,rfl,M _ _ (SqT.of O)⟩
    ·rw [upd_ne U.symm];exact a5
    ·exact F0 z7w (by lia)
    ·rw [D0];show rs.length + 1<=i + 1;lia
    ·intro k;rw [z85,X0];show _=Option.map _ (lastI k (rs.map Rc.h++[h]));rw [z1v,hv k,L0,lz];by_cases z:h=k
     ·rw [if_pos z,if_pos (by rw [z])];rfl
     ·rw [if_neg z,if_neg (λ y=>z (D3 y).symm)]
   | fin h a=>
    obtain ⟨I,rfl,G⟩:=b5;obtain ⟨j,hj⟩:=Option.isSome_iff_exists.mp (Y.1 h a rfl);have b7:valV f (.inl h)=some (.int (j:Nat)):=by rw [hv h,hj];rfl
    have a7:j < rs.length:=by have:=z7i hj;rwa [L0] at this
    have a6:rs[j]? = some rs[j]:=N0 a7;obtain ⟨yj,c0,pj,rfl,sj⟩:=z8a R a6;have c2:DGet H4 d (.int h) (some (.int (j:Nat))):=b7 ▸ DGet.k (k:=.inl h) L;refine ⟨_,rfl,.inr (.inl ⟨I,_,0,.str "end",rfl,rfl,G,z04 (j:=0) rfl,rfl,_,rfl,iteK ?_⟩)⟩;refine ⟨_,rfl,⟨_,rfl,.inr (.inl ⟨I,_,1,.int h,rfl,rfl,G,z04 (j:=1) rfl,d,_,rfl,c2,?_⟩)⟩⟩;refine ⟨_,rfl,_,rfl,.inl ⟨l,c,j,.ref pj,rfl,rfl,SqL.of X,z04 c0,?_⟩⟩;refine ⟨_,rfl,4,rfl,.inr (.inl ⟨pj,_,rfl,sj,λ z=>absurd z.2 (show ¬ HT.sIx 7 7 (some 4)=7 by decide),λ C Z=>?_⟩)⟩;have c1:cutV [.int rs[j].h,rs[j].n,rs[j].v,rs[j].x,rs[j].a,.int rs[j].b,endV rs[j].e] none (some 4)=[.int rs[j].h,rs[j].n,rs[j].v,rs[j].x]:=rfl;rw [c1];refine ⟨_,rfl,.inr (.inl ⟨I,_,2,a,rfl,rfl,(Same.upd Z).seqT G,z04 (j:=2) rfl,?_⟩)⟩;refine ⟨_,rfl,.inr (.inl ⟨pj,_,5,.int rs[j].b,rfl,rfl,(Same.upd Z).seqT sj,z04 (j:=5) rfl,?_⟩)⟩;refine ⟨_,rfl,w_3,λ D J=>.inr (.inr (.inr ⟨C,D,_,_,rfl,rfl,(Same.upd J).seqT (SqT.of upd_same),SqT.of upd_same,by simp,w_7,λ z=>(by cases z),λ _ g a2=>?_⟩))⟩;have u:Same H4 _:=((Same.upd Z).trans (Same.upd J)).trans (Same.upd (o:=.tup ([.int rs[j].h,rs[j].n,rs[j].v,rs[j].x]++[a,.int rs[j].b,.int (i:Nat)])) a2);have O:upd (upd (upd H4 C (.tup [.int rs[j].h,rs[j].n,rs[j].v,rs[j].x])) D (.tup [a,.int rs[j].b,.int (i:Nat)])) g (.tup ([.int rs[j].h,rs[j].n,rs[j].v,rs[j].x]++[a,.int rs[j].b,.int (i:Nat)])) g=some (.tup ([.int rs[j].h,rs[j].n,rs[j].v,rs[j].x]++[a,.int rs[j].b,.int (i:Nat)])):=upd_same;generalize upd (upd (upd H4 C (.tup [.int rs[j].h,rs[j].n,rs[j].v,rs[j].x])) D (.tup [a,.int rs[j].b,.int (i:Nat)])) g (.tup ([.int rs[j].h,rs[j].n,rs[j].v,rs[j].x]++[a,.int rs[j].b,.int (i:Nat)]))=H6 at u O⊢;have W:=u _ _ X;have a5:=u _ _ L;have a1:=z02 (λ a b z=>RcAt.tups (.of u) z) R;have M:Tups (kx w) H6 (upd H6 l (.lst (c.set j (.ref g)))):=Tups.lst W;refine ⟨_,rfl,_,rfl,l,c,j,j,rfl,rfl,W,zik (show j < c.length by rw [lz];exact a7),?_⟩;have dd:dstep i rs (.fin h a)=rs.modify j (λ r=>{ r with a:=a,e:=some i }):=by unfold dstep;dsimp only;rw [hj]
    have a8:dAll (i + 1) (dstep i rs (.fin h a)) (List.drop (i + 1) B)=_:=F;have a9:=Y.2;rw [dd] at a8 a9;have mh:(rs.modify j (λ r=>{ r with a:=a,e:=some i })).map Rc.h=rs.map Rc.h:=by
     apply F8;intro m;rw [E2,E2,X1];cases rs[m]? with
     | none=>rfl
     | some r=>
      show some (if j=m then _ else r).h=some r.h;by_cases z:j=m
      ·rw [if_pos z]
      ·rw [if_neg z]
    refine ⟨_,c.set j (.ref g),f,upd_same,?_,?_,?_,?_,?_,a8,a9,Same.keep (s4.trans u) a0,_,_,_,_,rfl⟩
    ·exact z6o (z02 (λ a b z=>RcAt.tups M z) a1) a6 ⟨g,rfl,M _ _ (SqT.of O)⟩
    ·rw [upd_ne U.symm];exact a5
    ·lia
    ·rw [A6];lia
    ·intro k;rw [mh];exact hv k
  ·intro σ H3 z0;refine hid λ _ N=>?_;obtain ⟨rs,c,f,el,ar,ed,hk,b0,hv,F,Y,s3,x3,x4,x5,x6,rfl⟩:=z0;refine N ?_;clear N;have:B.drop ys.length=[]:=by rw [b8];exact List.drop_length
   rw [this] at F;have F:rs=dAll 0 [] B:=F;rw [<-F] at q;exact ⟨_,rfl,q l c H3 s3 a0 el ar⟩
end
section
noncomputable def oStep (os:List Int):Ev->List Int
 | .beg h _ _ _=>os++[h]
 | .fin h _=>os.filter λ k=>decide (k≠h)
noncomputable def oOk (os:List Int):Ev->Prop
 | .beg h _ _ _=>h∉os
 | .fin h _=>h∈os
noncomputable def EWf:List Int->List Ev->Prop
 | _,[]=>True
 | os,e :: es=>oOk os e/\EWf (oStep os e) es
theorem EWf.snoc :∀{es:List Ev} {os:List Int} {e:Ev},EWf os es->oOk (es.foldl oStep os) e->EWf os (es++[e])
 | [],os,e,_,h=>⟨h,trivial⟩
 | x :: es,os,e,w,h=>⟨w.1,EWf.snoc w.2 h⟩
theorem zf8 {h:Int} (hs:List Int) :∀{j:Nat},lastI h hs=some j->hs[j]? = some h/\∀k,j < k->hs[k]?≠some h:=by
 suffices key :∀n (hs:List Int),hs.length=n->∀{j:Nat},lastI h hs=some j->hs[j]? = some h/\∀k,j < k->hs[k]?≠some h from λ {j} a=>key _ hs rfl a;intro n;induction n with
 | zero=>intro hs e j a;have:=z7i a;lia
 | succ n ih=>
  intro hs e j a;have ne:hs≠[]:=λ z=>by rw [z] at e;cases e
  obtain ⟨b,t,rfl⟩ :∃b t,hs=b++[t]:=⟨hs.dropLast,hs.getLast ne,(i6 ne).symm⟩
  rw [D0] at e;have e:b.length=n:=by simpa using e
  rw [z1v] at a;by_cases z:t=h
  ·rw [if_pos z] at a;cases a;refine ⟨by simp [z],λ k c=>?_⟩;rw [Q7 (by rw [D0];show b.length + 1<=k;lia)];intro y;cases y
  ·rw [if_neg z] at a;obtain ⟨d,f⟩:=ih b e a;have lt:=z7i a;refine ⟨by rw [J1 lt];exact d,λ k c=>?_⟩;by_cases y:k < b.length
   ·rw [J1 y];exact f k c
   ·by_cases y2:k=b.length
    ·subst y2;rw [K1 (B0 _)];simp;exact z
    ·rw [Q7 (by rw [D0];show b.length + 1<=k;lia)];intro y;cases y
theorem zeb {h:Int} (hs:List Int) (hm:h∈hs):(lastI h hs).isSome=true:=by
 suffices key :∀n (hs:List Int),hs.length=n->h∈hs->(lastI h hs).isSome=true from key _ hs rfl hm;intro n;induction n with
 | zero=>intro hs e hm;rw [List.length_eq_zero_iff.mp e] at hm;cases hm
 | succ n ih=>
  intro hs e hm;have ne:hs≠[]:=λ z=>by rw [z] at e;cases e
  obtain ⟨a,t,rfl⟩ :∃a t,hs=a++[t]:=⟨hs.dropLast,hs.getLast ne,(i6 ne).symm⟩
  rw [D0] at e;rw [z1v];by_cases z:t=h
  ·rw [if_pos z];rfl
  ·rw [if_neg z];refine ih a (by simpa using e) ?_;rcases List.mem_append.mp hm with y|y
   ·exact y
   ·exact absurd (List.mem_singleton.mp y).symm z
structure DInv (i:Nat) (rs:List Rc) (os:List Int):Prop where
 b :∀r∈rs,r.b < i
 e :∀r∈rs,∀e,r.e=some e->e < i
 p :∀(x y:Nat) (r q:Rc),x < y->rs[x]? = some r->rs[y]? = some q->r.b < q.b/\(r.h=q.h->∃e,r.e=some e/\e < q.b)
 o :∀r∈rs,r.h∉os->r.e.isSome=true
 m :∀h∈os,h∈rs.map Rc.h
theorem DInv.nil:DInv 0 [] []:=⟨λ _ h=>(by cases h),λ _ h=>(by cases h),λ x y r q _ h=>(by simp at h),λ _ h=>(by cases h),λ _ h=>(by cases h)⟩
theorem z7u {rs:List Rc} {j:Nat} {f:Rc->Rc} (hf :∀r,(f r).h=r.h):(rs.modify j f).map Rc.h=rs.map Rc.h:=by
 apply F8;intro m;rw [E2,E2,X1];cases rs[m]? with
 | none=>rfl
 | some r=>
  show some (if j=m then f r else r).h=some r.h;by_cases z:j=m
  ·rw [if_pos z,hf]
  ·rw [if_neg z]
theorem DInv.step {i:Nat} {rs:List Rc} {os:List Int} (I:DInv i rs os) {e:Ev} (ok:oOk os e):DInv (i + 1) (dstep i rs e) (oStep os e)/\∀h a,e=.fin h a->(lastI h (rs.map Rc.h)).isSome=true:=by
 cases e with
 | beg h n v x=>
  have ok:h∉os:=ok;refine ⟨⟨λ r d=>?_,λ r d e c=>?_,λ t g r q E H C=>?_,λ r d B=>?_,λ k K=>?_⟩,λ h a e=>by cases e⟩
  ·rcases List.mem_append.mp d with z|z
   ·have:=I.b r z;lia
   ·rw [List.mem_singleton.mp z];exact V1 i
  ·rcases List.mem_append.mp d with z|z
   ·have:=I.e r z e c;lia
   ·rw [List.mem_singleton.mp z] at c;cases c
  ·have a0:g < (dstep i rs (.beg h n v x)).length:=(List.getElem?_eq_some_iff.mp C).1;have hl:(dstep i rs (.beg h n v x)).length=rs.length + 1:=by show (rs++[_]).length=_;rw [D0];rfl
   have S:rs[t]? = some r:=by
    have:(rs++[_])[t]? = some r:=H
    rwa [J1 (by lia)] at this
   by_cases z:g < rs.length
   ·have Y:rs[g]? = some q:=by
     have:(rs++[_])[g]? = some q:=C
     rwa [J1 z] at this
    exact I.p t g r q E S Y
   ·have L:(rs++[_])[g]? = some q:=C;have Z:g=rs.length:=by lia
    subst Z;rw [K1 (B0 _)] at L;simp at L;have N:=o0 S;rw [<-L];refine ⟨I.b r N,λ A=>?_⟩;have:r.e.isSome=true:=I.o r N (by rw [A];exact ok);obtain ⟨e,c⟩:=Option.isSome_iff_exists.mp this;exact ⟨e,c,I.e r N e c⟩
  ·rcases List.mem_append.mp d with z|z
   ·exact I.o r z λ y=>B (List.mem_append.mpr (.inl y))
   ·rw [List.mem_singleton.mp z] at B;exact absurd (List.mem_append.mpr (.inr (List.mem_singleton.mpr rfl))) B
  ·show k∈(rs++[_]).map Rc.h;rw [X0];rcases List.mem_append.mp K with z|z
   ·exact List.mem_append.mpr (.inl (I.m k z))
   ·rw [List.mem_singleton.mp z];exact List.mem_append.mpr (.inr (List.mem_singleton.mpr rfl))
 | fin h a=>
  have ok:h∈os:=ok;obtain ⟨j,M⟩:=Option.isSome_iff_exists.mp (zeb _ (I.m h ok));refine ⟨?_,λ h' a' e=>by cases e;rw [M];rfl⟩;obtain ⟨T,U⟩:=zf8 _ M;have hd:dstep i rs (.fin h a)=rs.modify j (λ r=>{ r with a:=a,e:=some i }):=by unfold dstep;dsimp only;rw [M]
  rw [hd];have hs:oStep os (.fin h a)=os.filter λ k=>decide (k≠h):=rfl;rw [hs];rw [E2] at T;obtain ⟨rj,Q,R⟩:=Option.map_eq_some_iff.mp T;have get :∀m q,(rs.modify j (λ r=>{ r with a:=a,e:=some i }))[m]? = some q->∃r,rs[m]? = some r/\q.h=r.h/\q.b=r.b/\(m=j->q.e=some i)/\(m≠j->q=r):=λ m q P=>by
   rw [X1] at P;obtain ⟨r,d,e⟩:=Option.map_eq_some_iff.mp P;refine ⟨r,d,?_⟩;by_cases z:j=m
   ·rw [if_pos z] at e;rw [<-e];exact ⟨rfl,rfl,λ _=>rfl,λ y=>absurd z.symm y⟩
   ·rw [if_neg z] at e;rw [<-e];exact ⟨rfl,rfl,λ y=>absurd y.symm z,λ _=>rfl⟩
  refine ⟨λ r d=>?_,λ r d e c=>?_,λ t g r q E H C=>?_,λ r d B=>?_,λ k K=>?_⟩
  ·obtain ⟨m,D⟩:=List.mem_iff_getElem?.mp d;obtain ⟨s,u,_,h3,_⟩:=get m r D;have:=I.b s (o0 u)
   lia
  ·obtain ⟨m,D⟩:=List.mem_iff_getElem?.mp d;obtain ⟨s,u,_,_,J,F⟩:=get m r D;by_cases z:m=j
   ·rw [J z] at c;cases c;exact V1 i
   ·rw [F z] at c;have:=I.e s (o0 u) e c
    lia
  ·obtain ⟨s,O,r2,r3,r4,r5⟩:=get t r H;obtain ⟨W,V,X,q3,_⟩:=get g q C;obtain ⟨p1,G⟩:=I.p t g s W E O V;refine ⟨by lia,λ A=>?_⟩;by_cases z:t=j
   ·subst z;rw [Q] at O;cases O;refine absurd ?_ (U g E);rw [E2,V];show some W.h=some h;rw [<-X,<-A,r2,R]
   ·rw [r5 z] at A⊢;rw [X] at A;obtain ⟨e,c,lt⟩:=G A;exact ⟨e,c,by lia⟩
  ·obtain ⟨m,D⟩:=List.mem_iff_getElem?.mp d;obtain ⟨s,u,h2,_,J,F⟩:=get m r D;by_cases z:m=j
   ·rw [J z];rfl
   ·rw [F z] at B⊢;by_cases y:s.h=h
    ·have lt:m < j:=by
      rcases Nat.lt_or_gt_of_ne z with l|l
      ·exact l
      ·exact absurd (by rw [E2,u];show some s.h=_;rw [y]) (U m l)
     obtain ⟨_,G⟩:=I.p m j s rj lt u Q;obtain ⟨e,c,_⟩:=G (by rw [y,R]);rw [c];rfl
    ·exact I.o s (o0 u) λ w=>B (List.mem_filter.mpr ⟨w,decide_eq_true y⟩)
  ·rw [z7u (f:=λ r=>{ r with a:=a,e:=some i }) (λ r=>rfl)];exact I.m k (List.mem_filter.mp K).1
theorem DInv.all :∀{es:List Ev} {i:Nat} {rs:List Rc} {os:List Int},DInv i rs os->EWf os es->dWf i rs es/\∃os',DInv (i + es.length) (dAll i rs es) os'
 | [],i,rs,os,I,_=>⟨trivial,os,I⟩
 | e :: es,i,rs,os,I,w=>by obtain ⟨b,d⟩:=I.step w.1;obtain ⟨a,os',c⟩:=DInv.all b w.2;refine ⟨⟨d,a⟩,os',?_⟩;rw [C1,show i + (es.length + 1)=i + 1 + es.length by lia];exact c
theorem z6j {kvs:List (Key×V)} {k:Key}:(valV kvs k).isSome=true↔k∈kvs.map (·.1):=by
 induction kvs with
 | nil=>simp [valV]
 | cons p r ih=>
  obtain ⟨a,pv⟩:=p;by_cases y:a=k
  ·subst y;rw [z0s rfl];simp
  ·rw [z0t y,ih,Y0,F2];exact ⟨λ z=>.inr z,λ z=>z.resolve_left λ x=>y x.symm⟩
theorem z3t {kvs:List (Key×V)} {k:Key} {v:V} (h:k∉kvs.map (·.1)):putK kvs k v=kvs++[(k,v)]:=by unfold putK;rw [if_neg];intro z;obtain ⟨p,a,e⟩:=List.any_eq_true.mp z;exact h (List.mem_map.mpr ⟨p,a,of_decide_eq_true e⟩)
theorem z6l {α β:Type} {R S:α->β->Prop} :∀{xs:List α} {ys:List β},(∀a b,b∈ys->R a b->S a b)->All2 R xs ys->All2 S xs ys
 | _,_,_,.nil=>.nil
 | _,_,h,.cons a r=>.cons (h _ _ O1 a) (z6l (λ x y c z=>h x y (E1 _ c) z) r)
theorem z6n {α β:Type} {R:α->β->Prop} :∀{xs:List α} {ys:List β},ys.length=xs.length->(∀(k:Nat) a b,xs[k]? = some a->ys[k]? = some b->R a b)->All2 R xs ys
 | [],[],_,_=>.nil
 | [],y :: ys,h,_=>by cases h
 | x :: xs,[],h,_=>by cases h
 | x :: xs,y :: ys,h,f=>.cons (f 0 x y rfl rfl) (z6n (by simpa using h) λ k a b c d=>f (k + 1) a b (by rw [C2];exact c) (by rw [C2];exact d))
end
section
variable {P:Program} {w:S0} {mg:Str->Option Value} {base:Heap}
theorem zez :∀{xs ys:List Int},xs.Nodup->(∀x∈xs,x∈ys)->xs.length<=ys.length
 | [],_,_,_=>B2 _
 | x :: r,ys,nd,h=>by
  rw [L7] at nd;have b:=h x (List.mem_cons.mpr (.inl rfl));have:=zez (xs:=r) (ys:=ys.erase x) nd.2 λ y a=>(j0f (λ e=>nd.1 (by rw [<-e];exact a))).mpr (h y (List.mem_cons.mpr (.inr a)));rw [S6 b] at this;have c:0 < ys.length:=A7 b;rw [C1]
  lia
noncomputable def cyc (x:Int):Int:=if x > 1000000000 then x - 2000000001 else x
theorem z2x {f:Nat->Int} :∀n:Nat,(∀i j,i < j->j < n->f i≠f j)->((V0 n).map f).Nodup
 | 0,_=>.nil
 | n + 1,h=>by rw [m5,X0,D5];refine ⟨z2x n λ i j a b=>h i j a (by lia),by show [f n].Nodup;rw [L7];exact ⟨A0,.nil⟩,λ a c b d e=>?_⟩;obtain ⟨i,g,rfl⟩:=List.mem_map.mp c;rw [List.mem_singleton.mp d] at e;exact h i n (List.mem_range.mp g) (V1 n) e
theorem zjl {s0:Int} {ks:List Int} {j:Nat} (h1:-1000000000<=s0) (h2:s0<=1000000000) (hj:j<=1000) (h :∀i,i < j->cyc (s0 + i)∈ks):j<=ks.length:=by
 have:=zez (xs:=(V0 j).map λ i=>cyc (s0 + (i:Nat))) (ys:=ks) (z2x j λ a b f e=>by
  unfold cyc;split<;>split<;>lia) λ x d=>by
  obtain ⟨i,c,rfl⟩:=List.mem_map.mp d;exact h i (List.mem_range.mp c)
 rwa [L0,W2] at this
def z5d (K:d0):Sp:=λ vs H Q _=>∃r:Addr,vs=[.ref r]/\RowAt H r/\∀(nm:Str) H',Rw r H H'->Q (.str nm) H'
theorem z9y (T:TX (kx w) mg) (c0:Ca P w mg base "_law_take" ["row","many"] 1 z1f):Fo P w mg base CX0 2 425 y16 ["row"] (z5d (kx w)):=by
 refine (z48 w.params).ok sc__law_name (λ o H Q E h=>?_) (λ y A F s H o Q E d h=>?_)
 ·obtain ⟨r,rfl,_⟩:=h;rfl
 ·obtain ⟨r,rfl,R,q⟩:=h;refine ⟨_,(z01 (ps_set (i:=1) sc__law_name.nd rfl (P0 rfl) pe_str)
   (z01 (ps_set (i:=2) sc__law_name.nd rfl (P0 rfl) pe_str)
   (z01 (ps_for Q1 rfl (z7a rfl (T.no (zb5 _)) (z00 (pe_op opAdd pe_int (pe_cal c0 (d.mono (by decide)) rfl (z00 (pv 0) (z00 pe_int pa_nil)))) pa_nil)) (z0d (i:=3) sc__law_name.nd rfl (P0 rfl))
   (z03 (ps_set (i:=2) sc__law_name.nd rfl (P0 rfl) (pe_op opAdd (pv 2) (pe_ix ix_seq (pv 1) (pe_cal c0 (d.mono (by decide)) rfl (z00 (pv 0) (z00 pe_int pa_nil))) (λ _ _=>rfl))))))
   (z03 (ps_ret (pv 2)))))),?_⟩
  have p:("abcdefghijklmnopqrstuvwxyz" : Str).cps.toList.length=26:=by decide +kernel
  have u:("abcdefghijklmnopqrstuvwxyz" : Str).length<=sizeLine:=by decide +kernel
  refine ⟨_,rfl,r,8,rfl,R,by decide,by decide,λ t C g z D=>.inl ⟨_,_,rfl,rfl,1 + t,rfl,by lia,by lia,?_⟩⟩;refine z7l (lo:=0) (n:=(1 + t).toNat) (λ i σ v=>Rw r H v/\∃(nm:Str) (x3:Option V),nm.length<=i/\σ=[some (.ref r),some (.str "abcdefghijklmnopqrstuvwxyz"),some (.str nm),x3]) ⟨g,"",_,B0 _,rfl⟩ ?_ ?_
  ·rintro i σ k B ⟨w2,nm,x3,ln,rfl⟩;rw [j07];refine g_name ?_;refine ⟨_,rfl,_,rfl,_,rfl,r,26,rfl,w2.r,by decide,by decide,λ j x l a b=>?_⟩;obtain ⟨c,f,_⟩:=atI_of (xs:=("abcdefghijklmnopqrstuvwxyz" : Str).cps.toList) a (by rw [p];exact b);have e:(⟨#[c]⟩:Str).length=1:=rfl;refine .inr (.inr ⟨_,j,c,rfl,rfl,u,f,.inr (.inl ⟨nm,⟨#[c]⟩,rfl,rfl,by rw [e];exact F0 (m:=100) (by lia) (by decide),?_⟩)⟩);exact ⟨w2.trans l,_,_,by rw [PySem.Str.length_append,e];lia,rfl⟩
  ·rintro σ k ⟨w2,nm,x3,ln,rfl⟩;exact ⟨_,rfl,q _ _ w2⟩
def z4v (K:d0):Sp:=λ vs H Q _=>∃(r u:Addr) (ks:List Int) (kvs:List (Key×V)),vs=[.ref r,.ref u]/\RowAt H r/\H u=some (.dK kvs)/\r≠u/\kvs.map (·.1)=ks.map Sum.inl/\ks.length<=100/\∀(i:Int) H',Rw r H H'->-1000000000<=i->i<=1000000000->i∉ks->Q (.int i) (upd H' u (.dK (putK kvs (.inl i) (.bl true))))
theorem z99 (T:TX (kx w) mg) (c0:Ca P w mg base "_law_worth" ["row"] 2 z2m):Fo P w mg base CX0 3 432 y0w ["row","used"] (z4v (kx w)):=by
 refine (z34 w.params).ok sc__law_fresh (λ G H Q E h=>?_) (λ M A O s H G Q E g h=>?_)
 ·obtain ⟨r,u,b,f,rfl,_⟩:=h;rfl
 ·obtain ⟨r,u,b,f,rfl,R,J,D,o,L,q⟩:=h;refine ⟨_,(z01 (ps_set (i:=2) sc__law_fresh.nd rfl (P0 rfl) (pe_cal c0 (g.mono (by decide)) rfl (z00 (pv 0) pa_nil)))
   (z01 (zet Q1 (pt_cmp (pc_din (hu_of g) (pv 2) (pv 1)) (by with_unfolding_all rfl))
   (z01 (ps_set (i:=2) sc__law_fresh.nd rfl (P0 rfl) (pe_op opAdd (pv 2) pe_int))
   (z03 (ps_if (z07 op_gt (pv 2) (pe_op op_pow pe_int pe_int) (nomark _))
   (z03 (ps_set (i:=2) sc__law_fresh.nd rfl (P0 rfl) (pe_un un_neg (pe_op op_pow pe_int pe_int))))
   z0c))))
   (z01 (z4u (hu_of g) (pv 1) (pv 2) pe_bl rfl)
   (z03 (ps_ret (pv 2)))))),?_⟩
  refine ⟨_,rfl,r,rfl,R,λ a t n I C=>?_⟩;refine g_name ?_;have B:t u=some (.dK f):=n.k _ _ (c4 D) J;have y :∀i:Int,(valV f (.inl i)).isSome=true↔i∈b:=λ i=>by rw [z6j,o];exact ⟨λ z=>by obtain ⟨k,c,e⟩:=List.mem_map.mp z;exact D3 e ▸ c,λ z=>List.mem_map.mpr ⟨i,z,rfl⟩⟩
  refine ⟨λ m σ d=>d=t/\∃j:Nat,j<=b.length/\m=100 - j/\(∀i:Nat,i < j->cyc (a + i)∈b)/\σ=[some (.ref r),some (.ref u),some (.int (cyc (a + j)))],⟨100,rfl,0,B2 _,rfl,λ _ z=>absurd z (T2 _),?_⟩,?_⟩
  ·have:cyc (a + ((0:Nat):Int))=a:=by unfold cyc;rw [if_neg (by lia)];lia
   rw [this];rfl
  ·rintro m σ F ⟨rfl,j,hj,rfl,hin,rfl⟩;have p:-1000000000<=cyc (a + j)/\cyc (a + j)<=1000000000:=by unfold cyc;split<;>lia
   have x:cyc (a + ((j + 1:Nat):Int))=if cyc (a + j) + 1 > 1000000000 then -1000000000 else cyc (a + j) + 1:=by unfold cyc;split<;>split<;>split<;>lia
   refine ⟨_,rfl,_,rfl,u,_,rfl,DGet.k (k:=.inl (cyc (a + j))) B,_,rfl,?_⟩;by_cases c:cyc (a + j)∈b
   ·refine iteP ((y _).mpr c) ?_;have v :∀i:Nat,i < j + 1->cyc (a + i)∈b:=λ i N=>by
     rcases R3 i j with z|z
     ·exact hin i z
     ·have:i=j:=by lia
      rw [this];exact c
    have K:=zjl I C (j:=j + 1) (by lia) v;refine ⟨λ l d=>d=F/\l=[some (.ref r),some (.ref u),some (.int (cyc (a + ((j + 1:Nat):Int))))],?_,?_⟩
    ·rintro l d ⟨rfl,rfl⟩;exact ⟨100 - (j + 1),by lia,rfl,j + 1,K,rfl,v,rfl⟩
    ·refine ⟨_,rfl,.inl ⟨_,_,rfl,rfl,?_⟩⟩;refine ⟨_,rfl,_,_,rfl,rfl,p9,_,_,rfl,rfl,_,rfl,?_⟩;rw [e9];by_cases z:cyc (a + j) + 1 > 1000000000
     ·refine iteP (decide_eq_true z) ⟨_,_,rfl,rfl,p9,_,rfl,rfl,?_⟩;rw [x,if_pos z,e9];rfl
     ·refine iteN (λ e=>z (of_decide_eq_true e)) ⟨rfl,?_⟩;rw [x,if_neg z];rfl
   ·refine iteN (λ e=>c ((y _).mp e)) ?_;refine ⟨_,rfl,_,rfl,u,_,rfl,DPut.k (k:=.inl (cyc (a + j))) B (Q0 (m:=100) (by have:=congrArg List.length o;rw [L0,L0] at this;lia) (by decide)),?_⟩;exact ⟨_,rfl,q _ _ n p.1 p.2 c⟩
end
section
inductive TW (nm:Str) (wr:Int):List Ev->List (Int×Bool)->List Int->Prop
 | nil:TW nm wr [] [] []
 | wri {es:List Ev} {os:List (Int×Bool)} {us:List Int} {i:Int}:TW nm wr es os us->wr∉os.map (·.1)->i≠0->i∉us->TW nm wr (es++[.beg wr (.str nm) (.str "write") (.int i)]) (os++[(wr,true)]) (us++[i])
 | rd {es:List Ev} {os:List (Int×Bool)} {us:List Int} {h:Int}:TW nm wr es os us->h∉os.map (·.1)->TW nm wr (es++[.beg h (.str nm) (.str "read") .non]) (os++[(h,false)]) us
 | fin {es:List Ev} {os:List (Int×Bool)} {us:List Int} {h:Int} {b:Bool} {a:V}:TW nm wr es os us->(h,b)∈os->(b=true->a=.str "ok")->(b=false->∃i,a=.int i)->TW nm wr (es++[.fin h a]) (os.filter λ k=>decide (k.1≠h)) us
theorem TW.us {nm:Str} {wr:Int} {es:List Ev} {os:List (Int×Bool)} {us:List Int} (h:TW nm wr es os us):us.Nodup/\(0:Int)∉us:=by
 induction h with
 | nil=>exact ⟨.nil,A0⟩
 | wri _ _ h0 h1 ih=>
  refine ⟨List.nodup_append.mpr ⟨ih.1,by simp,λ a c b d e=>?_⟩,λ z=>?_⟩
  ·rw [List.mem_singleton.mp d] at e;exact h1 (e ▸ c)
  ·rcases List.mem_append.mp z with z|z
   ·exact ih.2 z
   ·exact h0 (List.mem_singleton.mp z).symm
 | rd _ _ ih=>exact ih
 | fin _ _ _ _ ih=>exact ih
theorem z9c {os:List (Int×Bool)} {h:Int}:(os.filter λ k=>decide (k.1≠h)).map (·.1)=(os.map (·.1)).filter λ k=>decide (k≠h):=by
 induction os with
 | nil=>rfl
 | cons o os ih=>
  by_cases z:o.1=h
  ·rw [T1 (by simp [z]),Y0,T1 (by simp [z]),ih]
  ·rw [N1 (by simp [z]),Y0,Y0,N1 (by simp [z]),ih]
theorem TW.wf {nm:Str} {wr:Int} {es:List Ev} {os:List (Int×Bool)} {us:List Int} (h:TW nm wr es os us):EWf [] es/\es.foldl oStep []=os.map (·.1):=by
 induction h with
 | nil=>exact ⟨trivial,rfl⟩
 | wri _ h0 _ _ ih=>refine ⟨ih.1.snoc (by rw [ih.2];exact h0),?_⟩;rw [F5,ih.2,X0];rfl
 | rd _ h0 ih=>refine ⟨ih.1.snoc (by rw [ih.2];exact h0),?_⟩;rw [F5,ih.2,X0];rfl
 | fin _ h0 _ _ ih=>refine ⟨ih.1.snoc (by rw [ih.2];exact List.mem_map.mpr ⟨_,h0,rfl⟩),?_⟩;rw [F5,ih.2,z9c];rfl
theorem z0f :∀{es:List Ev} {i:Nat} {rs:List Rc} {e:Ev},dAll i rs (es++[e])=dstep (i + es.length) (dAll i rs es) e
 | [],i,rs,e=>rfl
 | x :: es,i,rs,e=>by show dAll (i + 1) (dstep i rs x) (es++[e])=dstep (i + (es.length + 1)) (dAll (i + 1) (dstep i rs x) es) e;rw [z0f,show i + (es.length + 1)=i + 1 + es.length by lia]
noncomputable def isW (r:Rc):Bool:=decide (r.v=.str "write")
noncomputable def intV:V->Int
 | .int i=>i
 | _=>0
def RdG (r:Rc):Prop:=r.v=.str "read"/\r.x=.non/\∀e,r.e=some e->r.a=.int (intV r.a)
def WrG (wr:Int) (r:Rc):Prop:=r.v=.str "write"/\r.h=wr/\r.x=.int (intV r.x)/\∀e,r.e=some e->r.a=.str "ok"
theorem z0y:(V.str "read")≠.str "write":=by decide +kernel
theorem WrG.w {wr:Int} {r:Rc} (h:WrG wr r):isW r=true:=decide_eq_true h.1
theorem RdG.w {r:Rc} (h:RdG r):isW r=false:=decide_eq_false λ e=>z0y (h.1.symm.trans e)
structure TWr (wr:Int) (rs:List Rc) (os:List (Int×Bool)) (us:List Int):Prop where
 g :∀r∈rs,RdG r\/WrG wr r
 u:(rs.filter isW).map (λ r=>intV r.x)=us
 o :∀h b,(h,b)∈os->∃j r,lastI h (rs.map Rc.h)=some j/\rs[j]? = some r/\r.v=.str (if b=true then "write" else "read")
theorem z2j {f:Rc->Rc} (hw :∀r,isW (f r)=isW r) (hx :∀r,(f r).x=r.x) :∀(rs:List Rc) (j:Nat),((rs.modify j f).filter isW).map (λ r=>intV r.x)=(rs.filter isW).map (λ r=>intV r.x)
 | [],j=>by cases j<;>rfl
 | r :: rs,0=>by
  show (((f r) :: rs).filter isW).map _=_;cases h:isW r with
  | true=>rw [N1 (by rw [hw,h]),N1 h,Y0,Y0,hx]
  | false=>rw [T1 (by rw [hw,h];decide),T1 (by rw [h];decide)]
 | r :: rs,j + 1=>by
  show ((r :: rs.modify j f).filter isW).map _=_;cases h:isW r with
  | true=>rw [N1 h,N1 h,Y0,Y0,z2j hw hx rs j]
  | false=>rw [T1 (by rw [h];decide),T1 (by rw [h];decide),z2j hw hx rs j]
theorem TW.rs {nm:Str} {wr:Int} {es:List Ev} {os:List (Int×Bool)} {us:List Int} (h:TW nm wr es os us):TWr wr (dAll 0 [] es) os us:=by
 have D :∀{rs:List Rc} {os:List (Int×Bool)} {us t:List Int} (k:Int) (b:Bool) (r:Rc),TWr wr rs os us->k∉os.map (·.1)->r.h=k->(RdG r\/WrG wr r)->r.v=.str (if b=true then "write" else "read")->t=us++(if b=true then [intV r.x] else [])->TWr wr (rs++[r]) (os++[(k,b)]) t:=by
  intro rs os us t k b r I P H M y K;refine ⟨λ q w=>?_,?_,λ h c p=>?_⟩
  ·rcases List.mem_append.mp w with z|z
   ·exact I.g q z
   ·rw [List.mem_singleton.mp z];exact M
  ·rw [G2,X0,I.u,K];congr 1;cases b with
   | true=>rw [N1 (show isW r=true from decide_eq_true y)];rfl
   | false=>rw [T1 (show ¬ isW r=true from λ z=>z0y (y.symm.trans (of_decide_eq_true z)))];rfl
  ·rw [X0];show∃j q,lastI h (rs.map Rc.h++[r.h])=some j/\_;rw [z1v,H];rcases List.mem_append.mp p with z|z
   ·have ne:¬ k=h:=λ e=>P (e ▸ List.mem_map.mpr ⟨_,z,rfl⟩);obtain ⟨j,q,n,d,l⟩:=I.o h c z;refine ⟨j,q,by rw [if_neg ne];exact n,?_,l⟩;rw [J1 (List.getElem?_eq_some_iff.mp d).1];exact d
   ·have e:=List.mem_singleton.mp z;cases e;refine ⟨rs.length,r,by rw [if_pos rfl,L0],?_,y⟩;rw [K1 (B0 _),y6];rfl
 induction h with
 | nil=>exact ⟨λ _ h=>absurd h A0,rfl,λ _ _ h=>absurd h A0⟩
 | @wri es os us i _ h0 _ _ ih=>rw [z0f];exact D wr true ⟨wr,.str nm,.str "write",.int i,.non,0 + es.length,none⟩ ih h0 rfl (.inr ⟨rfl,rfl,rfl,λ e z=>by cases z⟩) rfl rfl
 | @rd es os us h _ h0 ih=>rw [z0f];exact D h false ⟨h,.str nm,.str "read",.non,.non,0 + es.length,none⟩ ih h0 rfl (.inl ⟨rfl,rfl,λ e z=>by cases z⟩) rfl (Q2 _).symm
 | @fin es os us h b a _ h0 ht hf ih=>
  rw [z0f];obtain ⟨j,r,n,d,l⟩:=ih.o h b h0;have J :∀i,dstep i (dAll 0 [] es) (.fin h a)=(dAll 0 [] es).modify j (λ r=>{ r with a:=a,e:=some i }):=λ i=>by unfold dstep;dsimp only;rw [n]
  rw [J];generalize 0 + es.length=i;generalize hrs:dAll 0 [] es=rs at ih n d l;refine ⟨λ q w=>?_,?_,λ k c p=>?_⟩
  ·obtain ⟨m,F⟩:=List.mem_iff_getElem?.mp w;rw [X1] at F;obtain ⟨O,A,e⟩:=Option.map_eq_some_iff.mp F;have B:=ih.g O (o0 A);by_cases z:j=m
   ·subst z;rw [if_pos rfl] at e;rw [d] at A;cases A;subst e;cases b with
    | true=>
     have v:r.v=.str "write":=l;rcases B with g|g
     ·exact absurd (g.1.symm.trans v) z0y
     ·exact .inr ⟨g.1,g.2.1,g.2.2.1,λ _ _=>ht rfl⟩
    | false=>
     have v:r.v=.str "read":=l;rcases B with g|g
     ·obtain ⟨x,G⟩:=hf rfl;exact .inl ⟨g.1,g.2.1,λ _ _=>by show a=.int (intV a);rw [G];rfl⟩
     ·exact absurd (v.symm.trans g.1) z0y
   ·rw [if_neg z] at e;rw [<-e];exact B
  ·rw [z2j (f:=λ r=>{ r with a:=a,e:=some i }) (λ _=>rfl) (λ _=>rfl)];exact ih.u
  ·rw [z7u (f:=λ r=>{ r with a:=a,e:=some i }) (λ r=>rfl)];obtain ⟨s,C,L,N,E⟩:=ih.o k c (List.mem_filter.mp p).1;refine ⟨s,if j=s then { C with a:=a,e:=some i } else C,L,?_,?_⟩
   ·rw [X1,N];rfl
   ·by_cases z:j=s
    ·rw [if_pos z];exact E
    ·rw [if_neg z];exact E
noncomputable def sinceF (rs:List Rc) (x:Int):Option Int:=rs.foldl (λ (o:Option Int) r=>if isW r=true/\x=intV r.x then some (r.b:Int) else o) (if x=0 then some (-1) else none)
theorem zd4 (x:Int):sinceF [] x=if x=0 then some (-1) else none:=rfl
theorem z6h (rs:List Rc) (r:Rc) (x:Int):sinceF (rs++[r]) x=if isW r=true/\x=intV r.x then some (r.b:Int) else sinceF rs x:=by unfold sinceF;rw [F5];rfl
theorem z54 {rs:List Rc} {i:Nat} {r:Rc} (h:rs[i]? = some r):rs.take (i + 1)=rs.take i++[r]:=by rw [v9,h];rfl
def Bad (rs:List Rc) (i j:Nat):Prop:=∃(r q:Rc) (e f:Nat) (s t:Int),rs[i]? = some r/\rs[j]? = some q/\r.v=.str "read"/\q.v=.str "read"/\r.e=some e/\q.e=some f/\e < q.b/\sinceF rs (intV r.a)=some s/\sinceF rs (intV q.a)=some t/\t < s
def FstB (rs:List Rc) (i j:Nat):Prop:=Bad rs i j/\∀i' j',Bad rs i' j'->i < i'\/(i=i'/\j<=j')
def EndsB (rs:List Rc):Prop:=∀r∈rs,∀e,r.e=some e->r.b < e
theorem EndsB.all :∀{es:List Ev} {i:Nat} {rs:List Rc},EndsB rs->(∀r∈rs,r.b < i)->EndsB (dAll i rs es)/\∀r∈dAll i rs es,r.b < i + es.length
 | [],i,rs,h,hb=>⟨h,hb⟩
 | e :: es,i,rs,h,hb=>by
  have s:EndsB (dstep i rs e)/\∀r∈dstep i rs e,r.b < i + 1:=by
   cases e with
   | beg k n v x=>
    have l:dstep i rs (.beg k n v x)=rs++[⟨k,n,v,x,.non,i,none⟩]:=rfl;rw [l];refine ⟨λ r c e d=>?_,λ r c=>?_⟩
    ·rcases List.mem_append.mp c with z|z
     ·exact h r z e d
     ·rw [List.mem_singleton.mp z] at d;cases d
    ·rcases List.mem_append.mp c with z|z
     ·have:=hb r z;lia
     ·rw [List.mem_singleton.mp z];exact V1 i
   | fin k a=>
    cases hl:lastI k (rs.map Rc.h) with
    | none=>
     have o:dstep i rs (.fin k a)=rs:=by unfold dstep;dsimp only;rw [hl]
     rw [o];exact ⟨h,λ r c=>Z1 (hb r c)⟩
    | some j=>
     have o:dstep i rs (.fin k a)=rs.modify j (λ r=>{ r with a:=a,e:=some i }):=by unfold dstep;dsimp only;rw [hl]
     rw [o];have get :∀q∈rs.modify j (λ r=>{ r with a:=a,e:=some i }),∃r∈rs,q.b=r.b/\(q.e=some i\/q.e=r.e):=λ q f=>by
      obtain ⟨m,l⟩:=List.mem_iff_getElem?.mp f;rw [X1] at l;obtain ⟨r,c,e⟩:=Option.map_eq_some_iff.mp l;refine ⟨r,o0 c,?_⟩;by_cases z:j=m
      ·rw [if_pos z] at e;rw [<-e];exact ⟨rfl,.inl rfl⟩
      ·rw [if_neg z] at e;rw [<-e];exact ⟨rfl,.inr rfl⟩
     refine ⟨λ q f e d=>?_,λ q f=>?_⟩
     ·obtain ⟨r,c,p,g⟩:=get q f;rcases g with g|g
      ·rw [g] at d;cases d;rw [p];exact hb r c
      ·rw [p];exact h r c e (by rw [<-g];exact d)
     ·obtain ⟨r,c,p,_⟩:=get q f;have:=hb r c
      lia
  obtain ⟨t,u⟩:=EndsB.all (es:=es) s.1 s.2;refine ⟨t,λ r c=>?_⟩;have:=u r c;rw [C1]
  lia
theorem z9h :∀(us ns:List Int),us.Nodup->(∀u∈us,u∉ns)->(us.foldl addI ns).length=ns.length + us.length
 | [],ns,_,_=>rfl
 | u :: us,ns,nd,h=>by
  rw [L7] at nd;have e:addI ns u=ns++[u]:=by unfold addI;rw [if_neg (h u (.head _))]
  rw [o5,e,z9h us (ns++[u]) nd.2 λ v a z=>?_]
  ·simp only [D0,C1,X3];lia
  ·rcases List.mem_append.mp z with z|z
   ·exact h v (.tail _ a) z
   ·rw [List.mem_singleton.mp z] at a;exact nd.1 a
theorem z9j {w:Int} :∀(us ns:List Int),(∀u∈us,u=w)->(ns=[]\/ns=[w])->(us.foldl addI ns).length<=1
 | [],ns,_,h=>by rcases h with rfl|rfl<;>simp
 | u :: us,ns,hu,h=>by
  have e:=hu u (.head _);subst e;rw [o5];refine z9j (w:=u) us _ (λ v a=>hu v (.tail _ a)) (.inr ?_);rcases h with rfl|rfl
  ·rfl
  ·unfold addI;rw [if_pos (List.mem_singleton.mpr rfl)]
theorem z3u (p:Nat->Bool) (n:Nat):((V0 n).filter p).Pairwise (· < ·):=z5 _ C5
end
section
variable {P:Program} {w:S0} {mg:Str->Option Value} {base:Heap}
theorem e12:(10:Int) ^ (12:Int).toNat=1000000000000:=by decide
theorem p12:CPow 10 12:=⟨by decide,by decide,by decide⟩
def z43 (K:d0):Sp:=λ vs H Q _=>∃(r l:Addr) (ws:List Int),vs=[.ref r,.ref l]/\RowAt H r/\H l=some (.lst (ws.map V.int))/\r≠l/\0 < ws.length/\ws.length<=100/\∀(i:Int) H',Rw r H H'->Q (.int i) H'
theorem z81 (T:TX (kx w) mg) (c0:Ca P w mg base "_law_take" ["row","many"] 1 z1f) (c1:Ca P w mg base "_law_worth" ["row"] 2 z2m):Fo P w mg base CX0 3 439 y0n ["row","worths"] (z43 (kx w)):=by
 refine (z2e w.params).ok sc__law_answer (λ W H Q E h=>?_) (λ a1 A a4 s H W Q E g h=>?_)
 ·obtain ⟨r,l,c,rfl,_⟩:=h;rfl
 ·obtain ⟨r,l,c,rfl,R,M,a0,w0,w1,q⟩:=h;refine q_of (z9z (QS.mk (ps_set (i:=2) sc__law_answer.nd rfl (P0 rfl) (pe_cal c0 (g.mono (by decide)) rfl (z00 (pv 0) (z00 pe_int pa_nil)))))
   (z9z (QS.mk (ps_if (z07 opEq (pv 2) pe_int (nomark _))
   (z03 (ps_ret (pe_ix ix_seq (pe_lst (z00 (pe_cal c1 (g.mono (by decide)) rfl (z00 (pv 0) pa_nil)) (z00 (pe_cal c1 (g.mono (by decide)) rfl (z00 (pv 0) pa_nil)) (z00 (pe_op op_pow pe_int pe_int) (z00 (pe_un un_neg (pe_op op_pow pe_int pe_int)) (z00 (pe_op opAdd (pe_op op_pow pe_int pe_int) pe_int) pa_nil)))))) (pe_cal c0 (g.mono (by decide)) rfl (z00 (pv 0) (z00 pe_int pa_nil))) (λ _ _=>rfl))))
   z0c))
   (z9z (qs_set (i:=3) sc__law_answer.nd rfl (P0 rfl) (qe_ix ix_seq (qe_lst (z4p (QE.mk pe_int) (z4p (QE.mk pe_int) (z4p (QE.mk pe_int) (z4p (QE.mk pe_int) (z4p (QE.mk pe_int) (z4p (QE.mk pe_int) (z4p (QE.mk pe_int) (z4p (QE.mk (pe_cal c0 (g.mono (by decide)) rfl (z00 (pv 0) (z00 pe_int pa_nil)))) qa_nil))))))))) (QE.mk (pv 2)) (λ _ _=>rfl)))
   (zjm (QS.mk (ps_ret (pe_ix ix_seq (pv 1) (z0h (zfa rfl) rfl (T.no (n_max _)) boot_max (z00 pe_int (z00 (pe_op op_sub (pe_op op_sub (z0h z3l rfl (T.no (n_len _)) U5 (z00 (pv 1) pa_nil)) pe_int) (pv 3)) pa_nil))) (λ _ _=>rfl)))))))) ?_
  refine z0g ?_;refine ⟨_,rfl,r,9,rfl,R,by decide,by decide,λ t H1 m U h1=>?_⟩;refine g_name ?_;refine sq_if ?_;refine ⟨_,rfl,rfl,_,rfl,?_⟩;by_cases z:t=8
  ·refine iteP (decide_eq_true (by rw [z])) ?_;refine sq_ret ?_;refine ⟨_,rfl,r,rfl,m.r,λ i2 H2 F _ _=>⟨_,rfl,r,rfl,F.r,λ N H3 x _ _=>?_⟩⟩;refine ⟨_,_,rfl,rfl,p12,_,_,rfl,rfl,p12,_,rfl,_,_,rfl,rfl,p9,.inl ⟨_,_,rfl,rfl,w_5,λ p j=>?_⟩⟩;refine ⟨_,rfl,r,5,rfl,x.r.same (Same.upd j),by decide,by decide,λ t4 H4 D Y K=>?_⟩;rw [e9,e12] at D;obtain ⟨v,f,d⟩:=atI_of (xs:=[V.int i2,.int N,.int 1000000000000,.int (-1000000000000),.int (1000000000 + 1)]) Y K;refine .inl ⟨p,_,_,v,rfl,rfl,SqL.of (D.k _ _ (x.r.fresh j) upd_same),f,?_⟩;have y:Rw r H H4:=(((m.trans F).trans x).same (Same.upd j)).trans D;simp only [F2,A0,or_false] at d;rcases d with rfl|rfl|rfl|rfl|rfl<;>exact q _ _ y
  ·refine iteN (λ e=>z (by have:=of_decide_eq_true e;injection this)) ?_;refine t_nx (z0g ?_);refine ⟨_,rfl,r,24,rfl,m.r,by decide,by decide,λ u I y a3 a2=>?_⟩;refine ⟨w_8,λ p j=>?_⟩;obtain ⟨v,f,d⟩:=atI_of (xs:=[V.int 0,.int 0,.int 0,.int 0,.int 1,.int 1,.int 2,.int u]) U (show t < 8 by lia);obtain ⟨bk,rfl,b0⟩ :∃bk:Int,v=.int bk/\0<=bk:=by simp only [F2,A0,or_false] at d;rcases d with rfl|rfl|rfl|rfl|rfl|rfl|rfl|rfl<;>exact ⟨_,rfl,by lia⟩
   refine ⟨_,rfl,.inl ⟨p,_,t,_,rfl,rfl,SqL.of upd_same,f,?_⟩⟩;refine g_name ?_;have Z:=Same.upd (o:=.lst [V.int 0,.int 0,.int 0,.int 0,.int 1,.int 1,.int 2,.int u]) j;have C:Rw r H (upd I p (.lst [V.int 0,.int 0,.int 0,.int 0,.int 1,.int 1,.int 2,.int u])):=(m.trans y).same Z;have B:=C.k _ _ (c4 a0) M;generalize upd I p (.lst [V.int 0,.int 0,.int 0,.int 0,.int 1,.int 1,.int 2,.int u])=H6 at C B⊢;have G:(c.map V.int).length=c.length:=L0 ..;have S :∀L:Int,0<=L->L < c.length->∃i:Int,atI (c.map V.int) L=some (.int i):=λ L a b=>by obtain ⟨v,f,d⟩:=atI_of (xs:=c.map V.int) a (by rw [G];exact b);obtain ⟨i,_,rfl⟩:=List.mem_map.mp d;exact ⟨i,f⟩
   have O :∀n:Int,n=(c.length:Int)->0<=(if n - 1 - bk > 0 then n - 1 - bk else 0)/\(if n - 1 - bk > 0 then n - 1 - bk else 0) < c.length:=λ n hn=>by split<;>lia
   obtain ⟨J,l1⟩:=O ((c.map V.int).length:Nat) (by rw [G]);obtain ⟨i,X⟩:=S _ J l1;refine sq_ret ?_;refine ⟨_,rfl,_,rfl,.inl ⟨l,_,rfl,.inl (SqL.of B),?_⟩⟩;refine ⟨_,_,rfl,rfl,_,rfl,_,_,rfl,rfl,_,_,rfl,?_⟩;exact .inl ⟨l,_,_,_,rfl,rfl,SqL.of B,X,q _ _ C⟩
noncomputable def vbS (b:Bool):Str:=if b=true then "write" else "read"
noncomputable def busyK (os:List (Int×Bool)):List (Key×V):=os.map λ o=>(Sum.inl o.1,V.str (vbS o.2))
theorem zbg (os:List (Int×Bool)):(busyK os).map (·.1)=(os.map (·.1)).map Sum.inl:=by unfold busyK;rw [V2,V2];rfl
theorem busy_in {os:List (Int×Bool)} {h:Int}:(valV (busyK os) (.inl h)).isSome=true↔h∈os.map (·.1):=by rw [z6j,zbg];exact ⟨λ z=>by obtain ⟨k,a,e⟩:=List.mem_map.mp z;exact D3 e ▸ a,λ z=>List.mem_map.mpr ⟨h,z,rfl⟩⟩
theorem zd3 :∀{os:List (Int×Bool)} {h:Int},h∈os.map (·.1)->∃b,(h,b)∈os/\valV (busyK os) (.inl h)=some (.str (vbS b))
 | [],_,z=>absurd z A0
 | (k,c) :: os,h,z=>by
  by_cases e:k=h
  ·subst e;exact ⟨c,.head _,z0s rfl⟩
  ·rcases List.mem_cons.mp z with y|y
   ·exact absurd y.symm e
   ·obtain ⟨b,f,a⟩:=zd3 (os:=os) y;exact ⟨b,.tail _ f,by show valV ((Sum.inl k,_) :: busyK os) _=_;rw [z0t (λ d=>e (D3 d))];exact a⟩
theorem z71 :∀{os:List (Int×Bool)} {h:Int},dropK (busyK os) (.inl h)=busyK (os.filter λ k=>decide (k.1≠h))
 | [],_=>rfl
 | (k,c) :: os,h=>by
  show dropK ((Sum.inl k,_) :: busyK os) _=_;by_cases e:k=h
  ·rw [zg1 (by rw [e]),T1 (by simp [e]),z71]
  ·rw [zfz (λ a=>e (D3 a)),N1 (by simp [e]),z71];rfl
theorem ze7 {os:List (Int×Bool)} {h:Int} {b:Bool} (n:h∉os.map (·.1)):putK (busyK os) (.inl h) (.str (vbS b))=busyK (os++[(h,b)]):=by rw [z3t (by rw [zbg];exact λ z=>n (by obtain ⟨k,a,e⟩:=List.mem_map.mp z;exact D3 e ▸ a))];unfold busyK;rw [X0];rfl
theorem zib {α:Type} (xs:List α) (x:α):atI (xs++[x]) (-1)=some x:=by unfold atI ixN;rw [if_neg (by decide),if_pos (by rw [D0,P7];lia)];show (xs++[x])[((-1:Int) + ((xs++[x]).length:Nat)).toNat]? = _;rw [show ((-1:Int) + ((xs++[x]).length:Nat)).toNat=xs.length by rw [D0,P7];lia,K1 (B0 _),y6];rfl
theorem zc6 {K:d0} {r:Addr} {H H':Hp} (R:RowAt H r) (h:Rw r H H'):Tups K H H':=λ a b z=>by
 obtain ⟨x,y,c,e,_⟩:=R;rcases z with (z|⟨ob,z⟩)|z
 ·exact .inl (.inl (h.k _ _ (λ n=>by rw [n,e] at z;cases z) z))
 ·exact .inl (.inr ⟨ob,h.k _ _ (λ n=>by rw [n,e] at z;cases z) z⟩)
 ·exact .inr z
def UB (us:List Int):Prop:=∀u∈us,-1000000000<=u/\u<=1000000000
def EvJ (K:d0) (nm:Str) (wr:Int) (H:Hp) (u wl bz ev:Addr) (i:Nat):Prop:=
 ∃ku os us ys es,H u=some (.dK ku)/\ku.map (·.1)=((0:Int) :: us).map Sum.inl/\H wl=some (.lst (((0:Int) :: us).map V.int))/\H bz=some (.dK (busyK os))/\H ev=some (.lst ys)/\All2 (EvAt K H) es ys/\TW nm wr es os us/\es.length<=i/\us.length<=i/\os.length<=i/\UB us
def z3w (K:d0):Sp:=λ vs H Q _=>∃(c hd:Addr) (wy:Int) (nm:Str) (ns:List Int),vs=[.ref c,.int wy,.ref hd,.str nm]/\SqL K H c (ns.map V.int)/\c≠hd/\ns.length<=63/\RowAt H hd/\
 ∀l ys es os us wr H',Rw hd H H'->H' l=some (.lst ys)->All2 (EvAt K H') es ys->TW nm wr es os us->UB us->es.length<=ns.length->Q (.ref l) H'
theorem z7q (T:TX (kx w) mg) (c0:Ca P w mg base "_law_take" ["row","many"] 1 z1f) (c1:Ca P w mg base "_law_stream" ["cell","way"] 1 z1x) (c2:Ca P w mg base "_law_answer" ["row","worths"] 3 (z43 (kx w))) (c3:Ca P w mg base "_law_fresh" ["row","used"] 3 (z4v (kx w))):Fo P w mg base CX0 4 446 y0o ["cells","way","head","name"] (z3w (kx w)):=by
 refine (z2k w.params).ok sc__law_events (λ vs H Q E h=>?_) (λ j0 A j4 s H vs Q E G h=>?_)
 ·obtain ⟨c,hd,wy,nm,ns,rfl,_⟩:=h;rfl
 ·obtain ⟨c,hd,wy,nm,ns,rfl,h3,f9,ln,R0,q⟩:=h;refine ⟨_,(z01 (ps_set (i:=4) sc__law_events.nd rfl (P0 rfl) (pe_op opAdd pe_int (pe_cal c0 (G.mono (by decide)) rfl (z00 (pv 2) (z00 pe_int pa_nil)))))
   (z01 (ps_set (i:=5) sc__law_events.nd rfl (P0 rfl) (pe_cal c0 (G.mono (by decide)) rfl (z00 (pv 2) (z00 (pv 4) pa_nil))))
   (z01 (ps_set (i:=6) sc__law_events.nd rfl (P0 rfl) (zej (za4 pe_int pe_bl zd2) rfl rfl (by simp) (by decide)))
   (z01 (ps_set (i:=7) sc__law_events.nd rfl (P0 rfl) (pe_lst (z00 pe_int pa_nil)))
   (z01 (ps_set (i:=8) sc__law_events.nd rfl (P0 rfl) z77)
   (z01 (ps_set (i:=9) sc__law_events.nd rfl (P0 rfl) (pe_lst pa_nil))
   (z01 (ps_for Q1 rfl (z0v (pv 0)) (z0d (i:=10) sc__law_events.nd rfl (P0 rfl))
   (z01 (ps_set (i:=11) sc__law_events.nd rfl (P0 rfl) (pe_cal c1 (G.mono (by decide)) rfl (z00 (pe_op zag (pv 10) pe_int) (z00 (pv 1) pa_nil))))
   (z01 (ps_set (i:=12) sc__law_events.nd rfl (P0 rfl) (pe_cal c0 (G.mono (by decide)) rfl (z00 (pv 11) (z00 (pv 4) pa_nil))))
   (z03 (ps_if (pt_cmp (pc_din (hu_of G) (pv 12) (pv 8)) (by with_unfolding_all rfl))
   (z01 (ps_set (i:=13) sc__law_events.nd rfl (P0 rfl) pe_str)
   (z01 (ps_if (z07 opEq (zhh (pv 8) (pv 12) ⟨rfl,rfl,rfl,rfl⟩) pe_str (nomark _))
   (z03 (ps_set (i:=13) sc__law_events.nd rfl (P0 rfl) (pe_cal c2 (G.mono (by decide)) rfl (z00 (pv 11) (z00 (pv 7) pa_nil)))))
   z0c)
   (z03 (z1n (z0o (pv 9) (z00 (pe_tup (z00 pe_str (z00 (pv 12) (z00 (pv 13) pa_nil)))) pa_nil))))))
   (z03 (ps_if (PW.pt (pw_and (z07 opEq (pv 12) (pv 5) (nomark _)) (z2w (z07 op_gt (pe_cal c0 (G.mono (by decide)) rfl (z00 (pv 11) (z00 pe_int pa_nil))) pe_int (nomark _)))))
   (z01 (z1n (z0o (pv 7) (z00 (pe_cal c3 (G.mono (by decide)) rfl (z00 (pv 11) (z00 (pv 6) pa_nil))) pa_nil)))
   (z01 (z4u (hu_of G) (pv 8) (pv 12) pe_str rfl)
   (z03 (z1n (z0o (pv 9) (z00 (pe_tup (z00 pe_str (z00 (pv 12) (z00 (pv 3) (z00 pe_str (z00 (pe_ix ix_seq (pv 7) (pe_un un_neg pe_int) (λ _ _=>rfl)) pa_nil)))))) pa_nil))))))
   (z01 (z4u (hu_of G) (pv 8) (pv 12) pe_str rfl)
   (z03 (z1n (z0o (pv 9) (z00 (pe_tup (z00 pe_str (z00 (pv 12) (z00 (pv 3) (z00 pe_str (z00 pe_non pa_nil)))))) pa_nil))))))))))))
   (z03 (ps_ret (pv 9)))))))))),?_⟩
  refine ⟨_,rfl,hd,5,rfl,R0,by decide,by decide,λ R H1 k1 j1 i8=>.inl ⟨2,R,rfl,rfl,?_⟩⟩;refine ⟨_,rfl,_,rfl,hd,2 + R,rfl,k1.r,by lia,by lia,λ S l k2 i9 j2=>?_⟩;have b8:=k1.trans k2;intro u hu;refine ⟨upd_same,[(.inl 0,.bl true)],rfl,(show (1:Nat)<=15 by decide),?_⟩;have fu:l u=none:=hu;have s3:Same l (upd (upd l u (.dK [])) u (.dK (mergeK [] [(.inl 0,.bl true)]))):=Same.keep (Same.upd hu) fu;have d7:upd (upd l u (.dK [])) u (.dK (mergeK [] [(.inl 0,.bl true)])) u=some (.dK [(.inl 0,.bl true)]):=upd_same;generalize upd (upd l u (.dK [])) u (.dK (mergeK [] [(.inl 0,.bl true)]))=H3 at s3 d7⊢;refine ⟨w_1,λ j b4=>?_⟩;have s4:=Same.upd (o:=.lst [V.int 0]) b4;have d8:upd H3 j (.lst [V.int 0]) j=some (.lst [V.int 0]):=upd_same;have d1:=s4 _ _ d7;have c8:=s3.trans s4;have fw:l j=none:=s3.free b4;generalize upd H3 j (.lst [V.int 0])=H4 at s4 d8 d1 c8⊢;intro d a3;have s5:=Same.upd (o:=.dK []) a3;have d3:upd H4 d (.dK []) d=some (.dK []):=upd_same;have e0:=s5 _ _ d8;have c9:=s5 _ _ d1;have d2:=c8.trans s5;have fb:l d=none:=c8.free a3;have b6:d≠u:=λ z=>by rw [z,d1] at a3;cases a3
  have c4:d≠j:=λ z=>by rw [z,d8] at a3;cases a3
  have g5:j≠u:=λ z=>by rw [z,d7] at b4;cases b4
  generalize upd H4 d (.dK [])=H5 at s5 d3 e0 c9 d2⊢;refine ⟨w_0,λ g I=>?_⟩;have s6:=Same.upd (o:=.lst []) I;have e8:upd H5 g (.lst []) g=some (.lst []):=upd_same;have f8:=s6 _ _ d3;have g6:=s6 _ _ e0;have h1:=s6 _ _ c9;have e2:=d2.trans s6;have fe:l g=none:=d2.free I;have L:g≠d:=λ z=>by rw [z,d3] at I;cases I
  have b7:g≠u:=λ z=>by rw [z,c9] at I;cases I
  have new:g≠j:=λ z=>by rw [z,e0] at I;cases I
  generalize upd H5 g (.lst [])=H6 at s6 e8 f8 g6 h1 e2⊢;have e9:SqL (kx w) l c (ns.map V.int):=(by
   rcases h3 with (z|⟨ob,z⟩)|z
   ·exact .inl (.inl (b8.k _ _ f9 z))
   ·exact .inl (.inr ⟨ob,b8.k _ _ f9 z⟩)
   ·exact .inr z)
  have J0:EvJ (kx w) nm S H6 u j d g 0:=⟨[(.inl 0,.bl true)],[],[],[],[],h1,rfl,g6,f8,e8,.nil,.nil,B0 _,B0 _,B0 _,λ _ h=>absurd h A0⟩
  refine ⟨_,rfl,c,rfl,⟨_,e2.seq e9⟩,?_⟩;refine z1o (K:=KX w.params) (a:=c) (xs:=ns.map V.int) (λ i σ H'=>Same l H'/\EvJ (kx w) nm S H' u j d g i/\∃x10 x11 x12 x13,σ=[some (.ref c),some (.int wy),some (.ref hd),some (.str nm),some (.int (2 + R)),some (.int S),some (.ref u),some (.ref j),some (.ref d),some (.ref g),x10,x11,x12,x13])
   ⟨e2,J0,_,_,_,_,rfl⟩ (λ _ σ H' _ h=>h.1.seq e9) ?_ ?_
  ·rintro i y σ Z hy ⟨s7,⟨ku,os,us,ys,es,eu,eku,ew,eb,ee,al,tw,le,lu,lo,ub⟩,x10,x11,x12,x13,rfl⟩;obtain ⟨cl,_,rfl⟩:=List.mem_map.mp (o0 hy);have hi:i < 63:=by have:=(List.getElem?_eq_some_iff.mp hy).1;rw [L0] at this;lia
   refine g_name ?_;refine ⟨_,rfl,_,_,rfl,rfl,⟨by decide,by decide⟩,_,rfl,_,_,rfl,λ r tr F b0 b1=>?_⟩;have s8:=Same.upd (o:=.lst [.int (cl / 2),.int wy,.int tr]) F;have R8:RowAt (upd Z r (.lst [.int (cl / 2),.int wy,.int tr])) r:=⟨_,_,_,upd_same,b0,b1⟩
   have fr:l r=none:=s7.free F;have a7:r≠u:=λ z=>by rw [z,eu] at F;cases F
   have b2:r≠j:=λ z=>by rw [z,ew] at F;cases F
   have a6:r≠d:=λ z=>by rw [z,eb] at F;cases F
   have a2:r≠g:=λ z=>by rw [z,ee] at F;cases F
   generalize upd Z r (.lst [.int (cl / 2),.int wy,.int tr])=H8 at s8 R8⊢;refine ⟨_,rfl,_,rfl,r,2 + R,rfl,R8,by lia,by lia,λ h B k9 j3 i7=>?_⟩;have b5 :∀{a:Addr} {o:HO},a≠r->Z a=some o->B a=some o:=λ n e=>k9.k _ _ n (s8 _ _ e);have c6:Same l B:=λ a o e=>k9.k _ _ (λ z=>by rw [z,fr] at e;cases e) ((s7.trans s8) a o e);have h4:Tups (kx w) Z B:=(Tups.of s8).trans (zc6 R8 k9);have d9:=b5 a7.symm eu;have d4:=b5 b2.symm ew;have X:=b5 a6.symm eb;have b9:=b5 a2.symm ee;have c7:=z02 (λ _ _ z=>EvAt.tups h4 z) al;have R9:=k9.r;have ly:ys.length=es.length:=z05 al;refine ⟨_,rfl,_,rfl,d,_,rfl,DGet.k (k:=.inl h) X,_,rfl,?_⟩;by_cases hb:h∈os.map (·.1)
   ·refine iteP (busy_in.mpr hb) ?_;obtain ⟨b,i0,i1⟩:=zd3 hb;have f4 :∀(a:V) (f:Hp),(b=true->a=.str "ok")->(b=false->∃i,a=.int i)->Same l f->Tups (kx w) B f->f u=some (.dK ku)->f j=some (.lst (((0:Int) :: us).map V.int))->f d=some (.dK (busyK (os.filter λ k=>decide (k.1≠h))))->f g=some (.lst ys)->∀p,f p=none->Same l (upd (upd f p (.tup [.str "end",.int h,a])) g (.lst (ys++[.ref p])))/\EvJ (kx w) nm S (upd (upd f p (.tup [.str "end",.int h,a])) g (.lst (ys++[.ref p]))) u j d g (i + 1):=by intro a f i2 h2 sx tx xu xw xb xe p v;have t:=Same.upd (o:=.tup [.str "end",.int h,a]) v;have e1:upd f p (.tup [.str "end",.int h,a]) p=some (.tup [.str "end",.int h,a]):=upd_same;have a1:=t _ _ xe;have a4:=t _ _ xu;have a5:=t _ _ xw;have b3:=t _ _ xb;have a9:=sx.trans t;have e5:=tx.trans (.of t);generalize upd f p (.tup [.str "end",.int h,a])=Hy at t e1 a1 a4 a5 b3 a9 e5⊢;have ty:Tups (kx w) Hy (upd Hy g (.lst (ys++[.ref p]))):=Tups.lst a1;refine ⟨Same.keep a9 fe,ku,os.filter λ k=>decide (k.1≠h),us,ys++[.ref p],es++[.fin h a],by rw [upd_ne b7.symm];exact a4,eku,by rw [upd_ne new.symm];exact a5,by rw [upd_ne L.symm];exact b3,upd_same,?_,.fin tw i0 i2 h2,by rw [D0];show es.length + 1<=i + 1;lia,by lia,F0 (U1 _ _) (by lia),ub⟩;exact z0m (z02 (λ _ _ z=>EvAt.tups (e5.trans ty) z) c7) ⟨p,rfl,ty _ _ (SqT.of e1)⟩
    have kb:Tups (kx w) B (upd B d (.dK (dropK (busyK os) (.inl h)))):=Tups.dict X;refine ⟨_,rfl,d,rfl,.inl ⟨_,.inl X⟩,_,rfl,busyK os,.inl h,.str (vbS b),X,rfl,i1,rfl,_,rfl,?_⟩;have Y:upd B d (.dK (dropK (busyK os) (.inl h))) u=some (.dK ku):=by rw [upd_ne b6.symm];exact d9
    have J:upd B d (.dK (dropK (busyK os) (.inl h))) j=some (.lst (((0:Int) :: us).map V.int)):=by rw [upd_ne c4.symm];exact d4
    have D:upd B d (.dK (dropK (busyK os) (.inl h))) g=some (.lst ys):=by rw [upd_ne L];exact b9
    have U:upd B d (.dK (dropK (busyK os) (.inl h))) d=some (.dK (busyK (os.filter λ k=>decide (k.1≠h)))):=by rw [z71];exact upd_same
    have d0:RowAt (upd B d (.dK (dropK (busyK os) (.inl h)))) r:=R9.elim λ a z=>z.elim λ b z=>z.elim λ c z=>⟨a,b,c,by rw [upd_ne a6];exact z.1,z.2⟩
    have a0:Same l (upd B d (.dK (dropK (busyK os) (.inl h)))):=Same.keep c6 fb;generalize upd B d (.dK (dropK (busyK os) (.inl h)))=O at kb Y J D U d0 a0⊢;cases b with
    | true=>refine iteK ?_;refine ⟨_,rfl,.inl ⟨rfl,ys,SqL.of D⟩,_,rfl,_,rfl,w_3,λ p v=>?_⟩;refine ⟨g,ys,_,rfl,rfl,(Same.upd v) _ _ D,Q0 (m:=100) (by lia) (by decide),?_⟩;obtain ⟨W,M⟩:=f4 (.str "ok") O (λ _=>rfl) (λ z=>by cases z) a0 kb Y J U D p v;exact ⟨W,M,_,_,_,_,rfl⟩
    | false=>refine iteP (by decide +kernel) ?_;refine ⟨_,rfl,_,rfl,r,j,(0:Int) :: us,rfl,d0,J,b2,by simp,by show us.length + 1<=100;lia,λ a C N=>?_⟩;have k :∀{a:Addr} {o:HO},a≠r->O a=some o->C a=some o:=λ n e=>N.k _ _ n e;refine ⟨_,rfl,.inl ⟨rfl,ys,SqL.of (k a2.symm D)⟩,_,rfl,_,rfl,w_3,λ p v=>?_⟩;refine ⟨g,ys,_,rfl,rfl,(Same.upd v) _ _ (k a2.symm D),Q0 (m:=100) (by lia) (by decide),?_⟩;obtain ⟨W,M⟩:=f4 (.int a) C (λ z=>by cases z) (λ _=>⟨a,rfl⟩) (λ c o e=>N.k _ _ (λ z=>by rw [z,fr] at e;cases e) (a0 c o e)) (kb.trans (zc6 d0 N)) (k a7.symm Y) (k b2.symm J) (k a6.symm U) (k a2.symm D) p v;exact ⟨W,M,_,_,_,_,rfl⟩
   ·refine iteN (λ z=>hb (busy_in.mp z)) ?_;have rd :∀(f:Hp),Same l f->Tups (kx w) B f->f u=some (.dK ku)->f j=some (.lst (((0:Int) :: us).map V.int))->f d=some (.dK (busyK os))->f g=some (.lst ys)->∀p,upd f d (.dK (putK (busyK os) (.inl h) (.str (vbS false)))) p=none->upd f d (.dK (putK (busyK os) (.inl h) (.str (vbS false)))) g=some (.lst ys)/\Same l (upd (upd (upd f d (.dK (putK (busyK os) (.inl h) (.str (vbS false))))) p (.tup [.str "begin",.int h,.str nm,.str "read",.non])) g (.lst (ys++[.ref p])))/\EvJ (kx w) nm S (upd (upd (upd f d (.dK (putK (busyK os) (.inl h) (.str (vbS false))))) p (.tup [.str "begin",.int h,.str nm,.str "read",.non])) g (.lst (ys++[.ref p]))) u j d g (i + 1):=by
     intro f sx tx xu xw xb xe p v;rw [ze7 hb] at v⊢;have R:Tups (kx w) f (upd f d (.dK (busyK (os++[(h,false)])))):=Tups.dict xb;have b3:upd f d (.dK (busyK (os++[(h,false)]))) d=some (.dK (busyK (os++[(h,false)]))):=upd_same;have a4:upd f d (.dK (busyK (os++[(h,false)]))) u=some (.dK ku):=by rw [upd_ne b6.symm];exact xu
     have a5:upd f d (.dK (busyK (os++[(h,false)]))) j=some (.lst (((0:Int) :: us).map V.int)):=by rw [upd_ne c4.symm];exact xw
     have a1:upd f d (.dK (busyK (os++[(h,false)]))) g=some (.lst ys):=by rw [upd_ne L];exact xe
     have a9:Same l (upd f d (.dK (busyK (os++[(h,false)])))):=Same.keep sx fb;refine ⟨a1,?_⟩;generalize upd f d (.dK (busyK (os++[(h,false)])))=Hy at R b3 a4 a5 a1 a9 v⊢;obtain ⟨Hz,v_,t,e1⟩:=newA (.tup [.str "begin",.int h,.str nm,.str "read",.non]) v;rw [<-v_];have ty:Tups (kx w) Hz (upd Hz g (.lst (ys++[.ref p]))):=Tups.lst (t _ _ a1);refine ⟨Same.keep (a9.trans t) fe,ku,os++[(h,false)],us,ys++[.ref p],es++[.beg h (.str nm) (.str "read") .non],by rw [upd_ne b7.symm];exact t _ _ a4,eku,by rw [upd_ne new.symm];exact t _ _ a5,by rw [upd_ne L.symm];exact t _ _ b3,upd_same,?_,.rd tw hb,by rw [D0];show es.length + 1<=i + 1;lia,by lia,by rw [D0];show os.length + 1<=i + 1;lia,ub⟩;exact z0m (z02 (λ _ _ z=>EvAt.tups ((tx.trans R).trans ((Tups.of t).trans ty)) z) c7) ⟨p,rfl,ty _ _ (SqT.of e1)⟩
    have j5 :∀(f:Hp) (x13:Option V),Same l f->Tups (kx w) B f->f u=some (.dK ku)->f j=some (.lst (((0:Int) :: us).map V.int))->f d=some (.dK (busyK os))->f g=some (.lst ys)->True:=λ _ _ _ _ _ _ _ _=>trivial;refine ⟨_,rfl,_,rfl,rfl,_,rfl,?_⟩;by_cases hw:h=S
    ·refine iteP (decide_eq_true (by rw [hw])) ?_;refine ⟨_,rfl,r,5,rfl,R9,by decide,by decide,λ t5 O a8 j6 i6=>⟨_,_,rfl,rfl,_,rfl,?_⟩⟩;have k :∀{a:Addr} {o:HO},a≠r->B a=some o->O a=some o:=λ n e=>a8.k _ _ n e;have a0:Same l O:=λ c o e=>a8.k _ _ (λ z=>by rw [z,fr] at e;cases e) (c6 c o e);have g2:=zc6 (K:=KX w.params) R9 a8;have Y:=k a7.symm d9;have J:=k b2.symm d4;have U:=k a6.symm X;have D:=k a2.symm b9;by_cases hz:t5 > 0
     ·refine iteP (decide_eq_true hz) ?_;refine ⟨_,rfl,.inl ⟨rfl,_,SqL.of J⟩,_,rfl,_,rfl,r,u,(0:Int) :: us,ku,rfl,a8.r,Y,a7,eku,by show us.length + 1<=100;lia,λ x C N h9 h7 hx=>?_⟩;have kk :∀{a:Addr} {o:HO},a≠r->O a=some o->C a=some o:=λ n e=>N.k _ _ n e;have h8:Same l C:=λ c o e=>N.k _ _ (λ z=>by rw [z,fr] at e;cases e) (a0 c o e);have h5:=zc6 (K:=KX w.params) a8.r N;have h6:=kk a7.symm Y;have i5:=kk b2.symm J;have i3:=kk a6.symm U;have i4:=kk a2.symm D;have xk:putK ku (.inl x) (.bl true)=ku++[(.inl x,.bl true)]:=z3t (by rw [eku];exact λ z=>hx (by obtain ⟨k,hk,e⟩:=List.mem_map.mp z;exact D3 e ▸ hk));have g4:Tups (kx w) C (upd C u (.dK (putK ku (.inl x) (.bl true)))):=Tups.dict h6;have e4:Same l (upd C u (.dK (putK ku (.inl x) (.bl true)))):=Same.keep h8 fu;have e6:upd C u (.dK (putK ku (.inl x) (.bl true))) u=some (.dK (putK ku (.inl x) (.bl true))):=upd_same;have d5:upd C u (.dK (putK ku (.inl x) (.bl true))) j=some (.lst (((0:Int) :: us).map V.int)):=by rw [upd_ne g5];exact i5
      have f5:upd C u (.dK (putK ku (.inl x) (.bl true))) d=some (.dK (busyK os)):=by rw [upd_ne b6];exact i3
      have g0:upd C u (.dK (putK ku (.inl x) (.bl true))) g=some (.lst ys):=by rw [upd_ne b7];exact i4
      generalize upd C u (.dK (putK ku (.inl x) (.bl true)))=H12 at g4 e4 e6 d5 f5 g0⊢;refine ⟨j,_,_,rfl,rfl,d5,Q0 (m:=100) (by rw [L0];show us.length + 1<=100;lia) (by decide),?_⟩;have h0:Tups (kx w) H12 (upd H12 j (.lst (((0:Int) :: us).map V.int++[.int x]))):=Tups.lst d5;have g9:Same l (upd H12 j (.lst (((0:Int) :: us).map V.int++[.int x]))):=Same.keep e4 fw;have g1:upd H12 j (.lst (((0:Int) :: us).map V.int++[.int x])) j=some (.lst (((0:Int) :: us).map V.int++[.int x])):=upd_same;have f3:upd H12 j (.lst (((0:Int) :: us).map V.int++[.int x])) u=some (.dK (putK ku (.inl x) (.bl true))):=by rw [upd_ne g5.symm];exact e6
      have e3:upd H12 j (.lst (((0:Int) :: us).map V.int++[.int x])) d=some (.dK (busyK os)):=by rw [upd_ne c4];exact f5
      have e7:upd H12 j (.lst (((0:Int) :: us).map V.int++[.int x])) g=some (.lst ys):=by rw [upd_ne new];exact g0
      generalize upd H12 j (.lst (((0:Int) :: us).map V.int++[.int x]))=H13 at h0 g9 g1 f3 e3 e7⊢;refine ⟨_,rfl,_,rfl,d,_,rfl,DPut.k (k:=.inl h) e3 (Q0 (m:=100) (by unfold busyK;rw [L0];lia) (by decide)),?_⟩;rw [show putK (busyK os) (.inl h) (.str "write")=busyK (os++[(h,true)]) from ze7 (b:=true) hb];have g8:Tups (kx w) H13 (upd H13 d (.dK (busyK (os++[(h,true)])))):=Tups.dict e3;have g3:Same l (upd H13 d (.dK (busyK (os++[(h,true)])))):=Same.keep g9 fb;have g7:upd H13 d (.dK (busyK (os++[(h,true)]))) d=some (.dK (busyK (os++[(h,true)]))):=upd_same;have f7:upd H13 d (.dK (busyK (os++[(h,true)]))) u=some (.dK (putK ku (.inl x) (.bl true))):=by rw [upd_ne b6.symm];exact f3
      have d6:upd H13 d (.dK (busyK (os++[(h,true)]))) j=some (.lst (((0:Int) :: us).map V.int++[.int x])):=by rw [upd_ne c4.symm];exact g1
      have c5:upd H13 d (.dK (busyK (os++[(h,true)]))) g=some (.lst ys):=by rw [upd_ne L];exact e7
      generalize upd H13 d (.dK (busyK (os++[(h,true)])))=H14 at g8 g3 g7 f7 d6 c5⊢;refine ⟨_,rfl,.inl ⟨rfl,ys,SqL.of c5⟩,_,rfl,_,rfl,_,rfl,_,rfl,.inl ⟨j,_,-1,.int x,rfl,rfl,SqL.of d6,zib _ _,w_5,λ p v=>?_⟩⟩;obtain ⟨f6,v_,t,e1⟩:=newA (.tup [.str "begin",.int h,.str nm,.str "write",.int x]) v;rw [<-v_];refine ⟨g,ys,_,rfl,rfl,t _ _ c5,Q0 (m:=100) (by lia) (by decide),?_⟩;have ty:Tups (kx w) f6 (upd f6 g (.lst (ys++[.ref p]))):=Tups.lst (t _ _ c5);have ux:x≠0/\x∉us:=⟨λ z=>hx (by rw [z];exact .head _),λ z=>hx (.tail _ z)⟩
      refine ⟨Same.keep (g3.trans t) fe,⟨putK ku (.inl x) (.bl true),os++[(h,true)],us++[x],ys++[.ref p],es++[.beg h (.str nm) (.str "write") (.int x)],by rw [upd_ne b7.symm];exact t _ _ f7,?_,?_,by rw [upd_ne L.symm];exact t _ _ g7,upd_same,?_,?_,by rw [D0];show es.length + 1<=i + 1;lia,by rw [D0];show us.length + 1<=i + 1;lia,by rw [D0];show os.length + 1<=i + 1;lia,λ u hu=>(List.mem_append.mp hu).elim (ub u) λ z=>by rw [List.mem_singleton.mp z];exact ⟨h9,h7⟩⟩,_,_,_,_,rfl⟩
      ·rw [xk,X0,eku];show ((0:Int) :: us).map Sum.inl++[Sum.inl x]=(((0:Int) :: us)++[x]).map Sum.inl;rw [X0];rfl
      ·rw [upd_ne new.symm];have:=t _ _ d6;rw [this];show some (HO.lst (((0:Int) :: us).map V.int++[.int x]))=some (.lst ((((0:Int) :: us)++[x]).map V.int));rw [X0];rfl
      ·exact z0m (z02 (λ _ _ z=>EvAt.tups ((((g2.trans h5).trans g4).trans (h0.trans g8)).trans ((Tups.of t).trans ty)) z) c7) ⟨p,rfl,ty _ _ (SqT.of e1)⟩
      ·rw [hw];exact .wri tw (by rw [<-hw];exact hb) ux.1 ux.2
     ·refine iteN (λ e=>hz (of_decide_eq_true e)) ?_;refine ⟨_,rfl,_,rfl,d,_,rfl,DPut.k (k:=.inl h) U (Q0 (m:=100) (by unfold busyK;rw [L0];lia) (by decide)),?_⟩;have er:=λ p v=>rd O a0 g2 Y J U D p v;refine ⟨_,rfl,.inl ⟨rfl,ys,SqL.of (by rw [upd_ne L];exact D)⟩,_,rfl,_,rfl,w_5,λ p v=>?_⟩;obtain ⟨f0,W,M⟩:=er p v;refine ⟨g,ys,_,rfl,rfl,(Same.upd v) _ _ f0,Q0 (m:=100) (by lia) (by decide),?_⟩;exact ⟨W,M,_,_,_,_,rfl⟩
    ·refine iteN (λ e=>hw (by have:=of_decide_eq_true e;injection this)) ?_;refine iteN (by decide) ?_;refine ⟨_,rfl,_,rfl,d,_,rfl,DPut.k (k:=.inl h) X (Q0 (m:=100) (by unfold busyK;rw [L0];lia) (by decide)),?_⟩;refine ⟨_,rfl,.inl ⟨rfl,ys,SqL.of (by rw [upd_ne L];exact b9)⟩,_,rfl,_,rfl,w_5,λ p v=>?_⟩;obtain ⟨f0,W,M⟩:=rd B c6 (λ _ _ z=>z) d9 d4 X b9 p v;refine ⟨g,ys,_,rfl,rfl,(Same.upd v) _ _ f0,Q0 (m:=100) (by lia) (by decide),?_⟩;exact ⟨W,M,_,_,_,_,rfl⟩
  ·rintro σ Z ⟨s7,⟨ku,os,us,ys,es,eu,eku,ew,eb,ee,al,tw,le,lu,lo,ub⟩,x10,x11,x12,x13,rfl⟩;rw [L0] at le;exact ⟨_,rfl,q g ys es os us S Z ⟨b8.k.trans s7.kept,b8.r.same s7⟩ ee al tw ub le⟩
def z5a (K:d0):Sp:=λ vs H Q _=>∃(sc:Addr) (ns:List Int),vs=[.ref sc,.int 16]/\SqL K H sc (ns.map V.int)/\ns.length<=63/\
 ∀t pt th te ys es os us wr nm H',Same H H'->H' t=some (.tup [.ref pt,.ref te])->H' pt=some (.tup [.ref th])->H' th=some (.tup [.str nm,.str "register"])->H' te=some (.tup ys)->All2 (EvAt K H') es ys->TW nm wr es os us->UB us->es.length<=16->Q (.ref t) H'
theorem zhn (ns:List Int) (a b:Option Int) :∃ms:List Int,cutV (ns.map V.int) a b=ms.map V.int/\ms.length<=ns.length/\ms.length<=HT.sIx ns.length ns.length b - HT.sIx ns.length 0 a:=by
 refine ⟨(ns.drop (HT.sIx (ns.map V.int).length 0 a)).take (HT.sIx (ns.map V.int).length (ns.map V.int).length b - HT.sIx (ns.map V.int).length 0 a),?_,?_⟩
 ·unfold cutV;rw [List.map_take,List.map_drop]
 ·rw [n4,Z6,L0]
  lia
theorem zao (T:TX (kx w) mg) (c1:Ca P w mg base "_law_cell_at" ["script","k"] 1 (z2z (kx w))) (c2:Ca P w mg base "_law_stream" ["cell","way"] 1 z1x) (c3:Ca P w mg base "_law_name" ["row"] 2 (z5d (kx w))) (c4:Ca P w mg base "_law_events" ["cells","way","head","name"] 4 (z3w (kx w))):Fo P w mg base CX0 5 453 y17 ["script","most"] (z5a (kx w)):=by
 refine (z4g w.params).ok sc__law_tale (λ vs H Q E h=>?_) (λ a7 A a8 s H vs Q E D h=>?_)
 ·obtain ⟨m,G,rfl,_⟩:=h;rfl
 ·obtain ⟨m,G,rfl,sq,hn,q⟩:=h;refine ⟨_,(z01 (ps_set (i:=2) sc__law_tale.nd rfl (P0 rfl) (pe_cal c1 (D.mono (by decide)) rfl (z00 (pv 0) (z00 pe_int pa_nil))))
   (z01 (ps_set (i:=3) sc__law_tale.nd rfl (P0 rfl) (pe_cal c2 (D.mono (by decide)) rfl (z00 (pe_op zag (pv 2) pe_int) (z00 (pe_op op_mod (pv 2) pe_int) pa_nil))))
   (z01 (ps_set (i:=4) sc__law_tale.nd rfl (P0 rfl) (pe_cal c3 (D.mono (by decide)) rfl (z00 (pv 3) pa_nil)))
   (z03 (ps_ret (pe_tup (z00 (pe_tup (z00 (pe_tup (z00 (pv 4) (z00 pe_str pa_nil))) pa_nil)) (z00 (z52 z1l rfl (T.no (zc0 _)) j01 (z00 (pe_cal c4 (D.mono (by decide)) rfl (z00 (z32 slSeq (pv 0) (z4q pe_int) (z4q (pe_op opAdd pe_int (pv 1)))) (z00 (pe_op op_mod (pv 2) pe_int) (z00 (pv 3) (z00 (pv 4) pa_nil))))) pa_nil)) pa_nil)))))))),?_⟩
  refine ⟨_,rfl,m,G,rfl,sq,λ f=>?_⟩;refine ⟨_,rfl,_,_,rfl,rfl,⟨by decide,by decide⟩,_,rfl,_,_,rfl,rfl,(show (0:Int) < 2 by decide),_,_,rfl,λ d I v b0 b1=>?_⟩;have s1:=Same.upd (o:=.lst [.int (f / 2),.int (f % 2),.int I]) v;have R:RowAt (upd H d (.lst [.int (f / 2),.int (f % 2),.int I])) d:=⟨_,_,_,upd_same,b0,b1⟩
  have a6 :∀{xs:List V},H m=some (.lst xs)->m≠d:=λ e z=>by rw [z,v] at e;cases e
  generalize upd H d (.lst [.int (f / 2),.int (f % 2),.int I])=H1 at s1 R⊢;refine ⟨_,rfl,d,rfl,R,λ nm K Y=>?_⟩;have s2:Same H K:=λ c o e=>Y.k _ _ (λ z=>by rw [z,v] at e;cases e) (s1 c o e);refine ⟨_,rfl,w_2,λ b a3=>⟨w_1,λ pt M=>?_⟩⟩;have L:=Same.upd (o:=.tup [.str nm,.str "register"]) a3;have e3:upd K b (.tup [.str nm,.str "register"]) b=some (.tup [.str nm,.str "register"]):=upd_same;generalize upd K b (.tup [.str nm,.str "register"])=H3 at L e3 M⊢;have C:=Same.upd (o:=.tup [.ref b]) M;have e4:upd H3 pt (.tup [.ref b]) pt=some (.tup [.ref b]):=upd_same;have O:=C _ _ e3;generalize upd H3 pt (.tup [.ref b])=H4 at C e4 O⊢;have Z:=s2.trans (L.trans C);have R4:=Y.r.same (L.trans C);refine ⟨_,rfl,1,rfl,_,rfl,.inl ⟨1,16,rfl,rfl,_,rfl,.inl ⟨m,_,rfl,Z.seq sq,λ p X=>?_⟩⟩⟩;obtain ⟨j,em,lm,a2⟩:=zhn G (some 1) (some (1 + 16));rw [show (some (1:Int))=some ((1:Nat):Int) from rfl,show (some ((1:Int) + 16))=some ((17:Nat):Int) from rfl,HT.sIx_nat,HT.sIx_nat] at a2;rw [em];have n:=Same.upd (o:=.lst (j.map V.int)) X;have e5:upd H4 p (.lst (j.map V.int)) p=some (.lst (j.map V.int)):=upd_same;have a5:p≠d:=R4.fresh X;have J:=R4.same n;have s5:=Z.trans n;have a0:=n _ _ O;have a1:=n _ _ e4;generalize upd H4 p (.lst (j.map V.int))=H5 at n e5 J s5 a0 a1⊢;refine ⟨_,rfl,_,_,rfl,rfl,(show (0:Int) < 2 by decide),_,rfl,_,rfl,p,d,_,nm,j,rfl,SqL.of e5,a5,by lia,J,λ l g es os us wr F k6 el al tw ub le=>?_⟩;have s6:Same H F:=λ c o e=>k6.k _ _ (λ z=>by rw [z,v] at e;cases e) (s5 c o e);have S :∀{a:Addr} {xs:List V},H5 a=some (.tup xs)->F a=some (.tup xs):=λ e=>k6.k _ _ (λ z=>by obtain ⟨x,y,c,e',_⟩:=J;rw [z,e'] at e;cases e) e;refine ⟨l,_,rfl,.inl ⟨SqL.of el,λ u a4=>⟨w_2,λ t U=>?_⟩⟩⟩;have N:=Same.upd (o:=.tup g) a4;have e7:upd F u (.tup g) u=some (.tup g):=upd_same;generalize upd F u (.tup g)=H7 at N e7 U⊢;have W:=Same.upd (o:=.tup [.ref pt,.ref u]) U;have B:=N.trans W;exact q t pt b u g es os us wr nm _ (s6.trans B) upd_same (B _ _ (S a1)) (B _ _ (S a0)) (W _ _ e7) (z02 (λ _ _ z=>EvAt.tups (.of B) z) al) tw ub (by lia)
noncomputable def xaV (r:Rc):V:=if r.v=.str "read"/\r.e.isSome=true then r.a else r.x
def ActAt (H:Hp) (r:Rc) (y:V):Prop:=∃p,y=.ref p/\H p=some (.lst [r.v,xaV r,r.a,.int r.b,endV r.e])
theorem ActAt.same {H H':Hp} {r:Rc} {y:V} (s:Same H H') (h:ActAt H r y):ActAt H' r y:=h.elim λ p z=>⟨p,z.1,s _ _ z.2⟩
theorem ActAt.wrote {H:Hp} {l:Addr} {o:HO} {r:Rc} {y:V} (n:y≠.ref l) (h:ActAt H r y):ActAt (upd H l o) r y:=h.elim λ p z=>⟨p,z.1,by rw [upd_ne (λ e=>n (by rw [z.1,e]))];exact z.2⟩
noncomputable def EvV:Ev->Prop
 | .beg _ _ v _=>∃z,v=.str z
 | .fin _ _=>True
def z4r (K:d0):Sp:=λ vs H Q _=>∃(te:Addr) (es:List Ev) (ys:List V),vs=[.ref te]/\SqT K H te ys/\All2 (EvAt K H) es ys/\es.length<=100/\dWf 0 [] es/\(∀e∈es,EvV e)/\∀l zs H',Same H H'->H' l=some (.lst zs)->All2 (ActAt H') (dAll 0 [] es) zs->Q (.ref l) H'
theorem z9a (T:TX (kx w) mg):Fo P w mg base CX0 1 460 y0x ["events"] (z4r (kx w)):=by
 refine (z39 w.params).ok sc__law_deeds (λ vs H Q E h=>?_) (λ d6 A d8 s H vs Q E hr h=>?_)
 ·obtain ⟨te,u,ys,rfl,_⟩:=h;rfl
 ·obtain ⟨te,u,ys,rfl,se,al,hl,wf,evv,q⟩:=h;refine ⟨_,(z01 (ps_set (i:=1) sc__law_deeds.nd rfl (P0 rfl) (pe_lst pa_nil))
   (z01 (ps_set (i:=2) sc__law_deeds.nd rfl (P0 rfl) z77)
   (z01 (ps_for Q1 rfl (zai rfl (T.no (z0u _)) (z00 (pv 0) pa_nil)) (pg_tup rfl (z08 (z0d (i:=3) sc__law_deeds.nd rfl (P0 rfl)) (z08 (z0d (i:=4) sc__law_deeds.nd rfl (P0 rfl)) z0p)))
   (z03 (ps_if (z07 opEq (pe_ix ix_seq (pv 4) pe_int (λ _ _=>rfl)) pe_str (nomark _))
   (z01 (z4u (hu_of hr) (pv 2) (pe_ix ix_seq (pv 4) pe_int (λ _ _=>rfl)) (z0h z3l rfl (T.no (n_len _)) U5 (z00 (pv 1) pa_nil)) rfl)
   (z03 (z1n (z0o (pv 1) (z00 (pe_lst (z00 (pe_ix ix_seq (pv 4) pe_int (λ _ _=>rfl)) (z00 (pe_ix ix_seq (pv 4) pe_int (λ _ _=>rfl)) (z00 pe_non (z00 (pv 3) (z00 pe_non pa_nil)))))) pa_nil)))))
   (z01 (ps_set (i:=5) sc__law_deeds.nd rfl (P0 rfl) (pe_ix ix_seq (pv 1) (z8b (hu_of hr) (pv 2) (pe_ix ix_seq (pv 4) pe_int (λ _ _=>rfl)) (λ _ _=>rfl)) (λ _ _=>rfl)))
   (z01 (ps_asg (pv 3) (pg_sub (pv 5) pe_int z49))
   (z01 (ps_asg (pe_ix ix_seq (pv 4) pe_int (λ _ _=>rfl)) (pg_sub (pv 5) pe_int z49))
   (z03 (ps_if (z07 opEq (pe_ix ix_seq (pv 5) pe_int (λ _ _=>rfl)) pe_str (nomark _))
   (z03 (ps_asg (pe_ix ix_seq (pv 4) pe_int (λ _ _=>rfl)) (pg_sub (pv 5) pe_int z49)))
   z0c))))))))
   (z03 (ps_ret (pv 1)))))),?_⟩
  refine ⟨w_0,λ l c3=>?_⟩;intro d a8;have a4:l≠d:=z0e upd_same a8;have c9:H d=none:=by rwa [upd_ne a4.symm] at a8
  have s2:Same H (upd (upd H l (.lst [])) d (.dK [])):=(Same.upd c3).trans (Same.upd a8);have O:upd (upd H l (.lst [])) d (.dK []) l=some (.lst []):=by rw [upd_ne a4];exact upd_same
  have C:upd (upd H l (.lst [])) d (.dK []) d=some (.dK []):=upd_same;generalize upd (upd H l (.lst [])) d (.dK [])=H2 at s2 O C⊢;have c8:=z05 al;refine ⟨_,rfl,te,ys,rfl,s2.seqT se,?_⟩;refine z6x (K:=KX w.params) (a:=te) (xs:=ys) (λ i σ W=>∃rs c t,W l=some (.lst c)/\All2 (ActAt W) rs c/\c.Nodup/\(∀p,V.ref p∈c->p≠l/\H p=none)/\W d=some (.dK t)/\t.length<=i/\rs.length<=i/\(∀h,valV t (.inl h)=(lastI h (rs.map Rc.h)).map λ j=>V.int (j:Nat))/\dAll i rs (u.drop i)=dAll 0 [] u/\dWf i rs (u.drop i)/\(∀(k:Nat) (r:Rc),rs[k]? = some r->∃z,r.v=V.str z)/\Same H W/\∃x3 x4 x5,σ=[some (.ref te),some (.ref l),some (.ref d),x3,x4,x5])
   ⟨[],[],[],O,.nil,.nil,λ _ z=>absurd z A0,C,B0 _,B0 _,λ h=>rfl,by rw [G5],by rw [G5];exact wf,(λ k r z=>by simp at z),s2,_,_,_,rfl⟩ (λ i σ W h=>?_) ?_ ?_
  ·obtain ⟨rs,c,t,_,_,_,_,_,_,_,_,_,_,_,s',_⟩:=h;exact s'.seqT se
  ·rintro i y σ H3 pe hy ⟨rs,c,t,el3,ar3,nd,nzl,ed3,hk,hr',hv,B,dw,rv,s3,x3,x4,x5,rfl⟩ hpe;obtain ⟨e,he,ev⟩:=z0a al hy;obtain ⟨b9,ee⟩:=List.getElem?_eq_some_iff.mp he;have dr:u.drop i=e :: u.drop (i + 1):=by rw [J6 b9,ee]
   rw [dr] at B dw;have X:=Same.upd (o:=.tup [.int i,y]) hpe;have s4:=s3.trans X;have a1:=X _ _ el3;have I:=X _ _ ed3;have N:=z02 (λ a b z=>ActAt.same X z) ar3;have b8:upd H3 pe (.tup [.int i,y]) pe=some (.tup [.int i,y]):=upd_same;generalize upd H3 pe (.tup [.int i,y])=H4 at X s4 a1 I N b8⊢;have c2:=EvAt.tups (.of s4) ev;have d7:i < 100:=P1 b9 hl;have lz:c.length=rs.length:=z05 N;refine ⟨pe,_,rfl,SqT.of b8,rfl,.int i,_,rfl,y,_,rfl,rfl,?_⟩;cases e with
   | beg h n v x=>
    obtain ⟨F,rfl,L⟩:=c2;refine ⟨_,rfl,.inr (.inl ⟨F,_,0,.str "begin",rfl,rfl,L,z04 (j:=0) rfl,rfl,_,rfl,iteP (decide_eq_true rfl) ?_⟩)⟩;refine ⟨_,rfl,.inl ⟨l,c,rfl,.inl (SqL.of a1),⟨_,rfl,⟨_,rfl,.inr (.inl ⟨F,_,1,.int h,rfl,rfl,L,z04 (j:=1) rfl,d,_,rfl,DPut.k (k:=.inl h) I (Q0 (m:=100) (by lia) (by decide)),?_⟩)⟩⟩⟩⟩;have Y:Tups (kx w) H4 (upd H4 d (.dK (putK t (.inl h) (.int (c.length:Nat))))):=Tups.dict I;have s5:=Same.keep (o:=.dK (putK t (.inl h) (.int (c.length:Nat)))) s4 c9;have a5:upd H4 d (.dK (putK t (.inl h) (.int (c.length:Nat)))) l=some (.lst c):=by rw [upd_ne a4];exact a1
    have c1:upd H4 d (.dK (putK t (.inl h) (.int (c.length:Nat)))) d=some (.dK (putK t (.inl h) (.int (c.length:Nat)))):=upd_same;have b1:All2 (ActAt (upd H4 d (.dK (putK t (.inl h) (.int (c.length:Nat)))))) rs c:=z02 (λ a b z=>z.wrote (λ e=>by obtain ⟨p,O,C⟩:=z;rw [O] at e;cases e;rw [I] at C;cases C)) N;generalize upd H4 d (.dK (putK t (.inl h) (.int (c.length:Nat))))=H5 at Y s5 a5 c1 b1⊢;have R:=Y _ _ L;refine ⟨_,rfl,.inl ⟨rfl,c,SqL.of a5⟩,?_⟩;refine ⟨_,rfl,.inr (.inl ⟨F,_,3,v,rfl,rfl,R,z04 (j:=3) rfl,_,rfl,.inr (.inl ⟨F,_,4,x,rfl,rfl,R,z04 (j:=4) rfl,_,rfl,w_5,λ J U=>?_⟩)⟩)⟩;have S:=Same.upd (o:=.lst [v,x,.non,.int (i:Nat),.non]) U;have e6:upd H5 J (.lst [v,x,.non,.int (i:Nat),.non]) J=some (.lst [v,x,.non,.int (i:Nat),.non]):=upd_same;have fr :∀z∈c,z≠.ref J:=λ z hz e=>by obtain ⟨m,hm⟩:=List.mem_iff_getElem?.mp hz;obtain ⟨_,_,p,O,C⟩:=z0a b1 hm;rw [O] at e;cases e;rw [U] at C;cases C
    have c0:J≠l:=λ z=>by rw [z,a5] at U;cases U
    generalize upd H5 J (.lst [v,x,.non,.int (i:Nat),.non])=H6 at S e6⊢;have d3:=S _ _ a5;have d4:=S _ _ c1;have c6:=z02 (λ a b z=>ActAt.same S z) b1;refine ⟨l,c,_,rfl,rfl,d3,Q0 (m:=100) (by lia) (by decide),?_⟩;refine ⟨rs++[⟨h,n,v,x,.non,i,none⟩],c++[.ref J],putK t (.inl h) (.int (c.length:Nat)),upd_same,?_,?_,?_,?_,?_,?_,?_,(show dAll (i + 1) (dstep i rs (.beg h n v x)) _=_ from B),dw.2,?_,Same.keep (s5.trans S) c3,_,_,_,rfl⟩
    ·refine z0m ?_ ⟨J,rfl,by rw [upd_ne c0,e6];unfold xaV;rw [if_neg (λ z=>by cases z.2)];rfl⟩;refine z6l (λ a b hb z=>ActAt.wrote (λ e=>(nzl l (e ▸ hb)).1 rfl) z) c6
    ·rw [D5];refine ⟨nd,by simp,λ a ha b hb=>?_⟩;rw [List.mem_singleton.mp hb];exact fr a ha
    ·intro p hz;rcases List.mem_append.mp hz with y|y
     ·exact nzl p y
     ·have e:=List.mem_singleton.mp y;cases e;exact ⟨c0,s5.free U⟩
    ·rw [upd_ne a4.symm];exact d4
    ·exact F0 z7w (by lia)
    ·rw [D0];show rs.length + 1<=i + 1;lia
    ·intro k;rw [z85,X0];show _=Option.map _ (lastI k (rs.map Rc.h++[h]));rw [z1v,L0,lz];by_cases z:h=k
     ·rw [if_pos z,if_pos (by rw [z])];rfl
     ·rw [if_neg z,if_neg (λ y=>z (D3 y).symm)];exact hv k
    ·intro k r D;by_cases z:k < rs.length
     ·rw [J1 z] at D;exact rv k r D
     ·rw [K1 (Nat.not_lt.mp z)] at D;have D:=List.mem_singleton.mp (o0 D);rw [D];exact evv _ (o0 he)
   | fin h a=>
    obtain ⟨F,rfl,L⟩:=c2;obtain ⟨j,hj⟩:=Option.isSome_iff_exists.mp (dw.1 h a rfl);have c7:valV t (.inl h)=some (.int (j:Nat)):=by rw [hv h,hj];rfl
    have c5:j < rs.length:=by have:=z7i hj;rwa [L0] at this
    have a6:rs[j]? = some rs[j]:=N0 c5;obtain ⟨yj,Z,g,rfl,ej⟩:=z8a N a6;have d5:DGet H4 d (.int h) (some (.int (j:Nat))):=c7 ▸ DGet.k (k:=.inl h) I;refine ⟨_,rfl,.inr (.inl ⟨F,_,0,.str "end",rfl,rfl,L,z04 (j:=0) rfl,rfl,_,rfl,iteK ?_⟩)⟩;obtain ⟨d0,d2⟩:=nzl g (o0 Z);have c4:g≠d:=λ z=>by rw [z,I] at ej;cases ej
    refine ⟨_,rfl,_,rfl,_,rfl,.inr (.inl ⟨F,_,1,.int h,rfl,rfl,L,z04 (j:=1) rfl,d,_,rfl,d5,.inl ⟨l,c,j,.ref g,rfl,rfl,SqL.of a1,z04 Z,?_⟩⟩)⟩;refine ⟨_,rfl,_,rfl,g,_,4,4,rfl,rfl,ej,rfl,?_⟩;rw [show [rs[j].v,xaV rs[j],rs[j].a,V.int rs[j].b,endV rs[j].e].set 4 (.int (i:Nat))=[rs[j].v,xaV rs[j],rs[j].a,.int rs[j].b,.int (i:Nat)] from rfl];have k5:KeptL [g] H4 (upd H4 g (.lst [rs[j].v,xaV rs[j],rs[j].a,.int rs[j].b,.int (i:Nat)])):=KeptL.set (by simp);have Y:Tups (kx w) H4 (upd H4 g (.lst [rs[j].v,xaV rs[j],rs[j].a,.int rs[j].b,.int (i:Nat)])):=Tups.lst ej;have a7:upd H4 g (.lst [rs[j].v,xaV rs[j],rs[j].a,.int rs[j].b,.int (i:Nat)]) g=some (.lst [rs[j].v,xaV rs[j],rs[j].a,.int rs[j].b,.int (i:Nat)]):=upd_same;generalize upd H4 g (.lst [rs[j].v,xaV rs[j],rs[j].a,.int rs[j].b,.int (i:Nat)])=H5 at k5 Y a7⊢;have R:=Y _ _ L;refine ⟨_,rfl,.inr (.inl ⟨F,_,2,a,rfl,rfl,R,z04 (j:=2) rfl,?_⟩)⟩;refine ⟨_,rfl,g,_,2,2,rfl,rfl,a7,rfl,?_⟩;rw [show [rs[j].v,xaV rs[j],rs[j].a,V.int rs[j].b,.int (i:Nat)].set 2 a=[rs[j].v,xaV rs[j],a,.int rs[j].b,.int (i:Nat)] from rfl];have k6:KeptL [g] H5 (upd H5 g (.lst [rs[j].v,xaV rs[j],a,.int rs[j].b,.int (i:Nat)])):=KeptL.set (by simp);have t6:Tups (kx w) H5 (upd H5 g (.lst [rs[j].v,xaV rs[j],a,.int rs[j].b,.int (i:Nat)])):=Tups.lst a7;have a2:upd H5 g (.lst [rs[j].v,xaV rs[j],a,.int rs[j].b,.int (i:Nat)]) g=some (.lst [rs[j].v,xaV rs[j],a,.int rs[j].b,.int (i:Nat)]):=upd_same;generalize upd H5 g (.lst [rs[j].v,xaV rs[j],a,.int rs[j].b,.int (i:Nat)])=H6 at k6 t6 a2⊢;have b6:=k5.trans k6;have hd:dstep i rs (.fin h a)=rs.modify j (λ r=>{ r with a:=a,e:=some i }):=by unfold dstep;dsimp only;rw [hj]
    have B:dAll (i + 1) (dstep i rs (.fin h a)) (u.drop (i + 1))=_:=B;have b7:dWf (i + 1) (dstep i rs (.fin h a)) (u.drop (i + 1)):=dw.2;rw [hd] at B b7;have b5 :∀G,KeptL [g] H4 G->G g=some (.lst [rs[j].v,xaV { rs[j] with a:=a,e:=some i },a,.int rs[j].b,.int (i:Nat)])->∃rs' c t,G l=some (.lst c)/\All2 (ActAt G) rs' c/\c.Nodup/\(∀p,V.ref p∈c->p≠l/\H p=none)/\G d=some (.dK t)/\t.length<=i + 1/\rs'.length<=i + 1/\(∀h,valV t (.inl h)=(lastI h (rs'.map Rc.h)).map λ j=>V.int (j:Nat))/\dAll (i + 1) rs' (u.drop (i + 1))=dAll 0 [] u/\dWf (i + 1) rs' (u.drop (i + 1))/\(∀(k:Nat) (r:Rc),rs'[k]? = some r->∃z,r.v=V.str z)/\Same H G:=by
     intro G kx ex;refine ⟨rs.modify j (λ r=>{ r with a:=a,e:=some i }),c,t,kx _ _ (by simp [d0.symm]) a1,?_,nd,nzl,kx _ _ (by simp [c4.symm]) I,by lia,by rw [A6];lia,?_,B,b7,?_,?_⟩
     ·refine z6n (by rw [A6];exact z05 N) λ k r y hk a3=>?_;rw [X1] at hk;obtain ⟨r',a0,M⟩:=Option.map_eq_some_iff.mp hk;obtain ⟨y2,b3,p2,rfl,C⟩:=z8a N a0;rw [a3] at b3;cases b3;by_cases z:j=k
      ·subst z;rw [Z] at a3;cases a3;rw [if_pos rfl] at M;rw [a6] at a0;cases a0;subst M;exact ⟨g,rfl,ex⟩
      ·rw [if_neg z] at M;subst M;refine ⟨p2,rfl,kx _ _ (λ e=>z ?_) C⟩;have e:=List.mem_singleton.mp e;subst e;have h1:j < c.length:=(List.getElem?_eq_some_iff.mp Z).1;exact (List.getElem?_inj h1 nd).mp (Z.trans a3.symm)
     ·intro k;rw [z7u (f:=λ r=>{ r with a:=a,e:=some i }) (λ r=>rfl)];exact hv k
     ·intro k r D;rw [X1] at D;obtain ⟨r',a0,M⟩:=Option.map_eq_some_iff.mp D;obtain ⟨z',b4⟩:=rv k r' a0;refine ⟨z',?_⟩;rw [<-M];by_cases z:j=k
      ·rw [if_pos z];exact b4
      ·rw [if_neg z];exact b4
     ·intro b o e;exact kx b o (λ z=>by rw [List.mem_singleton.mp z,d2] at e;cases e) (s4 b o e)
    obtain ⟨z0,d1⟩:=rv j _ a6;refine ⟨_,rfl,.inl ⟨g,_,0,rs[j].v,rfl,rfl,SqL.of a2,z04 (j:=0) rfl,by rw [d1];rfl,_,rfl,?_⟩⟩;by_cases z:rs[j].v=.str "read"
    ·refine iteP (decide_eq_true z) ?_;refine ⟨_,rfl,.inr (.inl ⟨F,_,2,a,rfl,rfl,t6 _ _ R,z04 (j:=2) rfl,?_⟩)⟩;refine ⟨_,rfl,g,_,1,1,rfl,rfl,a2,rfl,?_⟩;rw [show [rs[j].v,xaV rs[j],a,V.int rs[j].b,.int (i:Nat)].set 1 a=[rs[j].v,a,a,.int rs[j].b,.int (i:Nat)] from rfl];have xa:xaV { rs[j] with a:=a,e:=some i }=a:=by unfold xaV;rw [if_pos ⟨z,rfl⟩]
     obtain ⟨r1,r2,r3,f⟩:=b5 (upd H6 g (.lst [rs[j].v,a,a,.int rs[j].b,.int (i:Nat)])) (b6.trans (KeptL.set (by simp))) (by rw [xa];exact upd_same);obtain ⟨g1,g2,g3,g4,g5,g6,g7,g8,g9,a9,b2,b0⟩:=f;exact ⟨r1,r2,r3,g1,g2,g3,g4,g5,g6,g7,g8,g9,a9,b2,b0,_,_,_,rfl⟩
    ·refine iteN (λ e=>z (of_decide_eq_true e)) ?_;have xa:xaV { rs[j] with a:=a,e:=some i }=xaV rs[j]:=by unfold xaV;rw [if_neg (λ y=>z y.1),if_neg (λ y=>z y.1)]
     obtain ⟨r1,r2,r3,f⟩:=b5 _ b6 (by rw [xa];exact a2);obtain ⟨g1,g2,g3,g4,g5,g6,g7,g8,g9,a9,b2,b0⟩:=f;exact ⟨r1,r2,r3,g1,g2,g3,g4,g5,g6,g7,g8,g9,a9,b2,b0,_,_,_,rfl⟩
  ·rintro σ H3 ⟨rs,c,t,el,ar,_,_,_,_,_,_,B,_,_,s3,x3,x4,x5,rfl⟩;have:u.drop ys.length=[]:=by rw [c8];exact List.drop_length
   rw [this] at B;have B:rs=dAll 0 [] u:=B;rw [<-B] at q;exact ⟨_,rfl,q l c H3 s3 el ar⟩
def z4e:Sp:=λ vs H Q _=>∃i,vs=[.int i]/\Q (.bl true) H
theorem zcb (T:TX (kx w) mg):Fo P w mg base CX0 1 77 y1b ["value"] z4e:=by
 refine (z5e w.params).ok zc7 (λ a H Q E h=>?_) (λ b A d s H a Q E c h=>?_)
 ·obtain ⟨i,rfl,_⟩:=h;rfl
 ·obtain ⟨i,rfl,q⟩:=h;refine ⟨_,(z03 (ps_ret (pe_and (z0h z1u rfl (T.no (z1e _)) C6 (z00 (pv 0) (z00 (z8j (v:=.ty "int") rfl (T.no (n_int _)) boot_int rfl) pa_nil))) (pe_one (pe_not (z0h z1u rfl (T.no (z1e _)) C6 (z00 (pv 0) (z00 (z8j (v:=.ty "bool") rfl (T.no (n_bool _)) boot_bool rfl) pa_nil)))))))),?_⟩;refine ⟨_,rfl,_,_,"int",rfl,rfl,by decide,_,rfl,iteP (by decide) ?_⟩;exact ⟨_,rfl,_,_,"int",rfl,rfl,by decide,_,rfl,q⟩
def z3h (K:d0):Sp:=λ vs H Q _=>∃y r wr e,vs=[y]/\RcAt K H r y/\(RdG r\/WrG wr r)/\r.e=some e/\Q (.bl true) H
theorem z7x (T:TX (kx w) mg) (c0:Ca P w mg base "is_whole" ["value"] 1 z4e):Fo P w mg base CX0 2 227 y0j ["deed"] (z3h (kx w)):=by
 refine (z2d w.params).ok z7c (λ f H Q E h=>?_) (λ k A l s H f Q E d h=>?_)
 ·obtain ⟨y,r,i,e,rfl,_⟩:=h;rfl
 ·obtain ⟨y,r,i,e,rfl,⟨p,rfl,b⟩,g,c,q⟩:=h;refine ⟨_,(z01 (ps_if (z07 opEq (pe_ix ix_seq (pv 0) pe_int (λ _ _=>rfl)) pe_str (nomark _))
   (z03 (ps_ret (z14 opEq (pe_ix ix_seq (pv 0) pe_int (λ _ _=>rfl)) pe_str (nomark _))))
   z0c)
   (z03 (ps_ret (pe_cal c0 (d.mono (by decide)) rfl (z00 (pe_ix ix_seq (pv 0) pe_int (λ _ _=>rfl)) pa_nil))))),?_⟩
  rcases g with g|g
  ·refine ⟨_,rfl,.inr (.inl ⟨p,_,2,.str "read",rfl,rfl,b,by rw [g.1];exact z04 (j:=2) rfl,rfl,_,rfl,iteK ?_⟩)⟩;exact ⟨_,rfl,.inr (.inl ⟨p,_,4,.int (intV r.a),rfl,rfl,b,by rw [g.2.2 e c];exact z04 (j:=4) rfl,_,rfl,q⟩)⟩
  ·refine ⟨_,rfl,.inr (.inl ⟨p,_,2,.str "write",rfl,rfl,b,by rw [g.1];exact z04 (j:=2) rfl,rfl,_,rfl,iteP (by decide +kernel) ?_⟩)⟩;exact ⟨_,rfl,.inr (.inl ⟨p,_,4,.str "ok",rfl,rfl,b,by rw [g.2.2.2 e c];exact z04 (j:=4) rfl,rfl,q⟩)⟩
structure ToldAt (K:d0) (H:Hp) (l:Addr) (wr:Int) (rs:List Rc) (zs:List V):Prop where
 l:H l=some (.lst zs)
 a:All2 (RcAt K H) rs zs
 g :∀r∈rs,RdG r\/WrG wr r
 n:rs.length<=63
theorem ToldAt.same {K:d0} {H H':Hp} {l:Addr} {wr:Int} {rs:List Rc} {zs:List V} (s:Same H H') (h:ToldAt K H l wr rs zs):ToldAt K H' l wr rs zs:=⟨s _ _ h.l,z02 (λ _ _ z=>RcAt.tups (.of s) z) h.a,h.g,h.n⟩
noncomputable def r00:Rc:=⟨0,.non,.non,.non,.non,0,none⟩
theorem getD_some {rs:List Rc} {i:Nat} {r:Rc} (h:rs[i]? = some r):rs[i]?.getD r00=r:=by rw [h];rfl
theorem zdt (x:Int) :∀ns:List Int,inV (.int x) (ns.map V.int)=decide (x∈ns)
 | []=>by rw [decide_eq_false A0];rfl
 | n :: r=>by
  show ((n == x) || inV (.int x) (r.map V.int))=_;rw [zdt x r];by_cases e:n=x
  ·rw [beq_iff_eq.mpr e,Bool.true_or,decide_eq_true (List.mem_cons.mpr (.inl e.symm))]
  ·rw [Bool.eq_false_iff.mpr (λ h=>e (beq_iff_eq.mp h)),Y5];by_cases m:x∈r
   ·rw [decide_eq_true m,decide_eq_true (List.mem_cons.mpr (.inr m))]
   ·rw [decide_eq_false m,decide_eq_false (λ h=>(List.mem_cons.mp h).elim (λ y=>e y.symm) m)]
theorem zbz :∀ns:List Int,(ns.map V.int).all flatV=true
 | []=>rfl
 | _ :: r=>by show (true && (r.map V.int).all flatV)=true;rw [zbz r];rfl
theorem zc2 {f:Rc->V} {rs:List Rc} {zs ys:List V} (lz:zs.length=rs.length) (h:All2 (λ (i:Nat) y=>y=f (rs[i]?.getD r00)) ((V0 zs.length).filter λ i=>isW (rs[i]?.getD r00)) ys):ys=(rs.filter isW).map f:=by rw [lz] at h;rw [z6f h];exact z1c isW f r00 rs
def z5j (K:d0):Sp:=λ vs H Q _=>∃l zs rs wr,vs=[.ref l]/\ToldAt K H l wr rs zs/\((rs.filter isW).map (λ r=>intV r.x)).Nodup/\(0:Int)∉(rs.filter isW).map (λ r=>intV r.x)/\∀H',Same H H'->Q (.bl true) H'
theorem z9v (T:TX (kx w) mg) (c0:Ca P w mg base "is_answered" ["deed"] 2 (z3h (kx w))):Fo P w mg base CX0 3 220 y11 ["told"] (z5j (kx w)):=by
 refine (z4d w.params).ok sc_are_plain (λ vs H Q E h=>?_) (λ a5 A a6 s H vs Q E hr h=>?_)
 ·obtain ⟨l,u,rs,W,rfl,_⟩:=h;rfl
 ·obtain ⟨l,u,rs,W,rfl,c,M,U,q⟩:=h;refine ⟨_,(z01 (z92 (i:=1) sc_are_plain.nd rfl (P0 rfl) (xs:=["deed"]) (g:=gName 0) (fr:=[]) rfl (z0v (pv 0)) (λ _ z=>absurd z A0) (zc3 rfl) (λ _ z=>absurd z A0) (by decide +kernel) rfl (by decide +kernel) (λ _ _ _ _ _=>(pg_cn (N:=["deed"]) 0)) (λ _ _ _ _ _=>(pf_one (z07 opEq (pe_ix (z0j (K:=KX w.params) rfl) (pv 0) pe_int (λ _ _=>rfl)) pe_str (nomark _)))) (λ _ _ _ _ _=>(pe_ix (z0j (K:=KX w.params) rfl) (pv 0) pe_int (λ _ _=>rfl))))
   (z01 (ps_if (PW.pt (pw_or (z07 z3o pe_int (pv 1) (by with_unfolding_all rfl)) (pw_or1 (z07 op_lt (zb7 rfl rfl (T.no (n_len _)) rfl (T.no (n_set _)) U5 boot_set (pv 1)) (z0h z3l rfl (T.no (n_len _)) U5 (z00 (pv 1) pa_nil)) (nomark _)))))
   (z03 (ps_ret pe_bl))
   z0c)
   (z03 (ps_ret (z0h (z7p rfl) rfl (T.no (n_all _)) boot_all (z00 (pe_cg (xs:=["deed"]) (g:=gName 0) (fr:=[]) (z0v (pv 0)) (λ _ _ _ _ _=>(pg_cn (N:=["deed"]) 0)) (λ _ _ _ _ _=>pf_nil) (λ _ _ _ _ _=>(pe_or (z14 op_isN (pe_ix (z0j (K:=KX w.params) rfl) (pv 0) pe_int (λ _ _=>rfl)) pe_non (nomark _)) (pe_one (pe_cal c0 (hr.mono (by decide)) rfl (z00 (pv 0) pa_nil)))))) pa_nil)))))),?_⟩
  have lz:u.length=rs.length:=z05 c.a;have a0:=c.n;refine z0g ?_;refine z29 (K:=KX w.params) (a:=l) (xs:=u) (H1:=H) (λ i=>isW (rs[i]?.getD r00)) (λ i y _=>y=.int (intV (rs[i]?.getD r00).x)) (λ _ _ _ _ _ z=>z) (λ R h=>⟨_,rfl,h⟩) (SqL.of c.l) (F0 (m:=63) (by lia) (by decide)) ?_ ?_
  ·intro i hi v H1 L F KT KF t G;obtain ⟨r,C,p,rfl,D⟩:=z0a c.a F;have b:=L.seqT D;rw [getD_some C] at t G;refine ⟨[some (.ref p)],rfl,rfl,?_⟩;rcases c.g r (o0 C) with g|g
   ·refine ⟨_,rfl,.inr (.inl ⟨p,_,2,.str "read",rfl,rfl,b,by rw [g.1];exact z04 (j:=2) rfl,rfl,_,rfl,iteK (G g.w _ (Same.refl _))⟩)⟩
   ·refine ⟨_,rfl,.inr (.inl ⟨p,_,2,.str "write",rfl,rfl,b,by rw [g.1];exact z04 (j:=2) rfl,rfl,_,rfl,iteP (by decide +kernel) ?_⟩)⟩;exact ⟨_,rfl,.inr (.inl ⟨p,_,3,.int (intV r.x),rfl,rfl,b,by rw [<-g.2.2.1];exact z04 (j:=3) rfl,t g.w _ _ (Same.refl _) rfl⟩)⟩
  intro d H1 ys L Z a4;have ey:=zc2 (f:=λ r=>V.int (intV r.x)) lz a4;have a1:ys=((rs.filter isW).map (λ r=>intV r.x)).map V.int:=by rw [ey,V2];rfl
  have lu:((rs.filter isW).map (λ r=>intV r.x)).length<=63:=by rw [L0];exact F0 (U1 _ _) a0
  subst a1;generalize (rs.filter isW).map (λ r=>intV r.x)=us at M U lu⊢;have S:=Same.upd (o:=.lst (us.map V.int)) Z;have B:upd H1 d (.lst (us.map V.int)) d=some (.lst (us.map V.int)):=upd_same;have I:=L.trans S;generalize upd H1 d (.lst (us.map V.int))=H2 at S B I⊢;refine g_name ?_;refine sq_if ?_;refine t_or ?_;refine ⟨_,rfl,d,_,rfl,.inl (SqL.of B),rfl,zbz _,_,rfl,iteN (by show ¬ inV _ _=true;rw [zdt,decide_eq_false U];decide) ?_⟩;refine ⟨_,rfl,d,us,rfl,SqL.of B,by lia,_,rfl,.inl ⟨d,_,rfl,.inl (SqL.of B),_,_,rfl,rfl,_,rfl,iteN ?_ ?_⟩⟩
  ·rw [z9h us [] M (λ _ _=>A0),X3,L0];exact λ e=>absurd (of_decide_eq_true e) (by lia)
  refine t_nx (sq_ret (e_cb1 ?_));have X:=c.same I;refine z29 (K:=KX w.params) (a:=l) (xs:=u) (H1:=H2) (λ _=>true) (λ i y _=>y=.bl true) (λ _ _ _ _ _ z=>z) (λ R h=>⟨_,rfl,h⟩) (SqL.of X.l) (F0 (m:=63) (by lia) (by decide)) ?_ ?_
  ·intro i hi v Y J F KT KF t G;obtain ⟨r,C,p,rfl,D⟩:=z0a X.a F;have b:=J.seqT D;refine ⟨[some (.ref p)],rfl,rfl,iteT ?_⟩;cases he:r.e with
   | none=>exact ⟨_,rfl,.inr (.inl ⟨p,_,6,.non,rfl,rfl,b,by rw [he];exact z04 (j:=6) rfl,rfl,_,rfl,iteP (by decide) (t rfl _ _ (Same.refl _) rfl)⟩)⟩
   | some e=>refine ⟨_,rfl,.inr (.inl ⟨p,_,6,.int e,rfl,rfl,b,by rw [he];exact z04 (j:=6) rfl,rfl,_,rfl,iteN (by simp) ?_⟩)⟩;exact ⟨_,rfl,_,r,W,e,rfl,⟨p,rfl,b⟩,c.g r (o0 C),he,t rfl _ _ (Same.refl _) rfl⟩
  intro l3 Y bs J a3 a2;have O :∀y∈bs,y=.bl true:=λ y k=>by obtain ⟨m,hm⟩:=List.mem_iff_getElem?.mp k;obtain ⟨_,_,z⟩:=z0a a2 hm;exact z
  refine ⟨l3,bs,rfl,SqL.of upd_same,λ y k=>⟨true,O y k⟩,?_⟩;rw [List.all_eq_true.mpr (λ y k=>decide_eq_true (O y k))];exact q _ (I.trans (J.trans (Same.upd a3)))
structure TalR (K:d0) (H:Hp) (t:Addr) (nm:Str) (wr:Int) (es:List Ev) (ys:List V):Prop where
 t :∃pt te th,SqT K H t [.ref pt,.ref te]/\SqT K H pt [.ref th]/\SqT K H th [.str nm,.str "register"]/\SqT K H te ys
 ev:All2 (EvAt K H) es ys
 tw :∃os us,TW nm wr es os us
 ln:es.length<=63
theorem TalR.same {K:d0} {H H':Hp} {t:Addr} {nm:Str} {wr:Int} {es:List Ev} {ys:List V} (s:Same H H') (h:TalR K H t nm wr es ys):TalR K H' t nm wr es ys:=by obtain ⟨pt,e,f,a,b,c,d⟩:=h.t;exact ⟨⟨pt,e,f,s.seqT a,s.seqT b,s.seqT c,s.seqT d⟩,z02 (λ _ _ z=>EvAt.tups (.of s) z) h.ev,h.tw,h.ln⟩
theorem z36 :∀{es:List Ev} {i:Nat} {rs:List Rc},(dAll i rs es).length<=rs.length + es.length
 | [],_,_=>B0 _
 | e :: es,i,rs=>by
  have h:=z36 (es:=es) (i:=i + 1) (rs:=dstep i rs e);have b:(dstep i rs e).length<=rs.length + 1:=by
   cases e with
   | beg k n v x=>exact K7 (D0 ..)
   | fin k a=>
    unfold dstep;dsimp only;cases lastI k (rs.map Rc.h) with
    | none=>exact Z3 _
    | some j=>dsimp only;rw [A6];exact Z3 _
  show (dAll (i + 1) (dstep i rs e) es).length<=_;rw [C1]
  lia
def z45 (K:d0):Sp:=λ vs H Q _=>∃t nm wr es ys,vs=[.ref t]/\TalR K H t nm wr es ys/\∀l zs H',Same H H'->ToldAt K H' l wr (dAll 0 [] es) zs->Q (.ref l) H'
theorem zbo:plainP (.list [.str "register"])=true:=by decide +kernel
theorem zji:PyData.eqv (.list [.str "register"]) (.list [.str "register"])=true:=by decide +kernel
theorem z7r (T:TX (kx w) mg) (c0:Ca P w mg base "deeds" ["tale"] 1 (z80 (kx w))) (c1:Ca P w mg base "are_plain" ["told"] 3 (z5j (kx w))):Fo P w mg base CX0 4 215 y0i ["tale"] (z45 (kx w)):=by
 refine (z2c w.params).ok sc_plain_deeds (λ vs H Q E h=>?_) (λ a2 A a4 s H vs Q E C h=>?_)
 ·obtain ⟨t,nm,F,d,L,rfl,_⟩:=h;rfl
 ·obtain ⟨t,nm,F,d,L,rfl,e,q⟩:=h;refine ⟨_,(z01 (ps_set (i:=1) sc_plain_deeds.nd rfl (P0 rfl) (pe_cal c0 (C.mono (by decide)) rfl (z00 (pv 0) pa_nil)))
   (z01 (ps_if (PW.pt (pw_or (z07 (op_neP C) (pe_cg (xs:=["name","kind"]) (g:=gTup (kx w) 2 (gCons (gName 0) (gCons (gName 1) gNil))) (fr:=[]) (pi_tup (pe_ix ix_seq (pv 0) pe_int (λ _ _=>rfl))) (λ _ _ _ _ _=>(pg_tup rfl (z08 (pg_cn (N:=["name","kind"]) 0) (z08 (pg_cn (N:=["name","kind"]) 1) z0p)))) (λ _ _ _ _ _=>pf_nil) (λ _ _ _ _ _=>(pv 1))) (pe_lst (z00 pe_str pa_nil)) (nomark _)) (pw_or1 (pt_not (pt_val (pe_cal c1 (C.mono (by decide)) rfl (z00 (pv 1) pa_nil)) (λ _=>rfl))))))
   (z03 z58)
   z0c)
   (z03 (ps_ret (pv 1))))),?_⟩
  obtain ⟨pt,te,n,M,X,sh,se⟩:=e.t;obtain ⟨os,us,b⟩:=e.tw;have wf:=(DInv.nil.all b.wf.1).1;have Z:=e.ln;have rn:(dAll 0 [] d).length<=63:=F0 z36 (by simpa using Z);refine z0g ?_;refine ⟨_,rfl,t,te,.ref pt,L,d,rfl,M,se,e.ev,by lia,wf,λ l m H1 k a3 el Y=>?_⟩;refine g_name ?_;have O:ToldAt (kx w) H1 l F (dAll 0 [] d) m:=⟨el,Y,b.rs.g,rn⟩
  refine sq_if (t_or (t_test ?_));refine z53 (K:=KX w.params) (a:=pt) (xs:=[.ref n]) (H1:=H1) (λ _=>true) (λ i y _=>y=.str "register") (λ _ _ _ _ _ z=>z) (λ R h=>⟨_,rfl,.inr (.inl ⟨t,_,0,.ref pt,rfl,rfl,k.seqT M,z04 (j:=0) rfl,h⟩)⟩) (k.seqT X) w_1 ?_ ?_
  ·intro i hi v B p hv KT KF h1 h2;have:v=.ref n:=List.mem_singleton.mp (o0 hv);subst this;refine ⟨n,_,rfl,(k.trans p).seqT sh,rfl,_,_,rfl,_,_,rfl,rfl,[some (.str nm),some (.str "register")],rfl,rfl,iteT ⟨_,rfl,h1 rfl _ _ (Same.refl _) rfl⟩⟩
  intro c B I p a0 D;have ek:I=[.str "register"]:=by
   replace D:All2 (λ (_:Nat) (y:V)=>y=.str "register") [0] I:=D;cases D with
   | cons a r=>cases r;rw [a]
  subst ek;have W:=Same.upd (o:=.lst [V.str "register"]) a0;have U:upd B c (.lst [V.str "register"]) c=some (.lst [V.str "register"]):=upd_same;have G:=p.trans W;generalize upd B c (.lst [V.str "register"])=H3 at W U G⊢;refine ⟨w_1,λ J a1=>?_⟩;have x:=Same.upd (o:=.lst [V.str "register"]) a1;refine ⟨.list [.str "register"],.list [.str "register"],⟨c,_,rfl,SqL.of (x _ _ U),⟨_,_,rfl,rfl,rfl⟩⟩,⟨J,_,rfl,SqL.of upd_same,⟨_,_,rfl,rfl,rfl⟩⟩,zbo,zbo,(show (1:Nat)<=60 by decide),_,rfl,iteN (by rw [zji];decide) ?_⟩;have f:=G.trans x;generalize upd H3 J (.lst [V.str "register"])=H4 at x f⊢;refine ⟨_,rfl,l,m,_,F,rfl,O.same f,by rw [b.rs.u];exact b.us.1,by rw [b.rs.u];exact b.us.2,λ H5 S=>⟨true,rfl,iteN (by decide) ?_⟩⟩;exact ⟨_,rfl,q l m H5 (k.trans (f.trans S)) (O.same (f.trans S))⟩
end
section
structure EvR (es:List Ev) (rs:List Rc):Prop where
 a :∀r∈rs,es[r.b]? = some (.beg r.h r.n r.v r.x)
 b :∀r∈rs,∀k,r.e=some k->es[k]? = some (.fin r.h r.a)
 c :∀(i:Nat) h n v x,es[i]? = some (.beg h n v x)->∃r∈rs,r.b=i
 d :∀(i:Nat) h a,es[i]? = some (.fin h a)->∃r∈rs,r.e=some i/\r.h=h
theorem TW.open {nm:Str} {wr:Int} {es:List Ev} {os:List (Int×Bool)} {us:List Int} (h:TW nm wr es os us) :∀k b,(k,b)∈os->∃j r,lastI k ((dAll 0 [] es).map Rc.h)=some j/\(dAll 0 [] es)[j]? = some r/\r.h=k/\r.e=none:=by
 have v :∀{rs:List Rc} {os:List (Int×Bool)} (k:Int) (b:Bool) (r:Rc),(∀k b,(k,b)∈os->∃j r,lastI k (rs.map Rc.h)=some j/\rs[j]? = some r/\r.h=k/\r.e=none)->k∉os.map (·.1)->r.h=k->r.e=none->∀g t,(g,t)∈os++[(k,b)]->∃j d,lastI g ((rs++[r]).map Rc.h)=some j/\(rs++[r])[j]? = some d/\d.h=g/\d.e=none:=by
  intro rs os k b r I E u A g t o;rw [X0];show∃j q,lastI g (rs.map Rc.h++[r.h])=some j/\_;rw [z1v,u];rcases List.mem_append.mp o with z|z
  ·have ne:¬ k=g:=λ e=>E (e ▸ List.mem_map.mpr ⟨_,z,rfl⟩);obtain ⟨j,q,n,l,s⟩:=I g t z;refine ⟨j,q,by rw [if_neg ne];exact n,?_,s⟩;rw [J1 (List.getElem?_eq_some_iff.mp l).1];exact l
  ·have e:=List.mem_singleton.mp z;cases e;refine ⟨rs.length,r,by rw [if_pos rfl,L0],?_,u,A⟩;rw [K1 (B0 _),y6];rfl
 induction h with
 | nil=>exact λ _ _ h=>absurd h A0
 | @wri es os us i _ h0 _ _ ih=>rw [z0f];exact v wr true ⟨wr,.str nm,.str "write",.int i,.non,0 + es.length,none⟩ ih h0 rfl rfl
 | @rd es os us h _ h0 ih=>rw [z0f];exact v h false ⟨h,.str nm,.str "read",.non,.non,0 + es.length,none⟩ ih h0 rfl rfl
 | @fin es os us h b a _ h0 ht hf ih=>
  intro k c y;rw [z0f];obtain ⟨j,r,n,l,s,_⟩:=ih h b h0;have C :∀i,dstep i (dAll 0 [] es) (.fin h a)=(dAll 0 [] es).modify j (λ r=>{ r with a:=a,e:=some i }):=λ i=>by unfold dstep;dsimp only;rw [n]
  rw [C,z7u (f:=λ r=>{ r with a:=a,e:=some (0 + es.length) }) (λ r=>rfl)];obtain ⟨o,p⟩:=List.mem_filter.mp y;have p:=of_decide_eq_true p;obtain ⟨m,d,D,x,w,B⟩:=ih k c o;refine ⟨m,d,D,?_,w,B⟩;rw [X1,x];show some (if j=m then _ else d)=some d;rw [if_neg (show ¬ j=m from λ e=>by rw [e,x] at l;cases l;exact p (w.symm.trans s))]
theorem TW.evr {nm:Str} {wr:Int} {es:List Ev} {os:List (Int×Bool)} {us:List Int} (h:TW nm wr es os us):EvR es (dAll 0 [] es):=by
 have D :∀{es:List Ev} {rs:List Rc} (h:Int) (n v x:V),EvR es rs->EvR (es++[.beg h n v x]) (rs++[⟨h,n,v,x,.non,0 + es.length,none⟩]):=by
  intro es rs h n v x I;have lt :∀{i:Nat} {e:Ev},es[i]? = some e->(es++[Ev.beg h n v x])[i]? = some e:=λ z=>by rw [J1 (List.getElem?_eq_some_iff.mp z).1];exact z
  have w:(es++[Ev.beg h n v x])[0 + es.length]? = some (.beg h n v x):=by rw [X2,K1 (B0 _),y6];rfl
  have s :∀{i:Nat} {e:Ev},(es++[Ev.beg h n v x])[i]? = some e->es[i]? = some e\/(i=0 + es.length/\e=.beg h n v x):=λ {i e} z=>by
   by_cases y:i < es.length
   ·rw [J1 y] at z;exact .inl z
   ·have p:=(List.getElem?_eq_some_iff.mp z).1;rw [D0] at p;have:i=0 + es.length:=by simp at p;lia
    rw [this,w] at z;exact .inr ⟨this,(Y1 z).symm⟩
  refine ⟨λ r g=>?_,λ r g k l=>?_,λ i B N M H z=>?_,λ i B a z=>?_⟩
  ·rcases List.mem_append.mp g with y|y
   ·exact lt (I.a r y)
   ·rw [List.mem_singleton.mp y];exact w
  ·rcases List.mem_append.mp g with y|y
   ·exact lt (I.b r y k l)
   ·rw [List.mem_singleton.mp y] at l;cases l
  ·rcases s z with y|⟨y,_⟩
   ·obtain ⟨r,g,e⟩:=I.c i _ _ _ _ y;exact ⟨r,List.mem_append.mpr (.inl g),e⟩
   ·exact ⟨_,List.mem_append.mpr (.inr (List.mem_singleton.mpr rfl)),y.symm⟩
  ·rcases s z with y|⟨_,y⟩
   ·obtain ⟨r,g,e⟩:=I.d i _ _ y;exact ⟨r,List.mem_append.mpr (.inl g),e⟩
   ·cases y
 induction h with
 | nil=>exact ⟨λ _ h=>absurd h A0,λ _ h=>absurd h A0,λ _ _ _ _ _ h=>by simp at h,λ _ _ _ h=>by simp at h⟩
 | wri _ _ _ _ ih=>rw [z0f];exact D _ _ _ _ ih
 | rd _ _ ih=>rw [z0f];exact D _ _ _ _ ih
 | @fin es os us h b a t h0 ht hf I=>
  rw [z0f];obtain ⟨j,r,E,u,F,J⟩:=t.open h b h0;have K :∀i,dstep i (dAll 0 [] es) (.fin h a)=(dAll 0 [] es).modify j (λ r=>{ r with a:=a,e:=some i }):=λ i=>by unfold dstep;dsimp only;rw [E]
  rw [K];generalize dAll 0 [] es=rs at I E u;have lt :∀{i:Nat} {e:Ev},es[i]? = some e->(es++[Ev.fin h a])[i]? = some e:=λ z=>by rw [J1 (List.getElem?_eq_some_iff.mp z).1];exact z
  have w:(es++[Ev.fin h a])[0 + es.length]? = some (.fin h a):=by rw [X2,K1 (B0 _),y6];rfl
  have s :∀{i:Nat} {e:Ev},(es++[Ev.fin h a])[i]? = some e->es[i]? = some e\/(i=0 + es.length/\e=.fin h a):=λ {i e} z=>by
   by_cases y:i < es.length
   ·rw [J1 y] at z;exact .inl z
   ·have p:=(List.getElem?_eq_some_iff.mp z).1;rw [D0] at p;have:i=0 + es.length:=by simp at p;lia
    rw [this,w] at z;exact .inr ⟨this,(Y1 z).symm⟩
  have get :∀q∈rs.modify j (λ r=>{ r with a:=a,e:=some (0 + es.length) }),(q={ r with a:=a,e:=some (0 + es.length) })\/q∈rs:=λ q f=>by
   obtain ⟨m,o⟩:=List.mem_iff_getElem?.mp f;rw [X1] at o;obtain ⟨P,A,e⟩:=Option.map_eq_some_iff.mp o;by_cases z:j=m
   ·rw [if_pos z] at e;rw [<-z,u] at A;cases A;exact .inl e.symm
   ·rw [if_neg z] at e;rw [<-e];exact .inr (o0 A)
  have put :∀q∈rs,q∈rs.modify j (λ r=>{ r with a:=a,e:=some (0 + es.length) })\/q=r:=λ q f=>by
   obtain ⟨m,o⟩:=List.mem_iff_getElem?.mp f;by_cases z:j=m
   ·rw [<-z,u] at o;cases o;exact .inr rfl
   ·refine .inl (o0 (i:=m) ?_);rw [X1,o];show some (if j=m then _ else q)=some q;rw [if_neg z]
  have new:{ r with a:=a,e:=some (0 + es.length) }∈rs.modify j (λ r=>{ r with a:=a,e:=some (0 + es.length) }):=o0 (i:=j) (by rw [X1,u];show some (if j=j then _ else r)=_;rw [if_pos rfl]);have L:=o0 u;refine ⟨λ q f=>?_,λ q f k l=>?_,λ i B N M H z=>?_,λ i B O z=>?_⟩
  ·rcases get q f with e|e
   ·rw [e];exact lt (I.a r L)
   ·exact lt (I.a q e)
  ·rcases get q f with e|e
   ·rw [e] at l⊢;cases l;show (es++[Ev.fin h a])[0 + es.length]? = some (.fin r.h a);rw [F];exact w
   ·exact lt (I.b q e k l)
  ·rcases s z with y|⟨_,y⟩
   ·obtain ⟨q,f,e⟩:=I.c i _ _ _ _ y;rcases put q f with x|x
    ·exact ⟨q,x,e⟩
    ·exact ⟨_,new,by rw [<-e,x]⟩
   ·cases y
  ·rcases s z with y|⟨y1,y2⟩
   ·obtain ⟨q,f,C,G⟩:=I.d i _ _ y;rcases put q f with x|x
    ·exact ⟨q,x,C,G⟩
    ·rw [x,J] at C;cases C
   ·cases y2;exact ⟨_,new,by rw [y1],F⟩
structure Sq1 (wr:Int) (es:List Ev) (rs:List Rc):Prop where
 R:EvR es rs
 G :∀r∈rs,RdG r\/WrG wr r
 D :∀(x y:Nat) (r q:Rc),x < y->rs[x]? = some r->rs[y]? = some q->r.b < q.b/\(r.h=q.h->∃e,r.e=some e/\e < q.b)
 E:EndsB rs
theorem TW.sq {nm:Str} {wr:Int} {es:List Ev} {os:List (Int×Bool)} {us:List Int} (h:TW nm wr es os us):Sq1 wr es (dAll 0 [] es):=by obtain ⟨_,b,a⟩:=DInv.nil.all h.wf.1;exact ⟨h.evr,h.rs.g,a.p,(EndsB.all (es:=es) (i:=0) (rs:=[]) (λ _ h=>absurd h A0) (λ _ h=>absurd h A0)).1⟩
variable {wr:Int} {es:List Ev} {rs:List Rc}
theorem Sq1.hand (S:Sq1 wr es rs) {w w':Rc} (h:w∈rs) (h':w'∈rs) (e:w.h=w'.h):w=w'\/(w.b < w'.b/\∃k,w.e=some k/\k < w'.b)\/(w'.b < w.b/\∃k,w'.e=some k/\k < w.b):=by
 obtain ⟨i,d⟩:=List.mem_iff_getElem?.mp h;obtain ⟨j,c⟩:=List.mem_iff_getElem?.mp h';rcases S4 i j with z|z|z
 ·obtain ⟨a,b⟩:=S.D i j w w' z d c;exact .inr (.inl ⟨a,b e⟩)
 ·subst z;rw [d] at c;cases c;exact .inl rfl
 ·obtain ⟨a,b⟩:=S.D j i w' w z c d;exact .inr (.inr ⟨a,b e.symm⟩)
theorem Sq1.same_b (S:Sq1 wr es rs) {w w':Rc} (h:w∈rs) (h':w'∈rs) (e:w.b=w'.b):w=w':=by
 obtain ⟨i,c⟩:=List.mem_iff_getElem?.mp h;obtain ⟨j,a⟩:=List.mem_iff_getElem?.mp h';rcases S4 i j with z|z|z
 ·have:=(S.D i j w w' z c a).1;lia
 ·subst z;rw [c] at a;cases a;rfl
 ·have:=(S.D j i w' w z a c).1;lia
theorem Sq1.wh (S:Sq1 wr es rs) {w:Rc} (h:w∈rs) (hw:isW w=true):w.h=wr/\w.v=.str "write":=by
 rcases S.G w h with g|g
 ·rw [g.w] at hw;cases hw
 ·exact ⟨g.2.1,g.1⟩
def OpW (rs:List Rc) (i:Nat) (w:Rc):Prop:=w∈rs/\isW w=true/\w.b < i/\∀e,w.e=some e->i<=e
theorem Sq1.op1 (S:Sq1 wr es rs) {i:Nat} {w w':Rc} (h:OpW rs i w) (h':OpW rs i w'):w=w':=by
 rcases S.hand h.1 h'.1 ((S.wh h.1 h.2.1).1.trans (S.wh h'.1 h'.2.1).1.symm) with z|⟨_,k,e,lt⟩|⟨_,k,e,lt⟩
 ·exact z
 ·have:=h.2.2.2 k e;have:=h'.2.2.1;lia
 ·have:=h'.2.2.2 k e;have:=h.2.2.1;lia
def OpI (rs:List Rc) (i:Nat) (o:Option Rc):Prop:=match o with|none=>∀w,¬ OpW rs i w|some w=>OpW rs i w
theorem Sq1.begW (S:Sq1 wr es rs) {i:Nat} {h:Int} {n x:V} (e:es[i]? = some (.beg h n (.str "write") x)) :∃w,OpW rs (i + 1) w/\w.b=i/\w.x=x/\w.h=h/\w.n=n:=by obtain ⟨r,d,rfl⟩:=S.R.c i _ _ _ _ e;have:=S.R.a r d;rw [e] at this;injection this with this;injection this with h1 h2 h3 h4;exact ⟨r,⟨d,decide_eq_true h3.symm,V1 _,λ k f=>S.E r d k f⟩,rfl,h4.symm,h1.symm,h2.symm⟩
theorem Sq1.noE (S:Sq1 wr es rs) {i:Nat} {h:Int} {n v x:V} (e:es[i]? = some (.beg h n v x)) :∀w∈rs,w.e≠some i:=λ w a z=>by have:=S.R.b w a i z;rw [e] at this;cases this
theorem Sq1.noB (S:Sq1 wr es rs) {i:Nat} {h:Int} {a:V} (e:es[i]? = some (.fin h a)) :∀w∈rs,w.b≠i:=λ w c z=>by have:=S.R.a w c;rw [z,e] at this;cases this
theorem Sq1.noW (S:Sq1 wr es rs) {i:Nat} {h:Int} {n v x:V} (e:es[i]? = some (.beg h n v x)) (hv:v≠.str "write") :∀w∈rs,isW w=true->w.b≠i:=λ w c d z=>by have:=S.R.a w c;rw [z,e] at this;injection this with this;injection this with _ _ h3 _;exact hv (h3.trans (of_decide_eq_true d))
theorem OpI.on {i:Nat} {o:Option Rc} (h:OpI rs i o) (nb :∀w∈rs,isW w=true->w.b≠i) (ne :∀w∈rs,isW w=true->w.e≠some i):OpI rs (i + 1) o:=by
 cases o with
 | none=>
  intro w a;refine h w ⟨a.1,a.2.1,?_,λ e z=>?_⟩
  ·have:=a.2.2.1;have:=nb w a.1 a.2.1;lia
  ·have:=a.2.2.2 e z;lia
 | some w=>
  refine ⟨h.1,h.2.1,?_,λ e z=>?_⟩
  ·have:=h.2.2.1;lia
  ·have:=h.2.2.2 e z;rcases R3 i e with y|y
   ·exact y
   ·have:e=i:=by lia
    subst this;exact absurd z (ne w h.1 h.2.1)
theorem Sq1.finY (S:Sq1 wr es rs) {i:Nat} {w:Rc} {a:V} (e:es[i]? = some (.fin w.h a)) (h:OpW rs i w):w.e=some i/\OpI rs (i + 1) none:=by
 obtain ⟨r,g,f,l⟩:=S.R.d i _ _ e;have o:=S.E r g i f;have m:r=w:=by
  rcases S.hand g h.1 l with z|⟨_,k,e1,lt⟩|⟨_,k,e1,lt⟩
  ·exact z
  ·rw [f] at e1;cases e1;have:=h.2.2.1;lia
  ·have:=h.2.2.2 k e1;lia
 subst m;refine ⟨f,λ j c=>?_⟩;have n:j.b≠i:=S.noB e j c.1;rcases S.hand g c.1 ((S.wh g h.2.1).1.trans (S.wh c.1 c.2.1).1.symm) with z|⟨_,k,e1,lt⟩|⟨_,k,e1,lt⟩
 ·subst z;have:=c.2.2.2 i f;lia
 ·rw [f] at e1;cases e1;have:=c.2.2.1;lia
 ·have:=c.2.2.2 k e1;lia
theorem Sq1.finN (S:Sq1 wr es rs) {i:Nat} {h:Int} {a:V} {o:Option Rc} (e:es[i]? = some (.fin h a)) (ho:OpI rs i o) (hn :∀w,o=some w->h≠w.h) :∀w∈rs,isW w=true->w.e≠some i:=λ w d j z=>by
 have c:=S.R.b w d i z;rw [e] at c;injection c with c;injection c with h1 _;have f:OpW rs i w:=⟨d,j,S.E w d i z,λ k g=>by rw [z] at g;cases g;exact B0 _⟩
 cases o with
 | none=>exact ho w f
 | some w'=>have:w'=w:=S.op1 ho f;subst this;exact hn w' rfl h1
def LastI (rs:List Rc) (i:Nat) (x:Int):Prop:=(x=0/\∀w∈rs,isW w=true->∀e,w.e=some e->¬ e < i)\/∃w∈rs,isW w=true/\intV w.x=x/\(∃e,w.e=some e/\e < i)/\∀w'∈rs,isW w'=true->(∃e,w'.e=some e/\e < i)->w'.b<=w.b
theorem Sq1.last1 (S:Sq1 wr es rs) {i:Nat} {x y:Int} (a:LastI rs i x) (b:LastI rs i y):x=y:=by
 rcases a with ⟨f,g⟩|⟨w,hw,f,g,⟨e,a3,a4⟩,a5⟩
 ·rcases b with ⟨c,d⟩|⟨w,hw,c,d,⟨e,b3,b4⟩,b5⟩
  ·rw [f,c]
  ·exact absurd b4 (g w hw c e b3)
 ·rcases b with ⟨c,d⟩|⟨w',hw',c,d,⟨e',b3,b4⟩,b5⟩
  ·exact absurd a4 (d w hw f e a3)
  ·have h:=a5 w' hw' c ⟨e',b3,b4⟩;have j:=b5 w hw f ⟨e,a3,a4⟩;have:w=w':=S.same_b hw hw' (by lia);rw [<-g,<-d,this]
def BesI (rs:List Rc) (rb i:Nat) (x:Int):Prop:=∃w∈rs,isW w=true/\intV w.x=x/\((rb < w.b/\w.b < i)\/(rb < i/\w.b < rb/\∀e,w.e=some e->rb < e))
theorem BesI.le {rb i:Nat} {x:Int} (h:i<=rb):¬ BesI rs rb i x:=λ ⟨w,_,_,_,z⟩=>by lia
theorem BesI.on {rb i:Nat} {x:Int} (nr:i≠rb) (nb :∀w∈rs,isW w=true->w.b≠i):BesI rs rb (i + 1) x↔BesI rs rb i x:=by
 constructor
 ·rintro ⟨w,hw,h1,h2,h3⟩;have:=nb w hw h1;exact ⟨w,hw,h1,h2,h3.elim (λ z=>.inl ⟨z.1,by lia⟩) λ z=>.inr ⟨by lia,z.2⟩⟩
 ·rintro ⟨w,hw,h1,h2,h3⟩;exact ⟨w,hw,h1,h2,h3.elim (λ z=>.inl ⟨z.1,by lia⟩) λ z=>.inr ⟨by lia,z.2⟩⟩
theorem Sq1.besW (S:Sq1 wr es rs) {rb i:Nat} {x:Int} {w:Rc} (hw:w∈rs) (hi:isW w=true) (hb:w.b=i) (nr:i≠rb):BesI rs rb (i + 1) x↔BesI rs rb i x\/(rb < i/\x=intV w.x):=by
 constructor
 ·rintro ⟨w',hw',h1,h2,a⟩;rcases a with ⟨a,c⟩|⟨a,c⟩
  ·by_cases z:w'.b=i
   ·have:w'=w:=S.same_b hw' hw (by rw [z,hb]);exact .inr ⟨by lia,by rw [<-h2,this]⟩
   ·exact .inl ⟨w',hw',h1,h2,.inl ⟨a,by lia⟩⟩
  ·exact .inl ⟨w',hw',h1,h2,.inr ⟨by lia,c⟩⟩
 ·rintro (⟨w',hw',h1,h2,a⟩|⟨h1,h2⟩)
  ·exact ⟨w',hw',h1,h2,a.elim (λ z=>.inl ⟨z.1,by lia⟩) λ z=>.inr ⟨by lia,z.2⟩⟩
  ·exact ⟨w,hw,hi,h2.symm,.inl ⟨by lia,by lia⟩⟩
theorem Sq1.besB (S:Sq1 wr es rs) {rb:Nat} {x:Int} {o:Option Rc} (ho:OpI rs rb o) (ne :∀w∈rs,w.e≠some rb):BesI rs rb (rb + 1) x↔∃w,o=some w/\x=intV w.x:=by
 constructor
 ·rintro ⟨w,hw,b,h2,h3⟩;rcases h3 with h3|⟨_,h4,h5⟩
  ·lia
  ·have a:OpW rs rb w:=⟨hw,b,h4,λ e z=>N2 (h5 e z)⟩
   cases o with
   | none=>exact absurd a (ho w)
   | some w'=>have:w'=w:=S.op1 ho a;exact ⟨w',rfl,by rw [this,h2]⟩
 ·rintro ⟨w,rfl,h⟩;refine ⟨w,ho.1,ho.2.1,h.symm,.inr ⟨V1 _,ho.2.2.1,λ e z=>?_⟩⟩;have b:=ho.2.2.2 e z;rcases R3 rb e with y|y
  ·exact y
  ·have:e=rb:=by lia
   subst this;exact absurd z (ne w ho.1)
theorem Sq1.besE (S:Sq1 wr es rs) {rb re:Nat} {x:Int} (lt:rb < re) (nb :∀w∈rs,isW w=true->w.b≠rb):BesI rs rb re x↔∃w∈rs,isW w=true/\intV w.x=x/\w.b < re/\∀e,w.e=some e->rb < e:=by
 constructor
 ·rintro ⟨w,hw,h1,h2,c⟩;refine ⟨w,hw,h1,h2,?_⟩;rcases c with ⟨c,a⟩|⟨_,a,h5⟩
  ·exact ⟨a,λ e z=>by have:=S.E w hw e z;lia⟩
  ·exact ⟨by lia,h5⟩
 ·rintro ⟨w,hw,h1,h2,c,a⟩;refine ⟨w,hw,h1,h2,?_⟩;have:=nb w hw h1;rcases R3 rb w.b with z|z
  ·exact .inl ⟨z,c⟩
  ·exact .inr ⟨lt,by lia,a⟩
end
section
structure Ent where
 x:Int
 b:Int
 e:Option Int
noncomputable def ent0:Ent:=⟨0,-2,some (-1)⟩
noncomputable def entW (r:Rc):Ent:=⟨intV r.x,r.b,r.e.map λ n=>(n:Int)⟩
noncomputable def ents (rs:List Rc):List Ent:=ent0 :: (rs.filter isW).map entW
theorem ents_mem {rs:List Rc} {t:Ent}:t∈ents rs↔t=ent0\/∃w∈rs,isW w=true/\t=entW w:=by
 unfold ents;rw [F2,X9];constructor
 ·rintro (h|⟨w,hw,e⟩)
  ·exact .inl h
  ·exact .inr ⟨w,(List.mem_filter.mp hw).1,(List.mem_filter.mp hw).2,e.symm⟩
 ·rintro (h|⟨w,hw,hi,e⟩)
  ·exact .inl h
  ·exact .inr ⟨w,List.mem_filter.mpr ⟨hw,hi⟩,e.symm⟩
theorem zbx (rs:List Rc) (r:Rc):ents (rs++[r])=ents rs++if isW r=true then [entW r] else []:=by
 unfold ents;rw [G2,X0,List.cons_append];by_cases z:isW r=true
 ·rw [if_pos z,N1 z];rfl
 ·rw [if_neg z,T1 z];rfl
noncomputable def besB (rb re:Int) (t:Ent):Bool:=(match t.e with|none=>true|some e=>decide (rb < e)) && decide (t.b < re)
noncomputable def ahdB (rb:Int) (t:Ent):Bool:=match t.e with|none=>false|some e=>decide (e < rb)
variable {wr:Int} {es:List Ev} {rs:List Rc}
theorem Sq1.ents_b (S:Sq1 wr es rs) {t t':Ent} (h:t∈ents rs) (h':t'∈ents rs) (e:t.b=t'.b):t=t':=by
 rcases ents_mem.mp h with rfl|⟨w,hw,_,rfl⟩
 ·rcases ents_mem.mp h' with rfl|⟨w',hw',_,rfl⟩
  ·rfl
  ·have:(-2:Int)=(w'.b:Int):=e;lia
 ·rcases ents_mem.mp h' with rfl|⟨w',hw',_,rfl⟩
  ·have:(w.b:Int)=-2:=e;lia
  ·have:(w.b:Int)=(w'.b:Int):=e;rw [S.same_b hw hw' (by lia)]
theorem z28 {α:Type} {f:α->Int} :∀{l:List α},(l.map f).Nodup->∀a∈l,∀b∈l,f a=f b->a=b
 | [],_,_,h,_,_,_=>absurd h A0
 | x :: l,nd,a,ha,b,hb,e=>by
  rw [Y0,L7] at nd;rcases List.mem_cons.mp ha with rfl|ha'
  ·rcases List.mem_cons.mp hb with rfl|hb'
   ·rfl
   ·exact absurd (List.mem_map.mpr ⟨b,hb',e.symm⟩) nd.1
  ·rcases List.mem_cons.mp hb with rfl|hb'
   ·exact absurd (List.mem_map.mpr ⟨a,ha',e⟩) nd.1
   ·exact z28 nd.2 a ha' b hb' e
theorem ents_x (nd:((rs.filter isW).map (λ r=>intV r.x)).Nodup) (n0:(0:Int)∉(rs.filter isW).map (λ r=>intV r.x)) {t t':Ent} (h:t∈ents rs) (h':t'∈ents rs) (e:t.x=t'.x):t=t':=by
 have ne :∀w∈rs,isW w=true->intV w.x≠0:=λ w a b z=>n0 (List.mem_map.mpr ⟨w,List.mem_filter.mpr ⟨a,b⟩,z⟩);rcases ents_mem.mp h with rfl|⟨w,a,b,rfl⟩
 ·rcases ents_mem.mp h' with rfl|⟨w',hw',hi',rfl⟩
  ·rfl
  ·exact absurd e.symm (ne w' hw' hi')
 ·rcases ents_mem.mp h' with rfl|⟨w',hw',hi',rfl⟩
  ·exact absurd e (ne w a b)
  ·rw [z28 nd w (List.mem_filter.mpr ⟨a,b⟩) w' (List.mem_filter.mpr ⟨hw',hi'⟩) e]
theorem besW {rb re:Nat} {w:Rc}:besB rb re (entW w)=true↔w.b < re/\∀k,w.e=some k->rb < k:=by
 unfold besB entW;cases h:w.e with
 | none=>simp
 | some k=>
  rw [Bool.and_eq_true_iff];constructor
  ·rintro ⟨a,b⟩;have a:(rb:Int) < (k:Int):=of_decide_eq_true a;have b:(w.b:Int) < (re:Int):=of_decide_eq_true b;exact ⟨by lia,λ c z=>by cases z;lia⟩
  ·rintro ⟨a,b⟩;have b:=b k rfl;exact ⟨decide_eq_true (show (rb:Int) < (k:Int) by lia),decide_eq_true (show (w.b:Int) < (re:Int) by lia)⟩
theorem bes0 {rb re:Nat}:besB rb re ent0=false:=by have:decide ((rb:Int) < -1)=false:=decide_eq_false (by lia);show (decide ((rb:Int) < -1) && _)=false;rw [this];rfl
theorem ahdW {rb:Nat} {w:Rc}:ahdB rb (entW w)=true↔∃e,w.e=some e/\e < rb:=by
 unfold ahdB entW;cases h:w.e with
 | none=>simp
 | some k=>
  constructor
  ·intro a;have a:(k:Int) < (rb:Int):=of_decide_eq_true a;exact ⟨k,rfl,by lia⟩
  ·rintro ⟨e,z,lt⟩;cases z;exact decide_eq_true (show (k:Int) < (rb:Int) by lia)
theorem ahd0 {rb:Nat}:ahdB rb ent0=true:=decide_eq_true (show (-1:Int) < (rb:Int) by lia)
theorem zh5 (nd:((rs.filter isW).map (λ r=>intV r.x)).Nodup) (n0:(0:Int)∉(rs.filter isW).map (λ r=>intV r.x)) {rb re:Nat} {t:Ent} (h:t∈ents rs):besB rb re t=true↔∃w∈rs,isW w=true/\intV w.x=t.x/\w.b < re/\∀k,w.e=some k->rb < k:=by
 constructor
 ·intro b;rcases ents_mem.mp h with rfl|⟨w,hw,hi,rfl⟩
  ·rw [bes0] at b;cases b
  ·exact ⟨w,hw,hi,rfl,besW.mp b⟩
 ·rintro ⟨w,hw,hi,hx,r⟩;have:t=entW w:=ents_x nd n0 h (ents_mem.mpr (.inr ⟨w,hw,hi,rfl⟩)) hx.symm;rw [this];exact besW.mpr r
theorem Sq1.last_iff (S:Sq1 wr es rs) (nd:((rs.filter isW).map (λ r=>intV r.x)).Nodup) (n0:(0:Int)∉(rs.filter isW).map (λ r=>intV r.x)) {rb:Nat} {t l:Ent} (h:t∈ents rs) (hl:l∈ents rs) (la:ahdB rb l=true) (lm :∀t'∈ents rs,ahdB rb t'=true->t'.b<=l.b):t=l↔LastI rs rb t.x:=by
 have g:LastI rs rb l.x:=by
  rcases ents_mem.mp hl with rfl|⟨w,f,c,rfl⟩
  ·refine .inl ⟨rfl,λ w f c e z lt=>?_⟩;have:=lm (entW w) (ents_mem.mpr (.inr ⟨w,f,c,rfl⟩)) (ahdW.mpr ⟨e,z,lt⟩);have:(w.b:Int)<=-2:=this
   lia
  ·refine .inr ⟨w,f,c,rfl,ahdW.mp la,λ d j i z=>?_⟩;have:(d.b:Int)<=(w.b:Int):=lm (entW d) (ents_mem.mpr (.inr ⟨d,j,i,rfl⟩)) (ahdW.mpr z)
   lia
 constructor
 ·rintro rfl;exact g
 ·intro a;exact ents_x nd n0 h hl (S.last1 a g)
theorem zgw {rb:Nat} {x:Int} (h:LastI rs rb x) :∃t∈ents rs,t.x=x:=by
 rcases h with ⟨h,_⟩|⟨w,hw,hi,hx,_⟩
 ·exact ⟨ent0,.head _,h.symm⟩
 ·exact ⟨entW w,ents_mem.mpr (.inr ⟨w,hw,hi,rfl⟩),hx⟩
def RegR (rs:List Rc) (r:Rc) (e:Nat):Prop:=(∃w∈rs,isW w=true/\intV w.x=intV r.a/\w.b < e/\∀k,w.e=some k->r.b < k)\/LastI rs r.b (intV r.a)
def SafR (rs:List Rc) (r:Rc) (e:Nat):Prop:=(∃w∈rs,isW w=true/\w.b < e/\∀k,w.e=some k->r.b < k)\/LastI rs r.b (intV r.a)
theorem RegR.safe {r:Rc} {e:Nat} (h:RegR rs r e):SafR rs r e:=h.imp (λ ⟨w,hw,hi,_,z⟩=>⟨w,hw,hi,z⟩) id
def AllR (P:List Rc->Rc->Nat->Prop) (rs:List Rc):Prop:=∀r∈rs,∀e,r.v=.str "read"->r.e=some e->P rs r e
end
section
variable {P:Program} {w:S0} {mg:Str->Option Value} {base:Heap}
noncomputable def endO:Option Int->V
 | none=>.non
 | some i=>.int i
theorem endV_O (o:Option Nat):endV o=endO (o.map λ n=>(n:Int)):=by cases o<;>rfl
def EntV (K:d0) (H:Hp) (t:Ent) (v:V):Prop:=∃p,v=.ref p/\SqT K H p [.int t.b,endO t.e]
def EntAt (K:d0) (H:Hp) (t:Ent) (kv:Key×V):Prop:=kv.1=.inl t.x/\EntV K H t kv.2
theorem EntV.tups {K:d0} {H H':Hp} {t:Ent} {v:V} (f :∀c xs,SqT K H c xs->SqT K H' c xs) (h:EntV K H t v):EntV K H' t v:=h.elim λ p z=>⟨p,z.1,f _ _ z.2⟩
theorem EntAt.tups {K:d0} {H H':Hp} {t:Ent} {kv:Key×V} (f :∀c xs,SqT K H c xs->SqT K H' c xs) (h:EntAt K H t kv):EntAt K H' t kv:=⟨h.1,h.2.tups f⟩
theorem zem {K:d0} {H:Hp} :∀{ts:List Ent} {kvs:List (Key×V)},All2 (EntAt K H) ts kvs->kvs.map (·.1)=ts.map λ t=>Sum.inl t.x
 | _,_,.nil=>rfl
 | _,_,.cons a r=>by rw [Y0,Y0,zem r,a.1]
theorem za7 (rs:List Rc):(ents rs).length<=rs.length + 1:=by unfold ents;rw [C1,L0];exact Q8 (U1 _ _)
theorem ziu {rs:List Rc} {i:Nat} {r:Rc} (nd:((rs.filter isW).map (λ r=>intV r.x)).Nodup) (n0:(0:Int)∉(rs.filter isW).map (λ r=>intV r.x)) (h:rs[i]? = some r) (hw:isW r=true):(Sum.inl (intV r.x):Key)∉(ents (rs.take i)).map λ t=>(Sum.inl t.x:Key):=λ z=>by
 obtain ⟨t,d,e⟩:=List.mem_map.mp z;have e:=D3 e;rcases ents_mem.mp d with rfl|⟨w,hm,hi,rfl⟩
 ·exact n0 (List.mem_map.mpr ⟨r,List.mem_filter.mpr ⟨o0 h,hw⟩,e.symm⟩)
 ·have a:rs=rs.take i++r :: rs.drop (i + 1):=by obtain ⟨b,c⟩:=List.getElem?_eq_some_iff.mp h;rw [<-c,<-J6 b,List.take_append_drop]
  rw [a,G2,X0,D5] at nd;exact nd.2.2 _ (List.mem_map.mpr ⟨w,List.mem_filter.mpr ⟨hm,hi⟩,rfl⟩) _ (List.mem_map.mpr ⟨r,List.mem_filter.mpr ⟨.head _,hw⟩,rfl⟩) e
theorem zen {H:Hp}:SqT (kx w) H 210 [.int (-2),.int (-1)]:=
 .inr ⟨⟨(.type "tuple"),none,(.seq #[(.int (-2) 517),(.int (-1) 519)] 0),#[]⟩,#[(.int (-2) 517),(.int (-1) 519)],0,by kernel_rfl,rfl,rfl,w_2,.cons ⟨_,rfl⟩ (.cons ⟨_,rfl⟩ .nil)⟩
def z5f (K:d0):Sp:=λ vs H Q _=>∃l zs rs wr,vs=[.ref l]/\ToldAt K H l wr rs zs/\((rs.filter isW).map (λ r=>intV r.x)).Nodup/\(0:Int)∉(rs.filter isW).map (λ r=>intV r.x)/\∀d kvs H',Same H H'->H' d=some (.dK kvs)->All2 (EntAt K H') (ents rs) kvs->Q (.ref d) H'
theorem zdp (T:TX (kx w) mg):Fo P w mg base CX0 1 234 y0z ["told"] (z5f (kx w)):=by
 refine (z3p w.params).ok sc_writers (λ Y H Q E h=>?_) (λ a1 A a2 s H Y Q E W h=>?_)
 ·obtain ⟨l,C,rs,wr,rfl,_⟩:=h;rfl
 ·obtain ⟨l,C,rs,wr,rfl,f,S,V,q⟩:=h;refine ⟨_,(z01 (ps_set (i:=1) sc_writers.nd rfl (P0 rfl) (zej (za4 pe_int (z3x (v:=.ref 210) rfl (T.of (z4x _)) rfl) zd2) rfl rfl (by simp) (by decide)))
   (z01 (ps_for Q1 rfl (z0v (pv 0)) (z0d (i:=2) sc_writers.nd rfl (P0 rfl))
   (z03 (ps_if (z07 opEq (pe_ix ix_seq (pv 2) pe_int (λ _ _=>rfl)) pe_str (nomark _))
   (z03 (z4u (hu_of W) (pv 1) (pe_ix ix_seq (pv 2) pe_int (λ _ _=>rfl)) (z32 slSeq (pv 2) (z4q pe_int) z6r) rfl))
   z0c)))
   (z03 (ps_ret (pv 1))))),?_⟩
  have lz:C.length=rs.length:=z05 f.a;have a0:=f.n;intro d F;refine ⟨upd_same,[(.inl 0,.ref 210)],rfl,(show (1:Nat)<=15 by decide),?_⟩;have G:Same H (upd (upd H d (.dK [])) d (.dK (mergeK [] [(.inl 0,.ref 210)]))):=Same.keep (Same.upd F) F;have O:upd (upd H d (.dK [])) d (.dK (mergeK [] [(.inl 0,.ref 210)])) d=some (.dK [(.inl 0,.ref 210)]):=upd_same;generalize upd (upd H d (.dK [])) d (.dK (mergeK [] [(.inl 0,.ref 210)]))=H1 at G O⊢;refine ⟨_,rfl,l,rfl,⟨_,SqL.of (G _ _ f.l)⟩,?_⟩;refine z1o (K:=KX w.params) (a:=l) (xs:=C) (λ i σ t=>Same H t/\(∃kvs,t d=some (.dK kvs)/\All2 (EntAt (kx w) t) (ents (rs.take i)) kvs)/\∃x2,σ=[some (.ref l),some (.ref d),x2])
   ⟨G,⟨_,O,.cons ⟨rfl,210,rfl,zen⟩ .nil⟩,_,rfl⟩ (λ _ σ t _ h=>SqL.of (h.1 _ _ f.l)) ?_ ?_
  ·rintro i y σ M U ⟨s2,⟨kvs,ed,wk⟩,x2,rfl⟩;obtain ⟨r,o,p,rfl,R⟩:=z0a f.a U;have hi:i < 63:=by have:=(List.getElem?_eq_some_iff.mp o).1;lia
   have lk:kvs.length<=64:=by
    rw [z05 wk];refine F0 (za7 _) ?_;rw [n4]
    lia
   have u:=s2.seqT R;refine g_name ?_;rcases f.g r (o0 o) with g|g
   ·refine ⟨_,rfl,.inr (.inl ⟨p,_,2,.str "read",rfl,rfl,u,by rw [g.1];exact z04 (j:=2) rfl,rfl,_,rfl,iteK ?_⟩)⟩;refine ⟨s2,⟨kvs,ed,?_⟩,_,rfl⟩;rw [z54 o,zbx,if_neg (by rw [g.w];decide),Q2];exact wk
   ·refine ⟨_,rfl,.inr (.inl ⟨p,_,2,.str "write",rfl,rfl,u,by rw [g.1];exact z04 (j:=2) rfl,rfl,_,rfl,iteP (by decide +kernel) ?_⟩)⟩;refine ⟨_,rfl,5,rfl,.inr (.inl ⟨p,_,rfl,u,λ z=>absurd z.1 (show ¬ HT.sIx 7 0 (some 5)=0 by decide),λ J X=>?_⟩)⟩;have c1:cutV [.int r.h,r.n,r.v,r.x,r.a,.int r.b,endV r.e] (some 5) none=[.int r.b,endV r.e]:=rfl;rw [c1];obtain ⟨L,v_,B,Z⟩:=newA (.tup [.int r.b,endV r.e]) X;rw [<-v_];have N:=B _ _ ed;refine ⟨_,rfl,_,rfl,.inr (.inl ⟨p,_,3,.int (intV r.x),rfl,rfl,B.seqT u,by rw [<-g.2.2.1];exact z04 (j:=3) rfl,d,_,rfl,DPut.k (k:=.inl (intV r.x)) N (Q0 (m:=100) (by lia) (by decide)),?_⟩)⟩;have I:Tups (kx w) L (upd L d (.dK (putK kvs (.inl (intV r.x)) (.ref J)))):=Tups.dict N;have D:=ziu S V o g.w;rw [<-zem wk] at D;refine ⟨Same.keep (s2.trans B) F,⟨_,upd_same,?_⟩,_,rfl⟩;rw [z54 o,zbx,if_pos g.w,z3t D];rw [z3t D] at I;refine z0m (z02 (λ _ _ z=>EntAt.tups (λ c xs y=>I _ _ (B.seqT y)) z) wk) ⟨rfl,J,rfl,?_⟩;have:=I _ _ (SqT.of Z);rw [endV_O] at this;exact this
  ·rintro σ M ⟨s2,⟨kvs,ed,wk⟩,x2,rfl⟩;rw [lz,i4] at wk;exact ⟨_,rfl,q d kvs M s2 ed wk⟩
def NumAt (H:Hp) (zs:List V) (i:Nat) (y:V):Prop:=∃p z,y=.ref p/\H p=some (.tup [.int (i:Nat),z])/\zs[i]? = some z
theorem NumAt.same {H H':Hp} {zs:List V} {i:Nat} {y:V} (s:Same H H') (h:NumAt H zs i y):NumAt H' zs i y:=by obtain ⟨p,z,b,c,a⟩:=h;exact ⟨p,z,b,s _ _ c,a⟩
noncomputable def isRE (r:Rc):Bool:=decide (r.v=.str "read") && r.e.isSome
def z16 (K:d0):Sp:=λ vs H Q _=>∃l zs rs wr,vs=[.ref l]/\ToldAt K H l wr rs zs/\∀a ws H',Same H H'->H' a=some (.lst ws)->All2 (NumAt H' zs) ((V0 rs.length).filter λ i=>isRE (rs[i]?.getD r00)) ws->Q (.ref a) H'
theorem z7y (T:TX (kx w) mg):Fo P w mg base CX0 1 239 y0k ["told"] (z16 (kx w)):=by
 refine (z2l w.params).ok z7e (λ S H Q E h=>?_) (λ a0 A a1 s H S Q E hr h=>?_)
 ·obtain ⟨l,c,rs,W,rfl,_⟩:=h;rfl
 ·obtain ⟨l,c,rs,W,rfl,b,q⟩:=h;refine ⟨_,(z03 (ps_ret (pe_cg (xs:=["number","deed"]) (g:=gTup (kx w) 2 (gCons (gName 0) (gCons (gName 1) gNil))) (fr:=[]) (z62 rfl (T.no (z0u _)) (z00 (pv 0) pa_nil)) (λ _ _ _ _ _=>(pg_tup rfl (z08 (pg_cn (N:=["number","deed"]) 0) (z08 (pg_cn (N:=["number","deed"]) 1) z0p)))) (λ _ _ _ _ _=>(pf_one (PW.pt (pw_and (z07 opEq (pe_ix (z0j (K:=KX w.params) rfl) (pv 1) pe_int (λ _ _=>rfl)) pe_str (nomark _)) (z2w (z07 z44 (pe_ix (z0j (K:=KX w.params) rfl) (pv 1) pe_int (λ _ _=>rfl)) pe_non (nomark _))))))) (λ _ _ _ _ _=>(pe_tup (z00 (pv 0) (z00 (pv 1) pa_nil))))))),?_⟩;have U:c.length=rs.length:=z05 b.a;have Z:=b.n;refine sq_ret ?_;refine zc5 (K:=KX w.params) (a:=l) (xs:=c) (H1:=H) (λ i=>isRE (rs[i]?.getD r00)) (λ i y V=>NumAt V c i y) (λ _ _ _ _ s z=>z.same s) (λ R h=>⟨_,rfl,h⟩) (SqL.of b.l) (F0 (m:=63) (by lia) (by decide)) ?_ ?_
  ·intro i hi v H1 k M KT KF D f;obtain ⟨x,Y,B,rfl,L⟩:=M;obtain ⟨r,C,p,rfl,G⟩:=z0a b.a B;have d:=k.seqT G;rw [getD_some C] at D f;refine ⟨Y,_,rfl,SqT.of L,rfl,_,_,rfl,_,_,rfl,rfl,[some (.int (i:Nat)),some (.ref p)],rfl,rfl,?_⟩;rcases b.g r (o0 C) with g|g
   ·refine ⟨_,rfl,.inr (.inl ⟨p,_,2,.str "read",rfl,rfl,d,by rw [g.1];exact z04 (j:=2) rfl,rfl,_,rfl,iteP (by decide +kernel) ?_⟩)⟩;cases he:r.e with
    | none=>exact ⟨_,rfl,.inr (.inl ⟨p,_,6,.non,rfl,rfl,d,by rw [he];exact z04 (j:=6) rfl,rfl,_,rfl,iteN (by decide) (f (by unfold isRE;rw [he];exact y9 _) _ (Same.refl _))⟩)⟩
    | some e=>refine ⟨_,rfl,.inr (.inl ⟨p,_,6,.int e,rfl,rfl,d,by rw [he];exact z04 (j:=6) rfl,rfl,_,rfl,iteP (by simp) ?_⟩)⟩;refine ⟨_,rfl,_,rfl,w_2,λ J O=>D (by unfold isRE;rw [he,decide_eq_true g.1];rfl) _ _ (Same.upd O) ⟨J,_,rfl,upd_same,B⟩⟩
   ·refine ⟨_,rfl,.inr (.inl ⟨p,_,2,.str "write",rfl,rfl,d,by rw [g.1];exact z04 (j:=2) rfl,rfl,_,rfl,iteK ?_⟩)⟩;refine iteN (by decide) (f ?_ _ (Same.refl _));unfold isRE;rw [decide_eq_false (λ e=>z0y (e.symm.trans g.1))];rfl
  intro X H1 t k I F;rw [U] at F;have u:=Same.upd (o:=.lst t) I;exact q X t _ (k.trans u) upd_same (z02 (λ _ _ z=>z.same u) F)
def z0i (K:d0):Sp:=λ vs H Q _=>∃t nm wr es ys,vs=[.ref t]/\TalR K H t nm wr es ys/\∀l zs H',Same H H'->ToldAt K H' l wr (dAll 0 [] es) zs->Q (.ref l) H'
theorem z37 (T:TX (kx w) mg) (c0:Ca P w mg base "plain_deeds" ["tale"] 4 (z45 (kx w))):Fo P w mg base CX0 5 244 y04 ["tale"] (z0i (kx w)):=by
 refine (z0z w.params).ok sc_lone_writer_deeds (λ vs H Q E h=>?_) (λ a2 A a4 s H vs Q E hr h=>?_)
 ·obtain ⟨t,nm,x,B,C,rfl,_⟩:=h;rfl
 ·obtain ⟨t,nm,x,B,C,rfl,ta,q⟩:=h;refine ⟨_,(z01 (ps_set (i:=1) sc_lone_writer_deeds.nd rfl (P0 rfl) (pe_cal c0 (hr.mono (by decide)) rfl (z00 (pv 0) pa_nil)))
   (z01 (ps_if (z07 op_gt (zb7 rfl rfl (T.no (n_len _)) rfl (T.no (n_set _)) U5 boot_set (pe_cg (xs:=["deed"]) (g:=gName 0) (fr:=[]) (z0v (pv 1)) (λ _ _ _ _ _=>(pg_cn (N:=["deed"]) 0)) (λ _ _ _ _ _=>(pf_one (z07 opEq (pe_ix (z0j (K:=KX w.params) rfl) (pv 0) pe_int (λ _ _=>rfl)) pe_str (nomark _)))) (λ _ _ _ _ _=>(pe_ix (z0j (K:=KX w.params) rfl) (pv 0) pe_int (λ _ _=>rfl))))) pe_int (nomark _))
   (z03 z58)
   z0c)
   (z03 (ps_ret (pv 1))))),?_⟩
  refine z0g ?_;refine ⟨_,rfl,t,nm,x,B,C,rfl,ta,λ l d H1 s1 b=>?_⟩;refine g_name ?_;generalize dAll 0 [] B=rs at b q;have lz:d.length=rs.length:=z05 b.a;have O:=b.n;refine sq_if (t_test (t_lset ?_));refine z29 (K:=KX w.params) (a:=l) (xs:=d) (H1:=H1) (λ i=>isW (rs[i]?.getD r00)) (λ i y _=>y=.int ((rs[i]?.getD r00).h)) (λ _ _ _ _ _ z=>z) (λ R h=>⟨_,rfl,h⟩) (SqL.of b.l) (F0 (m:=63) (by lia) (by decide)) ?_ ?_
  ·intro i hi v H2 c X KT KF G D;obtain ⟨r,F,p,rfl,L⟩:=z0a b.a X;have k:=c.seqT L;rw [getD_some F] at G D;refine ⟨[some (.ref p)],rfl,rfl,?_⟩;rcases b.g r (o0 F) with g|g
   ·refine ⟨_,rfl,.inr (.inl ⟨p,_,2,.str "read",rfl,rfl,k,by rw [g.1];exact z04 (j:=2) rfl,rfl,_,rfl,iteK (D g.w _ (Same.refl _))⟩)⟩
   ·refine ⟨_,rfl,.inr (.inl ⟨p,_,2,.str "write",rfl,rfl,k,by rw [g.1];exact z04 (j:=2) rfl,rfl,_,rfl,iteP (by decide +kernel) ?_⟩)⟩;exact ⟨_,rfl,.inr (.inl ⟨p,_,0,.int r.h,rfl,rfl,k,z04 (j:=0) rfl,G g.w _ _ (Same.refl _) rfl⟩)⟩
  intro Z H2 Y c W a0;have S:=zc2 (f:=λ r=>V.int r.h) lz a0;have U:Y=((rs.filter isW).map (λ r=>r.h)).map V.int:=by rw [S,V2];rfl
  subst U;have M :∀u∈(rs.filter isW).map (λ r=>r.h),u=x:=λ u hu=>by
   obtain ⟨r,a1,rfl⟩:=List.mem_map.mp hu;obtain ⟨hm,I⟩:=List.mem_filter.mp a1;rcases b.g r hm with g|g
   ·rw [g.w] at I;cases I
   ·exact g.2.1
  have lh:((rs.filter isW).map (λ r=>r.h)).length<=63:=by rw [L0];exact F0 (U1 _ _) O
  have a3:=z9j _ [] M (.inl rfl);have J:=Same.upd (o:=.lst (((rs.filter isW).map (λ r=>r.h)).map V.int)) W;refine ⟨Z,_,rfl,SqL.of upd_same,by lia,_,_,rfl,rfl,_,rfl,iteN (λ e=>absurd (of_decide_eq_true e) (by lia)) ?_⟩;exact ⟨_,rfl,q l d _ (s1.trans (c.trans J)) (b.same (c.trans J))⟩
noncomputable def t00:Ent:=⟨0,0,none⟩
theorem za2 {ts:List Ent} {i:Nat} {t:Ent} (h:ts[i]? = some t):ts[i]?.getD t00=t:=by rw [h];rfl
theorem ent_at {K:d0} {H:Hp} {ts:List Ent} {kvs:List (Key×V)} {i:Nat} {k:Key} {v:V} (al:All2 (EntAt K H) ts kvs) (h:kvs[i]? = some (k,v)) :∃t,ts[i]? = some t/\EntV K H t v:=by obtain ⟨t,a,z⟩:=z0a al h;exact ⟨t,a,z.2⟩
theorem z9w {P:Ent->V->Prop} {ts:List Ent} {q:Ent->Bool} {n:Nat} {us:List V} (hn:n=ts.length) (h:All2 (λ (i:Nat) y=>P (ts[i]?.getD t00) y) ((V0 n).filter λ i=>q (ts[i]?.getD t00)) us):All2 P (ts.filter q) us:=by
 subst hn;have c :∀(b:List Nat) (us:List V),All2 (λ (k:Nat) y=>P (ts[k]?.getD t00) y) b us->All2 P (b.map λ k=>ts[k]?.getD t00) us:=by
  intro b;induction b with
  | nil=>intro us h;cases h;exact .nil
  | cons k b ih=>intro us h;cases h with|cons a r=>exact .cons a (ih _ r)
 have z:=c _ _ h;have e:=z1c q (λ i=>i) t00 ts;rw [e,List.map_id'] at z;exact z
structure WrAt (K:d0) (H:Hp) (d:Addr) (kvs:List (Key×V)) (ts:List Ent):Prop where
 d:H d=some (.dK kvs)
 a:All2 (EntAt K H) ts kvs
 n:ts.length<=64
theorem WrAt.same {K:d0} {H H':Hp} {d:Addr} {kvs:List (Key×V)} {ts:List Ent} (s:Same H H') (h:WrAt K H d kvs ts):WrAt K H' d kvs ts:=⟨s _ _ h.d,z02 (λ _ _ z=>EntAt.tups (λ _ _ y=>s.seqT y) z) h.a,h.n⟩
def z19 (K:d0):Sp:=λ vs H Q _=>∃d kvs ts y r re,vs=[.ref d,y]/\WrAt K H d kvs ts/\RcAt K H r y/\r.e=some re/\∀l ps H',Same H H'->H' l=some (.lst ps)->All2 (EntV K H') (ts.filter (besB r.b re)) ps->Q (.ref l) H'
theorem z5w (T:TX (kx w) mg):Fo P w mg base CX0 1 263 y08 ["written","read"] (z19 (kx w)):=by
 refine (z1p w.params).ok sc_writes_beside (λ vs H Q E h=>?_) (λ a5 A a7 s H vs Q E hr h=>?_)
 ·obtain ⟨d,kvs,l,y,r,c,rfl,_⟩:=h;rfl
 ·obtain ⟨d,kvs,l,y,r,c,rfl,D,⟨V,rfl,S⟩,he,q⟩:=h;refine ⟨_,(z01 (zj5 (z92 (i:=2) sc_writes_beside.nd rfl (P0 rfl) (xs:=["write"]) (g:=gName 0) (fr:=[(1,"read")]) rfl (zgu (pv 0)) (by intro p G;obtain rfl:=List.mem_singleton.mp G;first|exact ⟨rfl,.inl rfl⟩|exact ⟨rfl,.inr rfl⟩) (zep (n:="read") (by decide +kernel) (λ _=>by first|exact .inl rfl|exact .inr rfl)) (by intro p G;obtain rfl:=List.mem_singleton.mp G;exact ⟨by decide +kernel,by first|exact .inl rfl|exact .inr rfl⟩) (by decide +kernel) rfl (by decide +kernel) (λ _ _ _ _ _=>(pg_cn (N:=["write","read"]) 0)) (λ _ _ _ _ _=>(pf_one (z07 op_lt (pe_ix (z0j (K:=KX w.params) rfl) (pv 0) pe_int (λ _ _=>rfl)) (pe_ix (z0j (K:=KX w.params) rfl) (pv 1) pe_int (λ _ _=>rfl)) (nomark _)))) (λ _ _ _ _ _=>(pv 0))))
   (z03 (ps_ret (pe_cg (xs:=["write"]) (g:=gName 0) (fr:=[(1,"read")]) (z0v (pv 2)) (λ _ _ _ _ _=>(pg_cn (N:=["write","read"]) 0)) (λ _ _ _ _ _=>(pf_one (PW.pt (pw_or (z07 op_isN (pe_ix (z0j (K:=KX w.params) rfl) (pv 0) pe_int (λ _ _=>rfl)) pe_non (nomark _)) (pw_or1 (z07 op_lt (pe_ix (z0j (K:=KX w.params) rfl) (pv 1) pe_int (λ _ _=>rfl)) (pe_ix (z0j (K:=KX w.params) rfl) (pv 0) pe_int (λ _ _=>rfl)) (nomark _))))))) (λ _ _ _ _ _=>(pv 0)))))),?_⟩
  have lk:kvs.length=l.length:=z05 D.a;have a3:=D.n;refine zho ?_;refine tcompV (K:=KX w.params) (a:=d) (kvs:=kvs) (λ i=>decide ((l[i]?.getD t00).b < (c:Int))) (λ i y=>EntV (kx w) H (l[i]?.getD t00) y) (λ R h=>⟨_,rfl,h⟩) D.d (F0 (m:=64) (by lia) (by decide)) ?_ ?_
  ·intro i k v hk H1 M KT KF f u;obtain ⟨t,F,p,rfl,B⟩:=ent_at D.a hk;rw [za2 F] at f u;refine ⟨[some (.ref p)],rfl,rfl,?_⟩;refine ⟨_,rfl,.inr (.inl ⟨p,_,0,.int t.b,rfl,rfl,M _ _ B,z04 (j:=0) rfl,?_⟩)⟩;refine ⟨_,rfl,.inr (.inl ⟨V,_,6,.int (c:Nat),rfl,rfl,M _ _ S,by rw [he];exact z04 (j:=6) rfl,_,_,rfl,rfl,_,rfl,?_⟩)⟩;by_cases z:t.b < (c:Int)
   ·exact iteP (decide_eq_true z) ⟨_,rfl,f (decide_eq_true z) _ _ (Same.refl _) ⟨p,rfl,B⟩⟩
   ·exact iteN (λ e=>z (of_decide_eq_true e)) (u (decide_eq_false z) _ (Same.refl _))
  intro l1 H1 O L a4 a2 J;have J:=z9w (P:=λ t y=>EntV (kx w) H t y) (q:=λ t=>decide (t.b < (c:Int))) lk J;have I:=z02 (λ _ _ z=>EntV.tups (λ _ _ y=>L.seqT y) z) J;have Z:l.filter (besB r.b c)=(l.filter λ t=>decide (t.b < (c:Int))).filter λ t=>(match t.e with|none=>true|some e=>decide ((r.b:Int) < e)):=by rw [v8];rfl
  rw [Z] at q;generalize hts:(l.filter λ t=>decide (t.b < (c:Int)))=ts1 at I q;have Y:O.length=ts1.length:=z05 I;have a6:ts1.length<=64:=by rw [<-hts];exact F0 (U1 _ _) a3
  refine sq_ret ?_;refine z29 (K:=KX w.params) (a:=l1) (xs:=O) (H1:=H1) (λ i=>(match (ts1[i]?.getD t00).e with|none=>true|some e=>decide ((r.b:Int) < e))) (λ i y H'=>EntV (kx w) H' (ts1[i]?.getD t00) y) (λ _ _ _ _ s z=>z.tups λ _ _ y=>s.seqT y) (λ R h=>⟨_,rfl,h⟩) (SqL.of a2) (F0 (m:=64) (by lia) (by decide)) ?_ ?_
  ·intro i hi v U C hv KT KF f u;obtain ⟨t,F,p,rfl,B⟩:=z0a I hv;rw [za2 F] at f u;have x:=C.seqT B;refine ⟨[some (.ref p)],rfl,rfl,?_⟩;cases te:t.e with
   | none=>rw [te] at f;exact ⟨_,rfl,.inr (.inl ⟨p,_,1,.non,rfl,rfl,x,by rw [te];exact z04 (j:=1) rfl,rfl,_,rfl,iteP (by decide) (iteP rfl ⟨_,rfl,f rfl _ _ (Same.refl _) ⟨p,rfl,x⟩⟩)⟩)⟩
   | some e=>
    rw [te] at f u;refine ⟨_,rfl,.inr (.inl ⟨p,_,1,.int e,rfl,rfl,x,by rw [te];exact z04 (j:=1) rfl,rfl,_,rfl,iteN (by simp) ?_⟩)⟩;refine ⟨_,rfl,.inr (.inl ⟨V,_,5,.int (r.b:Nat),rfl,rfl,(L.trans C).seqT S,z04 (j:=5) rfl,?_⟩)⟩;refine ⟨_,rfl,.inr (.inl ⟨p,_,1,.int e,rfl,rfl,x,by rw [te];exact z04 (j:=1) rfl,_,_,rfl,rfl,_,rfl,?_⟩)⟩;by_cases z:(r.b:Int) < e
    ·exact iteP (decide_eq_true z) ⟨_,rfl,f (decide_eq_true z) _ _ (Same.refl _) ⟨p,rfl,x⟩⟩
    ·exact iteN (λ e=>z (of_decide_eq_true e)) (u (decide_eq_false z) _ (Same.refl _))
  intro l2 U W C a0 a1;have X:=Same.upd (o:=.lst W) a0;refine q l2 W _ (L.trans (C.trans X)) upd_same ?_;exact z02 (λ _ _ z=>EntV.tups (λ _ _ y=>X.seqT y) z) (z9w (P:=λ t y=>EntV (kx w) U t y) (q:=λ t=>(match t.e with|none=>true|some e=>decide ((r.b:Int) < e))) Y a1)
theorem zbu {K:d0} {H:Hp} :∀{us:List Ent} {ys:List V},All2 (EntV K H) us ys->(∀t∈us,t.e≠none)->∃L:List (Addr×(Int×Int)),ys=L.map (λ x=>V.ref x.1)/\(∀x∈L,SqT K H x.1 [.int x.2.1,.int x.2.2]/\∃t∈us,t.b=x.2.1/\t.e=some x.2.2)/\∀t∈us,∃x∈L,x.2.1=t.b
 | _,_,.nil,_=>⟨[],rfl,λ _ h=>absurd h A0,λ _ h=>absurd h A0⟩
 | t :: us,_,.cons a r,h=>by
  obtain ⟨L,k,l,i⟩:=zbu r λ t j=>h t (.tail _ j);obtain ⟨p,rfl,g⟩:=a;cases te:t.e with
  | none=>exact absurd te (h t (.head _))
  | some e=>
   rw [te] at g;refine ⟨(p,(t.b,e)) :: L,by rw [k];rfl,λ x d=>?_,λ f c=>?_⟩
   ·rcases List.mem_cons.mp d with rfl|d
    ·exact ⟨g,t,.head _,rfl,te⟩
    ·obtain ⟨a,f,c,b⟩:=l x d;exact ⟨a,f,.tail _ c,b⟩
   ·rcases List.mem_cons.mp c with rfl|c
    ·exact ⟨_,.head _,rfl⟩
    ·obtain ⟨x,d,e⟩:=i f c;exact ⟨x,.tail _ d,e⟩
def z2a (K:d0):Sp:=λ vs H Q _=>∃d kvs ts y r,vs=[.ref d,y]/\WrAt K H d kvs ts/\RcAt K H r y/\(∃t∈ts,ahdB r.b t=true)/\∀p t H',Same H H'->SqT K H' p [.int t.b,endO t.e]->t∈ts->ahdB r.b t=true->(∀t'∈ts,ahdB r.b t'=true->t'.b<=t.b)->Q (.ref p) H'
theorem z96 (T:TX (kx w) mg):Fo P w mg base CX0 1 268 y0s ["written","read"] (z2a (kx w)):=by
 refine (z3b w.params).ok z9g (λ vs H Q E h=>?_) (λ a5 A a7 s H vs Q E hr h=>?_)
 ·obtain ⟨d,kvs,C,y,r,rfl,_⟩:=h;rfl
 ·obtain ⟨d,kvs,C,y,r,rfl,D,⟨pr,rfl,sr⟩,⟨t1,a0,S⟩,q⟩:=h;refine ⟨_,(z03 (ps_ret (z0h (zfh rfl hr) rfl (T.no (n_max _)) boot_max (z00 (zjd (pe_cg (xs:=["write"]) (g:=gName 0) (fr:=[(1,"read")]) (zgu (pv 0)) (λ _ _ _ _ _=>(pg_cn (N:=["write","read"]) 0)) (λ _ _ _ _ _=>(pf_one (PW.pt (pw_and (z07 z44 (pe_ix (z0j (K:=KX w.params) rfl) (pv 0) pe_int (λ _ _=>rfl)) pe_non (nomark _)) (z2w (z07 op_lt (pe_ix (z0j (K:=KX w.params) rfl) (pv 0) pe_int (λ _ _=>rfl)) (pe_ix (z0j (K:=KX w.params) rfl) (pv 1) pe_int (λ _ _=>rfl)) (nomark _))))))) (λ _ _ _ _ _=>(pv 0)))) pa_nil)))),?_⟩;have Y:kvs.length=C.length:=z05 D.a;have a6:=D.n;refine sq_ret (e_cb1 ?_);refine tcompV (K:=KX w.params) (a:=d) (kvs:=kvs) (λ i=>ahdB r.b (C[i]?.getD t00)) (λ i y=>EntV (kx w) H (C[i]?.getD t00) y) (λ R h=>⟨_,rfl,h⟩) D.d (F0 (m:=64) (by lia) (by decide)) ?_ ?_
  ·intro i k v hk I u KT KF l c;obtain ⟨t,f,p,rfl,o⟩:=ent_at D.a hk;rw [za2 f] at l c;unfold ahdB at l c;refine ⟨[some (.ref p)],rfl,rfl,?_⟩;cases te:t.e with
   | none=>rw [te] at c;exact ⟨_,rfl,.inr (.inl ⟨p,_,1,.non,rfl,rfl,u _ _ o,by rw [te];exact z04 (j:=1) rfl,rfl,_,rfl,iteN (by decide) (iteN (by decide) (c rfl _ (Same.refl _)))⟩)⟩
   | some e=>
    rw [te] at l c;refine ⟨_,rfl,.inr (.inl ⟨p,_,1,.int e,rfl,rfl,u _ _ o,by rw [te];exact z04 (j:=1) rfl,rfl,_,rfl,iteP (by simp) ?_⟩)⟩;refine ⟨_,rfl,.inr (.inl ⟨p,_,1,.int e,rfl,rfl,u _ _ o,by rw [te];exact z04 (j:=1) rfl,?_⟩)⟩;refine ⟨_,rfl,.inr (.inl ⟨pr,_,5,.int (r.b:Nat),rfl,rfl,u _ _ sr,z04 (j:=5) rfl,_,_,rfl,rfl,_,rfl,?_⟩)⟩;by_cases z:e < (r.b:Int)
    ·exact iteP (decide_eq_true z) ⟨_,rfl,l (decide_eq_true z) _ _ (Same.refl _) ⟨p,rfl,o⟩⟩
    ·exact iteN (λ e=>z (of_decide_eq_true e)) (c (decide_eq_false z) _ (Same.refl _))
  intro l1 I ys G a4 a1 F;have F:=z9w (P:=λ t y=>EntV (kx w) H t y) (q:=ahdB r.b) Y F;have a3:=z02 (λ _ _ z=>EntV.tups (λ _ _ y=>G.seqT y) z) F;obtain ⟨L,l,c,O⟩:=zbu a3 λ t f z=>by have:=(List.mem_filter.mp f).2;unfold ahdB at this;rw [z] at this;cases this
  obtain ⟨x0,a2,_⟩:=O t1 (List.mem_filter.mpr ⟨a0,S⟩);cases L with
  | nil=>exact absurd a2 A0
  | cons m L=>
   subst l;refine ⟨l1,m,L,rfl,SqL.of a1,λ x B=>(c x B).1,λ b V M=>?_⟩;obtain ⟨sb,t,f,J,W⟩:=c b V;obtain ⟨f,ha⟩:=List.mem_filter.mp f;refine q b.1 t I G (by rw [J,W];exact sb) f ha λ Z U X=>?_;obtain ⟨x,B,e⟩:=O Z (List.mem_filter.mpr ⟨U,X⟩);have:=M x B;rw [J,<-e];rcases Int.lt_or_le b.2.1 x.2.1 with z|z
   ·have:=gtI_iff.mpr (.inl z:b.2.1 < x.2.1\/(x.2.1=b.2.1/\b.2.2 < x.2.2));rw [M x B] at this;cases this
   ·exact z
theorem zea {K:d0} {H:Hp} :∀{ts:List Ent} {kvs:List (Key×V)},All2 (EntAt K H) ts kvs->∀x:Int,(∃t∈ts,t.x=x/\∃p,valV kvs (.inl x)=some (.ref p)/\SqT K H p [.int t.b,endO t.e])\/((∀t∈ts,t.x≠x)/\valV kvs (.inl x)=none)
 | _,_,.nil,x=>.inr ⟨λ _ h=>absurd h A0,rfl⟩
 | t :: ts,(k,v) :: kvs,.cons a r,x=>by
  obtain ⟨e,p,d,i⟩:=a;have e:k=.inl t.x:=e;have d:v=.ref p:=d;subst e d;by_cases z:t.x=x
  ·subst z;exact .inl ⟨t,.head _,rfl,p,z0s rfl,i⟩
  ·rw [z0t (λ e=>z (D3 e))];rcases zea r x with ⟨c,f,g⟩|⟨f,g⟩
   ·exact .inl ⟨c,.tail _ f,g⟩
   ·refine .inr ⟨λ c j=>?_,g⟩;rcases List.mem_cons.mp j with rfl|y
    ·exact z
    ·exact f c y
noncomputable def endD:Option Int->PyData
 | none=>.none
 | some i=>.int i
noncomputable def entD (t:Ent):PyData:=.tuple [.int t.b,endD t.e]
theorem end_pd {K:d0} {H:Hp} :∀o:Option Int,IsPd K H (endD o) (endO o)
 | none=>rfl
 | some _=>rfl
theorem ent_pd {K:d0} {H:Hp} {t:Ent} {v:V} (h:EntV K H t v):IsPd K H (entD t) v:=h.elim λ p z=>⟨p,_,z.1,z.2,⟨_,_,rfl,rfl,_,_,rfl,end_pd _,rfl⟩⟩
theorem zh4 {K:d0} {H:Hp} :∀{us:List Ent} {ps:List V},All2 (EntV K H) us ps->IsPds K H (us.map entD) ps
 | _,_,.nil=>rfl
 | _,_,.cons a r=>⟨_,_,rfl,ent_pd a,zh4 r⟩
theorem z0r (t:Ent):plainP (entD t)=true:=by unfold entD;cases t.e<;>rfl
theorem z5q :∀us:List Ent,z1k (us.map entD)=true
 | []=>rfl
 | t :: us=>by show (plainP (entD t) && z1k (us.map entD))=true;rw [z0r,z5q us];rfl
theorem zbd (t:Ent):(entD t).depth<=60:=by unfold entD;cases t.e<;>exact (show (1:Nat)<=60 by decide)
theorem entD_b {t t':Ent} (h:entD t=entD t'):t.b=t'.b:=by unfold entD at h;injection h with h;injection h with h _;injection h with h
theorem zgq (us:List Ent) (d:PyData) (hd:plainP d=true):((us.map entD).any λ e=>e.eqv d)=true↔∃t∈us,entD t=d:=by
 rw [c7];constructor
 ·rintro ⟨e,he,z⟩;obtain ⟨t,a,rfl⟩:=List.mem_map.mp he;exact ⟨t,a,(z6s _ _ (z0r t) hd).mp z⟩
 ·rintro ⟨t,a,rfl⟩;exact ⟨_,List.mem_map.mpr ⟨t,a,rfl⟩,(z6s _ _ (z0r t) (z0r t)).mpr rfl⟩
structure Seen (K:d0) (H:Hp) (l d:Addr) (wr:Int) (es:List Ev) (rs:List Rc) (zs:List V) (kvs:List (Key×V)):Prop where
 S:Sq1 wr es rs
 nd:((rs.filter isW).map (λ r=>intV r.x)).Nodup
 n0:(0:Int)∉(rs.filter isW).map (λ r=>intV r.x)
 t:ToldAt K H l wr rs zs
 w:WrAt K H d kvs (ents rs)
theorem Seen.same {K:d0} {H H':Hp} {l d:Addr} {wr:Int} {es:List Ev} {rs:List Rc} {zs:List V} {kvs:List (Key×V)} (s:Same H H') (h:Seen K H l d wr es rs zs kvs):Seen K H' l d wr es rs zs kvs:=⟨h.S,h.nd,h.n0,h.t.same s,h.w.same s⟩
theorem z6u {rs:List Rc} {rb:Nat} :∃t∈ents rs,ahdB rb t=true:=⟨ent0,.head _,ahd0⟩
theorem zgk {K:d0} {H:Hp} {l:Addr} {wr:Int} {rs:List Rc} {zs:List V} (ta:ToldAt K H l wr rs zs) {k:Nat} {ws:List V} {y:V} (al:All2 (NumAt H zs) ((V0 rs.length).filter λ i=>isRE (rs[i]?.getD r00)) ws) (hy:ws[k]? = some y) :
  ∃i p pz r e,((V0 rs.length).filter λ i=>isRE (rs[i]?.getD r00))[k]? = some i/\y=.ref p/\H p=some (.tup [.int (i:Nat),.ref pz])/\rs[i]? = some r/\SqT K H pz [.int r.h,r.n,r.v,r.x,r.a,.int r.b,endV r.e]/\r.v=.str "read"/\r.e=some e/\r.a=.int (intV r.a):=by
 obtain ⟨i,m,p,z,rfl,q,s⟩:=z0a al hy;obtain ⟨r,d,pz,rfl,sz⟩:=z0a ta.a s;have j:=(List.mem_filter.mp (o0 m)).2;rw [getD_some d] at j;obtain ⟨c,o⟩:=Bool.and_eq_true_iff.mp j;have c:=of_decide_eq_true c;obtain ⟨e,f⟩:=Option.isSome_iff_exists.mp o;have g:RdG r:=(ta.g r (o0 d)).resolve_right λ g=>z0y (c.symm.trans g.1);exact ⟨i,p,pz,r,e,m,rfl,q,d,sz,c,f,g.2.2 e f⟩
theorem re_all {rs:List Rc} {r:Rc} {e:Nat} (hr:r∈rs) (rv:r.v=.str "read") (re:r.e=some e) :∃m i:Nat,((V0 rs.length).filter λ i=>isRE (rs[i]?.getD r00))[m]? = some i/\rs[i]? = some r:=by
 obtain ⟨i,a⟩:=List.mem_iff_getElem?.mp hr;have:i∈(V0 rs.length).filter λ i=>isRE (rs[i]?.getD r00):=by refine List.mem_filter.mpr ⟨List.mem_range.mpr (List.getElem?_eq_some_iff.mp a).1,?_⟩;rw [getD_some a];unfold isRE;rw [re,decide_eq_true rv];rfl
 obtain ⟨m,b⟩:=List.mem_iff_getElem?.mp this;exact ⟨m,i,b,a⟩
def z24 (K:d0):Sp:=λ vs H Q _=>∃t nm wr es ys,vs=[.ref t]/\TalR K H t nm wr es ys/\∀b H',Same H H'->(b=true↔AllR RegR (dAll 0 [] es))->Q (.bl b) H'
theorem z8p (T:TX (kx w) mg) (c0:Ca P w mg base "lone_writer_deeds" ["tale"] 5 (z0i (kx w))) (c1:Ca P w mg base "writers" ["told"] 1 (z5f (kx w))) (c2:Ca P w mg base "ended_reads" ["told"] 1 (z16 (kx w))) (c3:Ca P w mg base "writes_beside" ["written","read"] 1 (z19 (kx w))) (c4:Ca P w mg base "last_ahead" ["written","read"] 1 (z2a (kx w))):Fo P w mg base CX0 6 251 y0r ["tale"] (z24 (kx w)):=by
 refine (z3a w.params).ok sc_is_regular (λ vs H Q E h=>?_) (λ c7 A c8 s H vs Q E v h=>?_)
 ·obtain ⟨t,nm,J,U,ys,rfl,_⟩:=h;rfl
 ·obtain ⟨t,nm,J,U,ys,rfl,ta,q⟩:=h;refine ⟨_,(z01 (ps_set (i:=1) sc_is_regular.nd rfl (P0 rfl) (pe_cal c0 (v.mono (by decide)) rfl (z00 (pv 0) pa_nil)))
   (z01 (ps_set (i:=2) sc_is_regular.nd rfl (P0 rfl) (pe_cal c1 (v.mono (by decide)) rfl (z00 (pv 1) pa_nil)))
   (z01 (ps_for Q1 rfl (z0v (pe_cal c2 (v.mono (by decide)) rfl (z00 (pv 1) pa_nil))) (pg_tup rfl (z08 (z0d (i:=3) sc_is_regular.nd rfl (P0 rfl)) (z08 (z0d (i:=4) sc_is_regular.nd rfl (P0 rfl)) z0p)))
   (z03 (ps_if (z07 (zga v) (zds (hu_of v) (pv 2) (pe_ix ix_seq (pv 4) pe_int (λ _ _=>rfl)) ⟨rfl,rfl,rfl,rfl⟩) (pe_op opAdd (pe_cal c3 (v.mono (by decide)) rfl (z00 (pv 2) (z00 (pv 4) pa_nil))) (pe_lst (z00 (pe_cal c4 (v.mono (by decide)) rfl (z00 (pv 2) (z00 (pv 4) pa_nil))) pa_nil))) (by with_unfolding_all rfl))
   (z03 (ps_ret pe_bl))
   z0c)))
   (z03 (ps_ret pe_bl))))),?_⟩
  obtain ⟨os,us,D⟩:=ta.tw;have S:=D.sq;have B:=D.rs.u ▸ D.us.1;have G:=D.rs.u ▸ D.us.2;refine z0g ?_;refine ⟨_,rfl,t,nm,J,U,ys,rfl,ta,λ l W H1 s1 O=>?_⟩;refine g_name ?_;generalize dAll 0 [] U=rs at O q S B G;have c6:=O.n;refine z0g ?_;refine ⟨_,rfl,l,W,rs,J,rfl,O,B,G,λ d Z H2 s2 ed al=>?_⟩;refine g_name ?_;have se:Seen (kx w) H2 l d J U rs W Z:=⟨S,B,G,O.same s2,ed,al,F0 (za7 rs) (by lia)⟩
  refine ⟨_,rfl,l,W,rs,J,rfl,se.t,λ a ws H3 s3 ea aw=>⟨a,rfl,⟨_,SqL.of ea⟩,?_⟩⟩;have a9:=(s1.trans s2).trans s3;have a2:=se.same s3;have lw:ws.length=((V0 rs.length).filter λ i=>isRE (rs[i]?.getD r00)).length:=z05 aw;refine z1o (K:=KX w.params) (a:=a) (xs:=ws) (λ k σ o=>Same H3 o/\(∀(m i:Nat) r e,m < k->((V0 rs.length).filter λ i=>isRE (rs[i]?.getD r00))[m]? = some i->rs[i]? = some r->r.e=some e->RegR rs r e)/\∃x3 x4,σ=[some (.ref t),some (.ref l),some (.ref d),x3,x4]) ⟨Same.refl _,λ m i r e h=>absurd h (T2 _),_,_,rfl⟩ (λ _ σ o _ h=>SqL.of (h.1 _ _ ea)) ?_ ?_
  ·rintro k y σ H4 hy ⟨s4,al4,x3,x4,rfl⟩;obtain ⟨i,p,pz,r,e,hi,rfl,ep,a7,sz,rv,re,ra⟩:=zgk a2.t aw hy;have Y:=o0 a7;have X:=s4.seqT sz;have x:=a2.same s4;refine ⟨p,_,rfl,SqT.of (s4 _ _ ep),rfl,_,_,rfl,_,_,rfl,rfl,?_⟩;have b5:RegR rs r e->∀(m i:Nat) r e,m < k + 1->((V0 rs.length).filter λ i=>isRE (rs[i]?.getD r00))[m]? = some i->rs[i]? = some r->r.e=some e->RegR rs r e:=λ ok m i' r' e' hm c g h3=>by
    rcases R3 m k with z|z
    ·exact al4 m i' r' e' z c g h3
    ·have:m=k:=by lia
     subst this;rw [hi] at c;cases c;rw [a7] at g;cases g;rw [re] at h3;cases h3;exact ok
   have a1:¬ RegR rs r e->∀o,Same H4 o->Q (.bl false) o:=λ n o s'=>q false o (a9.trans (s4.trans s')) ⟨(λ z=>by cases z),λ z=>absurd (z r Y e rv re) n⟩;have dg:=DGet.k (k:=.inl (intV r.a)) x.w.d;refine ⟨_,rfl,d,rfl,.inl ⟨_,.inl x.w.d⟩,_,rfl,.inr (.inl ⟨pz,_,4,.int (intV r.a),rfl,rfl,X,by rw [ra];exact z04 (j:=4) rfl,_,dg,?_⟩)⟩;refine ⟨_,rfl,_,rfl,d,Z,ents rs,_,r,e,rfl,x.w,⟨pz,rfl,X⟩,re,λ lb I H5 s5 b3 a3=>?_⟩;refine ⟨_,rfl,_,rfl,d,Z,ents rs,_,r,rfl,x.w.same s5,⟨pz,rfl,s5.seqT X⟩,z6u,λ C R H6 s6 b7 a4 b6 b4=>⟨w_1,λ l7 b9=>?_⟩⟩;obtain ⟨H7,v_,s7,e7⟩:=newA (.lst [V.ref C]) b9;rw [<-v_];have b0:=s6.trans s7;have lp:I.length<=64:=by rw [z05 a3];exact F0 (U1 _ _) x.w.n
   refine .inr (.inr (.inl ⟨lb,l7,I,[V.ref C],rfl,rfl,b0 _ _ b3,e7,F0 (m:=65) (by show I.length + 1<=65;lia) (by decide),λ l8 b1=>?_⟩));obtain ⟨H8,v_,s8,e8⟩:=newA (.lst (I++[V.ref C])) b1;rw [<-v_];have a8:=b0.trans s8;have M:=s5.trans a8;have c5:All2 (EntV (kx w) H8) ((ents rs).filter (besB r.b e)++[R]) (I++[V.ref C]):=z0m (z02 (λ _ _ z=>EntV.tups (λ _ _ y=>a8.seqT y) z) a3) ⟨C,rfl,(s7.trans s8).seqT b7⟩;have a6:IsPd (kx w) H8 (.list (((ents rs).filter (besB r.b e)++[R]).map entD)) (.ref l8):=⟨l8,_,rfl,SqL.of e8,zh4 c5⟩
   rcases zea x.w.a (intV r.a) with ⟨f,F,b8,p1,a0,b2⟩|⟨hno,a0⟩
   ·rw [a0];have a5:(((((ents rs).filter (besB r.b e)++[R]).map entD).any λ z=>z.eqv (entD f))=true)↔RegR rs r e:=by
     rw [zgq _ _ (z0r f)];have e1:=zh5 B G (rb:=r.b) (re:=e) F;have e2:=S.last_iff B G (rb:=r.b) F a4 b6 b4;rw [b8] at e1 e2;unfold RegR;rw [<-e1,<-e2];constructor
     ·rintro ⟨N,ht',L⟩;rcases List.mem_append.mp ht' with z|z
      ·obtain ⟨z1,z2⟩:=List.mem_filter.mp z;have:N=f:=S.ents_b z1 F (entD_b L);exact .inl (this ▸ z2)
      ·rw [List.mem_singleton.mp z] at L;exact .inr (S.ents_b a4 F (entD_b L)).symm
     ·rintro (z|z)
      ·exact ⟨f,List.mem_append.mpr (.inl (List.mem_filter.mpr ⟨F,z⟩)),rfl⟩
      ·exact ⟨f,List.mem_append.mpr (.inr (by rw [z];exact List.mem_singleton.mpr rfl)),rfl⟩
    refine ⟨entD f,_,ent_pd ⟨p1,rfl,M.seqT b2⟩,.inl a6,z0r f,z5q _,zbd f,_,rfl,?_⟩;by_cases z:RegR rs r e
    ·refine iteN (by rw [if_pos rfl,a5.mpr z];decide) ⟨s4.trans M,b5 z,_,_,rfl⟩
    ·refine iteP (by rw [if_pos rfl,Bool.eq_false_iff.mpr (λ y=>z (a5.mp y))];decide) (a1 z _ M)
   ·rw [a0];have nr:¬ RegR rs r e:=by
     rintro (⟨w0,hw0,hi0,hx0,_⟩|z)
     ·exact hno _ (ents_mem.mpr (.inr ⟨w0,hw0,hi0,rfl⟩)) hx0
     ·obtain ⟨N,c,g⟩:=zgw z;exact hno N c g
    have an:((((ents rs).filter (besB r.b e)++[R]).map entD).any λ z=>z.eqv .none)=false:=Bool.eq_false_iff.mpr λ y=>by obtain ⟨N,_,L⟩:=(zgq _ _ rfl).mp y;cases L
    refine ⟨.none,_,rfl,.inl a6,rfl,z5q _,B2 _,_,rfl,iteP (by rw [if_pos rfl,an];decide) (a1 nr _ M)⟩
  ·rintro σ H4 ⟨s4,al4,x3,x4,rfl⟩;refine q true H4 (a9.trans s4) ⟨λ _=>λ r Y e rv re=>?_,λ _=>rfl⟩;obtain ⟨m,i,c,g⟩:=re_all Y rv re;exact al4 m i r e (by rw [lw];exact (List.getElem?_eq_some_iff.mp c).1) c g re
def z8m (K:d0):Sp:=λ vs H Q _=>∃t nm wr es ys,vs=[.ref t]/\TalR K H t nm wr es ys/\∀b H',Same H H'->(b=true↔AllR SafR (dAll 0 [] es))->Q (.bl b) H'
theorem zdm (T:TX (kx w) mg) (c0:Ca P w mg base "lone_writer_deeds" ["tale"] 5 (z0i (kx w))) (c1:Ca P w mg base "writers" ["told"] 1 (z5f (kx w))) (c2:Ca P w mg base "ended_reads" ["told"] 1 (z16 (kx w))) (c3:Ca P w mg base "writes_beside" ["written","read"] 1 (z19 (kx w))) (c4:Ca P w mg base "last_ahead" ["written","read"] 1 (z2a (kx w))):Fo P w mg base CX0 6 258 y1q ["tale"] (z8m (kx w)):=by
 refine (z84 w.params).ok sc_is_safe (λ vs H Q E h=>?_) (λ c9 A d0 s H vs Q E B h=>?_)
 ·obtain ⟨t,nm,L,Y,ys,rfl,_⟩:=h;rfl
 ·obtain ⟨t,nm,L,Y,ys,rfl,ta,q⟩:=h;refine ⟨_,(z01 (ps_set (i:=1) sc_is_safe.nd rfl (P0 rfl) (pe_cal c0 (B.mono (by decide)) rfl (z00 (pv 0) pa_nil)))
   (z01 (ps_set (i:=2) sc_is_safe.nd rfl (P0 rfl) (pe_cal c1 (B.mono (by decide)) rfl (z00 (pv 1) pa_nil)))
   (z01 (ps_for Q1 rfl (z0v (pe_cal c2 (B.mono (by decide)) rfl (z00 (pv 1) pa_nil))) (pg_tup rfl (z08 (z0d (i:=3) sc_is_safe.nd rfl (P0 rfl)) (z08 (z0d (i:=4) sc_is_safe.nd rfl (P0 rfl)) z0p)))
   (z03 (ps_if (PW.pt (pw_and (z07 opEq (z0h z3l rfl (T.no (n_len _)) U5 (z00 (pe_cal c3 (B.mono (by decide)) rfl (z00 (pv 2) (z00 (pv 4) pa_nil))) pa_nil)) pe_int (nomark _)) (z2w (z07 (op_neP B) (zds (hu_of B) (pv 2) (pe_ix ix_seq (pv 4) pe_int (λ _ _=>rfl)) ⟨rfl,rfl,rfl,rfl⟩) (pe_cal c4 (B.mono (by decide)) rfl (z00 (pv 2) (z00 (pv 4) pa_nil))) (nomark _)))))
   (z03 (ps_ret pe_bl))
   z0c)))
   (z03 (ps_ret pe_bl))))),?_⟩
  obtain ⟨os,us,F⟩:=ta.tw;have S:=F.sq;have D:=F.rs.u ▸ F.us.1;have G:=F.rs.u ▸ F.us.2;refine z0g ?_;refine ⟨_,rfl,t,nm,L,Y,ys,rfl,ta,λ l Z H1 s1 U=>?_⟩;refine g_name ?_;generalize dAll 0 [] Y=rs at U q S D G;have c8:=U.n;refine z0g ?_;refine ⟨_,rfl,l,Z,rs,L,rfl,U,D,G,λ d V H2 s2 ed al=>?_⟩;refine g_name ?_;have se:Seen (kx w) H2 l d L Y rs Z V:=⟨S,D,G,U.same s2,ed,al,F0 (za7 rs) (by lia)⟩
  refine ⟨_,rfl,l,Z,rs,L,rfl,se.t,λ a ws H3 s3 ea aw=>⟨a,rfl,⟨_,SqL.of ea⟩,?_⟩⟩;have b5:=(s1.trans s2).trans s3;have a9:=se.same s3;have lw:ws.length=((V0 rs.length).filter λ i=>isRE (rs[i]?.getD r00)).length:=z05 aw;refine z1o (K:=KX w.params) (a:=a) (xs:=ws) (λ k σ o=>Same H3 o/\(∀(m i:Nat) r e,m < k->((V0 rs.length).filter λ i=>isRE (rs[i]?.getD r00))[m]? = some i->rs[i]? = some r->r.e=some e->SafR rs r e)/\∃x3 x4,σ=[some (.ref t),some (.ref l),some (.ref d),x3,x4]) ⟨Same.refl _,λ m i r e h=>absurd h (T2 _),_,_,rfl⟩ (λ _ σ o _ h=>SqL.of (h.1 _ _ ea)) ?_ ?_
  ·rintro k y σ X hy ⟨s4,al4,x3,x4,rfl⟩;obtain ⟨i,p,pz,r,e,hi,rfl,ep,b4,sz,rv,C,ra⟩:=zgk a9.t aw hy;have a4:=o0 b4;have a0:=s4.seqT sz;have I:=a9.same s4;refine ⟨p,_,rfl,SqT.of (s4 _ _ ep),rfl,_,_,rfl,_,_,rfl,rfl,?_⟩;have b2:SafR rs r e->∀(m i:Nat) r e,m < k + 1->((V0 rs.length).filter λ i=>isRE (rs[i]?.getD r00))[m]? = some i->rs[i]? = some r->r.e=some e->SafR rs r e:=λ ok m i' r' e' hm c g O=>by
    rcases R3 m k with z|z
    ·exact al4 m i' r' e' z c g O
    ·have:m=k:=by lia
     subst this;rw [hi] at c;cases c;rw [b4] at g;cases g;rw [C] at O;cases O;exact ok
   have a6:¬ SafR rs r e->∀o,Same X o->Q (.bl false) o:=λ n o s'=>q false o (b5.trans (s4.trans s')) ⟨(λ z=>by cases z),λ z=>absurd (z r a4 e rv C) n⟩;have dg :∀{o:Hp},Same X o->DGet o d (.int (intV r.a)) (valV V (.inl (intV r.a))):=λ s'=>DGet.k (k:=.inl (intV r.a)) (s' _ _ I.w.d);refine ⟨_,rfl,_,rfl,d,V,ents rs,_,r,e,rfl,I.w,⟨pz,rfl,a0⟩,C,λ lb ps H5 x b8 b7=>.inl ⟨lb,ps,rfl,.inl (SqL.of b8),rfl,_,rfl,?_⟩⟩;have lp:ps.length=((ents rs).filter (besB r.b e)).length:=z05 b7;by_cases hz:ps.length=0;rotate_left
   ·refine iteN (λ y=>hz (by have:=of_decide_eq_true y;injection this with this;lia)) (iteN (by decide) ⟨s4.trans x,b2 (.inl ?_),_,_,rfl⟩);rw [lp] at hz;obtain ⟨t',c5⟩:=List.exists_mem_of_length_pos (Nat.pos_of_ne_zero hz);obtain ⟨c,g⟩:=List.mem_filter.mp c5;obtain ⟨f,M,R,_,N⟩:=(zh5 D G c).mp g;exact ⟨f,M,R,N⟩
   refine iteP (decide_eq_true (by rw [hz];rfl)) ?_;have a8 :∀f∈rs,isW f=true->¬ (f.b < e/\∀k,f.e=some k->r.b < k):=λ f c g O=>by
    have hm:entW f∈(ents rs).filter (besB r.b e):=List.mem_filter.mpr ⟨ents_mem.mpr (.inr ⟨f,c,g,rfl⟩),besW.mpr O⟩;have:=A7 hm
    lia
   refine ⟨_,rfl,d,rfl,.inl ⟨_,.inl (x _ _ I.w.d)⟩,_,rfl,.inr (.inl ⟨pz,_,4,.int (intV r.a),rfl,rfl,x.seqT a0,by rw [ra];exact z04 (j:=4) rfl,_,dg x,?_⟩)⟩;refine ⟨_,rfl,_,rfl,d,V,ents rs,_,r,rfl,I.w.same x,⟨pz,rfl,x.seqT a0⟩,z6u,λ pl v H6 s6 b3 b0 c6 b9=>?_⟩;have W:=x.trans s6;rcases zea I.w.a (intV r.a) with ⟨J,a7,c7,p1,a5,b6⟩|⟨hno,a5⟩
   ·rw [a5];have b1:(entD J).eqv (entD v)=true↔SafR rs r e:=by
     rw [z6s _ _ (z0r J) (z0r v)];have e2:=S.last_iff D G (rb:=r.b) a7 b0 c6 b9;rw [c7] at e2;constructor
     ·intro z;exact .inr (e2.mp (S.ents_b a7 b0 (entD_b z)))
     ·rintro (⟨f,M,R,N⟩|z)
      ·exact absurd N (a8 f M R)
      ·rw [e2.mpr z]
    refine ⟨entD J,entD v,ent_pd ⟨p1,rfl,W.seqT b6⟩,ent_pd ⟨pl,rfl,b3⟩,z0r J,z0r v,zbd J,_,rfl,?_⟩;by_cases z:SafR rs r e
    ·refine iteN (by rw [b1.mpr z];decide) ⟨s4.trans W,b2 z,_,_,rfl⟩
    ·refine iteP (by rw [Bool.eq_false_iff.mpr (λ y=>z (b1.mp y))];decide) (a6 z _ W)
   ·rw [a5];have nr:¬ SafR rs r e:=by
     rintro (⟨f,M,R,N⟩|z)
     ·exact a8 f M R N
     ·obtain ⟨t',c,g⟩:=zgw z;exact hno t' c g
    have an:PyData.eqv .none (entD v)=false:=Bool.eq_false_iff.mpr λ y=>by have:=(z6s _ _ rfl (z0r v)).mp y;cases this
    refine ⟨.none,entD v,rfl,ent_pd ⟨pl,rfl,b3⟩,rfl,z0r v,B2 _,_,rfl,iteP (by rw [an];decide) (a6 nr _ W)⟩
  ·rintro σ X ⟨s4,al4,x3,x4,rfl⟩;refine q true X (b5.trans s4) ⟨λ _=>λ r a4 e rv C=>?_,λ _=>rfl⟩;obtain ⟨m,i,c,g⟩:=re_all a4 rv C;exact al4 m i r e (by rw [lw];exact (List.getElem?_eq_some_iff.mp c).1) c g C
def WK (K:d0) (H:Hp) (kvs:List (Key×V)) (f:Int->Option Int):Prop:=∀x,(f x=none->valV kvs (.inl x)=none)/\∀s,f x=some s->∃(p:Addr) (b:Int) (e:V),valV kvs (.inl x)=some (.ref p)/\SqT K H p [.int b,e]/\((s=-1/\b=-2)\/(0<=s/\b=s))
theorem WK.tups {K:d0} {H H':Hp} {kvs:List (Key×V)} {f:Int->Option Int} (t:Tups K H H') (h:WK K H kvs f):WK K H' kvs f:=λ x=>⟨(h x).1,λ s e=>by obtain ⟨p,b,e,c,d,a⟩:=(h x).2 s e;exact ⟨p,b,e,c,t _ _ d,a⟩⟩
def z6t (K:d0):Sp:=λ vs H Q _=>∃l zs rs wr,vs=[.ref l]/\ToldAt K H l wr rs zs/\∀d kvs H',Same H H'->H' d=some (.dK kvs)->WK K H' kvs (sinceF rs)->Q (.ref d) H'
theorem zcj (T:TX (kx w) mg):Fo P w mg base CX0 1 234 y0z ["told"] (z6t (kx w)):=by
 refine (z3p w.params).ok sc_writers (λ U H Q E h=>?_) (λ a1 A a2 s H U Q E R h=>?_)
 ·obtain ⟨l,B,rs,X,rfl,_⟩:=h;rfl
 ·obtain ⟨l,B,rs,X,rfl,c,q⟩:=h;refine ⟨_,(z01 (ps_set (i:=1) sc_writers.nd rfl (P0 rfl) (zej (za4 pe_int (z3x (v:=.ref 210) rfl (T.of (z4x _)) rfl) zd2) rfl rfl (by simp) (by decide)))
   (z01 (ps_for Q1 rfl (z0v (pv 0)) (z0d (i:=2) sc_writers.nd rfl (P0 rfl))
   (z03 (ps_if (z07 opEq (pe_ix ix_seq (pv 2) pe_int (λ _ _=>rfl)) pe_str (nomark _))
   (z03 (z4u (hu_of R) (pv 1) (pe_ix ix_seq (pv 2) pe_int (λ _ _=>rfl)) (z32 slSeq (pv 2) (z4q pe_int) z6r) rfl))
   z0c)))
   (z03 (ps_ret (pv 1))))),?_⟩
  have W:B.length=rs.length:=z05 c.a;have a0:=c.n;intro d C;refine ⟨upd_same,[(.inl 0,.ref 210)],rfl,(show (1:Nat)<=15 by decide),?_⟩;have D:Same H (upd (upd H d (.dK [])) d (.dK (mergeK [] [(.inl 0,.ref 210)]))):=Same.keep (Same.upd C) C;have L:upd (upd H d (.dK [])) d (.dK (mergeK [] [(.inl 0,.ref 210)])) d=some (.dK [(.inl 0,.ref 210)]):=upd_same;generalize upd (upd H d (.dK [])) d (.dK (mergeK [] [(.inl 0,.ref 210)]))=H1 at D L⊢;refine ⟨_,rfl,l,rfl,⟨_,SqL.of (D _ _ c.l)⟩,?_⟩;refine z1o (K:=KX w.params) (a:=l) (xs:=B) (λ i σ o=>Same H o/\(∃kvs,o d=some (.dK kvs)/\kvs.length<=i + 1/\WK (kx w) o kvs (sinceF (rs.take i)))/\∃x2,σ=[some (.ref l),some (.ref d),x2])
   ⟨D,⟨_,L,B0 _,λ x=>?_⟩,_,rfl⟩ (λ _ σ o _ h=>SqL.of (h.1 _ _ c.l)) ?_ ?_
  ·rw [u9,zd4];by_cases z:x=0
   ·rw [if_pos z,z];refine ⟨λ e=>(by cases e),λ s e=>?_⟩;cases e;exact ⟨210,-2,.int (-1),z0s rfl,zen,.inl ⟨rfl,rfl⟩⟩
   ·rw [if_neg z];refine ⟨λ _=>?_,λ s e=>(by cases e)⟩;rw [z0t (λ e=>z (D3 e).symm)];rfl
  ·rintro i y σ I O ⟨s2,⟨kvs,ed,lk,wk⟩,x2,rfl⟩;obtain ⟨r,f,p,rfl,N⟩:=z0a c.a O;have hi:i < 63:=by have:=(List.getElem?_eq_some_iff.mp f).1;lia
   have t:=s2.seqT N;refine g_name ?_;rcases c.g r (o0 f) with g|g
   ·refine ⟨_,rfl,.inr (.inl ⟨p,_,2,.str "read",rfl,rfl,t,by rw [g.1];exact z04 (j:=2) rfl,rfl,_,rfl,iteK ?_⟩)⟩;refine ⟨s2,⟨kvs,ed,by lia,λ x=>?_⟩,_,rfl⟩;rw [z54 f,z6h,if_neg (λ z=>by rw [g.w] at z;cases z.1)];exact wk x
   ·refine ⟨_,rfl,.inr (.inl ⟨p,_,2,.str "write",rfl,rfl,t,by rw [g.1];exact z04 (j:=2) rfl,rfl,_,rfl,iteP (by decide +kernel) ?_⟩)⟩;refine ⟨_,rfl,5,rfl,.inr (.inl ⟨p,_,rfl,t,λ z=>absurd z.1 (show ¬ HT.sIx 7 0 (some 5)=0 by decide),λ F S=>?_⟩)⟩;have Z:cutV [.int r.h,r.n,r.v,r.x,r.a,.int r.b,endV r.e] (some 5) none=[.int r.b,endV r.e]:=rfl;rw [Z];obtain ⟨G,Y,u,V⟩:=newA (.tup [.int r.b,endV r.e]) S;rw [<-Y];have J:=u _ _ ed;refine ⟨_,rfl,_,rfl,.inr (.inl ⟨p,_,3,.int (intV r.x),rfl,rfl,u.seqT t,by rw [<-g.2.2.1];exact z04 (j:=3) rfl,d,_,rfl,DPut.k (k:=.inl (intV r.x)) J (Q0 (m:=100) (by lia) (by decide)),?_⟩)⟩;have M:Tups (kx w) G (upd G d (.dK (putK kvs (.inl (intV r.x)) (.ref F)))):=Tups.dict J;refine ⟨Same.keep (s2.trans u) C,⟨_,upd_same,F0 z7w (by lia),λ x=>?_⟩,_,rfl⟩;rw [z54 f,z6h,z85];by_cases z:x=intV r.x
    ·rw [if_pos ⟨g.w,z⟩,if_pos (by rw [z])];refine ⟨λ e=>(by cases e),λ s e=>?_⟩;cases e;exact ⟨F,r.b,endV r.e,rfl,M _ _ (SqT.of V),.inr ⟨Int.natCast_nonneg _,rfl⟩⟩
    ·rw [if_neg (λ e=>z e.2),if_neg (λ e=>z (D3 e))];exact WK.tups ((Tups.of u).trans M) wk x
  ·rintro σ I ⟨s2,⟨kvs,ed,lk,wk⟩,x2,rfl⟩;rw [W,i4] at wk;exact ⟨_,rfl,q d kvs I s2 ed wk⟩
noncomputable def selI (rs:List Rc) (i:Nat):Bool:=(sinceF rs (intV (rs[i]?.getD r00).a)).isSome
noncomputable def readsI (rs:List Rc):List Nat:=(((V0 rs.length).filter λ i=>isRE (rs[i]?.getD r00)).filter (selI rs))
theorem readsI_mem {rs:List Rc} {i:Nat}:i∈readsI rs↔∃r e s,rs[i]? = some r/\r.v=.str "read"/\r.e=some e/\sinceF rs (intV r.a)=some s:=by
 unfold readsI;rw [M7,M7,x9];constructor
 ·rintro ⟨⟨h1,h2⟩,h3⟩;have c:rs[i]? = some rs[i]:=N0 h1;unfold selI at h3;rw [getD_some c] at h2 h3;obtain ⟨a,b⟩:=Bool.and_eq_true_iff.mp h2;obtain ⟨e,d⟩:=Option.isSome_iff_exists.mp b;obtain ⟨s,f⟩:=Option.isSome_iff_exists.mp h3;exact ⟨_,e,s,c,of_decide_eq_true a,d,f⟩
 ·rintro ⟨r,e,s,h1,h2,h3,h4⟩;refine ⟨⟨(List.getElem?_eq_some_iff.mp h1).1,?_⟩,?_⟩
  ·rw [getD_some h1];unfold isRE;rw [h3,decide_eq_true h2];rfl
  ·unfold selI;rw [getD_some h1,h4];rfl
theorem z4y (rs:List Rc):(readsI rs).Pairwise (· < ·):=z5 _ (z3u _ _)
theorem zbl {is:List Nat} (h:is.Pairwise (· < ·)) {a b x y:Nat} (hab:a < b) (hx:is[a]? = some x) (hy:is[b]? = some y):x < y:=by obtain ⟨c,rfl⟩:=List.getElem?_eq_some_iff.mp hx;obtain ⟨d,rfl⟩:=List.getElem?_eq_some_iff.mp hy;exact List.pairwise_iff_getElem.mp h a b c d hab
theorem Bad.reads {rs:List Rc} {i j:Nat} (h:Bad rs i j):i∈readsI rs/\j∈readsI rs:=by obtain ⟨r,q,e,f,s,t,k,a,g,b,d,c,n,m,l,_⟩:=h;exact ⟨readsI_mem.mpr ⟨r,e,s,k,g,d,m⟩,readsI_mem.mpr ⟨q,f,t,a,b,c,l⟩⟩
theorem zi1 {R:Nat->V->Prop} {is:List Nat} {q:Nat->Bool} {us:List V} (h:All2 (λ (k:Nat) y=>R (is[k]?.getD 0) y) ((V0 is.length).filter λ k=>q (is[k]?.getD 0)) us):All2 R (is.filter q) us:=by
 have c :∀(b:List Nat) (us:List V),All2 (λ (k:Nat) y=>R (is[k]?.getD 0) y) b us->All2 R (b.map λ k=>is[k]?.getD 0) us:=by
  intro b;induction b with
  | nil=>intro us h;cases h;exact .nil
  | cons k b ih=>intro us h;cases h with|cons a r=>exact .cons a (ih _ r)
 have z:=c _ _ h;have e:=z1c q (λ i=>i) 0 is;rw [e,List.map_id'] at z;exact z
def z4s (K:d0):Sp:=λ vs H Q _=>∃t nm wr es ys,vs=[.ref t]/\TalR K H t nm wr es ys/\(∀H',Same H H'->(∀i j,¬ Bad (dAll 0 [] es) i j)->Q .non H')/\∀p i j H',Same H H'->H' p=some (.tup [.int (i:Nat),.int (j:Nat)])->FstB (dAll 0 [] es) i j->Q (.ref p) H'
theorem z8h (T:TX (kx w) mg) (c0:Ca P w mg base "lone_writer_deeds" ["tale"] 5 (z0i (kx w))) (c1:Ca P w mg base "writers" ["told"] 1 (z6t (kx w))) (c2:Ca P w mg base "ended_reads" ["told"] 1 (z16 (kx w))):Fo P w mg base CX0 6 273 y0t ["tale"] (z4s (kx w)):=by
 refine (z38 w.params).ok sc_turn_about (λ vs H Q E h=>?_) (λ e0 A e2 s H vs Q E Z h=>?_)
 ·obtain ⟨t,nm,wr,es,ys,rfl,_⟩:=h;rfl
 ·obtain ⟨t,nm,wr,es,ys,rfl,ta,q0,q1⟩:=h;refine ⟨_,(z01 (ps_set (i:=1) sc_turn_about.nd rfl (P0 rfl) (pe_cal c0 (Z.mono (by decide)) rfl (z00 (pv 0) pa_nil)))
   (z01 (ps_set (i:=2) sc_turn_about.nd rfl (O0 rfl) (pe_cal c1 (Z.mono (by decide)) rfl (z00 (pv 1) pa_nil)))
   (z01 (z92 (i:=3) sc_turn_about.nd rfl (P0 rfl) (xs:=["number","read"]) (g:=gTup (kx w) 2 (gCons (gName 0) (gCons (gName 1) gNil))) (fr:=[(2,"written")]) rfl (z0v (pe_cal c2 (Z.mono (by decide)) rfl (z00 (pv 1) pa_nil))) (by intro p hp;obtain rfl:=List.mem_singleton.mp hp;first|exact ⟨rfl,.inl rfl⟩|exact ⟨rfl,.inr rfl⟩) (zep (n:="written") (by decide +kernel) (λ _=>by first|exact .inl rfl|exact .inr rfl)) (by intro p hp;obtain rfl:=List.mem_singleton.mp hp;exact ⟨by decide +kernel,by first|exact .inl rfl|exact .inr rfl⟩) (by decide +kernel) rfl (by decide +kernel) (λ _ _ _ _ _=>(pg_tup rfl (z08 (pg_cn (N:=["number","read","written"]) 0) (z08 (pg_cn (N:=["number","read","written"]) 1) z0p)))) (λ _ _ _ _ _=>(pf_one (pt_cmp (pc_din (hu_of Z) (pe_ix (z0j (K:=KX w.params) rfl) (pv 1) pe_int (λ _ _=>rfl)) (pv 2)) (by with_unfolding_all rfl)))) (λ _ _ _ _ _=>(pe_tup (z00 (pv 0) (z00 (pv 1) pa_nil)))))
   (z01 (ps_for Q1 rfl (z0v (pv 3)) (pg_tup rfl (z08 (z0d (i:=4) sc_turn_about.nd rfl (P0 rfl)) (z08 (z0d (i:=5) sc_turn_about.nd rfl (P0 rfl)) z0p)))
   (z03 (ps_for Q1 rfl (z0v (pv 3)) (pg_tup rfl (z08 (z0d (i:=6) sc_turn_about.nd rfl (P0 rfl)) (z08 (z0d (i:=7) sc_turn_about.nd rfl (P0 rfl)) z0p)))
   (z03 (ps_if (PW.pt (pw_and (z07 op_lt (pe_ix ix_seq (pv 5) pe_int (λ _ _=>rfl)) (pe_ix ix_seq (pv 7) pe_int (λ _ _=>rfl)) (nomark _)) (z2w (z07 op_lt (pe_ix ix_seq (z8b (hu_of Z) (pv 2) (pe_ix ix_seq (pv 7) pe_int (λ _ _=>rfl)) (λ _ _=>rfl)) pe_int (λ _ _=>rfl)) (pe_ix ix_seq (z8b (hu_of Z) (pv 2) (pe_ix ix_seq (pv 5) pe_int (λ _ _=>rfl)) (λ _ _=>rfl)) pe_int (λ _ _=>rfl)) (nomark _)))))
   (z03 (ps_ret (pe_tup (z00 (pv 4) (z00 (pv 6) pa_nil)))))
   z0c)))))
   (z03 (ps_ret pe_non)))))),?_⟩
  refine z0g ?_;refine ⟨_,rfl,t,nm,wr,es,ys,rfl,ta,λ l O H1 s1 L=>?_⟩;refine g_name ?_;generalize dAll 0 [] es=rs at L q0 q1;have lz:O.length=rs.length:=z05 L.a;have c6:=L.n;refine z0g ?_;refine ⟨_,rfl,l,O,rs,wr,rfl,L,λ d d1 H2 s2 ed wk=>?_⟩;refine g_name ?_;have b6:=L.same s2;refine z0g ?_;refine zdi (K:=KX w.params) (λ a U c=>Same H2 c/\c a=some (.lst U)/\All2 (NumAt c O) ((V0 rs.length).filter λ i=>isRE (rs[i]?.getD r00)) U) (λ R h=>⟨_,rfl,l,O,rs,wr,rfl,b6,λ a U c sx ea X=>h a U c ⟨sx,ea,X⟩⟩) ?_ (λ k=>selI rs (((V0 rs.length).filter λ i=>isRE (rs[i]?.getD r00))[k]?.getD 0)) (λ k y c=>NumAt c O (((V0 rs.length).filter λ i=>isRE (rs[i]?.getD r00))[k]?.getD 0) y) (λ _ _ _ _ s z=>z.same s) ?_ ?_
  ·rintro a U c ⟨_,ea,X⟩;refine ⟨SqL.of ea,?_⟩;rw [z05 X];refine F0 (U1 _ _) ?_;rw [W2];exact F0 c6 (by decide)
  ·rintro a U H3 ⟨s3,ea,X⟩ k hk v H4 s4 hv KT KF G F;obtain ⟨i,I,p,z,rfl,ep,hz⟩:=z0a X hv;have gi:((V0 rs.length).filter λ i=>isRE (rs[i]?.getD r00))[k]?.getD 0=i:=by rw [I];rfl
   rw [gi] at G F;obtain ⟨r,C,D,rfl,sz⟩:=z0a b6.a hz;have b4:=(List.mem_filter.mp (o0 I)).2;rw [getD_some C] at b4;obtain ⟨rv,re⟩:=Bool.and_eq_true_iff.mp b4;have rv:=of_decide_eq_true rv;obtain ⟨e,he⟩:=Option.isSome_iff_exists.mp re;have g:RdG r:=(L.g r (o0 C)).resolve_right λ g=>z0y (rv.symm.trans g.1);have b0:=s3.trans s4;have ez:=b0.seqT sz;have b9:selI rs i=(sinceF rs (intV r.a)).isSome:=by unfold selI;rw [getD_some C]
   refine ⟨p,_,rfl,SqT.of (s4 _ _ ep),rfl,_,_,rfl,_,_,rfl,rfl,[some (.int (i:Nat)),some (.ref D)],rfl,rfl,?_⟩;have ra:=g.2.2 e he;refine ⟨_,rfl,.inr (.inl ⟨D,_,4,.int (intV r.a),rfl,rfl,ez,by rw [ra];exact z04 (j:=4) rfl,_,rfl,d,_,rfl,DGet.k (k:=.inl (intV r.a)) (b0 _ _ ed),_,rfl,?_⟩)⟩;have a8:=wk (intV r.a);cases hs:sinceF rs (intV r.a) with
   | none=>refine iteN (by rw [a8.1 hs];decide) (F ?_ _ (Same.refl _));rw [b9,hs];rfl
   | some B=>obtain ⟨_,_,_,d8,_⟩:=a8.2 B hs;refine iteP (by rw [d8];rfl) ?_;exact ⟨_,rfl,_,rfl,w_2,λ p2 c7=>G (by rw [b9,hs];rfl) _ _ (Same.upd c7) ⟨p2,_,rfl,upd_same,hz⟩⟩
  rintro a U H3 ⟨s3,ea,X⟩ l4 H4 us s4 hl4 al4;rw [z05 X] at al4;have d2:All2 (NumAt H4 O) (readsI rs) us:=zi1 (R:=λ i y=>NumAt H4 O i y) al4;have s5:=Same.upd (o:=.lst us) hl4;have e5:upd H4 l4 (.lst us) l4=some (.lst us):=upd_same;have a5:=z02 (λ _ _ z=>NumAt.same s5 z) d2;have a0:=(s3.trans s4).trans s5;generalize upd H4 l4 (.lst us)=H5 at s5 e5 a5 a0⊢;refine g_name ?_;have b7:=s2.trans a0;have b1:=s1.trans b7;have c8:=L.same b7;have d4:=wk.tups (.of a0);have b8:=a0 _ _ ed;have lu:us.length=(readsI rs).length:=z05 a5;have b5 :∀{k:Nat} {y:V},us[k]? = some y->∃i p D r e B W b ew,(readsI rs)[k]? = some i/\y=.ref p/\H5 p=some (.tup [.int (i:Nat),.ref D])/\rs[i]? = some r/\SqT (kx w) H5 D [.int r.h,r.n,r.v,r.x,r.a,.int r.b,endV r.e]/\r.v=.str "read"/\r.e=some e/\r.a=.int (intV r.a)/\sinceF rs (intV r.a)=some B/\valV d1 (.inl (intV r.a))=some (.ref W)/\SqT (kx w) H5 W [.int b,ew]/\((B=-1/\b=-2)\/(0<=B/\b=B)):=by intro k y hy;obtain ⟨i,I,p,z,rfl,ep,hz⟩:=z0a a5 hy;obtain ⟨r,C,D,rfl,sz⟩:=z0a c8.a hz;obtain ⟨r',e,B,J,M,g3,g4⟩:=readsI_mem.mp (o0 I);rw [C] at J;cases J;have g:RdG r:=(L.g r (o0 C)).resolve_right λ g=>z0y (M.symm.trans g.1);obtain ⟨W,b,ew,w1,w2,w3⟩:=(d4 (intV r.a)).2 B g4;exact ⟨i,p,D,r,e,B,W,b,ew,I,rfl,ep,C,sz,M,g3,g.2.2 e g3,g4,w1,w2,w3⟩
  refine ⟨_,rfl,l4,rfl,⟨_,SqL.of e5⟩,?_⟩;refine z1o (K:=KX w.params) (a:=l4) (xs:=us) (λ k σ c=>c=H5/\(∀m i,m < k->(readsI rs)[m]? = some i->∀j,¬ Bad rs i j)/\∃x4 x5 x6 x7,σ=[some (.ref t),some (.ref l),some (.ref d),some (.ref l4),x4,x5,x6,x7]) ⟨rfl,λ m i h=>absurd h (T2 _),_,_,_,_,rfl⟩ (λ _ σ c _ h=>by rw [h.1];exact SqL.of e5) ?_ ?_
  ·rintro k y σ H6 hy ⟨rfl,no,x4,x5,x6,x7,rfl⟩;obtain ⟨i,p,D,r,e,B,W,b,ew,I,rfl,ep,C,sz,rv,re,ra,b2,vw,sw,bw⟩:=b5 hy;refine ⟨p,_,rfl,SqT.of ep,rfl,_,_,rfl,_,_,rfl,rfl,?_⟩;refine ⟨_,rfl,l4,rfl,⟨_,SqL.of e5⟩,?_⟩;refine z1o (K:=KX w.params) (a:=l4) (xs:=us) (λ Y σ c=>c=H6/\(∀m j,m < Y->(readsI rs)[m]? = some j->¬ Bad rs i j)/\∃x6 x7,σ=[some (.ref t),some (.ref l),some (.ref d),some (.ref l4),some (.int (i:Nat)),some (.ref D),x6,x7]) ⟨rfl,λ m i h=>absurd h (T2 _),_,_,rfl⟩ (λ _ σ c _ h=>by rw [h.1];exact SqL.of e5) ?_ ?_
   ·rintro Y y2 σ H7 c5 ⟨rfl,no2,x6,x7,rfl⟩;obtain ⟨j,p',b3,q,f,t0,c4,b',d9,hj,rfl,c9,a4,c3,qv,qe,qa,a9,d0,d3,e1⟩:=b5 c5;have next:¬ Bad rs i j->∀m S,m < Y + 1->(readsI rs)[m]? = some S->¬ Bad rs i S:=λ nb m S hm a7=>by
     rcases R3 m Y with z|z
     ·exact no2 m S z a7
     ·have:m=Y:=by lia
      subst this;rw [hj] at a7;cases a7;exact nb
    have dg:DGet H7 d (.int (intV q.a)) (some (.ref c4)):=d0 ▸ DGet.k (k:=.inl (intV q.a)) b8;have d7:DGet H7 d (.int (intV r.a)) (some (.ref W)):=vw ▸ DGet.k (k:=.inl (intV r.a)) b8;refine ⟨p',_,rfl,SqT.of c9,rfl,_,_,rfl,_,_,rfl,rfl,?_⟩;refine ⟨_,rfl,.inr (.inl ⟨D,_,6,.int (e:Nat),rfl,rfl,sz,by rw [re];exact z04 (j:=6) rfl,?_⟩)⟩;refine ⟨_,rfl,.inr (.inl ⟨b3,_,5,.int (q.b:Nat),rfl,rfl,c3,z04 (j:=5) rfl,_,_,rfl,rfl,_,rfl,?_⟩)⟩;by_cases z1:e < q.b
    ·refine iteP (decide_eq_true (by lia)) ?_;refine ⟨_,rfl,_,rfl,.inr (.inl ⟨b3,_,4,.int (intV q.a),rfl,rfl,c3,by rw [qa];exact z04 (j:=4) rfl,d,_,rfl,dg,.inr (.inl ⟨c4,_,0,.int b',rfl,rfl,d3,z04 (j:=0) rfl,?_⟩)⟩)⟩;refine ⟨_,rfl,_,rfl,.inr (.inl ⟨D,_,4,.int (intV r.a),rfl,rfl,sz,by rw [ra];exact z04 (j:=4) rfl,d,_,rfl,d7,.inr (.inl ⟨W,_,0,.int b,rfl,rfl,sw,z04 (j:=0) rfl,_,_,rfl,rfl,_,rfl,?_⟩)⟩)⟩;by_cases z2:t0 < B
     ·refine iteP (decide_eq_true (by lia)) ?_;have u:Bad rs i j:=⟨r,q,e,f,B,t0,C,a4,rv,qv,re,qe,z1,b2,a9,z2⟩
      refine ⟨_,rfl,_,rfl,w_2,λ p9 d5=>q1 p9 i j _ (b1.trans (Same.upd d5)) upd_same ⟨u,λ i' S a3=>?_⟩⟩;obtain ⟨m1,m2⟩:=a3.reads;obtain ⟨a1,G⟩:=List.mem_iff_getElem?.mp m1;obtain ⟨a2,F⟩:=List.mem_iff_getElem?.mp m2;rcases S4 a1 k with y|y|y
      ·exact absurd a3 (no a1 i' y G S)
      ·subst y;rw [I] at G;cases G;refine .inr ⟨rfl,?_⟩;rcases S4 a2 Y with x|x|x
       ·exact absurd a3 (no2 a2 S x F)
       ·subst x;rw [hj] at F;cases F;exact B0 _
       ·exact N2 (zbl (z4y rs) x hj F)
      ·exact .inl (zbl (z4y rs) y I G)
     ·refine iteN (λ x=>z2 (by have:=of_decide_eq_true x;lia)) ?_;refine ⟨rfl,next λ u=>?_,_,_,rfl⟩;obtain ⟨r',q',e',f',s',t',J,M,_,_,_,_,_,g8,g9,d6⟩:=u;rw [C] at J;cases J;rw [a4] at M;cases M;rw [b2] at g8;cases g8;rw [a9] at g9;cases g9;exact z2 d6
    ·refine iteN (λ x=>z1 (by have:=of_decide_eq_true x;lia)) ?_;refine iteN (by decide) ?_;refine ⟨rfl,next λ u=>?_,_,_,rfl⟩;obtain ⟨r',q',e',f',s',t',J,M,_,_,g5,_,g7,_⟩:=u;rw [C] at J;cases J;rw [a4] at M;cases M;rw [re] at g5;cases g5;exact z1 g7
   ·rintro σ H7 ⟨rfl,no2,x6,x7,rfl⟩;refine ⟨rfl,λ m i' hm a6 j u=>?_,_,_,_,_,rfl⟩;rcases R3 m k with z|z
    ·exact no m i' z a6 j u
    ·have:m=k:=by lia
     subst this;rw [I] at a6;cases a6;obtain ⟨a2,F⟩:=List.mem_iff_getElem?.mp u.reads.2;exact no2 a2 j (by rw [lu];exact (List.getElem?_eq_some_iff.mp F).1) F u
  ·rintro σ H6 ⟨rfl,no,x4,x5,x6,x7,rfl⟩;refine q0 _ b1 λ i j u=>?_;obtain ⟨a1,G⟩:=List.mem_iff_getElem?.mp u.reads.1;exact no a1 i (by rw [lu];exact (List.getElem?_eq_some_iff.mp G).1) G j u
structure Evs (K:d0) (H:Hp) (te:Addr) (wr:Int) (es:List Ev) (ys:List V) (rs:List Rc):Prop where
 t:SqT K H te ys
 a:All2 (EvAt K H) es ys
 S:Sq1 wr es rs
 v :∀e∈es,EvV e
 n:es.length<=63
theorem Evs.same {K:d0} {H H':Hp} {te:Addr} {wr:Int} {es:List Ev} {ys:List V} {rs:List Rc} (s:Same H H') (h:Evs K H te wr es ys rs):Evs K H' te wr es ys rs:=⟨s.seqT h.t,z02 (λ _ _ z=>EvAt.tups (.of s) z) h.a,h.S,h.v,h.n⟩
noncomputable def OvAt (K:d0) (H:Hp):Option Rc->V->Prop
 | none,v=>v=.non
 | some w,v=>∃p,v=.ref p/\SqT K H p [.str "begin",.int w.h,w.n,w.v,w.x]
theorem Sq1.wx {wr:Int} {es:List Ev} {rs:List Rc} (S:Sq1 wr es rs) {w:Rc} (h:w∈rs) (hw:isW w=true):w.x=.int (intV w.x):=by
 rcases S.G w h with g|g
 ·rw [g.w] at hw;cases hw
 ·exact g.2.2.1
def z3n (K:d0):Sp:=λ vs H Q _=>∃(te:Addr) (rb re:Nat) (wr:Int) (es:List Ev) (ys:List V) (rs:List Rc),vs=[.ref te,.int rb,.int re]/\Evs K H te wr es ys rs/\rb < re/\re<=es.length/\(∃h n x,es[rb]? = some (.beg h n (.str "read") x))/\∀l (fs:List Int) H',Same H H'->H' l=some (.lst (fs.map V.int))->fs.length<=200->(∀x,x∈fs↔BesI rs rb re x)->Q (.ref l) H'
theorem z6z (T:TX (kx w) mg):Fo P w mg base CX0 1 474 y0p ["events","begin","end"] (z3n (kx w)):=by
 refine (z27 w.params).ok sc__law_beside (λ vs H Q E h=>?_) (λ a7 A b0 s H vs Q E hr h=>?_)
 ·obtain ⟨M,f,K,wr,W,D,rs,rfl,_⟩:=h;rfl
 ·obtain ⟨M,f,K,wr,W,D,rs,rfl,C,a8,hb,⟨hh,hn,hx,Y⟩,q⟩:=h;refine ⟨_,(z01 (ps_set (i:=3) sc__law_beside.nd rfl (P0 rfl) (pe_lst pa_nil))
   (z01 (ps_set (i:=4) sc__law_beside.nd rfl (P0 rfl) pe_non)
   (z01 (ps_for Q1 rfl (z7a rfl (T.no (zb5 _)) (z00 (pv 2) pa_nil)) (z0d (i:=5) sc__law_beside.nd rfl (P0 rfl))
   (z01 (ps_set (i:=6) sc__law_beside.nd rfl (P0 rfl) (pe_ix ix_seq (pv 0) (pv 5) (λ _ _=>rfl)))
   (z01 (ps_if (PW.pt (pw_and (z07 opEq (pe_ix ix_seq (pv 6) pe_int (λ _ _=>rfl)) pe_str (nomark _)) (z2w (z07 opEq (pe_ix ix_seq (pv 6) pe_int (λ _ _=>rfl)) pe_str (nomark _)))))
   (z01 (ps_set (i:=4) sc__law_beside.nd rfl (P0 rfl) (pv 6))
   (z03 (ps_if (z07 op_gt (pv 5) (pv 1) (nomark _))
   (z03 (z1n (z0o (pv 3) (z00 (pe_ix ix_seq (pv 6) pe_int (λ _ _=>rfl)) pa_nil))))
   z0c)))
   (z03 (ps_if (PW.pt (pw_and (z07 opEq (pe_ix ix_seq (pv 6) pe_int (λ _ _=>rfl)) pe_str (nomark _)) (pw_and (z07 z44 (pv 4) pe_non (nomark _)) (z2w (z07 opEq (pe_ix ix_seq (pv 6) pe_int (λ _ _=>rfl)) (pe_ix ix_seq (pv 4) pe_int (λ _ _=>rfl)) (nomark _))))))
   (z03 (ps_set (i:=4) sc__law_beside.nd rfl (P0 rfl) pe_non))
   z0c)))
   (z03 (ps_if (PW.pt (pw_and (z07 opEq (pv 5) (pv 1) (nomark _)) (z2w (z07 z44 (pv 4) pe_non (nomark _)))))
   (z03 (z1n (z0o (pv 3) (z00 (pe_ix ix_seq (pv 4) pe_int (λ _ _=>rfl)) pa_nil))))
   z0c)))))
   (z03 (ps_ret (pv 3)))))),?_⟩
  have ln:=C.n;have ly:D.length=W.length:=z05 C.a;have S:=C.S;refine z0g ?_;refine ⟨w_0,λ r U=>?_⟩;refine g_name ?_;have s0:=Same.upd (o:=.lst []) U;have e0:upd H r (.lst []) r=some (.lst (([]:List Int).map V.int)):=upd_same;generalize upd H r (.lst [])=H0 at s0 e0⊢;refine z0g ?_;refine g_name ?_;refine ⟨_,rfl,K,rfl,by lia,by lia,?_⟩;refine z7l (lo:=0) (n:=K) (λ i σ H'=>Same H H'/\∃(fs:List Int) (o:Option Rc) (ov:V),H' r=some (.lst (fs.map V.int))/\fs.length<=i + i/\(∀x,x∈fs↔BesI rs f i x)/\OpI rs i o/\OvAt (kx w) H o ov/\∃x5 x6,σ=[some (.ref M),some (.int (f:Nat)),some (.int (K:Nat)),some (.ref r),some ov,x5,x6])
   ⟨s0,[],none,.non,e0,B2 _,λ x=>⟨λ z=>absurd z A0,λ z=>absurd z (BesI.le (B2 _))⟩,λ w B=>absurd B.2.2.1 (T2 _),rfl,_,_,rfl⟩ ?_ ?_
  ·rintro i σ H1 hi ⟨s1,fs,o,ov,el,lf2,bs,op,G,x5,x6,rfl⟩;rw [j07];have a9:i < W.length:=by lia
   have N:D[i]? = some (D[i]'(by lia)):=N0 (by lia);generalize D[i]'(by lia)=y at N;obtain ⟨e,c,Z⟩:=z0a C.a N;refine g_name ?_;refine z0g ?_;refine ⟨_,rfl,_,rfl,.inr (.inl ⟨M,D,_,y,rfl,rfl,s1.seqT C.t,z04 N,?_⟩)⟩;refine g_name ?_;refine ze0 (λ σ1 O=>Same H O/\∃(fs:List Int) (o:Option Rc) (ov:V),O r=some (.lst (fs.map V.int))/\fs.length<=i + i + 1/\(i≠f->∀x,x∈fs↔BesI rs f (i + 1) x)/\(i=f->(∀x,x∉fs)/\OpI rs i o/\∀w∈rs,w.e≠some i)/\OpI rs (i + 1) o/\OvAt (kx w) H o ov/\σ1=[some (.ref M),some (.int (f:Nat)),some (.int (K:Nat)),some (.ref r),some ov,some (.int (i:Nat)),some y]) ?_ (λ F=>?_);rotate_left
   ·have z0:i=f->∀x,x∉fs:=λ e x hx=>BesI.le (K7 e) ((bs x).mp hx);cases e with
    | beg h n v x1=>
     obtain ⟨g,rfl,L⟩:=Z;obtain ⟨z,rfl⟩:=C.v _ (o0 c);have u:=s1.seqT L;refine ⟨_,rfl,.inr (.inl ⟨g,_,0,.str "begin",rfl,rfl,u,z04 (j:=0) rfl,rfl,_,rfl,iteP (by decide +kernel) ?_⟩)⟩;refine ⟨_,rfl,.inr (.inl ⟨g,_,3,.str z,rfl,rfl,u,z04 (j:=3) rfl,rfl,_,rfl,?_⟩)⟩;by_cases hz:z = "write"
     ·subst hz;refine iteP (decide_eq_true rfl) ?_;obtain ⟨d,l,a0,a2,a3,a6⟩:=S.begW c;have k:i≠f:=λ e=>by rw [e,Y] at c;injection c with c;injection c with _ _ c _;exact absurd c (by decide +kernel)
      have a1:OvAt (kx w) H (some d) (.ref g):=⟨g,rfl,by rw [a2,a3,a6,(S.wh l.1 l.2.1).2];exact L⟩
      have a5:x1=.int (intV d.x):=by rw [<-S.wx l.1 l.2.1,a2]
      refine z0g ?_;refine ⟨_,rfl,?_⟩;refine g_name ?_;refine ⟨_,rfl,_,rfl,_,_,rfl,rfl,_,rfl,?_⟩;by_cases hgt:f < i
      ·refine iteP (decide_eq_true (by lia)) ?_;refine ⟨_,rfl,.inl ⟨rfl,_,SqL.of el⟩,_,rfl,.inr (.inl ⟨g,_,4,.int (intV d.x),rfl,rfl,u,by rw [<-a5];exact z04 (j:=4) rfl,r,_,_,rfl,rfl,el,Q0 (m:=200) (by rw [L0];lia) (by decide),?_⟩)⟩;refine F _ _ ⟨Same.keep s1 U,fs++[intV d.x],some d,.ref g,by rw [X0];exact upd_same,by rw [D0];show fs.length + 1<=_;lia,λ _ x=>?_,λ e=>absurd e k,l,a1,rfl⟩;rw [S.besW l.1 l.2.1 a0 k,V8,bs x,z6];exact ⟨λ z=>z.imp id λ y=>⟨hgt,y⟩,λ z=>z.imp id λ y=>y.2⟩
      ·refine iteN (λ e=>hgt (by have:=of_decide_eq_true e;lia)) ?_;refine F _ _ ⟨s1,fs,some d,.ref g,el,by lia,λ _ x=>?_,λ e=>absurd e k,l,a1,rfl⟩;rw [S.besW l.1 l.2.1 a0 k,bs x];exact ⟨.inl,λ z=>z.elim id λ y=>absurd y.1 hgt⟩
     ·refine iteN (λ e=>hz (by have:=of_decide_eq_true e;injection this)) ?_;refine ⟨_,rfl,.inr (.inl ⟨g,_,0,.str "begin",rfl,rfl,u,z04 (j:=0) rfl,rfl,_,rfl,iteK (iteN (by decide) ?_)⟩)⟩;have nw:=S.noW c (λ e=>hz (by injection e));refine F _ _ ⟨s1,fs,o,ov,el,by lia,λ k x=>?_,λ e=>⟨z0 e,op,λ w B=>S.noE c w B⟩,op.on nw λ w B _=>S.noE c w B,G,rfl⟩;rw [BesI.on k nw,bs x]
    | fin h a=>
     obtain ⟨g,rfl,L⟩:=Z;have u:=s1.seqT L;have X :∀w∈rs,isW w=true->w.b≠i:=λ w B _=>S.noB c w B;have k:i≠f:=λ e=>by rw [e,Y] at c;cases c
     have R :∀x,x∈fs↔BesI rs f (i + 1) x:=λ x=>by rw [BesI.on k X,bs x]
     refine ⟨_,rfl,.inr (.inl ⟨g,_,0,.str "end",rfl,rfl,u,z04 (j:=0) rfl,rfl,_,rfl,iteK (iteN (by decide) ?_)⟩)⟩;refine ⟨_,rfl,.inr (.inl ⟨g,_,0,.str "end",rfl,rfl,u,z04 (j:=0) rfl,rfl,_,rfl,iteP (by decide +kernel) ?_⟩)⟩;cases o with
     | none=>have G:ov=.non:=G;subst G;have ne:=S.finN c op (λ _ z=>by cases z);exact ⟨_,rfl,rfl,_,rfl,iteN (by decide) (iteN (by decide) (F _ _ ⟨s1,fs,none,.non,el,by lia,λ _=>R,λ e=>absurd e k,op.on X ne,rfl,rfl⟩))⟩
     | some d=>
      obtain ⟨p,rfl,I⟩:=G;have a4:=s1.seqT I;refine ⟨_,rfl,rfl,_,rfl,iteP (by simp) ?_⟩;refine ⟨_,rfl,.inr (.inl ⟨g,_,1,.int h,rfl,rfl,u,z04 (j:=1) rfl,?_⟩)⟩;refine ⟨_,rfl,.inr (.inl ⟨p,_,1,.int d.h,rfl,rfl,a4,z04 (j:=1) rfl,rfl,_,rfl,?_⟩)⟩;by_cases hz:h=d.h
      ·subst hz;refine iteP (decide_eq_true rfl) ?_;obtain ⟨f1,f2⟩:=S.finY c op;exact F _ _ ⟨s1,fs,none,.non,el,by lia,λ _=>R,λ e=>absurd e k,f2,rfl,rfl⟩
      ·refine iteN (λ e=>hz (by have:=of_decide_eq_true e;injection this)) ?_;have ne:=S.finN c op (λ w1 z=>by cases z;exact hz);exact F _ _ ⟨s1,fs,some d,.ref p,el,by lia,λ _=>R,λ e=>absurd e k,op.on X ne,⟨p,rfl,I⟩,rfl⟩
   rintro σ1 O ⟨s2,fs2,o2,ov2,el2,ln2,b1,b2,op2,J,rfl⟩;refine ⟨_,rfl,_,rfl,rfl,_,rfl,?_⟩;by_cases er:i=f;rotate_left
   ·refine iteN (λ e=>er (by have:=of_decide_eq_true e;injection this with this;lia)) (iteN (by decide) ?_);exact ⟨s2,fs2,o2,ov2,el2,by lia,b1 er,op2,J,_,_,rfl⟩
   ·refine iteP (decide_eq_true (by rw [er])) ?_;obtain ⟨c1,c2,c3⟩:=b2 er;subst er;cases o2 with
    | none=>have J:ov2=.non:=J;subst J;refine ⟨_,rfl,rfl,_,rfl,iteN (by decide) ?_⟩;refine ⟨s2,fs2,none,.non,el2,by lia,λ x=>?_,op2,rfl,_,_,rfl⟩;rw [S.besB c2 c3];exact ⟨λ z=>absurd z (c1 x),λ ⟨_,z,_⟩=>by cases z⟩
    | some d=>
     obtain ⟨p,rfl,I⟩:=J;refine ⟨_,rfl,rfl,_,rfl,iteP (by simp) ?_⟩;refine ⟨_,rfl,.inl ⟨rfl,_,SqL.of el2⟩,_,rfl,.inr (.inl ⟨p,_,4,.int (intV d.x),rfl,rfl,s2.seqT I,by rw [<-S.wx op2.1 op2.2.1];exact z04 (j:=4) rfl,r,_,_,rfl,rfl,el2,Q0 (m:=200) (by rw [L0];lia) (by decide),?_⟩)⟩;refine ⟨Same.keep s2 U,fs2++[intV d.x],some d,.ref p,by rw [X0];exact upd_same,by rw [D0];show fs2.length + 1<=_;lia,λ x=>?_,op2,⟨p,rfl,I⟩,_,_,rfl⟩;rw [S.besB c2 c3,V8,z6];constructor
     ·rintro (z|z)
      ·exact absurd z (c1 x)
      ·exact ⟨d,rfl,z⟩
     ·rintro ⟨w1,z,e⟩;cases z;exact .inr e
  ·rintro σ H1 ⟨s1,fs,o,ov,el,lf2,bs,op,G,x5,x6,rfl⟩;exact ⟨_,rfl,q r fs H1 s1 el (by lia) bs⟩
noncomputable def ltO:Option Nat->Nat->Bool
 | some a,b=>decide (a < b)
 | none,_=>false
noncomputable def aheadB (r q:Rc):Bool:=ltO r.e q.b
theorem dec_lt (a b:Nat):decide ((a:Int) < (b:Int))=decide (a < b):=decide_eq_decide.mpr (by lia)
def z4z (K:d0):Sp:=λ vs H Q _=>∃(x y:V) (r q:Rc),vs=[x,y,.str "strict"]/\RcAt K H r x/\RcAt K H q y/\Q (.bl (aheadB r q)) H
theorem z9k (T:TX (kx w) mg):Fo P w mg base CX0 1 295 y0u ["one","other","strictness"] (z4z (kx w)):=by
 refine (z33 w.params).ok z8t (λ f H Q E h=>?_) (λ i A l s H f Q E k h=>?_)
 ·obtain ⟨x,y,r,q,rfl,_⟩:=h;rfl
 ·obtain ⟨x,y,r,q,rfl,⟨c,rfl,a⟩,⟨d,rfl,g⟩,h⟩:=h;refine ⟨_,(z01 (ps_if (z07 opEq (pv 2) pe_str (nomark _))
   (z03 (ps_ret (pe_and (z14 z44 (pe_ix ix_seq (pv 0) pe_int (λ _ _=>rfl)) pe_non (nomark _)) (pe_one (z14 op_lt (pe_ix ix_seq (pv 0) pe_int (λ _ _=>rfl)) (pe_ix ix_seq (pv 1) pe_int (λ _ _=>rfl)) (nomark _))))))
   z0c)
   (z01 (ps_if (z07 opEq (pv 2) pe_str (nomark _))
   (z03 (ps_ret (pe_and (z14 opEq (pe_ix ix_seq (pv 0) pe_int (λ _ _=>rfl)) (pe_ix ix_seq (pv 1) pe_int (λ _ _=>rfl)) (nomark _)) (pe_one (z14 op_lt (pe_ix ix_seq (pv 0) pe_int (λ _ _=>rfl)) (pe_ix ix_seq (pv 1) pe_int (λ _ _=>rfl)) (nomark _))))))
   z0c)
   (z03 (ps_ret pe_bl)))),?_⟩
  refine ⟨_,rfl,rfl,_,rfl,iteP (decide_eq_true rfl) ?_⟩;refine ⟨_,rfl,.inr (.inl ⟨c,_,6,endV r.e,rfl,rfl,a,z04 (j:=6) rfl,rfl,_,rfl,?_⟩)⟩;cases re:r.e with
  | none=>
   refine iteN (by show ¬ (!decide (V.non=V.non))=true;decide) ?_;have:aheadB r q=false:=by unfold aheadB;rw [re];rfl
   rw [this] at h;exact h
  | some b=>
   refine iteP rfl ?_;refine ⟨_,rfl,.inr (.inl ⟨c,_,6,.int (b:Nat),rfl,rfl,a,z04 (j:=6) (by rw [re];rfl),?_⟩)⟩;refine ⟨_,rfl,.inr (.inl ⟨d,_,5,.int (q.b:Nat),rfl,rfl,g,z04 (j:=5) rfl,b,q.b,rfl,rfl,?_⟩)⟩;have:aheadB r q=decide (b < q.b):=by unfold aheadB;rw [re];rfl
   rw [this,<-dec_lt] at h;exact h
def z1j:Sp:=λ vs H Q _=>vs=[.str "strict"]/\Q .non H
theorem zfe {H:Hp}:SqT (kx w) H 274 [.str "strict",.str "hands",.str "bare"]:=
 .inr ⟨⟨(.type "tuple"),none,(.seq #[(.str "strict" 605),(.str "hands" 606),(.str "bare" 607)] 0),#[]⟩,#[(.str "strict" 605),(.str "hands" 606),(.str "bare" 607)],0,by kernel_rfl,rfl,rfl,w_3,.cons ⟨_,rfl⟩ (.cons ⟨_,rfl⟩ (.cons ⟨_,rfl⟩ .nil))⟩
theorem z42 (T:TX (kx w) mg):Fo P w mg base CX0 1 288 y06 ["strictness"] z1j:=by
 refine (z10 w.params).ok z46 (λ a H Q E h=>?_) (λ b A d s H a Q E c h=>?_)
 ·obtain ⟨rfl,_⟩:=h;rfl
 ·obtain ⟨rfl,h⟩:=h;refine ⟨_,(z03 (ps_if (PW.pt (pw_or (pt_not (pt_val (z0h z1u rfl (T.no (z1e _)) C6 (z00 (pv 0) (z00 (z8j (v:=.ty "str") rfl (T.no (n_str _)) boot_str rfl) pa_nil))) (λ _=>rfl))) (pw_or1 (z07 z1b (pv 0) (z3x (v:=.ref 274) rfl (T.of (z6w _)) rfl) (by with_unfolding_all rfl)))))
   (z03 z58)
   z0c)),?_⟩
  refine ⟨_,rfl,_,_,"str",rfl,rfl,by decide +kernel,_,rfl,iteN (by decide) ?_⟩;refine ⟨_,rfl,274,_,rfl,.inr zfe,rfl,rfl,_,rfl,iteN ?_ h⟩;decide +kernel
noncomputable def z0l (rs:List Rc) (a b:Nat):Bool:=match rs[a]?,rs[b]? with|some r,some q=>aheadB r q|_,_=>false
noncomputable def rowTo (rs:List Rc) (a j:Nat):List (Nat×Nat):=((V0 j).filter λ b=>z0l rs a b).map λ b=>(a,b)
noncomputable def z23 (rs:List Rc) (i:Nat):List (Nat×Nat):=(V0 i).flatMap λ a=>rowTo rs a rs.length
theorem z8n {rs:List Rc} {a j:Nat}:rowTo rs a (j + 1)=rowTo rs a j++if z0l rs a j then [(a,j)] else []:=by
 unfold rowTo;rw [m5,G2,X0];by_cases z:z0l rs a j=true
 ·rw [if_pos z];simp [z]
 ·rw [if_neg z];simp [z]
theorem z60 {rs:List Rc} {i:Nat}:z23 rs (i + 1)=z23 rs i++rowTo rs i rs.length:=by unfold z23;rw [m5,List.flatMap_append];simp
theorem zbs {rs:List Rc} {a j:Nat}:(rowTo rs a j).length<=j:=by unfold rowTo;rw [L0];exact F0 (U1 _ _) (by rw [W2];exact B0 _)
theorem z4f {rs:List Rc} :∀i:Nat,(z23 rs i).length<=i * rs.length
 | 0=>by simp [z23]
 | i + 1=>by rw [z60,D0,Nat.add_mul,Nat.one_mul];exact Nat.add_le_add (z4f i) zbs
def PairAt (H:Hp) (p:Nat×Nat) (y:V):Prop:=∃a,y=.ref a/\H a=some (.tup [.int p.1,.int p.2])
theorem PairAt.same {H H':Hp} {p:Nat×Nat} {y:V} (s:Same H H') (h:PairAt H p y):PairAt H' p y:=h.elim λ a z=>⟨a,z.1,s _ _ z.2⟩
theorem PairAt.wrote {H:Hp} {l:Addr} {zs ws:List V} {p:Nat×Nat} {y:V} (e:H l=some (.lst zs)) (h:PairAt H p y):PairAt (upd H l (.lst ws)) p y:=h.elim λ a z=>⟨a,z.1,by rw [upd_ne (ne_of z.2 e (by intro z;cases z))];exact z.2⟩
def zb2 (K:d0):Sp:=λ vs H Q _=>∃(t te:Addr) (th:V) (ys:List V) (es:List Ev),vs=[.ref t,.str "strict"]/\SqT K H t [th,.ref te]/\SqT K H te ys/\All2 (EvAt K H) es ys/\es.length<=100/\dWf 0 [] es/\
 ∀l zs H',Same H H'->H l=none->H' l=some (.lst zs)->All2 (PairAt H') (z23 (dAll 0 [] es) (dAll 0 [] es).length) zs->Q (.ref l) H'
theorem zfk (T:TX (kx w) mg) (c0:Ca P w mg base "deeds" ["tale"] 1 (z80 (kx w))) (c1:Ca P w mg base "check_strictness" ["strictness"] 1 z1j) (c2:Ca P w mg base "goes_ahead" ["one","other","strictness"] 1 (z4z (kx w))):Fo P w mg base CX0 2 281 y22 ["tale","strictness"] (zb2 (kx w)):=by
 refine (za3 w.params).ok sc_has_to (λ vs H Q E h=>?_) (λ b7 A b8 s H vs Q E N h=>?_)
 ·obtain ⟨t,te,Z,ys,es,rfl,_⟩:=h;rfl
 ·obtain ⟨t,te,Z,ys,es,rfl,st,se,al,hl,wf,q⟩:=h;refine ⟨_,(z01 (z1n (pe_cal c1 (N.mono (by decide)) rfl (z00 (pv 1) pa_nil)))
   (z01 (ps_set (i:=2) sc_has_to.nd rfl (P0 rfl) (pe_cal c0 (N.mono (by decide)) rfl (z00 (pv 0) pa_nil)))
   (z01 (ps_set (i:=3) sc_has_to.nd rfl (P0 rfl) (pe_lst pa_nil))
   (z01 (ps_for Q1 rfl (z62 rfl (T.no (z0u _)) (z00 (pv 2) pa_nil)) (pg_tup rfl (z08 (z0d (i:=4) sc_has_to.nd rfl (P0 rfl)) (z08 (z0d (i:=5) sc_has_to.nd rfl (P0 rfl)) z0p)))
   (z03 (ps_for Q1 rfl (z62 rfl (T.no (z0u _)) (z00 (pv 2) pa_nil)) (pg_tup rfl (z08 (z0d (i:=6) sc_has_to.nd rfl (P0 rfl)) (z08 (z0d (i:=7) sc_has_to.nd rfl (P0 rfl)) z0p)))
   (z03 (ps_if (pt_val (pe_cal c2 (N.mono (by decide)) rfl (z00 (pv 5) (z00 (pv 7) (z00 (pv 1) pa_nil)))) (λ _=>rfl))
   (z03 (z1n (z0o (pv 3) (z00 (pe_tup (z00 (pv 4) (z00 (pv 6) pa_nil))) pa_nil))))
   z0c)))))
   (z03 (ps_ret (pv 3))))))),?_⟩
  refine ⟨_,rfl,rfl,?_⟩;refine ⟨_,rfl,t,te,Z,ys,es,rfl,st,se,al,hl,wf,λ l g D s1 b9 el L=>?_⟩;generalize hrs:dAll 0 [] es=rs at L q;have hn:rs.length<=100:=by rw [<-hrs];have:=z36 (es:=es) (i:=0) (rs:=[]);simpa using F0 this (by simpa using hl)
  have v:g.length=rs.length:=z05 L;refine ⟨w_0,λ c n=>?_⟩;have a0:H c=none:=s1.free n;have nl:l≠c:=z0e el n;have R:Same H (upd D c (.lst [])):=s1.trans (Same.upd n);have G:upd D c (.lst []) l=some (.lst g):=(Same.upd n) _ _ el;have a2:=z02 (λ a b z=>RcAt.tups (.of (Same.upd (o:=.lst []) n)) z) L;have a1:upd D c (.lst []) c=some (.lst []):=upd_same;generalize upd D c (.lst [])=H2 at R G a2 a1⊢;refine ⟨_,rfl,l,g,rfl,SqL.of G,?_⟩;refine z73 (K:=KX w.params) (a:=l) (xs:=g) (λ i σ d=>∃f,d l=some (.lst g)/\All2 (RcAt (kx w) d) rs g/\d c=some (.lst f)/\All2 (PairAt d) (z23 rs i) f/\Same H d/\∃x4 x5 x6 x7,σ=[some (.ref t),some (.str "strict"),some (.ref l),some (.ref c),x4,x5,x6,x7])
   ⟨[],G,a2,a1,.nil,R,_,_,_,_,rfl⟩ (λ i σ d h=>?_) ?_ ?_
  ·obtain ⟨f,e,_⟩:=h;exact SqL.of e
  ·rintro i x σ Y p S ⟨f,e3,a3,f3,b3,s3,x4,x5,x6,x7,rfl⟩ hp;obtain ⟨H4,I,r,ep⟩:=newA (.tup [.int i,x]) hp;rw [<-I];have U:=r _ _ e3;have f4:=r _ _ f3;have a4:=z02 (λ a b z=>RcAt.tups (.of r) z) a3;have b4:=z02 (λ a b z=>PairAt.same r z) b3;have s4:=s3.trans r;refine ⟨p,_,rfl,SqT.of ep,rfl,.int i,_,rfl,x,_,rfl,rfl,?_⟩;have b1:i < rs.length:=by rw [<-v];exact (List.getElem?_eq_some_iff.mp S).1
   have pl:=z4f (rs:=rs) i;have pm:i * rs.length<=10000:=Nat.mul_le_mul (F0 (N2 b1) hn) hn;refine ⟨_,rfl,l,g,rfl,SqL.of U,?_⟩;refine z73 (K:=KX w.params) (a:=l) (xs:=g) (λ j σ d=>∃f,d l=some (.lst g)/\All2 (RcAt (kx w) d) rs g/\d c=some (.lst f)/\All2 (PairAt d) (z23 rs i++rowTo rs i j) f/\Same H d/\∃x6 x7,σ=[some (.ref t),some (.str "strict"),some (.ref l),some (.ref c),some (.int (i:Nat)),some x,x6,x7])
    ⟨f,U,a4,f4,by rw [show rowTo rs i 0=[] from rfl,Q2];exact b4,s4,_,_,rfl⟩ (λ j σ d h=>?_) ?_ ?_
   ·obtain ⟨f,e,_⟩:=h;exact SqL.of e
   ·rintro j y σ M B hy ⟨zs3,e5,a5,f5,b5,s5,x6,x7,rfl⟩ hp';have k:=Same.upd (o:=.tup [.int j,y]) hp';have W:upd M B (.tup [.int j,y]) B=some (.tup [.int j,y]):=upd_same;generalize upd M B (.tup [.int j,y])=H6 at k W⊢;have e6:=k _ _ e5;have J:=k _ _ f5;have F:=z02 (λ a b z=>RcAt.tups (.of k) z) a5;have O:=z02 (λ a b z=>PairAt.same k z) b5;have V:=s5.trans k;refine ⟨B,_,rfl,SqT.of W,rfl,.int j,_,rfl,y,_,rfl,rfl,?_⟩;obtain ⟨r1,a9,b0⟩:=z0a F S;obtain ⟨r2,X,a8⟩:=z0a F hy;have b2:j < rs.length:=(List.getElem?_eq_some_iff.mp X).1;have ah:z0l rs i j=aheadB r1 r2:=by unfold z0l;rw [a9,X]
    refine ⟨_,rfl,_,rfl,_,rfl,x,y,r1,r2,rfl,b0,a8,_,rfl,?_⟩;rw [<-ah];have rl:=zbs (rs:=rs) (a:=i) (j:=j);have zl:zs3.length=(z23 rs i++rowTo rs i j).length:=z05 O;rw [D0] at zl;by_cases z:z0l rs i j=true
    ·refine iteP z ?_;refine ⟨_,rfl,.inl ⟨rfl,zs3,SqL.of J⟩,_,rfl,_,rfl,w_2,λ p2 a7=>?_⟩;obtain ⟨H7,I,u,e7⟩:=newA (.tup [.int (i:Nat),.int (j:Nat)]) a7;rw [<-I];have C:=u _ _ J;refine ⟨c,zs3,_,rfl,rfl,C,Q0 (m:=20000) (by lia) (by decide),?_⟩;refine ⟨zs3++[.ref p2],?_,?_,upd_same,?_,Same.keep (V.trans u) a0,_,_,rfl⟩
     ·rw [upd_ne nl];exact u _ _ e6
     ·exact z02 (λ a b z=>RcAt.tups ((Tups.of u).trans (Tups.lst C)) z) F
     ·rw [z8n,if_pos z,<-G8];exact z0m (z02 (λ a b z=>PairAt.wrote C (PairAt.same u z)) O) (PairAt.wrote C ⟨p2,rfl,e7⟩)
    ·refine iteN z ?_;exact ⟨zs3,e6,F,J,by rw [z8n,if_neg z,Q2];exact O,V,_,_,rfl⟩
   ·rintro σ M ⟨zs3,e5,a5,f5,b5,s5,x6,x7,rfl⟩;exact ⟨zs3,e5,a5,f5,by rw [z60,<-v];rw [v] at b5;rw [v];exact b5,s5,_,_,_,_,rfl⟩
  ·rintro σ Y ⟨f,e3,a3,f3,b3,s3,x4,x5,x6,x7,rfl⟩;rw [v] at b3;exact ⟨_,rfl,q c f Y s3 a0 f3 b3⟩
theorem z5b {rs:List Rc} {a b:Nat} {r q:Rc} (ha:rs[a]? = some r) (hb:rs[b]? = some q):z0l rs a b=aheadB r q:=by unfold z0l;rw [ha,hb]
theorem z1y {rs:List Rc} {a b:Nat} (h:z0l rs a b=true):a < rs.length/\b < rs.length:=by
 unfold z0l at h;cases ea:rs[a]? with
 | none=>rw [ea] at h;cases h
 | some r=>
  cases eb:rs[b]? with
  | none=>rw [ea,eb] at h;cases h
  | some q=>exact ⟨(List.getElem?_eq_some_iff.mp ea).1,(List.getElem?_eq_some_iff.mp eb).1⟩
theorem mem_pairsTo {rs:List Rc} {p:Nat×Nat} {n:Nat}:p∈z23 rs n↔p.1 < n/\p.2 < rs.length/\z0l rs p.1 p.2=true:=by
 unfold z23 rowTo;rw [List.mem_flatMap];constructor
 ·rintro ⟨a,ha,h⟩;obtain ⟨b,e,rfl⟩:=List.mem_map.mp h;obtain ⟨d,c⟩:=List.mem_filter.mp e;exact ⟨List.mem_range.mp ha,List.mem_range.mp d,c⟩
 ·rintro ⟨d,c,h3⟩;exact ⟨p.1,List.mem_range.mpr d,List.mem_map.mpr ⟨p.2,List.mem_filter.mpr ⟨List.mem_range.mpr c,h3⟩,rfl⟩⟩
def z5u:Sp:=λ vs H Q _=>∃i g:Int,vs=[.int i,.int g]/\-g<=i/\i<=g/\Q (.bl true) H
theorem za9 (T:TX (kx w) mg) (c0:Ca P w mg base "is_whole" ["value"] 1 z4e):Fo P w mg base CX0 2 84 y10 ["value","greatest"] z5u:=by
 refine (z4j w.params).ok zaz (λ b H Q E h=>?_) (λ e A f s H b Q E a h=>?_)
 ·obtain ⟨i,g,rfl,_⟩:=h;rfl
 ·obtain ⟨i,g,rfl,c,d,q⟩:=h;refine ⟨_,(z03 (ps_ret (pe_and (pe_cal c0 (a.mono (by decide)) rfl (z00 (pv 0) pa_nil)) (pe_one (zhu op_le op_le (pe_un un_neg (pv 1)) (pv 0) (pv 1)))))),?_⟩;refine ⟨_,rfl,i,rfl,_,rfl,iteT ?_⟩;refine ⟨_,rfl,_,rfl,_,rfl,_,_,rfl,rfl,_,rfl,?_⟩;rw [decide_eq_true c];refine iteT ⟨_,rfl,_,_,rfl,rfl,?_⟩;rw [decide_eq_true d];exact q
def Sml (i:Int):Prop:=-1000000000<=i/\i<=1000000000
def z6q:Sp:=λ vs H Q _=>∃i:Int,vs=[.int i]/\Sml i/\Q (.bl true) H
theorem zcr (T:TX (kx w) mg) (c0:Ca P w mg base "is_within" ["value","greatest"] 2 z5u):Fo P w mg base CX0 3 91 y1c ["value"] z6q:=by
 refine (z5c w.params).ok zcn (λ c H Q E h=>?_) (λ d A e s H c Q E b h=>?_)
 ·obtain ⟨i,rfl,_⟩:=h;rfl
 ·obtain ⟨i,rfl,a,q⟩:=h;refine ⟨_,(z03 (ps_ret (pe_cal c0 (b.mono (by decide)) rfl (z00 (pv 0) (z00 (z3x (v:=.int (1000000000)) rfl (T.of (z5g _)) ⟨_,rfl⟩) pa_nil))))),?_⟩;exact ⟨_,rfl,i,1000000000,rfl,a.1,a.2,q⟩
def z3v:Sp:=λ _ _ _ _=>False
theorem z83 (T:TX (kx w) mg):Fo P w mg base CX0 1 98 y0f ["value","many"] z3v:=(z2b w.params).ok z6y (λ a H Q E h=>h.elim) (λ b A d s H a Q E c h=>h.elim)
def z5n:Sp:=λ vs H Q _=>vs=[.str "register"]/\Q (.bl true) H
theorem zdk (T:TX (kx w) mg):Fo P w mg base CX0 1 183 y1o ["kind"] z5n:=by
 refine (z82 w.params).ok zek (λ a H Q E h=>?_) (λ b A d s H a Q E c h=>?_)
 ·obtain ⟨rfl,_⟩:=h;rfl
 ·obtain ⟨rfl,q⟩:=h;refine ⟨_,(z03 (ps_ret (pe_and (z0h z1u rfl (T.no (z1e _)) C6 (z00 (pv 0) (z00 (z8j (v:=.ty "str") rfl (T.no (n_str _)) boot_str rfl) pa_nil))) (pe_one (z14 (zii (z2y _)) (pv 0) (z3x (v:=.ref 99) rfl (T.of (z3k _)) rfl) (by with_unfolding_all rfl)))))),?_⟩;refine ⟨_,rfl,_,_,"str",rfl,rfl,by decide,_,rfl,?_⟩;exact iteP (by decide +kernel) ⟨_,rfl,"register",rfl,rfl,q⟩
def RegD (v x:V):Prop:=(v=.str "read"/\x=.non)\/(v=.str "write"/\∃i,x=.int i/\Sml i)
def z9q:Sp:=λ vs H Q _=>∃v x,vs=[.str "register",v,x]/\RegD v x/\∀H',Same H H'->Q (.bl true) H'
theorem zer (T:TX (kx w) mg) (c0:Ca P w mg base "is_kind" ["kind"] 1 z5n) (c1:Ca P w mg base "is_worth" ["value"] 3 z6q) (c2:Ca P w mg base "is_tuple_of" ["value","many"] 1 z3v):Fo P w mg base CX0 4 195 y1p ["kind","verb","worth"] z9q:=by
 refine (z7d w.params).ok sc_is_deed (λ d H Q E h=>?_) (λ e A f s H d Q E a h=>?_)
 ·obtain ⟨v,x,rfl,_⟩:=h;rfl
 ·obtain ⟨v,x,rfl,c,q⟩:=h;refine ⟨_,(z01 (ps_if (PW.pt (pw_or (pt_not (pt_val (pe_cal c0 (a.mono (by decide)) rfl (z00 (pv 0) pa_nil)) (λ _=>rfl))) (pw_or (pt_not (pt_val (z0h z1u rfl (T.no (z1e _)) C6 (z00 (pv 1) (z00 (z8j (v:=.ty "str") rfl (T.no (n_str _)) boot_str rfl) pa_nil))) (λ _=>rfl))) (pw_or1 (z07 (zaj (hu_of a) (zd7 _)) (pe_tup (z00 (pv 0) (z00 (pv 1) pa_nil))) (z3x (v:=.ref 164) rfl (T.of (zgz _)) rfl) (by with_unfolding_all rfl))))))
   (z03 (ps_ret pe_bl))
   z0c)
   (z01 (ps_set (i:=3) sc_is_deed.nd rfl (P0 rfl) (pe_ix (ix_kd (z4h _)) (z3x (v:=.ref 102) rfl (T.of (z50 _)) rfl) (pv 1) (λ _ _=>rfl)))
   (z01 (ps_if (z07 opEq (pv 3) pe_int (nomark _))
   (z03 (ps_ret (z14 op_isN (pv 2) pe_non (nomark _))))
   z0c)
   (z01 (ps_if (z07 opEq (pv 3) pe_int (nomark _))
   (z03 (ps_ret (pe_cal c1 (a.mono (by decide)) rfl (z00 (pv 2) pa_nil))))
   z0c)
   (z03 (ps_ret (pe_and (pe_cal c2 (a.mono (by decide)) rfl (z00 (pv 2) (z00 (pv 3) pa_nil))) (pe_one (z0h (z7p rfl) rfl (T.no (n_all _)) boot_all (z00 (pe_cg (xs:=["part"]) (g:=gName 0) (fr:=[]) (pi_tup (pv 2)) (λ _ _ _ _ _=>(pg_cn (N:=["part"]) 0)) (λ _ _ _ _ _=>pf_nil) (λ _ _ _ _ _=>(pe_cal c1 (a.mono (by decide)) rfl (z00 (pv 0) pa_nil)))) pa_nil)))))))))),?_⟩
  refine ⟨_,rfl,rfl,_,rfl,iteF ?_⟩;rcases c with ⟨rfl,rfl⟩|⟨rfl,i,rfl,hi⟩
  ·refine ⟨_,rfl,_,_,"str",rfl,rfl,by decide,_,rfl,iteK ?_⟩;refine ⟨_,rfl,_,rfl,w_2,λ p b=>⟨p,"register","read",rfl,upd_same,rfl,_,rfl,iteK ?_⟩⟩;refine ⟨_,rfl,"read",.int 0,rfl,rfl,by decide +kernel,_,rfl,rfl,_,rfl,iteP (by decide) ?_⟩;exact ⟨_,rfl,rfl,q _ (Same.upd b)⟩
  ·refine ⟨_,rfl,_,_,"str",rfl,rfl,by decide,_,rfl,iteK ?_⟩;refine ⟨_,rfl,_,rfl,w_2,λ p b=>⟨p,"register","write",rfl,upd_same,rfl,_,rfl,iteK ?_⟩⟩;refine ⟨_,rfl,"write",.int 1,rfl,rfl,by decide +kernel,_,rfl,rfl,_,rfl,iteN (by decide) ?_⟩;refine ⟨_,rfl,rfl,_,rfl,iteP (by decide) ?_⟩;exact ⟨_,rfl,i,rfl,hi,q _ (Same.upd b)⟩
def z1m:Sp:=λ vs H Q _=>∃st x,vs=[st,x]/\∀p,H p=none->Q (.ref p) (upd H p (.tup [st,st]))
theorem z9o (T:TX (kx w) mg):Fo P w mg base CX0 1 109 y0q ["state","worth"] z1m:=by
 refine (z3c w.params).ok z90 (λ b H Q E h=>?_) (λ c A e s H b Q E d h=>?_)
 ·obtain ⟨a,x,rfl,_⟩:=h;rfl
 ·obtain ⟨a,x,rfl,q⟩:=h;refine ⟨_,(z03 (ps_ret (pe_tup (z00 (pv 0) (z00 (pv 0) pa_nil))))),?_⟩;exact ⟨_,rfl,_,rfl,w_2,q⟩
def z17:Sp:=λ vs H Q _=>∃st x,vs=[st,x]/\∀p,H p=none->Q (.ref p) (upd H p (.tup [x,.str "ok"]))
theorem z70 (T:TX (kx w) mg):Fo P w mg base CX0 1 116 y0g ["state","worth"] z17:=by
 refine (z26 w.params).ok z75 (λ b H Q E h=>?_) (λ c A e s H b Q E d h=>?_)
 ·obtain ⟨a,x,rfl,_⟩:=h;rfl
 ·obtain ⟨a,x,rfl,q⟩:=h;refine ⟨_,(z03 (ps_ret (pe_tup (z00 (pv 1) (z00 pe_str pa_nil))))),?_⟩;exact ⟨_,rfl,w_2,q⟩
def doTb (K:d0) (f:Addr) (sp:Sp):Prop:=(f=109/\sp=z1m)\/(f=116/\sp=z17)
theorem cal_fn {x:Str} {ps:List Str} {k f:Nat} {sp:Sp} {K:d0} (c:Cal P w K mg base x ps k sp) (e:mg x=some (.ref f)) :∃fd ps,FnOk P w K mg base CX0 k f fd ps sp/\B3 K (.ref f)=true/\Binds K fd ps []:=by obtain ⟨h,fd,g,a,d,b⟩:=c.ex;rw [e] at a;cases a;exact ⟨fd,ps,g,d,b⟩
noncomputable def ansR (v:V) (s:Int):V:=if v=.str "write" then .str "ok" else .int s
noncomputable def nxtR (v x:V) (s:Int):Int:=if v=.str "write" then intV x else s
def sp_do (K:d0):Sp:=λ vs H Q _=>∃(v x:V) (st:Int),vs=[.str "register",.int st,v,x]/\RegD v x/\∀p H',Same H H'->H' p=some (.tup [.int (nxtR v x st),ansR v st])->Q (.ref p) H'
theorem ok_do (T:TX (kx w) mg) (c0:Ca P w mg base "is_deed" ["kind","verb","worth"] 4 z9q) (c1:Ca P w mg base "read_state" ["state","worth"] 1 z1m) (c2:Ca P w mg base "write_state" ["state","worth"] 1 z17):Fo P w mg base CX0 5 202 y2l ["kind","state","verb","worth"] (sp_do (kx w)):=by
 refine (F_do w.params).ok sc_do (λ y H Q E h=>?_) (λ u A C s H y Q E c h=>?_)
 ·obtain ⟨v,x,t,rfl,_⟩:=h;rfl
 ·obtain ⟨v,x,t,rfl,o,q⟩:=h;have G :∀f d,doTb (kx w) f d->∃k a b,Fo P w mg base CX0 k f a b d/\Room k (A.deeper (a8 "do" (z06 y2k) s.heap.objs.size 202 u))/\B3 (kx w) (.ref f)=true/\Binds (kx w) a b []:=λ f d z=>by
   rcases z with ⟨rfl,rfl⟩|⟨rfl,rfl⟩
   ·obtain ⟨a,b,m,g,n⟩:=cal_fn c1 (T.of (z5l _));exact ⟨1,a,b,m,c.mono (by decide),g,n⟩
   ·obtain ⟨a,b,m,g,n⟩:=cal_fn c2 (T.of (z4w _));exact ⟨1,a,b,m,c.mono (by decide),g,n⟩
  refine ⟨_,(z01 (ps_if (pt_not (pt_val (pe_cal c0 (c.mono (by decide)) rfl (z00 (pv 0) (z00 (pv 2) (z00 (pv 3) pa_nil)))) (λ _=>rfl)))
   (z03 z58)
   z0c)
   (z01 (ps_set (i:=4) sc_do.nd rfl (P0 rfl) (pe_ix (ix_kdt (hu_of c) (zd7 _)) (z3x (v:=.ref 164) rfl (T.of (zgz _)) rfl) (pe_tup (z00 (pv 0) (z00 (pv 2) pa_nil))) (λ _ _=>rfl)))
   (z03 (ps_ret (zj9 (doTb (kx w)) (i:=4) rfl (by first|exact P0 rfl|exact O0 (P0 rfl)) G (z00 (pv 1) (z00 (pv 3) pa_nil))))))),?_⟩
  refine ⟨_,rfl,_,rfl,_,rfl,v,x,rfl,o,λ B r=>⟨_,rfl,iteF ?_⟩⟩;rcases o with ⟨rfl,rfl⟩|⟨rfl,i,rfl,hi⟩
  ·refine ⟨_,rfl,_,rfl,w_2,λ p j=>⟨p,"register","read",.ref 109,rfl,rfl,upd_same,by decide +kernel,?_⟩⟩;refine ⟨109,z1m,rfl,.inl ⟨rfl,rfl⟩,_,rfl,_,rfl,_,_,rfl,λ e l=>q e _ ((r.trans (Same.upd j)).trans (Same.upd l)) ?_⟩;exact upd_same.trans (by unfold nxtR ansR;rw [if_neg z0y,if_neg z0y])
  ·refine ⟨_,rfl,_,rfl,w_2,λ p j=>⟨p,"register","write",.ref 116,rfl,rfl,upd_same,by decide +kernel,?_⟩⟩;refine ⟨116,z17,rfl,.inr ⟨rfl,rfl⟩,_,rfl,_,rfl,_,_,rfl,λ e l=>q e _ ((r.trans (Same.upd j)).trans (Same.upd l)) ?_⟩;exact upd_same.trans (by unfold nxtR ansR;rw [if_pos rfl,if_pos rfl];rfl)
def z3f:Sp:=λ vs H Q _=>vs=[.str "register"]/\Q (.int 0) H
theorem z7k (T:TX (kx w) mg) (c0:Ca P w mg base "is_kind" ["kind"] 1 z5n):Fo P w mg base CX0 2 190 y0h ["kind"] z3f:=by
 refine (z2f w.params).ok z7b (λ b H Q E h=>?_) (λ c A d s H b Q E a h=>?_)
 ·obtain ⟨rfl,_⟩:=h;rfl
 ·obtain ⟨rfl,q⟩:=h;refine ⟨_,(z01 (ps_if (pt_not (pt_val (pe_cal c0 (a.mono (by decide)) rfl (z00 (pv 0) pa_nil)) (λ _=>rfl)))
   (z03 z58)
   z0c)
   (z03 (ps_ret (pe_ix (ix_kd (z2y _)) (z3x (v:=.ref 99) rfl (T.of (z3k _)) rfl) (pv 0) (λ _ _=>rfl))))),?_⟩
  exact ⟨_,rfl,rfl,_,rfl,iteF ⟨_,rfl,"register",.int 0,rfl,rfl,by decide +kernel,q⟩⟩
end
section
structure Tt (K:d0) (H H':Hp):Prop where
 t:Tups K H H'
 l :∀a xs,H a=some (.tup xs)->H' a=some (.tup xs)
theorem Tt.of {K:d0} {H H':Hp} (s:Same H H'):Tt K H H':=⟨.of s,λ _ _ h=>s _ _ h⟩
theorem Tt.trans {K:d0} {H H1 H2:Hp} (a:Tt K H H1) (b:Tt K H1 H2):Tt K H H2:=⟨a.t.trans b.t,λ _ _ h=>b.l _ _ (a.l _ _ h)⟩
def MutAt (H:Hp) (l:Addr):Prop:=(∃zs,H l=some (.lst zs))\/∃kvs:List (Key×V),H l=some (.dK kvs)
theorem KeptL.tt {K:d0} {L:List Addr} {H H':Hp} (k:KeptL L H H') (m :∀l∈L,MutAt H l):Tt K H H':=by
 refine ⟨λ a b h=>?_,λ a b h=>k _ _ (λ z=>?_) h⟩
 ·rcases h with (h|⟨ob,h⟩)|h
  ·exact .inl (.inl (k _ _ (λ z=>by rcases m a z with ⟨_,e⟩|⟨_,e⟩<;>(rw [h] at e;cases e)) h))
  ·exact .inl (.inr ⟨ob,k _ _ (λ z=>by rcases m a z with ⟨_,e⟩|⟨_,e⟩<;>(rw [h] at e;cases e)) h⟩)
  ·exact .inr h
 ·rcases m a z with ⟨_,e⟩|⟨_,e⟩<;>(rw [h] at e;cases e)
noncomputable def nsV (ns:List Nat):List V:=ns.map λ (n:Nat)=>V.int (n:Int)
theorem z9m (ns:List Nat):(nsV ns).length=ns.length:=L0 ..
theorem inV_ns (i:Nat) (ns:List Nat):inV (.int (i:Nat)) (nsV ns)=decide (i∈ns):=by
 unfold inV nsV;rw [List.any_map,Bool.eq_iff_iff,c7,decide_eq_true_iff];constructor
 ·rintro ⟨n,hn,e⟩;have e:((n:Int))=i:=of_decide_eq_true e;rw [show i=n by lia];exact hn
 ·exact λ h=>⟨i,h,decide_eq_true rfl⟩
theorem z8f (ns:List Nat):(nsV ns).all flatV=true:=by unfold nsV;rw [List.all_map];exact List.all_eq_true.mpr λ _ _=>rfl
theorem zi6 {ns:List Nat} {us:List V} (h:All2 (λ (a:Nat) y=>y=V.int (a:Nat)) ns us):us=nsV ns:=by
 induction h with
 | nil=>rfl
 | cons a r ih=>subst a;rw [ih];rfl
noncomputable def srtN (ns:List Nat):List Nat:=ns.mergeSort λ a b=>decide (a<=b)
theorem z7h (ns:List Nat):(srtN ns).Perm ns:=List.mergeSort_perm ns _
theorem z6k (ns:List Nat):(srtN ns).Pairwise (·<=·):=by have:=List.pairwise_mergeSort (le:=λ a b:Nat=>decide (a<=b)) (λ a b c d e=>decide_eq_true (F0 (of_decide_eq_true d) (of_decide_eq_true e))) (λ a b=>by rcases Nat.le_total a b with h|h<;>simp [h]) ns;exact this.imp λ h=>of_decide_eq_true h
theorem zj8 {ns':List Int} {xs:List Nat} (p:ns'.Perm (xs.map λ (n:Nat)=>(n:Int))) (s:ns'.Pairwise (·<=·)):ns'.map V.int=nsV (srtN xs):=by
 have e:ns'=(srtN xs).map λ (n:Nat)=>(n:Int):=by refine (p.trans ((z7h xs).symm.map _)).eq_of_pairwise (le:=(·<=·)) (λ _ _ _ _ c d=>Int.le_antisymm c d) s ?_;exact List.Pairwise.map _ (λ a b h=>Int.ofNat_le.mpr h) (z6k xs)
 rw [e];unfold nsV;rw [V2];rfl
noncomputable abbrev Pl:=List Nat×Int
noncomputable abbrev Stp:=Nat×V×Pl
noncomputable def stq (r:Rc) (n:Nat) (pl:Pl):Stp:=(n,ansR r.v pl.2,(srtN (pl.1++[n]),nxtR r.v r.x pl.2))
noncomputable def stp (r:Rc) (n:Nat) (pl:Pl):Option Stp:=if r.e.isNone || decide (ansR r.v pl.2=r.a) then some (stq r n pl) else none
noncomputable def nexAt (c:Nat->Bool) (rs:List Rc) (pl:Pl) (n:Nat):Option Stp:=if c n=true then (match rs[n]? with|some r=>stp r n pl|none=>none) else none
noncomputable def nexT (c:Nat->Bool) (rs:List Rc) (pl:Pl) (i:Nat):List Stp:=(V0 i).filterMap (nexAt c rs pl)
theorem zbr {c:Nat->Bool} {rs:List Rc} {pl:Pl} {i:Nat}:nexT c rs pl (i + 1)=nexT c rs pl i++(nexAt c rs pl i).toList:=by unfold nexT;rw [m5,List.filterMap_append];congr 1
theorem zhp {c:Nat->Bool} {rs:List Rc} {pl:Pl} {i:Nat}:(nexT c rs pl i).length<=i:=by unfold nexT;exact F0 (O9 _ _) (by rw [W2];exact B0 _)
noncomputable def cO (rs:List Rc) (ns:List Nat) (n:Nat):Bool:=decide (n∉ns) && decide (∀a∈V0 rs.length,z0l rs a n=true->a∈ns)
noncomputable def cP (rs:List Rc) (ns:List Nat) (n:Nat):Bool:=cO rs ns n && decide (∀b∈V0 rs.length,z0l rs n b=true->b∉ns)
theorem cP_iff {rs:List Rc} {ns:List Nat} {n:Nat}:cP rs ns n=true↔n∉ns/\(∀a,z0l rs a n=true->a∈ns)/\∀b,z0l rs n b=true->b∉ns:=by unfold cP cO;rw [d3,d3,decide_eq_true_iff,decide_eq_true_iff,decide_eq_true_iff];exact ⟨λ h=>⟨h.1.1,λ a z=>h.1.2 a (List.mem_range.mpr (z1y z).1) z,λ b z=>h.2 b (List.mem_range.mpr (z1y z).2) z⟩,λ h=>⟨⟨h.1,λ a _ z=>h.2.1 a z⟩,λ b _ z=>h.2.2 b z⟩⟩
noncomputable abbrev nxT (rs:List Rc) (pl:Pl):List Stp:=nexT (cP rs pl.1) rs pl rs.length
theorem mem_nxT {rs:List Rc} {pl:Pl} {s:Stp}:s∈nxT rs pl↔∃n r,rs[n]? = some r/\cP rs pl.1 n=true/\(r.e=none\/ansR r.v pl.2=r.a)/\s=stq r n pl:=by
 unfold nxT nexT;rw [List.mem_filterMap];constructor
 ·rintro ⟨n,_,h⟩;unfold nexAt at h;cases hc:cP rs pl.1 n with
  | false=>rw [hc] at h;cases h
  | true=>
   rw [if_pos hc] at h;cases hr:rs[n]? with
   | none=>rw [hr] at h;cases h
   | some r=>
    rw [hr] at h;have h:stp r n pl=some s:=h;unfold stp at h;split at h
    ·rename_i z;cases h;rw [Bool.or_eq_true,decide_eq_true_iff] at z;exact ⟨n,r,hr,hc,z.imp Option.isNone_iff_eq_none.mp id,rfl⟩
    ·cases h
 ·rintro ⟨n,r,hr,hc,h,rfl⟩;refine ⟨n,List.mem_range.mpr (List.getElem?_eq_some_iff.mp hr).1,?_⟩;unfold nexAt;rw [if_pos hc,hr];show stp r n pl=_;unfold stp;rw [if_pos];rw [Bool.or_eq_true,decide_eq_true_iff];exact h.imp Option.isNone_iff_eq_none.mpr id
structure PlOk (N:Nat) (pl:Pl):Prop where
 nd:pl.1.Nodup
 lt :∀x∈pl.1,x < N
 so:pl.1.Pairwise (·<=·)
theorem z51 :∀(n:Nat) (ns:List Nat),ns.Nodup->(∀x∈ns,x < n)->ns.length<=n
 | 0,ns,_,h=>by
  cases ns with
  | nil=>exact B0 _
  | cons x r=>exact absurd (h x O1) (T2 _)
 | n + 1,ns,nd,h=>by
  have:=z51 n (ns.erase n) (nd.erase n) λ x a=>by
   have a:=(List.Nodup.mem_erase_iff nd).mp a;have:=h x a.2
   lia
  by_cases m:n∈ns
  ·rw [S6 m] at this
   lia
  ·rw [List.erase_of_not_mem m] at this
   lia
theorem PlOk.next {rs:List Rc} {pl:Pl} (h:PlOk rs.length pl) :∀s∈nxT rs pl,PlOk rs.length s.2.2/\s.2.2.1.length=pl.1.length + 1:=by
 intro s g;obtain ⟨n,r,d,f,_,rfl⟩:=mem_nxT.mp g;have c:=z7h (pl.1++[n]);show PlOk rs.length (srtN (pl.1++[n]),_)/\(srtN (pl.1++[n])).length=_;refine ⟨⟨?_,λ x j=>?_,z6k _⟩,by rw [c.length_eq,D0];rfl⟩
 ·refine c.nodup_iff.mpr ?_;rw [D5];exact ⟨h.nd,by simp,λ a i b k e=>(cP_iff.mp f).1 (by rw [<-List.mem_singleton.mp k,<-e];exact i)⟩
 ·rcases List.mem_append.mp (c.mem_iff.mp j) with z|z
  ·exact h.lt x z
  ·rw [List.mem_singleton.mp z];exact (List.getElem?_eq_some_iff.mp d).1
end
section
variable {P:Program} {w:S0} {mg:Str->Option Value} {base:Heap}
theorem lk_eq {f:Str} {v:V} {fs:List (Str×V)}:(putF f v fs).lookup f=some v:=by rw [z2s,if_pos rfl]
theorem lk_ne {f g:Str} {v:V} {fs:List (Str×V)} (h:g≠f):(putF f v fs).lookup g=fs.lookup g:=by rw [z2s,if_neg h]
theorem lk_n {f g:Str} {v:V} {fs:List (Str×V)} {o:Option V} (e:fs.lookup g=o) (h:g≠f:=by decide +kernel):(putF f v fs).lookup g=o:=(lk_ne h).trans e
theorem zbc {x dx:Addr} {o1 o2:HO} {H H':Hp} (hx:H x=none) (hd:H dx=none) (k:Kept x (upd (upd H dx o1) x o2) H'):Same H H':=λ p o e=>by
 have a:p≠x:=λ z=>by rw [z,hx] at e;cases e
 have b:p≠dx:=λ z=>by rw [z,hd] at e;cases e
 exact k p o a (by rw [upd_ne a,upd_ne b];exact e)
theorem z2i {K:d0} {ta tv:TE} {f:Str} {rest:TS} {D:Ends} {σ:L2.St} {H:Hp} (h:tv σ H λ y H1=>ta σ H1 λ x H2=>∃a C dx fs,x=.ref a/\H2 a=some (.ins C dx fs)/\Cls K C/\NoAttr K C f/\fs.length < 1000/\rest D σ (upd H2 a (.ins C dx (putF f y fs)))):tSeq (sFld K ta tv f) rest D σ H:=h
theorem zix {K:d0} {ta tv:TE} {f:Str} {D:Ends} {σ:L2.St} {H:Hp} (h:tv σ H λ y H1=>ta σ H1 λ x H2=>∃a C dx fs,x=.ref a/\H2 a=some (.ins C dx fs)/\Cls K C/\NoAttr K C f/\fs.length < 1000/\D.nx σ (upd H2 a (.ins C dx (putF f y fs)))):sFld K ta tv f D σ H:=h
theorem zey (f:Str) (v:V) :∀fs:List (Str×V),(putF f v fs).length<=fs.length + 1
 | []=>B0 _
 | (g,x) :: r=>by
  unfold putF;split
  ·simp
  ·have:=zey f v r;simp only [C1]
   lia
theorem z12 {K:d0} {x dx C:Addr} {H H1:Hp} {fs:List (Str×V)} {R:L2.St->Hp->Prop} {σ:L2.St} {f:Str} {y:V} {i n:Nat} (k:Kept x H H1) (e:H1 x=some (.ins C dx fs)) (hv:σ[i]? = some (some (.ref x))) (c:Cls K C) (na:NoAttr K C f) (l:fs.length<=n) (hn:n < 100)
  (q :∀H2,Kept x H H2->(∀b o,b≠x->H1 b=some o->H2 b=some o)->H2 x=some (.ins C dx (putF f y fs))->(putF f y fs).length<=n + 1->R σ H2) :
  tVar i σ H1 λ z H2=>∃a C dx fs,z=.ref a/\H2 a=some (.ins C dx fs)/\Cls K C/\NoAttr K C f/\fs.length < 1000/\R σ (upd H2 a (.ins C dx (putF f y fs))):=
 ⟨_,hv,x,C,dx,fs,rfl,e,c,na,by lia,q _ (k.trans .set) (λ b o d eb=>by rw [upd_ne d];exact eb) upd_same (F0 (zey f y fs) (by lia))⟩
theorem ins_tt {K:d0} {x C dx:Addr} {fs:List (Str×V)} {H H':Hp} (e:H x=some (.ins C dx fs)) (k:Kept x H H'):Tt K H H':=by
 refine ⟨λ a b h=>?_,λ a b h=>k _ _ (λ z=>by rw [z,e] at h;cases h) h⟩;rcases h with (h|⟨ob,h⟩)|h
 ·exact .inl (.inl (k _ _ (λ z=>by rw [z,e] at h;cases h) h))
 ·exact .inl (.inr ⟨ob,k _ _ (λ z=>by rw [z,e] at h;cases h) h⟩)
 ·exact .inr h
theorem zh7 {ps:List (Nat×Nat)} {q:Nat×Nat->Bool} {f:Nat×Nat->Nat} {us:List V} (h:All2 (λ (i:Nat) y=>∃p,ps[i]? = some p/\y=V.int (f p:Nat)) ((V0 ps.length).filter λ i=>(ps[i]?.map q).getD false) us) :∃as,us=nsV as/\as.length<=ps.length/\∀a,a∈as↔∃p∈ps,q p=true/\f p=a:=by
 refine ⟨((V0 ps.length).filter λ i=>(ps[i]?.map q).getD false).map λ i=>f (ps[i]?.getD (0,0)),?_,?_,λ a=>?_⟩
 ·generalize (V0 ps.length).filter (λ i=>(ps[i]?.map q).getD false)=is at h;induction h with
  | nil=>rfl
  | cons a r ih=>obtain ⟨p,d,b⟩:=a;rw [ih,b,Y0,d];rfl
 ·rw [L0];exact F0 (U1 _ _) (by rw [W2];exact B0 _)
 ·rw [X9];constructor
  ·rintro ⟨i,c,e⟩;obtain ⟨d,b⟩:=List.mem_filter.mp c;have j:=List.mem_range.mp d;have g:ps[i]? = some ps[i]:=N0 j;rw [g] at b e;exact ⟨_,o0 g,b,e⟩
  ·rintro ⟨p,g,d,b⟩;obtain ⟨i,c⟩:=List.mem_iff_getElem?.mp g;refine ⟨i,List.mem_filter.mpr ⟨List.mem_range.mpr (List.getElem?_eq_some_iff.mp c).1,?_⟩,?_⟩
   ·rw [c];exact d
   ·rw [c];exact b
theorem dec_iN (i j:Nat):decide (V.int (i:Int)=V.int (j:Int))=decide (i=j):=decide_eq_decide.mpr ⟨λ e=>by have:=V.int.inj e;lia,λ e=>by rw [e]⟩
def z13 (K:d0):Sp:=λ vs H Q _=>∃(x dx lp:Addr) (n:Nat) (iv kv y:V) (zs:List V) (ps:List (Nat×Nat)) (r:Rc),vs=[.ref x,.int n,y,iv,kv,.ref lp]/\H x=some (.ins 317 dx [])/\RcAt K H r y/\H lp=some (.lst zs)/\All2 (PairAt H) ps zs/\ps.length<=10000/\
 ∀fs la lb as bs H',Kept x H H'->H' x=some (.ins 317 dx fs)->fs.lookup ("number" : Str)=some (.int n)->fs.lookup ("thing" : Str)=some iv->fs.lookup ("kind" : Str)=some kv->fs.lookup ("verb" : Str)=some r.v->fs.lookup ("worth" : Str)=some r.x->fs.lookup ("answer" : Str)=some r.a->fs.lookup ("aheads" : Str)=some (.ref la)->fs.lookup ("behinds" : Str)=some (.ref lb)->fs.lookup ("may_stand" : Str)=none->H' la=some (.lst (nsV as))->H' lb=some (.lst (nsV bs))->(∀a,a∈as↔(a,n)∈ps)->(∀b,b∈bs↔(n,b)∈ps)->as.length<=10000->bs.length<=10000->H la=none->H lb=none->Q .non H'
theorem zam (T:TX (kx w) mg):Fo P w mg base (CXE P w base) 1 307 y01 ["self","number","deed","thing","kind","pairs"] (z13 (kx w)):=by
 refine (z1a w.params).okE z2u (λ vs H Q E h=>?_) (λ b8 A b9 s H vs Q E hr h=>?_)
 ·obtain ⟨x,dx,O,n,iv,kv,y,D,B,r,rfl,_⟩:=h;rfl
 ·obtain ⟨x,dx,O,n,iv,kv,y,D,B,r,rfl,C,⟨p,rfl,sq⟩,V,al,pl,q⟩:=h;refine ⟨_,(z01 (ps_fld (pv 0) (pv 1) rfl)
   (z01 (ps_fld (pv 0) (pv 3) rfl)
   (z01 (ps_fld (pv 0) (pv 4) rfl)
   (z01 (ps_fld (pv 0) (pe_ix ix_seq (pv 2) pe_int (λ _ _=>rfl)) rfl)
   (z01 (ps_fld (pv 0) (pe_ix ix_seq (pv 2) pe_int (λ _ _=>rfl)) rfl)
   (z01 (ps_fld (pv 0) (pe_ix ix_seq (pv 2) pe_int (λ _ _=>rfl)) rfl)
   (z01 (ps_fld (pv 0) (pe_cg (xs:=["ahead","behind"]) (g:=gTup (kx w) 2 (gCons (gName 0) (gCons (gName 1) gNil))) (fr:=[(1,"number")]) (z0v (pv 5)) (λ _ _ _ _ _=>(pg_tup rfl (z08 (pg_cn (N:=["ahead","behind","number"]) 0) (z08 (pg_cn (N:=["ahead","behind","number"]) 1) z0p)))) (λ _ _ _ _ _=>(pf_one (z07 opEq (pv 1) (pv 2) (nomark _)))) (λ _ _ _ _ _=>(pv 0))) rfl)
   (z03 (ps_fld (pv 0) (pe_cg (xs:=["ahead","behind"]) (g:=gTup (kx w) 2 (gCons (gName 0) (gCons (gName 1) gNil))) (fr:=[(1,"number")]) (z0v (pv 5)) (λ _ _ _ _ _=>(pg_tup rfl (z08 (pg_cn (N:=["ahead","behind","number"]) 0) (z08 (pg_cn (N:=["ahead","behind","number"]) 1) z0p)))) (λ _ _ _ _ _=>(pf_one (z07 opEq (pv 0) (pv 2) (nomark _)))) (λ _ _ _ _ _=>(pv 1))) rfl))))))))),?_⟩
  have a5 :∀{H1 J:Hp} {l:Addr},Kept x H H1->Kept x H1 J->l≠x->J l=none->H l=none:=λ {H1 J l} k k' nl hl=>by
   cases z:H l with
   | none=>rfl
   | some o=>rw [k' l o nl (k l o nl z)] at hl;cases hl
  refine z2i ⟨_,rfl,z12 Kept.refl C rfl (z09 _) (z0k _) (n:=0) (B0 _) (by decide) λ H1 e _ e1 c=>?_⟩;refine z2i ⟨_,rfl,z12 e e1 rfl (z09 _) (z1s _) c (by decide) λ J u _ e2 c=>?_⟩;refine z2i ⟨_,rfl,z12 u e2 rfl (z09 _) (z22 _) c (by decide) λ H3 k3 _ e3 c=>?_⟩;have t3:Tt (kx w) H H3:=ins_tt C k3;refine z2i ⟨_,rfl,.inr (.inl ⟨p,_,2,r.v,rfl,rfl,t3.t _ _ sq,z04 (j:=2) rfl,z12 k3 e3 rfl (z09 _) (z20 _) c (by decide) λ H4 k4 _ e4 c=>?_⟩)⟩;refine z2i ⟨_,rfl,.inr (.inl ⟨p,_,3,r.x,rfl,rfl,(ins_tt C k4).t _ _ sq,z04 (j:=3) rfl,z12 k4 e4 rfl (z09 _) (z1r _) c (by decide) λ H5 k5 _ e5 c=>?_⟩)⟩;refine z2i ⟨_,rfl,.inr (.inl ⟨p,_,4,r.a,rfl,rfl,(ins_tt C k5).t _ _ sq,z04 (j:=4) rfl,z12 k5 e5 rfl (z09 _) (z0x _) c (by decide) λ H6 S _ e6 c=>?_⟩)⟩;have a4:O≠x:=λ z=>by rw [z,C] at V;cases V
  have zl:D.length=B.length:=z05 al;have a3 :∀{M:Hp},Kept x H M->All2 (PairAt M) B D:=λ k=>z02 (λ _ _ z=>z.elim λ b y=>⟨b,y.1,(ins_tt (K:=KX w.params) C k).l _ _ y.2⟩) al;refine z2i ?_;refine z29 (K:=KX w.params) (a:=O) (xs:=D) (H1:=H6) (λ i=>(B[i]?.map λ p=>decide (p.2=n)).getD false) (λ i y _=>∃p,B[i]? = some p/\y=.int (((λ p:Nat×Nat=>p.1) p:Nat):Int)) (λ _ _ _ _ _ z=>z) (λ R h=>⟨_,rfl,h⟩) (SqL.of (S _ _ a4 V)) (F0 (m:=10000) (by lia) (by decide)) (λ i hi v M s' hv KT KF e u=>?_) λ G H7 us s7 X b0=>?_
  ·obtain ⟨d,hp,b,rfl,eb⟩:=z0a (a3 S) hv;rw [hp] at e u;refine ⟨b,_,rfl,SqT.of (s' _ _ eb),rfl,_,_,rfl,_,_,rfl,rfl,[some (.int d.1),some (.int d.2)],rfl,rfl,?_⟩;refine ⟨_,rfl,_,rfl,rfl,_,rfl,?_⟩;rw [dec_iN];exact ite2 (λ z=>⟨_,rfl,e z _ _ (Same.refl _) ⟨d,rfl,rfl⟩⟩) λ z=>u (Bool.eq_false_iff.mpr z) _ (Same.refl _)
  rw [zl] at b0;obtain ⟨I,rfl,b7,b6⟩:=zh7 (q:=λ p=>decide (p.2=n)) (f:=λ p=>p.1) b0;have Z:=s7.trans (Same.upd (o:=.lst (nsV I)) X);have a2:upd H7 G (.lst (nsV I)) G=some (.lst (nsV I)):=upd_same;have Y:G≠x:=λ z=>by rw [z,s7 _ _ e6] at X;cases X
  generalize upd H7 G (.lst (nsV I))=H8 at Z a2⊢;refine z12 (S.trans Z.kept) (Z _ _ e6) rfl (z09 _) (z1h _) c (by decide) λ H9 W b2 e9 c=>?_;have b5:=b2 _ _ Y a2;refine zix ?_;refine z29 (K:=KX w.params) (a:=O) (xs:=D) (H1:=H9) (λ i=>(B[i]?.map λ p=>decide (p.1=n)).getD false) (λ i y _=>∃p,B[i]? = some p/\y=.int (((λ p:Nat×Nat=>p.2) p:Nat):Int)) (λ _ _ _ _ _ z=>z) (λ R h=>⟨_,rfl,h⟩) (SqL.of (W _ _ a4 V)) (F0 (m:=10000) (by lia) (by decide)) (λ i hi v M s' hv KT KF e u=>?_) λ F a6 us a0 L a7=>?_
  ·obtain ⟨d,hp,b,rfl,eb⟩:=z0a (a3 W) hv;rw [hp] at e u;refine ⟨b,_,rfl,SqT.of (s' _ _ eb),rfl,_,_,rfl,_,_,rfl,rfl,[some (.int d.1),some (.int d.2)],rfl,rfl,?_⟩;refine ⟨_,rfl,_,rfl,rfl,_,rfl,?_⟩;rw [dec_iN];exact ite2 (λ z=>⟨_,rfl,e z _ _ (Same.refl _) ⟨d,rfl,rfl⟩⟩) λ z=>u (Bool.eq_false_iff.mpr z) _ (Same.refl _)
  rw [zl] at a7;obtain ⟨bs,rfl,c0,b1⟩:=zh7 (q:=λ p=>decide (p.1=n)) (f:=λ p=>p.2) a7;have U:=a0.trans (Same.upd (o:=.lst (nsV bs)) L);have a8:upd a6 F (.lst (nsV bs)) F=some (.lst (nsV bs)):=upd_same;have a9:F≠x:=λ z=>by rw [z,a0 _ _ e9] at L;cases L
  generalize upd a6 F (.lst (nsV bs))=H11 at U a8⊢;refine z12 (W.trans U.kept) (U _ _ e9) rfl (z09 _) (z1d _) c (by decide) λ b3 b4 a1 e12 c=>?_;refine q _ G F I bs b3 b4 e12 (lk_n (lk_n (lk_n (lk_n (lk_n (lk_n (lk_n lk_eq))))))) (lk_n (lk_n (lk_n (lk_n (lk_n (lk_n lk_eq)))))) (lk_n (lk_n (lk_n (lk_n (lk_n lk_eq))))) (lk_n (lk_n (lk_n (lk_n lk_eq)))) (lk_n (lk_n (lk_n lk_eq))) (lk_n (lk_n lk_eq)) (lk_n lk_eq) lk_eq (lk_n (lk_n (lk_n (lk_n (lk_n (lk_n (lk_n (lk_n rfl)))))))) (a1 _ _ Y (U _ _ b5)) (a1 _ _ a9 a8) (λ a=>(b6 a).trans ⟨λ ⟨p,h1,h2,h3⟩=>?_,λ h=>⟨_,h,decide_eq_true rfl,rfl⟩⟩) (λ b=>(b1 b).trans ⟨λ ⟨p,h1,h2,h3⟩=>?_,λ h=>⟨_,h,decide_eq_true rfl,rfl⟩⟩) (by lia) (by lia) (a5 S (s7.kept (r:=x)) Y X) (a5 W (a0.kept (r:=x)) a9 L)
  ·rw [<-h3,<-of_decide_eq_true h2];exact h1
  ·rw [<-h3,<-of_decide_eq_true h2];exact h1
def CaAt (H:Hp) (rs:List Rc) (n:Nat) (r:Rc) (y:V):Prop:=∃x dx fs la lb as bs,y=.ref x/\H x=some (.ins 317 dx fs)/\fs.lookup ("number" : Str)=some (.int (n:Nat))/\fs.lookup ("thing" : Str)=some (.int 0)/\fs.lookup ("kind" : Str)=some (.str "register")/\fs.lookup ("verb" : Str)=some r.v/\fs.lookup ("worth" : Str)=some r.x/\fs.lookup ("answer" : Str)=some r.a/\fs.lookup ("aheads" : Str)=some (.ref la)/\fs.lookup ("behinds" : Str)=some (.ref lb)/\fs.lookup ("may_stand" : Str)=none/\H la=some (.lst (nsV as))/\H lb=some (.lst (nsV bs))/\(∀a,a∈as↔z0l rs a n=true)/\(∀b,b∈bs↔z0l rs n b=true)/\as.length<=10000/\bs.length<=10000
theorem CaAt.same {H H':Hp} {rs:List Rc} {n:Nat} {r:Rc} {y:V} (s:Same H H') (h:CaAt H rs n r y):CaAt H' rs n r y:=by obtain ⟨x,g,fs,u,m,v,bs,o,j,t,k,c,f,a,q,d,p,l,b,i,e⟩:=h;exact ⟨x,g,fs,u,m,v,bs,o,s _ _ j,t,k,c,f,a,q,d,p,l,s _ _ b,s _ _ i,e⟩
def z11 (K:d0):Sp:=λ vs H Q _=>∃(y:V) (pa:Addr) (n:Nat) (rs:List Rc) (r:Rc) (ns:List Nat),vs=[y,.ref pa]/\CaAt H rs n r y/\SqT K H pa (nsV ns)/\Q (.bl (cP rs ns n)) H
theorem z2p (T:TX (kx w) mg):Fo P w mg base CX0 1 314 y00 ["self","done"] (z11 (kx w)):=by
 refine (z15 w.params).ok sc_Candidate_may_stand (λ O H Q E h=>?_) (λ a0 A a1 s H O Q E hr h=>?_)
 ·obtain ⟨y,f,n,rs,r,d,rfl,_⟩:=h;rfl
 ·obtain ⟨y,f,n,rs,r,d,rfl,⟨x,v,fs,L,I,l,bs,rfl,B,M,f2,f3,f4,Z,X,U,W,f9,D,eb,J,G,Y,bl⟩,sq,q⟩:=h;refine ⟨_,(z01 (ps_if (z07 z3o (pe_fld (pv 0) rfl) (pv 1) (by with_unfolding_all rfl))
   (z03 (ps_ret pe_bl))
   z0c)
   (z01 (ps_for Q1 rfl (z0v (pe_fld (pv 0) rfl)) (z0d (i:=2) sc_Candidate_may_stand.nd rfl (P0 rfl))
   (z03 (ps_if (z07 z1b (pv 2) (pv 1) (by with_unfolding_all rfl))
   (z03 (ps_ret pe_bl))
   z0c)))
   (z01 (ps_for Q1 rfl (z0v (pe_fld (pv 0) rfl)) (z0d (i:=3) sc_Candidate_may_stand.nd rfl (P0 rfl))
   (z03 (ps_if (z07 z3o (pv 3) (pv 1) (by with_unfolding_all rfl))
   (z03 (ps_ret pe_bl))
   z0c)))
   (z03 (ps_ret pe_bl))))),?_⟩
  refine sq_if ?_;refine ⟨_,rfl,x,_,v,fs,_,rfl,B,z09 _,z0k _,M,_,rfl,f,_,rfl,.inr sq,rfl,z8f _,_,rfl,?_⟩;have q:=λ b (h:b=cP rs d n)=>(show Q (.bl b) H from h ▸ q)
  by_cases z1:n∈d
  ·refine iteP ?_ (q _ ?_)
   ·rw [inV_ns];exact decide_eq_true z1
   ·unfold cP cO;rw [decide_eq_false (λ h=>h z1)];rfl
  refine iteN (λ h=>z1 (of_decide_eq_true (by rw [inV_ns] at h;exact h))) ?_;refine t_nx ?_;have F :∀{l:List Nat} {j:Nat} {y:V},(nsV l)[j]? = some y->∃a,l[j]? = some a/\y=.int (a:Nat):=λ h=>by unfold nsV at h;rw [E2] at h;obtain ⟨a,R,N⟩:=Option.map_eq_some_iff.mp h;exact ⟨a,R,N.symm⟩
  refine ⟨_,rfl,x,_,v,fs,_,rfl,B,z09 _,z1h _,U,L,rfl,⟨_,SqL.of D⟩,?_⟩;refine z1o (K:=KX w.params) (a:=L) (xs:=nsV l) (λ i σ m=>m=H/\(∀k a,k < i->l[k]? = some a->a∈d)/\∃x2 x3,σ=[some (.ref x),some (.ref f),x2,x3]) ⟨rfl,λ k a c=>absurd c (T2 _),_,_,rfl⟩ (λ _ σ m _ h=>by rw [h.1];exact SqL.of D) ?_ ?_
  ·rintro j y σ m u ⟨rfl,fj,x2,x3,rfl⟩;obtain ⟨a,g,rfl⟩:=F u;refine g_name ⟨_,rfl,_,rfl,f,_,rfl,.inr sq,rfl,z8f _,_,rfl,?_⟩;by_cases z2:a∈d
   ·refine iteN (λ h=>?_) ⟨rfl,λ k t c e=>?_,_,_,rfl⟩
    ·rw [inV_ns,decide_eq_true z2] at h;cases h
    ·by_cases z:k=j
     ·subst z;rw [g] at e;cases e;exact z2
     ·exact fj k t (by lia) e
   ·refine iteP ?_ (q _ ?_)
    ·rw [inV_ns,decide_eq_false z2];rfl
    ·have h:=(J a).mp (o0 g);unfold cP cO;rw [decide_eq_false (p:=∀a∈V0 rs.length,z0l rs a n=true->a∈d) (λ C=>z2 (C a (List.mem_range.mpr (z1y h).1) h)),y9,Bool.false_and]
  rintro σ m ⟨rfl,fj,x2,x3,rfl⟩;refine t_nx ?_;have S:cO rs d n=true:=by unfold cO;rw [d3,decide_eq_true_iff,decide_eq_true_iff];refine ⟨z1,λ a _ h=>?_⟩;obtain ⟨k,c⟩:=List.mem_iff_getElem?.mp ((J a).mpr h);exact fj k a (by rw [z9m];exact (List.getElem?_eq_some_iff.mp c).1) c
  refine ⟨_,rfl,x,_,v,fs,_,rfl,B,z09 _,z1d _,W,I,rfl,⟨_,SqL.of eb⟩,?_⟩;refine z1o (K:=KX w.params) (a:=I) (xs:=nsV bs) (λ i σ o=>o=m/\(∀k a,k < i->bs[k]? = some a->a∉d)/\∃x2 x3,σ=[some (.ref x),some (.ref f),x2,x3]) ⟨rfl,λ k a c=>absurd c (T2 _),_,_,rfl⟩ (λ _ σ o _ h=>by rw [h.1];exact SqL.of eb) ?_ ?_
  ·rintro j y σ o u ⟨rfl,gj,x2,x3,rfl⟩;obtain ⟨a,g,rfl⟩:=F u;refine g_name ⟨_,rfl,_,rfl,f,_,rfl,.inr sq,rfl,z8f _,_,rfl,?_⟩;by_cases z2:a∈d
   ·refine iteP ?_ (q _ ?_)
    ·rw [inV_ns];exact decide_eq_true z2
    ·have h:=(G a).mp (o0 g);unfold cP;rw [decide_eq_false (λ C=>C a (List.mem_range.mpr (z1y h).2) h z2),y9]
   ·refine iteN (λ h=>?_) ⟨rfl,λ k t c e=>?_,_,_,rfl⟩
    ·rw [inV_ns] at h;exact z2 (of_decide_eq_true h)
    ·by_cases z:k=j
     ·subst z;rw [g] at e;cases e;exact z2
     ·exact gj k t (by lia) e
  rintro σ o ⟨rfl,gj,x2,x3,rfl⟩;refine t_nx (q _ ?_);unfold cP;rw [S,Bool.true_and];refine (decide_eq_true λ b _ h=>?_).symm;obtain ⟨k,c⟩:=List.mem_iff_getElem?.mp ((G b).mpr h);exact gj k b (by rw [z9m];exact (List.getElem?_eq_some_iff.mp c).1) c
theorem zdn {X:Cx} {K:d0} (hK:X.K=K):OpR X (K2 .In) (rIn K false):=hK ▸ z3o
def PlZ (K:d0) (H:Hp) (p:Addr) (pl:Pl):Prop:=∃pa pb,SqT K H p [.ref pa,.ref pb]/\SqT K H pa (nsV pl.1)/\SqT K H pb [.int pl.2]
theorem PlZ.tups {K:d0} {H H':Hp} {p:Addr} {pl:Pl} (t:Tups K H H') (h:PlZ K H p pl):PlZ K H' p pl:=by obtain ⟨a,e,c,d,b⟩:=h;exact ⟨a,e,t _ _ c,t _ _ d,t _ _ b⟩
def StpZ (K:d0) (H:Hp) (s:Stp) (y:V):Prop:=∃b p,y=.ref b/\SqT K H b [.int (s.1:Nat),s.2.1,.ref p]/\PlZ K H p s.2.2
theorem StpZ.tups {K:d0} {H H':Hp} {s:Stp} {y:V} (t:Tups K H H') (h:StpZ K H s y):StpZ K H' s y:=by obtain ⟨b,p,c,d,a⟩:=h;exact ⟨b,p,c,t _ _ d,a.tups t⟩
structure GD (nm:Str) (r:Rc):Prop where
 n:r.n=.str nm
 d:RegD r.v r.x
 a:(r.e=none/\r.a=.non)\/(r.e.isSome=true/\(r.a=.str "ok"\/∃i,r.a=.int i))
def TlE (K:d0) (H:Hp) (t:Addr) (nm:Str) (es:List Ev):Prop:=∃pt te th ys,SqT K H t [.ref pt,.ref te]/\SqT K H pt [.ref th]/\SqT K H th [.str nm,.str "register"]/\SqT K H te ys/\All2 (EvAt K H) es ys
theorem TlE.tups {K:d0} {H H':Hp} {t:Addr} {nm:Str} {es:List Ev} (x:Tups K H H') (h:TlE K H t nm es):TlE K H' t nm es:=by obtain ⟨pt,c,e,d,b,f,g,i,a⟩:=h;exact ⟨pt,c,e,d,x _ _ b,x _ _ f,x _ _ g,x _ _ i,z02 (λ _ _ z=>EvAt.tups x z) a⟩
theorem set_sl {K:d0} {σ:L2.St} {H:Hp} {Q:VK} {t1 t2 ti tv tj:TE} {pb:Addr} {vs:List V} {i:Nat} {v:V} (h1 :∀(H':Hp) (R:VK),Same H H'->R (.ref pb) H'->t1 σ H' R) (h2 :∀(H':Hp) (R:VK),Same H H'->R (.ref pb) H'->t2 σ H' R) (hi :∀(H':Hp) (R:VK),Same H H'->R (.int (i:Nat)) H'->ti σ H' R) (hv :∀(H':Hp) (R:VK),Same H H'->R v H'->tv σ H' R) (hj :∀(H':Hp) (R:VK),Same H H'->R (.int ((i:Int) + 1)) H'->tj σ H' R)
  (sq:SqT K H pb vs) (il:i < vs.length) (l9:vs.length<=90) (q :∀p5 H',Same H H'->SqT K H' p5 (vs.set i v)->Q (.ref p5) H') :
  tOp (λ x y H Q=>rCatS K x y H Q\/rCatT K x y H Q) (tOp (λ x y H Q=>rCatS K x y H Q\/rCatT K x y H Q) (tSl (λ x lo hi H Q=>rSlL K x lo hi H Q\/rSlT K x lo hi H Q\/rSlS x lo hi H Q) t1 ze5 (tPart ti)) (tTup (tCons tv tNil))) (tSl (λ x lo hi H Q=>rSlL K x lo hi H Q\/rSlT K x lo hi H Q\/rSlS x lo hi H Q) t2 (tPart tj) ze5) σ H Q:=by
 refine h1 _ _ (Same.refl _) (hi _ _ (Same.refl _) ⟨i,rfl,.inr (.inl ⟨pb,vs,rfl,sq,λ z=>?_,λ c t=>?_⟩)⟩)
 ·have:=z.2;rw [HT.sIx_nat] at this
  lia
 have F:cutV vs none (some (i:Int))=vs.take i:=by unfold cutV;rw [HT.sIx_none,HT.sIx_nat,G5,Nat.sub_zero,i9 (by lia)]
 have j:=Same.upd (o:=.tup (cutV vs none (some (i:Int)))) t;have r:upd H c (.tup (cutV vs none (some (i:Int)))) c=some (.tup (vs.take i)):=by rw [upd_same,F]
 generalize upd H c (.tup (cutV vs none (some (i:Int))))=H1 at j r⊢;refine hv _ _ j ⟨w_1,λ G s=>?_⟩;obtain ⟨J,E,k,w⟩:=newA (.tup [v]) s;rw [<-E];refine .inl ⟨c,G,vs.take i,[v],rfl,rfl,SqT.of (k _ _ r),SqT.of w,by simp,F0 (m:=100) (by rw [n4];show _ + 1<=100;lia) (by decide),λ p g u D=>?_⟩;have a:Same H g:=(j.trans k).trans u;refine h2 _ _ a (hj _ _ a ⟨_,rfl,.inr (.inl ⟨pb,vs,rfl,a.seqT sq,λ z=>?_,λ b A=>?_⟩)⟩)
 ·have:=z.1;rw [show (i:Int) + 1=((i + 1:Nat):Int) from rfl,HT.sIx_nat] at this
  lia
 have C:cutV vs (some ((i:Int) + 1)) none=vs.drop (i + 1):=by unfold cutV;rw [show (i:Int) + 1=((i + 1:Nat):Int) from rfl,HT.sIx_none,HT.sIx_nat,i9 (by lia)];exact B5 (by rw [Z6];exact B0 _)
 have e:=Same.upd (o:=.tup (cutV vs (some ((i:Int) + 1)) none)) A;have h:upd g b (.tup (cutV vs (some ((i:Int) + 1)) none)) b=some (.tup (vs.drop (i + 1))):=by rw [upd_same,C]
 generalize upd g b (.tup (cutV vs (some ((i:Int) + 1)) none))=H4 at e h⊢;have f:vs.take i++[v]++vs.drop (i + 1)=vs.set i v:=by rw [List.set_eq_take_append_cons_drop,if_pos il,G8];rfl
 have d:=e.seqT D;have l:(vs.take i++[v]).length + (vs.drop (i + 1)).length<=sizeLine:=F0 (m:=100) (by rw [<-D0,f,List.length_set];lia) (by decide);by_cases hd:vs.drop (i + 1)=[]
 ·refine .inr ⟨p,b,_,_,rfl,rfl,d,SqT.of h,by simp,l,λ _=>?_,λ z=>absurd hd z⟩;rw [hd,Q2] at f;rw [f] at d;exact q _ _ (a.trans e) d
 ·refine .inl ⟨p,b,_,_,rfl,rfl,d,SqT.of h,hd,l,λ p5 I B n=>?_⟩;rw [f] at n;exact q _ _ ((a.trans e).trans B) n
def z98 (K:d0):Sp:=λ vs H Q _=>∃(y:V) (pp:Addr) (n:Nat) (rs:List Rc) (r:Rc) (pl:Pl),vs=[y,.ref pp]/\CaAt H rs n r y/\RegD r.v r.x/\PlZ K H pp pl/\pl.1.length < 63/\
 ∀b q H',Same H H'->H' b=some (.tup [.int (n:Nat),ansR r.v pl.2,.ref q])->StpZ K H' (stq r n pl) (.ref b)->Q (.ref b) H'
theorem zeg (T:TX (kx w) mg) (c0:Ca P w mg base "do" ["kind","state","verb","worth"] 5 (sp_do (kx w))):Fo P w mg base CX0 6 368 y1r ["candidate","place"] (z98 (kx w)):=by
 refine (z7f w.params).ok sc_step_of (λ vs H Q E h=>?_) (λ b0 A b7 s H vs Q E hr h=>?_)
 ·obtain ⟨y,B,n,rs,r,a,rfl,_⟩:=h;rfl
 ·obtain ⟨y,B,n,rs,r,a,rfl,⟨x,c,fs,la,lb,as,bs,rfl,d,f1,f2,f3,f4,f5,f6,f7,f8,f9,ea,eb,ma,mb,al,bl⟩,gd,⟨K,I,O,sa,Z⟩,a9,q⟩:=h;refine ⟨_,(z01 (ps_set (i:=2) sc_step_of.nd rfl (P0 rfl) (pe_fld (pv 0) rfl))
   (z01 (ps_set (i:=3) sc_step_of.nd rfl (P0 rfl) (pe_ix ix_seq (pv 1) pe_int (λ _ _=>rfl)))
   (z01 (ps_set (i:=4) sc_step_of.nd rfl (P0 rfl) (pe_cal c0 (hr.mono (by decide)) rfl (z00 (pe_fld (pv 0) rfl) (z00 (pe_ix ix_seq (pv 3) (pv 2) (λ _ _=>rfl)) (z00 (pe_fld (pv 0) rfl) (z00 (pe_fld (pv 0) rfl) pa_nil))))))
   (z01 (ps_set (i:=5) sc_step_of.nd rfl (P0 rfl) (z52 z1l rfl (T.no (zc0 _)) j01 (z00 (z0h zau rfl (T.no (zha _)) boot_sorted (z00 (pe_op op_catS (pe_ix ix_seq (pv 1) pe_int (λ _ _=>rfl)) (pe_tup (z00 (pe_fld (pv 0) rfl) pa_nil))) pa_nil)) pa_nil)))
   (z03 (ps_ret (pe_tup (z00 (pe_fld (pv 0) rfl) (z00 (pe_ix ix_seq (pv 4) pe_int (λ _ _=>rfl)) (z00 (pe_tup (z00 (pv 5) (z00 (pe_op (op_catS.or zb4) (pe_op (op_catS.or zb4) (z32 slSeq (pv 3) z6r (z4q (pv 2))) (pe_tup (z00 (pe_ix ix_seq (pv 4) pe_int (λ _ _=>rfl)) pa_nil))) (z32 slSeq (pv 3) (z4q (pe_op opAdd (pv 2) pe_int)) z6r)) pa_nil))) pa_nil)))))))))),?_⟩
  refine ⟨_,rfl,x,_,c,fs,_,rfl,d,z09 _,z1s _,f2,?_⟩;refine g_name (t_nx ?_);refine ⟨_,rfl,.inr (.inl ⟨B,_,1,.ref I,rfl,rfl,O,z04 (j:=1) rfl,?_⟩)⟩;refine g_name (t_nx ?_);refine ⟨_,rfl,x,_,c,fs,_,rfl,d,z09 _,z22 _,f3,?_⟩;refine ⟨_,rfl,_,rfl,.inr (.inl ⟨I,_,0,.int a.2,rfl,rfl,Z,z04 (j:=0) rfl,?_⟩)⟩;refine ⟨_,rfl,x,_,c,fs,_,rfl,d,z09 _,z20 _,f4,?_⟩;refine ⟨_,rfl,x,_,c,fs,_,rfl,d,z09 _,z1r _,f5,?_⟩;refine ⟨r.v,r.x,a.2,rfl,gd,λ M D l U=>?_⟩;refine g_name (t_nx ?_);refine z0g ?_;refine ⟨_,rfl,.inr (.inl ⟨B,_,0,.ref K,rfl,rfl,l.seqT O,z04 (j:=0) rfl,?_⟩)⟩;refine ⟨_,rfl,x,_,c,fs,_,rfl,l _ _ d,z09 _,z0k _,f1,w_1,λ t a1=>?_⟩;have Y:=l.trans (Same.upd (o:=.tup [.int (n:Nat)]) a1);have N:=Same.upd (o:=.tup [.int (n:Nat)]) a1;have e7:upd D t (.tup [.int (n:Nat)]) t=some (.tup [.int (n:Nat)]):=upd_same;generalize upd D t (.tup [.int (n:Nat)])=H7 at Y N e7⊢;refine ⟨K,t,nsV a.1,[.int (n:Nat)],rfl,rfl,Y.seqT sa,SqT.of e7,by simp,F0 (m:=100) (by rw [z9m];show _ + 1<=100;lia) (by decide),λ b2 H8 r8 S=>?_⟩;rw [show nsV a.1++[.int (n:Nat)]=((a.1++[n]).map λ (n:Nat)=>(n:Int)).map V.int by unfold nsV;rw [V2,X0];rfl] at S;refine ⟨b2,_,rfl,.inr S,by rw [L0,D0];show _ + 1 < 64;lia,λ l3 b3 a8 pm pw=>?_⟩;rw [zj8 pm pw];obtain ⟨H9,f,r9,e9⟩:=newA (.lst (nsV (srtN (a.1++[n])))) a8;rw [<-f];refine ⟨l3,_,rfl,.inl ⟨SqL.of e9,λ k a4=>?_⟩⟩;obtain ⟨W,f,a7,a3⟩:=newA (.tup (nsV (srtN (a.1++[n])))) a4;rw [<-f];refine g_name ?_;have z:Same D W:=((N.trans r8).trans r9).trans a7;have C:=l.trans z;refine sq_ret ?_;refine ⟨_,rfl,x,_,c,fs,_,rfl,C _ _ d,z09 _,z0k _,f1,?_⟩;refine ⟨_,rfl,.inr (.inl ⟨M,_,1,_,rfl,rfl,SqT.of (z _ _ U),z04 (j:=1) rfl,?_⟩)⟩;refine ⟨_,rfl,zed (set_sl (i:=0) (v:=.int (nxtR r.v r.x a.2)) (λ p R e h=>⟨_,rfl,h⟩) (λ p R e h=>⟨_,rfl,h⟩) (λ p R e h=>⟨_,rfl,h⟩) (λ p R e h=>⟨_,rfl,.inr (.inl ⟨M,_,0,_,rfl,rfl,SqT.of (e _ _ (z _ _ U)),z04 (j:=0) rfl,h⟩)⟩) (λ p R e h=>⟨_,rfl,.inl ⟨_,1,rfl,rfl,h⟩⟩) (C.seqT Z) (V1 0) (show (1:Nat)<=90 by decide) λ g G a6 a5=>?_)⟩;refine ⟨w_2,λ b a2=>⟨w_3,λ b6 a0=>?_⟩⟩;have u:=Same.upd (o:=.tup [.ref k,.ref g]) a2;have e12:upd G b (.tup [.ref k,.ref g]) b=some (.tup [.ref k,.ref g]):=upd_same;generalize upd G b (.tup [.ref k,.ref g])=H12 at u e12 a0⊢;obtain ⟨J,f,F,X⟩:=newA (.tup [.int (n:Nat),ansR r.v a.2,.ref b]) a0;rw [<-f];have L:Same W J:=(a6.trans u).trans F;exact q b6 b J (C.trans L) X ⟨b6,b,rfl,SqT.of X,k,g,SqT.of (F _ _ e12),SqT.of (L _ _ a3),(u.trans F).seqT a5⟩
def EndL (rs:List Rc) (es:List Nat):Prop:=es.length<=rs.length/\∀n,n∈es↔∃r,rs[n]? = some r/\r.e.isSome=true
def z2r (K:d0):Sp:=λ vs H Q _=>∃(l:Addr) (zs:List V) (rs:List Rc),vs=[.ref l]/\H l=some (.lst zs)/\All2 (RcAt K H) rs zs/\rs.length<=100/\
 ∀le es H',Same H H'->H' le=some (.lst (nsV es))->EndL rs es->Q (.ref le) H'
theorem z5s (T:TX (kx w) mg):Fo P w mg base CX0 1 373 y09 ["told"] (z2r (kx w)):=by
 refine (z1q w.params).ok z5r (λ J H Q E h=>?_) (λ U A Y s H J Q E W h=>?_)
 ·obtain ⟨l,d,rs,rfl,_⟩:=h;rfl
 ·obtain ⟨l,d,rs,rfl,u,k,O,q⟩:=h;refine ⟨_,(z03 (ps_ret (pe_cg (xs:=["number","deed"]) (g:=gTup (kx w) 2 (gCons (gName 0) (gCons (gName 1) gNil))) (fr:=[]) (z62 rfl (T.no (z0u _)) (z00 (pv 0) pa_nil)) (λ _ _ _ _ _=>(pg_tup rfl (z08 (pg_cn (N:=["number","deed"]) 0) (z08 (pg_cn (N:=["number","deed"]) 1) z0p)))) (λ _ _ _ _ _=>(pf_one (z07 z44 (pe_ix (z0j (K:=KX w.params) rfl) (pv 1) pe_int (λ _ _=>rfl)) pe_non (nomark _)))) (λ _ _ _ _ _=>(pv 0))))),?_⟩;have o:d.length=rs.length:=z05 k;refine sq_ret ?_;refine zc5 (K:=KX w.params) (a:=l) (xs:=d) (H1:=H) (λ i=>(rs[i]?.map λ r=>r.e.isSome).getD false) (λ i y _=>y=.int (i:Nat)) (λ _ _ _ _ _ z=>z) (λ R h=>⟨_,rfl,h⟩) (SqL.of u) (F0 (m:=100) (by lia) (by decide)) ?_ ?_
  ·intro i X v M f G KT S b c;obtain ⟨x,L,D,rfl,F⟩:=G;obtain ⟨r,I,p,rfl,t⟩:=z0a k D;rw [I] at b c;refine ⟨L,_,rfl,SqT.of F,rfl,_,_,rfl,_,_,rfl,rfl,[some (.int (i:Nat)),some (.ref p)],rfl,rfl,?_⟩;refine ⟨_,rfl,.inr (.inl ⟨p,_,6,endV r.e,rfl,rfl,f.seqT t,z04 (j:=6) rfl,rfl,_,rfl,?_⟩)⟩;have b:=λ z=>b (show r.e.isSome=true from z);have c:=λ z=>c (show r.e.isSome=false from z);cases re:r.e with
   | none=>exact iteN (by show ¬ (!decide (V.non=V.non))=true;decide) (c (by rw [re];rfl) _ (Same.refl _))
   | some e=>exact iteP rfl ⟨_,rfl,b (by rw [re];rfl) _ _ (Same.refl _) rfl⟩
  intro le M us f C B;rw [zi6 B];refine q le _ _ (f.trans (Same.upd C)) upd_same ⟨?_,λ n=>?_⟩
  ·exact F0 (U1 _ _) (by rw [W2,o];exact B0 _)
  ·rw [M7,x9,o];constructor
   ·rintro ⟨h1,h2⟩;rw [N0 h1] at h2;exact ⟨_,N0 h1,h2⟩
   ·rintro ⟨r,h1,h2⟩;exact ⟨(List.getElem?_eq_some_iff.mp h1).1,by rw [h1];exact h2⟩
def z5m (K:d0):Sp:=λ vs H Q _=>∃(pa le:Addr) (ns es:List Nat),vs=[.ref pa,.ref le]/\SqT K H pa (nsV ns)/\H le=some (.lst (nsV es))/\es.length<=100/\∀b H',Same H H'->(b=true↔∀n∈es,n∈ns)->Q (.bl b) H'
theorem za8 (T:TX (kx w) mg):Fo P w mg base CX0 1 378 y14 ["done","numbers"] (z5m (kx w)):=by
 refine (z4a w.params).ok za1 (λ I H Q E h=>?_) (λ U A Z s H I Q E W h=>?_)
 ·obtain ⟨u,le,p,o,rfl,_⟩:=h;rfl
 ·obtain ⟨u,le,p,o,rfl,L,B,X,q⟩:=h;refine ⟨_,(z03 (ps_ret (z0h (z7p rfl) rfl (T.no (n_all _)) boot_all (z00 (pe_cg (xs:=["number"]) (g:=gName 0) (fr:=[(0,"done")]) (z0v (pv 1)) (λ _ _ _ _ _=>(pg_cn (N:=["number","done"]) 0)) (λ _ _ _ _ _=>pf_nil) (λ _ _ _ _ _=>(z14 (zdn (K:=KX w.params) rfl) (pv 0) (pv 1) (by with_unfolding_all rfl)))) pa_nil)))),?_⟩;refine sq_ret (e_cb1 ?_);refine z29 (K:=KX w.params) (a:=le) (xs:=nsV o) (H1:=H) (λ _=>true) (λ i y _=>∃n,o[i]? = some n/\y=.bl (decide (n∈p))) (λ _ _ _ _ _ z=>z) (λ R h=>⟨_,rfl,h⟩) (SqL.of B) (F0 (m:=100) (by rw [z9m];lia) (by decide)) ?_ ?_
  ·intro i b v M l k KT S D O;unfold nsV at k;rw [E2] at k;obtain ⟨n,d,rfl⟩:=Option.map_eq_some_iff.mp k;refine ⟨[some (.int (n:Nat))],rfl,rfl,iteT ?_⟩;refine ⟨_,rfl,_,rfl,u,_,rfl,.inr (l.seqT L),rfl,z8f _,?_⟩;exact D rfl _ _ (Same.refl _) ⟨n,d,by rw [<-inV_ns];rfl⟩
  intro C M us l G c;rw [List.filter_eq_self.mpr (λ _ _=>rfl),z9m] at c;have J:=z05 c;rw [W2] at J;refine ⟨C,us,rfl,SqL.of upd_same,λ y f=>?_,q _ _ (l.trans (Same.upd G)) ?_⟩
  ·obtain ⟨i,b⟩:=List.mem_iff_getElem?.mp f;obtain ⟨j,_,n,_,e⟩:=z0a c b;exact ⟨_,e⟩
  ·rw [N8];constructor
   ·intro h n d;obtain ⟨i,b⟩:=List.mem_iff_getElem?.mp d;have F:=(List.getElem?_eq_some_iff.mp b).1;have t:us[i]? = some us[i]:=N0 (by lia);obtain ⟨j,x,Y,r,e⟩:=z0a c t;rw [List.getElem?_range F] at x;cases x;rw [b] at r;cases r;have:=of_decide_eq_true (h _ (o0 t));rw [e] at this;exact of_decide_eq_true (V.bl.inj this)
   ·intro h y f;obtain ⟨i,b⟩:=List.mem_iff_getElem?.mp f;obtain ⟨j,_,n,d,e⟩:=z0a c b;rw [e,decide_eq_true (h n (o0 d))];exact decide_eq_true rfl
def z41 (K:d0):Sp:=λ vs H Q _=>∃(t:Addr) (nm:Str) (es:List Ev),vs=[.ref t]/\TlE K H t nm es/\∀p H',Same H H'->PlZ K H' p ([],0)->Q (.ref p) H'
theorem zdg {y:V} {us:List V} (h:All2 (λ (_:Nat) z=>z=y) (V0 1) us):us=[y]:=by
 cases h with
 | cons a r=>cases r;rw [a]
theorem z79 (T:TX (kx w) mg) (c0:Ca P w mg base "first_state" ["kind"] 2 z3f):Fo P w mg base CX0 3 383 y0l ["tale"] (z41 (kx w)):=by
 refine (z2q w.params).ok z7g (λ n H Q E h=>?_) (λ a1 A a2 s H n Q E I h=>?_)
 ·obtain ⟨t,nm,Z,rfl,_⟩:=h;rfl
 ·obtain ⟨t,nm,Z,rfl,⟨pt,te,k,ys,F,M,x,_⟩,q⟩:=h;refine ⟨_,(z03 (ps_ret (pe_tup (z00 (pe_tup pa_nil) (z00 (z52 z1l rfl (T.no (zc0 _)) j01 (z00 (pe_cg (xs:=["name","kind"]) (g:=gTup (kx w) 2 (gCons (gName 0) (gCons (gName 1) gNil))) (fr:=[]) (pi_tup (pe_ix ix_seq (pv 0) pe_int (λ _ _=>rfl))) (λ _ _ _ _ _=>(pg_tup rfl (z08 (pg_cn (N:=["name","kind"]) 0) (z08 (pg_cn (N:=["name","kind"]) 1) z0p)))) (λ _ _ _ _ _=>pf_nil) (λ _ _ _ _ _=>(pe_cal c0 (I.mono (by decide)) rfl (z00 (pv 1) pa_nil)))) pa_nil)) pa_nil))))),?_⟩;refine sq_ret ?_;refine ⟨w_0,λ l W=>?_⟩;obtain ⟨u,b,d,O⟩:=newA (.tup []) W;rw [<-b];refine zed (e_cb1 ?_);refine z53 (K:=KX w.params) (a:=pt) (xs:=[.ref k]) (H1:=u) (λ _=>true) (λ _ y _=>y=.int 0) (λ _ _ _ _ s h=>h) (λ R h=>⟨_,rfl,.inr (.inl ⟨t,_,0,.ref pt,rfl,rfl,d.seqT F,z04 (j:=0) rfl,h⟩)⟩) (d.seqT M) w_1 ?_ ?_
  ·intro i hi v H4 c e KT KF D k2;have e:=List.mem_singleton.mp (o0 e);subst e;refine ⟨k,_,rfl,(d.trans c).seqT x,rfl,_,_,rfl,_,_,rfl,rfl,[some (.str nm),some (.str "register")],rfl,rfl,iteT ?_⟩;exact ⟨_,rfl,rfl,D rfl _ _ (Same.refl _) rfl⟩
  intro B H4 n c L z;have r:=zdg z;subst r;obtain ⟨H5,b,C,U⟩:=newA (.lst [V.int 0]) L;rw [<-b];refine ⟨B,[V.int 0],rfl,.inl ⟨SqL.of U,λ f S=>?_⟩⟩;obtain ⟨H6,b,Y,J⟩:=newA (.tup [V.int 0]) S;rw [<-b];refine ⟨w_2,λ X G=>?_⟩;have m:=Same.upd (o:=.tup [.ref l,.ref f]) G;have p:=(C.trans Y).trans m;exact q X _ ((d.trans c).trans p) ⟨l,f,SqT.of upd_same,SqT.of ((c.trans p) _ _ O),SqT.of (m _ _ J)⟩
noncomputable def hide (r:Addr) (H:Hp):Hp:=λ p=>if p=r then none else H p
theorem z63 {r p:Addr} {H:Hp} {o:HO} (n:p≠r) (e:H p=some o):hide r H p=some o:=by unfold hide;rw [if_neg n];exact e
theorem hide_same {r:Addr} {H:Hp}:Same (hide r H) H:=λ p o e=>by
 unfold hide at e;by_cases z:p=r
 ·rw [if_pos z] at e;cases e
 ·rw [if_neg z] at e;exact e
theorem zin {r p:Addr} {H:Hp} {o:HO} (e:hide r H p=some o):p≠r:=λ z=>by unfold hide at e;rw [if_pos z] at e;cases e
theorem z7j {r:Addr} {H H':Hp} (s:Same H H'):Same (hide r H) (hide r H'):=λ p o e=>z63 (zin e) (s _ _ (hide_same _ _ e))
theorem zee {l:Addr} {H:Hp} {o:HO}:hide l (upd H l o)=hide l H:=by
 funext q;unfold hide;by_cases z:q=l
 ·rw [if_pos z,if_pos z]
 ·rw [if_neg z,if_neg z,upd_ne z]
def CaL (H:Hp) (rs:List Rc) (cs:List V):Prop:=∀n r y,rs[n]? = some r->cs[n]? = some y->CaAt H rs n r y
structure BoF (K:d0) (H:Hp) (rs:List Rc) (fs:List (Str×V)):Prop where
 cand :∃lc cs,fs.lookup ("candidates" : Str)=some (.ref lc)/\H lc=some (.lst cs)/\cs.length=rs.length/\CaL H rs cs
 first :∃p0,fs.lookup ("first" : Str)=some (.ref p0)/\PlZ K H p0 ([],0)
 ended :∃le en,fs.lookup ("ended" : Str)=some (.ref le)/\H le=some (.lst (nsV en))/\EndL rs en
 nm :∀z:Str,z∈(["steps_from","ends_at"]:List Str)->fs.lookup z=none
theorem BoF.same {K:d0} {H H':Hp} {rs:List Rc} {fs:List (Str×V)} (s:Same H H') (h:BoF K H rs fs):BoF K H' rs fs:=
 ⟨h.cand.elim λ b z=>z.elim λ e y=>⟨b,e,y.1,s _ _ y.2.1,y.2.2.1,λ n r v d c=>(y.2.2.2 n r v d c).same s⟩,h.first.elim λ p z=>⟨p,z.1,z.2.tups (.of s)⟩,h.ended.elim λ le z=>z.elim λ a y=>⟨le,a,y.1,s _ _ y.2.1,y.2.2⟩,h.nm⟩
def z1z (K:d0):Sp:=λ vs H Q _=>∃(x dx t:Addr) (nm:Str) (es:List Ev),vs=[.ref x,.ref t,.str "strict"]/\H x=some (.ins 357 dx [])/\TlE K H t nm es/\es.length<=63/\EWf [] es/\(∀r∈dAll 0 [] es,GD nm r)/\
 ∀fs H',Kept x H H'->H' x=some (.ins 357 dx fs)->BoF K H' (dAll 0 [] es) fs->Q .non H'
theorem zhi (T:TX (kx w) mg) (c0:Ca P w mg base "has_to" ["tale","strictness"] 2 (zb2 (kx w))) (c1:Ca P w mg base "deeds" ["tale"] 1 (z80 (kx w))) (c2:Ca P w mg base "first_place" ["tale"] 3 (z41 (kx w))) (c3:Ca P w mg base "ended_numbers" ["told"] 1 (z2r (kx w))) (c4:Fo P w mg base (CXE P w base) 1 307 y01 ["self","number","deed","thing","kind","pairs"] (z13 (kx w))):Fo P w mg base (CXE P w base) 5 333 y03 ["self","tale","strictness"] (z1z (kx w)):=by
 refine (z2g w.params).okE sc_Board___init__ (λ vs H Q E h=>?_) (λ j9 A k6 s H vs Q E hr h=>?_)
 ·obtain ⟨x,dx,t,nm,es,rfl,_⟩:=h;rfl
 ·obtain ⟨x,dx,t,nm,es,rfl,ex,ta,l0,wf,gd,q⟩:=h;refine ⟨_,(z01 (ps_set (i:=3) sc_Board___init__.nd rfl (P0 rfl) (pe_cal c0 (hr.mono (by decide)) rfl (z00 (pv 1) (z00 (pv 2) pa_nil))))
   (z01 (ps_set (i:=4) sc_Board___init__.nd rfl (P0 rfl) (pe_cal c1 (hr.mono (by decide)) rfl (z00 (pv 1) pa_nil)))
   (z01 (ps_fld (pv 0) (pe_cg (xs:=["name","kind"]) (g:=gTup (kx w) 2 (gCons (gName 0) (gCons (gName 1) gNil))) (fr:=[]) (pi_tup (pe_ix ix_seq (pv 1) pe_int (λ _ _=>rfl))) (λ _ _ _ _ _=>(pg_tup rfl (z08 (pg_cn (N:=["name","kind"]) 0) (z08 (pg_cn (N:=["name","kind"]) 1) z0p)))) (λ _ _ _ _ _=>pf_nil) (λ _ _ _ _ _=>(pv 1))) rfl)
   (z01 (ps_fld (pv 0) (pe_cal c2 (hr.mono (by decide)) rfl (z00 (pv 1) pa_nil)) rfl)
   (z01 (ps_fld (pv 0) (pe_cal c3 (hr.mono (by decide)) rfl (z00 (pv 4) pa_nil)) rfl)
   (z01 (ps_fld (pv 0) (pe_lst pa_nil) rfl)
   (z01 (z92 (i:=5) sc_Board___init__.nd rfl (P0 rfl) (xs:=["name","kind"]) (g:=gTup (kx w) 2 (gCons (gName 0) (gCons (gName 1) gNil))) (fr:=[]) rfl (pi_tup (pe_ix ix_seq (pv 1) pe_int (λ _ _=>rfl))) (λ _ z=>absurd z A0) (zc3 rfl) (λ _ z=>absurd z A0) (by decide +kernel) rfl (by decide +kernel) (λ _ _ _ _ _=>(pg_tup rfl (z08 (pg_cn (N:=["name","kind"]) 0) (z08 (pg_cn (N:=["name","kind"]) 1) z0p)))) (λ _ _ _ _ _=>pf_nil) (λ _ _ _ _ _=>(pv 0)))
   (z03 (PS.nox (ps_for Q1 rfl (z62 rfl (T.no (z0u _)) (z00 (pv 4) pa_nil)) (pg_tup rfl (z08 (z0d (i:=6) sc_Board___init__.nd rfl (P0 rfl)) (z08 (z0d (i:=7) sc_Board___init__.nd rfl (P0 rfl)) z0p)))
   (z01 (ps_set (i:=8) sc_Board___init__.nd rfl (P0 rfl) (zic (pv 5) (z00 (pe_ix ix_seq (pv 7) pe_int (λ _ _=>rfl)) pa_nil)))
   (z03 (z1n (z0o (pe_fld (pv 0) rfl) (z00 (zh0 (zb0 _) c4 (hr.mono (by decide)) rfl (T.of (zc9 _)) (z35 _) .nil passN (z00 (pv 6) (z00 (pv 7) (z00 (pv 8) (z00 (pe_ix ix_seq (pe_fld (pv 0) rfl) (pv 8) (λ _ _=>rfl)) (z00 (pv 3) pa_nil)))))) pa_nil))))))))))))))),?_⟩
  obtain ⟨pt,te,th,ys,et,e0,d2,d3,al⟩:=id ta;obtain ⟨dw,os,DI⟩:=DInv.all DInv.nil wf;have rl:(dAll 0 [] es).length<=63:=by have:=z36 (es:=es) (i:=0) (rs:=[]);simp only [X3,X2] at this;lia
  refine ⟨_,rfl,_,rfl,t,te,.ref pt,ys,es,rfl,et,d3,al,by lia,dw,λ lp zp H1 s1 k4 b3 ap=>?_⟩;refine g_name (t_nx ?_);refine ⟨_,rfl,t,te,.ref pt,ys,es,rfl,s1.seqT et,s1.seqT d3,z02 (λ _ _ z=>EvAt.tups (.of s1) z) al,by lia,dw,λ lt zt p Z k3 Y ar=>?_⟩;refine g_name (t_nx ?_);have O:=s1.trans Z;generalize dAll 0 [] es=rs at *;have zl:zt.length=rs.length:=z05 ar;have pl:=z4f (rs:=rs) rs.length;have pm:rs.length * rs.length<=63 * 63:=Nat.mul_le_mul rl rl;have g2 :∀{a:Addr} {o:HO} {D:Hp},D x=some (.ins 357 dx [])->D a=some o->(∀d f,o≠.ins 357 d f)->a≠x:=λ e1 e2 n z=>by rw [z,e1] at e2;cases e2;exact n _ _ rfl
  have a0:=O _ _ ex;have g9:lp≠x:=g2 a0 (Z _ _ b3) λ _ _ z=>by cases z
  have b7:lt≠x:=g2 a0 Y λ _ _ z=>by cases z
  refine z2i ?_;refine z53 (K:=KX w.params) (a:=pt) (xs:=[.ref th]) (H1:=p) (λ _=>true) (λ _ y _=>y=.str "register") (λ _ _ _ _ s z=>z) (λ R h=>⟨_,rfl,.inr (.inl ⟨t,_,0,.ref pt,rfl,rfl,O.seqT et,z04 (j:=0) rfl,h⟩)⟩) (O.seqT e0) w_1 ?_ ?_
  ·intro i hi v H3 s3 I KT KF k1 k2;have I:=List.mem_singleton.mp (o0 I);subst I;refine ⟨th,_,rfl,(O.trans s3).seqT d2,rfl,_,_,rfl,_,_,rfl,rfl,[some (.str nm),some (.str "register")],rfl,rfl,iteT ?_⟩;exact ⟨_,rfl,k1 rfl _ _ (Same.refl _) rfl⟩
  intro J H3 us s3 c7 i5;have ev:=zdg i5;subst ev;have b9:=s3.trans (Same.upd (o:=.lst [V.str "register"]) c7);have d1:upd H3 J (.lst [V.str "register"]) J=some (.lst [V.str "register"]):=upd_same;have d9:J≠x:=λ z=>by rw [z,s3 _ _ a0] at c7;cases c7
  generalize upd H3 J (.lst [V.str "register"])=H4 at b9 d1⊢;have s4:=O.trans b9;refine z12 s4.kept (s4 _ _ ex) rfl (z1g _) (z3r _) (n:=0) (B0 _) (by decide) λ H5 k5 d4 e5 S=>?_;refine z2i ?_;refine ⟨_,rfl,t,nm,es,rfl,ta.tups (ins_tt ex k5).t,λ p0 H6 s6 pz=>?_⟩;refine z12 (k5.trans s6.kept) (s6 _ _ e5) rfl (z1g _) (z3z _) S (by decide) λ H7 k7 b6 e7 S=>?_;refine z2i ?_;have a7:Kept x p H7:=(b9.kept.trans d4).trans (s6.kept.trans b6);have h5:Tt (kx w) p H7:=ins_tt a0 a7;refine ⟨_,rfl,lt,zt,rs,rfl,a7 _ _ b7 Y,z02 (λ _ _ z=>RcAt.tups h5.t z) ar,by lia,λ le en H8 u b2 EL=>?_⟩;refine z12 (k7.trans u.kept) (u _ _ e7) rfl (z1g _) (z3q _) S (by decide) λ H9 k9 U e9 S=>?_;refine z2i ⟨w_0,λ c X=>?_⟩;have C:=Same.upd (o:=.lst []) X;have e4:upd H9 c (.lst []) c=some (.lst []):=upd_same;have b1:c≠x:=λ z=>by rw [z,e9] at X;cases X
  generalize upd H9 c (.lst [])=H10 at C e4⊢;refine z12 (k9.trans C.kept) (C _ _ e9) rfl (z1g _) (z0w _) S (by decide) λ b4 d7 a2 f0 S=>?_;have g5:=a2 _ _ b1 e4;have j2:Kept x p b4:=(a7.trans (u.kept.trans U)).trans (C.kept.trans a2);have c6:Tt (kx w) H b4:=ins_tt ex d7;refine z0g ?_;refine z53 (K:=KX w.params) (a:=pt) (xs:=[.ref th]) (H1:=b4) (λ _=>true) (λ _ y _=>y=.str nm) (λ _ _ _ _ s z=>z) (λ R h=>⟨_,rfl,.inr (.inl ⟨t,_,0,.ref pt,rfl,rfl,c6.t _ _ et,z04 (j:=0) rfl,h⟩)⟩) (c6.t _ _ e0) w_1 ?_ ?_
  ·intro i hi v b8 a6 I KT KF k1 k2;have I:=List.mem_singleton.mp (o0 I);subst I;refine ⟨th,_,rfl,a6.seqT (c6.t _ _ d2),rfl,_,_,rfl,_,_,rfl,rfl,[some (.str nm),some (.str "register")],rfl,rfl,iteT ?_⟩;exact ⟨_,rfl,k1 rfl _ _ (Same.refl _) rfl⟩
  intro F b8 us a6 a1 i6;have ev:=zdg i6;subst ev;have B:=a6.trans (Same.upd (o:=.lst [V.str nm]) a1);have g3:upd b8 F (.lst [V.str nm]) F=some (.lst [V.str nm]):=upd_same;have k8:F≠x:=λ z=>by rw [z,a6 _ _ f0] at a1;cases a1
  have h0:F≠c:=λ z=>by rw [z,a6 _ _ g5] at a1;cases a1
  generalize upd b8 F (.lst [V.str nm])=HB at B g3⊢;refine g_name ?_;have eB:=B _ _ f0;have c5:=B _ _ g5;have kB:Kept x H HB:=d7.trans B.kept;have a9:Kept x p HB:=j2.trans B.kept;have b5:p c=none:=by
   cases z:p c with
   | none=>rfl
   | some o=>have:=((a7.trans (u.kept.trans U))) _ _ b1 z;rw [X] at this;cases this
  have j5:H c=none:=O.free b5;have g7:lt≠c:=λ z=>by rw [z,b5] at Y;cases Y
  have i7:lp≠c:=λ z=>by have:=Z _ _ b3;rw [z,b5] at this;cases this
  have w5:Kept x H4 H5:=d4;have g0:Kept x H4 H9:=(w5.trans (s6.kept.trans b6)).trans (u.kept.trans U);have i2:J≠c:=λ z=>by have h:=g0 _ _ d9 d1;rw [z,X] at h;cases h
  have j4:HB J=some (.lst [V.str "register"]):=((g0.trans (C.kept.trans a2)).trans B.kept) _ _ d9 d1;refine ⟨_,rfl,lt,zt,rfl,SqL.of (a9 _ _ b7 Y),?_⟩;refine z73 (K:=KX w.params) (a:=lt) (xs:=zt) (λ i σ D=>∃k,KeptL [c] HB D/\D c=some (.lst k)/\k.length=i/\CaL (hide c D) rs k/\∃x6 x7 x8,σ=[some (.ref x),some (.ref t),some (.str "strict"),some (.ref lp),some (.ref lt),some (.ref F),x6,x7,x8])
   ⟨[],KeptL.refl,c5,rfl,λ n r y _ h=>(by cases h),_,_,_,rfl⟩ (λ i σ D h=>?_) ?_ ?_
  ·obtain ⟨k,kk,_⟩:=h;exact SqL.of (kk _ _ (by simp [g7]) (a9 _ _ b7 Y))
  ·intro i y σ a8 pq hy z0 h9;refine hid λ _ k0=>?_;obtain ⟨k,G,c9,cl,ca,x6,x7,x8,rfl⟩:=z0;refine k0 ?_;clear k0;obtain ⟨a4,v_,sp,j6⟩:=newA (.tup [.int i,y]) h9;rw [<-v_];refine ⟨pq,_,rfl,SqT.of j6,rfl,.int i,_,rfl,y,_,rfl,rfl,?_⟩;have j8:i < rs.length:=by rw [<-zl];exact (List.getElem?_eq_some_iff.mp hy).1
   obtain ⟨r,d5,py,rfl,e6⟩:=z0a ar hy;have g1:=(gd r (o0 d5)).n;have mB :∀l∈[c],MutAt HB l:=λ l hl=>by rw [List.mem_singleton.mp hl];exact .inl ⟨_,c5⟩
   have g8:Tt (kx w) p HB:=ins_tt a0 a9;have d0:Tt (kx w) p a4:=(g8.trans (KeptL.tt G mB)).trans (.of sp);have a3:KeptL [c] HB a4:=G.trans sp.keptL;have e3:=d0.t _ _ e6;rw [g1] at e3;have e8:=a3 _ _ (by simp [h0]) g3;refine ⟨_,rfl,.inl ⟨rfl,_,SqL.of e8⟩,_,rfl,.inr (.inl ⟨py,_,1,.str nm,rfl,rfl,e3,z04 (j:=1) rfl,F,[nm],nm,0,rfl,rfl,e8,by show (1:Nat)<=_;decide,rfl,λ m' h2 e=>absurd h2 (T2 _),?_⟩)⟩;refine g_name (t_nx ?_);have d8:=a3 _ _ (by simp [b1.symm]) eB;have a5:=sp _ _ c9;have i9:=a3 _ _ (by simp [i2]) j4;have j0:=a3 _ _ (by simp [i7]) (a9 _ _ g9 (Z _ _ b3));refine ⟨_,rfl,x,_,dx,_,_,rfl,d8,z1g _,z0w _,lk_eq,.inl ⟨rfl,_,SqL.of a5⟩,?_⟩;refine ⟨_,rfl,_,rfl,_,rfl,_,rfl,x,_,dx,_,_,rfl,d8,z1g _,z3r _,lk_n (lk_n (lk_n lk_eq)),?_⟩;refine ⟨_,rfl,.inl ⟨J,_,_,.str "register",rfl,rfl,SqL.of i9,z04 (j:=0) rfl,?_⟩⟩;refine ⟨_,rfl,λ M dc b0 g4 nc=>?_⟩;have sC:Same a4 (upd (upd a4 dc (.own M)) M (.ins 317 dc [])):=(Same.upd g4).trans (Same.upd (by rw [upd_ne nc.symm];exact b0));refine ⟨M,dc,lp,i,_,_,.ref py,zp,z23 rs rs.length,r,rfl,upd_same,⟨py,rfl,sC.seqT (d0.t _ _ e6)⟩,sC _ _ j0,z02 (λ _ _ z=>z.elim λ b y=>⟨b,y.1,sC _ _ (d0.l _ _ (Z _ _ y.2))⟩) ap,by lia,λ fs la lb as bs i3 i0 h8 f1 f2 f3 f4 f5 f6 f7 f8 f9 ea eb ma mb j1 i1 fa fb=>⟨rfl,?_⟩⟩;have c8:Same a4 i3:=zbc b0 g4 i0;have j7:=c8 _ _ a5;refine ⟨c,k,_,rfl,rfl,j7,Q0 (m:=100) (by lia) (by decide),?_⟩;have h7:M≠c:=λ z=>by rw [z,a5] at b0;cases b0
   have j3:la≠c:=λ z=>by rw [z,sC _ _ a5] at fa;cases fa
   have h6:lb≠c:=λ z=>by rw [z,sC _ _ a5] at fb;cases fb
   refine ⟨k++[.ref M],(a3.trans c8.keptL).trans (KeptL.set (by simp)),upd_same,by rw [D0];show k.length + 1=_;lia,λ n r' y' W L=>?_,_,_,_,rfl⟩;rw [zee];by_cases z:n < k.length
   ·rw [J1 z] at L;exact (ca n r' y' W L).same (z7j (sp.trans c8))
   ·have hn:n=k.length:=by
     have:=(List.getElem?_eq_some_iff.mp L).1;rw [D0] at this;have:n < k.length + 1:=this
     lia
    rw [hn,K1 (B0 _),y6] at L;cases L;rw [hn,cl] at W;rw [d5] at W;cases W;rw [hn,cl];exact ⟨M,dc,fs,la,lb,as,bs,rfl,z63 h7 h8,f1,f2,f3,f4,f5,f6,f7,f8,f9,z63 j3 ea,z63 h6 eb,λ a=>(ma a).trans ⟨λ h=>(mem_pairsTo.mp h).2.2,λ h=>mem_pairsTo.mpr ⟨(z1y h).1,(z1y h).2,h⟩⟩,λ b=>(mb b).trans ⟨λ h=>(mem_pairsTo.mp h).2.2,λ h=>mem_pairsTo.mpr ⟨(z1y h).1,(z1y h).2,h⟩⟩,j1,i1⟩
  ·intro σ a8 z0;refine hid λ _ k0=>?_;obtain ⟨k,G,c9,cl,ca,x6,x7,x8,rfl⟩:=z0;refine k0 ?_;clear k0;have i4 :∀b o,b≠x->b≠c->H8 b=some o->a8 b=some o:=λ b o n1 n2 e=>G _ _ (by simp [n2]) (B _ _ (a2 _ _ n1 (C _ _ (U _ _ n1 e))));have d6:le≠x:=λ z=>by rw [z,u _ _ e7] at b2;cases b2
   have g6:le≠c:=λ z=>by have h:=U _ _ d6 b2;rw [z,X] at h;cases h
   have i8 :∀l∈[c],MutAt HB l:=λ l hl=>by rw [List.mem_singleton.mp hl];exact .inl ⟨_,c5⟩
   have h4:Tt (kx w) H6 a8:=((ins_tt (s6 _ _ e5) b6).trans ((Tt.of u).trans ((ins_tt (u _ _ e7) U).trans ((Tt.of C).trans ((ins_tt (C _ _ e9) a2).trans (.of B)))))).trans (KeptL.tt G i8);refine q _ a8 (λ b o nb e=>G _ _ (λ z=>by rw [List.mem_singleton.mp z,j5] at e;cases e) (kB b o nb e)) (G _ _ (by simp [b1.symm]) eB) ⟨⟨c,k,lk_eq,c9,by lia,λ n r y W L=>(ca n r y W L).same hide_same⟩,⟨p0,lk_n (lk_n lk_eq),pz.tups h4.t⟩,⟨le,en,lk_n lk_eq,i4 _ _ d6 g6 b2,EL⟩,λ z hz=>?_⟩;simp only [F2,A0,or_false] at hz;rcases hz with rfl|rfl<;>exact (lk_n (lk_n (lk_n (lk_n rfl))))
theorem zid {α β:Type} {R:α->β->Prop} {xs xs':List α} {ys ys':List β} (h:All2 R xs ys) (h':All2 R xs' ys'):All2 R (xs++xs') (ys++ys'):=by
 induction h with
 | nil=>exact h'
 | cons a r ih=>exact .cons a ih
theorem if_any {tc:TT} {ta tb:TS} {D:Ends} {σ:L2.St} {H:Hp} (R:Hp->Prop) (k :∀H',R H'->ta D σ H') (h:(∀H',R H'->ta D σ H')->tIfS tc ta tb D σ H):tIfS tc ta tb D σ H:=h k
theorem zi5 {a v:V} {s:Int} (ha:a=.str "ok"\/∃i,a=.int i):L2.scal a (ansR v s)=true:=by unfold ansR;split<;>rcases ha with rfl|⟨i,rfl⟩<;>rfl
def BoAt (K:d0) (H:Hp) (rs:List Rc) (b:Addr):Prop:=∃dx fs,H b=some (.ins 357 dx fs)/\BoF K H rs fs
theorem BoAt.same {K:d0} {H H':Hp} {rs:List Rc} {b:Addr} (s:Same H H') (h:BoAt K H rs b):BoAt K H' rs b:=h.elim λ a z=>z.elim λ fs y=>⟨a,fs,s _ _ y.1,y.2.same s⟩
def z1i (K:d0):Sp:=λ vs H Q _=>∃(b pp:Addr) (nm:Str) (rs:List Rc) (pl:Pl),vs=[.ref b,.ref pp]/\BoAt K H rs b/\(∀r∈rs,GD nm r)/\PlZ K H pp pl/\PlOk rs.length pl/\rs.length<=63/\
 ∀l ys H',Same H H'->H l=none->H' l=some (.lst ys)->All2 (StpZ K H') (nxT rs pl) ys->Q (.ref l) H'
theorem z40 (T:TX (kx w) mg) (c0:Fo P w mg base CX0 1 314 y00 ["self","done"] (z11 (kx w))) (c1:Ca P w mg base "step_of" ["candidate","place"] 6 (z98 (kx w))):Fo P w mg base CX0 7 340 y02 ["self","place"] (z1i (kx w)):=by
 refine (z1t w.params).ok sc_Board_steps_from (λ vs H Q E h=>?_) (λ a3 A a4 s H vs Q E hr h=>?_)
 ·obtain ⟨b,p,nm,rs,c,rfl,_⟩:=h;rfl
 ·obtain ⟨b,p,nm,rs,c,rfl,⟨dx,fs,eb,⟨⟨lc,cs,fc,ec,cl,ca⟩,_,_,fn⟩⟩,gd,pz,po,rl,q⟩:=h;refine ⟨_,(z01 (ps_set (i:=2) sc_Board_steps_from.nd rfl (P0 rfl) (pe_lst pa_nil))
   (z01 (ps_for Q1 rfl (z0v (pe_fld (pv 0) rfl)) (z0d (i:=3) sc_Board_steps_from.nd rfl (P0 rfl))
   (z03 (ps_if (pt_val (zde (pv 3) (z09 _) (z2n _) c0 (hr.mono (by decide)) (z2v _) .nil pass0 (z00 (pe_ix ix_seq (pv 1) pe_int (λ _ _=>rfl)) pa_nil)) (λ _=>rfl))
   (z01 (ps_set (i:=4) sc_Board_steps_from.nd rfl (P0 rfl) (pe_cal c1 (hr.mono (by decide)) rfl (z00 (pv 3) (z00 (pv 1) pa_nil))))
   (z03 (ps_if (PW.pt (pw_or (z07 op_isN (pe_fld (pv 3) rfl) pe_non (nomark _)) (pw_or1 (z07 opEq (pe_fld (pv 3) rfl) (pe_ix ix_seq (pv 4) pe_int (λ _ _=>rfl)) (nomark _)))))
   (z03 (z1n (z0o (pv 2) (z00 (pv 4) pa_nil))))
   z0c)))
   z0c)))
   (z03 (ps_ret (pv 2))))),?_⟩
  refine ⟨w_0,λ l S=>?_⟩;obtain ⟨H1,v_,M,J⟩:=newA (.lst []) S;rw [<-v_];refine g_name (t_nx ?_);refine ⟨_,rfl,b,_,dx,fs,_,rfl,M _ _ eb,z1g _,z0w _,fc,lc,rfl,⟨_,SqL.of (M _ _ ec)⟩,?_⟩;refine z1o (K:=KX w.params) (a:=lc) (xs:=cs) (λ i σ f=>∃k,Same H f/\f l=some (.lst k)/\All2 (StpZ (kx w) f) (nexT (cP rs c.1) rs c i) k/\∃B o,σ=[some (.ref b),some (.ref p),some (.ref l),B,o])
   ⟨[],M,J,.nil,_,_,rfl⟩ (λ i σ f _ h=>SqL.of (h.choose_spec.1 _ _ ec)) ?_ ?_
  ·intro i y σ L hy X;refine hid λ _ G=>?_;obtain ⟨k,n,I,u,B,o,rfl⟩:=X;refine G ?_;clear G;have a0:i < rs.length:=by rw [<-cl];exact (List.getElem?_eq_some_iff.mp hy).1
   have D:rs[i]? = some rs[i]:=N0 a0;have g:=gd _ (o0 D);generalize rs[i]=r at D g;have cy:=(ca i r y D hy).same n;obtain ⟨U,pb,sp,sa,sb⟩:=id pz;refine g_name ?_;have a2 :∀{f:Hp} {R:VK},Same H f->R (.ref U) f->tOp (rIx (kx w)) (tVar 1) (tC (.int 0)) [some (.ref b),some (.ref p),some (.ref l),some y,o] f R:=λ F h=>⟨_,rfl,.inr (.inl ⟨p,_,0,.ref U,rfl,rfl,F.seqT sp,z04 (j:=0) rfl,h⟩)⟩
   have skip:cP rs c.1 i=false\/stp r i c=none->∀{B o:Option V} {f:Hp},Same L f->∃k,Same H f/\f l=some (.lst k)/\All2 (StpZ (kx w) f) (nexT (cP rs c.1) rs c (i + 1)) k/\∃x3' x4',[some (.ref b),some (.ref p),some (.ref l),B,o]=[some (.ref b),some (.ref p),some (.ref l),x3',x4']:=λ h {B o f} F=>by
    refine ⟨k,n.trans F,F _ _ I,?_,_,_,rfl⟩;rw [zbr,show nexAt (cP rs c.1) rs c i=none by
     unfold nexAt;rcases h with h|h
     ·rw [h];rfl
     ·rw [D];split<;>first|exact h|rfl]
    rw [Option.toList_none,Q2];exact z02 (λ _ _ z=>StpZ.tups (.of F) z) u
   obtain ⟨x,N,Z,la,lb,as,bs,rfl,ex,f1,f2,f3,f4,f5,f6,f7,f8,f9,_⟩:=id cy;refine ⟨_,rfl,x,N,Z,rfl,ex,f9,a2 n ⟨.ref x,U,i,rs,r,c.1,rfl,cy,n.seqT sa,_,rfl,?_⟩⟩;cases hc:cP rs c.1 i with
   | false=>exact iteF (skip (.inl hc) (Same.refl _))
   | true=>
   refine iteT ?_;have ni:i∉c.1:=(cP_iff.mp hc).1;refine ⟨_,rfl,_,rfl,.ref x,p,i,rs,r,c,rfl,cy,g.d,pz.tups (.of n),?_,λ b6 q6 O C e3 a1=>?_⟩
   ·have:=z51 rs.length (i :: c.1) (List.nodup_cons.mpr ⟨ni,po.nd⟩) λ x hx=>(List.mem_cons.mp hx).elim (λ z=>z ▸ a0) (po.lt x);rw [C1] at this
    lia
   refine g_name (t_nx ?_);have st:stp r i c=if r.e.isNone || decide (ansR r.v c.2=r.a) then some (stq r i c) else none:=rfl
   refine if_any (λ f=>O=f/\stp r i c=some (stq r i c)) ?_ λ put=>?_;rotate_left
   ·refine t_or ?_;refine ⟨_,rfl,x,_,N,Z,_,rfl,C _ _ ex,z09 _,z0x _,f6,rfl,_,rfl,?_⟩;rcases g.a with ⟨W,t⟩|⟨W,t⟩
    ·refine iteP (by rw [t];rfl) (iteT (put _ ⟨rfl,?_⟩));rw [st,W];rfl
    have na:¬ decide (r.a=V.non)=true:=λ h=>by have:=of_decide_eq_true h;rcases t with t|⟨j,t⟩<;>(rw [t] at this;cases this)
    have J:r.e.isNone=false:=Option.isNone_eq_false_iff.mpr W;refine iteN na ?_;refine ⟨_,rfl,x,_,N,Z,_,rfl,C _ _ ex,z09 _,z0x _,f6,?_⟩;refine ⟨_,rfl,.inr (.inl ⟨b6,_,1,_,rfl,rfl,SqT.of e3,z04 (j:=1) rfl,zi5 t,_,rfl,?_⟩)⟩;by_cases za:r.a=ansR r.v c.2
    ·refine iteP (decide_eq_true za) (put _ ⟨rfl,?_⟩);rw [st,J,Y5,decide_eq_true za.symm];rfl
    ·refine iteN (λ h=>za (of_decide_eq_true h)) (skip (.inr ?_) C);rw [st,J,Y5,decide_eq_false (λ h=>za h.symm)];rfl
   rintro f ⟨rfl,hst⟩;have Y:=C _ _ I;have yl:k.length<=i:=by rw [z05 u];exact zhp
   refine ⟨_,rfl,.inl ⟨rfl,_,SqL.of Y⟩,_,rfl,l,k,_,rfl,rfl,Y,Q0 (m:=100) (by lia) (by decide),?_⟩;have tu:Tups (kx w) O (upd O l (.lst (k++[.ref b6]))):=Tups.lst Y;refine ⟨k++[.ref b6],Same.keep (n.trans C) S,upd_same,?_,_,_,rfl⟩;rw [zbr,show nexAt (cP rs c.1) rs c i=some (stq r i c) by unfold nexAt;rw [if_pos hc,D];exact hst];exact zid (z02 (λ _ _ z=>(StpZ.tups (.of C) z).tups tu) u) (.cons (a1.tups tu) .nil)
  ·intro σ L X;refine hid λ _ G=>?_;obtain ⟨k,n,I,u,B,o,rfl⟩:=X;refine G ?_;clear G;rw [cl] at u;exact ⟨_,rfl,q l k L n S I u⟩
def FullP (rs:List Rc) (pl:Pl):Prop:=∀n r,rs[n]? = some r->r.e.isSome=true->n∈pl.1
def z2o (K:d0):Sp:=λ vs H Q _=>∃(b pp:Addr) (rs:List Rc) (pl:Pl),vs=[.ref b,.ref pp]/\BoAt K H rs b/\rs.length<=63/\PlZ K H pp pl/\∀b H',Same H H'->(b=true↔FullP rs pl)->Q (.bl b) H'
theorem z5o (T:TX (kx w) mg) (c0:Ca P w mg base "holds_all" ["done","numbers"] 1 (z5m (kx w))):Fo P w mg base CX0 2 347 y05 ["self","place"] (z2o (kx w)):=by
 refine (z30 w.params).ok z5i (λ v H Q E h=>?_) (λ G A J s H v Q E o h=>?_)
 ·obtain ⟨b,f,rs,e,rfl,_⟩:=h;rfl
 ·obtain ⟨b,f,rs,e,rfl,⟨m,fs,eb,u⟩,D,⟨g,I,i,C,F⟩,q⟩:=h;refine ⟨_,(z03 (ps_ret (pe_cal c0 (o.mono (by decide)) rfl (z00 (pe_ix ix_seq (pv 1) pe_int (λ _ _=>rfl)) (z00 (pe_fld (pv 0) rfl) pa_nil))))),?_⟩;obtain ⟨le,y,t,p,c⟩:=u.ended;refine ⟨_,rfl,.inr (.inl ⟨f,_,0,.ref g,rfl,rfl,i,z04 (j:=0) rfl,?_⟩)⟩;refine ⟨_,rfl,b,_,m,fs,_,rfl,eb,z1g _,z3q _,t,?_⟩;refine ⟨g,le,e.1,y,rfl,C,p,by have:=c.1;lia,λ x k B l=>q x k B (l.trans ⟨λ h n r d a=>h n ((c.2 n).mpr ⟨r,d,a⟩),λ h n z=>?_⟩)⟩;obtain ⟨r,d,a⟩:=(c.2 n).mp z;exact h n r d a
noncomputable def plD (pl:Pl):PyData:=.tuple [.tuple (pl.1.map λ (n:Nat)=>.int (n:Int)),.tuple [.int pl.2]]
theorem zgl {K:d0} {H:Hp} :∀ns:List Nat,IsPds K H (ns.map λ (n:Nat)=>.int (n:Int)) (nsV ns)
 | []=>rfl
 | n :: ns=>⟨_,_,rfl,rfl,zgl ns⟩
theorem plz_pd {K:d0} {H:Hp} {p:Addr} {pl:Pl} (h:PlZ K H p pl):IsPd K H (plD pl) (.ref p):=by obtain ⟨a,e,c,d,b⟩:=h;exact ⟨p,_,rfl,c,_,_,rfl,⟨a,_,rfl,d,zgl _⟩,_,_,rfl,⟨e,_,rfl,b,⟨_,_,rfl,rfl,rfl⟩⟩,rfl⟩
theorem z8k {α:Type} {f:α->PyData} {n:Nat} :∀{xs:List α},(∀x∈xs,(f x).depth<=n)->E3 (xs.map f)<=n
 | [],_=>B2 _
 | x :: xs,h=>by
  have c:=h x O1;have b:=z8k (f:=f) (n:=n) (xs:=xs) λ y a=>h y (E1 _ a);show max (f x).depth (E3 (xs.map f))<=n
  lia
theorem zbi {α:Type} {f:α->PyData} :∀{xs:List α},(∀x∈xs,keyD (f x)=true)->keyDs (xs.map f)=true
 | [],_=>rfl
 | x :: xs,h=>by show (keyD (f x) && keyDs (xs.map f))=true;rw [h x O1,zbi λ y a=>h y (E1 _ a)];rfl
theorem pl_key (pl:Pl):keyD (plD pl)=true:=by have a:keyDs (pl.1.map λ (n:Nat)=>PyData.int (n:Int))=true:=zbi λ _ _=>rfl;show (keyDs _ && (keyDs _ && true))=true;rw [a];rfl
theorem pl_dep (pl:Pl):(plD pl).depth<=7:=by
 have a:=z8k (f:=λ (n:Nat)=>PyData.int (n:Int)) (n:=0) (xs:=pl.1) (λ _ _=>B0 _);unfold plD;simp only [PyData.depth,E3]
 lia
theorem zgm {α β:Type} {f:α->β} (hf :∀a b,f a=f b->a=b) :∀{xs ys:List α},xs.map f=ys.map f->xs=ys
 | [],[],_=>rfl
 | [],_ :: _,h=>by cases h
 | _ :: _,[],h=>by cases h
 | x :: xs,y :: ys,h=>by rw [Y0,Y0] at h;injection h with h1 h2;rw [hf _ _ h1,zgm hf h2]
theorem zjp {a b:Pl} (h:plD a=plD b):a=b:=by unfold plD at h;injection h with h;injection h with h1 h2;injection h2 with h2 _;injection h1 with h1;injection h2 with h2;injection h2 with h2 _;injection h2 with h2;exact j0e (zgm (λ x y z=>by injection z with z;lia) h1) h2
noncomputable abbrev Oa:=Nat×V
inductive Wk (rs:List Rc):List Oa->Pl->Prop
 | nil:Wk rs [] ([],0)
 | snoc {o:List Oa} {pl:Pl} {s:Stp}:Wk rs o pl->s∈nxT rs pl->Wk rs (o++[(s.1,s.2.1)]) s.2.2
theorem z57 {rs:List Rc} {G:Pl->Prop} (h0:G ([],0)) (hs :∀pl,G pl->∀s∈nxT rs pl,G s.2.2) {o:List Oa} {pl:Pl} (w:Wk rs o pl):G pl:=by
 induction w with
 | nil=>exact h0
 | snoc _ h ih=>exact hs _ ih _ h
def BdW (rs:List Rc) (B:Nat):Prop:=∀ds:List PyData,ds.Nodup->(∀d∈ds,∃pl o,d=plD pl/\Wk rs o pl)->ds.length<=B
theorem new1 {H:Hp} {p:Addr} (o:HO) (h:H p=none) :∃H',H'=upd H p o/\Same H H'/\H' p=some o:=⟨_,rfl,Same.upd h,upd_same⟩
theorem tn_x {D:Ends} {σ:L2.St} {H:Hp} (h:D.nx σ H):tNext D σ H:=h
theorem zf6 {c:TT} {tb:TS} {D:Ends} {σ:L2.St} {H:Hp} (W B:Nat->L2.St->Hp->Prop) (m0:Nat) (w0:W m0 σ H)
  (body :∀m σ H1,B m σ H1->tb { D with nx:=λ σ' H'=>∃m',m' < m/\W m' σ' H',ct:=λ σ' H'=>∃m',m' < m/\W m' σ' H',bk:=D.nx } σ H1)
  (cond :∀m σ H,W m σ H->(∀H1,B m σ H1->∃N:L2.St->Hp->Prop,(∀σ' H',N σ' H'->∃m',m' < m/\W m' σ' H')/\tb { D with nx:=N,ct:=N,bk:=D.nx } σ H1)->c σ H λ b H1=>if b=true then∃N:L2.St->Hp->Prop,(∀σ' H',N σ' H'->∃m',m' < m/\W m' σ' H')/\tb { D with nx:=N,ct:=N,bk:=D.nx } σ H1 else D.nx σ H1):tWhile c tb D σ H:=
 ⟨W,⟨m0,w0⟩,λ m σ H h=>cond m σ H h λ H1 b=>⟨_,λ _ _ z=>z,body m σ H1 b⟩⟩
def KeyI (K:d0) (H:Hp) (G:Pl->Prop) (ks:List (PyData×Addr)):Prop:=∀k∈ks,∃pl,k.1=plD pl/\PlZ K H k.2 pl/\G pl
theorem KeyI.same {K:d0} {H H':Hp} {G:Pl->Prop} {ks:List (PyData×Addr)} (s:Same H H') (h:KeyI K H G ks):KeyI K H' G ks:=λ k b=>(h k b).elim λ a z=>⟨a,z.1,z.2.1.tups (.of s),z.2.2⟩
theorem KeyI.put {K:d0} {H:Hp} {G:Pl->Prop} {ks:List (PyData×Addr)} {pl:Pl} {b:Addr} (h:KeyI K H G ks) (z:PlZ K H b pl) (g:G pl):KeyI K H G (putN ks (plD pl) b):=λ k a=>by
 unfold L2.putN at a;split at a
 ·exact h k a
 ·rcases List.mem_append.mp a with y|y
  ·exact h k y
  ·rw [List.mem_singleton.mp y];exact ⟨pl,rfl,z,g⟩
theorem KeyI.at_ {K:d0} {H:Hp} {G:Pl->Prop} {ks:List (PyData×Addr)} {a:Addr} (r:Rd H a (NsO a ks)) (h:KeyI K H G ks):NsAt K H a ks:=⟨r,λ k c=>by obtain ⟨b,e,z,_⟩:=h k c;rw [e];exact ⟨pl_key b,pl_dep b,plz_pd z⟩⟩
theorem zhg {c:TT} {tb rest:TS} {D:Ends} {σ:L2.St} {H:Hp} (h:tWhile c tb { D with nx:=rest D } σ H):tSeq (tWhile c tb) rest D σ H:=h
noncomputable def hid2 (a b:Addr) (H:Hp):Hp:=hide a (hide b H)
theorem zbh {a b:Addr} {H H':Hp} (s:Same H H'):Same (hid2 a b H) (hid2 a b H'):=z7j (z7j s)
theorem hid2_same {a b:Addr} {H:Hp}:Same (hid2 a b H) H:=hide_same.trans hide_same
theorem hid2_b {a b:Addr} {H:Hp} {o:HO}:hid2 a b (upd H b o)=hid2 a b H:=by unfold hid2;rw [zee]
theorem hid2_a {a b:Addr} {H:Hp} {o:HO}:hid2 a b (upd H a o)=hid2 a b H:=by
 funext p;unfold hid2 hide;by_cases z:p=a
 ·rw [if_pos z,if_pos z]
 ·rw [if_neg z,if_neg z,upd_ne z]
theorem z3y {a b p:Addr} {H:Hp} {o:HO} (n1:p≠a) (n2:p≠b) (e:H p=some o):hid2 a b H p=some o:=z63 n1 (z63 n2 e)
theorem zh8 {a b:Addr} {H H':Hp} (n1:H a=none) (n2:H b=none) (s:Same H H'):Same H (hid2 a b H'):=λ p o e=>z3y (λ z=>by rw [z,n1] at e;cases e) (λ z=>by rw [z,n2] at e;cases e) (s _ _ e)
theorem zg0 {K:d0} {a b:Addr} {H:Hp} {f:Heap->Prop} {xs:List V} (ea:H a=some (.ext f)) (eb:H b=some (.lst xs)):Tups K H (hid2 a b H):=λ p xs h=>by
 rcases h with (h|⟨ob,h⟩)|h
 ·exact .inl (.inl (z3y (λ z=>by rw [z,ea] at h;cases h) (λ z=>by rw [z,eb] at h;cases h) h))
 ·exact .inl (.inr ⟨ob,z3y (λ z=>by rw [z,ea] at h;cases h) (λ z=>by rw [z,eb] at h;cases h) h⟩)
 ·exact .inr h
theorem zhz {α β:Type} {R:α->β->Prop} {xs:List α} {ys:List β} (h:All2 R xs ys):All2 R xs.reverse ys.reverse:=by
 induction h with
 | nil=>exact .nil
 | cons a r ih=>rw [List.reverse_cons,List.reverse_cons];exact z0m ih a
theorem KeyI.mono {K:d0} {H:Hp} {G G':Pl->Prop} {ks:List (PyData×Addr)} (g :∀pl,G pl->G' pl) (h:KeyI K H G ks):KeyI K H G' ks:=λ k a=>(h k a).elim λ pl z=>⟨pl,z.1,z.2.1,g pl z.2.2⟩
theorem zg7 {ks:List (PyData×Addr)} {d:PyData} {b:Addr}:d∈(putN ks d b).map (·.1):=by
 unfold L2.putN;split
 ·assumption
 ·rw [X0];exact List.mem_append.mpr (.inr (List.mem_singleton.mpr rfl))
theorem zei {ks:List (PyData×Addr)} {d e:PyData} {b:Addr} (h:e∈ks.map (·.1)):e∈(putN ks d b).map (·.1):=by
 unfold L2.putN;split
 ·exact h
 ·rw [X0];exact List.mem_append.mpr (.inl h)
def OaAt (H:Hp) (o:Oa) (y:V):Prop:=∃p,y=.ref p/\H p=some (.tup [.int (o.1:Nat),o.2])
theorem OaAt.same {H H':Hp} {o:Oa} {y:V} (s:Same H H') (h:OaAt H o y):OaAt H' o y:=h.elim λ p z=>⟨p,z.1,s _ _ z.2⟩
def WtAt (K:d0) (H0 H:Hp) (q:List Oa×Pl) (y:V):Prop:=∃p l p2 xs,y=.ref p/\H0 l=none/\H p=some (.tup [.ref l,.ref p2])/\H l=some (.lst xs)/\All2 (OaAt H) q.1 xs/\PlZ K H p2 q.2
theorem WtAt.same {K:d0} {H0 H H':Hp} {q:List Oa×Pl} {y:V} (s:Same H H') (h:WtAt K H0 H q y):WtAt K H0 H' q y:=by obtain ⟨p,l,i,c,f,b,g,e,a,d⟩:=h;exact ⟨p,l,i,c,f,b,s _ _ g,s _ _ e,z02 (λ _ _ z=>z.same s) a,d.tups (.of s)⟩
theorem zg3 {α β:Type} {R:α->β->Prop} {xs:List α} {ys:List β} {y:β} (h:All2 R xs (ys++[y])) :∃xr x,xs=xr++[x]/\All2 R xr ys/\R x y:=by
 induction ys generalizing xs with
 | nil=>
  cases h with
  | cons a r=>cases r;exact ⟨[],_,rfl,.nil,a⟩
 | cons z ys ih=>
  cases h with
  | cons a r=>obtain ⟨xr,x,rfl,c,b⟩:=ih r;exact ⟨_ :: xr,x,rfl,.cons a c,b⟩
theorem zje {ks:List (PyData×Addr)} {d:PyData} {b:Addr} (h:(ks.map (·.1)).Nodup):((putN ks d b).map (·.1)).Nodup:=by
 unfold L2.putN;split
 ·exact h
 ·rename_i z;rw [X0,D5];exact ⟨h,by simp,λ a f b g e=>z (by have c:b=d:=List.mem_singleton.mp g;rw [<-c,<-e];exact f)⟩
theorem zhq {ks:List (PyData×Addr)} {d:PyData} {b:Addr} (h:d∉ks.map (·.1)):(putN ks d b).length=ks.length + 1:=by unfold L2.putN;rw [if_neg h,D0];rfl
theorem KeyI.bd {K:d0} {H:Hp} {B:Nat} {rs:List Rc} {ks:List (PyData×Addr)} (h:KeyI K H (λ pl=>∃o,Wk rs o pl) ks) (b:BdW rs B) (nd:(ks.map (·.1)).Nodup):ks.length<=B:=by
 have:=b _ nd λ d a=>by obtain ⟨k,c,rfl⟩:=List.mem_map.mp a;obtain ⟨pl,e,_,o,w⟩:=h k c;exact ⟨pl,o,e,w⟩
 rwa [L0] at this
def WqOk (rs:List Rc) (q:List Oa×Pl):Prop:=PlOk rs.length q.2/\Wk rs q.1 q.2/\q.1.length=q.2.1.length
structure Lk (rs:List Rc) (vis:List Pl) (ds:List PyData):Prop where
 c :∀pl∈vis,¬ FullP rs pl/\∀s∈nxT rs pl,plD s.2.2∈ds
def zbp (K:d0):Sp:=λ vs H Q _=>∃(t:Addr) (nm:Str) (es:List Ev) (B:Nat),vs=[.ref t,.str "strict"]/\TlE K H t nm es/\es.length<=63/\EWf [] es/\(∀r∈dAll 0 [] es,GD nm r)/\B<=1000000/\BdW (dAll 0 [] es) B/\
 (∀H',Same H H'->(∀o pl,Wk (dAll 0 [] es) o pl->¬ FullP (dAll 0 [] es) pl)->Q .non H')/\∀l xs o pl H',Same H H'->H l=none->H' l=some (.lst xs)->All2 (OaAt H') o xs->Wk (dAll 0 [] es) o pl->FullP (dAll 0 [] es) pl->Q (.ref l) H'
theorem zfu (T:TX (kx w) mg) (c0:Fo P w mg base (CXE P w base) 5 333 y03 ["self","tale","strictness"] (z1z (kx w))) (c1:Fo P w mg base CX0 2 347 y05 ["self","place"] (z2o (kx w))) (c2:Fo P w mg base CX0 7 340 y02 ["self","place"] (z1i (kx w))):Fo P w mg base CX0 8 390 y24 ["tale","strictness"] (zbp (kx w)):=by
 refine (zal w.params).ok sc_judged (λ vs H Q E h=>?_) (λ j3 A j5 s H vs Q E hr h=>?_)
 ·obtain ⟨t,nm,es,B,rfl,_⟩:=h;rfl
 ·obtain ⟨t,nm,es,B,rfl,ta,f8,wf,gd,B4,bd,qn,q⟩:=h;refine ⟨_,(z01 (ps_set (i:=2) sc_judged.nd rfl (P0 rfl) (zh0 (zie _) c0 (hr.mono (by decide)) rfl (T.of (zj0 _)) (z61 _) .nil passN (z00 (pv 0) (z00 (pv 1) pa_nil))))
   (z01 (ps_set (i:=3) sc_judged.nd rfl (P0 rfl) zi2)
   (z01 (ps_set (i:=4) sc_judged.nd rfl (P0 rfl) (pe_lst (z00 (pe_tup (z00 (pe_lst pa_nil) (z00 (pe_fld (pv 2) rfl) pa_nil))) pa_nil)))
   (z01 (zet Q1 (z07 op_gt (z0h z3l rfl (T.no (n_len _)) U5 (z00 (pv 4) pa_nil)) pe_int (nomark _))
   (z01 (ps_set (i:=5) sc_judged.nd rfl (P0 rfl) (zjs (pv 4)))
   (z01 (ps_if (pt_val (zde (pv 2) (z1g _) (z5h _) c1 (hr.mono (by decide)) (z68 _) .nil pass0 (z00 (pe_ix ix_seq (pv 5) pe_int (λ _ _=>rfl)) pa_nil)) (λ _=>rfl))
   (z03 (ps_ret (pe_ix ix_seq (pv 5) pe_int (λ _ _=>rfl))))
   z0c)
   (z03 (ps_for Q1 rfl (ziy rfl (T.no (zd5 _)) (zde (pv 2) (z1g _) (z3s _) c2 (hr.mono (by decide)) (z4k _) .nil pass0 (z00 (pe_ix ix_seq (pv 5) pe_int (λ _ _=>rfl)) pa_nil))) (pg_tup rfl (z08 (z0d (i:=6) sc_judged.nd rfl (P0 rfl)) (z08 (z0d (i:=7) sc_judged.nd rfl (P0 rfl)) (z08 (z0d (i:=8) sc_judged.nd rfl (P0 rfl)) z0p))))
   (z03 (ps_if (z07 (zfj hr) (pv 8) (pv 3) (by with_unfolding_all rfl))
   (z01 (zir hr (pv 3) (pv 8) pe_bl rfl)
   (z03 (z1n (z0o (pv 4) (z00 (pe_tup (z00 (pe_op opAdd (pe_ix ix_seq (pv 5) pe_int (λ _ _=>rfl)) (pe_lst (z00 (pe_tup (z00 (pv 6) (z00 (pv 7) pa_nil))) pa_nil))) (z00 (pv 8) pa_nil))) pa_nil)))))
   z0c)))))))
   (z03 (ps_ret pe_non)))))),?_⟩
  have rl:(dAll 0 [] es).length<=63:=by have:=z36 (es:=es) (i:=0) (rs:=[]);simp only [X3,X2] at this;lia
  refine z0g ⟨_,rfl,_,rfl,λ x Z hx f3 j0=>?_⟩;have sC:Same H (upd (upd H Z (.own x)) x (.ins 357 Z [])):=(Same.upd f3).trans (Same.upd (by rw [upd_ne j0.symm];exact hx));refine ⟨x,Z,t,nm,es,rfl,upd_same,ta.tups (.of sC),f8,wf,gd,λ fs F k1 e1 bf=>⟨rfl,g_name ?_⟩⟩;have s1:Same H F:=zbc hx f3 k1;have bo:BoAt (kx w) F (dAll 0 [] es) x:=⟨Z,fs,e1,bf⟩
  obtain ⟨p0,i3,j1⟩:=bf.first;generalize dAll 0 [] es=rs at rl gd bo bf qn q bd;refine z0g ?_;intro f d0;refine g_name ?_;have s2:=Same.upd (o:=NsO f []) d0;have e2:upd F f (NsO f []) f=some (NsO f []):=upd_same;have f7:Same F (hide f (upd F f (NsO f []))):=λ p o e=>z63 (λ z=>by rw [z,d0] at e;cases e) (s2 _ _ e);generalize upd F f (NsO f [])=H2 at s2 e2 f7⊢;refine z0g ?_;refine ⟨w_0,λ L a5=>⟨_,rfl,x,_,Z,fs,_,rfl,(s2.trans (Same.upd a5)) _ _ e1,z1g _,z3z _,i3,w_2,λ J b5=>⟨w_1,λ n U=>?_⟩⟩⟩;refine g_name ?_;have f1:F n=none:=((s2.trans (Same.upd a5)).trans (Same.upd b5)).free U;have N:=Same.upd (o:=.lst []) a5;have q1:=Same.upd (o:=.tup [.ref L,.ref p0]) b5;have q2:=Same.upd (o:=.lst [.ref J]) U;have g9:L≠f:=λ z=>by rw [z,e2] at a5;cases a5
  have i5:J≠f:=λ z=>by rw [z,N _ _ e2] at b5;cases b5
  have c9:f≠n:=λ z=>by rw [<-z,q1 _ _ (N _ _ e2)] at U;cases U
  have i9:L≠n:=λ z=>by rw [<-z,q1 _ _ upd_same] at U;cases U
  have i1:J≠n:=λ z=>by rw [<-z,upd_same] at U;cases U
  have g0:=q2 _ _ (q1 _ _ (upd_same (H:=H2) (a:=L) (o:=.lst [])));have g1:=q2 _ _ (upd_same (H:=upd H2 L (.lst [])) (a:=J) (o:=.tup [.ref L,.ref p0]));have g2:=upd_same (H:=upd (upd H2 L (.lst [])) J (.tup [.ref L,.ref p0])) (a:=n) (o:=.lst [.ref J]);have g3:=q2 _ _ (q1 _ _ (N _ _ e2));have s3:=zh8 d0 f1 (s2.trans ((N.trans q1).trans q2));generalize upd (upd (upd H2 L (.lst [])) J (.tup [.ref L,.ref p0])) n (.lst [.ref J])=H3 at g0 g1 g2 g3 s3⊢;refine zhg (zf6 (λ k σ C=>∃ks zs ws vis x5 x6 x7 x8,k=2 * (B - ks.length) + ws.length/\KeyI (kx w) (hid2 f n C) (λ u=>∃o,Wk rs o u) ks/\(ks.map (·.1)).Nodup/\Same F (hid2 f n C)/\C f=some (NsO f ks)/\C n=some (.lst zs)/\KeyI (kx w) (hid2 f n C) (λ u=>u∈vis\/u∈ws.map (·.2)) ks/\All2 (WtAt (kx w) F (hid2 f n C)) ws zs/\(∀q∈ws,WqOk rs q)/\Lk rs vis (ks.map (·.1))/\(([],0)∈vis\/([],0)∈ws.map (·.2))/\ws.length<=ks.length + 1/\σ=[some (.ref t),some (.str "strict"),some (.ref x),some (.ref f),some (.ref n),x5,x6,x7,x8])
   (λ k σ C=>∃ks zs y ws N vis x5 x6 x7 x8,k=2 * (B - ks.length) + (ws.length + 1)/\KeyI (kx w) (hid2 f n C) (λ u=>∃o,Wk rs o u) ks/\(ks.map (·.1)).Nodup/\Same F (hid2 f n C)/\C f=some (NsO f ks)/\C n=some (.lst (zs++[y]))/\KeyI (kx w) (hid2 f n C) (λ u=>u∈vis\/u∈(ws++[N]).map (·.2)) ks/\All2 (WtAt (kx w) F (hid2 f n C)) ws zs/\WtAt (kx w) F (hid2 f n C) N y/\(∀q∈ws++[N],WqOk rs q)/\Lk rs vis (ks.map (·.1))/\(([],0)∈vis\/([],0)∈(ws++[N]).map (·.2))/\ws.length<=ks.length/\σ=[some (.ref t),some (.str "strict"),some (.ref x),some (.ref f),some (.ref n),x5,x6,x7,x8])
   (2 * (B - 0) + 1) ⟨[],[.ref J],[([],([],0))],[],_,_,_,_,rfl,λ k hk=>absurd hk A0,.nil,s3,g3,g2,λ k hk=>absurd hk A0,.cons ⟨J,L,p0,[],rfl,s2.free a5,z3y i5 i1 g1,z3y g9 i9 g0,.nil,j1.tups (.of s3)⟩ .nil,λ u hp=>by rw [List.mem_singleton.mp hp];exact ⟨⟨.nil,λ _ h=>absurd h A0,.nil⟩,.nil,rfl⟩,⟨λ _ h=>absurd h A0⟩,.inr (List.mem_singleton.mpr rfl),(by decide:1<=0 + 1),rfl⟩ ?_ ?_)
  ·rintro k σ H4 ⟨ks,zs,y,ws,⟨o,u⟩,vis,x5,x6,x7,x8,rfl,kr,kn,s4,es4,ew4,ki,aw,⟨p,l,p2,xs,rfl,fl,ep,el,ax,pz⟩,po,lk,fv,kw,rfl⟩;obtain ⟨pp,wk,ol⟩:=po _ (List.mem_append.mpr (.inr (List.mem_singleton.mpr rfl)));change PlOk rs.length u at pp;change o.length=u.1.length at ol;have po :∀q∈ws,WqOk rs q:=λ q hq=>po q (List.mem_append.mpr (.inl hq));have mm :∀{a:Pl},a∈vis\/a∈(ws++[(o,u)]).map (·.2)->a∈u :: vis\/a∈ws.map (·.2):=λ {a} h=>by
    rcases h with h|h
    ·exact .inl (E1 _ h)
    ·rw [X0] at h;rcases List.mem_append.mp h with h|h
     ·exact .inr h
     ·rw [List.mem_singleton.mp h];exact .inl O1
   refine z0g ?_;refine ⟨_,rfl,.inl ⟨rfl,_,SqL.of ew4⟩,n,zs++[.ref p],.ref p,rfl,rfl,ew4,by simp,?_⟩;refine g_name ?_;rw [List.dropLast_concat];have h5:hid2 f n (upd H4 n (.lst zs))=hid2 f n H4:=hid2_b;have c7:upd H4 n (.lst zs) f=some (NsO f ks):=by rw [upd_ne c9];exact es4
   have d1:upd H4 n (.lst zs) n=some (.lst zs):=upd_same;generalize upd H4 n (.lst zs)=H5 at h5 c7 d1⊢;rw [<-h5] at s4 ki aw ep el pz ax kr;have s5:Same F H5:=s4.trans hid2_same;have b7 :∀{C:Hp} {R:VK} {x6 x7 x8:Option V} {j:Nat} {v:V},Same (hid2 f n H5) C->([.ref l,.ref p2]:List V)[j]? = some v->R v C->tOp (rIx (kx w)) (tVar 5) (tC (.int j)) [some (.ref t),some (.str "strict"),some (.ref x),some (.ref f),some (.ref n),some (.ref p),x6,x7,x8] C R:=λ s' hj h=>⟨_,rfl,.inr (.inl ⟨p,_,_,_,rfl,rfl,SqT.of (s' _ _ ep),z04 hj,h⟩)⟩
   refine sq_if ?_;refine ⟨_,rfl,x,Z,fs,rfl,s5 _ _ e1,bf.nm _ (by simp),b7 (j:=1) hid2_same rfl ⟨x,p2,rs,u,rfl,bo.same s5,by lia,pz.tups (.of hid2_same),λ b6 H6 W f2=>⟨_,rfl,?_⟩⟩⟩;have a7:Same (hid2 f n H5) H6:=hid2_same.trans W;refine ite2 (λ hb=>?_) λ hb=>?_
   ·exact b7 (j:=0) a7 rfl (q l xs o u _ (s1.trans (s5.trans W)) (s1.free fl) (a7 _ _ el) (z02 (λ _ _ z=>z.same a7) ax) wk (f2.mp hb))
   have nf:¬ FullP rs u:=λ z=>hb (f2.mpr z);refine tn_x (t_nx ?_);have g5:=bo.same (s5.trans W);refine ⟨_,rfl,x,Z,fs,rfl,(s5.trans W) _ _ e1,bf.nm _ (by simp),b7 (j:=1) a7 rfl ⟨x,p2,nm,rs,u,rfl,g5,gd,pz.tups (.of a7),pp,by lia,λ l7 y7 H7 s7 b4 d6 e8=>⟨l7,y7,rfl,d6,?_⟩⟩⟩;have c3:=W.trans s7;have e7:=c3 _ _ c7;have e3:=c3 _ _ d1;have a6:Same (hid2 f n H5) (hid2 f n H7):=zbh c3;have h3:l7≠f:=λ z=>by rw [z,W _ _ c7] at b4;cases b4
   have h6:l7≠n:=λ z=>by rw [z,W _ _ d1] at b4;cases b4
   have f9:=zhz (z02 (λ _ _ z=>StpZ.tups (zg0 e7 e3) z) e8);have nx:=pp.next;refine zja (a:=l7) (xs:=y7) (λ j σ C=>∃ks' zs' ws',KeyI (kx w) (hid2 f n C) (λ u=>∃o,Wk rs o u) ks'/\(ks'.map (·.1)).Nodup/\Same (hid2 f n H7) (hid2 f n C)/\C f=some (NsO f ks')/\C n=some (.lst zs')/\KeyI (kx w) (hid2 f n C) (λ a=>a∈u :: vis\/a∈ws'.map (·.2)) ks'/\All2 (WtAt (kx w) F (hid2 f n C)) ws' zs'/\(∀q∈ws',WqOk rs q)/\(∀d∈ks.map (·.1),d∈ks'.map (·.1))/\(∀s∈(nxT rs u).reverse.take j,plD s.2.2∈ks'.map (·.1))/\(([],0)∈u :: vis\/([],0)∈ws'.map (·.2))/\ws'.length<=ks'.length/\2 * (B - ks'.length) + ws'.length<=2 * (B - ks.length) + ws.length/\∃x6 x7 x8,σ=[some (.ref t),some (.str "strict"),some (.ref x),some (.ref f),some (.ref n),some (.ref p),x6,x7,x8])
    ⟨ks,zs,ws,kr.same a6,kn,Same.refl _,e7,e3,(ki.same a6).mono λ a h=>mm h,z02 (λ _ _ z=>z.same a6) aw,po,λ _ h=>h,λ _ h=>absurd h (by rw [u9];exact A0),mm fv,kw,B0 _,_,_,_,rfl⟩ (λ j σ C h=>?_) ?_ ?_
   ·obtain ⟨_,_,_,_,_,h,_⟩:=h;exact hid2_same _ _ (h _ _ (z3y h3 h6 d6))
   ·rintro j y σ X hy ⟨ks',zs',ws',kr8,kn8,s8,es8,ew8,ki8,aw8,po8,ko8,pr8,fv8,kl8,wk8,x6,x7,x8,rfl⟩;have jl:j < y7.length:=by have:=(List.getElem?_eq_some_iff.mp hy).1;rwa [List.length_reverse] at this
    obtain ⟨D,e9,b9,I,rfl,f5,j2⟩:=z0a f9 hy;have b8:D∈nxT rs u:=List.mem_reverse.mp (o0 e9);have d7:=nx D b8;have tk :∀s∈(nxT rs u).reverse.take (j + 1),s∈(nxT rs u).reverse.take j\/s=D:=λ s K=>by
     rw [List.take_add_one,e9] at K;rcases List.mem_append.mp K with z|z
     ·exact .inl z
     ·exact .inr (List.mem_singleton.mp z)
    have g7:Same (hid2 f n H7) X:=s8.trans hid2_same;have a9:=j2.tups (.of s8);have g6:=kr8.bd bd kn8;have zl:zs'.length<=1000001:=by
     rw [z05 aw8]
     lia
    refine ⟨b9,_,rfl,g7.seqT f5,rfl,_,_,rfl,_,_,rfl,_,_,rfl,rfl,?_⟩;have d5:=(ki8.same hid2_same).at_ (.inl es8);have d8:=plz_pd (a9.tups (.of hid2_same));refine ⟨_,rfl,_,rfl,f,I,ks',plD D.2.2,rfl,rfl,d5,pl_key _,pl_dep _,d8,_,rfl,?_⟩;have i2:¬ ((true ^^ decide (plD D.2.2∈ks'.map (·.1)))=true)->plD D.2.2∈ks'.map (·.1):=λ c8=>by
     by_cases M:plD D.2.2∈ks'.map (·.1)
     ·exact M
     ·exact absurd (by rw [decide_eq_false M];rfl) c8
    refine ite2 (λ e0=>?_) λ c8=>⟨ks',zs',ws',kr8,kn8,s8,es8,ew8,ki8,aw8,po8,ko8,λ s K=>?_,fv8,kl8,wk8,_,_,_,rfl⟩
    rotate_left
    ·rcases tk s K with z|z
     ·exact pr8 s z
     ·rw [z];exact i2 c8
    refine ⟨_,rfl,_,rfl,f,I,ks',plD D.2.2,rfl,rfl,rfl,es8,d5,Q0 (F0 g6 B4) (by decide),pl_key _,pl_dep _,d8,t_nx ?_⟩;have h9:hid2 f n (upd X f (NsO f (putN ks' (plD D.2.2) I)))=hid2 f n X:=hid2_a;have b0:upd X f (NsO f (putN ks' (plD D.2.2) I)) f=some (NsO f (putN ks' (plD D.2.2) I)):=upd_same;have a0:upd X f (NsO f (putN ks' (plD D.2.2) I)) n=some (.lst zs'):=by rw [upd_ne c9.symm];exact ew8
    generalize upd X f (NsO f (putN ks' (plD D.2.2) I))=H9 at h9 b0 a0⊢;rw [<-h9] at s8 ki8 aw8 a9 kr8;have f0:Same (hid2 f n H5) (hid2 f n H9):=a6.trans s8;have c6:Same (hid2 f n H5) H9:=f0.trans hid2_same;have h2:=c6 _ _ el;refine ⟨_,rfl,.inl ⟨rfl,_,SqL.of a0⟩,b7 (j:=0) c6 rfl ?_⟩;refine ⟨_,rfl,_,rfl,w_2,λ O a8=>?_⟩;obtain ⟨Ha,va,i7,ea⟩:=new1 (.tup [.int (D.1:Nat),D.2.1]) a8;rw [<-va];refine ⟨w_1,λ g8 h1=>?_⟩;obtain ⟨c4,vb,d4,i0⟩:=new1 (.lst [.ref O]) h1;rw [<-vb];have Y:=i7.trans d4;have xl:xs.length<=63:=by rw [z05 ax,ol];have:=z51 _ _ pp.nd pp.lt;lia
    refine .inr (.inr (.inl ⟨l,g8,xs,[.ref O],rfl,rfl,Y _ _ h2,i0,F0 (m:=100) (by show xs.length + 1<=100;lia) (by decide),λ S a3=>⟨_,rfl,w_2,λ a4 b1=>?_⟩⟩));have b3:=Same.upd (o:=.lst (xs++[.ref O])) a3;have d2:=Same.upd (o:=.tup [.ref S,.ref I]) b1;have d9:=d2 _ _ (upd_same (H:=c4) (a:=S) (o:=.lst (xs++[.ref O])));have e6:=upd_same (H:=upd c4 S (.lst (xs++[.ref O]))) (a:=a4) (o:=.tup [.ref S,.ref I]);have h0:O≠f:=λ z=>by rw [z,b0] at a8;cases a8
    have h8:O≠n:=λ z=>by rw [z,a0] at a8;cases a8
    have f6:S≠f:=λ z=>by rw [z,Y _ _ b0] at a3;cases a3
    have h4:S≠n:=λ z=>by rw [z,Y _ _ a0] at a3;cases a3
    have i8:a4≠f:=λ z=>by rw [z,b3 _ _ (Y _ _ b0)] at b1;cases b1
    have h7:a4≠n:=λ z=>by rw [z,b3 _ _ (Y _ _ a0)] at b1;cases b1
    have d3:=d2 _ _ (b3 _ _ (d4 _ _ ea));have b2:=(Y.trans b3).trans d2;generalize upd (upd c4 S (.lst (xs++[.ref O]))) a4 (.tup [.ref S,.ref I])=H13 at d3 d9 e6 b2⊢;have M:=zbh (a:=f) (b:=n) b2;refine ⟨n,zs',_,rfl,rfl,b2 _ _ a0,Q0 zl (by decide),?_⟩;have g4:plD D.2.2∉ks'.map (·.1):=λ z=>by rw [decide_eq_true z] at e0;cases e0
    have e4:=(kr8.same M).put (a9.tups (.of M)) ⟨_,.snoc wk b8⟩;have e5:=zje (d:=plD D.2.2) (b:=I) kn8;have f4:=e4.bd bd e5;have c5:=zhq (b:=I) g4;refine ⟨putN ks' (plD D.2.2) I,zs'++[.ref a4],ws'++[(o++[(D.1,D.2.1)],D.2.2)],by rw [hid2_b];exact e4,e5,?_,by rw [upd_ne c9];exact b2 _ _ b0,upd_same,?_,?_,λ q' hp=>?_,λ d hd=>zei (ko8 d hd),λ s K=>?_,?_,by rw [D0,c5];show ws'.length + 1<=_;lia,by rw [D0,c5];show _ + (ws'.length + 1)<=_;rw [c5] at f4;lia,_,_,_,rfl⟩
    ·rw [hid2_b];exact s8.trans M
    ·rw [hid2_b];refine ((ki8.same M).mono λ a h=>h.imp id λ z=>?_).put (a9.tups (.of M)) (.inr ?_)
     ·rw [X0];exact List.mem_append.mpr (.inr (List.mem_singleton.mpr rfl))
     ·rw [X0];exact List.mem_append.mpr (.inl z)
    ·rw [hid2_b];exact z0m (z02 (λ _ _ z=>z.same M) aw8) ⟨a4,S,I,_,rfl,((s4.trans c6).trans Y).free a3,z3y i8 h7 e6,z3y f6 h4 d9,z0m (z02 (λ _ _ z=>z.same (f0.trans M)) ax) ⟨O,rfl,z3y h0 h8 d3⟩,a9.tups (.of M)⟩
    ·rcases List.mem_append.mp hp with z|z
     ·exact po8 q' z
     ·rw [List.mem_singleton.mp z];exact ⟨d7.1,.snoc wk b8,by show (o++[(D.1,D.2.1)]).length=D.2.2.1.length;rw [D0,d7.2];show o.length + 1=_;rw [ol]⟩
    ·rcases tk s K with z|z
     ·exact zei (pr8 s z)
     ·rw [z];exact zg7
    ·exact fv8.imp id λ z=>by rw [X0];exact List.mem_append.mpr (.inl z)
   ·rintro σ X ⟨ks',zs',ws',kr8,kn8,s8,es8,ew8,ki8,aw8,po8,ko8,pr8,fv8,kl8,wk8,x6,x7,x8,rfl⟩;rw [show y7.length=(nxT rs u).reverse.length by rw [List.length_reverse,z05 e8],i4] at pr8;refine ⟨2 * (B - ks'.length) + ws'.length,by lia,ks',zs',ws',u :: vis,_,_,_,_,rfl,kr8,kn8,(s4.trans a6).trans s8,es8,ew8,ki8,aw8,po8,⟨λ a ha=>?_⟩,fv8,T4 kl8,rfl⟩;rcases List.mem_cons.mp ha with z|z
    ·rw [z];exact ⟨nf,λ s K=>pr8 s (List.mem_reverse.mpr K)⟩
    ·exact ⟨(lk.c a z).1,λ s K=>ko8 _ ((lk.c a z).2 s K)⟩
  ·rintro k σ H4 ⟨ks,zs,ws,vis,x5,x6,x7,x8,rfl,kr,kn,s4,es4,ew4,ki,aw,po,lk,fv,kw,rfl⟩ body;refine ⟨_,rfl,.inl ⟨n,zs,rfl,.inl (SqL.of ew4),_,_,rfl,rfl,_,rfl,?_⟩⟩;refine ite2 (λ h=>?_) λ h=>?_
   ·have h:(0:Int) < (zs.length:Int):=of_decide_eq_true h;have hz:zs≠[]:=λ z=>by rw [z] at h;exact absurd h (by decide)
    have ez:=(i6 hz).symm;rw [ez] at aw ew4;obtain ⟨wr,N,rfl,J,a2⟩:=zg3 aw;rw [D0] at kw;exact body _ ⟨ks,_,_,wr,N,vis,x5,x6,x7,x8,by rw [D0];rfl,kr,kn,s4,es4,ew4,ki,J,a2,po,lk,fv,by have kw:wr.length + 1<=ks.length + 1:=kw;lia,rfl⟩
   ·have zn:zs=[]:=by
     cases zs with
     | nil=>rfl
     | cons z r=>exact absurd (decide_eq_true (show (0:Int) < ((z :: r).length:Int) by rw [C1];lia)) h
    subst zn;cases aw;refine qn _ (s1.trans (s4.trans hid2_same)) λ o u wk=>(lk.c u ?_).1;refine z57 (G:=λ u=>u∈vis) (fv.resolve_right A0) (λ u hp s K=>?_) wk;obtain ⟨k,hk,e⟩:=List.mem_map.mp ((lk.c u hp).2 s K);obtain ⟨j4,e',_,g⟩:=ki k hk;rw [zjp (e.symm.trans e')];exact g.resolve_right A0
end
section
variable {wr:Int} {es:List Ev} {rs:List Rc}
theorem z7m {x:Int} :∀(rs:List Rc) (o:Option Int),(∀r∈rs,¬ (isW r=true/\x=intV r.x))->rs.foldl (λ (o:Option Int) r=>if isW r=true/\x=intV r.x then some (r.b:Int) else o) o=o
 | [],_,_=>rfl
 | r :: rs,o,h=>by rw [o5,if_neg (h r O1)];exact z7m rs o λ q a=>h q (E1 _ a)
theorem zby {x:Int} {w:Rc} :∀(rs:List Rc) (o:Option Int),w∈rs->isW w=true->x=intV w.x->(∀r∈rs,isW r=true->x=intV r.x->r=w)->rs.foldl (λ (o:Option Int) r=>if isW r=true/\x=intV r.x then some (r.b:Int) else o) o=some (w.b:Int)
 | r :: rs,o,hm,hw,hx,h=>by
  rw [o5];by_cases z:w∈rs
  ·exact zby rs _ z hw hx λ q a=>h q (E1 _ a)
  ·have e:r=w:=((List.mem_cons.mp hm).resolve_right z).symm;rw [if_pos ⟨by rw [e];exact hw,by rw [e];exact hx⟩,z7m rs _ λ q a y=>z (by rw [<-h q (E1 _ a) y.1 y.2];exact a),e]
structure Unl (rs:List Rc):Prop where
 nd:((rs.filter isW).map (λ r=>intV r.x)).Nodup
 n0:(0:Int)∉(rs.filter isW).map (λ r=>intV r.x)
theorem Unl.one (U:Unl rs) {w q:Rc} (hw:w∈rs) (iw:isW w=true) (hq:q∈rs) (iq:isW q=true) (e:intV w.x=intV q.x):w=q:=z28 U.nd w (List.mem_filter.mpr ⟨hw,iw⟩) q (List.mem_filter.mpr ⟨hq,iq⟩) e
theorem Unl.since (U:Unl rs) {w:Rc} (hw:w∈rs) (iw:isW w=true):sinceF rs (intV w.x)=some (w.b:Int):=zby rs _ hw iw rfl λ _ a c e=>U.one a c hw iw e.symm
theorem Unl.since0 (U:Unl rs):sinceF rs 0=some (-1):=z7m rs _ λ r a y=>U.n0 (List.mem_map.mpr ⟨r,List.mem_filter.mpr ⟨a,y.1⟩,y.2.symm⟩)
def Cur (rs:List Rc) (ns:List Nat) (s t:Int):Prop:=(s=0/\t=-1/\∀n r,n∈ns->rs[n]? = some r->isW r=false)\/∃n w,n∈ns/\rs[n]? = some w/\isW w=true/\s=intV w.x/\t=w.b/\∀n' r,n'∈ns->rs[n']? = some r->isW r=true->r.b<=w.b
theorem Cur.uniq (S:Sq1 wr es rs) {ns:List Nat} {s t s' t':Int} (h:Cur rs ns s t) (h':Cur rs ns s' t'):s=s':=by
 rcases h with ⟨f,_,e⟩|⟨n,w,f,h2,e,h4,_,h6⟩
 ·rcases h' with ⟨d,_⟩|⟨n',w',d,g2,c,_⟩
  ·rw [f,d]
  ·have:=e n' w' d g2;rw [c] at this;cases this
 ·rcases h' with ⟨_,_,c⟩|⟨n',w',d,g2,c,g4,_,g6⟩
  ·have:=c n w f h2;rw [e] at this;cases this
  ·have a:=h6 n' w' d g2 c;have b:=g6 n w f h2 e;rw [h4,g4,S.same_b (o0 h2) (o0 g2) (j9 b a)]
theorem Cur.since (U:Unl rs) {ns:List Nat} {s t:Int} (h:Cur rs ns s t):sinceF rs s=some t:=by
 rcases h with ⟨rfl,rfl,_⟩|⟨n,w,_,h2,h3,rfl,rfl,_⟩
 ·exact U.since0
 ·exact U.since (o0 h2) h3
theorem mem_stq {r:Rc} {n x:Nat} {pl:Pl}:x∈(stq r n pl).2.2.1↔x∈pl.1\/x=n:=by show x∈srtN (pl.1++[n])↔_;rw [(z7h _).mem_iff,V8,z6]
theorem st_w {r:Rc} {n:Nat} {pl:Pl} (h:isW r=true):(stq r n pl).2.2.2=intV r.x:=if_pos (of_decide_eq_true h)
theorem st_r {r:Rc} {n:Nat} {pl:Pl} (h:isW r=false):(stq r n pl).2.2.2=pl.2:=if_neg λ z=>by rw [isW,decide_eq_true z] at h;cases h
theorem an_w {r:Rc} {s:Int} (h:isW r=true):ansR r.v s=.str "ok":=if_pos (of_decide_eq_true h)
theorem an_r {r:Rc} {s:Int} (h:isW r=false):ansR r.v s=.int s:=if_neg λ z=>by rw [isW,decide_eq_true z] at h;cases h
theorem ah_mk {a b:Nat} {r q:Rc} {e:Nat} (ha:rs[a]? = some r) (hb:rs[b]? = some q) (he:r.e=some e) (lt:e < q.b):z0l rs a b=true:=by rw [z5b ha hb];unfold aheadB;rw [he];exact decide_eq_true lt
theorem ah_of {a b:Nat} (h:z0l rs a b=true) :∃r q e,rs[a]? = some r/\rs[b]? = some q/\r.e=some e/\e < q.b:=by
 obtain ⟨f,g⟩:=z1y h;have d:rs[a]? = some rs[a]:=N0 f;have c:rs[b]? = some rs[b]:=N0 g;rw [z5b d c] at h;unfold aheadB at h;cases he:rs[a].e with
 | none=>rw [he] at h;cases h
 | some e=>rw [he] at h;exact ⟨_,_,e,d,c,he,of_decide_eq_true h⟩
theorem rd_of {r:Rc} (g:RdG r\/WrG wr r) (h:isW r=false):RdG r:=g.resolve_right λ z=>by rw [z.w] at h;cases h
theorem wr_of {r:Rc} (g:RdG r\/WrG wr r) (h:isW r=true):WrG wr r:=g.resolve_left λ z=>by rw [z.w] at h;cases h
theorem rd_no {r:Rc} (h:r.v=.str "read"):isW r=false:=decide_eq_false λ e=>z0y (h.symm.trans e)
structure SI (rs:List Rc) (pl:Pl):Prop where
 clo :∀b∈pl.1,∀a,z0l rs a b=true->a∈pl.1
 cur :∃t,Cur rs pl.1 pl.2 t/\∀n r e,n∈pl.1->rs[n]? = some r->isW r=false->r.e=some e->RegR rs r e/\∃tr,sinceF rs (intV r.a)=some tr/\tr<=t
 nb :∀i j,i∈pl.1->j∈pl.1->¬ Bad rs i j
theorem SI.nil:SI rs ([],0):=⟨λ _ h=>absurd h A0,⟨-1,.inl ⟨rfl,rfl,λ _ _ h=>absurd h A0⟩,λ _ _ _ h=>absurd h A0⟩,λ _ _ h=>absurd h A0⟩
theorem SI.step (S:Sq1 wr es rs) (U:Unl rs) {pl:Pl} (h:SI rs pl) :∀s∈nxT rs pl,SI rs s.2.2:=by
 intro s hs;obtain ⟨n,r,l,hc,ac,rfl⟩:=mem_nxT.mp hs;obtain ⟨nn,N,O⟩:=cP_iff.mp hc;have J:=o0 l;obtain ⟨t,K,M⟩:=h.cur;have T :∀{w q:Rc},w∈rs->q∈rs->w.e≠some q.b:=λ D d=>S.noE (S.R.a _ d) _ D;have clo :∀b∈(stq r n pl).2.2.1,∀a,z0l rs a b=true->a∈(stq r n pl).2.2.1:=λ b hb a X=>by
  rcases mem_stq.mp hb with z|z
  ·exact mem_stq.mpr (.inl (h.clo b z a X))
  ·exact mem_stq.mpr (.inl (N a (by rw [<-z];exact X)))
 -- the read's P
 have P:isW r=false->∀e,r.e=some e->RegR rs r e/\sinceF rs (intV r.a)=some t:=λ A e B=>by
  have ea:r.a=.int pl.2:=by
   rcases ac with z|z
   ·rw [z] at B;cases B
   ·rw [<-z,an_r A]
  have L:intV r.a=pl.2:=by rw [ea];rfl
  refine ⟨?_,by rw [L];exact K.since U⟩;rcases K with ⟨p,_,v⟩|⟨m,w,p,g,v,H,_,I⟩
  ·refine .inr (.inl ⟨by rw [L,p],λ w D iw k C lt=>?_⟩);obtain ⟨i,G⟩:=List.mem_iff_getElem?.mp D;have:=v i w (N i (ah_mk G l C lt)) G;rw [iw] at this;cases this
  ·have D:=o0 g;have wb:w.b < e:=by
    rcases S4 w.b e with z|z|z
    ·exact z
    ·exact absurd (by rw [B,z]) (T J D)
    ·exact absurd p (O m (ah_mk l g B z))
   by_cases z :∃k,w.e=some k/\k < r.b
   ·refine .inr (.inr ⟨w,D,v,by rw [L,H],z,λ w' a1 a0 ⟨k,C,lt⟩=>?_⟩);obtain ⟨i,G⟩:=List.mem_iff_getElem?.mp a1;exact I i w' (N i (ah_mk G l C lt)) G a0
   ·refine .inl ⟨w,D,v,by rw [L,H],wb,λ k C=>?_⟩;rcases S4 r.b k with y|y|y
    ·exact y
    ·exact absurd (by rw [C,y]) (T D J)
    ·exact absurd ⟨k,C,y⟩ z
 refine ⟨clo,?_,λ i j G Y Q=>?_⟩
 ·cases A:isW r with
  | true=>
   have V :∀o q,o∈pl.1->rs[o]? = some q->isW q=true->q.b<=r.b:=λ o q x d u=>by
    have e:=(S.wh (o0 d) u).1.trans (S.wh J A).1.symm;rcases S.hand (o0 d) J e with z|z|⟨_,k,C,lt⟩
    ·rw [z];exact B0 _
    ·exact N2 z.1
    ·exact absurd x (O o (ah_mk l d C lt))
   have a2:t<=r.b:=by
    rcases K with ⟨_,g,_⟩|⟨m,w,p,g,v,_,F,_⟩
    ·rw [g];lia
    ·rw [F];have:=V m w p g v;lia
   refine ⟨r.b,.inr ⟨n,r,mem_stq.mpr (.inr rfl),l,A,st_w A,rfl,λ o q x d u=>?_⟩,λ o q e x d u B=>?_⟩
   ·rcases mem_stq.mp x with z|z
    ·exact V o q z d u
    ·rw [z,l] at d;cases d;exact B0 _
   ·rcases mem_stq.mp x with z|z
    ·obtain ⟨a,tr,b,c⟩:=M o q e z d u B;exact ⟨a,tr,b,by lia⟩
    ·rw [z,l] at d;cases d;rw [A] at u;cases u
  | false=>
   refine ⟨t,?_,λ o q e x d u B=>?_⟩
   ·rw [st_r A];rcases K with ⟨p,g,v⟩|⟨m,w,p,g,v,H,F,I⟩
    ·refine .inl ⟨p,g,λ o q x d=>?_⟩;rcases mem_stq.mp x with z|z
     ·exact v o q z d
     ·rw [z,l] at d;cases d;exact A
    ·refine .inr ⟨m,w,mem_stq.mpr (.inl p),g,v,H,F,λ o q x d u=>?_⟩;rcases mem_stq.mp x with z|z
     ·exact I o q z d u
     ·rw [z,l] at d;cases d;rw [A] at u;cases u
   ·rcases mem_stq.mp x with z|z
    ·exact M o q e z d u B
    ·rw [z,l] at d;cases d;obtain ⟨a,b⟩:=P A e B;exact ⟨a,t,b,Int.le_refl _⟩
 ·obtain ⟨r1,q1,e,f,s1,t1,p,g,v,H,F,I,h7,Z,W,a3⟩:=id Q;rcases mem_stq.mp G with zi|zi
  ·rcases mem_stq.mp Y with zj|zj
   ·exact h.nb i j zi zj Q
   ·rw [zj,l] at g;cases g;have o2:=(P (rd_no H) f I).2;obtain ⟨_,tr,a,b⟩:=M i r1 e zi p (rd_no v) F;rw [o2] at W;rw [a] at Z;cases Z;cases W
    lia
  ·rw [zi,l] at p;cases p;rcases mem_stq.mp Y with zj|zj
   ·exact O j (ah_mk l g F h7) zj
   ·rw [zj,l] at g;cases g;have:=S.E _ J e F
    lia
theorem SI.of (S:Sq1 wr es rs) (U:Unl rs) {o:List Oa} {pl:Pl} (w:Wk rs o pl):SI rs pl:=z57 SI.nil (λ _ h=>h.step S U) w
theorem SI.full {pl:Pl} (h:SI rs pl) (f:FullP rs pl):AllR RegR rs/\∀i j,¬ Bad rs i j:=by
 refine ⟨λ r d e l a=>?_,λ i j b=>?_⟩
 ·obtain ⟨n,c⟩:=List.mem_iff_getElem?.mp d;obtain ⟨t,_,g⟩:=h.cur;exact (g n r e (f n r c (by rw [a];rfl)) c (rd_no l) a).1
 ·obtain ⟨s,o,e,g,_,_,p,q,_,_,m,k,_⟩:=id b;exact h.nb i j (f i s p (by rw [m];rfl)) (f j o q (by rw [k];rfl)) b
noncomputable def allS:Nat->List (List Nat)
 | 0=>[[]]
 | n + 1=>allS n++(allS n).map (·++[n])
theorem zdw :∀n,(allS n).length=2 ^ n
 | 0=>rfl
 | n + 1=>by
  show (allS n++(allS n).map (·++[n])).length=_;rw [D0,L0,zdw n,Nat.pow_succ]
  lia
theorem z9u (p:Nat->Bool) :∀n,(V0 n).filter p∈allS n
 | 0=>List.mem_singleton.mpr rfl
 | n + 1=>by
  rw [m5,G2];show _∈allS n++(allS n).map (·++[n]);cases h:p n with
  | true=>exact List.mem_append.mpr (.inr (List.mem_map.mpr ⟨_,z9u p n,by simp [h]⟩))
  | false=>exact List.mem_append.mpr (.inl (by simpa [h] using z9u p n))
theorem PlOk.mem {N:Nat} {pl:Pl} (h:PlOk N pl):pl.1∈allS N:=by
 have e:pl.1=(V0 N).filter λ n=>decide (n∈pl.1):=by refine List.Perm.eq_of_pairwise (le:=(·<=·)) (λ _ _ _ _ a b=>j9 a b) h.so (z5 _ ((C5 (n:=N)).imp N2)) ?_;refine (List.perm_ext_iff_of_nodup h.nd (z5 _ List.nodup_range)).mpr λ a=>?_;rw [M7,x9,decide_eq_true_iff];exact ⟨λ z=>⟨h.lt a z,z⟩,λ z=>z.2⟩
 rw [e];exact z9u _ _
theorem nd_sub {α:Type} :∀(ds l:List α),ds.Nodup->(∀d∈ds,d∈l)->ds.length<=l.length
 | [],_,_,_=>B2 _
 | d :: ds,l,a,h=>by
  classical
  have b:=h d O1;have a:=List.nodup_cons.mp a;have:=nd_sub ds (l.erase d) a.2 λ x c=>(j0f (λ e:x=d=>a.1 (by rw [<-e];exact c))).mpr (h x (E1 _ c));rw [S6 b] at this;have:=A7 b;rw [C1]
  lia
theorem PlOk.of {o:List Oa} {pl:Pl} (w:Wk rs o pl):PlOk rs.length pl:=z57 ⟨.nil,λ _ h=>absurd h A0,.nil⟩ (λ _ h s a=>(h.next s a).1) w
open Classical in
theorem ze2 (S:Sq1 wr es rs) (U:Unl rs) (l16:rs.length<=16):BdW rs 65536:=λ k j h=>by
 let f:List Nat->Int:=λ b=>if h :∃s t,Cur rs b s t then h.choose else 0
 have:=nd_sub k ((allS rs.length).map λ b=>plD (b,f b)) j λ d i=>by
  obtain ⟨a,o,rfl,w⟩:=h d i;obtain ⟨t,c,_⟩:=(SI.of S U w).cur;refine List.mem_map.mpr ⟨a.1,(PlOk.of w).mem,?_⟩;have g :∃s t,Cur rs a.1 s t:=⟨_,_,c⟩
  have e:f a.1=a.2:=by show (if h :∃s t,Cur rs a.1 s t then h.choose else 0)=a.2;rw [dif_pos g];obtain ⟨m,l⟩:=g.choose_spec;exact Cur.uniq S l c
  show plD (a.1,f a.1)=plD a;rw [e]
 rw [L0,zdw] at this;exact F0 this (Nat.pow_le_pow_right (by decide) l16)
end
section
variable {wr:Int} {es:List Ev} {rs:List Rc}
def Ipt (rs:List Rc) (n:Nat):Prop:=∃r,rs[n]? = some r/\(isW r=true\/r.e.isSome=true)
noncomputable def scR (rs:List Rc) (r:Rc):Nat:=if isW r=true then r.b + 1 else (((sinceF rs (intV r.a)).getD 0) + 1).toNat
noncomputable def rkR (rs:List Rc) (r:Rc):Nat:=scR rs r * 100 + if isW r=true then 0 else 1 + r.b
theorem rk_w {r:Rc} (h:isW r=true):rkR rs r=(r.b + 1) * 100:=by unfold rkR scR;rw [if_pos h,if_pos h];rfl
theorem rk_r {r:Rc} {t:Int} (h:isW r=false) (e:sinceF rs (intV r.a)=some t):rkR rs r=(t + 1).toNat * 100 + (1 + r.b):=by unfold rkR scR;rw [if_neg (by rw [h];decide),if_neg (by rw [h];decide),e];rfl
theorem RegR.at_ (S:Sq1 wr es rs) (U:Unl rs) {q:Rc} {f:Nat} (hq:q∈rs) (hf:q.e=some f) (h:RegR rs q f):(sinceF rs (intV q.a)=some (-1)/\intV q.a=0/\∀w∈rs,isW w=true->∀e,w.e=some e->¬ e < q.b)\/
  ∃w∈rs,isW w=true/\intV w.x=intV q.a/\sinceF rs (intV q.a)=some (w.b:Int)/\w.b < f/\∀w'∈rs,isW w'=true->(∃e,w'.e=some e/\e < q.b)->w'.b<=w.b:=by
 rcases h with ⟨w,c,d,g,lt,h⟩|⟨h0,h⟩|⟨w,c,d,g,⟨e,he,lt⟩,h⟩
 ·refine .inr ⟨w,c,d,g,by rw [<-g];exact U.since c d,lt,λ w' i m ⟨e,he,l⟩=>?_⟩;have j:=(S.wh c d).1.trans (S.wh i m).1.symm;rcases S.hand c i j with z|⟨_,k,hk,z⟩|z
  ·rw [z];exact B0 _
  ·have:=h k hk;have:=S.E _ i e he
   lia
  ·exact N2 z.1
 ·exact .inl ⟨by rw [h0];exact U.since0,h0,h⟩
 ·refine .inr ⟨w,c,d,g,by rw [<-g];exact U.since c d,?_,h⟩;have:=S.E _ c e he;have:=S.E _ hq f hf
  lia
theorem rk_lt (S:Sq1 wr es rs) (U:Unl rs) (l63 :∀r∈rs,r.b < 63) (A:AllR RegR rs) (B :∀i j,¬ Bad rs i j) {a b:Nat} (h:z0l rs a b=true) {r q:Rc} (ha:rs[a]? = some r) (hb:rs[b]? = some q) (ib:isW q=true\/q.e.isSome=true):rkR rs r < rkR rs q:=by
 obtain ⟨F,M,e,u,p,k,lt⟩:=ah_of h;rw [ha] at u;rw [hb] at p;cases u;cases p;have d:=o0 ha;have g:=o0 hb;have K:=S.E _ d e k;have H:=l63 _ d;have N:=l63 _ g;have m :∀{x:Rc},x∈rs->isW x=false->x.v=.str "read":=λ C D=>(rd_of (S.G _ C) D).1;cases ir:isW r with
 | true=>
  rw [rk_w ir];cases iq:isW q with
  | true=>rw [rk_w iq];lia
  | false=>
   obtain ⟨f,l⟩:=Option.isSome_iff_exists.mp (ib.resolve_left (by rw [iq];decide));rcases (A q g f (m g iq) l).at_ S U g l with ⟨_,_,z⟩|⟨w,_,_,_,c,_,z⟩
   ·exact absurd lt (z r d ir e k)
   ·rw [rk_r iq c];have:=z r d ir ⟨e,k,lt⟩
    lia
 | false=>
  have y:=A r d e (m d ir) k;cases iq:isW q with
  | true=>
   rw [rk_w iq];rcases y.at_ S U d k with ⟨c,_⟩|⟨w,_,_,_,c,z,_⟩
   ·rw [rk_r ir c];lia
   ·rw [rk_r ir c];lia
  | false=>
   obtain ⟨f,l⟩:=Option.isSome_iff_exists.mp (ib.resolve_left (by rw [iq];decide));obtain ⟨s,o,J⟩ :∃s,sinceF rs (intV r.a)=some s/\-1<=s:=by
    rcases y.at_ S U d k with ⟨c,_⟩|⟨w,_,_,_,c,_⟩
    ·exact ⟨_,c,Int.le_refl _⟩
    ·exact ⟨_,c,by lia⟩
   obtain ⟨t,n,I⟩ :∃t,sinceF rs (intV q.a)=some t/\-1<=t:=by
    rcases (A q g f (m g iq) l).at_ S U g l with ⟨c,_⟩|⟨w,_,_,_,c,_⟩
    ·exact ⟨_,c,Int.le_refl _⟩
    ·exact ⟨_,c,by lia⟩
   have L:¬ t < s:=λ z=>B a b ⟨r,q,e,f,s,t,ha,hb,m d ir,m g iq,k,l,lt,o,n,z⟩;rw [rk_r ir o,rk_r iq n];have:(s + 1).toNat<=(t + 1).toNat:=by lia
   lia
theorem least (P:Nat->Prop) (f:Nat->Nat) :∀(k n:Nat),P n->f n<=k->∃m,P m/\∀i,P i->f m<=f i
 | 0,n,h,l=>⟨n,h,λ i _=>by lia⟩
 | k + 1,n,h,l=>by
  by_cases z :∃i,P i/\f i<=k
  ·obtain ⟨i,a,z⟩:=z;exact least P f k i a z
  ·exact ⟨n,h,λ i a=>m7 λ y=>z ⟨i,a,by lia⟩⟩
structure OnW (rs:List Rc) (pl:Pl):Prop where
 i :∀x∈pl.1,Ipt rs x
 d :∀x q y r,x∈pl.1->rs[x]? = some q->Ipt rs y->rs[y]? = some r->rkR rs r < rkR rs q->y∈pl.1
 c :∃t,Cur rs pl.1 pl.2 t
theorem OnW.step (S:Sq1 wr es rs) (U:Unl rs) (l63 :∀r∈rs,r.b < 63) (A:AllR RegR rs) (B :∀i j,¬ Bad rs i j) {pl:Pl} (h:OnW rs pl) (m :∃y,Ipt rs y/\y∉pl.1) :∃s∈nxT rs pl,OnW rs s.2.2:=by
 obtain ⟨y0,h0⟩:=m;obtain ⟨y,⟨H,T⟩,mn⟩:=least (λ y=>Ipt rs y/\y∉pl.1) (λ y=>match rs[y]? with|some r=>rkR rs r|none=>0) _ y0 h0 (B0 _);obtain ⟨r,n,Q⟩:=H;have H:Ipt rs y:=⟨r,n,Q⟩
 have F:=o0 n;have O :∀x q,rs[x]? = some q->Ipt rs x->rkR rs q < rkR rs r->x∈pl.1:=λ x q f ix lt=>by
  by_cases z:x∈pl.1
  ·exact z
  ·have:=mn x ⟨ix,z⟩;rw [n,f] at this;exact absurd (show rkR rs r<=rkR rs q from this) (Nat.not_le_of_lt lt)
 have I :∀x q,x∈pl.1->rs[x]? = some q->¬ rkR rs r < rkR rs q:=λ x q C f lt=>T (h.d x q y r C f H n lt);have Z:cP rs pl.1 y=true:=cP_iff.mpr ⟨T,λ a R=>by
  obtain ⟨P,_,e,l,_,E,_⟩:=ah_of R;exact O a P l ⟨P,l,.inr (by rw [E];rfl)⟩ (rk_lt S U l63 A B R l n Q),λ b hb X=>by
  obtain ⟨q,f,D⟩:=h.i b X;exact I b q X f (rk_lt S U l63 A B hb n f D)⟩
 obtain ⟨t,L⟩:=h.c;have ac:r.e=none\/ansR r.v pl.2=r.a:=by
  cases E:r.e with
  | none=>exact .inl rfl
  | some e=>
   refine .inr ?_;cases iw:isW r with
   | true=>rw [an_w iw];exact ((wr_of (S.G _ F) iw).2.2.2 e E).symm
   | false=>
    have g:=rd_of (S.G _ F) iw;rw [an_r iw,g.2.2 e E];congr 1;rcases (A r F e g.1 E).at_ S U F E with ⟨J,z0,_⟩|⟨w,hw,iw',ex,J,_⟩
    ·rcases L with ⟨l,_⟩|⟨m,w,l,u,o,_⟩
     ·rw [l,z0]
     ·refine absurd ?_ (I m w l u);rw [rk_r iw J,rk_w o];have:=l63 _ F
      lia
    ·obtain ⟨k,K⟩:=List.mem_iff_getElem?.mp hw;have Y:=O k w K ⟨w,K,.inl iw'⟩ (by rw [rk_r iw J,rk_w iw'];lia);rcases L with ⟨_,_,o⟩|⟨m,w',l,u,o,h4,_,h6⟩
     ·have:=o k w Y K;rw [iw'] at this;cases this
     ·have a:=h6 k w Y K iw';have b:w'.b<=w.b:=by
       have:=I m w' l u;rw [rk_r iw J,rk_w o] at this;have:=l63 _ F
       lia
      rw [h4,S.same_b (o0 u) hw (j9 b a),ex]
 refine ⟨_,mem_nxT.mpr ⟨y,r,n,Z,ac,rfl⟩,λ x C=>?_,λ x q z p C f V W lt=>?_,?_⟩
 ·rcases mem_stq.mp C with z|z
  ·exact h.i x z
  ·rw [z];exact H
 ·rcases mem_stq.mp C with e|e
  ·exact mem_stq.mpr (.inl (h.d x q z p e f V W lt))
  ·rw [e,n] at f;cases f;exact mem_stq.mpr (.inl (O z p W V lt))
 ·cases iw:isW r with
  | true=>
   refine ⟨r.b,.inr ⟨y,r,mem_stq.mpr (.inr rfl),n,iw,st_w iw,rfl,λ x q C f D=>?_⟩⟩;rcases mem_stq.mp C with e|e
   ·have:=I x q e f;rw [rk_w iw,rk_w D] at this
    lia
   ·rw [e,n] at f;cases f;exact B0 _
  | false=>
   rw [st_r iw];refine ⟨t,?_⟩;rcases L with ⟨l,u,o⟩|⟨m,w,l,u,o,h4,h5,h6⟩
   ·refine .inl ⟨l,u,λ N q M f=>?_⟩;rcases mem_stq.mp M with z|z
    ·exact o N q z f
    ·rw [z,n] at f;cases f;exact iw
   ·refine .inr ⟨m,w,mem_stq.mpr (.inl l),u,o,h4,h5,λ N q M f D=>?_⟩;rcases mem_stq.mp M with z|z
    ·exact h6 N q z f D
    ·rw [z,n] at f;cases f;rw [iw] at D;cases D
theorem way_on (S:Sq1 wr es rs) (U:Unl rs) (l63 :∀r∈rs,r.b < 63) (A:AllR RegR rs) (B :∀i j,¬ Bad rs i j) :∀(k:Nat) (o:List Oa) (pl:Pl),Wk rs o pl->OnW rs pl->rs.length<=pl.1.length + k->∃o pl,Wk rs o pl/\FullP rs pl
 | k,o,pl,w,h,l=>by
  by_cases m :∃y,Ipt rs y/\y∉pl.1
  ·obtain ⟨s,a,d⟩:=h.step S U l63 A B m;have f:=PlOk.of w;have g:=(f.next s a).2
   match k,l with
   | 0,l=>
    have:=z51 _ _ (PlOk.of (w.snoc a)).nd (PlOk.of (w.snoc a)).lt
    lia
   | k + 1,l=>exact way_on S U l63 A B k _ _ (w.snoc a) d (by lia)
  ·refine ⟨o,pl,w,λ n r e c=>?_⟩;by_cases z:n∈pl.1
   ·exact z
   ·exact absurd ⟨n,⟨r,e,.inr c⟩,z⟩ m
theorem way_of (S:Sq1 wr es rs) (U:Unl rs) (l63 :∀r∈rs,r.b < 63) (A:AllR RegR rs) (B :∀i j,¬ Bad rs i j) :∃o pl,Wk rs o pl/\FullP rs pl:=
 way_on S U l63 A B rs.length [] ([],0) .nil ⟨λ _ h=>absurd h A0,λ _ _ _ _ h=>absurd h A0,-1,.inl ⟨rfl,rfl,λ _ _ h=>absurd h A0⟩⟩ (Nat.le_add_left _ _)
theorem TW.nm {nm:Str} {os:List (Int×Bool)} {us:List Int} (h:TW nm wr es os us) :∀e∈es,∀k n v x,e=.beg k n v x->n=.str nm:=by
 induction h with
 | nil=>exact λ _ h=>absurd h A0
 | wri _ _ _ _ ih=>exact λ e a k n v x z=>(List.mem_append.mp a).elim (λ y=>ih e y k n v x z) λ y=>by rw [List.mem_singleton.mp y] at z;cases z;rfl
 | rd _ _ ih=>exact λ e a k n v x z=>(List.mem_append.mp a).elim (λ y=>ih e y k n v x z) λ y=>by rw [List.mem_singleton.mp y] at z;cases z;rfl
 | fin _ _ _ _ ih=>exact λ e a k n v x z=>(List.mem_append.mp a).elim (λ y=>ih e y k n v x z) λ y=>by rw [List.mem_singleton.mp y] at z;cases z
theorem zef :∀(es:List Ev) {i:Nat} {rs:List Rc},(∀r∈rs,r.e=none->r.a=.non)->∀r∈dAll i rs es,r.e=none->r.a=.non
 | [],_,_,h=>h
 | e :: es,i,rs,h=>zef es (i:=i + 1) (rs:=dstep i rs e) λ r b c=>by
  cases e with
  | beg k n v x=>
   rcases List.mem_append.mp (show r∈rs++[_] from b) with z|z
   ·exact h r z c
   ·rw [List.mem_singleton.mp z]
  | fin k a=>
   unfold dstep at b;dsimp only at b;split at b
   ·obtain ⟨m,d⟩:=List.mem_iff_getElem?.mp b;rw [X1] at d;obtain ⟨q,f,z⟩:=Option.map_eq_some_iff.mp d;split at z
    ·rw [<-z] at c;cases c
    ·rw [<-z] at c⊢;exact h q (o0 f) c
   ·exact h r b c
theorem TW.gd {nm:Str} {os:List (Int×Bool)} {us:List Int} (h:TW nm wr es os us) (ub:UB us):(∀r∈dAll 0 [] es,GD nm r)/\Unl (dAll 0 [] es):=by
 have T:=h.rs;have u:Unl (dAll 0 [] es):=⟨by rw [T.u];exact h.us.1,by rw [T.u];exact h.us.2⟩
 have R:=h.evr;refine ⟨λ r b=>⟨h.nm _ (o0 (R.a r b)) _ _ _ _ rfl,?_,?_⟩,u⟩
 ·rcases T.g r b with g|g
  ·exact .inl ⟨g.1,g.2.1⟩
  ·refine .inr ⟨g.1,_,g.2.2.1,ub _ ?_⟩;rw [<-T.u];exact List.mem_map.mpr ⟨r,List.mem_filter.mpr ⟨b,g.w⟩,rfl⟩
 ·cases he:r.e with
  | none=>exact .inl ⟨rfl,zef es (λ _ z=>absurd z A0) r b he⟩
  | some e=>
   refine .inr ⟨rfl,?_⟩;rcases T.g r b with g|g
   ·exact .inr ⟨_,g.2.2 e he⟩
   ·exact .inl (g.2.2.2 e he)
end
section
variable {nm:Str} {wr:Int} {es:List Ev} {ps:List Nat} {f:Nat->Nat}
theorem DInv.allO :∀{es:List Ev} {i:Nat} {rs:List Rc} {os:List Int},DInv i rs os->EWf os es->DInv (i + es.length) (dAll i rs es) (es.foldl oStep os)
 | [],i,rs,os,I,_=>I
 | e :: es,i,rs,os,I,w=>by have:=DInv.allO (I.step w.1).1 w.2;rw [C1,show i + (es.length + 1)=i + 1 + es.length by lia];exact this
theorem zgv {os:List (Int×Bool)} {us:List Int} (t:TW nm wr es os us) (r:Rc) (hr:r∈dAll 0 [] es) (he:r.e=none) (hn:r.h∉os.map (·.1)):False:=by have:=(DInv.nil.allO t.wf.1).o r hr (by rw [t.wf.2];exact hn);rw [he] at this;cases this
noncomputable def hndE:Ev->Int
 | .beg h _ _ _=>h
 | .fin h _=>h
noncomputable def mnE (ps:List Nat) (i:Nat) (m:Int->Bool):Ev->Int->Bool
 | .beg h _ v _,k=>if k=h then decide (v=.str "write") || decide (i∈ps) else m k
 | .fin _ _,k=>m k
noncomputable def fSt (ps:List Nat) (i:Nat) (s:(Int->Bool)×List Ev) (e:Ev):(Int->Bool)×List Ev:=(mnE ps i s.1 e,if mnE ps i s.1 e (hndE e)=true then s.2++[e] else s.2)
noncomputable def fAll (ps:List Nat):Nat->(Int->Bool)×List Ev->List Ev->(Int->Bool)×List Ev
 | _,s,[]=>s
 | i,s,e :: es=>fAll ps (i + 1) (fSt ps i s e) es
noncomputable def flt (ps:List Nat) (es:List Ev):(Int->Bool)×List Ev:=fAll ps 0 (λ _=>false,[]) es
theorem zbt :∀{es:List Ev} {i:Nat} {s:(Int->Bool)×List Ev} {e:Ev},fAll ps i s (es++[e])=fSt ps (i + es.length) (fAll ps i s es) e
 | [],i,s,e=>rfl
 | x :: es,i,s,e=>by show fAll ps (i + 1) (fSt ps i s x) (es++[e])=fSt ps (i + (es.length + 1)) (fAll ps (i + 1) (fSt ps i s x) es) e;rw [zbt,show i + (es.length + 1)=i + 1 + es.length by lia]
theorem z55 {e:Ev}:flt ps (es++[e])=fSt ps es.length (flt ps es) e:=by
 have:=zbt (ps:=ps) (es:=es) (i:=0) (s:=(λ _=>false,[])) (e:=e)
 rwa [X2] at this
noncomputable def ndx (ps:List Nat) (es:List Ev) (n:Nat):Nat:=(flt ps (es.take n)).2.length
theorem flt_le {e:Ev}:(flt ps es).2.length<=(flt ps (es++[e])).2.length:=by
 rw [z55];show _<=(if _ then _ else _:List Ev).length;split
 ·rw [D0];exact S8 _ _
 ·exact B0 _
theorem zhr (n:Nat):ndx ps es n<=ndx ps es (n + 1):=by
 unfold ndx;by_cases h:n < es.length
 ·rw [v9,N0 h];exact flt_le
 ·rw [B5 (by lia),B5 (by lia)];exact B0 _
theorem zhs {a b:Nat} (h:a<=b):ndx ps es a<=ndx ps es b:=by
 induction h with
 | refl=>exact B0 _
 | step _ ih=>exact F0 ih (zhr _)
theorem zgy :∀{es:List Ev},(flt ps es).2.length<=es.length:=by
 have a :∀(es:List Ev) (i:Nat) (s:(Int->Bool)×List Ev),(fAll ps i s es).2.length<=s.2.length + es.length:=by
  intro es;induction es with
  | nil=>exact λ _ _=>B0 _
  | cons e es ih=>
   intro i s;have b:=ih (i + 1) (fSt ps i s e);have c:(fSt ps i s e).2.length<=s.2.length + 1:=by
    show (if _ then _ else _:List Ev).length<=_;split
    ·rw [D0];exact B0 _
    ·exact Z3 _
   show (fAll ps (i + 1) (fSt ps i s e) es).2.length<=_;rw [C1]
   lia
 intro es;have:=a es 0 (λ _=>false,[]);rw [X3,X2] at this;exact this
noncomputable def selR (ps:List Nat) (r:Rc):Bool:=isW r || decide (r.b∈ps)
noncomputable def ren (f:Nat->Nat) (r:Rc):Rc:={ r with b:=f r.b,e:=r.e.map f }
noncomputable def clo (h:Int) (a:V) (i:Nat) (r:Rc):Rc:=if r.h=h/\r.e=none then { r with a:=a,e:=some i } else r
theorem zgr {h:Int} {a:V} {i:Nat} {r:Rc}:selR ps (clo h a i r)=selR ps r:=by unfold clo;split<;>rfl
theorem clo_ren {h:Int} {a:V} {i:Nat} {r:Rc}:ren f (clo h a i r)=clo h a (f i) (ren f r):=by
 unfold clo;by_cases z:r.h=h/\r.e=none
 ·rw [if_pos z,if_pos ⟨z.1,by show r.e.map f=none;rw [z.2];rfl⟩];rfl
 ·rw [if_neg z,if_neg λ y=>z ⟨y.1,by have:r.e.map f=none:=y.2;simpa using this⟩]
theorem TW.ends {os:List (Int×Bool)} {us:List Int} (t:TW nm wr es os us) {h:Int} {b:Bool} {a:V} {i:Nat} (hb:(h,b)∈os):dstep i (dAll 0 [] es) (.fin h a)=(dAll 0 [] es).map (clo h a i):=by
 obtain ⟨j,r,n,f,d,g⟩:=t.open h b hb;obtain ⟨_,o,D⟩:=DInv.nil.all t.wf.1;have m:dstep i (dAll 0 [] es) (.fin h a)=(dAll 0 [] es).modify j (λ r=>{ r with a:=a,e:=some i }):=by unfold dstep;dsimp only;rw [n]
 rw [m];apply F8;intro k;rw [X1,E2];cases hk:(dAll 0 [] es)[k]? with
 | none=>rfl
 | some q=>
  show some (if j=k then _ else q)=some (clo h a i q);congr 1;by_cases z:j=k
  ·subst z;rw [f] at hk;cases hk;rw [if_pos rfl];exact (if_pos ⟨d,g⟩).symm
  ·rw [if_neg z];refine (if_neg λ y=>?_).symm;rcases Nat.lt_or_gt_of_ne z with l|l
   ·obtain ⟨e,c,_⟩:=(D.p j k r q l f hk).2 (d.trans y.1.symm);rw [g] at c;cases c
   ·obtain ⟨e,c,_⟩:=(D.p k j q r l hk f).2 (y.1.trans d.symm);rw [y.2] at c;cases c
theorem z18 {g:Rc->Rc} (hg :∀r,selR ps (g r)=selR ps r) :∀rs:List Rc,(rs.map g).filter (selR ps)=(rs.filter (selR ps)).map g
 | []=>rfl
 | r :: rs=>by
  rw [Y0];cases h:selR ps r with
  | true=>rw [N1 (by rw [hg,h]),N1 h,Y0,z18 hg rs]
  | false=>rw [T1 (by rw [hg,h];decide),T1 (by rw [h];decide),z18 hg rs]
theorem flt_tw {os:List (Int×Bool)} {us:List Int} (t:TW nm wr es os us):(∀n,n<=es.length->f n=ndx ps es n)->TW nm wr (flt ps es).2 (os.filter λ o=>(flt ps es).1 o.1) us/\dAll 0 [] (flt ps es).2=((dAll 0 [] es).filter (selR ps)).map (ren f)/\∀r∈dAll 0 [] es,r.e=none->(flt ps es).1 r.h=selR ps r:=by
 induction t with
 | nil=>exact λ _=>⟨.nil,rfl,λ _ h=>absurd h A0⟩
 | @wri es os us i t h0 h1 h2 ih=>
  intro p;obtain ⟨a,b,c⟩:=ih λ n s=>(p n (by rw [D0];exact T4 s)).trans (by unfold ndx;rw [m3 s]);have u:(flt ps es).2.length=f es.length:=by rw [p es.length (by rw [D0];exact Z3 _)];unfold ndx;rw [m3 (B0 _),i4]
  rw [z55];have d:mnE ps es.length (flt ps es).1 (.beg wr (.str nm) (.str "write") (.int i)) wr=true:=by show (if wr=wr then _ else _)=true;rw [if_pos rfl,decide_eq_true rfl];rfl
  have w :∀k,k≠wr->mnE ps es.length (flt ps es).1 (.beg wr (.str nm) (.str "write") (.int i)) k=(flt ps es).1 k:=λ k B=>if_neg B;have l:(fSt ps es.length (flt ps es) (.beg wr (.str nm) (.str "write") (.int i))).2=(flt ps es).2++[.beg wr (.str nm) (.str "write") (.int i)]:=if_pos d;have keep:os.filter (λ o=>mnE ps es.length (flt ps es).1 (.beg wr (.str nm) (.str "write") (.int i)) o.1)=os.filter λ o=>(flt ps es).1 o.1:=E8 λ o m=>w _ λ z=>h0 (z ▸ List.mem_map.mpr ⟨o,m,rfl⟩);rw [l];refine ⟨?_,?_,λ r j g=>?_⟩
  ·show TW nm wr _ ((os++[(wr,true)]).filter λ o=>mnE ps es.length (flt ps es).1 (.beg wr (.str nm) (.str "write") (.int i)) o.1) _;rw [G2,keep,N1 (a:=(wr,true)) d];exact .wri a (λ z=>h0 (by obtain ⟨o,m,e⟩:=List.mem_map.mp z;exact List.mem_map.mpr ⟨o,(List.mem_filter.mp m).1,e⟩)) h1 h2
  ·rw [z0f,z0f,b,X2,X2,u];show _++[_]=((dAll 0 [] es++[_]).filter (selR ps)).map (ren f);rw [G2,X0,N1 (show selR ps ⟨wr,.str nm,.str "write",.int i,.non,es.length,none⟩=true from Bool.or_eq_true_iff.mpr (.inl (decide_eq_true rfl)))];rfl
  ·rw [z0f] at j;show mnE ps es.length (flt ps es).1 (.beg wr (.str nm) (.str "write") (.int i)) r.h=_;rcases List.mem_append.mp (show r∈dAll 0 [] es++[_] from j) with z|z
   ·rw [w _ λ y=>zgv t r z g (by rw [y];exact h0)];exact c r z g
   ·rw [List.mem_singleton.mp z];exact d.trans (Bool.or_eq_true_iff.mpr (.inl (decide_eq_true rfl))).symm
 | @rd es os us h t h0 ih=>
  intro p;obtain ⟨a,b,c⟩:=ih λ n s=>(p n (by rw [D0];exact T4 s)).trans (by unfold ndx;rw [m3 s]);have u:(flt ps es).2.length=f es.length:=by rw [p es.length (by rw [D0];exact Z3 _)];unfold ndx;rw [m3 (B0 _),i4]
  rw [z55];have d:mnE ps es.length (flt ps es).1 (.beg h (.str nm) (.str "read") .non) h=decide (es.length∈ps):=by show (if h=h then _ else _)=_;rw [if_pos rfl,decide_eq_false z0y];rfl
  have w :∀k,k≠h->mnE ps es.length (flt ps es).1 (.beg h (.str nm) (.str "read") .non) k=(flt ps es).1 k:=λ k B=>if_neg B;have x:selR ps ⟨h,.str nm,.str "read",.non,.non,es.length,none⟩=decide (es.length∈ps):=by show (decide (V.str "read" = .str "write") || _)=_;rw [decide_eq_false z0y];rfl
  have keep:os.filter (λ o=>mnE ps es.length (flt ps es).1 (.beg h (.str nm) (.str "read") .non) o.1)=os.filter λ o=>(flt ps es).1 o.1:=E8 λ o m=>w _ λ z=>h0 (z ▸ List.mem_map.mpr ⟨o,m,rfl⟩);have last :∀r∈dAll 0 [] (es++[.beg h (.str nm) (.str "read") .non]),r.e=none->(fSt ps es.length (flt ps es) (.beg h (.str nm) (.str "read") .non)).1 r.h=selR ps r:=λ r j g=>by
   rw [z0f] at j;show mnE ps es.length (flt ps es).1 (.beg h (.str nm) (.str "read") .non) r.h=_;rcases List.mem_append.mp (show r∈dAll 0 [] es++[_] from j) with z|z
   ·rw [w _ λ y=>zgv t r z g (by rw [y];exact h0)];exact c r z g
   ·rw [List.mem_singleton.mp z];exact d.trans (by rw [X2];exact x.symm)
  by_cases z:es.length∈ps
  ·rw [decide_eq_true z] at d x;have l:(fSt ps es.length (flt ps es) (.beg h (.str nm) (.str "read") .non)).2=(flt ps es).2++[.beg h (.str nm) (.str "read") .non]:=if_pos d;rw [l];refine ⟨?_,?_,last⟩
   ·show TW nm wr _ ((os++[(h,false)]).filter λ o=>mnE ps es.length (flt ps es).1 (.beg h (.str nm) (.str "read") .non) o.1) _;rw [G2,keep,N1 (a:=(h,false)) d];exact .rd a λ z=>h0 (by obtain ⟨o,m,e⟩:=List.mem_map.mp z;exact List.mem_map.mpr ⟨o,(List.mem_filter.mp m).1,e⟩)
   ·rw [z0f,z0f,b,X2,X2,u];show _++[_]=((dAll 0 [] es++[_]).filter (selR ps)).map (ren f);rw [G2,X0,N1 x];rfl
  ·rw [decide_eq_false z] at d x;have l:(fSt ps es.length (flt ps es) (.beg h (.str nm) (.str "read") .non)).2=(flt ps es).2:=if_neg (by show ¬ mnE _ _ _ _ h=true;rw [d];decide);rw [l];refine ⟨?_,?_,last⟩
   ·show TW nm wr _ ((os++[(h,false)]).filter λ o=>mnE ps es.length (flt ps es).1 (.beg h (.str nm) (.str "read") .non) o.1) _;rw [G2,keep,T1 (by show ¬ mnE _ _ _ _ h=true;rw [d];decide),List.filter_nil,Q2];exact a
   ·rw [z0f,b,X2];show _=((dAll 0 [] es++[_]).filter (selR ps)).map (ren f);rw [G2,T1 (by rw [x];decide),List.filter_nil,Q2]
 | @fin es os us h b' v t h0 ht hv ih=>
  intro p;obtain ⟨a,b,c⟩:=ih λ n s=>(p n (by rw [D0];exact T4 s)).trans (by unfold ndx;rw [m3 s]);have u:(flt ps es).2.length=f es.length:=by rw [p es.length (by rw [D0];exact Z3 _)];unfold ndx;rw [m3 (B0 _),i4]
  have A:dAll 0 [] (es++[.fin h v])=(dAll 0 [] es).map (clo h v es.length):=by rw [z0f,X2];exact t.ends h0
  rw [z55];have last :∀r∈dAll 0 [] (es++[.fin h v]),r.e=none->(fSt ps es.length (flt ps es) (.fin h v)).1 r.h=selR ps r:=λ r j g=>by
   rw [A] at j;obtain ⟨q,E,rfl⟩:=List.mem_map.mp j;unfold clo at g⊢;split at g
   ·cases g
   ·rename_i z;rw [if_neg z];exact c q E g
  have D:(os.filter λ k=>decide (k.1≠h)).filter (λ o=>(flt ps es).1 o.1)=(os.filter λ o=>(flt ps es).1 o.1).filter λ k=>decide (k.1≠h):=by rw [v8,v8];exact E8 λ o _=>Bool.and_comm _ _
  by_cases z:(flt ps es).1 h=true
  ·have l:(fSt ps es.length (flt ps es) (.fin h v)).2=(flt ps es).2++[.fin h v]:=if_pos z;have C:(h,b')∈os.filter λ o=>(flt ps es).1 o.1:=List.mem_filter.mpr ⟨h0,z⟩;rw [l];refine ⟨?_,?_,last⟩
   ·show TW nm wr _ ((os.filter λ k=>decide (k.1≠h)).filter λ o=>(flt ps es).1 o.1) _;rw [D];exact .fin a C ht hv
   ·rw [z0f,X2,a.ends C,b,u,A,z18 λ r=>zgr,V2,V2];exact k8 λ r _=>clo_ren.symm
  ·have l:(fSt ps es.length (flt ps es) (.fin h v)).2=(flt ps es).2:=if_neg z;rw [l];refine ⟨?_,?_,last⟩
   ·show TW nm wr _ ((os.filter λ k=>decide (k.1≠h)).filter λ o=>(flt ps es).1 o.1) _;have fs:(os.filter λ o=>(flt ps es).1 o.1).filter (λ k=>decide (k.1≠h))=os.filter λ o=>(flt ps es).1 o.1:=List.filter_eq_self.mpr λ o m=>decide_eq_true λ (y:o.1=h)=>z (by rw [<-y];exact (List.mem_filter.mp m).2);rw [D,fs];exact a
   ·rw [b,A,z18 λ r=>zgr,V2];refine k8 λ r j=>?_;show ren f r=ren f (clo h v es.length r);unfold clo;rw [if_neg];rintro ⟨y1,y2⟩;obtain ⟨G,F⟩:=List.mem_filter.mp j;exact z (by rw [<-y1,c r G y2];exact F)
end
section
variable {nm:Str} {wr:Int} {es es':List Ev} {rs rs':List Rc} {ps:List Nat} {f:Nat->Nat}
structure Sb (wr:Int) (es es':List Ev) (rs rs':List Rc) (ps:List Nat) (f:Nat->Nat):Prop where
 S:Sq1 wr es rs
 S':Sq1 wr es' rs'
 B:rs'=(rs.filter (selR ps)).map (ren f)
 m :∀{a b:Nat},a<=b->f a<=f b
theorem Sb.of {os:List (Int×Bool)} {us:List Int} (t:TW nm wr es os us) (ps:List Nat) :∃os',TW nm wr (flt ps es).2 os' us/\Sb wr es (flt ps es).2 (dAll 0 [] es) (dAll 0 [] (flt ps es).2) ps (ndx ps es):=by obtain ⟨a,b,_⟩:=flt_tw (f:=ndx ps es) (ps:=ps) t λ _ _=>rfl;exact ⟨_,a,t.sq,a.sq,b,zhs⟩
theorem Sb.mem (h:Sb wr es es' rs rs' ps f) {q:Rc}:q∈rs'↔∃r∈rs,selR ps r=true/\q=ren f r:=by rw [h.B,X9];exact ⟨λ ⟨r,hr,e⟩=>⟨r,(List.mem_filter.mp hr).1,(List.mem_filter.mp hr).2,e.symm⟩,λ ⟨r,h1,h2,e⟩=>⟨r,List.mem_filter.mpr ⟨h1,h2⟩,e.symm⟩⟩
theorem ren_e {r:Rc} {e:Nat}:(ren f r).e=some e↔∃k,r.e=some k/\e=f k:=by show r.e.map f=some e↔_;rw [Option.map_eq_some_iff];exact ⟨λ ⟨k,a,b⟩=>⟨k,a,b.symm⟩,λ ⟨k,a,b⟩=>⟨k,a,b.symm⟩⟩
theorem sel_w {r:Rc} (h:isW r=true):selR ps r=true:=by unfold selR;rw [h];rfl
theorem Sb.ne (h:Sb wr es es' rs rs' ps f) {r q:Rc} {k:Nat} (hr:r∈rs) (sr:selR ps r=true) (hq:q∈rs) (sq:selR ps q=true) (hk:q.e=some k):f r.b≠f k:=λ z=>by have a:=h.S'.R.a _ (h.mem.mpr ⟨r,hr,sr,rfl⟩);have b:=h.S'.R.b _ (h.mem.mpr ⟨q,hq,sq,rfl⟩) (f k) (ren_e.mpr ⟨k,hk,rfl⟩);have a:es'[f r.b]? = _:=a;rw [z,b] at a;cases a
theorem Sb.be (h:Sb wr es es' rs rs' ps f) {r q:Rc} {k:Nat} (hr:r∈rs) (sr:selR ps r=true) (hq:q∈rs) (sq:selR ps q=true) (hk:q.e=some k):f r.b < f k↔r.b < k:=by
 have n:=h.ne hr sr hq sq hk;constructor
 ·intro z;rcases R3 r.b k with y|y
  ·exact y
  ·have:=h.m y;lia
 ·intro z;have:=h.m (N2 z)
  lia
theorem Sb.eb (h:Sb wr es es' rs rs' ps f) {r q:Rc} {k:Nat} (hr:r∈rs) (sr:selR ps r=true) (hq:q∈rs) (sq:selR ps q=true) (hk:q.e=some k):f k < f r.b↔k < r.b:=by
 have n:=h.ne hr sr hq sq hk;constructor
 ·intro z;rcases R3 k r.b with y|y
  ·exact y
  ·have:=h.m y;lia
 ·intro z;have:=h.m (N2 z)
  lia
theorem Sb.ww (h:Sb wr es es' rs rs' ps f) {w q:Rc} (hw:w∈rs) (iw:isW w=true) (hq:q∈rs) (iq:isW q=true):f q.b<=f w.b↔q.b<=w.b:=by
 refine ⟨λ z=>?_,h.m⟩;rcases R3 w.b q.b with y|y
 ·rcases h.S.hand hw hq ((h.S.wh hw iw).1.trans (h.S.wh hq iq).1.symm) with x|⟨_,k,hk,x⟩|⟨x,_⟩
  ·rw [x];exact B0 _
  ·have a:=h.S'.E _ (h.mem.mpr ⟨w,hw,sel_w iw,rfl⟩) (f k) (ren_e.mpr ⟨k,hk,rfl⟩);have a:f w.b < f k:=a;have:=h.m (N2 x)
   lia
  ·exact N2 x
 ·exact y
theorem Sb.last (h:Sb wr es es' rs rs' ps f) {r:Rc} (hr:r∈rs) (sr:selR ps r=true) {x:Int}:LastI rs' (f r.b) x↔LastI rs r.b x:=by
 have i :∀w∈rs,isW w=true->((∃e,(ren f w).e=some e/\e < f r.b)↔∃e,w.e=some e/\e < r.b):=λ w a c=>by
  constructor
  ·rintro ⟨e,j,lt⟩;obtain ⟨k,n,rfl⟩:=ren_e.mp j;exact ⟨k,n,(h.eb hr sr a (sel_w c) n).mp lt⟩
  ·rintro ⟨k,n,lt⟩;exact ⟨f k,ren_e.mpr ⟨k,n,rfl⟩,(h.eb hr sr a (sel_w c) n).mpr lt⟩
 constructor
 ·rintro (⟨h0,h1⟩|⟨q,m,d,xq,lq,mq⟩)
  ·exact .inl ⟨h0,λ w a c e j lt=>by obtain ⟨p,t,u⟩:=(i w a c).mpr ⟨e,j,lt⟩;exact h1 _ (h.mem.mpr ⟨w,a,sel_w c,rfl⟩) c p t u⟩
  ·obtain ⟨w,a,_,rfl⟩:=h.mem.mp m;exact .inr ⟨w,a,d,xq,(i w a d).mp lq,λ l g o s=>(h.ww a d g o).mp (mq _ (h.mem.mpr ⟨l,g,sel_w o,rfl⟩) o ((i l g o).mpr s))⟩
 ·rintro (⟨h0,h1⟩|⟨w,a,c,xw,lw,mw⟩)
  ·exact .inl ⟨h0,λ q m d e j lt=>by obtain ⟨w,a,_,rfl⟩:=h.mem.mp m;obtain ⟨p,t,u⟩:=(i w a d).mp ⟨e,j,lt⟩;exact h1 w a d p t u⟩
  ·refine .inr ⟨ren f w,h.mem.mpr ⟨w,a,sel_w c,rfl⟩,c,xw,(i w a c).mpr lw,λ q m d s=>?_⟩;obtain ⟨l,g,_,rfl⟩:=h.mem.mp m;exact (h.ww a c g d).mpr (mw l g d ((i l g d).mp s))
theorem Sb.reg (h:Sb wr es es' rs rs' ps f) {r:Rc} {e:Nat} (hr:r∈rs) (sr:selR ps r=true) (he:r.e=some e):RegR rs' (ren f r) (f e)↔RegR rs r e:=by
 have l:=h.last hr sr (x:=intV r.a);constructor
 ·rintro (⟨q,hq,iq,xq,lq,mq⟩|z)
  ·obtain ⟨w,b,_,rfl⟩:=h.mem.mp hq;exact .inl ⟨w,b,iq,xq,(h.be b (sel_w iq) hr sr he).mp lq,λ k c=>(h.be hr sr b (sel_w iq) c).mp (mq (f k) (ren_e.mpr ⟨k,c,rfl⟩))⟩
  ·exact .inr (l.mp z)
 ·rintro (⟨w,b,iw,xw,lw,mw⟩|z)
  ·refine .inl ⟨ren f w,h.mem.mpr ⟨w,b,sel_w iw,rfl⟩,iw,xw,(h.be b (sel_w iw) hr sr he).mpr lw,λ g d=>?_⟩;obtain ⟨k,c,rfl⟩:=ren_e.mp d;exact (h.be hr sr b (sel_w iw) c).mpr (mw k c)
  ·exact .inr (l.mpr z)
theorem Sb.all (h:Sb wr es es' rs rs' ps f):AllR RegR rs'↔∀r∈rs,∀e,r.b∈ps->r.v=.str "read"->r.e=some e->RegR rs r e:=by
 constructor
 ·intro z r d e j c g;have a:selR ps r=true:=by unfold selR;rw [decide_eq_true j,Bool.or_true]
  exact (h.reg d a g).mp (z _ (h.mem.mpr ⟨r,d,a,rfl⟩) (f e) c (ren_e.mpr ⟨e,g,rfl⟩))
 ·intro z q i l c k;obtain ⟨r,d,a,rfl⟩:=h.mem.mp i;obtain ⟨e,g,rfl⟩:=ren_e.mp k;have c:r.v=.str "read":=c;refine (h.reg d a g).mpr (z r d e ?_ c g);unfold selR at a;rw [rd_no c,Y5] at a;exact of_decide_eq_true a
theorem Sb.one (h:Sb wr es es' rs rs' ps f) {b:Nat} (hp:ps=[b]) :∀i j,¬ Bad rs' i j:=by
 rintro i j ⟨r1,q1,e,g,_,_,h1,h2,h3,h4,h5,h6,h7,_⟩;have l :∀{q:Rc},q∈rs'->q.v=.str "read"->∃r∈rs,r.b=b/\q=ren f r:=λ {q} c d=>by obtain ⟨r,a,k,rfl⟩:=h.mem.mp c;have d:r.v=.str "read":=d;unfold selR at k;rw [rd_no d,Y5,hp] at k;exact ⟨r,a,List.mem_singleton.mp (of_decide_eq_true k),rfl⟩
 obtain ⟨r,a,m,rfl⟩:=l (o0 h1) h3;obtain ⟨q,c,n,rfl⟩:=l (o0 h2) h4;have:=h.S.same_b a c (m.trans n.symm);subst this;have:=h.S'.E _ (o0 h1) e h5
 lia
theorem zj2 {os:List (Int×Bool)} {us:List Int} (t:TW nm wr es os us) (ub:UB us) (l:es.length<=63):(∃o pl,Wk (dAll 0 [] es) o pl/\FullP (dAll 0 [] es) pl)↔AllR RegR (dAll 0 [] es)/\∀i j,¬ Bad (dAll 0 [] es) i j:=by
 have U:=(t.gd ub).2;constructor
 ·rintro ⟨o,pl,w,fl⟩;exact (SI.of t.sq U w).full fl
 ·rintro ⟨A,B⟩;refine way_of t.sq U (λ r b=>?_) A B;have:=(List.getElem?_eq_some_iff.mp (t.sq.R.a r b)).1
  lia
theorem Sq1.calm (S:Sq1 wr es rs) {r:Rc} {e:Nat} (hr:r∈rs) (rv:r.v=.str "read") (re:r.e=some e):((∀y,¬ BesI rs r.b e y)->SafR rs r e->RegR rs r e)/\∀y,BesI rs r.b e y->SafR rs r e:=by
 have lt:=S.E r hr e re;have g :∀w∈rs,isW w=true->w.b≠r.b:=λ w a c z=>by have:=S.same_b a hr z;rw [this] at c;exact z0y (rv.symm.trans (of_decide_eq_true c))
 have b:=λ y=>S.besE (x:=y) lt g;refine ⟨λ z h=>?_,λ y d=>?_⟩
 ·rcases h with ⟨w,a,f,h⟩|y
  ·exact absurd ((b (intV w.x)).mpr ⟨w,a,f,rfl,h⟩) (z _)
  ·exact .inr y
 ·obtain ⟨w,j,k,_,i⟩:=(b y).mp d;exact .inl ⟨w,j,k,i⟩
end
section
variable {P:Program} {w:S0} {mg:Str->Option Value} {base:Heap}
theorem TW.evv {nm:Str} {wr:Int} {es:List Ev} {os:List (Int×Bool)} {us:List Int} (h:TW nm wr es os us) :∀e∈es,EvV e:=by
 induction h with
 | nil=>exact λ _ h=>absurd h A0
 | wri _ _ _ _ ih=>exact λ e a=>(List.mem_append.mp a).elim (ih e) λ z=>by rw [List.mem_singleton.mp z];exact ⟨_,rfl⟩
 | rd _ _ ih=>exact λ e a=>(List.mem_append.mp a).elim (ih e) λ z=>by rw [List.mem_singleton.mp z];exact ⟨_,rfl⟩
 | fin _ _ _ _ ih=>exact λ e a=>(List.mem_append.mp a).elim (ih e) λ z=>by rw [List.mem_singleton.mp z];exact trivial
def Bgn (es:List Ev) (i:Nat) (h:Int):Prop:=∃j n v x,j < i/\es[j]? = some (.beg h n v x)
theorem flt_at {ps:List Nat} {es:List Ev} {i:Nat} {e:Ev} (h:es[i]? = some e):flt ps (es.take (i + 1))=fSt ps i (flt ps (es.take i)) e:=by
 rw [v9,h];have:=z55 (ps:=ps) (es:=es.take i) (e:=e)
 rwa [n4,i9 (N2 (List.getElem?_eq_some_iff.mp h).1)] at this
def z5k (K:d0):Sp:=λ vs H Q _=>∃(t lp:Addr) (nm:Str) (wr:Int) (es:List Ev) (ys:List V) (ps:List Nat),vs=[.ref t,.ref lp]/\TalR K H t nm wr es ys/\H lp=some (.lst (nsV ps))/\∀t' H',Same H H'->TlE K H' t' nm (flt ps es).2->Q (.ref t') H'
theorem z9t (T:TX (kx w) mg):Fo P w mg base CX0 1 481 y18 ["tale","places"] (z5k (kx w)):=by
 refine (z4b w.params).ok sc__law_with (λ vs H Q E h=>?_) (λ b2 A b3 s H vs Q E U h=>?_)
 ·obtain ⟨t,Z,nm,wr,D,ys,l,rfl,_⟩:=h;rfl
 ·obtain ⟨t,Z,nm,wr,D,ys,l,rfl,ta,a6,q⟩:=h;refine ⟨_,(z01 (ps_asg (pv 0) (pg_tup rfl (z08 (z0d (i:=2) sc__law_with.nd rfl (P0 rfl)) (z08 (z0d (i:=3) sc__law_with.nd rfl (P0 rfl)) z0p))))
   (z01 (ps_set (i:=4) sc__law_with.nd rfl (P0 rfl) (pe_lst pa_nil))
   (z01 (ps_set (i:=5) sc__law_with.nd rfl (P0 rfl) z77)
   (z01 (ps_for Q1 rfl (zai rfl (T.no (z0u _)) (z00 (pv 3) pa_nil)) (pg_tup rfl (z08 (z0d (i:=6) sc__law_with.nd rfl (P0 rfl)) (z08 (z0d (i:=7) sc__law_with.nd rfl (P0 rfl)) z0p)))
   (z01 (ps_if (z07 opEq (pe_ix ix_seq (pv 7) pe_int (λ _ _=>rfl)) pe_str (nomark _))
   (z03 (z4u (hu_of U) (pv 5) (pe_ix ix_seq (pv 7) pe_int (λ _ _=>rfl)) (pe_or (z14 opEq (pe_ix ix_seq (pv 7) pe_int (λ _ _=>rfl)) pe_str (nomark _)) (pe_one (z14 z3o (pv 6) (pv 1) (by with_unfolding_all rfl)))) rfl))
   z0c)
   (z03 (ps_if (pt_val (z8b (hu_of U) (pv 5) (pe_ix ix_seq (pv 7) pe_int (λ _ _=>rfl)) (λ _ _=>rfl)) (λ _=>rfl))
   (z03 (z1n (z0o (pv 4) (z00 (pv 7) pa_nil))))
   z0c))))
   (z03 (ps_ret (pe_tup (z00 (pv 2) (z00 (z52 z1l rfl (T.no (zc0 _)) j01 (z00 (pv 4) pa_nil)) pa_nil))))))))),?_⟩
  obtain ⟨⟨pt,te,th,st,b0,a9,a5⟩,al,⟨os,us,tw⟩,b1⟩:=ta;have S:=tw.sq;refine z0g ?_;refine ⟨_,rfl,t,_,rfl,st,rfl,_,_,rfl,_,_,rfl,rfl,?_⟩;refine z0g ?_;refine ⟨w_0,λ C a2=>?_⟩;obtain ⟨H1,v_,s1,e1⟩:=newA (.lst []) a2;rw [<-v_];refine g_name ?_;refine z0g ?_;intro d X;have fd:H d=none:=s1.free X;have a3:C≠d:=z0e e1 X;have s2:=s1.trans (Same.upd (o:=.dK []) X);have e2:upd H1 d (.dK []) C=some (.lst []):=(Same.upd X) _ _ e1;have e3:upd H1 d (.dK []) d=some (.dK []):=upd_same;generalize upd H1 d (.dK [])=H2 at s2 e2 e3⊢;refine g_name ?_;refine ⟨_,rfl,te,ys,rfl,s2.seqT a5,?_⟩;refine z6x (K:=KX w.params) (a:=te) (xs:=ys) (λ i σ G=>∃u g,Same H G/\G C=some (.lst u)/\u.length<=i/\All2 (EvAt (kx w) H) (flt l (D.take i)).2 u/\G d=some (.dK g)/\g.length<=i/\(∀h,Bgn D i h->valV g (.inl h)=some (.bl ((flt l (D.take i)).1 h)))/\∃x6 x7,σ=[some (.ref t),some (.ref Z),some (.ref pt),some (.ref te),some (.ref C),some (.ref d),x6,x7])
   ⟨[],[],s2,e2,B0 _,by rw [u9];exact .nil,e3,B0 _,λ h ⟨_,_,_,_,z,_⟩=>absurd z (T2 _),_,_,rfl⟩ (λ i σ G h=>?_) ?_ ?_
  ·obtain ⟨_,_,s',_⟩:=h;exact s'.seqT a5
  ·intro i y σ H3 p hy z0 hp;obtain ⟨u,g,s3,el,lz,F,ed,lk,J,x6,x7,rfl⟩:=z0;obtain ⟨e,I,M⟩:=z0a al hy;have hi:i < 63:=by have:=(List.getElem?_eq_some_iff.mp I).1;lia
   have Y:=Same.upd (o:=.tup [.int i,y]) hp;have ep:upd H3 p (.tup [.int i,y]) p=some (.tup [.int i,y]):=upd_same;have L:=s3.trans Y;have a1:=Y _ _ el;have a0:=Y _ _ ed;generalize upd H3 p (.tup [.int i,y])=H4 at L a1 a0 ep Y⊢;refine ⟨p,_,rfl,SqT.of ep,rfl,.int i,_,rfl,y,_,rfl,rfl,?_⟩;rw [flt_at I];generalize flt l (D.take i)=fs at F J⊢;obtain ⟨m,O⟩:=fs;have F:All2 (EvAt (kx w) H) O u:=F;have J :∀h,Bgn D i h->valV g (.inl h)=some (.bl (m h)):=J;refine ze0 (λ σ G=>∃g,Same H G/\G C=some (.lst u)/\G d=some (.dK g)/\g.length<=i + 1/\(∀h,Bgn D (i + 1) h->valV g (.inl h)=some (.bl (mnE l i m e h)))/\σ=[some (.ref t),some (.ref Z),some (.ref pt),some (.ref te),some (.ref C),some (.ref d),some (.int (i:Nat)),some y]) ?_ λ go=>?_;rotate_left
   ·cases e with
    | beg h n v x=>
     obtain ⟨f,rfl,c⟩:=M;obtain ⟨z,rfl⟩:=tw.evv _ (o0 I);have c:=L.seqT c;refine ⟨_,rfl,.inr (.inl ⟨f,_,0,.str "begin",rfl,rfl,c,z04 (j:=0) rfl,rfl,_,rfl,iteP (decide_eq_true rfl) ?_⟩)⟩;have put :∀{b:Bool},b=(decide (V.str z=.str "write") || decide (i∈l))->∃B,Same H (upd H4 d (.dK (putK g (.inl h) (.bl b))))/\upd H4 d (.dK (putK g (.inl h) (.bl b))) C=some (.lst u)/\upd H4 d (.dK (putK g (.inl h) (.bl b))) d=some (.dK B)/\B.length<=i + 1/\∀k,Bgn D (i + 1) k->valV B (.inl k)=some (.bl (mnE l i m (.beg h n (.str z) x) k)):=λ {b} N=>⟨_,Same.keep L fd,by rw [upd_ne a3];exact a1,upd_same,F0 z7w (Q8 lk),λ k ⟨j,n',v',x',lj,hj⟩=>by
      rw [z85];show _=some (V.bl (if k=h then _ else m k));by_cases y:k=h
      ·rw [if_pos y,if_pos (by rw [y]),N]
      ·rw [if_neg y,if_neg λ e=>y (D3 e)];refine J k ⟨j,n',v',x',?_,hj⟩;rcases Nat.lt_succ_iff_lt_or_eq.mp lj with q|q
       ·exact q
       ·rw [q,I] at hj;cases hj;exact absurd rfl y⟩
     have dp :∀{b:Bool},DPut H4 d (.int h) (.bl b) (upd H4 d (.dK (putK g (.inl h) (.bl b)))):=λ {b}=>DPut.k (k:=.inl h) a0 (Q0 (m:=100) (by lia) (by decide));refine ⟨_,rfl,.inr (.inl ⟨f,_,3,.str z,rfl,rfl,c,z04 (j:=3) rfl,rfl,_,rfl,?_⟩)⟩;by_cases hw:V.str z=.str "write"
     ·refine iteP (decide_eq_true hw) ?_;obtain ⟨B,h1,h2,h3,h4,h5⟩:=put (b:=true) (by rw [decide_eq_true hw];rfl);exact ⟨_,rfl,_,rfl,.inr (.inl ⟨f,_,1,.int h,rfl,rfl,c,z04 (j:=1) rfl,d,_,rfl,dp,t_nx (go _ _ ⟨B,h1,h2,h3,h4,h5,rfl⟩)⟩)⟩
     ·refine iteN (λ z=>hw (of_decide_eq_true z)) ?_;refine ⟨_,rfl,_,rfl,Z,_,rfl,.inl (SqL.of (L _ _ a6)),rfl,z8f _,?_⟩;obtain ⟨B,h1,h2,h3,h4,h5⟩:=put (b:=decide (i∈l)) (by rw [decide_eq_false hw];rfl);rw [show (if false=true then !inV (.int (i:Nat)) (nsV l) else inV (.int (i:Nat)) (nsV l))=decide (i∈l) from inV_ns i l];exact ⟨_,rfl,_,rfl,.inr (.inl ⟨f,_,1,.int h,rfl,rfl,c,z04 (j:=1) rfl,d,_,rfl,dp,t_nx (go _ _ ⟨B,h1,h2,h3,h4,h5,rfl⟩)⟩)⟩
    | fin h v=>
     obtain ⟨f,rfl,c⟩:=M;have c:=L.seqT c;refine ⟨_,rfl,.inr (.inl ⟨f,_,0,.str "end",rfl,rfl,c,z04 (j:=0) rfl,rfl,_,rfl,iteK (tn_x (t_nx (go _ _ ⟨g,L,a1,a0,T4 lk,λ k ⟨j,n',v',x',lj,hj⟩=>J k ⟨j,n',v',x',?_,hj⟩,rfl⟩)))⟩)⟩;rcases Nat.lt_succ_iff_lt_or_eq.mp lj with q|q
     ·exact q
     ·rw [q,I] at hj;cases hj
   rintro σ H5 ⟨B,s5,el5,ed5,lk5,hm5,rfl⟩;obtain ⟨f,ey,xs,c⟩ :∃f,y=.ref f/\∃xs,SqT (kx w) H f xs/\atI xs 1=some (.int (hndE e)):=by
    cases e with
    | beg h n v x=>obtain ⟨f,rfl,c⟩:=M;exact ⟨f,rfl,_,c,z04 (j:=1) rfl⟩
    | fin h v=>obtain ⟨f,rfl,c⟩:=M;exact ⟨f,rfl,_,c,z04 (j:=1) rfl⟩
   subst ey;have bg:Bgn D (i + 1) (hndE e):=by
    cases e with
    | beg h n v x=>exact ⟨i,n,v,x,V1 i,I⟩
    | fin h v=>obtain ⟨r,U,re,rh⟩:=S.R.d i h v I;exact ⟨r.b,_,_,_,Z1 (S.E r U i re),by rw [S.R.a r U,rh];rfl⟩
   have dg:DGet H5 d (.int (hndE e)) (some (.bl (mnE l i m e (hndE e)))):=by have:=DGet.k (k:=.inl (hndE e)) ed5;rw [hm5 _ bg] at this;exact this
   refine ⟨_,rfl,_,rfl,.inr (.inl ⟨f,xs,1,.int (hndE e),rfl,rfl,s5.seqT c.1,c.2,d,_,rfl,dg,_,rfl,?_⟩)⟩;refine ite2 (λ N=>?_) λ N=>?_
   ·refine ⟨_,rfl,.inl ⟨rfl,_,SqL.of el5⟩,_,rfl,C,u,_,rfl,rfl,el5,Q0 (m:=100) (by lia) (by decide),?_⟩;refine ⟨u++[.ref f],B,Same.keep s5 a2,upd_same,by rw [D0];exact Q8 lz,?_,by rw [upd_ne a3.symm];exact ed5,lk5,hm5,_,_,rfl⟩;rw [show (fSt l i (m,O) e).2=O++[e] from if_pos N];exact z0m F M
   ·refine tn_x ⟨u,B,s5,el5,T4 lz,?_,ed5,lk5,hm5,_,_,rfl⟩;rw [show (fSt l i (m,O) e).2=O from if_neg N];exact F
  ·rintro σ H3 ⟨u,g,s3,el,lz,F,ed,lk,J,x6,x7,rfl⟩;rw [z05 al,i4] at F;refine t_nx (sq_ret ?_);refine ⟨_,rfl,_,rfl,C,u,rfl,.inl ⟨SqL.of el,λ a4 a7=>⟨w_2,λ t' a8=>?_⟩⟩⟩;have q7:=Same.upd (o:=.tup u) a7;have q8:=Same.upd (o:=.tup [.ref pt,.ref a4]) a8;have W:=s3.trans (q7.trans q8);exact q t' _ W ⟨pt,a4,th,u,SqT.of upd_same,W.seqT b0,W.seqT a9,SqT.of (q8 _ _ upd_same),z02 (λ _ _ z=>EvAt.tups (.of W) z) F⟩
end
section
variable {P:Program} {w:S0} {mg:Str->Option Value} {base:Heap}
theorem zhl {X:Cx} {K:d0} (hK:X.K=K) {k:Nat} (hr:Room k X.A):OpR X (K2 .Eq) (rEqL0 K):=hK ▸ zj6 hr
noncomputable def rdL (rs:List Rc):List Nat:=(V0 rs.length).filter λ i=>isRE (rs[i]?.getD r00)
def Rk (rs:List Rc) (k:Nat) (r:Rc) (e:Nat):Prop:=∃i,(rdL rs)[k]? = some i/\rs[i]? = some r/\r.v=.str "read"/\r.e=some e
theorem rk_at {rs:List Rc} {k i:Nat} (h:(rdL rs)[k]? = some i) :∃r e,Rk rs k r e/\rs[i]? = some r:=by obtain ⟨d,f⟩:=List.mem_filter.mp (o0 h);have d:=List.mem_range.mp d;have c:rs[i]? = some rs[i]:=N0 d;rw [getD_some c] at f;obtain ⟨a,b⟩:=Bool.and_eq_true_iff.mp f;obtain ⟨e,g⟩:=Option.isSome_iff_exists.mp b;exact ⟨_,e,⟨i,h,c,of_decide_eq_true a,g⟩,c⟩
theorem rk_one {rs:List Rc} {k e e':Nat} {r r':Rc} (h:Rk rs k r e) (h':Rk rs k r' e'):r=r'/\e=e':=by obtain ⟨i,g,f,_,d⟩:=h;obtain ⟨j,a,c,_,b⟩:=h';rw [g] at a;cases a;rw [f] at c;cases c;rw [d] at b;cases b;exact ⟨rfl,rfl⟩
theorem rk_all {rs:List Rc} {r:Rc} {e:Nat} (hr:r∈rs) (hv:r.v=.str "read") (he:r.e=some e) :∃k,k < (rdL rs).length/\Rk rs k r e:=by obtain ⟨m,i,a,b⟩:=re_all hr hv he;exact ⟨m,(List.getElem?_eq_some_iff.mp a).1,i,a,b,hv,he⟩
def RdAt (H:Hp) (rs:List Rc) (ws:List V):Prop:=ws.length=(rdL rs).length/\∀k y,ws[k]? = some y->∃r e,Rk rs k r e/\ActAt H r y
theorem RdAt.same {H H':Hp} {rs:List Rc} {ws:List V} (s:Same H H') (h:RdAt H rs ws):RdAt H' rs ws:=⟨h.1,λ k y c=>by obtain ⟨r,e,a,b⟩:=h.2 k y c;exact ⟨r,e,a,b.same s⟩⟩
def GdAt (rs:List Rc) (gs:List V):Prop:=gs.length=(rdL rs).length/\∀k y,gs[k]? = some y->∃r e b,Rk rs k r e/\y=.bl b/\(b=true↔RegR rs r e)
theorem zgp {gs:List V} (h :∀y∈gs,∃b,y=V.bl b):gs.all flatV=true:=List.all_eq_true.mpr λ y a=>by obtain ⟨b,rfl⟩:=h y a;rfl
theorem bl_in {gs:List V} (h :∀y∈gs,∃b,y=V.bl b):inV (.bl false) gs=true↔V.bl false∈gs:=by
 unfold inV;rw [c7];constructor
 ·rintro ⟨y,hy,e⟩;obtain ⟨b,rfl⟩:=h y hy;cases b with
  | false=>exact hy
  | true=>exact absurd e (by decide)
 ·exact λ h=>⟨_,h,rfl⟩
theorem GdAt.bl {rs:List Rc} {gs:List V} (h:GdAt rs gs) :∀y∈gs,∃b,y=V.bl b:=λ y a=>by obtain ⟨k,c⟩:=List.mem_iff_getElem?.mp a;obtain ⟨_,_,b,_,e,_⟩:=h.2 k y c;exact ⟨b,e⟩
theorem GdAt.at_ {rs:List Rc} {gs:List V} (h:GdAt rs gs) {k e:Nat} {r:Rc} (hk:Rk rs k r e) :∃b,gs[k]? = some (.bl b)/\(b=true↔RegR rs r e):=by
 obtain ⟨i,j,_⟩:=id hk;have c:k < gs.length:=by rw [h.1];exact (List.getElem?_eq_some_iff.mp j).1
 have a:gs[k]? = some gs[k]:=N0 c;obtain ⟨l,m,b,d,f,g⟩:=h.2 k _ a;obtain ⟨rfl,rfl⟩:=rk_one hk d;exact ⟨b,by rw [a,f],g⟩
theorem GdAt.no {rs:List Rc} {gs:List V} (h:GdAt rs gs):AllR RegR rs↔V.bl false∉gs:=by
 constructor
 ·intro z d;obtain ⟨k,j⟩:=List.mem_iff_getElem?.mp d;obtain ⟨r,e,b,⟨i,_,a,f,c⟩,l,g⟩:=h.2 k _ j;have:=g.mpr (z r (o0 a) e f c);rw [this] at l;cases l
 ·intro z r a e f c;obtain ⟨k,_,j⟩:=rk_all a f c;obtain ⟨b,d,g⟩:=h.at_ j;cases b with
  | true=>exact g.mp rfl
  | false=>exact absurd (o0 d) z
theorem zj4 {wr:Int} {es:List Ev} {rs:List Rc} (S:Sq1 wr es rs) {gs cs:List V} (h:GdAt rs gs) {p:Nat->Bool} (hp :∀k r e,Rk rs k r e->(p k=true↔∀y,¬ BesI rs r.b e y)) (al:All2 (λ (k:Nat) y=>gs[k]? = some y) ((V0 (rdL rs).length).filter p) cs):AllR SafR rs↔V.bl false∉cs:=by
 constructor
 ·intro z u;obtain ⟨j,l⟩:=List.mem_iff_getElem?.mp u;obtain ⟨k,f,m⟩:=z0a al l;obtain ⟨r,e,b,q,o,g⟩:=h.2 k _ m;obtain ⟨i,_,d,c,a⟩:=id q;have B:=(hp k r e q).mp (List.mem_filter.mp (o0 f)).2;have:=g.mpr ((S.calm (o0 d) c a).1 B (z r (o0 d) e c a));rw [this] at o;cases o
 ·intro z r d e c a;obtain ⟨k,t,f⟩:=rk_all d c a;by_cases y :∀y,¬ BesI rs r.b e y
  ·obtain ⟨b,m,g⟩:=h.at_ f;have A:k∈(V0 (rdL rs).length).filter p:=List.mem_filter.mpr ⟨List.mem_range.mpr t,(hp k r e f).mpr y⟩;obtain ⟨j,l⟩:=List.mem_iff_getElem?.mp A;obtain ⟨v,s,n⟩:=z8a al l;rw [m] at n;cases n;cases b with
   | true=>exact (g.mp rfl).safe
   | false=>exact absurd (o0 s) z
  ·obtain ⟨x,w⟩:=Classical.not_forall.mp y;exact (S.calm d c a).2 x (Classical.not_not.mp w)
theorem ne_bl {b c:Bool} (h:b=true↔c=true):¬ (!decide (V.bl b=V.bl c))=true:=by cases b<;>cases c<;>simp at h⊢
def sp_law (K:d0):Sp:=λ vs H Q _=>∃(a:Addr) (ns:List Int),vs=[.ref a]/\SqL K H a (ns.map V.int)/\ns.length<=63/\∀H',Q (.bl true) H'
open Classical in
theorem ok_law (T:TX (kx w) mg) (c0:Ca P w mg base "_law_tale" ["script","most"] 5 (z5a (kx w))) (c1:Ca P w mg base "_law_deeds" ["events"] 1 (z4r (kx w))) (c2:Ca P w mg base "_law_with" ["tale","places"] 1 (z5k (kx w))) (c3:Ca P w mg base "judged" ["tale","strictness"] 8 (zbp (kx w))) (c4:Ca P w mg base "is_regular" ["tale"] 6 (z24 (kx w))) (c5:Ca P w mg base "_law_beside" ["events","begin","end"] 1 (z3n (kx w))) (c6:Ca P w mg base "is_safe" ["tale"] 6 (z8m (kx w))) (c7:Ca P w mg base "turn_about" ["tale"] 6 (z4s (kx w))):Fo P w mg base CX0 9 486 fd_law ["script"] (sp_law (kx w)):=by
 refine (F_law w.params).ok sc_law (λ vs H Q E h=>?_) (λ l0 A l1 s H vs Q E u h=>?_)
 ·obtain ⟨sc,ns,rfl,_⟩:=h;rfl
 ·obtain ⟨sc,ns,rfl,sq,hn,q⟩:=h;refine ⟨_,(z01 (ps_set (i:=1) sc_law.nd rfl (O0 rfl) (pe_cal c0 (u.mono (by decide)) rfl (z00 (pv 0) (z00 pe_int pa_nil))))
   (z01 (ps_set (i:=2) sc_law.nd rfl (O0 rfl) (pe_ix ix_seq (pv 1) pe_int (λ _ _=>rfl)))
   (z01 (ps_set (i:=3) sc_law.nd rfl (O0 rfl) (pe_cg (xs:=["deed"]) (g:=gName 0) (fr:=[]) (z0v (pe_cal c1 (u.mono (by decide)) rfl (z00 (pv 2) pa_nil))) (λ _ _ _ _ _=>(pg_cn (N:=["deed"]) 0)) (λ _ _ _ _ _=>(pf_one (PW.pt (pw_and (z07 opEq (pe_ix (z0j (K:=KX w.params) rfl) (pv 0) pe_int (λ _ _=>rfl)) pe_str (nomark _)) (z2w (z07 z44 (pe_ix (z0j (K:=KX w.params) rfl) (pv 0) pe_int (λ _ _=>rfl)) pe_non (nomark _))))))) (λ _ _ _ _ _=>(pv 0))))
   (z01 (ps_set (i:=4) sc_law.nd rfl (O0 rfl) (pe_cg (xs:=["deed"]) (g:=gName 0) (fr:=[(1,"tale")]) (z0v (pv 3)) (λ _ _ _ _ _=>(pg_cn (N:=["deed","tale"]) 0)) (λ _ _ _ _ _=>pf_nil) (λ _ _ _ _ _=>(z14 z44 (pe_cal c3 (u.mono (by decide)) rfl (z00 (pe_cal c2 (u.mono (by decide)) rfl (z00 (pv 1) (z00 (pe_lst (z00 (pe_ix (z0j (K:=KX w.params) rfl) (pv 0) pe_int (λ _ _=>rfl)) pa_nil)) pa_nil))) (z00 pe_str pa_nil))) pe_non (nomark _)))))
   (z01 (ps_if (z07 opNe (pe_cal c4 (u.mono (by decide)) rfl (z00 (pv 1) pa_nil)) (z14 z1b pe_bl (pv 4) (by with_unfolding_all rfl)) (nomark _))
   (z03 (ps_ret pe_bl))
   z0c)
   (z01 (z92 (i:=5) sc_law.nd rfl (P0 rfl) (xs:=["k"]) (g:=gName 0) (fr:=[(4,"good"),(2,"events"),(3,"reads")]) rfl (z7a rfl (T.no (zb5 _)) (z00 (z0h z3l rfl (T.no (n_len _)) U5 (z00 (pv 3) pa_nil)) pa_nil)) (by intro p hp;simp only [F2,A0,or_false] at hp;rcases hp with rfl|rfl|rfl<;>first|exact ⟨rfl,.inl rfl⟩|exact ⟨rfl,.inr rfl⟩) (ziv (ns:=["good","events","reads"]) (by decide +kernel) (by intro n hn k;simp only [F2,A0,or_false] at hn;rcases hn with rfl|rfl|rfl<;>first|exact .inl rfl|exact .inr rfl)) (by intro p hp;simp only [F2,A0,or_false] at hp;rcases hp with rfl|rfl|rfl<;>exact ⟨by decide +kernel,by first|exact .inl rfl|exact .inr rfl⟩) (by decide +kernel) rfl (by decide +kernel) (λ _ _ _ _ _=>(pg_cn (N:=["k","good","events","reads"]) 0)) (λ _ _ _ _ _=>(pf_one (z07 (zhl (K:=KX w.params) rfl u) (pe_cal c5 (u.mono (by decide)) rfl (z00 (pv 2) (z00 (pe_ix (z0j (K:=KX w.params) rfl) (pe_ix (z0j (K:=KX w.params) rfl) (pv 3) (pv 0) (λ _ _=>rfl)) pe_int (λ _ _=>rfl)) (z00 (pe_ix (z0j (K:=KX w.params) rfl) (pe_ix (z0j (K:=KX w.params) rfl) (pv 3) (pv 0) (λ _ _=>rfl)) pe_int (λ _ _=>rfl)) pa_nil)))) (pe_lst pa_nil) (nomark _)))) (λ _ _ _ _ _=>(pe_ix (z0j (K:=KX w.params) rfl) (pv 1) (pv 0) (λ _ _=>rfl))))
   (z01 (ps_if (z07 opNe (pe_cal c6 (u.mono (by decide)) rfl (z00 (pv 1) pa_nil)) (z14 z1b pe_bl (pv 5) (by with_unfolding_all rfl)) (nomark _))
   (z03 (ps_ret pe_bl))
   z0c)
   (z01 (ps_for Q1 rfl (zg5 rfl (T.no (zb5 _)) (z00 pe_int (z00 (z0h z3l rfl (T.no (n_len _)) U5 (z00 (pv 3) pa_nil)) pa_nil))) (z0d (i:=6) sc_law.nd rfl (P0 rfl))
   (z01 (ps_set (i:=7) sc_law.nd rfl (P0 rfl) (pe_cal c2 (u.mono (by decide)) rfl (z00 (pv 1) (z00 (pe_lst (z00 (pe_ix ix_seq (pe_ix ix_seq (pv 3) (pe_op op_sub (pv 6) pe_int) (λ _ _=>rfl)) pe_int (λ _ _=>rfl)) (z00 (pe_ix ix_seq (pe_ix ix_seq (pv 3) (pv 6) (λ _ _=>rfl)) pe_int (λ _ _=>rfl)) pa_nil))) pa_nil))))
   (z01 (ps_set (i:=8) sc_law.nd rfl (P0 rfl) (pe_and (pe_cal c4 (u.mono (by decide)) rfl (z00 (pv 7) pa_nil)) (pe_one (z14 op_isN (pe_cal c7 (u.mono (by decide)) rfl (z00 (pv 7) pa_nil)) pe_non (nomark _)))))
   (z03 (ps_if (PW.pt (pw_or (z07 opNe (z14 z44 (pe_cal c3 (u.mono (by decide)) rfl (z00 (pv 7) (z00 pe_str pa_nil))) pe_non (nomark _)) (pv 8) (nomark _)) (pw_or1 (z07 opNe (pe_cal c4 (u.mono (by decide)) rfl (z00 (pv 7) pa_nil)) (pe_and (pe_ix ix_seq (pv 4) (pe_op op_sub (pv 6) pe_int) (λ _ _=>rfl)) (pe_one (pe_ix ix_seq (pv 4) (pv 6) (λ _ _=>rfl)))) (nomark _)))))
   (z03 (ps_ret pe_bl))
   z0c)))))
   (z03 (ps_ret pe_bl)))))))))),?_⟩
  refine z0g ?_;refine ⟨_,rfl,sc,ns,rfl,sq,hn,λ t pt th te ys es os us I nm H1 s1 et i3 g6 b7 al D ub le=>?_⟩;refine g_name ?_;have ta:TalR (kx w) H1 t nm I es ys:=⟨⟨pt,te,th,SqT.of et,SqT.of i3,SqT.of g6,SqT.of b7⟩,al,⟨os,us,D⟩,by lia⟩
  have wf:=(DInv.nil.all D.wf.1).1;obtain ⟨gd,U⟩:=D.gd ub;have S:=D.sq;have i7:Evs (kx w) H1 te I es ys (dAll 0 [] es):=⟨SqT.of b7,al,S,D.evv,by lia⟩
  have G:=D.rs.g;have g5:(dAll 0 [] es).length<=16:=F0 z36 (by simpa using le)
  -- what the judge says of a tale that is left
  have e3 :∀ps:List Nat,(flt ps es).2.length<=63/\EWf [] (flt ps es).2/\(∀r∈dAll 0 [] (flt ps es).2,GD nm r)/\BdW (dAll 0 [] (flt ps es).2) 65536/\((∃o L,Wk (dAll 0 [] (flt ps es).2) o L/\FullP (dAll 0 [] (flt ps es).2) L)↔AllR RegR (dAll 0 [] (flt ps es).2)/\∀i j,¬ Bad (dAll 0 [] (flt ps es).2) i j):=λ ps=>by obtain ⟨k8,a4,sb⟩:=Sb.of D ps;have g8:=zgy (ps:=ps) (es:=es);exact ⟨by lia,a4.wf.1,(a4.gd ub).1,ze2 a4.sq (a4.gd ub).2 (F0 z36 (by simpa using F0 g8 le)),zj2 a4 ub (by lia)⟩
  have i8 :∀(ps:List Nat) {B:Addr} {f:Hp},TlE (kx w) f B nm (flt ps es).2->∃a3,TalR (kx w) f B nm I (flt ps es).2 a3:=λ ps {B f} tl=>by obtain ⟨pt,te,th,a3,a,b,c,d,e⟩:=tl;obtain ⟨k8,a4,_⟩:=Sb.of D ps;exact ⟨a3,⟨pt,te,th,a,b,c,d⟩,e,⟨_,_,a4⟩,by have:=zgy (ps:=ps) (es:=es);lia⟩
  have one :∀r∈dAll 0 [] es,∀e,r.v=.str "read"->r.e=some e->((AllR RegR (dAll 0 [] (flt [r.b] es).2)/\∀i j,¬ Bad (dAll 0 [] (flt [r.b] es).2) i j)↔RegR (dAll 0 [] es) r e):=λ r u e hv he=>by obtain ⟨_,_,sb⟩:=Sb.of D [r.b];rw [sb.all];refine ⟨λ z=>z.1 r u e (List.mem_singleton.mpr rfl) hv he,λ z=>⟨λ q hq e' O _ d9=>?_,sb.one rfl⟩⟩;have:=S.same_b hq u (List.mem_singleton.mp O);subst this;rw [he] at d9;cases d9;exact z
  refine z0g ?_;refine ⟨_,rfl,.inr (.inl ⟨t,_,1,.ref te,rfl,rfl,SqT.of et,z04 (j:=1) rfl,g_name ?_⟩)⟩;generalize hrs:dAll 0 [] es=rs at *;refine z0g ?_;refine zdi (K:=KX w.params) (λ a zs f=>Same H1 f/\f a=some (.lst zs)/\All2 (ActAt f) rs zs) (λ R h=>⟨_,rfl,te,es,ys,rfl,SqT.of b7,al,by lia,wf,D.evv,λ l zs H2 s2 el ac=>h l zs H2 ⟨s2,el,hrs ▸ ac⟩⟩) (λ a zs f ⟨_,e,ac⟩=>⟨SqL.of e,F0 (m:=100) (by rw [z05 ac];lia) (by decide)⟩) (λ i=>isRE (rs[i]?.getD r00)) (λ i y f=>∃r,rs[i]? = some r/\ActAt f r y) (λ _ _ _ _ s ⟨r,h1,h2⟩=>⟨r,h1,h2.same s⟩) ?_ ?_
  ·rintro a zs H2 ⟨s2,ea,ac⟩ i hi v H3 s3 hv KT KF k1 k2;obtain ⟨r,a0,ra⟩:=z0a ac hv;have j8:=ra.same s3;obtain ⟨p,rfl,ep⟩:=j8;rw [getD_some a0] at k1 k2;have hg:=G r (o0 a0);refine ⟨[some (.ref p)],rfl,rfl,?_⟩;refine ⟨_,rfl,.inl ⟨p,_,0,r.v,rfl,rfl,SqL.of ep,z04 (j:=0) rfl,by rcases hg with g|g<;>rw [g.1]<;>rfl,_,rfl,?_⟩⟩;have k1:=λ z=>k1 (show (decide (r.v=.str "read") && r.e.isSome)=true from z);have k2:=λ z=>k2 (show (decide (r.v=.str "read") && r.e.isSome)=false from z);by_cases hv:r.v=.str "read"
   ·refine iteP (decide_eq_true hv) ?_;refine ⟨_,rfl,.inl ⟨p,_,4,endV r.e,rfl,rfl,SqL.of ep,z04 (j:=4) rfl,rfl,_,rfl,?_⟩⟩;cases re:r.e with
    | none=>exact iteN (by show ¬ (!decide (V.non=V.non))=true;decide) (k2 (by rw [re,Bool.and_eq_false_iff];exact .inr rfl) _ (Same.refl _))
    | some e=>exact iteP rfl ⟨_,rfl,k1 (by rw [re,decide_eq_true hv];rfl) _ _ (Same.refl _) ⟨r,a0,p,rfl,ep⟩⟩
   ·exact iteN (λ z=>hv (of_decide_eq_true z)) (iteN (by decide) (k2 (by rw [decide_eq_false hv];rfl) _ (Same.refl _)))
  rintro a zs H2 ⟨s2,ea,ac⟩ lr H3 ws s3 hlr al3;have lz:zs.length=rs.length:=z05 ac;rw [lz] at al3;have k5:RdAt H3 rs ws:=⟨z05 al3,λ k y Z=>by obtain ⟨i,hi,r,a0,ra⟩:=z0a al3 Z;obtain ⟨r',e,hk,f3⟩:=rk_at hi;rw [a0] at f3;cases f3;exact ⟨r,e,hk,ra⟩⟩
  have s4:=Same.upd (o:=.lst ws) hlr;have er:upd H3 lr (.lst ws) lr=some (.lst ws):=upd_same;have a5:=k5.same s4;have x:=s2.trans (s3.trans s4);generalize upd H3 lr (.lst ws)=H4 at er a5 x s4⊢;refine g_name ?_;have wl:ws.length<=16:=by rw [a5.1];exact F0 (U1 _ _) (by rw [W2];exact g5)
  refine z0g ?_;refine z29 (K:=KX w.params) (a:=lr) (xs:=ws) (H1:=H4) (λ _=>true) (λ k y _=>∃r e b,Rk rs k r e/\y=.bl b/\(b=true↔RegR rs r e)) (λ _ _ _ _ _ z=>z) (λ R h=>⟨_,rfl,h⟩) (SqL.of er) (F0 (m:=100) (by lia) (by decide)) ?_ ?_
  ·intro k hk v H5 s5 hv KT KF k1 k2;obtain ⟨r,e,rk,p,rfl,ep⟩:=(a5.same s5).2 k v hv;obtain ⟨i,_,a0,c9,a7⟩:=id rk;refine ⟨[some (.ref p)],rfl,rfl,iteT ?_⟩;refine ⟨_,rfl,_,rfl,.inl ⟨p,_,3,.int (r.b:Nat),rfl,rfl,SqL.of ep,z04 (j:=3) rfl,w_1,λ lp b5=>?_⟩⟩;have s6:=s5.trans (Same.upd (o:=.lst [V.int (r.b:Nat)]) b5);refine ⟨t,lp,nm,I,es,ys,[r.b],rfl,ta.same (x.trans s6),upd_same,λ B H7 s7 tl=>?_⟩;have o:=one r (o0 a0) e c9 a7;obtain ⟨j1,j2,j3,j4,j5⟩:=e3 [r.b];have g1:=(Same.upd (o:=.lst [V.int (r.b:Nat)]) b5).trans s7;refine ⟨B,nm,_,65536,rfl,tl,j1,j2,j3,by decide,j4,λ H8 F no=>⟨rfl,?_⟩,λ l xs o' L H8 F _ _ _ wk fl=>⟨rfl,?_⟩⟩
   ·exact k1 rfl _ _ (g1.trans F) ⟨r,e,false,rk,rfl,⟨λ z=>(by cases z),λ z=>by obtain ⟨o',L,wk,fl⟩:=j5.mpr (o.mpr z);exact absurd fl (no o' L wk)⟩⟩
   ·exact k1 rfl _ _ (g1.trans F) ⟨r,e,true,rk,by simp,⟨λ _=>o.mp (j5.mp ⟨o',L,wk,fl⟩),λ _=>rfl⟩⟩
  intro W H5 C s5 j9 d2;rw [List.filter_eq_self.mpr (λ _ _=>rfl)] at d2;have gl:C.length=ws.length:=by have:=z05 d2;rwa [W2] at this
  have a1:GdAt rs C:=⟨by rw [gl,a5.1],λ k y Z=>by obtain ⟨j,hj,h⟩:=z0a d2 Z;rw [List.getElem?_range (by rw [<-gl];exact (List.getElem?_eq_some_iff.mp Z).1)] at hj;cases hj;exact h⟩
  have e5:=Same.upd (o:=.lst C) j9;have eg:upd H5 W (.lst C) W=some (.lst C):=upd_same;have d3:=s5.trans e5;generalize upd H5 W (.lst C)=H6 at eg d3 e5⊢;have h8:=x.trans d3;refine g_name (sq_if ?_);refine ⟨_,rfl,t,nm,I,es,ys,rfl,ta.same h8,λ b H7 s7 O=>?_⟩;rw [hrs] at O;refine ⟨_,rfl,W,C,rfl,.inl (SqL.of (s7 _ _ eg)),rfl,zgp a1.bl,rfl,_,rfl,iteN (ne_bl ?_) ?_⟩
  ·rw [O,a1.no];show _↔(!inV (.bl false) C)=true;rw [Bool.not_eq_true',<-O5,bl_in a1.bl]
  refine tn_x (t_nx (z0g ?_));have d5:=d3.trans s7;have d8:=a5.same d5;have a8:=d5 _ _ er;have f8:=s7 _ _ eg;have b8:=x.trans d5;have pk :∀k r e,Rk rs k r e->((decide (∃r e,Rk rs k r e/\∀y,¬ BesI rs r.b e y))=true↔∀y,¬ BesI rs r.b e y):=λ k r e hk=>by rw [decide_eq_true_iff];refine ⟨λ ⟨r',e',h1,h2⟩=>?_,λ z=>⟨r,e,hk,z⟩⟩;obtain ⟨rfl,rfl⟩:=rk_one hk h1;exact h2
  refine zcz (S:=Same) (n:=ws.length) (H1:=H7) (λ k=>decide (∃r e,Rk rs k r e/\∀y,¬ BesI rs r.b e y)) (λ k y _=>C[k]? = some y) (Same.refl _) (λ _ _ _ a b=>a.trans b) (λ _ _=>Same.refl _) (λ _ _ _ _ _ h=>h) (λ T h=>⟨_,rfl,.inl ⟨lr,ws,rfl,.inl (SqL.of a8),h⟩⟩) (F0 (m:=100) (by lia) (by decide)) ?_ ?_
  ·intro k hk H8 F KT KF k1 k2;have hw:ws[k]? = some ws[k]:=N0 hk;obtain ⟨r,e,rk,p,h4,ep⟩:=(d8.same F).2 k _ hw;rw [h4] at hw;obtain ⟨i,_,a0,c9,a7⟩:=id rk;have mr:=o0 a0;obtain ⟨b,hg,_⟩:=a1.at_ rk;rw [a7] at ep;refine ⟨[some (.int (k:Nat))],rfl,rfl,?_⟩;refine ⟨_,rfl,?_⟩;refine ⟨_,rfl,_,rfl,.inl ⟨lr,ws,_,_,rfl,rfl,SqL.of (F _ _ a8),z04 hw,.inl ⟨p,_,3,.int (r.b:Nat),rfl,rfl,SqL.of ep,z04 (j:=3) rfl,?_⟩⟩⟩;refine ⟨_,rfl,_,rfl,.inl ⟨lr,ws,_,_,rfl,rfl,SqL.of (F _ _ a8),z04 hw,.inl ⟨p,_,4,.int (e:Nat),rfl,rfl,SqL.of ep,z04 (j:=4) rfl,?_⟩⟩⟩;have he:=(List.getElem?_eq_some_iff.mp (S.R.b r mr e a7)).1;refine ⟨te,r.b,e,I,es,ys,rs,rfl,i7.same (b8.trans F),S.E r mr e a7,N2 he,⟨_,_,_,by rw [S.R.a r mr,c9]⟩,λ l fs H9 s9 el fl bs=>?_⟩;refine ⟨w_0,λ l2 d7=>⟨l,l2,_,rfl,rfl,SqL.of ((Same.upd d7) _ _ el),SqL.of upd_same,_,rfl,?_⟩⟩;have a6:=s9.trans (Same.upd (o:=.lst []) d7);have i4:=(F.trans a6) _ _ f8;refine ite2 (λ hf=>?_) λ hf=>?_
   ·have hf:fs=[]:=by have:=of_decide_eq_true hf;simpa using this
    exact ⟨_,rfl,_,rfl,.inl ⟨W,C,_,_,rfl,rfl,SqL.of i4,z04 hg,k1 ((pk k r e rk).mpr λ y Z=>by have:=(bs y).mpr Z;rw [hf] at this;cases this) _ _ a6 hg⟩⟩
   ·refine k2 (Bool.eq_false_iff.mpr λ z=>hf (decide_eq_true ?_)) _ a6;have:=(pk k r e rk).mp z;rw [List.map_eq_nil_iff];exact List.eq_nil_iff_forall_not_mem.mpr λ y Z=>this y ((bs y).mp Z)
  intro lc H8 cs F i9 d1;rw [a5.1] at d1;have cn:=zj4 S a1 pk d1;have cb :∀y∈cs,∃b,y=V.bl b:=λ y Z=>by obtain ⟨j,hj⟩:=List.mem_iff_getElem?.mp Z;obtain ⟨k,_,hg⟩:=z0a d1 hj;exact a1.bl y (o0 hg)
  have f0:=Same.upd (o:=.lst cs) i9;have ec:upd H8 lc (.lst cs) lc=some (.lst cs):=upd_same;have c8:=F.trans f0;generalize upd H8 lc (.lst cs)=H9 at ec c8 f0⊢;have k7:=b8.trans c8;refine g_name (sq_if ?_);refine ⟨_,rfl,t,nm,I,es,ys,rfl,ta.same k7,λ b2 f4 a6 e8=>?_⟩;rw [hrs] at e8;refine ⟨_,rfl,lc,cs,rfl,.inl (SqL.of (a6 _ _ ec)),rfl,zgp cb,rfl,_,rfl,iteN (ne_bl ?_) ?_⟩
  ·rw [e8,cn];show _↔(!inV (.bl false) cs)=true;rw [Bool.not_eq_true',<-O5,bl_in cb]
  refine tn_x (t_nx ?_);have b6:=c8.trans a6;have h0:=d8.same b6;have e6:=b6 _ _ a8;have i0:=b6 _ _ f8;have k6:=b8.trans b6;refine ⟨_,rfl,.inl ⟨lr,ws,rfl,.inl (SqL.of e6),_,_,rfl,⟨by lia,by lia,by lia,by lia⟩,?_⟩⟩;have k4:(((ws.length:Nat):Int) - 1).toNat=ws.length - 1:=by lia
  rw [k4];refine z7l (lo:=1) (n:=ws.length - 1) (λ _ σ f=>Same f4 f/\∃x6 x7 x8,σ=[some (.ref sc),some (.ref t),some (.ref te),some (.ref lr),some (.ref W),some (.ref lc),x6,x7,x8]) ⟨Same.refl _,_,_,_,rfl⟩ ?_ ?_
  ·rintro m σ g9 hm ⟨s11,x6,x7,x8,rfl⟩;rw [show (1:Int) + (m:Int)=((m + 1:Nat):Int) by lia];refine g_name ?_;have f5:((m + 1:Nat):Int) - 1=(m:Nat):=by lia
   have f9:=h0.same s11;have d0:ws[m]? = some (ws[m]'(by lia)):=N0 (by lia);have d6:ws[m + 1]? = some (ws[m + 1]'(by lia)):=N0 (by lia);obtain ⟨Y,e1,e9,p1,q1,i5⟩:=f9.2 m _ d0;obtain ⟨X,e2,e0,p2,q2,j0⟩:=f9.2 (m + 1) _ d6;rw [q1] at d0;rw [q2] at d6;obtain ⟨i1,_,k0,k9,g2⟩:=id e9;obtain ⟨i2,_,h5,h3,f6⟩:=id e0;have f7:=o0 k0;have g0:=o0 h5;obtain ⟨b1,i6,g4⟩:=a1.at_ e9;obtain ⟨b3,g7,j6⟩:=a1.at_ e0;have g3:=s11 _ _ e6;have h9:=s11 _ _ i0;have h6:=k6.trans s11;obtain ⟨j1,j2,j3,j4,j5⟩:=e3 [Y.b,X.b];have d4:AllR RegR (dAll 0 [] (flt [Y.b,X.b] es).2)↔RegR rs Y e1/\RegR rs X e2:=by
    obtain ⟨_,_,sb⟩:=Sb.of D [Y.b,X.b];rw [hrs] at sb;rw [sb.all];refine ⟨λ z=>⟨z Y f7 e1 (by simp) k9 g2,z X g0 e2 (by simp) h3 f6⟩,λ z r u e O _ he=>?_⟩;rcases List.mem_cons.mp O with y|y
    ·have:=S.same_b u f7 y;subst this;rw [g2] at he;cases he;exact z.1
    ·have:=S.same_b u g0 (List.mem_singleton.mp y);subst this;rw [f6] at he;cases he;exact z.2
   refine z0g ?_;refine ⟨_,rfl,_,rfl,_,rfl,_,_,rfl,rfl,.inl ⟨lr,ws,_,_,rfl,rfl,SqL.of g3,by rw [f5];exact z04 d0,.inl ⟨p1,_,3,.int (Y.b:Nat),rfl,rfl,SqL.of i5,z04 (j:=3) rfl,?_⟩⟩⟩;refine ⟨_,rfl,_,rfl,.inl ⟨lr,ws,_,_,rfl,rfl,SqL.of g3,z04 d6,.inl ⟨p2,_,3,.int (X.b:Nat),rfl,rfl,SqL.of j0,z04 (j:=3) rfl,w_2,λ lp b5=>?_⟩⟩⟩;have e4:=Same.upd (o:=.lst [V.int (Y.b:Nat),V.int (X.b:Nat)]) b5;refine ⟨t,lp,nm,I,es,ys,[Y.b,X.b],rfl,ta.same (h6.trans e4),upd_same,λ B h7 k3 tl=>g_name ?_⟩;obtain ⟨a3,b9⟩:=i8 [Y.b,X.b] tl;have e7:=e4.trans k3;generalize hrs':dAll 0 [] (flt [Y.b,X.b] es).2=rs' at j3 j4 j5 d4;refine ze0 (λ σ f=>Same h7 f/\∃fv,σ=[some (.ref sc),some (.ref t),some (.ref te),some (.ref lr),some (.ref W),some (.ref lc),some (.int ((m + 1:Nat):Int)),some (.ref B),some (.bl fv)]/\(fv=true↔AllR RegR rs'/\∀i j,¬ Bad rs' i j)) ?_ λ go=>?_;rotate_left
   ·refine ⟨_,rfl,B,nm,I,_,a3,rfl,b9,λ b4 b0 x a2=>⟨_,rfl,?_⟩⟩;rw [hrs'] at a2;cases b4 with
    | false=>exact iteN (by decide) (g_name (go _ _ ⟨x,_,rfl,⟨λ z=>(by cases z),λ z=>absurd (a2.mpr z.1) (by decide)⟩⟩))
    | true=>
     refine iteP rfl ⟨_,rfl,B,nm,I,_,a3,rfl,b9.same x,λ a9 J nb=>⟨rfl,?_⟩,λ p i j a9 J ep fb=>⟨rfl,?_⟩⟩
     ·rw [hrs'] at nb;exact g_name (go _ _ ⟨x.trans J,_,rfl,⟨λ _=>⟨a2.mp rfl,nb⟩,λ _=>rfl⟩⟩)
     ·rw [hrs'] at fb;exact g_name (go _ _ ⟨x.trans J,_,rfl,⟨λ z=>(by simp at z),λ z=>absurd fb.1 (z.2 i j)⟩⟩)
   rintro σ b0 ⟨x,fv,rfl,hfv⟩;refine t_or ?_;have j7:=tl.tups (.of x);have last :∀{f:Hp} {KK:Bool->Hp->Prop},Same b0 f->(∀b H1,b=false->Same b0 H1->KK b H1)->tTest (tOp rNe (tCall (z24 (kx w)) [] E0 (tCons (tVar 7) tNil)) (tAndV (tOp (rIx (kx w)) (tVar 4) (tOp (rI0 λ i j=>V.int (i - j)) (tVar 6) (tC (V.int 1)))) (tOp (rIx (kx w)) (tVar 4) (tVar 6)))) [some (.ref sc),some (.ref t),some (.ref te),some (.ref lr),some (.ref W),some (.ref lc),some (.int ((m + 1:Nat):Int)),some (.ref B),some (.bl fv)] f KK:=λ {f KK} M hK=>by
    refine ⟨_,rfl,B,nm,I,_,a3,rfl,b9.same (x.trans M),λ b4 a9 J a2=>?_⟩;rw [hrs'] at a2;have f2:=(e7.trans ((x.trans M).trans J)) _ _ h9;refine ⟨_,rfl,_,rfl,_,_,rfl,rfl,.inl ⟨W,C,_,.bl b1,rfl,rfl,SqL.of f2,by rw [f5];exact z04 i6,_,rfl,?_⟩⟩;cases b1 with
    | false=>refine iteN (by decide) ⟨rfl,_,rfl,hK _ _ (Bool.eq_false_iff.mpr (ne_bl ⟨λ z=>?_,λ z=>(by cases z)⟩)) (M.trans J)⟩;exact g4.mpr (d4.mp (a2.mp z)).1
    | true=>refine iteP rfl ⟨_,rfl,_,rfl,.inl ⟨W,C,_,.bl b3,rfl,rfl,SqL.of f2,z04 g7,rfl,_,rfl,hK _ _ (Bool.eq_false_iff.mpr (ne_bl ?_)) (M.trans J)⟩⟩;rw [a2,d4,j6];exact ⟨λ z=>z.2,λ z=>⟨g4.mp rfl,z⟩⟩
   have f1 :∀{f:Hp},Same b0 f->Same f4 f:=λ M=>s11.trans (e7.trans (x.trans M));refine ⟨_,rfl,B,nm,_,65536,rfl,j7,j1,j2,by rw [hrs'];exact j3,by decide,by rw [hrs'];exact j4,λ a9 J no=>⟨rfl,?_⟩,λ l xs o' L a9 J _ _ _ wk fl=>⟨rfl,?_⟩⟩
   ·rw [hrs'] at no;refine ⟨_,rfl,rfl,_,rfl,iteN (ne_bl ⟨λ z=>(by simp at z),λ z=>?_⟩) (last J λ b H1 O M=>?_)⟩
    ·obtain ⟨o',L,wk,fl⟩:=j5.mpr (hfv.mp z);exact absurd fl (no o' L wk)
    ·subst O;exact iteN (by decide) (tn_x ⟨f1 M,_,_,_,rfl⟩)
   ·rw [hrs'] at wk fl;refine ⟨_,rfl,rfl,_,rfl,iteN (ne_bl ⟨λ _=>hfv.mpr (j5.mp ⟨o',L,wk,fl⟩),λ _=>(by simp)⟩) (last J λ b H1 O M=>?_)⟩;subst O;exact iteN (by decide) (tn_x ⟨f1 M,_,_,_,rfl⟩)
  ·rintro σ g9 ⟨s11,x6,x7,x8,rfl⟩;exact t_nx (q _)
end
theorem all_law {P:Program} {w:S0} {mg:Str->Option Value} {base:Heap} (T:TX (kx w) mg):Fo P w mg base CX0 9 486 fd_law ["script"] (sp_law (kx w)):=by have m:=@cal_mk P w (kx w) mg base;have N:=m T (z1w _) (z76 _) (z7z _) (z6a T );have h:=m T (z2h _) (z94 _) (z9i _) (z7t T );have a:=m T (z4m _) (zce _) (zcc _) (zak T );have k:=m T (z3e _) (zax _) (za0 _) (z8x T a);have b:=m T (zdh _) (ziw _) (zjj _) (zi0 T );have u:=m T (z48 _) (zcl _) (zcu _) (z9y T a);have J:=m T (z34 _) (zap _) (zae _) (z99 T k);have V:=m T (z2e _) (z9n _) (z91 _) (z81 T a k);have l:=m T (z2k _) (z8g _) (z8r _) (z7q T a h V J);have t:=m T (z4g _) (zci _) (zcf _) (zao T N h u l);have S:=m T (z39 _) (za5 _) (zan _) (z9a T );have j:=m T (z5e _) (zdy _) (zd6 _) (zcb T );have p:=m T (z2d _) (z9f _) (z9d _) (z7x T j);have q:=m T (z4d _) (zco _) (zch _) (z9v T p);have G:=m T (z2c _) (z8w _) (z9l _) (z7r T b q);have e:=m T (z3p _) (zbn _) (zc4 _) (zdp T );have d:=m T (z2l _) (z87 _) (z8i _) (z7y T );have c:=m T (z0z _) (z3m _) (z47 _) (z37 T G);have f:=m T (z1p _) (z6c _) (z6d _) (z5w T );have g:=m T (z3b _) (zas _) (zaw _) (z96 T );have z:=m T (z3a _) (zav _) (z9x _) (z8p T c e d f g);have K:=m T (z84 _) (zfb _) (zff _) (zdm T c e d f g);have H:=m T (z3p _) (zbn _) (zc4 _) (zcj T );have X:=m T (z38 _) (za6 _) (zah _) (z8h T c H d);have x:=m T (z27 _) (z9b _) (z8l _) (z6z T );have D:=m T (z33 _) (zaf _) (zaa _) (z9k T );have U:=m T (z10 _) (z4i _) (z4l _) (z42 T );have s:=m T (za3 _) (zh9 _) (zi3 _) (zfk T b U D);have L:=m T (z4j _) (zcg _) (zct _) (za9 T j);have Y:=m T (z5c _) (zdx _) (zeu _) (zcr T L);have E:=m T (z2b _) (z8v _) (z9p _) (z83 T );have i:=m T (z82 _) (zge _) (zg6 _) (zdk T );have O:=m T (z7d _) (zfv _) (zgf _) (zer T i Y E);have M:=m T (z3c _) (z5l _) (zaq _) (z9o T );have C:=m T (z26 _) (z4w _) (z8s _) (z70 T );have Q:=m T (F_do _) (g_do _) (b_do _) (ok_do T O M C);have R:=m T (z2f _) (z8e _) (z88 _) (z7k T i);have n:=zam (P:=P) (w:=w) (base:=base) T;have y:=z2p (P:=P) (w:=w) (base:=base) T;have r:=m T (z7f _) (zfc _) (zf7 _) (zeg T Q);have F:=m T (z1q _) (z64 _) (z6e _) (z5s T );have B:=m T (z4a _) (zcv _) (zca _) (za8 T );have I:=m T (z2q _) (z95 _) (z8o _) (z79 T R);have o:=zhi (P:=P) (w:=w) (base:=base) T s b I F n;have W:=z40 (P:=P) (w:=w) (base:=base) T y r;have v:=z5o (P:=P) (w:=w) (base:=base) T B;have A:=m T (zal _) (zhm _) (zi7 _) (zfu T o v W);have Z:=m T (z4b _) (zcx _) (zcw _) (z9t T );exact ok_law T t S Z A z x K X
end K24
open PySem PySem.W PyProof.Rows
set_option maxRecDepth 100000 in
set_option maxHeartbeats 0 in
theorem PySem.Challenge.cw_talejudge_k24_whole_read_by_read_holds : PySem.Challenge.rw_talejudge_k24_whole_read_by_read.Holds := by
 w_on;o_law
 refine holds_open (q:=K24.viewX) (loose:=K24.looseX) (Xt:=K24.XtX) (XP:=XL K24.viewX []) (Yf:=Hook.obs K24.HX) (Ya:=Hook.val K24.HX) (YP:=Hook.says K24.HX) (N:=200000) K24.leftX (Hook.of K24.HX) (Hook.keeps K24.HX) (λ s e=>xl_of s (Bool.and_eq_true_iff.mp e).1) XL.keeps (by rfl) (by rfl) (by rfl) (λ s e=>recFacts_of (Bool.and_eq_true_iff.mp e).2) (by rfl) (by assumption) (by decide +kernel) ⟨rfl,rfl,rfl,rfl,rfl,by decide +kernel⟩ ?hw ?hc
 case hw=>w_witness2
 case hc=>
  refine L2.walk_of (l:=PySem.Challenge.rw_talejudge_k24_whole_read_by_read) (n:=63) (k:=9) (x:="script") (K:=K24.KX) (CX:=λ _=>L2.CX0) (sp:=λ w=>K24.sp_law (K24.KX w.params)) rfl (by decide) rfl ⟨rfl,by decide,by decide,rfl⟩ (λ w h Y=>PySem.W.kIn_of Y) ?F ?S ?C
  case F=>intro w o p h KX G g;have T:=L2.TX.mk' KX G;have f:=g.symm.trans (T.of (K24.g_law _));cases f;exact ⟨K24.fd_law,λ s u=>.of_eq rfl,λ j m r=>K24.all_law T⟩
  case S=>exact λ w H a b d i c=>⟨a,b,rfl,c,d,λ _=>rfl⟩
  case C=>exact λ _ _ _ _ _ z=>z
