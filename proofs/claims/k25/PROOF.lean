import PyProof.Rows.All
import Wide.All
import OpenK.AllK
import Wide.FinOn
import Lean
import PyProof.EqAt
import PyProof.EqKinds
import PyProof.TupleCall
import Open.Tops
import KE.KIntText
import PyProof.ZipIter
import PyProof.ReprRoads
import PyProof.Draws
import KE.KDictSum
import KE.KSortedM
import OpenK.KRaise
import OpenK.KOwn
import PyProof.ExcBaseAll.ValueError
import KE.KTryMore
import PyProof.NsDelKeeps
import KE.KDictOf
import KE.KEqDict
import PyProof.DictWalks
import PyProof.TupleKey
import PyProof.MinMaxWalk
import KE.KSortTup
import PyProof.StrWalks
import KE.KRevIter
import KE.KListMore
import PyProof.StrLawsTight
import PyProof.StrLawsChain
import KE.KSortKey
import KE.KLam
import PyProof.DictItems
import PySem.Challenge.RW_talejudge_k25_whole_runs_of_registers
open PySem.W renaming Frag->c0,kia_one->Y2,keepIn->j4,kla_obj->j5,fnOf->w5,findIn->p6,nsIn->T6,cellsFrom_some->U6,tabObj->y7,codeIn->z7,CodeHd->A7,methodObj->U7,instObj->B8,lookIn->J8,specialIn->j02,kitx_list->j03,kitx_dict->j04
open List renaming mem_of_getElem?->d0,length_map->A0,not_mem_nil->B0,length_append->F0,size_toArray->I0,mem_append_right->M0,map_cons->O0,getElem?_eq_getElem->P0,range->U0,map_append->V0,getElem?_append_left->Y0,getElem?_modify->A1,length_filter_le->E1,getElem?_append_right->F1,filter_cons_of_pos->L1,getElem?_map->N1,filter_cons_of_neg->Q1,length_cons->T1,getElem?_cons_succ->Z1,replicate->N2,getElem?_cons_zero->Q2,mem_cons_of_mem->T2,filter_append->U2,length_range->X2,mem_cons_self->d3,mem_cons->B3,append_nil->E3,length_replicate->L3,getElem?_eq_none->M3,map_map->O3,map_congr_left->S3,length_take->V3,getElem_map->n4,length_singleton->M4,lookup_cons->X4,getElem_mem->Y4,drop_eq_getElem_cons->d5,nodup_cons->n5,find?_cons->o5,pairwise_lt_range->B5,foldl_append->C5,ext_getElem?->D5,drop_zero->E5,take_length->P5,filter_cons->Q5,mem_append_left->Z5,of_mem_zip->d6,length_nil->j6,foldl_cons->l6,filter_nil->m6,zip_nil_right->C6,ne_nil_of_mem->D6,length_modify->E6,pairwise_map->L6,filterMap_cons_some->N6,any_cons->O6,length_drop->V6,getElem?_replicate->W6,take_of_length_le->f7,range_succ->B7,take_succ->K7,filterMap_cons->T7,mem_singleton->Y7,zip_nil_left->t8,nodup_append->u8,map_nil->x8,lookup->L8,length->M8,mem_filter->Q8,dropLast_concat_getLast->S8,exists_cons_of_ne_nil->n9,filterMap_cons_none->C9,length_pos_of_mem->N9,getElem?_set_self->O9,map_id->j06,getElem?_set_ne->j07,getElem?_append->j08
open PySem renaming wpAny_bind->o0,Shared->u0,wpAny_pure->C0,wpAny->N0,World->Z0,model->B1,Params->J1,starEach->U1,Around->C2,wpAny_holding->D2,mainGlobals->P2,compareOp->V2,wpAny_truthy_bool->F3,wpAny_mono->K3,wpAny_Call_Name_kw->P3,wpAny_newObj_type->T3,eval->W3,sysModules->y4,intKind->C4,wpAny_pyNext_list_item->O4,bootBuiltins->P4,wpAny_passesOwn->S4,rawInt->U4,foldedSetIterable->V4,OsState->W4,mem_of_lookup->c5,backTo->q5,binaryOp->z5,codeAny_builtin->A5,wpAny_pyIter_tuple->J5,tupleKind_room_in1->K5,treeTable->N5,sizeLine_eq->O5,wpAny_pyIter_list->S5,boot_len->T5,NameKind->X5,wpAny_pyNext_list_end->c6,wpAny_call_entry->n6,assignEach->o6,attributeBase->r6,wpAny_field->w6,sliceBounds->y6,importedModules->F6,codeAny_mono->J6,codeAny->K6,wpAny_seqItems->P6,intKind_is->Q6,SetTable->S6,wpAny_pyIter_enum->c7,relabel->d7,plainId_quiet->m7,behindInMarks->o7,wpAny_callSpecial?_slot->D7,wpAny_rule->M7,call_meetsIn->N7,Keyword->O7,wpAny_execs_nil->P7,letOwnedTupleGo->Q7,wpAny_tryCatch->Z7,wpAny_of_eq->a8,wpAny_letGo->b8,Paired->d8,valueAt->j8,tupleKind->m8,swapsWith->o8,getItem->p8,wpAny_standAt->C8,pyNext->F8,builtinsNs->G8,IsPart->O8,wpAny_collect_seq->T8,callerA->U8,seqItems?->q9,subscripted->x9,keywordEach->y9,wpAny_updateSeq->F9,spliced->M9,wpAny_newFunctionEnv_cells->P9,wpAny_letOwnedTupleGo_enum->Q9,relayAll->S9,closureFor->T9,atKey->V9,evalArgs_none->j01
open PySem.Heap renaming get?_push_of_some->v0,lt_size->G0,get?_push_size->J0,size_push->p4,get?_update_other->D4,get?_update_self->N4,SameBut->F5
open Nat renaming le_refl->y0,le_trans->D0,ne_of_lt->L0,lt_of_lt_of_le->X0,lt_succ_of_lt->C1,lt_succ_self->V1,lt_of_le_of_lt->W1,zero_le->A2,ne_of_gt->E2,not_lt_zero->O2,lt_irrefl->C3,lt_trichotomy->Q3,le_of_lt->U3,lt_or_ge->i4,zero_add->L5,le_of_not_lt->V5,le_add_right->W5,sub_self->z6,lt_trans->A6,le_of_eq->B6,le_succ->M6,lt_of_not_le->K8,min_self->X9
open Or renaming inr->Q0,inl->S0
open Option.some renaming inj->T0
open Bool renaming false_ne_true->W0,and_eq_true->N3,false_eq_true->Y3,and_eq_true_iff->a6,false_and->L7,not_eq_true->E8,not_true->E9
open Array renaming length_toList->D1,getElem?_eq_getElem->G6,getElem?_eq_none->L9
open PySem.PyData renaming keyHash->O1
open PySem.Value renaming ref->P1,type->m5,int->v6,none->X6,str->z8,bool->W8,isInt->W9
open PySem.Obj renaming mapSeq->R1,putSet->f8
open PySem.PassesOwn renaming never->X1
open PySem.NameKind renaming free->Y1
open PySem.SetTable renaming below->B2,grown->L4,insertAt->S7,advance->j00
open PyProof.Rows renaming callWith_type1->F2,IntsAre->Z2,seqObj->A3,AllBare->j7,slot_tuple_getitem->E7,callWith_builtin1->J7,envOfC->c8,listUpdate_at->D8,arrOf->V8,get?_update_seq->G9,boot_isinstance->J9,boot_tuple->U9
open Sum.inl renaming inj->W2
open PySem.Heap.SameBut renaming update->y3,refl->v9
open Classical renaming byContradiction->D3
open PySem.Calls renaming spliced_cons->X3,spliced_nil->d4,callWith_builtin->B4,evalArgs_plain->F7,Name_function_global->b9
open Pure renaming pure->Z3
open PySem.Builtin.SmallTypes renaming nextOf->z4,ownedTupleFields->E4
open PySem.F renaming plain_max_loop->A4,slot_tuple_iterator_next->i5,plainAttrs_dict->l5,slot_dict_get->Z6,slot_dict_values->Y8,args_tuple_add_2->Z8,entry_max_loop->a9,slot_dict_items->c9,entry_tuple_add->d9,args_dict_get_2->j9,slot_tuple_add->r9,entry_dict_get->t9,args_tuple_iterator_next_1->w9,slot_dict_pop->B9,entry_tuple_iterator_next->D9
open Int renaming emod_lt_of_pos->F4,emod_nonneg->p5,toNat_natCast->M5,toNat_of_nonneg->V7,zero_add->Y9
open Ne renaming symm->J4
open PySem.Builtin.Slice renaming slicePlaces->K4,sliceAdjust->Y5,sliceApplied->W7
open PySem.Builtin.Tuple renaming tupleExact->Q4
open False renaming elim->T4
open ForInStep renaming yield->Z4
open PySem.SetTable.below renaming go->U5
open PySem.W.Fast renaming te14364793385576792824->Y6
open Option renaming map_some->a7,isSome_map->X7
open PySem.Str renaming ofString->p7
open PySem.Around renaming under_plainId->C7
open PySem.Builtin.Builtins renaming bindParams->G7
open PySem.Builtin.Range renaming rangeSize->y8
open Sum renaming inr->A8
open List.Pairwise renaming filter->N8,nil->o9
open PySem.Data renaming fields->P8,cell->K9
open PySem.SetTable.probe renaming go->X8
open PySem.Paired renaming length->m9
open PySem.SeqAt.EqAt renaming str_int->z9,int_str->A9
open Array.Perm renaming refl->Z9
open Prod renaming fst->j05
open PyProof.Rows.F renaming entry_set_update_loop->j09
set_option maxRecDepth 100000
set_option maxHeartbeats 0
namespace PySem.W.Fast
noncomputable def tw16462285458259700906:=0
noncomputable def tw10120516349136036168:=0
noncomputable def tw7806757907304007780:=0
end PySem.W.Fast
namespace K25
open_shared pre for PySem.Challenge.pw_talejudge_k25_whole_runs_of_registers leaving 37
end K25
set_option maxHeartbeats 200000
-- CHANGE: your row's module here,as the last of these rows
set_option Elab.async false
set_option linter.all false
namespace L2
open PySem PySem.Spec PyProof.Rows
noncomputable abbrev Key:=Sum Int Str
noncomputable def keyIs:Key->Value->Bool
 | .inl k,v=>W9 k v
 | .inr x,v=>Value.isStrOf x v
noncomputable def keyH (w:Z0):Key->Int
 | .inl k=>hashInt k
 | .inr x=>hashStr w x
theorem z0j :∀{k:Key} {v:Value},keyIs k v=true->(∃i t,k=Sum.inl i/\v=v6 i t)\/(∃x t,k=A8 x/\v=z8 x t)
 | .inl i,v,h=>by obtain ⟨t,e⟩:=Value.isInt_shape (k:=i) (v:=v) h;exact .inl ⟨i,t,rfl,e⟩
 | .inr x,v,h=>by obtain ⟨t,e⟩:=Value.isStrOf_shape (x:=x) (v:=v) h;exact .inr ⟨x,t,rfl,e⟩
theorem zak (i:Int) (t:Tok):keyIs (.inl i) (.int i t)=true:=by simp [keyIs,W9]
theorem zbb (x:Str) (t:Tok):keyIs (.inr x) (.str x t)=true:=by simp [keyIs,Value.isStrOf]
theorem key_ll (a b:Int):decide ((Sum.inl a:Key)=Sum.inl b)=(a == b):=by
 by_cases e:a=b
 ·subst e;simp
 ·have h:¬ (Sum.inl a:Key)=Sum.inl b:=λ q=>e (W2 q);rw [decide_eq_false h];exact (beq_eq_false_iff_ne.mpr e).symm
theorem key_rr (a b:Str):decide ((A8 a:Key)=A8 b)=decide (a=b):=by
 by_cases e:a=b
 ·subst e;simp
 ·have h:¬ (A8 a:Key)=A8 b:=λ q=>e (Sum.inr.inj q);rw [decide_eq_false h,decide_eq_false e]
theorem key_lr (a:Int) (b:Str):decide ((Sum.inl a:Key)=A8 b)=false:=decide_eq_false (λ q=>nomatch q)
theorem key_rl (a:Str) (b:Int):decide ((A8 a:Key)=Sum.inl b)=false:=decide_eq_false (λ q=>nomatch q)
noncomputable def z0l (prog:Program) (w:Z0):PySem.KeyKind prog w Key where
 is:=keyIs
 hash:=keyH w
 inj:=λ v a b ha hb=>by
  rcases z0j ha with ⟨i,t,rfl,rfl⟩|⟨x,t,rfl,rfl⟩
  ·rcases z0j hb with ⟨j,u,rfl,e⟩|⟨y,u,rfl,e⟩
   ·injection e with e1 _;rw [e1]
   ·exact nomatch e
  ·rcases z0j hb with ⟨j,u,rfl,e⟩|⟨y,u,rfl,e⟩
   ·exact nomatch e
   ·injection e with e1 _;rw [e1]
 byValue:=λ k v h=>by rcases z0j h with ⟨i,t,rfl,rfl⟩|⟨x,t,rfl,rfl⟩<;>rfl
 pyHash:=λ hv h=>by
  rcases z0j hv with ⟨i,t,rfl,rfl⟩|⟨x,t,rfl,rfl⟩
  ·exact wpAny_pyHash_int h
  ·exact wpAny_pyHash_str h
 eqBool:=λ hu hv h=>by
  rcases z0j hu with ⟨i,t,rfl,rfl⟩|⟨x,t,rfl,rfl⟩
  ·rcases z0j hv with ⟨j,u,rfl,rfl⟩|⟨y,u,rfl,rfl⟩
   ·rw [key_ll] at h;exact wpAny_eqBool_int h
   ·rw [key_lr] at h;exact A9 i t y u _ _ _ _ h
  ·rcases z0j hv with ⟨j,u,rfl,rfl⟩|⟨y,u,rfl,rfl⟩
   ·rw [key_rl] at h;exact z9 x t j u _ _ _ _ h
   ·rw [key_rr] at h;exact wpAny_eqBool_str h
 «strs»:=λ k x t v h=>by
  rcases z0j h with ⟨i,u,rfl,e⟩|⟨y,u,rfl,e⟩
  ·exact nomatch e
  ·injection e with e1 _;subst e1;cases v<;>rfl
theorem z89 (prog:Program) (w:Z0) (i:Int) (t:Tok):(z0l prog w).is (.inl i) (.int i t)=true:=zak i t
theorem z8i (prog:Program) (w:Z0) (x:Str) (t:Tok):(z0l prog w).is (.inr x) (.str x t)=true:=zbb x t
inductive V where
 | non|bl (b:Bool)|int (i:Int)|str (x:Str)|byt (b:Array UInt8)|flt (b:UInt64)|ref (a:Addr)|ty (n:String)
 deriving DecidableEq
noncomputable def RelV:V->Value->Prop
 | .non,u=>u=X6
 | .bl b,u=>u=W8 b
 | .int i,u=>∃t,u=v6 i t
 | .str x,u=>∃t,u=z8 x t
 | .byt b,u=>∃t,u=Value.bytes b t
 | .flt b,u=>∃t,u=Value.float b t
 | .ref a,u=>u=P1 a
 | .ty n,u=>u=m5 n
abbrev Vals:List V->List Value->Prop:=d8 RelV
theorem Vals.length {xs:List V} {us:List Value} (r:Vals xs us):xs.length=us.length:=m9 r
theorem Vals.get :∀{xs:List V} {us:List Value} {i:Nat} {x:V},Vals xs us->xs[i]? = some x->∃u,us[i]? = some u/\RelV x u
 | _,_,_,_,.nil,e=>by simp at e
 | _,_,0,_,.cons r _,e=>by simp at e;subst e;exact ⟨_,rfl,r⟩
 | _,_,i + 1,x,.cons _ t,e=>by obtain ⟨u,a,b⟩:=Vals.get (i:=i) (x:=x) t (by simpa using e);exact ⟨u,by simpa using a,b⟩
theorem Vals.set {x:V} {u:Value} (r:RelV x u) :∀{xs:List V} {us:List Value} (i:Nat),Vals xs us->Vals (xs.set i x) (us.set i u)
 | _,_,_,.nil=>.nil
 | _,_,0,.cons _ t=>.cons r t
 | _,_,i + 1,.cons q t=>.cons q (Vals.set r i t)
theorem Vals.append :∀{xs ys:List V} {us ws:List Value},Vals xs us->Vals ys ws->Vals (xs++ys) (us++ws)
 | _,_,_,_,.nil,s=>s
 | _,_,_,_,.cons r t,s=>.cons r (Vals.append t s)
theorem Vals.take :∀{xs:List V} {us:List Value} (n:Nat),Vals xs us->Vals (xs.take n) (us.take n)
 | _,_,0,_=>.nil
 | _,_,_ + 1,.nil=>.nil
 | _,_,n + 1,.cons r t=>.cons r (Vals.take n t)
theorem Vals.drop :∀{xs:List V} {us:List Value} (n:Nat),Vals xs us->Vals (xs.drop n) (us.drop n)
 | _,_,0,r=>r
 | _,_,_ + 1,.nil=>.nil
 | _,_,n + 1,.cons _ t=>Vals.drop n t
noncomputable def RelO:Option V->Option Value->Prop
 | some v,some u=>RelV v u
 | none,none=>True
 | _,_=>False
def KV {κ:Type}:List (κ×V)->List (κ×Value)->Prop:=d8 λ (p:κ×V) (q:κ×Value)=>p.1=q.1/\RelV p.2 q.2
noncomputable def kV:Key->V
 | .inl i=>.int i
 | .inr x=>.str x
inductive HO where
 | lst (xs:List V)
 | tup (xs:List V)
 | dK (kvs:List (Key×V))|dT (kvs:List (List Key×V))
 | set (S:Int->Bool) (n:Nat)
 | ins (C dx:Addr) (fs:List (Str×V))
 | own (x:Addr)
 | xd (fs:List (Str×V))
 | met (f x:Addr)
 | rng (lo hi:Int)
 | frz (o:Obj) (u:HO)
 | tbl (ps:Array Value)
 | ext (φ:Heap->Prop)
noncomputable abbrev Hp:=Addr->Option HO
noncomputable def upd (H:Hp) (a:Addr) (o:HO):Hp:=λ b=>if b=a then some o else H b
theorem z02 {H:Hp} {a:Addr} {o:HO}:upd H a o a=some o:=by unfold upd;rw [if_pos rfl]
theorem upd_ne {H:Hp} {a b:Addr} {o:HO} (h:b≠a):upd H a o b=H b:=by unfold upd;rw [if_neg h]
theorem ne_of {H:Hp} {a b:Addr} {o u:HO} (h:H a=some o) (h':H b=some u) (d:o≠u):a≠b:=by intro e;subst e;rw [h] at h';exact d (T0 h')
theorem z0d {H:Hp} {a b:Addr} {o:HO} (h:H a=some o) (h':H b=none):a≠b:=by intro e;subst e;rw [h] at h';cases h'
section
variable (P:Program) (w:Z0)
def IsTupN (h:Heap) (a:Addr) (items:Array Value):Prop:=IsTup h a items/\∃o,h.get? a=some o/\o.dict=none
theorem IsTupN.new (h:Heap) (items:Array Value):IsTupN (h.push { cls:=.type "tuple",data:=.seq items }) h.objs.size items:=⟨IsTup.new _ _,_,J0 _ rfl,rfl⟩
noncomputable def ObjOk (H:Hp) (h:Heap) (a:Addr):HO->Prop
 | .lst xs=>xs.length<=sizeLine/\∃(its:List Value) (n:Nat),Vals xs its/\h.get? a=some { cls:=.type "list",data:=.seq its.toArray n }
 | .tup xs=>xs.length<=sizeLine/\∃its:List Value,Vals xs its/\IsTupN h a its.toArray
 | .dK kvs=>kvs.length<=sizeLine/\(a == y4)=false/\∃vs,KV kvs vs/\h.DictOf (z0l P w) a vs
 | .dT kvs=>kvs.length<=sizeLine/\(a == y4)=false/\∃xs:List (List Key×Addr×Value),
   d8 (λ (p:List Key×V) (q:List Key×Addr×Value)=>p.1=q.1/\H q.2.1=some (.tup (p.1.map kV))/\RelV p.2 q.2.2) kvs xs/\
   ∃o es ep,h.get? a=some o/\o.ExactDict/\o.data=.dict es ep/\es.toList=xs.map (entryOfKey (m8 (z0l P w)))/\(xs.map (·.1)).Nodup
 | .set S n=>h.SetOf (C4 P w) a S n
 | .ins C dx fs=>H dx=some (.own a)/\fs.length<=1000/\dx≠a/\h.get? a=some (B8 C dx)/\
   ∃mA,h.Ns1 dx mA/\(∀f,RelO (fs.lookup f) (mA f))/\PySem.Within mA (fs.map (·.1))
 | .own _=>∃o,h.get? a=some o
 | .xd fs=>∃mA,h.Ns1 a mA/\∀f,RelO (fs.lookup f) (mA f)
 | .rng lo hi=>∃t u v,h.get? a=some { cls:=.type "range",data:=.fields #[.int lo t,.int hi u,.int 1 v] }
 | .frz o u=>h.get? a=some o/\ObjOk H h a u
 | .tbl ps=>h.get? a=some { cls:=.none,data:=.fields ps }
 | .met f x=>h.get? a=some (U7 (.ref f) (.ref x))
 | .ext φ=>φ h/\(∃o,h.get? a=some o)/\∀h1 h2:Heap,φ h1->(∀o,h1.get? a=some o->h2.get? a=some o)->φ h2
def HOk (H:Hp) (h:Heap):Prop:=∀a o,H a=some o->ObjOk P w H h a o
end
section
variable {P:Program} {w:Z0} {H H':Hp} {h h':Heap} {a:Addr} {o:HO}
theorem ObjOk.lt (x:ObjOk P w H h a o):a < h.objs.size:=by
 cases o with
 | lst xs=>obtain ⟨_,_,_,_,e⟩:=x;exact G0 e
 | tup xs=>obtain ⟨_,_,_,p⟩:=x;exact p.1.lt
 | dK kvs=>obtain ⟨_,_,_,_,o,_,_,e,_⟩:=x;exact G0 e
 | dT kvs=>obtain ⟨_,_,_,_,o,_,_,e,_⟩:=x;exact G0 e
 | set S n=>obtain ⟨o,_,_,_,e,_⟩:=x;exact G0 e
 | ins C dx fs=>obtain ⟨_,_,_,e,_⟩:=x;exact G0 e
 | own y=>obtain ⟨_,e⟩:=x;exact G0 e
 | xd fs=>obtain ⟨_,⟨_,_,_,e,_⟩,_⟩:=x;exact G0 e
 | rng lo hi=>obtain ⟨_,_,_,e⟩:=x;exact G0 e
 | frz ob u=>obtain ⟨e,_⟩:=x;exact G0 e
 | tbl ps=>exact G0 (show h.get? a=some _ from x)
 | met f y=>exact G0 (show h.get? a=some _ from x)
 | ext φ=>obtain ⟨_,⟨_,e⟩,_⟩:=x;exact G0 e
theorem Paired.mapP {α β:Type} {F G:α->β->Prop} :∀{l₁:List α} {l₂:List β},d8 F l₁ l₂->(∀a b,F a b->G a b)->d8 G l₁ l₂
 | _,_,.nil,_=>.nil
 | _,_,.cons r t,f=>.cons (f _ _ r) (Paired.mapP t f)
theorem ObjOk.stay (x:ObjOk P w H h a o) (k :∀b u,(b=a\/H b=some (.own a))->h.get? b=some u->h'.get? b=some u)
  (ho :∀b,H b=some (.own a)->H' b=some (.own a)) (ht :∀b xs,H b=some (.tup xs)->H' b=some (.tup xs)):ObjOk P w H' h' a o:=by
 induction o with
 | lst xs=>obtain ⟨z,l,n,r,e⟩:=x;exact ⟨z,l,n,r,k _ _ (.inl rfl) e⟩
 | tup xs=>obtain ⟨z,l,r,⟨g,e,c⟩,E,s,D⟩:=x;exact ⟨z,l,r,⟨g,k _ _ (.inl rfl) e,c⟩,E,k _ _ (.inl rfl) s,D⟩
 | dK kvs=>obtain ⟨z,y,B,r,g,j,i,e,c⟩:=x;exact ⟨z,y,B,r,g,j,i,k _ _ (.inl rfl) e,c⟩
 | dT kvs=>obtain ⟨z,y,xs,r,g,j,i,e,c⟩:=x;exact ⟨z,y,xs,Paired.mapP r λ p q z=>⟨z.1,ht _ _ z.2.1,z.2.2⟩,g,j,i,k _ _ (.inl rfl) e,c⟩
 | set S n=>obtain ⟨g,j,i,t,e,c⟩:=x;exact ⟨g,j,i,t,k _ _ (.inl rfl) e,c⟩
 | ins C dx fs=>obtain ⟨d,z,ne,e,A,⟨m,j,i,s,c⟩,r⟩:=x;exact ⟨ho _ d,z,ne,k _ _ (.inl rfl) e,A,⟨m,j,i,k _ _ (.inr d) s,c⟩,r⟩
 | own y=>obtain ⟨g,e⟩:=x;exact ⟨g,k _ _ (.inl rfl) e⟩
 | xd fs=>obtain ⟨A,⟨m,j,i,e,c⟩,r⟩:=x;exact ⟨A,⟨m,j,i,k _ _ (.inl rfl) e,c⟩,r⟩
 | rng lo hi=>obtain ⟨t,u,v,e⟩:=x;exact ⟨t,u,v,k _ _ (.inl rfl) e⟩
 | frz g u ih=>obtain ⟨e,q⟩:=x;exact ⟨k _ _ (.inl rfl) e,ih q⟩
 | tbl ps=>have e:h.get? a=some { cls:=.none,data:=.fields ps }:=x;show h'.get? a=some { cls:=.none,data:=.fields ps };exact k a _ (.inl rfl) e
 | met f y=>have e:h.get? a=some (U7 (.ref f) (.ref y)):=x;show h'.get? a=some (U7 (.ref f) (.ref y));exact k a _ (.inl rfl) e
 | ext φ=>obtain ⟨p,⟨o,e⟩,st⟩:=x;exact ⟨st _ _ p λ o q=>k _ _ (.inl rfl) q,⟨o,k _ _ (.inl rfl) e⟩,st⟩
theorem HOk.lt (x:HOk P w H h) (e:H a=some o):a < h.objs.size:=(x a o e).lt
theorem HOk.fresh (x:HOk P w H h) (e:h.objs.size<=a):H a=none:=by
 cases q:H a with
 | none=>rfl
 | some u=>exact absurd (X0 (x.lt q) e) (C3 _)
theorem HOk.kept (x:HOk P w H h) (k :∀b u,h.get? b=some u->h'.get? b=some u):HOk P w H h':=λ a o e=>(x a o e).stay (λ b u _ q=>k b u q) (λ _ q=>q) λ _ _ q=>q
theorem HOk.laid (x:HOk P w H h) (k :∀b u,h.get? b=some u->h'.get? b=some u) (hp:h.objs.size<=a) (new:ObjOk P w (upd H a o) h' a o):HOk P w (upd H a o) h':=λ b u e=>by
 have d:=x.fresh hp;by_cases hb:b=a
 ·subst hb;rw [z02] at e;cases e;exact new
 ·rw [upd_ne hb] at e;exact (x b u e).stay (λ c v _ q=>k c v q) (λ c q=>by rw [upd_ne (z0d q d)];exact q) λ c f q=>by rw [upd_ne (z0d q d)];exact q
end
def Rd (H:Hp) (a:Addr) (u:HO):Prop:=H a=some u\/∃o,H a=some (.frz o u)
theorem Rd.ok {P:Program} {w:Z0} {H:Hp} {h:Heap} {a:Addr} {u:HO} (r:Rd H a u) (x:HOk P w H h):ObjOk P w H h a u:=by
 rcases r with r|⟨o,r⟩
 ·exact x a u r
 ·obtain ⟨_,q⟩:=x a _ r;exact q
noncomputable def Mut:Option HO->Prop
 | some (.lst _)=>True
 | some (.dK _)=>True
 | some (.dT _)=>True
 | some (.set _ _)=>True
 | some (.ins _ _ _)=>True
 | some (.ext _)=>True
 | _=>False
section
variable {P:Program} {w:Z0} {H:Hp} {h h':Heap} {x e:Addr} {o':HO}
theorem HOk.write (ok:HOk P w H h) (mu:Mut (H x)) (he:e=x\/H e=some (.own x)) (k :∀b u,b≠e->h.get? b=some u->h'.get? b=some u) (heo :∃u,h'.get? e=some u)
  (new:ObjOk P w (upd H x o') h' x o'):HOk P w (upd H x o') h':=λ b u q=>by
 have g :∀c y,H c=some (.own y)->c≠x:=λ c y r z=>by subst z;rw [r] at mu;exact mu
 have i :∀c a,H c=some (.tup a)->c≠x:=λ c a r z=>by subst z;rw [r] at mu;exact mu
 by_cases hb:b=x
 ·subst hb;rw [z02] at q;cases q;exact new
 ·rw [upd_ne hb] at q;by_cases hbe:b=e
  ·have f:H b=some (.own x):=by
    rcases he with z|z
    ·exact absurd (hbe.trans z) hb
    ·rw [hbe];exact z
   rw [q] at f;cases f;obtain ⟨v,j⟩:=heo;exact ⟨v,by rw [hbe];exact j⟩
  ·refine (ok b u q).stay (λ c v d r=>k c v ?_ r) (λ c r=>by rw [upd_ne (g c b r)];exact r) λ c a r=>by rw [upd_ne (i c a r)];exact r
   rcases d with rfl|d
   ·exact hbe
   ·rintro rfl;rcases he with z|z
    ·exact g c b d z
    ·rw [d] at z;cases z;exact hb rfl
end
structure Un (fs ex:List Addr) (H H':Hp) (h h':Heap):Prop where
 keep :∀b o,h.get? b=some o->H b=none->b∉fs->b∉ex->h'.get? b=some o
 slot :∀b o,h.get? b=some o->H b=none->b∈fs->b∉ex->∃sl,h'.get? b=some { o with slots:=sl }
 free :∀b o,h.get? b=some o->H b=none->b∉ex->H' b=none
 there :∀b o,h.get? b=some o->b∉ex->∃o',h'.get? b=some o'
 tups :∀b xs,H b=some (.tup xs)->H' b=some (.tup xs)
 frzs :∀b o u,H b=some (.frz o u)->H' b=some (.frz o u)
 tbls :∀b ps,H b=some (.tbl ps)->∃more,H' b=some (.tbl (ps++more))
section
variable {fs fs' ex ex':List Addr} {H H1 H2:Hp} {h h1 h2 h':Heap} {a x e:Addr} {o:HO}
theorem Un.any (u:Un fs ex H H1 h h1) {b:Addr} {ob:Obj} (q:h.get? b=some ob) (n:H b=none) (hx:b∉ex) :∃sl,h1.get? b=some { ob with slots:=sl }:=by
 by_cases hb:b∈fs
 ·exact u.slot b ob q n hb hx
 ·exact ⟨ob.slots,u.keep b ob q n hb hx⟩
theorem Un.kept (k :∀b u,h.get? b=some u->h'.get? b=some u):Un fs ex H H h h':=
 ⟨λ b a q _ _ _=>k b a q,λ b a q _ _ _=>⟨a.slots,k b a q⟩,λ _ _ _ n _=>n,λ b a q _=>⟨a,k b a q⟩,λ _ _ q=>q,λ _ _ _ q=>q,λ _ c q=>⟨#[],by rw [q];simp⟩⟩
theorem Un.refl:Un fs ex H H h h:=Un.kept λ _ _ q=>q
theorem Un.laid (k :∀b u,h.get? b=some u->h'.get? b=some u) (hp:h.objs.size<=a) (hn:H a=none):Un fs ex H (upd H a o) h h' where
 keep:=λ b u q _ _ _=>k b u q
 slot:=λ b u q _ _ _=>⟨u.slots,k b u q⟩
 free:=λ b u q n _=>by rw [upd_ne (L0 (X0 (G0 q) hp))];exact n
 there:=λ b u q _=>⟨u,k b u q⟩
 tups:=λ b c q=>by rw [upd_ne (z0d q hn)];exact q
 frzs:=λ b u c q=>by rw [upd_ne (z0d q hn)];exact q
 tbls:=λ b d q=>⟨#[],by rw [upd_ne (z0d q hn),q];simp⟩
theorem Un.write (mu:Mut (H x)) (he:e=x\/H e=some (.own x)) (k :∀b u,b≠e->h.get? b=some u->h'.get? b=some u) (heo :∃u,h'.get? e=some u):Un fs ex H (upd H x o) h h':=by
 have c :∀b,H b=none->b≠x:=λ b n z=>by subst z;rw [n] at mu;exact mu
 have d :∀b,H b=none->b≠e:=λ b n z=>by
  subst z;rcases he with r|r
  ·exact c b n r
  ·rw [n] at r;cases r
 have a :∀b u,H b=some u->¬ Mut (some u)->b≠x:=λ b u q g z=>by subst z;rw [q] at mu;exact g mu
 refine ⟨λ b u q n _ _=>k b u (d b n) q,λ b u q n _ _=>⟨u.slots,k b u (d b n) q⟩,λ b u q n _=>by rw [upd_ne (c b n)];exact n,λ b u q _=>?_,
  λ b f q=>by rw [upd_ne (a b _ q λ z=>z)];exact q,λ b u f q=>by rw [upd_ne (a b _ q λ z=>z)];exact q,λ b i q=>⟨#[],by rw [upd_ne (a b _ q λ z=>z),q];simp⟩⟩
 by_cases hbe:b=e
 ·subst hbe;exact heo
 ·exact ⟨u,k b u hbe q⟩
end
noncomputable def trk (h:Heap) (H:Hp):List Addr:=(U0 h.objs.size).filter λ a=>(H a).isSome
noncomputable def hidT (h:Heap) (H:Hp):Heap:=PySem.W.hideAll h (trk h H)
theorem zay (h:Heap) (H:Hp):(hidT h H).objs.size=h.objs.size:=PySem.W.hideAll_size _ _
theorem zcm {h:Heap} {H:Hp} {b:Addr} {o:Obj} (e:h.get? b=some o) (n:H b=none):(hidT h H).get? b=some o:=
 PySem.W.hideAll_get _ e λ a=>by have q:(H b).isSome=true:=(List.mem_filter.mp a).2;rw [n] at q;simp at q
theorem zeh {h:Heap} {H:Hp} {b:Addr} {o:Obj} (e:(hidT h H).get? b=some o):h.get? b=some o/\H b=none:=by
 have a:h.get? b=some o:=PySem.W.of_hideAll (trk h H) e;refine ⟨a,?_⟩;cases q:H b with
 | none=>rfl
 | some x=>have c:b∈trk h H:=List.mem_filter.mpr ⟨List.mem_range.mpr (G0 a),by simp [q]⟩;have z:(hidT h H).get? b=none:=PySem.W.hideAll_none (trk h H) c;rw [z] at e;cases e
noncomputable def ze9 (g h:Heap) (L:Addr):List (Addr×Obj):=(U0 h.objs.size).filterMap λ a=>if a=L\/(g.get? a).isSome=true then none else (h.get? a).map λ o=>(a,o)
noncomputable def rest (g h:Heap) (L d:Addr):List (Addr×Obj):=(ze9 g h L).filter λ p=>decide (p.1≠d)
structure Mod (K:c0) (mg:Str->Option Value) (base:Heap):Prop where
 kin:K.In base
 glob:base.Ns P2 mg
 blt :∃mb,base.Ns G8 mb/\∀x:Str,x≠"__name__"->mb x=P4 x
 nolimit:base.NoLimit
structure Cx where
 prog:Program
 w:Z0
 K:c0
 mg:Str->Option Value
 base:Heap
 A:C2
 N:List Str
 s₀:u0
 H₀:Hp
 env:Env
 outer:List Env
 stack:List Env
 ex:List Addr
 fn:Str->Bool
 calm:Bool
 pn:List (Addr×Obj)
 xe:Value->u0->Prop
noncomputable def frs (l:List Env):List Addr:=l.filterMap (·.frame)
noncomputable abbrev Cx.fs (X:Cx):List Addr:=frs X.outer
def Vis (sc:Scope) (x:Str):Prop:=sc.names.lookup x=some .local\/sc.names.lookup x=some .cell\/sc.names.lookup x=some .free
def Loc (sc:Scope) (x:Str):Prop:=sc.names.lookup x=some .local\/sc.names.lookup x=some .cell
def Look (env:Env) (h:Heap) (m:Str->Option Value) (x:Str) (u:Value):Prop:=
 (env.kindOf x=some .local/\m x=some u)\/((env.kindOf x=some .cell\/env.kindOf x=some .free)/\∃c,env.cells.lookup x=some c/\h.IsCell c (some u))
structure Cx.Ok (X:Cx):Prop where
 mod:Mod X.K X.mg X.base
 kind:X.env.scope.kind=.function
 glob:X.env.globals=P2
 blt:X.env.builtins=G8
 above:X.s₀.heap.objs.size<=X.env.locals
 inj :∀x y c,X.env.cells.lookup x=some c->X.env.cells.lookup y=some c->x=y
 has :∀x,(X.env.kindOf x=some .cell\/X.env.kindOf x=some .free)->∃c,X.env.cells.lookup x=some c
 cab :∀x c,X.fn x=true->X.env.cells.lookup x=some c->X.s₀.heap.objs.size<=c
 hd:X.calm=true->X.A.handled=none
 frames:X.A.frames=some X.stack
 stk:X.stack=X.outer\/(X.stack=X.env :: X.outer/\X.env.frame=some X.env.locals)
 exf :∀b∈X.ex,b≠X.env.locals/\∀x c,X.env.cells.lookup x=some c->c≠b
 bs :∀b o,X.base.get? b=some o->X.s₀.heap.get? b=some o/\X.H₀ b=none
 bsz:X.base.objs.size<=X.s₀.heap.objs.size
 noex :∀b o,X.base.get? b=some o->b∉X.ex
 exfs :∀b∈X.ex,b∉X.fs
 funs:X.s₀.heap.FunFrames X.base X.outer
 frf :∀b∈X.fs,X.H₀ b=none
structure Inv (X:Cx) (pins:List (Addr×Obj)) (σ:List (Option V)) (H:Hp) (s:u0):Prop where
 ok:X.Ok
 os:s.os=X.s₀.os
 bare:j7 s.gens
 base:Un X.fs X.ex X.H₀ H X.s₀.heap s.heap
 loc :∃m,s.heap.Ns X.env.locals m/\∀(i:Nat) (x:Str) (v:V),X.N[i]? = some x->σ[i]? = some (some v)->Vis X.env.scope x->∃u,RelV v u/\Look X.env s.heap m x u
 cell :∀x c,X.env.cells.lookup x=some c->∃v,s.heap.IsCell c v
 free:H X.env.locals=none
 freeC :∀x c,X.env.cells.lookup x=some c->H c=none
 pin :∀p∈X.pn++pins,s.heap.get? p.1=some p.2/\H p.1=none/\p.1≠X.env.locals/\p.1∉X.fs/\∀v,p.2.data≠.cell v
 hok:HOk X.prog X.w H s.heap
 len:σ.length=X.N.length
section
variable {X:Cx} {pins:List (Addr×Obj)} {σ:List (Option V)} {H H':Hp} {s:u0} {h':Heap}
theorem Cx.Ok.nofr (ok:X.Ok) {b:Addr} {o:Obj} (e:X.base.get? b=some o):b∉X.fs:=λ a=>by have:=(ok.funs.mem a).1;rw [e] at this;cases this
theorem Inv.bs (I:Inv X pins σ H s) :∀b o,X.base.get? b=some o->s.heap.get? b=some o/\H b=none:=λ b o e=>⟨I.base.keep b o (I.ok.bs b o e).1 (I.ok.bs b o e).2 (I.ok.nofr e) (I.ok.noex b o e),I.base.free b o (I.ok.bs b o e).1 (I.ok.bs b o e).2 (I.ok.noex b o e)⟩
theorem Inv.bk (I:Inv X pins σ H s) :∀b o,X.base.get? b=some o->s.heap.get? b=some o:=λ b o e=>(I.bs b o e).1
theorem Inv.mod (I:Inv X pins σ H s):Mod X.K X.mg X.base:=I.ok.mod
theorem Inv.kIn (I:Inv X pins σ H s):X.K.In s.heap:=I.ok.mod.kin.keeps I.bk
theorem Inv.lt (I:Inv X pins σ H s):X.env.locals < s.heap.objs.size:=let ⟨_,hn,_⟩:=I.loc;hn.lt
theorem Inv.sz (I:Inv X pins σ H s):X.s₀.heap.objs.size<=s.heap.objs.size:=D0 I.ok.above (U3 I.lt)
theorem Inv.nofs (I:Inv X pins σ H s) {a:Addr} (h:s.heap.objs.size<=a):a∉X.fs:=λ c=>by obtain ⟨_,o,b,_⟩:=I.ok.funs.mem c;exact absurd (X0 (G0 b) (D0 I.sz h)) (C3 _)
theorem Inv.cne (I:Inv X pins σ H s) :∀x c,X.env.cells.lookup x=some c->c≠X.env.locals:=λ x c e z=>by obtain ⟨v,o,a,hd⟩:=I.cell x c e;obtain ⟨m,⟨f,h,g,b,d,_⟩,_⟩:=I.loc;rw [z,b] at a;cases a;rw [d] at hd;cases hd
theorem Inv.funs (I:Inv X pins σ H s):s.heap.FunFrames X.base X.outer:=by
 have all :∀(l:List Env),(∀b∈frs l,b∈X.fs)->X.s₀.heap.FunFrames X.base l->s.heap.FunFrames X.base l:=by
  intro l;induction l with
  | nil=>intro _ _;trivial
  | cons env r ih=>intro f i;obtain ⟨j,⟨L,o,c,g,k,hd⟩,h⟩:=i;have d:L∈X.fs:=f L (by unfold frs;rw [T7,c];exact d3);obtain ⟨m,e⟩:=I.base.slot L o k (I.ok.frf L d) d λ z=>I.ok.exfs L z d;exact ⟨j,⟨L,_,c,g,e,hd⟩,ih (λ b a=>f b (by unfold frs;rw [T7,c];exact T2 _ a)) h⟩
 exact all X.outer (λ _ a=>a) I.ok.funs
theorem Inv.stack (I:Inv X pins σ H s):s.heap.FunFrames X.base X.stack:=by
 rcases I.ok.stk with e|⟨e,hf⟩
 ·rw [e];exact I.funs
 ·rw [e];obtain ⟨m,a,_⟩:=I.loc;refine .cons (by rw [I.ok.kind];decide) hf a ?_ I.funs;exact Heap.get?_none_of_le (D0 I.ok.bsz I.ok.above)
theorem Inv.stkSub (I:Inv X pins σ H s) :∀b∈frs X.stack,b∈X.env.locals :: X.fs:=λ b a=>by
 rcases I.ok.stk with e|⟨e,hf⟩
 ·rw [e] at a;exact T2 _ a
 ·rw [e] at a;unfold frs at a;rw [T7,hf] at a;exact a
theorem Inv.stkFree (I:Inv X pins σ H s) :∀b∈frs X.stack,H b=none:=λ b a=>by
 rcases List.mem_cons.mp (I.stkSub b a) with e|a
 ·rw [e];exact I.free
 ·obtain ⟨_,o,c,_⟩:=I.ok.funs.mem a;exact I.base.free b o c (I.ok.frf b a) λ z=>I.ok.exfs b z a
theorem Inv.step {g':Array GenState} {t':Nat} {d':Drawn} {ch:List Addr} (I:Inv X pins σ H s)
  (hch :∀b∈ch,(b∈X.ex\/X.s₀.heap.objs.size<=b)/\b≠X.env.locals/\(∀x c,X.env.cells.lookup x=some c->c≠b)/\∀p∈X.pn++pins,p.1≠b)
  (keep :∀b o,b≠X.env.locals->b∉X.fs->b∉ch->s.heap.get? b=some o->H b=none->h'.get? b=some o)
  (slot :∀b o,b≠X.env.locals->b∈X.fs->b∉ch->s.heap.get? b=some o->H b=none->∃sl,h'.get? b=some { o with slots:=sl }) (free :∀b o,b∉ch->s.heap.get? b=some o->H b=none->H' b=none)
  (there :∀b o,b∉ch->s.heap.get? b=some o->∃o',h'.get? b=some o')
  (tups :∀b xs,H b=some (.tup xs)->H' b=some (.tup xs)) (frzs :∀b o u,H b=some (.frz o u)->H' b=some (.frz o u)) (tbls :∀b ps,H b=some (.tbl ps)->∃more,H' b=some (.tbl (ps++more)))
  (ns :∀m,s.heap.Ns X.env.locals m->h'.Ns X.env.locals m) (hok:HOk X.prog X.w H' h') (hg:j7 g') :
  Inv X pins σ H' { s with heap:=h',gens:=g',drawn:=d',toks:=t' }:=by
 have D :∀b o,X.s₀.heap.get? b=some o->b≠X.env.locals:=λ b o e=>L0 (X0 (G0 e) I.ok.above);have y :∀b o,X.s₀.heap.get? b=some o->b∉X.ex->b∉ch:=λ b o e a g=>by
  rcases (hch b g).1 with z|z
  ·exact a z
  ·exact absurd (X0 (G0 e) z) (C3 _)
 have B :∀x c,X.env.cells.lookup x=some c->∀v,s.heap.IsCell c v->h'.IsCell c v:=λ x c e v ⟨o,h,hd⟩=>by
  have j:c∉ch:=λ z=>(hch c z).2.2.1 x c e rfl;by_cases hc:c∈X.fs
  ·obtain ⟨sl,q⟩:=slot c o (I.cne x c e) hc j h (I.freeC x c e);exact ⟨_,q,hd⟩
  ·exact ⟨o,keep c o (I.cne x c e) hc j h (I.freeC x c e),hd⟩
 refine ⟨I.ok,I.os,hg,⟨λ b o e n g a=>?_,λ b o e n g a=>?_,λ b o e n a=>?_,λ b o e a=>?_,λ b xs e=>tups b xs (I.base.tups b xs e),λ b o xs e=>frzs b o xs (I.base.frzs b o xs e),λ b ps e=>?_⟩,?_,λ x c e=>?_,?_,λ x c e=>?_,λ p A=>?_,hok,I.len⟩
 ·exact keep b o (D b o e) g (y b o e a) (I.base.keep b o e n g a) (I.base.free b o e n a)
 ·obtain ⟨sl,f⟩:=I.base.slot b o e n g a;obtain ⟨J,t⟩:=slot b _ (D b o e) g (y b o e a) f (I.base.free b o e n a);exact ⟨J,t⟩
 ·obtain ⟨o',f⟩:=I.base.there b o e a;exact free b o' (y b o e a) f (I.base.free b o e n a)
 ·obtain ⟨o',f⟩:=I.base.there b o e a;exact there b o' (y b o e a) f
 ·obtain ⟨K,f⟩:=I.base.tbls b ps e;obtain ⟨E,t⟩:=tbls b _ f;exact ⟨K++E,by rw [t,Array.append_assoc]⟩
 ·obtain ⟨m,L,G⟩:=I.loc;refine ⟨m,ns m L,λ i x v f t F=>?_⟩;obtain ⟨u,r,l⟩:=G i x v f t F;refine ⟨u,r,?_⟩;rcases l with l|⟨k,c,e,z⟩
  ·exact .inl l
  ·exact .inr ⟨k,c,e,B x c e _ z⟩
 ·obtain ⟨v,z⟩:=I.cell x c e;exact ⟨v,B x c e v z⟩
 ·obtain ⟨m,⟨o,_,_,h,_⟩,_⟩:=I.loc;exact free _ o (λ z=>(hch _ z).2.1 rfl) h I.free
 ·obtain ⟨v,o,h,hd⟩:=I.cell x c e;exact free c o (λ z=>(hch c z).2.2.1 x c e rfl) h (I.freeC x c e)
 ·obtain ⟨e,n,ne,C,d⟩:=I.pin p A;have j:p.1∉ch:=λ z=>(hch p.1 z).2.2.2 p A rfl;exact ⟨keep p.1 p.2 ne C j e n,free p.1 p.2 j e n,ne,C,d⟩
theorem Inv.un {t':Nat} (I:Inv X pins σ H s) (u:Un X.fs [] H H' s.heap h') (hok:HOk X.prog X.w H' h'):Inv X pins σ H' { s with heap:=h',toks:=t' }:=by obtain ⟨m,⟨o,t,l,d,r⟩,_⟩:=id I.loc;obtain ⟨q,f⟩:=u.any d I.free (by simp);exact I.step (g':=s.gens) (d':=s.drawn) (ch:=[]) (λ _ z=>nomatch z) (λ b o _ a _ e n=>u.keep b o e n a (by simp)) (λ b o _ a _ e n=>u.slot b o e n a (by simp)) (λ b o _ e n=>u.free b o e n (by simp)) (λ b o _ e=>u.there b o e (by simp)) u.tups u.frzs u.tbls (λ p h=>by obtain ⟨k,g,i,c,j⟩:=h;rw [d] at c;cases c;exact ⟨_,g,i,f,j⟩) hok I.bare
theorem Inv.call {g':Array GenState} {t':Nat} {d':Drawn} {ch:List Addr} (I:Inv X pins σ H s) (u:Un (frs X.stack) ch H H' s.heap h') (hok:HOk X.prog X.w H' h') (hg:j7 g')
  (hch :∀b∈ch,(b∈X.ex\/X.s₀.heap.objs.size<=b)/\b≠X.env.locals/\(∀x c,X.env.cells.lookup x=some c->c≠b)/\∀p∈X.pn++pins,p.1≠b) :
  Inv X pins σ H' { s with heap:=h',gens:=g',drawn:=d',toks:=t' }:=by
 obtain ⟨m,⟨o,A,t,g,r⟩,_⟩:=id I.loc;obtain ⟨y,d⟩:=u.any g I.free λ z=>(hch _ z).2.1 rfl;exact I.step (ch:=ch) hch (λ b o d l a e n=>u.keep b o e n (λ z=>(List.mem_cons.mp (I.stkSub b z)).elim d l) a) (λ b o _ _ a e n=>u.any e n a) (λ b o a e n=>u.free b o e n a) (λ b o a e=>u.there b o e a) u.tups u.frzs u.tbls (λ v i=>by obtain ⟨q,h,j,f,k⟩:=i;rw [g] at f;cases f;exact ⟨_,h,j,d,k⟩) hok hg
theorem Inv.turned {t':Nat} {it:Addr} (I:Inv X pins σ H s) (k :∀b o,b≠it->s.heap.get? b=some o->h'.get? b=some o) (hn:H it=none) (hL:it≠X.env.locals)
  (h1:it∈X.ex\/X.s₀.heap.objs.size<=it) (h2 :∀x c,X.env.cells.lookup x=some c->c≠it) (h3 :∀p∈X.pn++pins,p.1≠it):Inv X pins σ H { s with heap:=h',toks:=t' }:=by
 have d :∀b u,H b=some u->b≠it:=λ b u e z=>by rw [z,hn] at e;cases e
 refine I.step (g':=s.gens) (d':=s.drawn) (ch:=[it]) (λ b j=>?_) (λ b o _ _ a e _=>k b o (λ z=>a (by simp [z])) e) (λ b o _ _ a e _=>⟨o.slots,k b o (λ z=>a (by simp [z])) e⟩) (λ _ _ _ _ n=>n)
  (λ b o a e=>⟨o,k b o (λ z=>a (by simp [z])) e⟩) (λ _ _ e=>e) (λ _ _ _ e=>e) (λ b l e=>⟨#[],by rw [e];simp⟩) (λ m g=>?_) (λ b u e=>?_) I.bare
 ·have e:b=it:=by simpa using j
  subst e;exact ⟨h1,hL,h2,h3⟩
 ·obtain ⟨o,i,h,f,r⟩:=g;exact ⟨o,i,h,k _ o (J4 hL) f,r⟩
 ·refine (I.hok b u e).stay (λ c v a q=>k c v ?_ q) (λ _ q=>q) λ _ _ q=>q;rcases a with z|z
  ·rw [z];exact d b u e
  ·exact d c _ z
theorem Inv.tok (I:Inv X pins σ H s) (t:Nat):Inv X pins σ H { s with toks:=t }:=I.un (h':=s.heap) (t':=t) Un.refl I.hok
theorem Inv.kept {t':Nat} (I:Inv X pins σ H s) (k :∀b u,s.heap.get? b=some u->h'.get? b=some u):Inv X pins σ H { s with heap:=h',toks:=t' }:=I.un (Un.kept k) (I.hok.kept k)
theorem Inv.laid {a:Addr} {o:HO} {t':Nat} (I:Inv X pins σ H s) (k :∀b u,s.heap.get? b=some u->h'.get? b=some u) (hp:s.heap.objs.size<=a) (new:ObjOk X.prog X.w (upd H a o) h' a o) :
  Inv X pins σ (upd H a o) { s with heap:=h',toks:=t' }:=I.un (Un.laid k hp (I.hok.fresh hp)) (I.hok.laid k hp new)
theorem Inv.write {x e:Addr} {o:HO} {t':Nat} (I:Inv X pins σ H s) (mu:Mut (H x)) (he:e=x\/H e=some (.own x)) (k :∀b u,b≠e->s.heap.get? b=some u->h'.get? b=some u) (heo :∃u,h'.get? e=some u)
  (new:ObjOk X.prog X.w (upd H x o) h' x o):Inv X pins σ (upd H x o) { s with heap:=h',toks:=t' }:=I.un (Un.write mu he k heo) (I.hok.write mu he k heo new)
theorem Inv.weak {σ':List (Option V)} (I:Inv X pins σ H s) (hl:σ'.length=σ.length) (w :∀(i:Nat) v,σ'[i]? = some (some v)->σ[i]? = some (some v)):Inv X pins σ' H s:=
 ⟨I.ok,I.os,I.bare,I.base,let ⟨m,hn,hl'⟩:=I.loc;⟨m,hn,λ i x v c a b=>hl' i x v c (w i v a) b⟩,I.cell,I.free,I.freeC,I.pin,I.hok,hl.trans I.len⟩
theorem Inv.pins_of {pins':List (Addr×Obj)} (I:Inv X pins σ H s) (h :∀p∈pins',s.heap.get? p.1=some p.2/\H p.1=none/\p.1≠X.env.locals/\p.1∉X.fs/\∀v,p.2.data≠.cell v):Inv X pins' σ H s:=
 ⟨I.ok,I.os,I.bare,I.base,I.loc,I.cell,I.free,I.freeC,λ p a=>(List.mem_append.mp a).elim (λ z=>I.pin p (Z5 _ z)) (h p),I.hok,I.len⟩
theorem z9g {N:List Str} (hN:N.Nodup) {i j:Nat} {x:Str} (a:N[i]? = some x) (b:N[j]? = some x):i=j:=by obtain ⟨e,d⟩:=List.getElem?_eq_some_iff.mp a;obtain ⟨f,c⟩:=List.getElem?_eq_some_iff.mp b;exact (List.getElem_inj hN).mp (d.trans c.symm)
theorem zbe {M:Model} {A:C2} {E:Value->u0->Prop} {i:Nat} {x:Str} {v:V} {u:Value} {Q:Unit->u0->Prop} (I:Inv X pins σ H s) (hN:X.N.Nodup) (hi:X.N[i]? = some x) (hx:Loc X.env.scope x) (r:RelV v u)
  (h :∀s',Inv X pins (σ.set i (some v)) H s'->(∃a,F5 a s.heap s'.heap/\(a=X.env.locals\/X.env.cells.lookup x=some a))->Q () s') (hf:X.fn x=true\/X.env.scope.names.lookup x=some .local:=by first|exact .inl rfl|exact .inr rfl|assumption):N0 M A (storeName X.env x u) Q E s:=by
 obtain ⟨m,R,hl⟩:=id I.loc;have a4:(X.env.scope.kind == .class || (X.env.scope.kind == .module && X.env.locals != X.env.globals))=false:=by rw [I.ok.kind];rfl
 have Z:i < σ.length:=by rw [I.len];exact (List.getElem?_eq_some_iff.mp hi).1
 have cne:=I.cne;have a0 :∀{a:Addr} {C:Heap},(∃o,s.heap.get? a=some o/\H a=none)->F5 a s.heap C->HOk X.prog X.w H C:=λ {a C} ha f b ob e=>by
  obtain ⟨_,_,Y⟩:=ha;refine (I.hok b ob e).stay (λ c F l q=>(f.2 c ?_).trans q) (λ _ q=>q) λ _ _ q=>q;rintro rfl;rcases l with rfl|l
  ·rw [Y] at e;cases e
  ·rw [Y] at l;cases l
 rcases hx with hk|hk
 ·refine wpAny_storeName_local hk R (λ C a5 f=>?_) a4;obtain ⟨oL,_,_,a3,_⟩:=id R;refine h _ ⟨I.ok,I.os,I.bare,⟨λ b o e n B hx=>?_,λ b o e n B hx=>?_,I.base.free,λ b o e hx=>?_,I.base.tups,I.base.frzs,I.base.tbls⟩,⟨_,a5,λ j y U g t K=>?_⟩,λ y c e=>?_,I.free,I.freeC,λ p G=>?_,a0 ⟨oL,a3,I.free⟩ f,by simpa using I.len⟩ ⟨_,f,.inl rfl⟩
  ·exact (f.2 b (L0 (X0 (G0 e) I.ok.above))).trans (I.base.keep b o e n B hx)
  ·obtain ⟨L,g⟩:=I.base.slot b o e n B hx;exact ⟨L,(f.2 b (L0 (X0 (G0 e) I.ok.above))).trans g⟩
  ·obtain ⟨J,g⟩:=I.base.there b o e hx;exact ⟨J,(f.2 b (L0 (X0 (G0 e) I.ok.above))).trans g⟩
  ·by_cases hj:j=i
   ·subst hj;rw [hi] at g;cases g;rw [O9 Z] at t;cases t;exact ⟨u,r,.inl ⟨hk,by simp⟩⟩
   ·rw [j07 (J4 hj)] at t;obtain ⟨S,O,q⟩:=hl j y U g t K;refine ⟨S,O,?_⟩;rcases q with ⟨k,e⟩|⟨k,c,e,z⟩
    ·refine .inl ⟨k,?_⟩;have:y≠x:=λ e=>hj (z9g hN g (e ▸ hi));simp [this,e]
    ·exact .inr ⟨k,c,e,z.sameBut f (cne y c e)⟩
  ·obtain ⟨F,z⟩:=I.cell y c e;exact ⟨F,z.sameBut f (cne y c e)⟩
  ·obtain ⟨e,n,ne,P,d⟩:=I.pin p G;exact ⟨(f.2 p.1 ne).trans e,n,ne,P,d⟩
 ·have T:X.fn x=true:=by
   rcases hf with z|z
   ·exact z
   ·rw [z] at hk;cases hk
  obtain ⟨c,l⟩:=I.ok.has x (.inl hk);obtain ⟨F,z⟩:=I.cell x c l;refine wpAny_storeName_cell I.ok.kind hk l z (λ C a1 f=>?_);obtain ⟨oc,W,a2⟩:=id z;refine h { s with heap:=C } ⟨I.ok,I.os,I.bare,⟨λ b o e n B hx=>?_,λ b o e n B hx=>?_,I.base.free,λ b o e hx=>?_,I.base.tups,I.base.frzs,I.base.tbls⟩,⟨m,R.sameBut f (J4 (cne x c l)),λ j y U g t K=>?_⟩,λ y D e=>?_,I.free,I.freeC,λ p G=>?_,a0 ⟨oc,W,I.freeC x c l⟩ f,by simpa using I.len⟩ ⟨c,f,.inr l⟩
  ·exact (f.2 b (L0 (X0 (G0 e) (I.ok.cab x c T l)))).trans (I.base.keep b o e n B hx)
  ·obtain ⟨L,g⟩:=I.base.slot b o e n B hx;exact ⟨L,(f.2 b (L0 (X0 (G0 e) (I.ok.cab x c T l)))).trans g⟩
  ·obtain ⟨J,g⟩:=I.base.there b o e hx;exact ⟨J,(f.2 b (L0 (X0 (G0 e) (I.ok.cab x c T l)))).trans g⟩
  ·by_cases hj:j=i
   ·subst hj;rw [hi] at g;cases g;rw [O9 Z] at t;cases t;exact ⟨u,r,.inr ⟨.inl hk,c,l,a1⟩⟩
   ·rw [j07 (J4 hj)] at t;obtain ⟨S,O,q⟩:=hl j y U g t K;refine ⟨S,O,?_⟩;rcases q with q|⟨k,D,e,z'⟩
    ·exact .inl q
    ·refine .inr ⟨k,D,e,z'.sameBut f ?_⟩;rintro rfl;exact hj (z9g hN g (I.ok.inj _ _ _ e l ▸ hi))
  ·by_cases hcc:D=c
   ·subst hcc;exact ⟨_,a1⟩
   ·obtain ⟨w2,z2⟩:=I.cell y D e;exact ⟨w2,z2.sameBut f hcc⟩
  ·obtain ⟨e,n,ne,P,d⟩:=I.pin p G;refine ⟨(f.2 p.1 ?_).trans e,n,ne,P,d⟩;intro q;rw [q,W] at e;have q':oc=p.2:=T0 e;exact d F (by rw [<-q'];exact a2)
theorem z9c {M:Model} {A:C2} {E:Value->u0->Prop} {i:Nat} {x:Str} {v:V} {u:Value} {Q:Unit->u0->Prop} (I:Inv X pins σ H s) (hN:X.N.Nodup) (hi:X.N[i]? = some x) (hx:Loc X.env.scope x) (r:RelV v u)
  (h :∀s',Inv X pins (σ.set i (some v)) H s'->Q () s') (hf:X.fn x=true\/X.env.scope.names.lookup x=some .local:=by first|exact .inl rfl|exact .inr rfl|assumption):N0 M A (storeName X.env x u) Q E s:=
 zbe I hN hi hx r (λ s' a _=>h s' a) hf
theorem Inv.call' {s':u0} {ch:List Addr} (I:Inv X pins σ H s) (ho:s'.os=s.os) (u:Un (frs X.stack) ch H H' s.heap s'.heap) (hok:HOk X.prog X.w H' s'.heap) (hg:j7 s'.gens)
  (hch :∀b∈ch,(b∈X.ex\/X.s₀.heap.objs.size<=b)/\b≠X.env.locals/\(∀x c,X.env.cells.lookup x=some c->c≠b)/\∀p∈X.pn++pins,p.1≠b):Inv X pins σ H' s':=by
 obtain ⟨d,g',d',t',a⟩:=s';have e:a=s.os:=ho;subst e;exact I.call (g':=g') (t':=t') (d':=d') u hok hg hch
end
noncomputable abbrev XK:=Value->Option Addr->Hp->Prop
noncomputable abbrev St:=List (Option V)
noncomputable abbrev VK:=V->Hp->Prop
noncomputable abbrev TE:=St->Hp->VK->Prop
noncomputable abbrev TT:=St->Hp->(Bool->Hp->Prop)->Prop
noncomputable abbrev TA:=St->Hp->(List V->Hp->Prop)->Prop
structure Ends where
 nx:St->Hp->Prop
 rt:VK
 bk:St->Hp->Prop:=λ _ _=>False
 ct:St->Hp->Prop:=λ _ _=>False
noncomputable abbrev TS:=Ends->St->Hp->Prop
def EP (X:Cx) (pins:List (Addr×Obj)) (σ:St) (Q:VK) (u:Value) (s':u0):Prop:=∃v H',Inv X pins σ H' s'/\RelV v u/\Q v H'
def TP (X:Cx) (pins:List (Addr×Obj)) (σ:St) (Q:Bool->Hp->Prop) (b:Bool) (s':u0):Prop:=∃H',Inv X pins σ H' s'/\Q b H'
def AP (X:Cx) (pins:List (Addr×Obj)) (σ:St) (Q:List V->Hp->Prop) (us:List Value) (s':u0):Prop:=∃vs H',Inv X pins σ H' s'/\Vals vs us/\Q vs H'
def SP (X:Cx) (pins:List (Addr×Obj)) (D:Ends) (f:Flow) (s':u0):Prop:=
 match f with
 | .next=>∃σ' H',Inv X pins σ' H' s'/\D.nx σ' H'
 | .brk=>∃σ' H',Inv X pins σ' H' s'/\D.bk σ' H'
 | .cont=>∃σ' H',Inv X pins σ' H' s'/\D.ct σ' H'
 | .ret u=>∃v σ' H',Inv X pins σ' H' s'/\RelV v u/\D.rt v H'
def PE (X:Cx) (e:Expr) (t:TE):Prop:=
 ∀(pins:List (Addr×Obj)) (s:u0) (σ:St) (H:Hp) (Q:VK),Inv X pins σ H s->t σ H Q->N0 (B1 X.prog X.w) X.A (W3 e X.env) (EP X pins σ Q) X.xe s
def PT (X:Cx) (e:Expr) (t:TT):Prop:=
 ∀(pins:List (Addr×Obj)) (s:u0) (σ:St) (H:Hp) (Q:Bool->Hp->Prop),Inv X pins σ H s->t σ H Q->N0 (B1 X.prog X.w) X.A (isTrue e X.env (W3 e X.env)) (TP X pins σ Q) X.xe s
def PW (X:Cx) (e:Expr) (t:TT):Prop:=
 ∀(whole:Sem Value) (pins:List (Addr×Obj)) (s:u0) (σ:St) (H:Hp) (Q:Bool->Hp->Prop),Inv X pins σ H s->t σ H Q->N0 (B1 X.prog X.w) X.A (isTrue e X.env whole) (TP X pins σ Q) X.xe s
theorem PW.pt {X:Cx} {e:Expr} {t:TT} (h:PW X e t):PT X e t:=h _
def PA (X:Cx) (es:List Expr) (t:TA):Prop:=
 ∀(pos:Pos) (pins:List (Addr×Obj)) (s:u0) (σ:St) (H:Hp) (Q:List V->Hp->Prop),Inv X pins σ H s->t σ H Q->N0 (B1 X.prog X.w) X.A (M9 (q5 pos (U1 es X.env))) (AP X pins σ Q) X.xe s
def PS (X:Cx) (st:Stmt) (t:TS):Prop:=
 ∀(pins:List (Addr×Obj)) (s:u0) (σ:St) (H:Hp) (D:Ends),Inv X pins σ H s->t D σ H->N0 (B1 X.prog X.w) X.A (exec st X.env) (SP X pins D) X.xe s
def PSs (X:Cx) (st:List Stmt) (t:TS):Prop:=
 ∀(pins:List (Addr×Obj)) (s:u0) (σ:St) (H:Hp) (D:Ends),Inv X pins σ H s->t D σ H->N0 (B1 X.prog X.w) X.A (execs st X.env) (SP X pins D) X.xe s
theorem thn {α:Type} {t:Sem α} {Q Q':α->u0->Prop} {M:Model} {A:C2} {E:Value->u0->Prop} {s:u0} (h:N0 M A t Q E s) (hQ :∀a s,Q a s->Q' a s):N0 M A t Q' E s:=K3 h hQ λ _ _ x=>x
section
variable {X:Cx}
noncomputable def tVar (i:Nat):TE:=λ σ H Q=>∃v,σ[i]? = some (some v)/\Q v H
noncomputable def tC (v:V):TE:=λ _ H Q=>Q v H
theorem pe_var {i:Nat} {x:Str} {pos:Pos} (hN:X.N[i]? = some x) (hv:Vis X.env.scope x) (hd:(x == ("__debug__" : Str))=false:=by decide) (hcd:(x == ("__classdict__" : Str))=false:=by decide):PE X (.Name x pos) (tVar i):=by
 intro f s σ H Q I h;obtain ⟨v,e,h⟩:=h;obtain ⟨m,b,g⟩:=I.loc;obtain ⟨u,r,l⟩:=g i x v hN e hv;have fin:EP X f σ Q u s:=⟨v,H,I,r,h⟩
 rcases l with ⟨a,d⟩|⟨a,c,hc,hcell⟩
 ·exact wpAny_Name (wpAny_loadName_local I.ok.kind a b d fin) hd
 ·rcases a with a|a
  ·exact wpAny_Name (wpAny_loadName_cell I.ok.kind a hc hcell fin) hd
  ·exact wpAny_Name (wpAny_loadName_free I.ok.kind a hc hcell fin hcd) hd
theorem pe_int {i j pos}:PE X (.Constant (.int i) j pos) (tC (.int i)):=λ _ _ _ H _ I h=>wpAny_Constant_int ⟨.int i,H,I.tok _,⟨_,rfl⟩,h⟩
theorem pe_bl {b j pos}:PE X (.Constant (.bool b) j pos) (tC (.bl b)):=λ _ _ _ H _ I h=>Constant_bool ⟨.bl b,H,I,rfl,h⟩
theorem pe_non {j pos}:PE X (.Constant .none j pos) (tC .non):=λ _ _ _ H _ I h=>Constant_none ⟨.non,H,I,rfl,h⟩
theorem pe_str {x j pos}:PE X (.Constant (.str x) j pos) (tC (.str x)):=λ _ _ _ H _ I h=>Calls.Constant_str ⟨.str x,H,I.tok _,⟨_,rfl⟩,h⟩
def Gl (X:Cx) (x:Str):Prop:=X.env.kindOf x=some .globalImplicit
theorem zc5 {E:Value->u0->Prop} {pins:List (Addr×Obj)} {s:u0} {σ:St} {H:Hp} {x:Str} {u:Value} {pos:Pos} {Q:Value->u0->Prop} (I:Inv X pins σ H s) (hg:Gl X x) (hm:X.mg x=some u) (h:Q u s)
  (hd:(x == ("__debug__" : Str))=false:=by decide):N0 (B1 X.prog X.w) X.A (W3 (.Name x pos) X.env) Q E s:=
 b9 I.ok.kind hg (Calls.loadGlobal_global (by rw [I.ok.glob];exact I.mod.glob.keeps I.bk) hm h) hd
theorem ld_blt {E:Value->u0->Prop} {pins:List (Addr×Obj)} {s:u0} {σ:St} {H:Hp} {x:Str} {u:Value} {pos:Pos} {Q:Value->u0->Prop} (I:Inv X pins σ H s) (hg:Gl X x) (hm:X.mg x=none) (hv:P4 x=some u) (h:Q u s)
  (hn:x≠"__name__":=by decide) (hd:(x == ("__debug__" : Str))=false:=by decide):N0 (B1 X.prog X.w) X.A (W3 (.Name x pos) X.env) Q E s:=by
 obtain ⟨c,a,b⟩:=I.mod.blt;exact b9 I.ok.kind hg (Calls.loadGlobal_builtin (by rw [I.ok.glob];exact I.mod.glob.keeps I.bk) hm (by rw [I.ok.blt];exact a.keeps I.bk) ((b x hn).trans hv) h) hd
theorem zda {x:Str} {v:V} {u:Value} {pos:Pos} (hg:Gl X x) (hm:X.mg x=some u) (r:RelV v u) (hd:(x == ("__debug__" : Str))=false:=by decide):PE X (.Name x pos) (tC v):=
 λ _ _ _ H _ I h=>zc5 I hg hm ⟨v,H,I,r,h⟩ hd
theorem z97 {x:Str} {v:V} {u:Value} {pos:Pos} (hg:Gl X x) (hm:X.mg x=none) (hv:P4 x=some u) (r:RelV v u) (hn:x≠"__name__":=by decide) (hd:(x == ("__debug__" : Str))=false:=by decide):PE X (.Name x pos) (tC v):=
 λ _ _ _ H _ I h=>ld_blt I hg hm hv ⟨v,H,I,r,h⟩ hn hd
variable {a b:Expr} {ta tb:TE} {pos:Pos}
def PC (X:Cx) (op:CmpOp) (a b:Expr) (t:TE):Prop:=
 ∀(pins:List (Addr×Obj)) (s:u0) (σ:St) (H:Hp) (Q:VK),Inv X pins σ H s->t σ H Q->
  N0 (B1 X.prog X.w) X.A (W3 a X.env) (λ v s₁=>N0 (B1 X.prog X.w) X.A (W3 b X.env) (λ u s₂=>N0 (B1 X.prog X.w) X.A (V2 op v u) (EP X pins σ Q) X.xe s₂) X.xe s₁) X.xe s
noncomputable def tB (t:TE):TT:=λ σ H Q=>t σ H λ x H1=>∃c,x=.bl c/\Q c H1
theorem pt_cmp {op:CmpOp} {t:TE} (h:PC X op a b t) (h1:o7 op b=false:=by first|exact nobehind _ (by decide) (by decide)|rfl):PT X (.Compare a [op] [b] pos) (tB t):=by intro f s σ H Q I e;refine wpAny_isTrue_Compare1 (thn (h f s σ H _ I e) λ v k h1=>thn h1 λ u i g=>thn g λ c j ⟨x,H1,I1,r1,q1⟩=>?_) h1;obtain ⟨d,rfl,q⟩:=q1;cases r1;exact F3 ⟨H1,I1,q⟩
theorem pt_val {e:Expr} {t:TE} (h:PE X e t) (he :∀whole,isTrue e X.env whole=(do let v <-whole;standAt e.pos;holding [v] (truthy v)):=by intro _;rfl):PT X e (tB t):=by intro a s σ H Q I b;refine isTrue_plain (thn (h a s σ H _ I b) λ v c ⟨x,H1,I1,r1,q1⟩=>?_) (he _);obtain ⟨d,rfl,q⟩:=q1;cases r1;exact F3 ⟨H1,I1,q⟩
variable {tA tB':TT} {rest:List Expr}
noncomputable def tAnd (t u:TT):TT:=λ σ H Q=>t σ H λ c H1=>if c=true then u σ H1 Q else Q false H1
noncomputable def tOr (t u:TT):TT:=λ σ H Q=>t σ H λ c H1=>if c=true then Q true H1 else u σ H1 Q
noncomputable def tNot (t:TT):TT:=λ σ H Q=>t σ H λ c H1=>Q (!c) H1
theorem z1a (ha:PT X a tA):PW X (.BoolOp .And [a] pos) tA:=by
 intro wh b s σ H Q I h;refine isTrue_and (thn (ha b s σ H Q I h) λ c d e=>?_);cases c with
 | true=>exact isTrue_and_nil e
 | false=>exact e
theorem pw_or1 (ha:PT X a tA):PW X (.BoolOp .Or [a] pos) tA:=by
 intro wh b s σ H Q I h;refine isTrue_or (thn (ha b s σ H Q I h) λ c d e=>?_);cases c with
 | false=>exact isTrue_or_nil e
 | true=>exact e
theorem pw_and (ha:PT X a tA) (hb:PW X (.BoolOp .And (b :: rest) pos) tB'):PW X (.BoolOp .And (a :: b :: rest) pos) (tAnd tA tB'):=by
 intro wh d s σ H Q I h;refine isTrue_and (thn (ha d s σ H _ I h) λ c e ⟨H1,I1,q1⟩=>?_);cases c with
 | true=>exact hb wh d e σ H1 Q I1 q1
 | false=>exact ⟨H1,I1,q1⟩
theorem pw_or (ha:PT X a tA) (hb:PW X (.BoolOp .Or (b :: rest) pos) tB'):PW X (.BoolOp .Or (a :: b :: rest) pos) (tOr tA tB'):=by
 intro wh d s σ H Q I h;refine isTrue_or (thn (ha d s σ H _ I h) λ c e ⟨H1,I1,q1⟩=>?_);cases c with
 | true=>exact ⟨H1,I1,q1⟩
 | false=>exact hb wh d e σ H1 Q I1 q1
theorem pt_not (ha:PT X a tA):PT X (.UnaryOp .Not a pos) (tNot tA):=by intro d s σ H Q I h;exact isTrue_not (ha d s σ H (λ c b=>Q (!c) b) I h)
noncomputable def tAndV (ta tb:TE):TE:=λ σ H Q=>ta σ H λ x H1=>∃c,x=.bl c/\if c=true then tb σ H1 Q else Q (.bl false) H1
noncomputable def tOrV (ta tb:TE):TE:=λ σ H Q=>ta σ H λ x H1=>∃c,x=.bl c/\if c=true then Q (.bl true) H1 else tb σ H1 Q
noncomputable def tNotV (ta:TE):TE:=λ σ H Q=>ta σ H λ x H1=>∃c,x=.bl c/\Q (.bl (!c)) H1
theorem pe_one {op} {t:TE} (h:PE X a t):PE X (.BoolOp op [a] pos) t:=λ b s σ H Q I c=>BoolOp_one (h b s σ H Q I c)
theorem pe_and (ha:PE X a ta) (hb:PE X (.BoolOp .And (b :: rest) pos) tb):PE X (.BoolOp .And (a :: b :: rest) pos) (tAndV ta tb):=by
 intro e s σ H Q I h;refine BoolOp_and (thn (ha e s σ H _ I h) λ v f ⟨x,H1,I1,r1,d⟩=>?_);obtain ⟨c,rfl,d⟩:=d;cases r1;refine F3 ?_;cases c with
 | true=>exact hb e f σ H1 Q I1 d
 | false=>exact ⟨.bl false,H1,I1,rfl,d⟩
theorem pe_or (ha:PE X a ta) (hb:PE X (.BoolOp .Or (b :: rest) pos) tb):PE X (.BoolOp .Or (a :: b :: rest) pos) (tOrV ta tb):=by
 intro e s σ H Q I h;refine BoolOp_or (thn (ha e s σ H _ I h) λ v f ⟨x,H1,I1,r1,d⟩=>?_);obtain ⟨c,rfl,d⟩:=d;cases r1;refine F3 ?_;cases c with
 | false=>exact hb e f σ H1 Q I1 d
 | true=>exact ⟨.bl true,H1,I1,rfl,d⟩
theorem pe_not (ha:PE X a ta):PE X (.UnaryOp .Not a pos) (tNotV ta):=by intro d s σ H Q I h;refine UnaryOp_ (thn (ha d s σ H _ I h) λ v e ⟨x,H1,I1,r1,b⟩=>?_);obtain ⟨c,rfl,b⟩:=b;cases r1;exact not_of (F3 ⟨.bl (!c),H1,I1,rfl,b⟩)
end
def SqL (K:c0) (H:Hp) (a:Addr) (xs:List V):Prop:=
 Rd H a (.lst xs)\/
  ∃(o:Obj) (its:Array Value) (n:Nat),K.lookup a=some o/\o.cls=.type "list"/\o.dict=none/\o.data=.seq its n/\its.size<=sizeLine/\Vals xs its.toList
def SqT (K:c0) (H:Hp) (a:Addr) (xs:List V):Prop:=
 Rd H a (.tup xs)\/
  ∃(o:Obj) (its:Array Value) (n:Nat),K.lookup a=some o/\o.cls=.type "tuple"/\o.data=.seq its n/\its.size<=sizeLine/\Vals xs its.toList
noncomputable def absV:Value->Option V
 | .none=>some .non
 | .bool b=>some (.bl b)
 | .int i _=>some (.int i)
 | .str x _=>some (.str x)
 | .bytes b _=>some (.byt b)
 | .float b _=>some (.flt b)
 | .ref a=>some (.ref a)
 | .type n=>some (.ty n)
 | _=>none
theorem RelV.abs {x:V} {u:Value} (r:RelV x u):absV u=some x:=by
 cases x with
 | non=>cases r;rfl
 | bl _=>cases r;rfl
 | int _=>obtain ⟨t,rfl⟩:=r;rfl
 | str _=>obtain ⟨t,rfl⟩:=r;rfl
 | byt _=>obtain ⟨t,rfl⟩:=r;rfl
 | flt _=>obtain ⟨t,rfl⟩:=r;rfl
 | ref _=>cases r;rfl
 | ty _=>cases r;rfl
theorem RelV.inj {x y:V} {u:Value} (r:RelV x u) (q:RelV y u):x=y:=T0 (r.abs.symm.trans q.abs)
theorem Vals.inj :∀{xs ys:List V} {us:List Value},Vals xs us->Vals ys us->xs=ys
 | _,_,_,.nil,.nil=>rfl
 | _,_,_,.cons r t,.cons r' t'=>by rw [r.inj r',Vals.inj t t']
section
variable {X:Cx} {pins:List (Addr×Obj)} {σ:St} {H:Hp} {s:u0} {a:Addr} {xs ys:List V}
theorem SqL.of {K:c0} (h:H a=some (.lst xs)):SqL K H a xs:=.inl (.inl h)
theorem SqT.of {K:c0} (h:H a=some (.tup xs)):SqT K H a xs:=.inl (.inl h)
theorem Inv.list (I:Inv X pins σ H s) (h:SqL X.K H a xs) :∃its:List Value,Vals xs its/\PlainL s.heap a its.toArray/\xs.length<=sizeLine:=by
 rcases h with h|⟨o,its,n,hk,hc,hd,hs,hz,r⟩
 ·obtain ⟨z,its,n,r,e⟩:=h.ok I.hok;exact ⟨its,r,⟨_,n,e,rfl,rfl,rfl⟩,z⟩
 ·refine ⟨its.toList,r,⟨o,n,I.kIn a o hk,hc,hd,by simpa using hs⟩,?_⟩;have e:=r.length;simp only [D1] at e;omega
theorem Inv.tuple (I:Inv X pins σ H s) (h:SqT X.K H a xs) :∃its:List Value,Vals xs its/\IsTup s.heap a its.toArray/\xs.length<=sizeLine:=by
 rcases h with h|⟨o,its,n,hk,hc,hs,hz,r⟩
 ·obtain ⟨z,its,r,p⟩:=h.ok I.hok;exact ⟨its,r,p.1,z⟩
 ·refine ⟨its.toList,r,⟨o,I.kIn a o hk,hc,n,by simpa using hs⟩,?_⟩;have e:=r.length;simp only [D1] at e;omega
theorem Inv.list_inj (I:Inv X pins σ H s) (h:SqL X.K H a xs) (h':SqL X.K H a ys):xs=ys:=by
 obtain ⟨i,r,⟨o,n,e,_,_,d⟩,_⟩:=I.list h;obtain ⟨g,f,⟨k,j,c,_,_,b⟩,_⟩:=I.list h';rw [e] at c;cases c;rw [d] at b;injection b with d1 _;have:i=g:=by simpa using congrArg Array.toList d1
 subst this;exact r.inj f
theorem Inv.tuple_inj (I:Inv X pins σ H s) (h:SqT X.K H a xs) (h':SqT X.K H a ys):xs=ys:=by
 obtain ⟨i,r,⟨o,e,_,n,d⟩,_⟩:=I.tuple h;obtain ⟨g,f,⟨k,c,_,j,b⟩,_⟩:=I.tuple h';rw [e] at c;cases c;rw [d] at b;injection b with d1 _;have:i=g:=by simpa using congrArg Array.toList d1
 subst this;exact r.inj f
end
noncomputable abbrev Cx.wish (X:Cx) (E:Value->u0->Prop):Cx:={ X with xe:=E }
noncomputable abbrev Cx.nox (X:Cx):Cx:=X.wish λ _ _=>False
theorem Cx.Ok.wish {X:Cx} (ok:X.Ok) (E:Value->u0->Prop):(X.wish E).Ok:=
 ⟨ok.mod,ok.kind,ok.glob,ok.blt,ok.above,ok.inj,ok.has,ok.cab,ok.hd,ok.frames,ok.stk,ok.exf,ok.bs,ok.bsz,ok.noex,ok.exfs,ok.funs,ok.frf⟩
theorem Cx.Ok.unwish {X:Cx} {E:Value->u0->Prop} (ok:(X.wish E).Ok):X.Ok:=
 ⟨ok.mod,ok.kind,ok.glob,ok.blt,ok.above,ok.inj,ok.has,ok.cab,ok.hd,ok.frames,ok.stk,ok.exf,ok.bs,ok.bsz,ok.noex,ok.exfs,ok.funs,ok.frf⟩
section
variable {X:Cx} {pins:List (Addr×Obj)} {σ:St} {H:Hp} {s:u0} {E:Value->u0->Prop}
theorem Inv.wish (I:Inv X pins σ H s) (E:Value->u0->Prop):Inv (X.wish E) pins σ H s:=⟨I.ok.wish E,I.os,I.bare,I.base,I.loc,I.cell,I.free,I.freeC,I.pin,I.hok,I.len⟩
theorem Inv.unwish (I:Inv (X.wish E) pins σ H s):Inv X pins σ H s:=⟨I.ok.unwish,I.os,I.bare,I.base,I.loc,I.cell,I.free,I.freeC,I.pin,I.hok,I.len⟩
theorem SP.unwish {D:Ends} {f:Flow} {s':u0} (h:SP (X.wish E) pins D f s'):SP X pins D f s':=by
 cases f with
 | next=>obtain ⟨b,a,I,q⟩:=h;exact ⟨b,a,I.unwish,q⟩
 | brk=>obtain ⟨b,a,I,q⟩:=h;exact ⟨b,a,I.unwish,q⟩
 | cont=>obtain ⟨b,a,I,q⟩:=h;exact ⟨b,a,I.unwish,q⟩
 | ret u=>obtain ⟨v,b,a,I,r,q⟩:=h;exact ⟨v,b,a,I.unwish,r,q⟩
theorem PSs.nox {st:List Stmt} {t:TS} (h:PSs X.nox st t):PSs X st t:=λ a s σ H D I b=>K3 (h a s σ H D (I.wish _) b) (λ _ _ q=>q.unwish) λ _ _ z=>T4 z
end
section
variable {X:Cx} {st:Stmt} {rest:List Stmt} {t u:TS} {e:Expr} {te:TE} {pos:Pos}
noncomputable def tNext:TS:=λ D σ H=>D.nx σ H
noncomputable def tSeq (t u:TS):TS:=λ D σ H=>t { D with nx:=u D } σ H
theorem z0g:PSs X [] tNext:=λ _ _ σ H _ I h=>P7 ⟨σ,H,I,h⟩
theorem z05 (h1:PS X st t) (h2:PSs X rest u):PSs X (st :: rest) (tSeq t u):=by
 intro a s σ H D I h;refine wpAny_execs_cons (thn (h1 a s σ H { D with nx:=u D } I h) λ f d q=>?_);cases f with
 | next=>obtain ⟨e,c,b,q⟩:=q;exact h2 a d e c D b q
 | ret v=>exact q
 | brk=>exact q
 | cont=>exact q
theorem z06 (h1:PS X st t):PSs X [st] t:=by
 intro a s σ H D I h;refine wpAny_execs_cons (thn (h1 a s σ H D I h) λ f b q=>?_);cases f with
 | next=>exact P7 q
 | ret v=>exact q
 | brk=>exact q
 | cont=>exact q
theorem Inv.quiet {pins:List (Addr×Obj)} {σ:St} {H:Hp} {s:u0} (I:Inv X pins σ H s):interactive X.env=false:=by simp [interactive,I.ok.kind]
noncomputable def tDrop (te:TE):TS:=λ D σ H=>te σ H λ _ H1=>D.nx σ H1
theorem z2g (he:PE X e te) (hs:o8 e none pos.line X.env=Z3 false:=by rfl):PS X (.Expr e pos) (tDrop te):=by intro a s σ H D I h;exact wpAny_Expr_any (thn (he a s σ H _ I h) λ v b ⟨x,H1,I1,r1,q1⟩=>⟨σ,H1,I1,q1⟩) I.quiet hs
noncomputable def tRet (te:TE):TS:=λ D σ H=>te σ H D.rt
theorem ps_ret (he:PE X e te):PS X (.Return (some e) pos) (tRet te):=by intro a s σ H D I h;exact wpAny_Return_some (thn (he a s σ H _ I h) λ v b ⟨x,H1,I1,r1,q1⟩=>⟨x,σ,H1,I1,r1,q1⟩)
noncomputable def tIfS (c:TT) (t u:TS):TS:=λ D σ H=>c σ H λ b H1=>if b=true then t D σ H1 else u D σ H1
theorem ps_if {c:Expr} {a b:List Stmt} {tc:TT} (hc:PT X c tc) (ha:PSs X a t) (hb:PSs X b u):PS X (.If c a b pos) (tIfS tc t u):=by
 intro e s σ H D I h;refine wpAny_If (thn (hc e s σ H _ I h) λ d f ⟨H1,I1,q1⟩=>?_);cases d with
 | true=>exact ha e f σ H1 D I1 q1
 | false=>exact hb e f σ H1 D I1 q1
noncomputable def tNever:TS:=λ _ _ _=>False
theorem za7:PS X st tNever:=λ _ _ _ _ _ _ h=>h.elim
end
noncomputable abbrev TG:=V->St->Hp->(St->Hp->Prop)->Prop
noncomputable abbrev TGs:=List V->St->Hp->(St->Hp->Prop)->Prop
def PG (X:Cx) (target:Expr) (t:TG):Prop:=
 ∀(pins:List (Addr×Obj)) (s:u0) (σ:St) (H:Hp) (v:V) (u:Value) (Q:St->Hp->Prop),Inv X pins σ H s->RelV v u->t v σ H Q->
  N0 (B1 X.prog X.w) X.A (assign target X.env u) (λ _ s'=>∃σ' H',Inv X pins σ' H' s'/\Q σ' H') X.xe s
def PGs (X:Cx) (ts:List Expr) (t:TGs):Prop:=
 ∀(pins:List (Addr×Obj)) (s:u0) (σ:St) (H:Hp) (vs:List V) (us:List Value) (Q:St->Hp->Prop),Inv X pins σ H s->Vals vs us->t vs σ H Q->
  N0 (B1 X.prog X.w) X.A (assignInOrder ((o6 ts X.env).map (·.2)) us) (λ _ s'=>∃σ' H',Inv X pins σ' H' s'/\Q σ' H') X.xe s
noncomputable abbrev TSet:=V->V->V->Hp->(Hp->Prop)->Prop
def PSet (X:Cx) (t:TSet):Prop:=
 ∀(pins:List (Addr×Obj)) (s:u0) (σ:St) (H:Hp) (o i v:V) (ov iv u:Value) (Q:Hp->Prop),Inv X pins σ H s->RelV o ov->RelV i iv->RelV v u->t o i v H Q->
  N0 (B1 X.prog X.w) X.A (setItem ov iv u) (λ _ s'=>∃H',Inv X pins σ H' s'/\Q H') X.xe s
section
variable {X:Cx} {pos:Pos}
noncomputable def gName (i:Nat):TG:=λ v σ H Q=>Q (σ.set i (some v)) H
theorem z0f {i:Nat} {x:Str} (hN:X.N.Nodup) (hi:X.N[i]? = some x) (hx:Loc X.env.scope x) (hf:X.fn x=true\/X.env.scope.names.lookup x=some .local:=by first|exact .inl rfl|exact .inr rfl|assumption):PG X (.Name x pos) (gName i):=by intro c s σ H v u Q I r h;exact wpAny_assign_Name (z9c I hN hi hx r (λ b a=>⟨_,H,a,h⟩) hf)
noncomputable def gNil:TGs:=λ vs σ H Q=>vs=[]/\Q σ H
noncomputable def gCons (t:TG) (u:TGs):TGs:=λ vs σ H Q=>∃v r,vs=v :: r/\t v σ H λ σ' H'=>u r σ' H' Q
theorem z11:PGs X [] gNil:=by intro a s σ H b us Q I r h;obtain ⟨e,h⟩:=h;subst e;cases r;exact assignInOrder_nil ⟨σ,H,I,h⟩
theorem z0b {e:Expr} {es:List Expr} {t:TG} {u:TGs} (h1:PG X e t) (h2:PGs X es u)
  (hs:(o6 (e :: es) X.env).map (·.2)=assign e X.env :: (o6 es X.env).map (·.2):=by rfl):PGs X (e :: es) (gCons t u):=by
 intro a s σ H d us Q I r h;obtain ⟨v,f,b,h⟩:=h;subst b;cases r with
 | cons r rr=>rw [hs];refine assignInOrder_cons (thn (h1 a s σ H _ _ _ I r h) λ _ c ⟨σ1,H1,I1,q1⟩=>?_);exact h2 a c σ1 H1 _ _ Q I1 rr q1
noncomputable def gTup (K:c0) (n:Nat) (t:TGs):TG:=λ v σ H Q=>∃a xs,v=.ref a/\SqT K H a xs/\xs.length=n/\t xs σ H Q
theorem pg_tup {es:List Expr} {k:Nat} {t:TGs} {n:Nat} (hc:X.calm=true) (h:PGs X es t)
  (hn:(o6 es X.env).length=n:=by rfl) (hst:(o6 es X.env).findIdx? (·.1)=none:=by rfl):PG X (.Tuple es k pos) (gTup X.K n t):=by
 intro f s σ H v u Q I r c;obtain ⟨a,j,q,p,l,c⟩:=c;subst q;cases r;obtain ⟨x,d,g,y⟩:=I.tuple p;refine assign_Tuple_tuple (I.ok.hd hc) g (by simp [hn,<-l,d.length]) hst λ w m=>?_;have i:Inv X f σ H { s with heap:=w }:=I.kept (t':=s.toks) λ b o e=>m b o (L0 (G0 e)) e;exact h f _ σ H j _ Q i (by simpa using d) c
noncomputable def gSub (to ti:TE) (t:TSet):TG:=λ v σ H Q=>to σ H λ o H1=>ti σ H1 λ i H2=>t o i v H2 λ H3=>Q σ H3
theorem pg_sub {o i:Expr} {to ti:TE} {t:TSet} (ho:PE X o to) (hi:PE X i ti) (hs:PSet X t)
  (ha :∀v,assign (.Subscript o i pos) X.env v=(do
   let ov <-holding [v] (W3 o X.env)
   let iv <-holding [v,ov] (W3 i X.env)
   standAt pos
   holding [v,ov,iv] (setItem ov iv v)
   release [v,ov,iv] []):=by intro _;rfl):PG X (.Subscript o i pos) (gSub to ti t):=by
 intro a s σ H v u Q I r h;rw [ha];refine o0 (D2 (thn (ho a s σ H _ I h) λ ov c ⟨x,H1,I1,r1,q1⟩=>?_));refine o0 (D2 (thn (hi a c σ H1 _ I1 q1) λ iv b ⟨y,H2,I2,r2,q2⟩=>?_));refine o0 (C8 (o0 (D2 (thn (hs a b σ H2 x y v ov iv u _ I2 r1 r2 r q2) λ _ d ⟨H3,I3,q3⟩=>?_))));exact wpAny_release ⟨σ,H3,I3,q3⟩
noncomputable def tAsg (te:TE) (g:TG):TS:=λ D σ H=>te σ H λ x H1=>g x σ H1 D.nx
theorem ps_asg {tg e:Expr} {te:TE} {g:TG} (he:PE X e te) (hg:PG X tg g) (hs:swapsWithSole [tg] e pos.line X.env=Z3 false:=by rfl) (hw:swappedStores [tg] e X.env=Z3 none:=by rfl)
  (h1:(o6 [tg] X.env).map (·.2)=[assign tg X.env]:=by rfl):PS X (.Assign [tg] e pos) (tAsg te g):=by
 intro a s σ H D I h;refine wpAny_Assign_stores (thn (he a s σ H _ I h) λ v b ⟨x,H1,I1,r1,q1⟩=>?_) hs hw;rw [h1];exact thn (hg a b σ H1 x v _ I1 r1 q1) λ _ c q=>q
theorem ps_set {i:Nat} {x:Str} {e:Expr} {te:TE} {pos':Pos} (hN:X.N.Nodup) (hi:X.N[i]? = some x) (hx:Loc X.env.scope x) (he:PE X e te) (hs:o8 e (some (.Name x pos')) pos.line X.env=Z3 false:=by rfl) (hf:X.fn x=true\/X.env.scope.names.lookup x=some .local:=by first|exact .inl rfl|exact .inr rfl|assumption) :
  PS X (.Assign [.Name x pos'] e pos) (tAsg te (gName i)):=by
 intro a s σ H D I h;refine wpAny_Assign_Name (thn (he a s σ H _ I h) λ v d ⟨y,H1,I1,r1,q1⟩=>?_) hs;exact z9c I1 hN hi hx r1 (λ c b=>⟨_,H1,b,q1⟩) hf
noncomputable def tWhile (c:TT) (tb:TS):TS:=λ D σ H=>∃W:Nat->St->Hp->Prop,(∃m,W m σ H)/\∀m σ H,W m σ H->
 c σ H λ b H1=>if b=true then∃N:St->Hp->Prop,(∀σ' H',N σ' H'->∃m',m' < m/\W m' σ' H')/\tb { D with nx:=N,ct:=N,bk:=D.nx } σ H1 else D.nx σ H1
theorem zd7 {c:Expr} {body:List Stmt} {tc:TT} {tb:TS} (hp:PassesOwn (B1 X.prog X.w) X.A X.env X.xe) (hc:PT X c tc) (hb:PSs X body tb):PS X (.While c body [] pos) (tWhile tc tb):=by
 intro m s σ H D I h;obtain ⟨W,⟨t,x⟩,u⟩:=h;refine wpAny_While (codeAny_whileLoop (λ n q=>∃σ' H',Inv X m σ' H' q/\W n σ' H') ?_ t ⟨σ,H,I,x⟩);rintro n y ⟨σ1,H1,I1,w1⟩;refine S4 hp (thn (hc m y σ1 H1 _ I1 (u n σ1 H1 w1)) λ b r ⟨H2,I2,g⟩=>?_);cases b with
 | true=>
  obtain ⟨N,p,g⟩:=g;rw [if_pos rfl];refine S4 hp (thn (hb m r σ1 H2 _ I2 g) λ f z e=>?_);cases f with
  | next=>obtain ⟨d,a,i,k⟩:=e;obtain ⟨l,o,j⟩:=p d a k;exact ⟨l,o,d,a,i,j⟩
  | cont=>obtain ⟨d,a,i,k⟩:=e;obtain ⟨l,o,j⟩:=p d a k;exact ⟨l,o,d,a,i,j⟩
  | brk=>exact e
  | ret v=>exact e
 | false=>rw [if_neg W0];exact P7 ⟨σ1,H2,I2,g⟩
end
structure It where
 go:Nat->Hp->Prop
 yld:Nat->Hp->V->Hp->Prop
 stop:Nat->Hp->Prop
def FpOk (X:Cx) (pins:List (Addr×Obj)) (H:Hp) (b:Addr):Prop:=
 H b=none/\b≠X.env.locals/\b∉X.fs/\(b∈X.ex\/X.s₀.heap.objs.size<=b)/\(∀x c,X.env.cells.lookup x=some c->c≠b)/\∀p∈X.pn++pins,p.1≠b
theorem Inv.fpOk {X:Cx} {pins:List (Addr×Obj)} {σ:St} {H H':Hp} {s:u0} {b:Addr} (I:Inv X pins σ H s) (hb:s.heap.objs.size<=b) (hn:H' b=none):FpOk X pins H' b:=by
 refine ⟨hn,E2 (X0 I.lt hb),I.nofs hb,.inr (D0 I.sz hb),λ x c e z=>?_,λ p a z=>?_⟩
 ·obtain ⟨v,q⟩:=I.cell x c e;exact absurd (X0 q.lt (by rw [z];exact hb)) (C3 _)
 ·exact absurd (X0 (G0 (I.pin p a).1) (by rw [z];exact hb)) (C3 _)
structure Turn (P:Program) (w:Z0) (K:c0) (tg:Expr) (J:It) (fp:List Addr) (it:Addr) (tn:Nat->Heap->Prop):Prop where
 mem:it∈fp
 obj :∀i h,tn i h->∀b∈fp,∃o,h.get? b=some o/\∀v,o.data≠.cell v
 keep :∀i h h',tn i h->(∀b∈fp,∀o,h.get? b=some o->h'.get? b=some o)->tn i h'
 item :∀(X:Cx),X.prog=P->X.w=w->X.K=K->X.calm=true->∀(i:Nat) (pins:List (Addr×Obj)) (s:u0) (σ:St) (H:Hp) (E:Value->u0->Prop),Inv X pins σ H s->(∀b∈fp,FpOk X pins H b)->tn i s.heap->J.go i H->
  N0 (B1 P w) X.A (F8 (.ref it)) (λ r s1=>∃u,r=some u/\
   N0 (B1 P w) X.A (Q7 tg (.ref it) u) (λ _ s2=>∃x H',Inv X pins σ H' s2/\RelV x u/\J.yld i H x H'/\tn (i + 1) s2.heap/\∀b∈fp,H' b=none) E s1) E s
 done :∀(X:Cx),X.prog=P->X.w=w->X.K=K->X.calm=true->∀(i:Nat) (pins:List (Addr×Obj)) (s:u0) (σ:St) (H:Hp) (E:Value->u0->Prop),Inv X pins σ H s->(∀b∈fp,FpOk X pins H b)->tn i s.heap->J.stop i H->
  N0 (B1 P w) X.A (F8 (.ref it)) (λ r s1=>r=none/\Inv X pins σ H s1) E s
 self :∀(A:C2) (i:Nat) (s:u0) (Q:Value->u0->Prop) (E:Value->u0->Prop),tn i s.heap->Q (.ref it) s->N0 (B1 P w) A (pyIter (.ref it)) Q E s
noncomputable abbrev TI:=St->Hp->(It->Hp->Prop)->Prop
def PIE (X:Cx) (pins:List (Addr×Obj)) (σ:St) (tg:Expr) (R:It->Hp->Prop) (itv:Value) (s2:u0):Prop:=
 ∃(it:Addr) (fp:List Addr) (tn:Nat->Heap->Prop) (J:It) (H':Hp),itv=.ref it/\Inv X pins σ H' s2/\Turn X.prog X.w X.K tg J fp it tn/\tn 0 s2.heap/\(∀b∈fp,FpOk X pins H' b)/\R J H'
def PI (X:Cx) (tg iter:Expr) (wi:TI):Prop:=
 ∀(pins:List (Addr×Obj)) (s:u0) (σ:St) (H:Hp) (R:It->Hp->Prop),Inv X pins σ H s->wi σ H R->
  N0 (B1 X.prog X.w) X.A (W3 iter X.env) (λ v s1=>N0 (B1 X.prog X.w) X.A (pyIter v) (PIE X pins σ tg R) X.xe s1) X.xe s
theorem go_of {M:Model} {A:C2} {E:Value->u0->Prop} {s:u0} {tg:Expr} {it:Addr} {u:Value} {o:Obj} {n:String} {vs:Array Value} {Q:Unit->u0->Prop} (ho:s.heap.get? it=some o) (hc:o.cls=.type n) (hd:o.data=.fields vs)
    (hn:["enumerate","zip","dict_itemiterator","dict_reverseitemiterator","odict_iterator","itertools.zip_longest","itertools.pairwise"].contains n=false) (hQ:Q () s):N0 M A (Q7 tg (.ref it) u) Q E s:=by
  unfold Q7;cases tg<;>first
    | exact C0 hQ
    | (cases u<;>first
        | exact C0 hQ
        | (refine o0 (wpAny_load ho ?_)
           rw [hc,hd];show N0 M A (if (["enumerate","zip","dict_itemiterator","dict_reverseitemiterator","odict_iterator","itertools.zip_longest","itertools.pairwise"].contains n && vs[0]? == some (U4 _))=true then _ else _) Q E s;rw [if_neg (by intro h;rw [hn,L7] at h;cases h)];exact C0 hQ))
noncomputable def Itl (K:c0) (a:Addr):It:=
 ⟨λ i H=>∃xs x,SqL K H a xs/\xs[i]? = some x,λ i H x H'=>H'=H/\∀xs,SqL K H a xs->xs[i]? = some x,λ i H=>∃xs,SqL K H a xs/\xs.length<=i⟩
noncomputable def Itt (K:c0) (a:Addr):It:=
 ⟨λ i H=>∃xs x,SqT K H a xs/\xs[i]? = some x,λ i H x H'=>H'=H/\∀xs,SqT K H a xs->xs[i]? = some x,λ i H=>∃xs,SqT K H a xs/\xs.length<=i⟩
noncomputable def Itr (lo:Int) (n:Nat):It:=⟨λ i _=>i < n,λ i H x H'=>H'=H/\x=.int (lo + i),λ i _=>n<=i⟩
theorem zb8 {P:Program} {w:Z0} {K:c0} {tg:Expr} (a it:Addr):Turn P w K tg (Itl K a) [it] it (λ i h=>h.IsListIter it a i) where
 mem:=by simp
 obj:=λ i h st b f=>by
  have e:b=it:=by simpa using f
  subst e;obtain ⟨o,e,c,d⟩:=st;exact ⟨o,e,λ v z=>by rw [d] at z;cases z⟩
 keep:=λ i h l st k=>st.at λ o e=>k it (by simp) o e
 item:=by intro X q F A J i L s σ H E I g st B;subst q F A;obtain ⟨Q,x,j,y⟩:=B;obtain ⟨M,t,p,U⟩:=I.list j;obtain ⟨u,T,R⟩:=t.get y;obtain ⟨D,n,S,r,m,C⟩:=g it (by simp);refine O4 st p.isList (x:=u) (by simpa using T) λ l G sb=>?_;have O:Inv X L σ H { s with heap:=l }:=I.turned (t':=s.toks) (λ b o f e=>(sb.2 b f).trans e) D n r m C;obtain ⟨o,e,c,d⟩:=id G;exact ⟨u,rfl,go_of (s:={ s with heap:=l }) e c d (by decide) ⟨x,H,O,R,⟨rfl,λ W N=>by rw [I.list_inj N j];exact y⟩,G,λ b f=>(g b f).1⟩⟩
 done:=by intro X q F A J i L s σ H E I g st B;subst q F A;obtain ⟨Q,j,y⟩:=B;obtain ⟨M,t,p,U⟩:=I.list j;obtain ⟨D,n,S,r,m,C⟩:=g it (by simp);have Y:=t.length;exact c6 (I.ok.hd J) st p.isList (by simp;omega) λ l V=>⟨rfl,I.turned (t':=s.toks) (λ b o f e=>V b o f e) D n r m C⟩
 self:=λ _ _ _ _ _ st h=>wpAny_pyIter_listiter st h
theorem z8r {P:Program} {w:Z0} {K:c0} {tg:Expr} (a it:Addr):Turn P w K tg (Itt K a) [it] it (λ i h=>h.IsTupleIter it a i) where
 mem:=by simp
 obj:=λ i h st b f=>by
  have e:b=it:=by simpa using f
  subst e;obtain ⟨o,e,c,d⟩:=st;exact ⟨o,e,λ v z=>by rw [d] at z;cases z⟩
 keep:=λ i h l st k=>st.at λ o e=>k it (by simp) o e
 item:=by intro X r G B L i M s σ H E I g st C;subst r G B;obtain ⟨Q,x,j,A⟩:=C;obtain ⟨n,y,p,U⟩:=I.tuple j;obtain ⟨u,T,R⟩:=y.get A;obtain ⟨F,q,S,t,m,D⟩:=g it (by simp);refine wpAny_pyNext_tuple_item st (show s.heap.IsTuple a n.toArray from p) (x:=u) (by simpa using T) λ l J sb=>?_;have O:Inv X M σ H { s with heap:=l }:=I.turned (t':=s.toks) (λ b o f e=>(sb.2 b f).trans e) F q t m D;obtain ⟨o,e,c,d⟩:=id J;exact ⟨u,rfl,go_of (s:={ s with heap:=l }) e c d (by decide) ⟨x,H,O,R,⟨rfl,λ W N=>by rw [I.tuple_inj N j];exact A⟩,J,λ b f=>(g b f).1⟩⟩
 done:=by intro X r G B L i M s σ H E I g st C;subst r G B;obtain ⟨Q,j,A⟩:=C;obtain ⟨n,y,p,U⟩:=I.tuple j;obtain ⟨F,q,S,t,m,D⟩:=g it (by simp);have Y:=y.length;exact wpAny_pyNext_tuple_end (I.ok.hd L) st (show s.heap.IsTuple a n.toArray from p) (by simp;omega) λ l V=>⟨rfl,I.turned (t':=s.toks) (λ b o f e=>V b o f e) F q t m D⟩
 self:=λ _ _ _ _ _ st h=>wpAny_pyIter_tupleiter st h
theorem z94 {P:Program} {w:Z0} {K:c0} {tg:Expr} (it:Addr) (lo:Int) (n:Nat):Turn P w K tg (Itr lo n) [it] it (λ i h=>IsRangeIter h it (lo + (i:Nat) * 1) ((n:Int) - (i:Nat)) 1) where
 mem:=by simp
 obj:=λ i h st b a=>by
  have e:b=it:=by simpa using a
  subst e;exact ⟨_,st,λ v z=>by have D:P8 _=K9 v:=z;cases D⟩
 keep:=λ i h d st k=>k it (by simp) _ st
 item:=by intro X j x p m i B s σ H E I c st q;subst j x p;obtain ⟨u,g,J,l,f,r⟩:=c it (by simp);have W:=Walks.range (prog:=X.prog) (w:=X.w) (I.ok.hd m) it lo 1 n;refine W.item i s _ _ q st λ v d A G y F=>?_;obtain ⟨t,rfl⟩:=G;have C:Inv X B σ H { s with heap:=d,toks:=A }:=I.turned (λ b o a e=>F b o (by simpa using a) e) u g l f r;refine ⟨_,rfl,go_of (s:={ s with heap:=d,toks:=A }) (n:="range_iterator") y rfl rfl (by decide) ⟨.int (lo + i),H,C,⟨t,?_⟩,⟨rfl,rfl⟩,y,λ b a=>(c b a).1⟩⟩;rw [Int.mul_one]
 done:=by intro X j x p m i B s σ H E I c st q;subst j x p;obtain ⟨u,g,J,l,f,r⟩:=c it (by simp);exact wpAny_pyNext_range_end (I.ok.hd m) st (by have:n<=i:=q;omega) λ d L=>⟨rfl,I.turned (t':=s.toks) (λ b o a e=>L b o a e) u g l f r⟩
 self:=λ _ _ _ _ _ st h=>wpAny_pyIter_rangeiter st h
section
variable {X:Cx} {tg:Expr}
noncomputable def iList (K:c0) (tl:TE):TI:=λ σ H R=>tl σ H λ x H1=>∃a,x=.ref a/\(∃xs,SqL K H1 a xs)/\R (Itl K a) H1
noncomputable def iTup (K:c0) (tl:TE):TI:=λ σ H R=>tl σ H λ x H1=>∃a,x=.ref a/\(∃xs,SqT K H1 a xs)/\R (Itt K a) H1
theorem z0r {l:Expr} {tl:TE} (hl:PE X l tl):PI X tg l (iList X.K tl):=by
 intro d s σ H R I h;refine thn (hl d s σ H _ I h) λ v c ⟨x,H1,I1,r1,q1⟩=>?_;obtain ⟨a,e,⟨j,f⟩,q⟩:=q1;subst e;cases r1;obtain ⟨i,k,p,m⟩:=I1.list f;refine S5 p.isList ?_;refine ⟨c.heap.objs.size,[c.heap.objs.size],_,_,H1,rfl,I1.kept (t':=c.toks) λ b o e=>v0 _ e,zb8 a _,⟨_,J0 _ rfl,rfl,rfl⟩,λ b g=>?_,q⟩;have e:b=c.heap.objs.size:=by simpa using g
 subst e;exact I1.fpOk (y0 _) (I1.hok.fresh (y0 _))
theorem pi_tup {l:Expr} {tl:TE} (hl:PE X l tl):PI X tg l (iTup X.K tl):=by
 intro f s σ H R I h;refine thn (hl f s σ H _ I h) λ v c ⟨x,H1,I1,r1,q1⟩=>?_;obtain ⟨a,e,⟨j,g⟩,q⟩:=q1;subst e;cases r1;obtain ⟨d,k,p,m⟩:=I1.tuple g;refine J5 (show c.heap.IsTuple a d.toArray from p) ?_;refine ⟨c.heap.objs.size,[c.heap.objs.size],_,_,H1,rfl,I1.kept (t':=c.toks) λ b o e=>v0 _ e,z8r a _,⟨_,J0 _ rfl,rfl,rfl⟩,λ b i=>?_,q⟩;have e:b=c.heap.objs.size:=by simpa using i
 subst e;exact I1.fpOk (y0 _) (I1.hok.fresh (y0 _))
theorem zco {pins:List (Addr×Obj)} {σ:St} {H:Hp} {s:u0} {R:It->Hp->Prop} {E:Value->u0->Prop} {lo hi:Int} {t u v:Tok} {tk:Nat} (I:Inv X pins σ H s) (h1:-(2 ^ 62)<=lo) (h2:lo < 2 ^ 62) (h3:-(2 ^ 62)<=hi) (h4:hi < 2 ^ 62)
  (q:R (Itr lo (hi - lo).toNat) H):N0 (B1 X.prog X.w) X.A (pyIter (.ref s.heap.objs.size)) (PIE X pins σ tg R) E { s with heap:=s.heap.push { cls:=.type "range",data:=.fields #[.int lo t,.int hi u,.int 1 v] },toks:=tk }:=by
 refine wpAny_pyIter_range (IsRange.new ..) (small_one h1 h2 h3 h4) ?_;have a:Inv X pins σ H { s with heap:=s.heap.push { cls:=.type "range",data:=.fields #[.int lo t,.int hi u,.int 1 v] },toks:=tk }:=I.kept λ b o e=>v0 _ e;refine ⟨(s.heap.push { cls:=.type "range",data:=.fields #[.int lo t,.int hi u,.int 1 v] }).objs.size,[(s.heap.push { cls:=.type "range",data:=.fields #[.int lo t,.int hi u,.int 1 v] }).objs.size],_,_,H,rfl,
  a.kept (t':=tk) λ b o e=>v0 _ e,z94 _ lo (hi - lo).toNat,?_,λ b f=>?_,q⟩
 ·have c:lo + ((0:Nat):Int) * 1=lo:=by simp
  have d:(((hi - lo).toNat:Nat):Int) - ((0:Nat):Int)=y8 lo hi 1:=by rw [rangeSize_one];split<;>omega
  show IsRangeIter _ _ (lo + ((0:Nat):Int) * 1) ((((hi - lo).toNat:Nat):Int) - ((0:Nat):Int)) 1;rw [c,d];exact J0 _ rfl
 ·have e:b=(s.heap.push { cls:=.type "range",data:=.fields #[.int lo t,.int hi u,.int 1 v] }).objs.size:=by simpa using f
  subst e;exact a.fpOk (y0 _) (a.hok.fresh (y0 _))
noncomputable def iRng1 (ta:TA):TI:=λ σ H R=>ta σ H λ vs H1=>∃j:Int,vs=[.int j]/\-(2 ^ 62)<=j/\j < 2 ^ 62/\R (Itr 0 j.toNat) H1
theorem z4y {a:Expr} {ta:TA} {p pos:Pos} (hg:Gl X "range") (hm:X.mg "range" = none) (ha:PA X [a] ta) (hs:U1 [a] X.env=[(false,W3 a X.env)]:=by rfl):PI X tg (.Call (.Name "range" p) [a] [] pos) (iRng1 ta):=by
 intro d s σ H R I h;refine Call_ (ld_blt I hg hm boot_range (F2 (thn (ha pos d s σ H _ I h) λ us f ⟨vs,H1,I1,r1,b⟩=>?_) hs rfl));obtain ⟨j,e,b,c,q⟩:=b;subst e;cases r1 with
 | cons r rr=>cases rr;obtain ⟨t,rfl⟩:=r;exact call_range_1 (zco I1 (by omega) (by omega) b c (by simpa using q))
noncomputable def tFor (wi:TI) (g:TG) (tb:TS):TS:=λ D σ H=>wi σ H λ J H1=>∃W:Nat->Nat->St->Hp->Prop,(∃m,W 0 m σ H1)/\∀i m σ H,W i m σ H->
 (J.stop i H/\D.nx σ H)\/(J.go i H/\∃N:St->Hp->Prop,(∀σ' H',N σ' H'->∃m',m' < m/\W (i + 1) m' σ' H')/\∀x H',J.yld i H x H'->g x σ H' λ σ2 H2=>tb { D with nx:=N,ct:=N,bk:=D.nx } σ2 H2)
noncomputable def pinsAt (fp:List Addr) (h:Heap):List (Addr×Obj):=fp.filterMap λ b=>(h.get? b).map λ o=>(b,o)
theorem z12 {fp:List Addr} {h:Heap} {b:Addr} {o:Obj} (hb:b∈fp) (e:h.get? b=some o):(b,o)∈pinsAt fp h:=List.mem_filterMap.mpr ⟨b,hb,by rw [e];rfl⟩
theorem z73 {fp:List Addr} {h:Heap} {p:Addr×Obj} (hp:p∈pinsAt fp h):p.1∈fp/\h.get? p.1=some p.2:=by
 obtain ⟨b,c,e⟩:=List.mem_filterMap.mp hp;cases q:h.get? b with
 | none=>rw [q] at e;cases e
 | some o=>rw [q] at e;have a:(b,o)=p:=T0 e;subst a;exact ⟨c,q⟩
theorem Inv.pinned {pins:List (Addr×Obj)} {σ:St} {H:Hp} {s:u0} {fp:List Addr} (I:Inv X pins σ H s) (hf :∀b∈fp,FpOk X pins H b) (ho :∀b∈fp,∃o,s.heap.get? b=some o/\∀v,o.data≠.cell v):Inv X (pins++pinsAt fp s.heap) σ H s:=
 I.pins_of λ p f=>(List.mem_append.mp f).elim (λ z=>I.pin p (M0 _ z)) λ z=>by obtain ⟨c,e⟩:=z73 z;obtain ⟨i,g,h,_⟩:=hf p.1 c;obtain ⟨o,a,d⟩:=ho p.1 c;rw [e] at a;cases a;exact ⟨e,i,g,h,d⟩
theorem Inv.unpinned {pins pl:List (Addr×Obj)} {σ:St} {H:Hp} {s:u0} (I:Inv X (pins++pl) σ H s):Inv X pins σ H s:=I.pins_of λ p a=>I.pin p (M0 _ (Z5 _ a))
theorem ps_for {iter:Expr} {body:List Stmt} {wi:TI} {g:TG} {tb:TS} {pos:Pos} (hp:PassesOwn (B1 X.prog X.w) X.A X.env X.xe) (hc:X.calm=true) (hi:PI X tg iter wi) (hg:PG X tg g) (hb:PSs X body tb)
  (hs :∀x,V4 iter X.env x=Z3 x:=by intro _;rfl):PS X (.For tg iter body [] pos) (tFor wi g tb):=by
 intro l s σ H D I h;refine wpAny_For (thn (hi l s σ H _ I h) λ v s1 M=>thn M λ a3 s2 Y=>?_) hs;obtain ⟨it,q,C,J,Z,e,K,T,a0,G,W,⟨S,w0⟩,a1⟩:=Y;subst e
 -- what stays true of the iterator's objects through the loop
 have t :∀{H':Hp},(∀b∈q,H' b=none)->∀b∈q,FpOk X l H' b:=λ hn b hb=>⟨hn b hb,(G b hb).2⟩
 refine codeAny_forLoop_any (λ n z=>∃i σ' H',Inv X l σ' H' z/\C i z.heap/\(∀b∈q,H' b=none)/\W i n σ' H') ?_ S ⟨0,σ,Z,K,a0,λ b hb=>(G b hb).1,w0⟩;rintro n B ⟨i,σ3,H3,I3,st3,fr3,w3⟩;rcases a1 i n σ3 H3 w3 with ⟨a2,qn⟩|⟨go,N,hN,step⟩
 ·refine S4 hp (thn (T.done X rfl rfl rfl hc i l B σ3 H3 X.xe I3 (t fr3) st3 a2) λ r R ⟨hr,I4⟩=>?_);subst hr;exact P7 ⟨σ3,H3,I4,qn⟩
 ·refine S4 hp (thn (T.item X rfl rfl rfl hc i l B σ3 H3 X.xe I3 (t fr3) st3 go) λ r R ⟨u,hr,h4⟩=>?_);subst hr;refine S4 hp (thn h4 λ _ F ⟨x,H5,I5,r5,y5,st5,fr5⟩=>?_);have P:=I5.pinned (t fr5) (T.obj _ _ st5);refine S4 hp (thn (hg _ F σ3 H5 x u _ P r5 (step x H5 y5)) λ _ Q ⟨σ6,H6,I6,q6⟩=>?_);refine S4 hp (thn (hb _ Q σ6 H6 _ I6 q6) λ f y k=>?_);have E :∀{c:St} {j:Hp},Inv X (l++pinsAt q F.heap) c j y->N c j->∃m,m < n/\∃i σ' H',Inv X l σ' H' y/\C i y.heap/\(∀b∈q,H' b=none)/\W i m σ' H':=λ {c j} a p=>by obtain ⟨O,V,w7⟩:=hN c j p;refine ⟨O,V,i + 1,c,j,a.unpinned,T.keep _ _ _ st5 λ b hb o e=>(a.pin (b,o) (M0 _ (M0 _ (z12 hb e)))).1,λ b hb=>?_,w7⟩;obtain ⟨o,e,d⟩:=T.obj _ _ st5 b hb;exact (a.pin (b,o) (M0 _ (M0 _ (z12 hb e)))).2.1
  cases f with
  | next=>obtain ⟨c,j,a,p⟩:=k;exact E a p
  | cont=>obtain ⟨c,j,a,p⟩:=k;exact E a p
  | brk=>obtain ⟨c,j,a,k⟩:=k;exact ⟨c,j,a.unpinned,k⟩
  | ret v=>obtain ⟨L,c,j,a,U,k⟩:=k;exact ⟨L,c,j,a.unpinned,U,k⟩
end
theorem z1c {K:c0} {a:Addr} {xs:List V} {g:TG} {tb:TS} {D:Ends} {σ:St} {H:Hp} (Pv:Nat->St->Hp->Prop) (h0:Pv 0 σ H) (hl :∀i σ H,i<=xs.length->Pv i σ H->SqL K H a xs)
  (hs :∀i x σ H,xs[i]? = some x->Pv i σ H->g x σ H λ σ2 H2=>tb { D with nx:=Pv (i + 1),ct:=Pv (i + 1),bk:=D.nx } σ2 H2) (hd :∀σ H,Pv xs.length σ H->D.nx σ H) :
  ∃W:Nat->Nat->St->Hp->Prop,(∃m,W 0 m σ H)/\∀i m σ H,W i m σ H->
   ((Itl K a).stop i H/\D.nx σ H)\/((Itl K a).go i H/\∃N:St->Hp->Prop,(∀σ' H',N σ' H'->∃m',m' < m/\W (i + 1) m' σ' H')/\∀x H',(Itl K a).yld i H x H'->g x σ H' λ σ2 H2=>tb { D with nx:=N,ct:=N,bk:=D.nx } σ2 H2):=by
 refine ⟨λ i m σ H=>m=xs.length - i/\i<=xs.length/\Pv i σ H,⟨xs.length,by simp,A2 _,h0⟩,?_⟩;rintro i m σ H ⟨rfl,hi,p⟩;have q:=hl i σ H hi p;by_cases hlt:i < xs.length
 ·refine .inr ⟨⟨xs,xs[i],q,by simp [hlt]⟩,Pv (i + 1),λ σ' H' b=>⟨xs.length - (i + 1),by omega,rfl,hlt,b⟩,λ x H' y=>?_⟩;obtain ⟨e,y⟩:=y;subst e;exact hs i x σ _ (y xs q) p
 ·have e:i=xs.length:=by omega
  subst e;exact .inl ⟨⟨xs,q,y0 _⟩,hd σ H p⟩
theorem zea {K:c0} {a:Addr} {xs:List V} {g:TG} {tb:TS} {D:Ends} {σ:St} {H:Hp} (Pv:Nat->St->Hp->Prop) (h0:Pv 0 σ H) (hl :∀i σ H,i<=xs.length->Pv i σ H->SqT K H a xs)
  (hs :∀i x σ H,xs[i]? = some x->Pv i σ H->g x σ H λ σ2 H2=>tb { D with nx:=Pv (i + 1),ct:=Pv (i + 1),bk:=D.nx } σ2 H2) (hd :∀σ H,Pv xs.length σ H->D.nx σ H) :
  ∃W:Nat->Nat->St->Hp->Prop,(∃m,W 0 m σ H)/\∀i m σ H,W i m σ H->
   ((Itt K a).stop i H/\D.nx σ H)\/((Itt K a).go i H/\∃N:St->Hp->Prop,(∀σ' H',N σ' H'->∃m',m' < m/\W (i + 1) m' σ' H')/\∀x H',(Itt K a).yld i H x H'->g x σ H' λ σ2 H2=>tb { D with nx:=N,ct:=N,bk:=D.nx } σ2 H2):=by
 refine ⟨λ i m σ H=>m=xs.length - i/\i<=xs.length/\Pv i σ H,⟨xs.length,by simp,A2 _,h0⟩,?_⟩;rintro i m σ H ⟨rfl,hi,p⟩;have q:=hl i σ H hi p;by_cases hlt:i < xs.length
 ·refine .inr ⟨⟨xs,xs[i],q,by simp [hlt]⟩,Pv (i + 1),λ σ' H' b=>⟨xs.length - (i + 1),by omega,rfl,hlt,b⟩,λ x H' y=>?_⟩;obtain ⟨e,y⟩:=y;subst e;exact hs i x σ _ (y xs q) p
 ·have e:i=xs.length:=by omega
  subst e;exact .inl ⟨⟨xs,q,y0 _⟩,hd σ H p⟩
theorem z53 {lo:Int} {n:Nat} {g:TG} {tb:TS} {D:Ends} {σ:St} {H:Hp} (Pv:Nat->St->Hp->Prop) (h0:Pv 0 σ H)
  (hs :∀i σ H,i < n->Pv i σ H->g (.int (lo + i)) σ H λ σ2 H2=>tb { D with nx:=Pv (i + 1),ct:=Pv (i + 1),bk:=D.nx } σ2 H2) (hd :∀σ H,Pv n σ H->D.nx σ H) :
  ∃W:Nat->Nat->St->Hp->Prop,(∃m,W 0 m σ H)/\∀i m σ H,W i m σ H->
   ((Itr lo n).stop i H/\D.nx σ H)\/((Itr lo n).go i H/\∃N:St->Hp->Prop,(∀σ' H',N σ' H'->∃m',m' < m/\W (i + 1) m' σ' H')/\∀x H',(Itr lo n).yld i H x H'->g x σ H' λ σ2 H2=>tb { D with nx:=N,ct:=N,bk:=D.nx } σ2 H2):=by
 refine ⟨λ i m σ H=>m=n - i/\i<=n/\Pv i σ H,⟨n,by simp,A2 _,h0⟩,?_⟩;rintro i m σ H ⟨rfl,hi,p⟩;by_cases hlt:i < n
 ·refine .inr ⟨hlt,Pv (i + 1),λ σ' H' a=>⟨n - (i + 1),by omega,rfl,hlt,a⟩,λ x H' y=>?_⟩;obtain ⟨e,y⟩:=y;subst e y;exact hs i σ _ hlt p
 ·have e:i=n:=by omega
  subst e;exact .inl ⟨y0 _,hd σ H p⟩
noncomputable abbrev R2:=V->V->Hp->VK->Prop
def OpR (X:Cx) (f:Value->Value->Sem Value) (r:R2):Prop:=
 ∀(pins:List (Addr×Obj)) (s:u0) (σ:St) (H:Hp) (x y:V) (v u:Value) (Q:VK),Inv X pins σ H s->RelV x v->RelV y u->r x y H Q->
  N0 (B1 X.prog X.w) X.A (f v u) (EP X pins σ Q) X.xe s
def UnR (X:Cx) (f:Value->Sem Value) (r:V->Hp->VK->Prop):Prop:=
 ∀(pins:List (Addr×Obj)) (s:u0) (σ:St) (H:Hp) (x:V) (v:Value) (Q:VK),Inv X pins σ H s->RelV x v->r x H Q->
  N0 (B1 X.prog X.w) X.A (f v) (EP X pins σ Q) X.xe s
def CallR (X:Cx) (f:Value) (r:List V->Hp->VK->Prop):Prop:=
 ∀(pins:List (Addr×Obj)) (s:u0) (σ:St) (H:Hp) (xs:List V) (us:List Value) (Q:VK),Inv X pins σ H s->Vals xs us->r xs H Q->
  N0 (B1 X.prog X.w) X.A (call f us) (EP X pins σ Q) X.xe s
noncomputable def tOp (r:R2) (ta tb:TE):TE:=λ σ H Q=>ta σ H λ x H1=>tb σ H1 λ y H2=>r x y H2 Q
noncomputable def tUn (r:V->Hp->VK->Prop) (ta:TE):TE:=λ σ H Q=>ta σ H λ x H1=>r x H1 Q
noncomputable def rI (C:Int->Int->Prop) (g:Int->Int->V):R2:=λ x y H Q=>∃i j,x=.int i/\y=.int j/\C i j/\Q (g i j) H
noncomputable def rI0 (g:Int->Int->V):R2:=λ x y H Q=>∃i j,x=.int i/\y=.int j/\Q (g i j) H
def rU (g:Int->V):V->Hp->VK->Prop:=λ x H Q=>∃i,x=.int i/\Q (g i) H
section
variable {X:Cx} {a b c:Expr} {ta tb tc:TE} {pos:Pos}
theorem binT (ha:PE X a ta) (hb:PE X b tb) {pins:List (Addr×Obj)} {s:u0} {σ:St} {H:Hp} {R:V->V->Hp->Prop} (I:Inv X pins σ H s)
  (h:ta σ H λ x H1=>tb σ H1 λ y H2=>R x y H2) {Q:Value->u0->Prop} {f:Value->Value->Sem Value}
  (hf :∀v u s2 x y H2,Inv X pins σ H2 s2->RelV x v->RelV y u->R x y H2->N0 (B1 X.prog X.w) X.A (f v u) Q X.xe s2) :
  N0 (B1 X.prog X.w) X.A (W3 a X.env) (λ v s₁=>N0 (B1 X.prog X.w) X.A (W3 b X.env) (λ u s₂=>N0 (B1 X.prog X.w) X.A (f v u) Q X.xe s₂) X.xe s₁) X.xe s:=by
 refine thn (ha pins s σ H _ I h) λ v c ⟨x,H1,I1,r1,q1⟩=>?_;refine thn (hb pins c σ H1 _ I1 q1) λ u s2 ⟨y,H2,I2,r2,q2⟩=>?_;exact hf v u s2 x y H2 I2 r1 r2 q2
theorem pe_op {op:Operator} {r:R2} (ho:OpR X (z5 op) r) (ha:PE X a ta) (hb:PE X b tb):PE X (.BinOp a op b pos) (tOp r ta tb):=by intro e s σ H Q I h;exact wpAny_BinOp (binT ha hb I h λ v u d x y g i f c q=>ho e d σ g x y v u Q i f c q)
theorem pe_un {op:UnaryOp} {r:V->Hp->VK->Prop} (ho:UnR X (unaryOp op) r) (ha:PE X a ta):PE X (.UnaryOp op a pos) (tUn r ta):=by intro b s σ H Q I h;exact UnaryOp_ (thn (ha b s σ H _ I h) λ v c ⟨x,H1,I1,r1,q1⟩=>ho b c σ H1 x v Q I1 r1 q1)
theorem opI {f:Value->Value->Sem Value} {C:Int->Int->Prop} {g:Int->Int->Int}
  (rule :∀(i j:Int) (t u:Tok) (s:u0) (Q:Value->u0->Prop) (E:Value->u0->Prop),C i j->Q (.int (g i j) s.toks) { s with toks:=s.toks + 1 }->N0 (B1 X.prog X.w) X.A (f (.int i t) (.int j u)) Q E s) :
  OpR X f (rI C λ i j=>.int (g i j)):=by
 intro e s σ H x y v u Q I d a h;obtain ⟨i,j,rfl,rfl,b,q⟩:=h;obtain ⟨t,rfl⟩:=d;obtain ⟨c,rfl⟩:=a;exact rule i j t c s _ _ b ⟨.int (g i j),H,I.tok _,⟨_,rfl⟩,q⟩
theorem opI0 {f:Value->Value->Sem Value} {g:Int->Int->Int}
  (rule :∀(i j:Int) (t u:Tok) (s:u0) (Q:Value->u0->Prop) (E:Value->u0->Prop),Q (.int (g i j) s.toks) { s with toks:=s.toks + 1 }->N0 (B1 X.prog X.w) X.A (f (.int i t) (.int j u)) Q E s) :
  OpR X f (rI0 λ i j=>.int (g i j)):=by
 intro d s σ H x y v u Q I c a h;obtain ⟨i,j,rfl,rfl,q⟩:=h;obtain ⟨t,rfl⟩:=c;obtain ⟨b,rfl⟩:=a;exact rule i j t b s _ _ ⟨.int (g i j),H,I.tok _,⟨_,rfl⟩,q⟩
theorem opB0 {f:Value->Value->Sem Value} {g:Int->Int->Bool}
  (rule :∀(i j:Int) (t u:Tok) (s:u0) (Q:Value->u0->Prop) (E:Value->u0->Prop),Q (.bool (g i j)) s->N0 (B1 X.prog X.w) X.A (f (.int i t) (.int j u)) Q E s) :
  OpR X f (rI0 λ i j=>.bl (g i j)):=by
 intro d s σ H x y v u Q I c a h;obtain ⟨i,j,rfl,rfl,q⟩:=h;obtain ⟨t,rfl⟩:=c;obtain ⟨b,rfl⟩:=a;exact rule i j t b s _ _ ⟨.bl (g i j),H,I,rfl,q⟩
def CPow (i j:Int):Prop:=0<=j/\j<=1000000/\i.natAbs < 2 ^ 64
def CMul (i j:Int):Prop:=(-(2 ^ 64) < i/\i < 2 ^ 64)\/(-(2 ^ 64) < j/\j < 2 ^ 64)
theorem CMul.ok {i j:Int} (h:CMul i j):IntMulOk i j:=by
 rcases h with ⟨a,b⟩|⟨a,b⟩
 ·exact .of_left (intBits_le_64 a b)
 ·exact .of_right (intBits_le_64 a b)
theorem op_add:OpR X (z5 .Add) (rI0 λ i j=>.int (i + j)):=opI0 λ _ _ _ _ _ _ _ q=>add_int q
theorem op_sub:OpR X (z5 .Sub) (rI0 λ i j=>.int (i - j)):=opI0 λ _ _ _ _ _ _ _ q=>sub_int q
theorem op_mul:OpR X (z5 .Mult) (rI CMul λ i j=>.int (i * j)):=opI λ _ _ _ _ _ _ _ a q=>mul_int q a.ok
theorem op_mod:OpR X (z5 .Mod) (rI (λ _ j=>0 < j) λ i j=>.int (i % j)):=opI λ i j _ _ _ _ _ a q=>by have b:(0:Int) < j:=a;exact mod_int' (by omega) (by rw [Int.fmod_eq_emod_of_nonneg i (by omega)];exact q)
theorem op_pow:OpR X (z5 .Pow) (rI CPow λ i j=>.int (i ^ j.toNat)):=opI λ _ _ _ _ _ _ _ a q=>pow_int_small a.1 a.2.1 a.2.2 q
theorem unI {f:Value->Sem Value} {g:Int->Int}
  (rule :∀(i:Int) (t:Tok) (s:u0) (Q:Value->u0->Prop) (E:Value->u0->Prop),Q (.int (g i) s.toks) { s with toks:=s.toks + 1 }->N0 (B1 X.prog X.w) X.A (f (.int i t)) Q E s) :
  UnR X f (rU λ i=>.int (g i)):=by
 intro b s σ H x v Q I a h;obtain ⟨i,rfl,q⟩:=h;obtain ⟨t,rfl⟩:=a;exact rule i t s _ _ ⟨.int (g i),H,I.tok _,⟨_,rfl⟩,q⟩
theorem un_neg:UnR X (unaryOp .USub) (rU λ i=>.int (-i)):=unI λ _ _ _ _ _ q=>neg_int q
end
noncomputable def scal:V->V->Bool
 | .non,.non=>true | .non,.int _=>true | .int _,.non=>true | .non,.bl _=>true | .bl _,.non=>true | .non,.str _=>true | .str _,.non=>true
 | .int _,.int _=>true | .bl _,.bl _=>true | .str _,.str _=>true | .byt _,.byt _=>true
 | .int _,.str _=>true | .str _,.int _=>true | .bl _,.str _=>true | .str _,.bl _=>true
 | _,_=>false
noncomputable def rEq:R2:=λ x y H Q=>scal x y=true/\Q (.bl (decide (x=y))) H
theorem zek {i j:Int}:decide (V.int i=V.int j)=(i == j):=by rw [Bool.eq_iff_iff];simp
theorem dec_bl {i j:Bool}:decide (V.bl i=V.bl j)=(i == j):=by rw [Bool.eq_iff_iff];simp
theorem zei {i j:Str}:decide (V.str i=V.str j)=(i == j):=by rw [Bool.eq_iff_iff];simp
theorem zel {i j:Array UInt8}:decide (V.byt i=V.byt j)=(i.toList == j.toList):=by rw [Bool.eq_iff_iff];cases i;cases j;simp
section
variable {X:Cx} {a b c:Expr} {ta tb tc:TE} {pos:Pos}
theorem fin_bl {pins:List (Addr×Obj)} {σ:St} {H:Hp} {s:u0} {Q:VK} {k k':Bool} (I:Inv X pins σ H s) (q:Q (.bl k) H) (e:k=k'):EP X pins σ Q (.bool k') s:=by subst e;exact ⟨.bl k,H,I,rfl,q⟩
theorem op_eq:OpR X (V2 .Eq) rEq:=by
 intro e s σ H x y v u Q I d a h;obtain ⟨c,q⟩:=h;cases x with
 | non=>
  cases d;cases y with
  | non=>cases a;exact PySem.EqNone.eq_none_none (fin_bl I q (by simp))
  | bl j=>cases a;exact PySem.EqNone.eq_none_bool (fin_bl I q (by simp))
  | int j=>obtain ⟨b,rfl⟩:=a;exact PySem.EqNone.eq_none_int (fin_bl I q (by simp))
  | str j=>obtain ⟨b,rfl⟩:=a;exact PySem.EqNone.eq_none_str (fin_bl I q (by simp))
  | _=>exact absurd (show false=true from c) W0
 | bl i=>
  cases d;cases y with
  | non=>cases a;exact PySem.EqNone.eq_bool_none (fin_bl I q (by simp))
  | bl j=>cases a;exact eq_bool (fin_bl I q dec_bl)
  | str j=>obtain ⟨b,rfl⟩:=a;exact PySem.EqMixed.eq_bool_str (fin_bl I q (by simp))
  | _=>exact absurd (show false=true from c) W0
 | int i=>
  obtain ⟨t,rfl⟩:=d;cases y with
  | non=>cases a;exact PySem.EqNone.eq_int_none (fin_bl I q (by simp))
  | int j=>obtain ⟨b,rfl⟩:=a;exact eq_int (fin_bl I q zek)
  | str j=>obtain ⟨b,rfl⟩:=a;exact PySem.EqMixed.eq_int_str (fin_bl I q (by simp))
  | _=>exact absurd (show false=true from c) W0
 | str i=>
  obtain ⟨t,rfl⟩:=d;cases y with
  | non=>cases a;exact PySem.EqNone.eq_str_none (fin_bl I q (by simp))
  | bl j=>cases a;exact PySem.EqMixed.eq_str_bool (fin_bl I q (by simp))
  | int j=>obtain ⟨b,rfl⟩:=a;exact PySem.EqMixed.eq_str_int (fin_bl I q (by simp))
  | str j=>obtain ⟨b,rfl⟩:=a;exact eq_str (fin_bl I q zei)
  | _=>exact absurd (show false=true from c) W0
 | byt i=>
  obtain ⟨t,rfl⟩:=d;cases y with
  | byt j=>obtain ⟨b,rfl⟩:=a;exact PySem.W.eq_bytes (fin_bl I q zel)
  | _=>exact absurd (show false=true from c) W0
 | _=>cases y<;>exact absurd (show false=true from c) W0
theorem op_lt:OpR X (V2 .Lt) (rI0 λ i j=>.bl (decide (i < j))):=opB0 λ _ _ _ _ _ _ _ q=>lt_int q
theorem op_gt:OpR X (V2 .Gt) (rI0 λ i j=>.bl (decide (j < i))):=opB0 λ _ _ _ _ _ _ _ q=>gt_int q
theorem op_isN:OpR X (V2 .Is) (λ x y H Q=>y=.non/\Q (.bl (decide (x=.non))) H):=by
 intro c s σ H x y v u Q I a b h;obtain ⟨rfl,q⟩:=h;cases b;refine is_none_gen (fin_bl I q ?_);cases x<;>first
  | (cases a;rfl)
  | (obtain ⟨t,rfl⟩:=a;rfl)
theorem z1v:OpR X (V2 .IsNot) (λ x y H Q=>y=.non/\Q (.bl (!decide (x=.non))) H):=by
 intro c s σ H x y v u Q I a b h;obtain ⟨rfl,q⟩:=h;cases b;refine isnot_none_gen (fin_bl I q ?_);cases x<;>first
  | (cases a;rfl)
  | (obtain ⟨t,rfl⟩:=a;rfl)
theorem OpR.or {f:Value->Value->Sem Value} {r r':R2} (h:OpR X f r) (h':OpR X f r'):OpR X f (λ x y H Q=>r x y H Q\/r' x y H Q):=by
 intro b s σ H x y v u Q I c a q;rcases q with q|q
 ·exact h b s σ H x y v u Q I c a q
 ·exact h' b s σ H x y v u Q I c a q
theorem nomark (b:Expr) {op:CmpOp} (h:op≠.In:=by decide) (h2:op≠.NotIn:=by decide):o7 op b=false:=by
 have c:(op == CmpOp.In)=false:=by cases op<;>first|rfl|exact absurd rfl h
 have a:(op == CmpOp.NotIn)=false:=by cases op<;>first|rfl|exact absurd rfl h2
 cases b<;>simp [o7,c,a]
theorem z55 {op:CmpOp} {r:R2} (ho:OpR X (V2 op) r) (ha:PE X a ta) (hb:PE X b tb) (hm:o7 op b=false):PE X (.Compare a [op] [b] pos) (tOp r ta tb):=by intro e s σ H Q I h;exact wpAny_Compare1 (binT ha hb I h λ v u d x y g i f c q=>ho e d σ g x y v u Q i f c q) hm
noncomputable def tTest (t:TE):TT:=λ σ H Q=>t σ H λ x H'=>∃k,x=.bl k/\Q k H'
theorem z07 {op:CmpOp} {r:R2} (ho:OpR X (V2 op) r) (ha:PE X a ta) (hb:PE X b tb) (hm:o7 op b=false):PT X (.Compare a [op] [b] pos) (tTest (tOp r ta tb)):=by
 intro d s σ H Q I h;refine wpAny_isTrue_Compare1 (thn (ha d s σ H _ I h) λ v g ⟨x,H1,I1,r1,q1⟩=>thn (hb d g σ H1 _ I1 q1) λ u f ⟨y,H2,I2,r2,q2⟩=>thn (ho d f σ H2 x y v u _ I2 r1 r2 q2) λ c i ⟨z,H3,I3,r3,k,e,q3⟩=>?_) hm;subst e;cases r3;exact F3 ⟨H3,I3,q3⟩
noncomputable def tChain (r r':R2) (ta tb tc:TE):TE:=λ σ H Q=>ta σ H λ x H1=>tb σ H1 λ y H2=>r x y H2 λ z H3=>∃k,z=.bl k/\
 (if k=true then tc σ H3 λ w' H4=>r' y w' H4 Q else Q (.bl false) H3)
theorem zce {op op':CmpOp} {r r':R2} (ho:OpR X (V2 op) r) (ho':OpR X (V2 op') r') (ha:PE X a ta) (hb:PE X b tb) (hc:PE X c tc)
  (hm:lastMarks [op,op'] [b,c]=false:=by with_unfolding_all rfl):PE X (.Compare a [op,op'] [b,c] pos) (tChain r r' ta tb tc):=by
 intro f s σ H Q I h;refine Compare_chain (thn (ha f s σ H _ I h) λ v l ⟨x,H1,I1,r1,q1⟩=>chain_link (thn (hb f l σ H1 _ I1 q1) λ u i ⟨y,H2,I2,r2,q2⟩=>thn (ho f i σ H2 x y v u _ I2 r1 r2 q2) λ d j ⟨z,H3,I3,r3,k,e,q3⟩=>?_)) hm;subst e;cases r3;refine F3 ?_;cases k with
 | false=>exact ite_ff ⟨.bl false,H3,I3,rfl,q3⟩
 | true=>exact ite_tt (chain_last (thn (hc f j σ H3 _ I3 q3) λ m g ⟨z',H4,I4,r4,q4⟩=>ho' f g σ H4 y z' u m Q I4 r2 r4 q4))
theorem line63:(sizeLine:Nat) < 2 ^ 63:=by rw [O5];decide
theorem op_add_str:OpR X (z5 .Add) (λ x y H Q=>∃i j,x=.str i/\y=.str j/\i.length + j.length<=sizeLine/\Q (.str (i++j)) H):=by intro e s σ H x y v u Q I d a h;obtain ⟨i,j,rfl,rfl,b,q⟩:=h;obtain ⟨t,rfl⟩:=d;obtain ⟨c,rfl⟩:=a;exact add_str (λ c f=>⟨.str (i++j),H,I.tok _,⟨_,rfl⟩,q⟩) b
theorem vals1 {x:V} {us:List Value} (r:Vals [x] us) :∃u,us=[u]/\RelV x u:=by
 cases r with
 | cons r1 r2=>cases r2;exact ⟨_,rfl,r1⟩
theorem vals2 {x y:V} {us:List Value} (r:Vals [x,y] us) :∃u w',us=[u,w']/\RelV x u/\RelV y w':=by
 cases r with
 | cons r1 r2=>
  cases r2 with
  | cons r3 r4=>cases r4;exact ⟨_,_,rfl,r1,r3⟩
end
structure ObjM (h:Heap) (x dx C:Addr) (mA:Str->Option Value):Prop where
 obj:h.get? x=some (B8 C dx)
 ns:h.Ns1 dx mA
 ne:dx≠x
theorem zb4 {h:Heap} {dx:Addr} {mA:Str->Option Value} (n:h.Ns1 dx mA) :∃od,h.get? dx=some od/\∀name,J8 name od=some (mA name):=by
 obtain ⟨o,b,k,g,hd,f,_,c⟩:=n;refine ⟨o,g,λ name=>?_⟩;have e:=c name;unfold nsFind findBy at e;rw [<-Array.find?_toList] at e;unfold J8;rw [hd];dsimp only;split
 ·rename_i y q;rw [q] at e;exact congrArg some e
 ·rename_i q;rw [q] at e;have a:b.toList.any (·.refKey)=false:=by rw [List.any_eq_false];intro y d;obtain ⟨z,t,i⟩:=f y (Array.mem_toList_iff.mp d);simp [DictEntry.refKey,i]
  have j:¬ b.toList.any (·.refKey)=true:=by rw [a];exact W0
  rw [if_neg j];exact congrArg some e
theorem ObjM.look {h:Heap} {x dx C:Addr} {mA:Str->Option Value} (I:ObjM h x dx C mA) :∃od,PySem.W.InstAt h x (B8 C dx) C (some od)/\∀name,J8 name od=some (mA name):=
 let ⟨od,ho,hl⟩:=zb4 I.ns
 ⟨od,⟨I.obj,rfl,rfl,ho⟩,hl⟩
theorem RelO.some_of {v:V} {o:Option Value} (r:RelO (some v) o) :∃u,o=some u/\RelV v u:=by
 cases o with
 | none=>exact (show False from r).elim
 | some u=>exact ⟨u,rfl,r⟩
section
variable {P:Program} {w:Z0} {H H':Hp} {h h':Heap} {a C dx:Addr} {fs fs':List (Str×V)}
theorem zeb (hok:HOk P w H h) (e:H a=some (.ins C dx fs)) :∃mA,ObjM h a dx C mA/\(∀f,RelO (fs.lookup f) (mA f))/\PySem.Within mA (fs.map (·.1))/\fs.length<=1000/\H dx=some (.own a):=by
 obtain ⟨d,z,ne,b,mA,n,r,q⟩:=(show ObjOk P w H h a (.ins C dx fs) from hok a _ e)
 exact ⟨mA,⟨b,n,ne⟩,r,q,z,d⟩
end
structure Cls (K:c0) (C:Addr):Prop where
 pg:PySem.W.plainGet K C Str.empty=true
 hd:PySem.W.hasDictIn K C=true
 po:PySem.W.plainOver K C=true
 sa:p6 K (.ref C) "__setattr__" = some (some (.builtin "object.__setattr__"))
theorem Cls.get {K:c0} {C:Addr} (c:Cls K C) (f:Str):PySem.W.plainGet K C f=true:=c.pg
structure Con (K:c0) (C:Addr) (f:Str) (v:V) (u:Value):Prop where
 at_:p6 K (.ref C) f=some (some u)
 rel:RelV v u
 get:j02 K u "__get__" = some none
 cp:PySem.W.copiedNames.contains f=false
structure Meth (K:c0) (C:Addr) (m:Str) (f:Addr):Prop where
 at_:p6 K (.ref C) m=some (some (.ref f))
 fn:PySem.W.isFn K (.ref f)=true
 kp:j4 K (.ref f)=true
section
variable {X:Cx} {pins:List (Addr×Obj)} {σ:St} {H:Hp} {s:u0} {A:C2} {E:Value->u0->Prop} {Q:Value->u0->Prop} {c:Value} {b:Bool}
inductive TyOf (K:c0) (H:Hp):V->Value->Prop where
 | non:TyOf K H .non (.type "NoneType")
 | bl (x:Bool):TyOf K H (.bl x) (.type "bool")
 | int (i:Int):TyOf K H (.int i) (.type "int")
 | str (x:Str):TyOf K H (.str x) (.type "str")
 | flt (x:UInt64):TyOf K H (.flt x) (.type "float")
 | lst {a:Addr} {xs:List V} (e:H a=some (.lst xs)):TyOf K H (.ref a) (.type "list")
 | frz {a:Addr} {o:Obj} {xs:List V} (e:H a=some (.frz o (.lst xs))):TyOf K H (.ref a) (.type "list")
 | tup {a:Addr} {xs:List V} (e:H a=some (.tup xs)):TyOf K H (.ref a) (.type "tuple")
 | dK {a:Addr} {kvs:List (Key×V)} (e:H a=some (.dK kvs)):TyOf K H (.ref a) (.type "dict")
 | dT {a:Addr} {kvs:List (List Key×V)} (e:H a=some (.dT kvs)):TyOf K H (.ref a) (.type "dict")
 | ins {a C dx:Addr} {fs:List (Str×V)} (e:H a=some (.ins C dx fs)) (cl:Cls K C) (ha:p6 K (.ref C) "__class__" = some (some (.builtin "object.__class__")))
   (hn:j02 K (.builtin "object.__class__") "__get__" = some (some (.builtin "getset_descriptor.__get__"))) (htk:PySem.W.takesIn K (.builtin "object.__class__")=some true)
   (hm:PySem.W.mroIn K C (.type "object")=some true):TyOf K H (.ref a) (.ref C)
theorem zb6 {x:V} {u t:Value} (I:Inv X pins σ H s) (rx:RelV x u) (ty:TyOf X.K H x t) (e:PySem.W.kitOne X.K t c=some b) (h :∀tk,Q (.bool b) { s with toks:=tk }) :
  N0 (B1 X.prog X.w) A (call (.builtin "isinstance") [u,c]) Q E s:=by
 cases ty with
 | non=>cases (show u=X6 from rx);exact Y2 PySem.W.kitx_none I.kIn True.intro e (λ z=>nomatch z) h
 | bl y=>cases (show u=W8 y from rx);exact Y2 PySem.W.kitx_bool I.kIn True.intro e (λ z=>nomatch z) h
 | int i=>obtain ⟨t,q⟩:=(show∃t,u=v6 i t from rx);cases q;exact Y2 PySem.W.kitx_int I.kIn True.intro e (λ z=>nomatch z) h
 | str y=>obtain ⟨t,q⟩:=(show∃t,u=z8 y t from rx);cases q;exact Y2 PySem.W.kitx_str I.kIn True.intro e (λ z=>nomatch z) h
 | flt y=>obtain ⟨t,q⟩:=(show∃t,u=Value.float y t from rx);cases q;exact Y2 PySem.W.kitx_float I.kIn True.intro e (λ z=>nomatch z) h
 | @lst a f ea=>
  cases (show u=P1 a from rx);obtain ⟨_,_,n,_,d⟩:=(show ObjOk X.prog X.w H s.heap a (.lst f) from I.hok a _ ea)
  exact Y2 j03 I.kIn ⟨_,d,rfl⟩ e (λ z=>nomatch z) h
 | @frz a ob f ea=>
  cases (show u=P1 a from rx);obtain ⟨_,_,_,n,_,d⟩:=(show ObjOk X.prog X.w H s.heap a (.frz ob (.lst f)) from I.hok a _ ea)
  exact Y2 j03 I.kIn ⟨_,d,rfl⟩ e (λ z=>nomatch z) h
 | @tup a f ea=>
  cases (show u=P1 a from rx);obtain ⟨_,_,_,p,_⟩:=(show ObjOk X.prog X.w H s.heap a (.tup f) from I.hok a _ ea)
  obtain ⟨o,d,g,_⟩:=p;exact Y2 PySem.W.kitx_tuple I.kIn ⟨o,d,g⟩ e (λ z=>nomatch z) h
 | @dK a kvs ea=>
  cases (show u=P1 a from rx);obtain ⟨_,_,m,_,p⟩:=(show ObjOk X.prog X.w H s.heap a (.dK kvs) from I.hok a _ ea)
  obtain ⟨o,k,j,d,g,_⟩:=p;exact Y2 j04 I.kIn ⟨o,d,g.1⟩ e (λ z=>nomatch z) h
 | @dT a kvs ea=>
  cases (show u=P1 a from rx);obtain ⟨_,_,f,_,o,k,j,d,g,_⟩:=(show ObjOk X.prog X.w H s.heap a (.dT kvs) from I.hok a _ ea)
  exact Y2 j04 I.kIn ⟨o,d,g.1⟩ e (λ z=>nomatch z) h
 | @ins a C dx fs ea cl ha hn htk hm=>cases (show u=P1 a from rx);obtain ⟨l,O,_⟩:=zeb I.hok ea;obtain ⟨r,J,_⟩:=O.look;exact Y2 (PySem.W.kitx_own (cl.get _) cl.hd ha hn htk hm) I.kIn J e (λ z=>nomatch z) h
end
structure Room (k:Nat) (A:C2):Prop where
 hd:A.handled=none
 dp:A.depth + 3 * k + 5 < recursionLimit
 un:A.units + 16 * k + 200 < cLine
 gd:A.guards=some []
theorem Room.mono {j k:Nat} {A:C2} (r:Room k A) (h:j<=k):Room j A:=⟨r.hd,by have:=r.dp;omega,by have:=r.un;omega,r.gd⟩
theorem Room.deeper {k:Nat} {A:C2} (r:Room (k + 1) A) (env:Env):Room k (A.deeper env):=
 ⟨r.hd,by have:=r.dp;show A.depth + 1 + 3 * k + 5 < _;omega,by have:=r.un;show A.units + 3 + 16 * k + 200 < _;omega,r.gd⟩
theorem Room.in1 {k:Nat} {A:C2} (r:Room (k + 1) A):Room k A.in1:=
 ⟨r.hd,by have:=r.dp;show A.depth + 3 * k + 5 < _;omega,by have:=r.un;show A.units + 1 + 16 * k + 200 < _;omega,r.gd⟩
theorem Room.depth {k:Nat} {A:C2} (r:Room k A):A.depth < recursionLimit:=by have:=r.dp;omega
theorem Room.units {k:Nat} {A:C2} (r:Room k A):A.units + 64 < cLine:=by have:=r.un;omega
noncomputable def tNil:TA:=λ _ H Q=>Q [] H
noncomputable def tCons (ta:TE) (tr:TA):TA:=λ σ H Q=>ta σ H λ x H1=>tr σ H1 λ xs H2=>Q (x :: xs) H2
section
variable {X:Cx} {e:Expr} {es:List Expr} {te:TE} {t:TA} {pos:Pos}
theorem pa_nil:PA X [] tNil:=λ _ _ _ _ H Q I h=>d4 ⟨[],H,I,.nil,h⟩
theorem z00 (ha:PE X e te) (hr:PA X es t) (hs:U1 (e :: es) X.env=(false,W3 e X.env) :: U1 es X.env:=by rfl):PA X (e :: es) (tCons te t):=by intro a b s σ H Q I h;rw [hs];show N0 _ _ (M9 ((false,W3 e X.env) :: q5 a (U1 es X.env))) _ _ s;refine X3 (thn (ha b s σ H _ I h) λ u c ⟨x,H1,I1,r1,q1⟩=>?_);exact thn (hr a b c σ H1 _ I1 q1) λ us d ⟨xs,H2,I2,r2,q2⟩=>⟨x :: xs,H2,I2,.cons r1 r2,q2⟩
noncomputable def tTup (t:TA):TE:=λ σ H Q=>t σ H λ xs H1=>xs.length<=sizeLine/\∀p,H1 p=none->Q (.ref p) (upd H1 p (.tup xs))
noncomputable def tLst (t:TA):TE:=λ σ H Q=>t σ H λ xs H1=>xs.length<=sizeLine/\∀p,H1 p=none->Q (.ref p) (upd H1 p (.lst xs))
theorem pe_tup {x1} (h:PA X es t):PE X (.Tuple es x1 pos) (tTup t):=by intro f s σ H Q I c;refine wpAny_Tuple_spliced (thn (h pos f s σ H _ I c) λ us a ⟨xs,H1,I1,r,z,q⟩=>⟨by rw [<-r.length];exact z,?_⟩);have d:H1 a.heap.objs.size=none:=I1.hok.fresh (y0 _);refine ⟨.ref a.heap.objs.size,upd H1 a.heap.objs.size (.tup xs),I1.laid (t':=a.toks) (λ b u e=>v0 _ e) (y0 _) ?_,rfl,q _ d⟩;exact ⟨z,us,r,IsTupN.new _ _⟩
theorem pe_lst (h:PA X es t):PE X (.List es pos) (tLst t):=by intro f s σ H Q I c;refine wpAny_List_spliced (thn (h pos f s σ H _ I c) λ us a ⟨xs,H1,I1,r,z,q⟩=>⟨by rw [<-r.length];exact z,?_⟩);have d:H1 a.heap.objs.size=none:=I1.hok.fresh (y0 _);refine ⟨.ref a.heap.objs.size,upd H1 a.heap.objs.size (.lst xs),I1.laid (t':=a.toks) (λ b u e=>v0 _ e) (y0 _) ?_,rfl,q _ d⟩;exact ⟨z,us,0,r,J0 _ rfl⟩
end
noncomputable abbrev Sp:=List V->Hp->VK->XK->Prop
noncomputable abbrev CXT:=List Env->Hp->u0->XK->Value->u0->Prop
structure Env0 (P:Program) (w:Z0) (K:c0) (mg:Str->Option Value) (base:Heap) (A:C2) (outer:List Env) (s:u0) (H:Hp):Prop where
 frames:A.frames=some outer
 mod:Mod K mg base
 bs :∀b o,base.get? b=some o->s.heap.get? b=some o/\H b=none
 bsz:base.objs.size<=s.heap.objs.size
 funs:s.heap.FunFrames base outer
 frf :∀b∈frs outer,H b=none
 hok:HOk P w H s.heap
 bare:j7 s.gens
def CE (outer:List Env) (P:Program) (w:Z0) (H:Hp) (s:u0) (Q:VK) (u:Value) (s':u0):Prop:=
 ∃v H',s'.os=s.os/\j7 s'.gens/\Un (frs outer) [] H H' s.heap s'.heap/\HOk P w H' s'.heap/\RelV v u/\Q v H'
def CR (CX:CXT) (outer:List Env) (P:Program) (w:Z0) (H:Hp) (s:u0) (Q:VK) (E:XK) (r:Result) (s':u0):Prop:=
 match r with
 | .ok (.ret u)=>CE outer P w H s Q u s'
 | .ok _=>False
 | .error e=>CX outer H s E e s'
structure FnOk (P:Program) (w:Z0) (K:c0) (mg:Str->Option Value) (base:Heap) (CX:CXT) (k:Nat) (f:Addr) (fd:FuncData) (ps:List Str) (sp:Sp):Prop where
 len :∀vs H Q E,sp vs H Q E->vs.length=ps.length
 run :∀(A:C2) (outer:List Env) (s:u0) (H:Hp) (args:Args) (us:List Value) (vs:List V) (Q:VK) (E:XK),Room k A->Env0 P w K mg base A outer s H->BindsTo s fd args (ps.zip us)->Vals vs us->sp vs H Q E->
  K6 (B1 P w) A (.call (.ref f) args) (CR CX outer P w H s Q E) s
theorem Env0.in1 {P:Program} {w:Z0} {K:c0} {mg:Str->Option Value} {base:Heap} {A:C2} {outer:List Env} {s:u0} {H:Hp} (e:Env0 P w K mg base A outer s H) :
  Env0 P w K mg base A.in1 outer s H:=⟨e.frames,e.mod,e.bs,e.bsz,e.funs,e.frf,e.hok,e.bare⟩
section
variable {X:Cx} {pins:List (Addr×Obj)} {σ:St} {H:Hp} {s s':u0}
theorem Inv.env0 (I:Inv X pins σ H s):Env0 X.prog X.w X.K X.mg X.base X.A X.stack s H:=
 ⟨I.ok.frames,I.ok.mod,I.bs,D0 I.ok.bsz I.sz,I.stack,I.stkFree,I.hok,I.bare⟩
theorem Inv.after {Q:VK} {u:Value} (I:Inv X pins σ H s) (h:CE X.stack X.prog X.w H s Q u s'):EP X pins σ Q u s':=by obtain ⟨v,c,j,i,un,f,r,q⟩:=h;obtain ⟨a,g,d,t,e⟩:=s';obtain rfl:e=s.os:=j;exact ⟨v,c,I.call (h':=a) (g':=g) (d':=d) (t':=t) (ch:=[]) un f i (λ b z=>absurd z (by simp)),r,q⟩
end
noncomputable def tCall (sp:Sp) (dvs:List V) (E:XK) (t:TA):TE:=λ σ H Q=>t σ H λ vs H1=>sp (vs++dvs) H1 Q E
def Binds (K:c0) (fd:FuncData) (ps:List Str) (ds:List Value):Prop:=
 ∀(s:u0) (us:List Value),K.In s.heap->(us++ds).length=ps.length->BindsTo s fd ⟨us,[]⟩ (ps.zip (us++ds))
theorem Binds.all {K:c0} {fd:FuncData} {ps:List Str} (h :∀us:List Value,us.length=ps.length->bindArgs fd ⟨us,[]⟩=Z3 (ps.zip us)):Binds K fd ps []:=λ s us _ a=>by rw [E3] at a⊢;exact .of_eq (h us a)
def Passes (CX:CXT) (X:Cx) (E:XK):Prop:=∀(pins:List (Addr×Obj)) (σ:St) (H:Hp) (s:u0) (e:Value) (s':u0),Inv X pins σ H s->CX X.stack H s E e s'->X.xe e s'
section
variable {X:Cx} {CX:CXT} {k:Nat} {f C:Addr} {fd:FuncData} {ps:List Str} {sp:Sp} {dvs:List V} {ds:List Value} {E:XK} {x m:Str} {p pos apos:Pos} {e o:Expr} {es:List Expr} {ta:TE} {t:TA}
theorem run_fn {pins:List (Addr×Obj)} {σ:St} {H:Hp} {s:u0} {Q:VK} {us:List Value} {vs:List V} (F:FnOk X.prog X.w X.K X.mg X.base CX k f fd ps sp) (hr:Room k X.A) (hb:Binds X.K fd ps ds) (hd:Vals dvs ds) (hx:Passes CX X E)
  (I:Inv X pins σ H s) (r:Vals vs us) (h:sp (vs++dvs) H Q E):N0 (B1 X.prog X.w) X.A (call (.ref f) us) (EP X pins σ Q) X.xe s:=by
 have b:Vals (vs++dvs) (us++ds):=r.append hd;have d:(us++ds).length=ps.length:=by rw [<-b.length];exact F.len _ _ _ _ h
 refine wpAny_call (J6 (F.run X.A X.stack s H ⟨us,[]⟩ (us++ds) (vs++dvs) Q E hr I.env0 (hb s us I.kIn d) b h) λ r c a=>?_);cases r with
 | error e=>exact hx pins σ H s e c I a
 | ok fl=>
  cases fl with
  | ret u=>exact I.after a
  | next=>exact T4 a
  | brk=>exact T4 a
  | cont=>exact T4 a
theorem zdo (F:FnOk X.prog X.w X.K X.mg X.base CX k f fd ps sp) (hr:Room k X.A) (hg:Gl X x) (hm:X.mg x=some (.ref f)) (hk:j4 X.K (.ref f)=true) (hb:Binds X.K fd ps ds) (hd:Vals dvs ds) (hx:Passes CX X E)
  (ha:PA X (e :: es) t) (hdb:(x == ("__debug__" : Str))=false:=by decide) (he:U1 (e :: es) X.env=(false,W3 e X.env) :: U1 es X.env:=by rfl) (hpl:(q5 pos (U1 es X.env)).any (·.1)=false:=by rfl) :
  PE X (.Call (.Name x p) (e :: es) [] pos) (tCall sp dvs E t):=by
 intro a s σ H Q I h;refine P3 (zc5 I hg hm ?_ hdb);refine PySem.W.callWith_K (h₀:=X.base) I.ok.mod.kin hk (thn (ha pos a s σ H _ I h) λ us b ⟨vs,H1,I1,r,q⟩=>⟨I1.kIn,?_⟩) he hpl;exact run_fn F hr hb hd hx I1 r q
structure Mk (K:c0) (C f:Addr):Prop where
 makes:PySem.W.makesIn K C=true
 init:p6 K (.ref C) "__init__" = some (some (.ref f))
 fn:PySem.W.isFn K (.ref f)=true
 kp:j4 K (.ref C)=true
end
section
variable {X:Cx} {CX:CXT} {k:Nat} {f C:Addr} {fd:FuncData} {ps ks:List Str} {sp:Sp} {E:XK} {x m:Str} {p pos apos kpos:Pos} {e o:Expr} {es:List Expr} {kws:List O7} {te ta:TE} {t tk:TA} {nm:Option Str}
structure KBinds (K:c0) (fd:FuncData) (ps ks:List Str) (g:List Value->List Value->List Value) (gV:List V->List V->List V):Prop where
 to :∀(s:u0) (us ws:List Value),K.In s.heap->(g us ws).length=ps.length->BindsTo s fd ⟨us,ks.zip ws⟩ (ps.zip (g us ws))
 rel :∀{vs:List V} {us:List Value} {zs:List V} {ws:List Value},Vals vs us->Vals zs ws->Vals (gV vs zs) (g us ws)
variable {g:List Value->List Value->List Value} {gV:List V->List V->List V}
end
structure FnScope (N P:List Str) (sc:Scope):Prop where
 kind:sc.kind=.function
 co:sc.isCoroutine=false
 gen:sc.isGenerator=false
 nd:N.Nodup
 pre:N.take P.length=P
 par :∀x∈P,sc.names.lookup x=some .local\/sc.names.lookup x=some .cell
 nofree :∀y∈sc.names,y.2≠.free
theorem z7q {kindOf:Str->Option X5} {x:Str} :∀{binds:List (Str×Value)} {m:Str->Option Value},(∀v,(x,v)∉binds)->bindL kindOf binds m x=m x
 | [],_,_=>rfl
 | (n,v) :: r,m,h=>by
  unfold bindL;rw [z7q λ w a=>h w (T2 _ a)];split
  ·have:x≠n:=by rintro rfl;exact h v d3
   simp [this]
  ·rfl
theorem z77 {kindOf:Str->Option X5} {x:Str} :∀{binds:List (Str×Value)} {m:Str->Option Value},(∀v,(x,v)∉binds)->bindC kindOf binds m x=m x
 | [],_,_=>rfl
 | (n,v) :: r,m,h=>by
  unfold bindC;rw [z77 λ w a=>h w (T2 _ a)];split
  ·rfl
  ·have:x≠n:=by rintro rfl;exact h v d3
   simp [this]
theorem z7d {kindOf:Str->Option X5} {x:Str} {v:Value} :∀{P:List Str} {vs:List Value} {i:Nat} {m:Str->Option Value},P.Nodup->P[i]? = some x->vs[i]? = some v->kindOf x=some .local->
  bindL kindOf (P.zip vs) m x=some v
 | [],_,_,_,_,h,_,_=>by simp at h
 | _ :: _,[],_,_,_,_,h,_=>by simp at h
 | p :: P,w :: vs,0,m,nd,h1,h2,hk=>by simp at h1 h2;subst h1;subst h2;show bindL kindOf ((p,w) :: P.zip vs) m p=_;unfold bindL;rw [z7q λ v a=>(List.nodup_cons.mp nd).1 (d6 a).1,if_pos hk];simp
 | p :: P,w :: vs,i + 1,m,nd,h1,h2,hk=>by show bindL kindOf ((p,w) :: P.zip vs) m x=_;unfold bindL;exact z7d (i:=i) (List.nodup_cons.mp nd).2 (by simpa using h1) (by simpa using h2) hk
theorem z7g {kindOf:Str->Option X5} {x:Str} {v:Value} :∀{P:List Str} {vs:List Value} {i:Nat} {m:Str->Option Value},P.Nodup->P[i]? = some x->vs[i]? = some v->kindOf x≠some .local->
  bindC kindOf (P.zip vs) m x=some v
 | [],_,_,_,_,h,_,_=>by simp at h
 | _ :: _,[],_,_,_,_,h,_=>by simp at h
 | p :: P,w :: vs,0,m,nd,h1,h2,hk=>by simp at h1 h2;subst h1;subst h2;show bindC kindOf ((p,w) :: P.zip vs) m p=_;unfold bindC;rw [z77 λ v a=>(List.nodup_cons.mp nd).1 (d6 a).1,if_neg hk];simp
 | p :: P,w :: vs,i + 1,m,nd,h1,h2,hk=>by show bindC kindOf ((p,w) :: P.zip vs) m x=_;unfold bindC;exact z7g (i:=i) (List.nodup_cons.mp nd).2 (by simpa using h1) (by simpa using h2) hk
noncomputable def start (N:List Str) (vs:List V):St:=vs.map some++N2 (N.length - vs.length) none
noncomputable def cxOf (CX:CXT) (P:Program) (w:Z0) (K:c0) (mg:Str->Option Value) (base:Heap) (N:List Str) (qual:Str) (scope:Scope) (f:Addr) (cd:Value) (A:C2) (outer:List Env) (s:u0) (H:Hp) (E:XK):Cx where
 prog:=P
 w:=w
 K:=K
 mg:=mg
 base:=base
 A:=A.deeper (c8 qual scope s.heap.objs.size f cd)
 N:=N
 s₀:=s
 H₀:=H
 env:=c8 qual scope s.heap.objs.size f cd
 outer:=outer
 stack:=c8 qual scope s.heap.objs.size f cd :: outer
 ex:=[]
 calm:=true
 fn:=λ _=>true
 pn:=[]
 xe:=λ e s'=>N0 (B1 P w) (A.deeper (c8 qual scope s.heap.objs.size f cd)) («leaving» (c8 qual scope s.heap.objs.size f cd) e) (λ _ s''=>CX outer H s E e s'') (λ e' s''=>CX outer H s E e' s'') s'
theorem z9f {sc:Scope} {n:Nat} {x:Str} (h:sc.names.lookup x=some .cell) :∃c,(cellsFrom n sc.names []).lookup x=some c:=by have q:=U6 sc.names n [] (.inl h);exact Option.isSome_iff_exists.mp q
theorem z7o {CX:CXT} {P:Program} {w:Z0} {K:c0} {mg:Str->Option Value} {base:Heap} {N ps:List Str} {qual:Str} {scope:Scope} {f:Addr} {cd:Value} {A:C2} {outer:List Env} {s s1:u0} {H:Hp} {E:XK} {us:List Value} {vs:List V}
  (S:FnScope N ps scope) (hd:A.handled=none) (e0:Env0 P w K mg base A outer s H) (hl:vs.length=ps.length) (r:Vals vs us)
  (x:InCallC s s.heap.objs.size (bindL (c8 qual scope s.heap.objs.size f cd).kindOf (ps.zip us) λ _=>none) (cellsFrom (s.heap.objs.size + 1) scope.names []) (bindC (c8 qual scope s.heap.objs.size f cd).kindOf (ps.zip us) λ _=>none) s1) :
  Inv (cxOf CX P w K mg base N qual scope f cd A outer s H E) [] (start N vs) H s1:=by
 have I:ps.length<=N.length:=by have:=congrArg M8 S.pre;rw [V3] at this;omega
 obtain ⟨l,G,rfl,C⟩:=x.done;have o :∀b:Addr,b∉(cxOf CX P w K mg base N qual scope f cd A outer s H E).ex:=λ b z=>absurd (show b∈([]:List Addr) from z) (by simp);refine ⟨⟨e0.mod,S.kind,rfl,rfl,y0 _,λ y z c l d=>?_,λ y g=>?_,λ y c _ h=>?_,λ _=>hd,Around.frames_deeper e0.frames,.inr ⟨rfl,rfl⟩,λ b z=>absurd z (o b),e0.bs,e0.bsz,λ b _ _=>o b,λ b z=>absurd z (o b),e0.funs,e0.frf⟩,
  rfl,e0.bare,Un.kept C,⟨_,x.toInCall.ns,λ i y v l d J=>?_⟩,λ y c h=>⟨_,x.cell y c h⟩,e0.hok.fresh (y0 _),λ y c h=>?_,λ p j=>absurd (show p∈([]:List (Addr×Obj)) from j) (by simp),e0.hok.kept C,?_⟩
 ·exact name_of_addr x.apart (c5 l) (c5 d)
 ·have g:scope.names.lookup y=some .cell\/scope.names.lookup y=some .free:=g;rcases g with g|g
  ·exact z9f g
  ·exact absurd rfl (S.nofree _ (c5 g))
 ·exact U3 (x.above y c (c5 h))
 ·have m:i < vs.length:=by
   unfold start at d;by_cases m:i < vs.length
   ·exact m
   ·rw [F1 (by simpa using m)] at d;rw [W6] at d;split at d<;>cases d
  have F:vs[i]? = some v:=by
   unfold start at d;rw [Y0 (by simpa using m),N1] at d;cases e:vs[i]? with
   | none=>rw [e] at d;cases d
   | some a=>rw [e] at d;cases d;rfl
  obtain ⟨u,B,D⟩:=r.get F;have j:ps[i]? = some y:=by rw [<-S.pre,List.getElem?_take_of_lt (by omega)];exact l
  have t:ps.Nodup:=by rw [<-S.pre];exact S.nd.sublist (List.take_sublist _ _)
  refine ⟨u,D,?_⟩;rcases S.par y (d0 j) with k|k
  ·exact .inl ⟨k,z7d t j B k⟩
  ·obtain ⟨c,e⟩:=z9f (n:=s.heap.objs.size + 1) k;refine .inr ⟨.inl k,c,e,?_⟩;have q:=x.cell y c e;rw [z7g t j B (by show scope.names.lookup y≠_;rw [k];decide)] at q;exact q
 ·exact e0.hok.fresh (U3 (x.above y c (c5 h)))
 ·unfold start;show _=N.length;rw [F0,A0,L3];omega
theorem fn_of {CX:CXT} {P:Program} {w:Z0} {K:c0} {mg:Str->Option Value} {base:Heap} {k:Nat} {f:Addr} {name qual:Str} {params:Arguments} {body:List Stmt} {scope:Scope} {dV kV doc pm cdv ct oc:Value} {an od:Option Addr}
  {osl:Array (Option Value)} {N ps:List Str} {sp:Sp} (lk:K.lookup f=some ⟨oc,od,.func (w5 name qual params body scope dV kV doc pm an cdv ct),osl⟩) (hcd:z7 K cdv qual=true) (S:FnScope N ps scope)
  (len :∀vs H Q E,sp vs H Q E->vs.length=ps.length)
  (hbody :∀(A:C2) (outer:List Env) (s:u0) (H:Hp) (vs:List V) (Q:VK) (E:XK),Room k (A.deeper (c8 qual scope s.heap.objs.size f cdv))->sp vs H Q E->
   ∃t,PSs (cxOf CX P w K mg base N qual scope f cdv A outer s H E) body t/\t { nx:=λ _ H'=>Q .non H',rt:=Q } (start N vs) H) :
  FnOk P w K mg base CX (k + 1) f (w5 name qual params body scope dV kV doc pm an cdv ct) ps sp:=by
 refine ⟨len,λ A outer s H M us vs Q E h c G r j=>?_⟩;have B:=len _ _ _ _ j;have KX:K.In s.heap:=c.mod.kin.keeps λ b o e=>(c.bs b o e).1;have C:s.heap.NoLimit:=c.mod.nolimit.keeps λ b o e=>(c.bs b o e).1;have p :∀y∈ps.zip us,scope.names.lookup y.1=some .local\/(scope.names.lookup y.1=some .cell/\((cellsFrom (s.heap.objs.size + 1) scope.names []).lookup y.1).isSome=true):=λ ⟨n,v⟩ hy=>by
  rcases S.par n (d6 hy).1 with q|q
  ·exact .inl q
  ·exact .inr ⟨q,U6 _ _ _ (.inl q)⟩
 refine codeAny_call_function h.depth (KX _ _ lk) rfl S.co S.gen rfl (PySem.W.codeRec_of KX hcd) (G _ _ _ _ ?_);refine P9 S.kind p λ L F l x=>?_;subst F;refine ⟨C.keeps x.toInCall.keep,codeAny_func ?_⟩;obtain ⟨t,m,D⟩:=hbody A outer s H vs Q E (h.deeper _) j;have I:Inv (cxOf CX P w K mg base N qual scope f cdv A outer s H E) [] (start N vs) H l:=z7o S h.hd c B r x;refine K3 (m [] l (start N vs) H _ I D) (λ z g a=>?_) λ e g a=>a;have fin :∀{d:St} {H':Hp} {v:V} {u:Value},Inv (cxOf CX P w K mg base N qual scope f cdv A outer s H E) [] d H' g->RelV v u->Q v H'->CE outer P w H s Q u g:=
  λ {d H' v u} J i q=>⟨v,H',J.os,J.bare,J.base,J.hok,i,q⟩
 cases z with
 | ret u=>obtain ⟨v,d,H',J,i,q⟩:=a;exact fin J i q
 | next=>obtain ⟨d,H',J,q⟩:=a;exact fin (v:=V.non) (u:=X6) J rfl q
 | brk=>obtain ⟨_,_,_,q⟩:=a;exact T4 q
 | cont=>obtain ⟨_,_,_,q⟩:=a;exact T4 q
section
variable {X:Cx} {x:Str} {p pos:Pos} {e:Expr} {es:List Expr} {t:TA} {id T:String} {r:List V->Hp->VK->Prop}
noncomputable def tCB (r:List V->Hp->VK->Prop) (t:TA):TE:=λ σ H Q=>t σ H λ vs H1=>r vs H1 Q
theorem z0n (hc:CallR X (.builtin id) r) (hg:Gl X x) (hm:X.mg x=none) (hv:P4 x=some (.builtin id)) (ha:PA X (e :: es) t) (hn:x≠"__name__":=by decide) (hdb:(x == ("__debug__" : Str))=false:=by decide)
  (he:U1 (e :: es) X.env=(false,W3 e X.env) :: U1 es X.env:=by rfl) (hpl:(q5 pos (U1 es X.env)).any (·.1)=false:=by rfl):PE X (.Call (.Name x p) (e :: es) [] pos) (tCB r t):=by
 intro a s σ H Q I h;refine P3 (ld_blt I hg hm hv ?_ hn hdb);exact J7 (thn (ha pos a s σ H _ I h) λ us b ⟨vs,H1,I1,r1,q1⟩=>hc a b σ H1 vs us Q I1 r1 q1) he hpl
theorem z32 (hc:CallR X (.type T) r) (hg:Gl X x) (hm:X.mg x=none) (hv:P4 x=some (.type T)) (ha:PA X (e :: es) t) (hn:x≠"__name__":=by decide) (hdb:(x == ("__debug__" : Str))=false:=by decide)
  (he:U1 (e :: es) X.env=(false,W3 e X.env) :: U1 es X.env:=by rfl) (hpl:(q5 pos (U1 es X.env)).any (·.1)=false:=by rfl):PE X (.Call (.Name x p) (e :: es) [] pos) (tCB r t):=by
 intro a s σ H Q I h;refine P3 (ld_blt I hg hm hv ?_ hn hdb);exact F2 (thn (ha pos a s σ H _ I h) λ us b ⟨vs,H1,I1,r1,q1⟩=>hc a b σ H1 vs us Q I1 r1 q1) he hpl
end
end L2
namespace HT
open PySem PyProof.Rows
section
variable {prog:Program} {w:Z0} {A:C2} {E:Value->u0->Prop} {s:u0}
theorem cat_tup {t b:Addr} {vs ws:List Value} {Q:Value->u0->Prop} (ht:IsTup s.heap t vs.toArray) (hb:IsTup s.heap b ws.toArray) (hv:vs≠[])
  (h1:ws=[]->Q (.ref t) s) (h2:ws≠[]->Q (.ref s.heap.objs.size) { s with heap:=s.heap.push { cls:=.type "tuple",data:=.seq (vs++ws).toArray } })
  (hsz:vs.length + ws.length<=sizeLine):N0 (B1 prog w) A (z5 .Add (.ref t) (.ref b)) Q E s:=by
 obtain ⟨⟨cls,h,data,i⟩,c,f,n,hd⟩:=id ht;obtain ⟨⟨m,d,o,g⟩,a,l,j,k⟩:=id hb;simp only at f hd l k;subst f hd l k;have e:vs.toArray++ws.toArray=(vs++ws).toArray:=by simp
 by_cases hw:ws=[]
 ·exact concat_meets ⟨_,c,rfl⟩ ⟨_,a,rfl⟩ noFill_tuple_add seq_tuple_add r9 d9 (Z8 _ _)
   (tuple_addW1 t b vs.toArray ws.toArray n j h d i g (by simpa using hv) (by simp [hw])) ⟨c,a,h1 hw⟩
 ·refine concat_meets ⟨_,c,rfl⟩ ⟨_,a,rfl⟩ noFill_tuple_add seq_tuple_add r9 d9 (Z8 _ _)
   (tuple_addW2 t b vs.toArray ws.toArray n j h d i g (by simpa using hv) (by simpa using hw) (by rw [I0,I0];exact hsz)) ⟨c,a,?_⟩
  rw [e];exact h2 hw
noncomputable def sIx (n d:Nat):Option Int->Nat
 | none=>d
 | some v=>if v < 0 then (v + (n:Int)).toNat else min v.toNat n
theorem sIx_nat (n d k:Nat):sIx n d (some (k:Int))=min k n:=by show (if (k:Int) < 0 then ((k:Int) + (n:Int)).toNat else min (k:Int).toNat n)=min k n;rw [if_neg (by omega),M5]
theorem sIx_le (n d:Nat) (hd:d<=n) (o:Option Int):sIx n d o<=n:=by
 cases o with
 | none=>exact hd
 | some v=>
  show (if v < 0 then (v + (n:Int)).toNat else min v.toNat n)<=n;by_cases hv:v < 0
  ·rw [if_pos hv];omega
  ·rw [if_neg hv];exact Nat.min_le_right _ _
theorem zby (v:Int) (n d:Nat):(if v < 0 then max (v + (n:Int)) 0 else min v (n:Int))=((sIx n d (some v):Nat):Int):=by
 show (if v < 0 then max (v + (n:Int)) 0 else min v (n:Int))=(((if v < 0 then (v + (n:Int)).toNat else min v.toNat n):Nat):Int);by_cases hv:v < 0
 ·simp only [if_pos hv];omega
 ·simp only [if_neg hv];omega
theorem z9u (lo hi:Option Int) (n:Nat):Y5 lo hi 1 (n:Int)=(((sIx n 0 lo:Nat):Int),((sIx n n hi:Nat):Int)):=by
 have a:¬ ((1:Int) < 0):=by omega
 unfold Y5;simp only [a,if_false];refine Prod.ext ?_ ?_
 ·cases lo with
  | none=>rfl
  | some v=>exact zby v n 0
 ·cases hi with
  | none=>rfl
  | some v=>exact zby v n n
theorem z93 (i j:Nat):K4 (i:Int) (j:Int) 1=j - i:=by
 unfold K4;have a:(1:Int) > 0:=by omega
 simp only [a,if_true,Int.ediv_one];split<;>omega
theorem z5y {v:Value} {o:Option Int} {Q:Option Int->u0->Prop} (p:O8 v o) (h:Q o s):N0 (B1 prog w) A (Builtin.Slice.slicePartIndex v) Q E s:=by
 cases p with
 | none=>exact slicePart_none h
 | int i t=>exact slicePart_int h
theorem z3k {sl:Addr} {vl vu:Value} {lo hi:Option Int} {n:Nat} {Q:Int×Int×Nat->u0->Prop} (hs:s.heap.IsSliceOf sl vl vu .none) (pl:O8 vl lo) (pu:O8 vu hi)
  (h:Q (((sIx n 0 lo:Nat):Int),1,sIx n n hi - sIx n 0 lo) s):N0 (B1 prog w) A (W7 (.ref sl) (Z3 (n:Int))) Q E s:=by
 obtain ⟨c,b,d,a⟩:=id hs;unfold W7 Builtin.Slice.sliceFields;refine o0 (o0 (w6 b a (x:=vl) rfl (o0 (w6 b a (x:=vu) rfl (o0 (w6 b a (x:=.none) rfl (C0 ?_)))))));refine o0 (slicePart_none ?_);show N0 _ _ (if ((1:Int) == 0)=true then _ else _) _ _ s;rw [if_neg (by decide)];refine o0 (z5y pl (o0 (z5y pu (o0 (C0 ?_)))));show N0 _ _ (match Y5 lo hi 1 (n:Int) with|(lo,hi)=>Z3 (lo,(1:Int),K4 lo hi 1)) _ _ s;rw [z9u lo hi n];show N0 _ _ (Z3 (((sIx n 0 lo:Nat):Int),(1:Int),K4 ((sIx n 0 lo:Nat):Int) ((sIx n n hi:Nat):Int) 1)) _ _ s;rw [z93];exact C0 h
theorem zcl (xs:Array Value) (i k:Nat):((U0 k).filterMap λ (m:Nat)=>xs[((i:Int) + (m:Int) * 1).toNat]?).toArray=((xs.toList.drop i).take k).toArray:=by
 have e:(λ (m:Nat)=>xs[((i:Int) + (m:Int) * 1).toNat]?)=λ m=>xs[i + m]?:=by
  funext m;have:((i:Int) + (m:Int) * 1).toNat=i + m:=by omega
  rw [this]
 rw [e];have:=pick_run xs i k;rw [List.filterMap_map] at this;have a:((λ x=>xs[x]?) ∘ λ x=>i + x)=λ m=>xs[i + m]?:=rfl;rw [a] at this;rw [this]
theorem getItem_tuple_cut {t sl:Addr} {items:Array Value} {vl vu:Value} {lo hi:Option Int} {Q:Value->u0->Prop} (ht:IsTup s.heap t items) (hs:s.heap.IsSliceOf sl vl vu .none) (pl:O8 vl lo) (pu:O8 vu hi)
  (hw:¬ (sIx items.size 0 lo=0/\sIx items.size items.size hi=items.size))
  (h:Q (.ref s.heap.objs.size) { s with heap:=s.heap.push { cls:=.type "tuple",data:=.seq ((items.toList.drop (sIx items.size 0 lo)).take (sIx items.size items.size hi - sIx items.size 0 lo)).toArray } })
  (hsz:items.size<=sizeLine):N0 (B1 prog w) A (p8 (.ref t) (.ref sl)) Q E s:=by
 have a:sizeOk (.seq ((items.toList.drop (sIx items.size 0 lo)).take (sIx items.size items.size hi - sIx items.size 0 lo)).toArray):=by show ((items.toList.drop (sIx items.size 0 lo)).take (sIx items.size items.size hi - sIx items.size 0 lo)).toArray.size<=sizeLine;rw [I0,V3,V6,D1];omega
 have k:sIx items.size items.size hi<=items.size:=sIx_le _ _ (y0 _) hi;obtain ⟨e,b,d,j⟩:=id hs;have c:s.TypeIs (.ref sl) "slice":=⟨e,b,d⟩
 unfold p8
 try with_reducible refine D2 ?_
 first|refine o0 (C0 ?_)|skip
 refine o0 (wpAny_sequenceKey ht.typeIs (by decide) ?_);refine o0 (D7 (name:=p7 "__getitem__") ht.typeIs E7
  (n6 E7 ht.typeIs entry_tuple_getitem ?_ (args_tuple_getitem _ _)))
 show N0 _ _ (Builtin.Tuple.tupleItemsOf (.ref t) >>= _) _ _ s;refine o0 (tupleItemsOf_ ht ?_);refine o0 (wpAny_typeOf c ?_);rw [if_pos (by decide)];refine o0 (z3k hs pl pu ?_);have f:¬ ((((sIx items.size 0 lo:Nat):Int) == 0 && (1:Int) == 1 && (sIx items.size items.size hi - sIx items.size 0 lo) == items.size)=true):=by intro q;rw [N3,N3] at q;have g:((sIx items.size 0 lo:Nat):Int)=0:=eq_of_beq q.1.1;have i:sIx items.size items.size hi - sIx items.size 0 lo=items.size:=eq_of_beq q.2;exact hw ⟨by omega,by omega⟩
 show N0 _ _ (if (((sIx items.size 0 lo:Nat):Int) == 0 && (1:Int) == 1 && (sIx items.size items.size hi - sIx items.size 0 lo) == items.size)=true then _ else _) _ _ s;rw [if_neg f,zcl];first
  | exact o0 (m:=Q4 _) (T3 (C0 ⟨_,rfl,C0 h⟩) a)
  | exact o0 (m:=Q4 _) (T3 (o0 (C0 (C0 ⟨_,rfl,C0 h⟩))) a)
  | exact o0 (o0 (m:=Q4 _) (T3 (C0 (C0 ⟨_,rfl,C0 h⟩)) a))
  | exact o0 (o0 (m:=Q4 _) (T3 (C0 ⟨_,rfl,C0 h⟩) a))
end
end HT
namespace L2
open PySem PySem.Spec PyProof.Rows
noncomputable abbrev TO:=St->Hp->(Option Int->Hp->Prop)->Prop
def PO (X:Cx) (e:Option Expr) (t:TO):Prop:=
 ∀(pins:List (Addr×Obj)) (s:u0) (σ:St) (H:Hp) (Q:Option Int->Hp->Prop),Inv X pins σ H s->t σ H Q->
  N0 (B1 X.prog X.w) X.A (evalPart e X.env) (λ u s'=>∃o H',Inv X pins σ H' s'/\O8 u o/\Q o H') X.xe s
noncomputable def zef:TO:=λ _ H Q=>Q none H
noncomputable def tPart (t:TE):TO:=λ σ H Q=>t σ H λ x H1=>∃i,x=.int i/\Q (some i) H1
theorem z1p {ns:List Int} :∀{us:List Value},Vals (ns.map V.int) us->Z2 us ns:=by
 induction ns with
 | nil=>intro us r;rw [x8] at r;cases r;exact .nil
 | cons n ns ih=>
  intro us r;rw [O0] at r;cases r with
  | cons r1 r2=>obtain ⟨t,e⟩:=r1;subst e;exact .cons n t (ih r2)
section
variable {X:Cx} {e:Expr} {te:TE} {lo hi:Option Expr} {tl th:TO} {pos p2:Pos}
theorem z7s:PO X none zef:=by intro a s σ H Q I h;rw [evalPart_none];exact C0 ⟨none,H,I,.none,h⟩
theorem z47 (h:PE X e te):PO X (some e) (tPart te):=by intro a s σ H Q I b;rw [evalPart_some];refine thn (h a s σ H _ I b) λ u c ⟨x,H1,I1,r1,q1⟩=>?_;obtain ⟨i,rfl,q⟩:=q1;obtain ⟨t,rfl⟩:=r1;exact ⟨some i,H1,I1,.int i t,q⟩
def SlR (X:Cx) (r:V->Option Int->Option Int->Hp->VK->Prop):Prop:=
 ∀(pins:List (Addr×Obj)) (s:u0) (σ:St) (H:Hp) (x:V) (v vl vu:Value) (lo hi:Option Int) (sl:Addr) (Q:VK),Inv X pins σ H s->RelV x v->s.heap.IsSliceOf sl vl vu .none->O8 vl lo->O8 vu hi->r x lo hi H Q->
  ∃T id,typeLookup (.type T) "__getitem__" = Z3 (some (.builtin id))/\s.TypeIs v T/\N0 (B1 X.prog X.w) X.A (p8 v (.ref sl)) (EP X pins σ Q) X.xe s
theorem SlR.or {r r':V->Option Int->Option Int->Hp->VK->Prop} (h:SlR X r) (h':SlR X r'):SlR X (λ x lo hi H Q=>r x lo hi H Q\/r' x lo hi H Q):=by
 intro e s σ H x v f b lo hi i Q I g d c a q;rcases q with q|q
 ·exact h e s σ H x v f b lo hi i Q I g d c a q
 ·exact h' e s σ H x v f b lo hi i Q I g d c a q
noncomputable def tSl (r:V->Option Int->Option Int->Hp->VK->Prop) (te:TE) (tl th:TO):TE:=λ σ H Q=>te σ H λ x H1=>tl σ H1 λ l H2=>th σ H2 λ u H3=>r x l u H3 Q
theorem z3j {r:V->Option Int->Option Int->Hp->VK->Prop} (hr:SlR X r) (he:PE X e te) (hl:PO X lo tl) (hu:PO X hi th):PE X (.Subscript e (.Slice lo hi none p2) pos) (tSl r te tl th):=by intro c s σ H Q I h;refine Subscript_ (thn (he c s σ H _ I h) λ v n ⟨x,H1,I1,r1,q1⟩=>?_);refine wpAny_Slice (thn (hl c n σ H1 _ I1 q1) λ d i ⟨l,H2,I2,pl,q2⟩=>thn (hu c i σ H2 _ I2 q2) λ f a ⟨u,H3,I3,pu,q3⟩=>?_);rw [evalPart_none];refine C0 ?_;have j:Inv X c σ H3 { a with heap:=a.heap.push { cls:=.type "slice",data:=.fields #[d,f,.none] } }:=I3.kept (t':=a.toks) λ b o q=>v0 _ q;obtain ⟨T,id,m,g,k⟩:=hr c { a with heap:=a.heap.push { cls:=.type "slice",data:=.fields #[d,f,.none] } } σ H3 x v d f l u a.heap.objs.size Q j r1 (Heap.IsSliceOf.new ..) pl pu q3;show N0 (B1 X.prog X.w) X.A (subscriptTail e (.Slice lo hi none p2) v (.ref a.heap.objs.size)) (EP X c σ Q) X.xe { a with heap:=a.heap.push { cls:=.type "slice",data:=.fields #[d,f,.none] } };exact tail_any (ops:=[.ref a.heap.objs.size,v]) g m k (by with_unfolding_all rfl)
noncomputable def cutV (xs:List V) (lo hi:Option Int):List V:=(xs.drop (HT.sIx xs.length 0 lo)).take (HT.sIx xs.length xs.length hi - HT.sIx xs.length 0 lo)
theorem z49 (xs:List V) (lo hi:Option Int):(cutV xs lo hi).length<=xs.length:=by unfold cutV;rw [V3,V6];omega
def rSlT (K:c0):V->Option Int->Option Int->Hp->VK->Prop:=λ x lo hi H Q=>∃a xs,x=.ref a/\SqT K H a xs/\
 ¬ (HT.sIx xs.length 0 lo=0/\HT.sIx xs.length xs.length hi=xs.length)/\∀p,H p=none->Q (.ref p) (upd H p (.tup (cutV xs lo hi)))
theorem sl_tup:SlR X (rSlT X.K):=by
 intro z s σ H x v u w d f y Q I p n l j h;obtain ⟨a,c,rfl,m,t,q⟩:=h;cases p;obtain ⟨k,r,g,i⟩:=I.tuple m;have e:k.toArray.size=c.length:=by rw [I0];exact r.length.symm
 refine ⟨"tuple",_,PyProof.Rows.slot_tuple_getitem.lookup,g.typeIs,?_⟩;refine HT.getItem_tuple_cut g n l j (by rw [e];exact t) ?_ (by rw [e];exact i);rw [e];refine ⟨.ref s.heap.objs.size,_,I.laid (t':=s.toks) (o:=.tup (cutV c d f)) (λ b A q=>v0 _ q) (y0 _) ?_,rfl,q _ (I.hok.fresh (y0 _))⟩;exact ⟨D0 (z49 c d f) i,_,(r.drop (HT.sIx c.length 0 d)).take (HT.sIx c.length c.length f - HT.sIx c.length 0 d),IsTupN.new _ _⟩
noncomputable def rCatT (K:c0):R2:=λ x y H Q=>∃a b xs ys,x=.ref a/\y=.ref b/\SqT K H a xs/\SqT K H b ys/\xs≠[]/\xs.length + ys.length<=sizeLine/\
 (ys=[]->Q (.ref a) H)/\(ys≠[]->∀p,H p=none->Q (.ref p) (upd H p (.tup (xs++ys))))
theorem Vals.nil_iff {xs:List V} {us:List Value} (r:Vals xs us):us=[]↔xs=[]:=by
 cases r with
 | nil=>simp
 | cons _ _=>simp
theorem zdq:OpR X (z5 .Add) (rCatT X.K):=by intro C s σ H x y v u Q I p i h;obtain ⟨a,b,j,l,rfl,rfl,n,t,m,e,r,f⟩:=h;cases p;cases i;obtain ⟨A,d,k,_⟩:=I.tuple n;obtain ⟨B,c,g,_⟩:=I.tuple t;refine HT.cat_tup k g (λ z=>m (d.nil_iff.mp z)) (λ z=>⟨.ref a,H,I,rfl,r (c.nil_iff.mp z)⟩) (λ z=>?_) (by rw [<-d.length,<-c.length];exact e);refine ⟨.ref s.heap.objs.size,_,I.laid (t':=s.toks) (o:=.tup (j++l)) (λ b D q=>v0 _ q) (y0 _) ?_,rfl,f (λ w=>z (c.nil_iff.mpr w)) _ (I.hok.fresh (y0 _))⟩;exact ⟨by rw [F0];exact e,_,d.append c,IsTupN.new _ _⟩
end
noncomputable def ixN (n:Nat) (i:Int):Option Nat:=if 0<=i then (if i < n then some i.toNat else none) else if -(n:Int)<=i then some (i + n).toNat else none
noncomputable def atI {α:Type} (xs:List α) (i:Int):Option α:=(ixN xs.length i).bind λ j=>xs[j]?
theorem zc2 {n:Nat} {i:Int} {j:Nat} (h:ixN n i=some j):seqIndex? i n=some j/\j < n/\-(n:Int)<=i/\i < n:=by
 unfold ixN at h;by_cases h0:0<=i
 ·rw [if_pos h0] at h;by_cases h1:i < n
  ·rw [if_pos h1] at h;have e:i.toNat=j:=T0 h;exact ⟨by rw [seqIndex_of h0 h1,e],by omega,by omega,h1⟩
  ·rw [if_neg h1] at h;cases h
 ·rw [if_neg h0] at h;by_cases h1:-(n:Int)<=i
  ·rw [if_pos h1] at h;have e:(i + n).toNat=j:=T0 h;exact ⟨by rw [seqIndex_neg (by omega) h1,e],by omega,h1,by omega⟩
  ·rw [if_neg h1] at h;cases h
theorem z9e {α:Type} {xs:List α} {i:Int} {v:α} (h:atI xs i=some v) :∃j,seqIndex? i xs.length=some j/\xs[j]? = some v/\j < xs.length/\-(xs.length:Int)<=i/\i < xs.length:=by
 unfold atI at h;cases e:ixN xs.length i with
 | none=>rw [e] at h;cases h
 | some j=>rw [e] at h;obtain ⟨a,b,c,d⟩:=zc2 e;exact ⟨j,a,h,b,c,d⟩
theorem z04 {α:Type} {xs:List α} {j:Nat} {v:α} (h:xs[j]? = some v):atI xs (j:Int)=some v:=by
 have a:j < xs.length:=(List.getElem?_eq_some_iff.mp h).1;have e:ixN xs.length (j:Int)=some j:=by unfold ixN;rw [if_pos (by omega),if_pos (by omega)];simp
 unfold atI;rw [e];exact h
def zdp (b:Expr):Prop:=∀o i,x9 b false o i=operate [o,i] (p8 o i)
def IxR (X:Cx) (r:R2):Prop:=
 ∀(value slice:Expr) (pins:List (Addr×Obj)) (s:u0) (σ:St) (H:Hp) (x y:V) (v u:Value) (Q:VK),Inv X pins σ H s->RelV x v->RelV y u->r x y H Q->
  x9 slice false v u=operate [v,u] (p8 v u)->N0 (B1 X.prog X.w) X.A (subscriptTail value slice v u) (EP X pins σ Q) X.xe s
def MtR (X:Cx) (id:String) (r:V->List V->Hp->VK->Prop):Prop:=
 ∀(pins:List (Addr×Obj)) (s:u0) (σ:St) (H:Hp) (x:V) (xs:List V) (v:Value) (us:List Value) (Q:VK),Inv X pins σ H s->RelV x v->Vals xs us->r x xs H Q->
  N0 (B1 X.prog X.w) X.A (call (.builtin id) (v :: us)) (EP X pins σ Q) X.xe s
section
variable {X:Cx} {a b:Expr} {ta tb:TE} {pos:Pos}
theorem IxR.or {r r':R2} (h:IxR X r) (h':IxR X r'):IxR X (λ x y H Q=>r x y H Q\/r' x y H Q):=by
 intro f b d s σ H x y v u Q I e a q c;rcases q with q|q
 ·exact h f b d s σ H x y v u Q I e a q c
 ·exact h' f b d s σ H x y v u Q I e a q c
theorem pe_ix {r:R2} (hr:IxR X r) (ha:PE X a ta) (hb:PE X b tb) (hs:zdp b):PE X (.Subscript a b pos) (tOp r ta tb):=by intro e s σ H Q I h;exact Subscript_ (binT ha hb I h λ v u d x y g i f c q=>hr a b e d σ g x y v u Q i f c q (hs _ _))
noncomputable def rIxL (K:c0):R2:=λ x y H Q=>∃p xs i v,x=.ref p/\y=.int i/\SqL K H p xs/\atI xs i=some v/\Q v H
noncomputable def rIxT (K:c0):R2:=λ x y H Q=>∃p xs i v,x=.ref p/\y=.int i/\SqT K H p xs/\atI xs i=some v/\Q v H
noncomputable def rIxS:R2:=λ x y H Q=>∃z i c,x=.str z/\y=.int i/\z.length<=sizeLine/\atI z.cps.toList i=some c/\Q (.str ⟨#[c]⟩) H
theorem ix_list:IxR X (rIxL X.K):=by
 intro J F e s σ H x y v u Q I o l h d;obtain ⟨p,G,i,z,rfl,rfl,C,D,q⟩:=h;cases o;obtain ⟨t,rfl⟩:=l;obtain ⟨g,r,b,N⟩:=I.list C;obtain ⟨j,a,B,L,A,n⟩:=z9e D;obtain ⟨w,f,E⟩:=r.get B;have m:=r.length;have M:=line63;have fin:EP X e σ Q w s:=⟨z,H,I,E,q⟩
 by_cases h0:0<=i
 ·have c:i.toNat=j:=by rw [seqIndex_of h0 n] at a;exact T0 a
  exact item_listR b.isList h0 (by omega) (by rw [c];simpa using f) fin d
 ·have c:(i + (g.toArray.size:Int)).toNat=j:=by rw [seqIndex_neg (by omega) A] at a;rw [I0,<-m];exact T0 a
  exact subscriptTail_builtinR (x:=w) b.isList.typeIs slot_list_getitem.lookup
   (wpAny_getItem_list_neg (Q:=λ r k=>r=w/\EP X e σ Q r k) b.isList (by omega) (by rw [I0]<;>omega) (by omega) (by rw [c];simpa using f) ⟨rfl,fin⟩) d
theorem ix_tup:IxR X (rIxT X.K):=by
 intro E C b s σ H x y v u Q I k d h g;obtain ⟨p,D,i,z,rfl,rfl,n,o,q⟩:=h;cases k;obtain ⟨t,rfl⟩:=d;obtain ⟨B,r,a,M⟩:=I.tuple n;obtain ⟨j,e,m,G,J,F⟩:=z9e o;obtain ⟨w,l,A⟩:=r.get m;have f:=r.length;have L:=line63;have fin:EP X b σ Q w s:=⟨z,H,I,A,q⟩
 exact subscriptTail_builtinR (x:=w) a.typeIs slot_tuple_getitem.lookup
  (getItem_tuple (j:=j) (Q:=λ r c=>r=w/\EP X b σ Q r c) a (by omega) (by omega) (by rw [I0,<-f];exact e) (by simpa using l) ⟨rfl,fin⟩) g
theorem ix_str:IxR X rIxS:=by
 intro r p A s σ H x y v u Q I k b h g;obtain ⟨z,i,c,rfl,rfl,C,o,q⟩:=h;obtain ⟨t,rfl⟩:=k;obtain ⟨D,rfl⟩:=b;obtain ⟨j,a,m,w,l,f⟩:=z9e o;have d:z.cps.toList.length=z.length:=by simp [Str.length]
 rw [d] at a l f;have B:=line63;exact tail_any (typeIs_str s z t) slot_str_getitem.lookup (getItem_str (c:=c) (by have n:decide (i < -(2 ^ 63:Int))=false:=decide_eq_false (by omega);have e:decide (i ≥ 2 ^ 63)=false:=decide_eq_false (by omega);rw [n,e,Bool.or_false]) (by rw [a];simpa using m) ⟨.str ⟨#[c]⟩,H,I.tok _,⟨_,rfl⟩,q⟩) g
noncomputable def rIx (K:c0):R2:=λ x y H Q=>rIxL K x y H Q\/rIxT K x y H Q\/rIxS x y H Q
theorem ix_seq:IxR X (rIx X.K):=ix_list.or (ix_tup.or ix_str)
theorem z96 (its:List Value) (n j:Nat) (u:Value):R1 (·.setIfInBounds j u) { cls:=.type "list",data:=.seq its.toArray n }={ cls:=.type "list",data:=.seq (its.set j u).toArray n }:=by simp [R1]
theorem Inv.lst {pins:List (Addr×Obj)} {σ:St} {H:Hp} {s:u0} {p:Addr} {xs:List V} (I:Inv X pins σ H s) (h:H p=some (.lst xs)) :
  ∃(its:List Value) (n:Nat),Vals xs its/\s.heap.get? p=some { cls:=.type "list",data:=.seq its.toArray n }/\xs.length<=sizeLine:=by
 obtain ⟨z,its,n,r,e⟩:=I.hok p _ h;exact ⟨its,n,r,e,z⟩
theorem Inv.lstUpd {pins:List (Addr×Obj)} {σ:St} {H:Hp} {s:u0} {p:Addr} {xs ys:List V} {its its':List Value} {n n':Nat} {f:Obj->Obj} (I:Inv X pins σ H s) (h:H p=some (.lst xs))
  (ho:s.heap.get? p=some { cls:=.type "list",data:=.seq its.toArray n }) (hf:f { cls:=.type "list",data:=.seq its.toArray n }={ cls:=.type "list",data:=.seq its'.toArray n' }) (r:Vals ys its') (hz:ys.length<=sizeLine) (t:Nat) :
  Inv X pins σ (upd H p (.lst ys)) { s with heap:=s.heap.update p f,toks:=t }:=by
 have e:(s.heap.update p f).get? p=some { cls:=.type "list",data:=.seq its'.toArray n' }:=by rw [N4 f ho (by rw [hf]<;>rfl),hf]
 refine I.write (x:=p) (e:=p) (by rw [h];trivial) (.inl rfl) (λ b u a q=>(D4 _ _ (J4 a)).trans q) ⟨_,e⟩ ?_;exact ⟨hz,its',n',r,e⟩
def rSetL:V->V->V->Hp->(Hp->Prop)->Prop:=λ o i v H Q=>∃p xs k j,o=.ref p/\i=.int k/\H p=some (.lst xs)/\ixN xs.length k=some j/\Q (upd H p (.lst (xs.set j v)))
theorem z1z:PSet X rSetL:=by
 intro y s σ H o i v G D u Q I z B x h;obtain ⟨p,w,k,j,rfl,rfl,e,C,q⟩:=h;cases z;obtain ⟨t,rfl⟩:=B;obtain ⟨f,n,r,c,A⟩:=I.lst e;obtain ⟨a,E,g,l⟩:=zc2 C;have b:=r.length;have F:=line63;have m:Inv X y σ (upd H p (.lst (w.set j v))) { s with heap:=s.heap.update p (R1 (·.setIfInBounds j u)) }:=
  I.lstUpd e c (z96 f n j u) (r.set x j) (by rw [List.length_set];exact A) s.toks
 by_cases h0:0<=k
 ·have d:k.toNat=j:=by rw [seqIndex_of h0 l] at a;exact T0 a
  exact PySem.W.ki_setAt c h0 (by omega) (by rw [I0,<-b];exact l) (by rw [d];exact ⟨_,m,q⟩)
 ·have d:(k + (f.toArray.size:Int)).toNat=j:=by rw [seqIndex_neg (by omega) g] at a;rw [I0,<-b];exact T0 a
  exact PySem.W.ki_setBack c (by omega) (by rw [I0,<-b];exact g) (by omega) (by rw [d];exact ⟨_,m,q⟩)
theorem z6y (lo hi:Option Int) (n:Nat):(y6 lo hi none n).1=((HT.sIx n 0 lo:Nat):Int)/\(y6 lo hi none n).2.1=((HT.sIx n n hi:Nat):Int)/\(y6 lo hi none n).2.2=1:=by
 refine ⟨?_,?_,rfl⟩
 ·cases lo with
  | none=>simp [y6,HT.sIx]
  | some i=>
   simp only [y6,HT.sIx,Option.getD_none,show (1:Int) > 0 by decide,if_true];by_cases h:i < 0
   ·simp only [h,if_true]<;>omega
   ·simp only [h,if_false]<;>omega
 ·cases hi with
  | none=>simp [y6,HT.sIx]
  | some i=>
   simp only [y6,HT.sIx,Option.getD_none,show (1:Int) > 0 by decide,if_true];by_cases h:i < 0
   ·simp only [h,if_true]<;>omega
   ·simp only [h,if_false]<;>omega
theorem z5r (its:List Value) (lo hi:Option Int):slicePick its.toArray lo hi none=((its.drop (HT.sIx its.length 0 lo)).take (HT.sIx its.length its.length hi - HT.sIx its.length 0 lo)).toArray:=by obtain ⟨a,b,c⟩:=z6y lo hi its.toArray.size;unfold slicePick;rw [a,b,c];simp only [sliceRange_one,pick_run,I0]<;>rfl
def rSlL (K:c0):V->Option Int->Option Int->Hp->VK->Prop:=λ x lo hi H Q=>∃a xs,x=.ref a/\SqL K H a xs/\∀p,H p=none->Q (.ref p) (upd H p (.lst (cutV xs lo hi)))
theorem sl_list:SlR X (rSlL X.K):=by intro y s σ H x v t u d e w Q I m l i g h;obtain ⟨a,c,rfl,j,q⟩:=h;cases m;obtain ⟨p,r,f,n⟩:=I.list j;have k:=r.length;refine ⟨"list",_,slot_list_getitem.lookup,f.isList.typeIs,?_⟩;refine wpAny_getItem_list_slice f.isList l i g .none (by simp) ?_ (by rw [I0]<;>omega);rw [z5r,<-k];refine ⟨.ref s.heap.objs.size,_,I.laid (t':=s.toks) (o:=.lst (cutV c d e)) (λ b z q=>v0 _ q) (y0 _) ?_,rfl,q _ (I.hok.fresh (y0 _))⟩;exact ⟨D0 (z49 c d e) n,_,0,(r.drop (HT.sIx c.length 0 d)).take (HT.sIx c.length c.length e - HT.sIx c.length 0 d),J0 _ rfl⟩
noncomputable def flatV:V->Bool
 | .non=>true
 | .bl _=>true
 | .int _=>true
 | .str _=>true
 | _=>false
noncomputable def eqV:V->V->Bool
 | .non,.non=>true
 | .bl a,.bl b=>a == b
 | .bl a,.int b=>(if a then 1 else 0) == b
 | .int a,.bl b=>a == (if b then 1 else 0)
 | .int a,.int b=>a == b
 | .str a,.str b=>a == b
 | _,_=>false
theorem eqAt_V {A:C2} {s:u0} {y x:V} {u v:Value} (ry:RelV y u) (rx:RelV x v) (fy:flatV y=true) (fx:flatV x=true):SeqAt.EqAt A s u v (eqV y x):=by
 cases y with
 | non=>
  cases ry;cases x with
  | non=>cases rx;exact SeqAt.EqAt.same _
  | bl b=>cases rx;exact SeqAt.EqAt.none_bool b
  | int b=>obtain ⟨t,rfl⟩:=rx;exact SeqAt.EqAt.none_int b t
  | str b=>obtain ⟨t,rfl⟩:=rx;exact SeqAt.EqAt.none_str b t
  | _=>exact absurd (show false=true from fx) W0
 | bl a=>
  cases ry;cases x with
  | non=>cases rx;exact SeqAt.EqAt.bool_none a
  | bl b=>cases rx;exact SeqAt.EqAt.bool_bool a b
  | int b=>obtain ⟨t,rfl⟩:=rx;exact SeqAt.EqAt.bool_int a b t
  | str b=>obtain ⟨t,rfl⟩:=rx;exact SeqAt.EqAt.bool_str a b t
  | _=>exact absurd (show false=true from fx) W0
 | int a=>
  obtain ⟨c,rfl⟩:=ry;cases x with
  | non=>cases rx;exact SeqAt.EqAt.int_none a c
  | bl b=>cases rx;exact SeqAt.EqAt.int_bool a c b
  | int b=>obtain ⟨t,rfl⟩:=rx;exact SeqAt.EqAt.int_int a c b t
  | str b=>obtain ⟨t,rfl⟩:=rx;exact A9 a c b t
  | _=>exact absurd (show false=true from fx) W0
 | str a=>
  obtain ⟨c,rfl⟩:=ry;cases x with
  | non=>cases rx;exact SeqAt.EqAt.str_none a c
  | bl b=>cases rx;exact SeqAt.EqAt.str_bool a c b
  | int b=>obtain ⟨t,rfl⟩:=rx;exact z9 a c b t
  | str b=>obtain ⟨t,rfl⟩:=rx;exact SeqAt.EqAt.str_str a c b t
  | _=>exact absurd (show false=true from fx) W0
 | _=>exact absurd (show false=true from fy) W0
noncomputable def eqU (x:V) (u:Value):Bool:=match u with
 | .none=>eqV .non x
 | .bool b=>eqV (.bl b) x
 | .int i _=>eqV (.int i) x
 | .str z _=>eqV (.str z) x
 | _=>false
theorem eqU_of {x y:V} {u:Value} (r:RelV y u) (f:flatV y=true):eqU x u=eqV y x:=by
 cases y with
 | non=>cases r;rfl
 | bl b=>cases r;rfl
 | int i=>obtain ⟨t,rfl⟩:=r;rfl
 | str z=>obtain ⟨t,rfl⟩:=r;rfl
 | _=>exact absurd (show false=true from f) W0
theorem z5u {x:V} :∀{xs:List V} {us:List Value},Vals xs us->xs.all flatV=true->us.any (eqU x)=xs.any λ y=>eqV y x
 | _,_,.nil,_=>rfl
 | y :: xs,u :: us,.cons r t,f=>by rw [List.all_cons,N3] at f;rw [O6,O6,eqU_of r f.1,z5u t f.2]
theorem z34 {A:C2} {s:u0} {x:V} {v:Value} (rx:RelV x v) (fx:flatV x=true) :∀{xs:List V} {us:List Value},Vals xs us->xs.all flatV=true->∀u∈us,SeqAt.EqAt A s u v (eqU x u)
 | _,_,.nil,_=>λ u a=>by cases a
 | y :: xs,u :: us,.cons r t,f=>λ b a=>by
  rw [List.all_cons,N3] at f;rcases List.mem_cons.mp a with rfl|a
  ·rw [eqU_of r f.1];exact eqAt_V r rx f.1 fx
  ·exact z34 rx fx t f.2 b a
noncomputable def inV (x:V) (xs:List V):Bool:=xs.any λ y=>eqV y x
noncomputable def rIn (K:c0) (neg:Bool):R2:=λ x y H Q=>∃p xs,y=.ref p/\(SqL K H p xs\/SqT K H p xs)/\flatV x=true/\xs.all flatV=true/\Q (.bl (if neg then !inV x xs else inV x xs)) H
theorem zbc:OpR X (V2 .In) (rIn X.K false):=by
 intro k s σ H x y v u Q I e g h;obtain ⟨p,j,rfl,b,f,fs,q⟩:=h;cases g;rcases b with b|b
 ·obtain ⟨a,r,c,i⟩:=I.list b;refine SeqAt.in_listAt (eqU x) c.isList (λ w d=>z34 e f r fs w (by simpa using d)) ⟨.bl _,H,I,rfl,?_⟩;rw [show a.toArray.any (eqU x)=a.any (eqU x) by simp,z5u r fs];exact q
 ·obtain ⟨a,r,c,i⟩:=I.tuple b;refine SeqAt.in_tupleAt (eqU x) c (λ w d=>z34 e f r fs w (by simpa using d)) ⟨.bl _,H,I,rfl,?_⟩;rw [show a.toArray.any (eqU x)=a.any (eqU x) by simp,z5u r fs];exact q
theorem z3f:OpR X (V2 .NotIn) (rIn X.K true):=by
 intro k s σ H x y v u Q I e g h;obtain ⟨p,j,rfl,b,f,fs,q⟩:=h;cases g;rcases b with b|b
 ·obtain ⟨a,r,c,i⟩:=I.list b;refine SeqAt.notIn_listAt (eqU x) c.isList (λ w d=>z34 e f r fs w (by simpa using d)) ⟨.bl _,H,I,rfl,?_⟩;rw [show a.toArray.any (eqU x)=a.any (eqU x) by simp,z5u r fs];exact q
 ·obtain ⟨a,r,c,i⟩:=I.tuple b;refine SeqAt.notIn_tupleAt (eqU x) c (λ w d=>z34 e f r fs w (by simpa using d)) ⟨.bl _,H,I,rfl,?_⟩;rw [show a.toArray.any (eqU x)=a.any (eqU x) by simp,z5u r fs];exact q
theorem call_len_seq:CallR X (.builtin "len") (λ xs H Q=>∃p ys,xs=[.ref p]/\(SqL X.K H p ys\/SqT X.K H p ys)/\Q (.int ys.length) H):=by
 intro j s σ H xs us Q I r h;obtain ⟨p,ys,rfl,a,q⟩:=h;obtain ⟨u,rfl,g⟩:=vals1 r;cases g;have i:=line63;rcases a with a|a
 ·obtain ⟨e,b,d,f⟩:=I.list a;have c:=b.length;exact Calls.call_len_list d.isList (by simp only [I0]<;>omega) ⟨.int ys.length,H,I.tok _,⟨s.toks + 1,by rw [I0,c]⟩,q⟩
 ·obtain ⟨e,b,d,f⟩:=I.tuple a;have c:=b.length;exact len_tuple d (by simp only [I0]<;>omega) ⟨.int ys.length,H,I.tok _,⟨s.toks + 1,by rw [I0,c]⟩,q⟩
theorem z6f:CallR X (.builtin "len") (λ xs H Q=>∃z,xs=[.str z]/\z.length<=sizeLine/\Q (.int z.length) H):=by intro c s σ H xs us Q I r h;obtain ⟨z,rfl,b,q⟩:=h;obtain ⟨u,rfl,t,rfl⟩:=vals1 r;have a:=line63;exact len_str (by omega) ⟨.int z.length,H,I.tok _,⟨_,rfl⟩,q⟩
theorem CallR.or {f:Value} {r r':List V->Hp->VK->Prop} (h:CallR X f r) (h':CallR X f r'):CallR X f (λ xs H Q=>r xs H Q\/r' xs H Q):=by
 intro a s σ H xs us Q I rs q;rcases q with q|q
 ·exact h a s σ H xs us Q I rs q
 ·exact h' a s σ H xs us Q I rs q
theorem z6a:CallR X (.type "list") (λ xs H Q=>∃p ys,xs=[.ref p]/\(SqL X.K H p ys\/SqT X.K H p ys)/\∀l,H l=none->Q (.ref l) (upd H l (.lst ys))):=by
 intro x s σ H xs us Q I r h;obtain ⟨p,ys,rfl,g,q⟩:=h;obtain ⟨u,rfl,y⟩:=vals1 r;cases y;have fin :∀(c:List Value),Vals ys c->ys.length<=sizeLine->∀(a:Heap) (d:Nat),(∀b o',s.heap.get? b=some o'->a.get? b=some o')->
   a.get? s.heap.objs.size=some { cls:=.type "list",dict:=none,data:=.seq c.toArray d,slots:=#[] }->EP X x σ Q (.ref s.heap.objs.size) { s with heap:=a }:=λ c f j a d i e=>
  ⟨.ref s.heap.objs.size,_,I.laid (t':=s.toks) i (y0 _) (show ObjOk X.prog X.w _ a _ (.lst ys) from ⟨j,c,d,f,e⟩),rfl,q _ (I.hok.fresh (y0 _))⟩
 rcases g with g|g
 ·obtain ⟨c,f,k,j⟩:=I.list g;have v:=f.length;obtain ⟨o,t,m,n,hd⟩:=k.isList;exact call_list_seq p (.inl rfl) t m hd (λ a d i e=>fin c f j a d i e) (by simp only [I0]<;>omega)
 ·obtain ⟨c,f,k,j⟩:=I.tuple g;have v:=f.length;obtain ⟨o,t,m,n,hd⟩:=k;exact call_list_seq p (.inr rfl) t m hd (λ a d i e=>fin c f j a d i e) (by simp only [I0]<;>omega)
theorem z1r:CallR X (.type "tuple") (λ xs H Q=>∃p ys,xs=[.ref p]/\((SqL X.K H p ys/\∀l,H l=none->Q (.ref l) (upd H l (.tup ys)))\/(SqT X.K H p ys/\Q (.ref p) H))):=by
 intro j s σ H xs us Q I r h;obtain ⟨p,ys,rfl,h⟩:=h;obtain ⟨u,rfl,n⟩:=vals1 r;cases n;rcases h with ⟨g,q⟩|⟨g,q⟩
 ·obtain ⟨c,f,d,k⟩:=I.list g;have v:=f.length;refine call_tuple_list d.isList (λ a t=>?_) (by simp only [I0]<;>omega);have i:Inv X j σ H { s with heap:=a }:=I.kept (t':=s.toks) t;have m:Inv X j σ (upd H a.objs.size (.tup ys)) { s with heap:=a.push { cls:=.type "tuple",data:=.seq c.toArray } }:=
   i.laid (t':=s.toks) (λ b o e=>v0 _ e) (y0 _) (show ObjOk X.prog X.w _ _ _ (.tup ys) from ⟨k,c,f,IsTupN.new _ _⟩)
  exact ⟨.ref a.objs.size,_,m,rfl,q _ (i.hok.fresh (y0 _))⟩
 ·obtain ⟨c,f,d,k⟩:=I.tuple g;exact call_tuple_same d ⟨.ref p,H,I,rfl,q⟩
def tyV (K:c0) (T:String) (x:V) (H:Hp):Prop:=match x with
 | .str _=>T = "str"
 | .int _=>T = "int"
 | .ref p=>(T = "list"/\∃xs,SqL K H p xs)\/(T = "tuple"/\∃o,K.lookup p=some o/\o.cls=.type "tuple"/\o.dict=none)\/
   (T = "dict"/\((∃kvs,H p=some (.dK kvs))\/∃kvs,H p=some (.dT kvs)))\/(T = "set"/\∃S n,H p=some (.set S n))
 | _=>False
theorem tyV_is {pins:List (Addr×Obj)} {σ:St} {H:Hp} {s:u0} {T:String} {x:V} {v:Value} (I:Inv X pins σ H s) (r:RelV x v) (ty:tyV X.K T x H) :
  s.TypeIs v T/\∀a,v=.ref a->∃ob,s.heap.get? a=some ob/\ob.dict=none:=by
 cases x with
 | str z=>obtain ⟨t,rfl⟩:=r;cases (show T = "str" from ty);exact ⟨typeIs_str s z t,λ _ e=>nomatch e⟩
 | int i=>obtain ⟨t,rfl⟩:=r;cases (show T = "int" from ty);exact ⟨typeIs_int s i t,λ _ e=>nomatch e⟩
 | ref p=>
  cases r;rcases ty with ⟨rfl,l,h⟩|⟨rfl,o,b,hc,hd⟩|⟨rfl,b⟩|⟨rfl,S,n,b⟩
  ·obtain ⟨k,_,g,_⟩:=I.list h;refine ⟨g.isList.typeIs,λ a e=>?_⟩;cases e;obtain ⟨o,n,e,c,hd,_⟩:=g;exact ⟨o,e,hd⟩
  ·refine ⟨⟨o,I.kIn p o b,hc⟩,λ a e=>?_⟩;cases e;exact ⟨o,I.kIn _ o b,hd⟩
  ·have z :∃o,s.heap.get? p=some o/\o.ExactDict:=by
    rcases b with ⟨j,b⟩|⟨j,b⟩
    ·obtain ⟨_,_,_,_,o,_,_,e,d,_⟩:=I.hok p _ b;exact ⟨o,e,d⟩
    ·obtain ⟨_,_,_,_,o,_,_,e,d,_⟩:=I.hok p _ b;exact ⟨o,e,d⟩
   obtain ⟨o,e,d⟩:=z;refine ⟨⟨o,e,d.1⟩,λ a f=>?_⟩;cases f;exact ⟨o,e,d.2.1⟩
  ·obtain ⟨o,_,_,_,e,d,_⟩:=I.hok p _ b;refine ⟨⟨o,e,d.1⟩,λ a f=>?_⟩;cases f;exact ⟨o,e,d.2.1⟩
 | _=>exact T4 ty
noncomputable def tBM (K:c0) (T:String) (r:V->List V->Hp->VK->Prop) (to:TE) (t:TA):TE:=λ σ H Q=>to σ H λ x H1=>tyV K T x H1/\t σ H1 λ xs H2=>r x xs H2 Q
variable {o e:Expr} {es:List Expr} {to:TE} {t:TA} {name:Str} {apos cpos:Pos} {T id:String} {r:V->List V->Hp->VK->Prop}
theorem pe_bm (pa:PlainAttrs T) (slot:Slot T name id) (hty:typeOf (.builtin id)=Z3 (.type "method_descriptor")) (hm:MtR X id r) (ho:PE X o to) (ha:PA X (e :: es) t)
  (hbase:r6 o name X.env (W3 o X.env)=W3 o X.env:=by rfl)
  (hfew:((q5 cpos (U1 (e :: es) X.env)).all (λ x=>!x.1) && (backToKw cpos (y9 [] X.env)).all (λ x=>x.1.isSome)
   && decide ((e :: es).length + ([]:List O7).length + (if ([]:List O7).isEmpty then 0 else 1) < 30))=true:=by rfl)
  (hline:(apos.endLine == cpos.line)=true:=by rfl) (hs:U1 (e :: es) X.env=(false,W3 e X.env) :: U1 es X.env:=by rfl) (hplain:(q5 cpos (U1 es X.env)).any (·.1)=false:=by rfl) :
  PE X (.Call (.Attribute o name apos) (e :: es) [] cpos) (tBM X.K T r to t):=by
 intro a s σ H Q I h;refine wpAny_Call_method_late hbase hfew hline rfl (thn (ho a s σ H _ I h) λ v f ⟨x,H1,I1,r1,ty,q1⟩=>?_);obtain ⟨c,g⟩:=tyV_is I1 r1 ty;refine ⟨T,id,pa,slot,hty,c,g,?_⟩;have b:=ha cpos a f σ H1 _ I1 q1;rw [hs] at b⊢;refine B4 (by show (false || (q5 cpos (U1 es X.env)).any (·.1))=false;rw [hplain]<;>rfl) (F7 ?_);exact thn b λ us d ⟨vs,H2,I2,r2,q2⟩=>hm a d σ H2 x vs v us Q I2 r1 r2 q2
end
def MtM (X:Cx) (id:String) (r:V->List V->Hp->VK->Prop):Prop:=
 ∀(pins:List (Addr×Obj)) (s:u0) (σ:St) (H:Hp) (x:V) (xs:List V) (v:Value) (us:List Value) (Q:VK),Inv X pins σ H s->RelV x v->Vals xs us->r x xs H Q->
  N0 (B1 X.prog X.w) X.A (call (.builtin id) (v :: us)) (EP X pins σ Q) X.xe s
theorem Vals.one :∀{x:V} {us:List Value},Vals [x] us->∃u,us=[u]/\RelV x u
 | _,_,.cons r .nil=>⟨_,rfl,r⟩
section
variable {X:Cx} {pins:List (Addr×Obj)} {σ:St} {H:Hp} {s:u0} {l b:Addr} {xs ys zs:List V}
theorem Inv.lset {its its':List Value} {n:Nat} {f:Array Value->Array Value} {t':Nat} (I:Inv X pins σ H s) (hH:H l=some (.lst xs))
  (e:s.heap.get? l=some { cls:=.type "list",data:=.seq its.toArray n }) (hf:f its.toArray=its'.toArray) (hv:Vals ys its') (hz:ys.length<=sizeLine) :
  Inv X pins σ (upd H l (.lst ys)) { s with heap:=s.heap.update l (R1 f),toks:=t' }:=by
 have q:=PySem.IsL.update e f;rw [hf] at q;refine I.write (x:=l) (e:=l) (by rw [hH];exact trivial) (.inl rfl) (λ c u b a=>(D4 s.heap (R1 f) (J4 b)).trans a) ⟨_,q⟩ ?_;exact ⟨hz,its',_,hv,q⟩
theorem Inv.lnew {its:List Value} {t':Nat} (I:Inv X pins σ H s) (hv:Vals ys its) (hz:ys.length<=sizeLine) :
  Inv X pins σ (upd H s.heap.objs.size (.lst ys)) { s with heap:=s.heap.push { cls:=.type "list",data:=.seq its.toArray },toks:=t' }:=
 I.laid (λ _ _ q=>v0 _ q) (y0 _) ⟨hz,its,0,hv,J0 _ rfl⟩
theorem Inv.fresh (I:Inv X pins σ H s):H s.heap.objs.size=none:=I.hok.fresh (y0 _)
theorem Inv.lstM (I:Inv X pins σ H s) (hH:H l=some (.lst xs)):xs.length<=sizeLine/\∃(its:List Value) (n:Nat),Vals xs its/\xs.length=its.length/\s.heap.get? l=some { cls:=.type "list",data:=.seq its.toArray n }:=by obtain ⟨z,its,n,r,e⟩:=I.hok l _ hH;exact ⟨z,its,n,r,r.length,e⟩
end
section
variable {X:Cx}
def z9k:V->List V->Hp->VK->Prop:=λ x vs H Q=>∃l xs y,x=.ref l/\vs=[y]/\H l=some (.lst xs)/\xs.length < sizeLine/\Q .non (upd H l (.lst (xs++[y])))
theorem zbp:MtM X "list.append" z9k:=by intro k s σ H x g v us Q I f c h;obtain ⟨l,i,y,rfl,rfl,b,m,q⟩:=h;cases f;obtain ⟨u,rfl,d⟩:=c.one;obtain ⟨z,a,n,r,j,e⟩:=I.lstM b;refine call_meets F.slot_list_append ⟨_,e,rfl⟩ F.entry_list_append (F.args_list_append_2 _ _) (PySem.list_append l a.toArray n u (by rw [I0];omega)) ⟨e,?_⟩;refine ⟨.non,_,I.lset (its':=a++[u]) b e (by simp) (r.append (.cons d .nil)) ?_,rfl,q⟩;rw [F0,M4];omega
noncomputable def rCat:R2:=λ x y H Q=>∃l b xs zs,x=.ref l/\y=.ref b/\H l=some (.lst xs)/\H b=some (.lst zs)/\xs.length + zs.length<=sizeLine/\∀p,H p=none->Q (.ref p) (upd H p (.lst (xs++zs)))
theorem op_cat:OpR X (z5 .Add) rCat:=by
 intro A s σ H x y v u Q I m i h;obtain ⟨l,b,p,B,rfl,rfl,f,d,D,q⟩:=h;cases m;cases i;obtain ⟨z,a,n,r,t,e⟩:=I.lstM f;obtain ⟨w,c,C,g,o,k⟩:=I.lstM d;refine PySem.P.add_list e k ?_ (by rw [I0,I0];omega);have j:a.toArray++c.toArray=(a++c).toArray:=by simp
 rw [j];exact ⟨.ref _,_,I.lnew (t':=s.toks) (r.append g) (by rw [F0];omega),rfl,q _ I.fresh⟩
end
section
variable {prog:Program} {w:Z0} {A:C2} {E:Value->u0->Prop} {s:u0}
set_option maxRecDepth 100000 in
end
section
variable {κ:Type} [DecidableEq κ]
noncomputable def valV (kvs:List (κ×V)) (k:κ):Option V:=(kvs.find? λ kv=>decide (kv.1=k)).map (·.2)
noncomputable def putK (kvs:List (κ×V)) (k:κ) (v:V):List (κ×V):=
 if (kvs.any λ kv=>decide (kv.1=k))=true then kvs.map (λ kv=>if kv.1=k then (kv.1,v) else kv) else kvs++[(k,v)]
noncomputable def dropK (kvs:List (κ×V)) (k:κ):List (κ×V):=kvs.filter λ kv=>decide (kv.1≠k)
theorem z0m {p:κ×V} {r:List (κ×V)} {k:κ} (e:p.1=k):valV (p :: r) k=some p.2:=by simp [valV,o5,e]
theorem z0o {p:κ×V} {r:List (κ×V)} {k:κ} (e:¬ p.1=k):valV (p :: r) k=valV r k:=by simp [valV,o5,e]
theorem z4c (k:κ) :∀kvs:List (κ×V),(kvs.any λ kv=>decide (kv.1=k))=(valV kvs k).isSome
 | []=>rfl
 | p :: r=>by
  rw [O6];by_cases e:p.1=k
  ·simp only [z0m e,decide_eq_true e,Bool.true_or,Option.isSome_some]
  ·rw [z0o e,decide_eq_false e,Bool.false_or];exact z4c k r
theorem z9y (k j:κ) (y:V) :∀kvs:List (κ×V),valV (kvs.map λ kv=>if kv.1=k then (kv.1,y) else kv) j=(valV kvs j).map λ x=>if j=k then y else x
 | []=>rfl
 | p :: r=>by
  have a:=z9y k j y r;rw [O0];by_cases h:p.1=k
  ·rw [if_pos h];by_cases e:p.1=j
   ·rw [z0m (p:=(p.1,y)) e,z0m e,a7,if_pos (e.symm.trans h)]
   ·rw [z0o (p:=(p.1,y)) e,z0o e,a]
  ·rw [if_neg h];by_cases e:p.1=j
   ·rw [z0m (p:=p) e,z0m e,a7,if_neg (λ z=>h (e.trans z))]
   ·rw [z0o (p:=p) e,z0o e,a]
theorem z7v (k j:κ) (y:V) :∀kvs:List (κ×V),valV kvs k=none->valV (kvs++[(k,y)]) j=if j=k then some y else valV kvs j
 | [],_=>by
  by_cases e:k=j
  ·rw [if_pos e.symm];exact z0m (p:=(k,y)) e
  ·rw [if_neg (λ z=>e z.symm)];exact z0o (p:=(k,y)) e
 | p :: r,hn=>by
  rw [List.cons_append];have a:¬ p.1=k:=λ z=>by rw [z0m z] at hn;cases hn
  rw [z0o a] at hn;have b:=z7v k j y r hn;by_cases e:p.1=j
  ·rw [z0m e,z0m e,if_neg (λ z=>a (e.trans z))]
  ·rw [z0o e,z0o e,b]
theorem z9o (kvs:List (κ×V)) (k j:κ) (y:V):valV (putK kvs k y) j=if j=k then some y else valV kvs j:=by
 unfold putK;by_cases a:(kvs.any λ b=>decide (b.1=k))=true
 ·rw [if_pos a,z9y];rw [z4c] at a;by_cases e:j=k
  ·obtain ⟨x,c⟩:=Option.isSome_iff_exists.mp a;rw [if_pos e,e,c,a7,if_pos rfl]
  ·rw [if_neg e];cases valV kvs j with
   | none=>rfl
   | some x=>rw [a7,if_neg e]
 ·rw [if_neg a];refine z7v k j y kvs ?_;rw [z4c] at a;cases q:valV kvs k with
  | none=>rfl
  | some x=>rw [q] at a;exact (a rfl).elim
theorem z2r (kvs:List (κ×V)) (k:κ) (v:V):(putK kvs k v).length<=kvs.length + 1:=by
 unfold putK;split
 ·rw [A0];omega
 ·rw [F0,T1,j6];omega
theorem RelO.isSome_eq {o:Option V} {u:Option Value} (r:RelO o u):o.isSome=u.isSome:=by
 cases o with
 | none=>cases u with
  | none=>rfl
  | some _=>exact (show False from r).elim
 | some _=>cases u with
  | none=>exact (show False from r).elim
  | some _=>rfl
theorem RelO.getD {o:Option V} {u:Option Value} {d:V} {d':Value} (r:RelO o u) (rd:RelV d d'):RelV (o.getD d) (u.getD d'):=by
 cases o with
 | none=>cases u with
  | none=>exact rd
  | some _=>exact (show False from r).elim
 | some _=>cases u with
  | none=>exact (show False from r).elim
  | some _=>exact r
theorem KV.val {kvs:List (κ×V)} {vs:List (κ×Value)} (r:KV kvs vs) (k:κ):RelO (valV kvs k) (j8 vs k):=by
 unfold KV at r;induction r with
 | nil=>exact True.intro
 | @cons p q ps qs h t ih=>
  obtain ⟨c,d⟩:=h;by_cases e:p.1=k
  ·have a:q.1=k:=c.symm.trans e;have b:j8 (q :: qs) k=some q.2:=by simp [j8,o5,a]
   rw [z0m e,b];exact d
  ·have a:¬ q.1=k:=λ z=>e (c.trans z);have b:j8 (q :: qs) k=j8 qs k:=by simp [j8,o5,a]
   rw [z0o e,b];exact ih
theorem KV.any {kvs:List (κ×V)} {vs:List (κ×Value)} (r:KV kvs vs) (k:κ):(kvs.any λ kv=>decide (kv.1=k))=vs.any λ kv=>decide (kv.1=k):=by
 unfold KV at r;induction r with
 | nil=>rfl
 | cons h t ih=>rw [O6,O6,ih,h.1]
theorem KV.repl {kvs:List (κ×V)} {vs:List (κ×Value)} (r:KV kvs vs) (k:κ) {y:V} {u:Value} (ry:RelV y u) :
  KV (kvs.map λ kv=>if kv.1=k then (kv.1,y) else kv) (vs.map λ kv=>if kv.1=k then (kv.1,u) else kv):=by
 unfold KV at r⊢;induction r with
 | nil=>exact .nil
 | @cons p q ps qs h t ih=>
  rw [O0,O0];refine .cons ?_ ih;obtain ⟨a,b⟩:=h;by_cases e:p.1=k
  ·rw [if_pos e,if_pos (a.symm.trans e)];exact ⟨a,ry⟩
  ·rw [if_neg e,if_neg (λ z=>e (a.trans z))];exact ⟨a,b⟩
theorem KV.put {kvs:List (κ×V)} {vs:List (κ×Value)} (r:KV kvs vs) (k:κ) {y:V} {u:Value} (ry:RelV y u):KV (putK kvs k y) (stored vs k u):=by
 unfold putK stored;rw [r.any k];by_cases e:(vs.any λ a=>decide (a.1=k))=true
 ·rw [if_pos e,if_pos e];exact r.repl k ry
 ·rw [if_neg e,if_neg e];exact Paired.snoc r ⟨rfl,ry⟩
theorem KV.drop {kvs:List (κ×V)} {vs:List (κ×Value)} (r:KV kvs vs) (k:κ):KV (dropK kvs k) (without vs k):=by
 unfold KV at r⊢;unfold dropK without;induction r with
 | nil=>exact .nil
 | @cons p q ps qs h t ih=>
  obtain ⟨c,f⟩:=h;rw [Q5,Q5];by_cases e:p.1=k
  ·have a:¬ decide (p.1≠k)=true:=by simp [e]
   have b:¬ decide (q.1≠k)=true:=by simp [c.symm.trans e]
   rw [if_neg a,if_neg b];exact ih
  ·have d:¬ q.1=k:=λ z=>e (c.trans z);have a:decide (p.1≠k)=true:=by simp [e]
   have b:decide (q.1≠k)=true:=by simp [d]
   rw [if_pos a,if_pos b];exact .cons ⟨c,f⟩ ih
theorem KV.length {kvs:List (κ×V)} {vs:List (κ×Value)} (r:KV kvs vs):kvs.length=vs.length:=m9 r
theorem zd3 (kvs:List (κ×V)) (k:κ):(dropK kvs k).length<=kvs.length:=E1 _ _
end
theorem kV_is {P:Program} {w:Z0} {k:Key} {u:Value} (r:RelV (kV k) u):(z0l P w).is k u=true:=by
 cases k with
 | inl i=>obtain ⟨t,e⟩:=(show∃t,u=v6 i t from r);subst e;exact z89 P w i t
 | inr x=>obtain ⟨t,e⟩:=(show∃t,u=z8 x t from r);subst e;exact z8i P w x t
theorem z75 {P:Program} {w:Z0} :∀{ks:List Key} {us:List Value},Vals (ks.map kV) us->ItemsAre (z0l P w) ks us
 | [],_,r=>by rw [x8] at r;cases r;exact .nil
 | k :: ks,_,r=>by
  rw [O0] at r;cases r with
  | cons h t=>exact .cons (kV_is h) (z75 t)
abbrev KT (H:Hp):List (List Key×V)->List (List Key×Addr×Value)->Prop:=d8 λ p q=>p.1=q.1/\H q.2.1=some (.tup (p.1.map kV))/\RelV p.2 q.2.2
theorem KT.val {H:Hp} {kvs:List (List Key×V)} {xs:List (List Key×Addr×Value)} (r:KT H kvs xs) (k:List Key):RelO (valV kvs k) ((V9 xs k).map (·.2)):=by
 induction r with
 | nil=>exact True.intro
 | @cons p q ps qs h t ih=>
  obtain ⟨c,_,d⟩:=h;by_cases e:p.1=k
  ·have a:q.1=k:=c.symm.trans e;have b:V9 (q :: qs) k=some q.2:=by simp [V9,o5,a]
   rw [z0m e,b];exact d
  ·have a:¬ q.1=k:=λ z=>e (c.trans z);have b:V9 (q :: qs) k=V9 qs k:=by simp [V9,o5,a]
   rw [z0o e,b];exact ih
theorem KT.repl {H:Hp} {kvs:List (List Key×V)} {xs:List (List Key×Addr×Value)} (r:KT H kvs xs) (k:List Key) {y:V} {u:Value} (ry:RelV y u) :
  KT H (kvs.map λ kv=>if kv.1=k then (kv.1,y) else kv) (xs.map (putAt k u)):=by
 induction r with
 | nil=>exact .nil
 | @cons p q ps qs h t ih=>
  rw [O0,O0];refine .cons ?_ ih;obtain ⟨a,b,c⟩:=h;unfold putAt;by_cases e:p.1=k
  ·rw [if_pos e,if_pos (a.symm.trans e)];exact ⟨a,b,ry⟩
  ·rw [if_neg e,if_neg (λ z=>e (a.trans z))];exact ⟨a,b,c⟩
theorem KT.put {H:Hp} {kvs:List (List Key×V)} {xs:List (List Key×Addr×Value)} (r:KT H kvs xs) (k:List Key) {b:Addr} {y:V} {u:Value} (hb:H b=some (.tup (k.map kV))) (ry:RelV y u) :
  KT H (putK kvs k y) (storedH xs k b u):=by
 have e:(kvs.any λ a=>decide (a.1=k))=(V9 xs k).isSome:=by rw [z4c,(r.val k).isSome_eq,X7]
 unfold putK storedH;rw [e];by_cases q:(V9 xs k).isSome=true
 ·rw [if_pos q,if_pos q];exact r.repl k ry
 ·rw [if_neg q,if_neg q];exact Paired.snoc r ⟨rfl,hb,ry⟩
theorem KT.keeps {H H':Hp} {kvs:List (List Key×V)} {xs:List (List Key×Addr×Value)} (r:KT H kvs xs) (ht :∀b ys,H b=some (.tup ys)->H' b=some (.tup ys)):KT H' kvs xs:=
 Paired.mapP r λ _ _ z=>⟨z.1,ht _ _ z.2.1,z.2.2⟩
section
variable {P:Program} {w:Z0} {H:Hp} {h:Heap} {a:Addr}
theorem rd_of {u:HO} (ok:HOk P w H h) (e:Rd H a u):ObjOk P w H h a u:=e.ok ok
theorem dk_rd {kvs:List (Key×V)} (ok:HOk P w H h) (e:Rd H a (.dK kvs)):kvs.length<=sizeLine/\(a == y4)=false/\∃vs,KV kvs vs/\h.DictOf (z0l P w) a vs:=
 show ObjOk P w H h a (.dK kvs) from rd_of ok e
theorem dk_of {kvs:List (Key×V)} (ok:HOk P w H h) (e:H a=some (.dK kvs)):kvs.length<=sizeLine/\(a == y4)=false/\∃vs,KV kvs vs/\h.DictOf (z0l P w) a vs:=dk_rd ok (.inl e)
theorem key_of {ks:List Key} (ok:HOk P w H h) (e:H a=some (.tup (ks.map kV))):(m8 (z0l P w)).is h ks a:=by
 obtain ⟨_,c,r,⟨o,d,f,n,b⟩,_⟩:=(show ObjOk P w H h a (.tup (ks.map kV)) from ok a _ e)
 exact ⟨o,c.toArray,n,d,f,b,by simpa using z75 r⟩
theorem dt_rd {kvs:List (List Key×V)} (ok:HOk P w H h) (e:Rd H a (.dT kvs)):kvs.length<=sizeLine/\(a == y4)=false/\
  ∃xs,KT H kvs xs/\h.DictOfH (m8 (z0l P w)) a xs:=by
 obtain ⟨z,y,xs,r,o,f,j,d,k,c,i,g⟩:=(show ObjOk P w H h a (.dT kvs) from rd_of ok e)
 refine ⟨z,y,xs,r,o,f,j,d,k,c,i,λ x b=>?_,g⟩;have all :∀{l:List (List Key×V)} {m:List (List Key×Addr×Value)},KT H l m->∀x∈m,(m8 (z0l P w)).is h x.1 x.2.1:=by
  intro l m q;induction q with
  | nil=>intro x b;exact nomatch b
  | @cons p q ps qs hq t ih=>
   intro x b;rcases List.mem_cons.mp b with e|b
   ·subst e;exact key_of ok (by rw [<-hq.1];exact hq.2.1)
   ·exact ih x b
 exact all r x b
theorem dt_of {kvs:List (List Key×V)} (ok:HOk P w H h) (e:H a=some (.dT kvs)):kvs.length<=sizeLine/\(a == y4)=false/\
  ∃xs,KT H kvs xs/\h.DictOfH (m8 (z0l P w)) a xs:=dt_rd ok (.inl e)
end
def DGet (H:Hp) (a:Addr) (y:V) (r:Option V):Prop:=
 (∃kvs k,Rd H a (.dK kvs)/\y=kV k/\r=valV kvs k)\/∃kvs k b,Rd H a (.dT kvs)/\y=.ref b/\H b=some (.tup (k.map kV))/\r=valV kvs k
def DPut (H:Hp) (a:Addr) (y v:V) (H':Hp):Prop:=
 (∃kvs k,H a=some (.dK kvs)/\y=kV k/\kvs.length < sizeLine/\H'=upd H a (.dK (putK kvs k v)))\/
 ∃kvs k b,H a=some (.dT kvs)/\y=.ref b/\H b=some (.tup (k.map kV))/\kvs.length < sizeLine/\H'=upd H a (.dT (putK kvs k v))
theorem DGet.k {H:Hp} {a:Addr} {kvs:List (Key×V)} {k:Key} (e:H a=some (.dK kvs)):DGet H a (kV k) (valV kvs k):=.inl ⟨kvs,k,.inl e,rfl,rfl⟩
theorem DPut.k {H:Hp} {a:Addr} {kvs:List (Key×V)} {k:Key} {v:V} (e:H a=some (.dK kvs)) (hl:kvs.length < sizeLine):DPut H a (kV k) v (upd H a (.dK (putK kvs k v))):=.inl ⟨kvs,k,e,rfl,hl,rfl⟩
section
variable {X:Cx} {pins:List (Addr×Obj)} {σ:St} {H:Hp} {s:u0} {a:Addr} {y v:V} {u r:Value} {o:Option V} {A:C2} {E:Value->u0->Prop}
theorem Inv.big (I:Inv X pins σ H s):y4 < s.heap.objs.size:=by have h:P2 < s.heap.objs.size:=(I.mod.glob.keeps I.bk).lt;exact A6 (by decide) h
theorem zb9 {Q:Value->u0->Prop} (hu:A.units + 1 < cLine) (I:Inv X pins σ H s) (g:DGet H a y (some v)) (ry:RelV y u) (h :∀w' s',Inv X pins σ H s'->RelV v w'->Q w' s') :
  N0 (B1 X.prog X.w) A (p8 (.ref a) u) Q E s:=by
 rcases g with ⟨r,k,e,f,l⟩|⟨r,k,b,e,f,eb,l⟩
 ·subst f;obtain ⟨z,hd,t,c,d⟩:=dk_rd I.hok e;obtain ⟨w',j,i⟩:=RelO.some_of (v:=v) (o:=j8 t k) (by rw [l];exact c.val k);exact wpAny_getItem_of (kV_is ry) d.mapOf j (h w' _ (I.tok _) i)
 ·subst f;cases (show u=P1 b from ry);obtain ⟨z,hd,n,c,d⟩:=dt_rd I.hok e;obtain ⟨w',j,i⟩:=RelO.some_of (v:=v) (o:=(V9 n k).map (·.2)) (by rw [l];exact c.val k);obtain ⟨p,m,q⟩:=Option.map_eq_some_iff.mp j;refine wpAny_getItem_heap (K5 hu) (key_of I.hok eb) d m ?_;rw [q];exact h w' _ (I.tok _) i
theorem d_in {Q:Value->u0->Prop} (hu:A.units + 1 < cLine) (I:Inv X pins σ H s) (g:DGet H a y o) (ry:RelV y u) (h :∀s',Inv X pins σ H s'->Q (.bool o.isSome) s') :
  N0 (B1 X.prog X.w) A (V2 .In u (.ref a)) Q E s:=by
 rcases g with ⟨i,k,e,f,l⟩|⟨i,k,b,e,f,eb,l⟩
 ·subst f;obtain ⟨z,hd,m,c,d⟩:=dk_rd I.hok e;refine wpAny_in_of (kV_is ry) hd d.mapOf ?_;rw [<-(c.val k).isSome_eq,<-l];exact h _ (I.tok _)
 ·subst f;cases (show u=P1 b from ry);obtain ⟨z,hd,j,c,d⟩:=dt_rd I.hok e;refine wpAny_in_heap (K5 hu) (key_of I.hok eb) hd d ?_;have q:=(c.val k).isSome_eq;rw [X7] at q;rw [<-q,<-l];exact h _ (I.tok _)
theorem zee {Q:Value->u0->Prop} (hu:A.units + 1 < cLine) (I:Inv X pins σ H s) (g:DGet H a y o) (ry:RelV y u) (h :∀s',Inv X pins σ H s'->Q (.bool (!o.isSome)) s') :
  N0 (B1 X.prog X.w) A (V2 .NotIn u (.ref a)) Q E s:=by
 rcases g with ⟨i,k,e,f,l⟩|⟨i,k,b,e,f,eb,l⟩
 ·subst f;obtain ⟨z,hd,m,c,d⟩:=dk_rd I.hok e;refine wpAny_notIn_of (kV_is ry) hd d.mapOf ?_;rw [<-(c.val k).isSome_eq,<-l];exact h _ (I.tok _)
 ·subst f;cases (show u=P1 b from ry);obtain ⟨z,hd,j,c,d⟩:=dt_rd I.hok e;refine wpAny_notIn_heap (K5 hu) (key_of I.hok eb) hd d ?_;have q:=(c.val k).isSome_eq;rw [X7] at q;rw [<-q,<-l];exact h _ (I.tok _)
theorem z7f {h':Heap} {t':Nat} {ob:HO} (I:Inv X pins σ H s) (mu:Mut (H a)) (hs:F5 a s.heap h') (he :∃q,h'.get? a=some q) (new:ObjOk X.prog X.w (upd H a ob) h' a ob) :
  Inv X pins σ (upd H a ob) { s with heap:=h',toks:=t' }:=
 I.write (x:=a) (e:=a) mu (.inl rfl) (λ b q c z=>(hs.2 b c).trans z) he new
theorem dk_new {P:Program} {w:Z0} {H':Hp} {h':Heap} {kvs:List (Key×V)} {vs:List (Key×Value)} (z:kvs.length<=sizeLine) (hd:(a == y4)=false) (rel:KV kvs vs) (dd:h'.DictOf (z0l P w) a vs) :
  ObjOk P w H' h' a (.dK kvs):=⟨z,hd,vs,rel,dd⟩
theorem zar {H':Hp} {Q:Unit->u0->Prop} (hu:A.units + 1 < cLine) (I:Inv X pins σ H s) (g:DPut H a y v H') (ry:RelV y u) (rv:RelV v r) (h :∀s',Inv X pins σ H' s'->Q () s') :
  N0 (B1 X.prog X.w) A (setItem (.ref a) u r) Q E s:=by
 rcases g with ⟨f,k,e,m,l,t⟩|⟨f,k,b,e,m,eb,l,t⟩
 ·subst m t;obtain ⟨z,hd,D,d,p⟩:=dk_of I.hok e;have x:D.length<=sizeLine:=by rw [<-d.length];exact z
  have n:(putK f k v).length<=sizeLine:=by have:=z2r f k v;omega
  refine wpAny_setItem_pairs (hsz:=x) (kV_is ry) p λ C i o=>h _ ?_;have O :∃q,C.get? a=some q:=let ⟨q,_,_,j,_⟩:=i;⟨q,j⟩;exact z7f I (by rw [e];exact True.intro) o O (dk_new n hd (d.put k rv) i)
 ·subst m t;cases (show u=P1 b from ry);obtain ⟨z,hd,G,d,p⟩:=dt_of I.hok e;have x:G.length<=sizeLine:=by rw [<-m9 d];exact z
  have n:(putK f k v).length<=sizeLine:=by have:=z2r f k v;omega
  refine wpAny_setItem_heap (hsz:=x) (K5 hu) (key_of I.hok eb) p λ C i o=>h _ ?_;obtain ⟨q,J,F,j,N,L,M,_,K⟩:=i;refine z7f I (by rw [e];exact True.intro) o ⟨q,j⟩ ⟨n,hd,_,(d.put k eb rv).keeps λ c P B=>?_,q,J,F,j,N,L,M,K⟩;rw [upd_ne (ne_of B e (λ z=>nomatch z))];exact B
end
section
variable {X:Cx} {pins:List (Addr×Obj)} {σ:St} {H:Hp} {s:u0} {a:Addr} {kvs:List (Key×V)} {k:Key} {u:Value} {A:C2} {E:Value->u0->Prop}
theorem d_pop {v:V} {more:List Value} {Q:Value->u0->Prop} (I:Inv X pins σ H s) (e:H a=some (.dK kvs)) (ry:RelV (kV k) u) (l:valV kvs k=some v) (hm:more=[]\/∃x,more=[x])
  (h :∀w' s',Inv X pins σ (upd H a (.dK (dropK kvs k))) s'->RelV v w'->Q w' s'):N0 (B1 X.prog X.w) A (call (.builtin "dict.pop") (.ref a :: u :: more)) Q E s:=by
 obtain ⟨z,hd,f,b,d⟩:=dk_of I.hok e;obtain ⟨w',r,p⟩:=RelO.some_of (v:=v) (o:=j8 f k) (by rw [<-l];exact b.val k);have g:(keyPart u).isSome=true:=by
  cases k with
  | inl i=>obtain ⟨t,q⟩:=(show∃t,u=v6 i t from ry);subst q;rfl
  | inr x=>obtain ⟨t,q⟩:=(show∃t,u=z8 x t from ry);subst q;rfl
 have j:argsOk "dict.pop" ⟨.ref a :: u :: more,[]⟩:=by
  rcases hm with q|⟨x,q⟩
  ·subst q;exact PySem.F.args_dict_pop_2 _ _
  ·subst q;exact PySem.F.args_dict_pop_3 _ _ _
 refine N7 B9 d.typeIs PySem.F.entry_dict_pop j (meets_dict_pop_there (z0l X.prog X.w) a (kV_is ry) more hm g)
  ⟨f,w',d,by rw [<-b.length];exact z,r,λ y c n=>h w' _ ?_ p⟩
 have m :∃q,y.get? a=some q:=let ⟨q,_,_,hq,_⟩:=c;⟨q,hq⟩;exact z7f I (by rw [e];exact True.intro) n m (dk_new (D0 (zd3 kvs k) z) hd (b.drop k) c)
end
def NoSl (i:Expr):Prop:=∀ov iv,x9 i false ov iv=operate [ov,iv] (p8 ov iv)
theorem zdn {prog:Program} {w:Z0} {A:C2} {E:Value->u0->Prop} {s:u0} {env:Env} {value slice:Expr} {pos:Pos} {T id:String} {Q:Value->u0->Prop}
  (hl:typeLookup (.type T) "__getitem__" = Z3 (some (.builtin id))) (hs:NoSl slice)
  (h:N0 (B1 prog w) A (W3 value env) (λ o s₁=>N0 (B1 prog w) A (W3 slice env) (λ i s₂=>s₂.TypeIs o T/\N0 (B1 prog w) A (p8 o i) Q E s₂) E s₁) E s) :
  N0 (B1 prog w) A (W3 (.Subscript value slice pos) env) Q E s:=by
 refine Subscript_ (K3 h (λ o s₁ e=>K3 e (λ i s₂ a=>?_) λ _ _ x=>x) λ _ _ x=>x);obtain ⟨c,a⟩:=a;unfold subscriptTail;refine o0 ?_;rw [getitemInPython_of_ne c.not_modules];refine o0 (wpAny_specialOf c hl ?_);have fin:N0 (B1 prog w) A (x9 slice false o i) (λ r b=>N0 (B1 prog w) A (letTemporaryGo value o r >>= λ _=>Z3 r) Q E b) E s₂:=by rw [hs o i];exact wpAny_operating (K3 a (λ r b d=>o0 (wpAny_letTemporaryGo (C0 d))) λ _ _ x=>x)
 first
  | exact C0 (o0 fin)
  | exact o0 (C0 (o0 fin))
  | exact o0 fin
theorem z8l {X:Cx} {pins:List (Addr×Obj)} {σ:St} {H:Hp} {s:u0} {a:Addr} {y:V} {o:Option V} (I:Inv X pins σ H s) (g:DGet H a y o):s.TypeIs (.ref a) "dict":=by
 rcases g with ⟨d,k,e,_,_⟩|⟨d,k,b,e,_,_,_⟩
 ·obtain ⟨_,_,h,_,c⟩:=dk_rd I.hok e;exact c.typeIs
 ·obtain ⟨_,_,f,_,c⟩:=dt_rd I.hok e;exact c.typeIs
noncomputable def tDGet (td ty:TE):TE:=λ σ H Q=>td σ H λ x H1=>ty σ H1 λ y H2=>∃a v,x=.ref a/\DGet H2 a y (some v)/\Q v H2
noncomputable def tDIn (ty td:TE):TE:=λ σ H Q=>ty σ H λ y H1=>td σ H1 λ x H2=>∃a o,x=.ref a/\DGet H2 a y o/\Q (.bl o.isSome) H2
noncomputable def zdw (ty td:TE):TE:=λ σ H Q=>ty σ H λ y H1=>td σ H1 λ x H2=>∃a o,x=.ref a/\DGet H2 a y o/\Q (.bl (!o.isSome)) H2
noncomputable def sDPut (td ty tv:TE):TS:=λ D σ H=>tv σ H λ v H1=>td σ H1 λ x H2=>ty σ H2 λ y H3=>∃a H4,x=.ref a/\DPut H3 a y v H4/\D.nx σ H4
section
variable {X:Cx} {o i e value:Expr} {pos pos' tpos:Pos} {td ty tv:TE}
theorem z1g (hu:X.A.units + 1 < cLine) (ho:PE X o td) (hi:PE X i ty) (hs:NoSl i):PE X (.Subscript o i pos) (tDGet td ty):=by intro b s σ H Q I h;refine zdn PySem.F.slot_dict_getitem.lookup hs (thn (ho b s σ H _ I h) λ u d ⟨x,H1,I1,rx,q1⟩=>thn (hi b d σ H1 _ I1 q1) λ l f ⟨y,H2,I2,ry,a,v,ex,g,q2⟩=>?_);subst ex;obtain rfl:u=P1 a:=rx;exact ⟨z8l I2 g,zb9 hu I2 g ry λ k j c e=>⟨v,H2,c,e,q2⟩⟩
theorem pc_din (hu:X.A.units + 1 < cLine) (hi:PE X i ty) (ho:PE X o td):PC X .In i o (tDIn ty td):=by intro b s σ H Q I h;refine thn (hi b s σ H _ I h) λ j d ⟨y,H1,I1,ry,q1⟩=>thn (ho b d σ H1 _ I1 q1) λ u e ⟨x,H2,I2,rx,a,ov,ex,g,q2⟩=>?_;subst ex;obtain rfl:u=P1 a:=rx;exact d_in hu I2 g ry λ f c=>⟨.bl ov.isSome,H2,c,rfl,q2⟩
theorem z7e (hu:X.A.units + 1 < cLine) (hi:PE X i ty) (ho:PE X o td):PC X .NotIn i o (zdw ty td):=by intro b s σ H Q I h;refine thn (hi b s σ H _ I h) λ j d ⟨y,H1,I1,ry,q1⟩=>thn (ho b d σ H1 _ I1 q1) λ u e ⟨x,H2,I2,rx,a,ov,ex,g,q2⟩=>?_;subst ex;obtain rfl:u=P1 a:=rx;exact zee hu I2 g ry λ f c=>⟨.bl (!ov.isSome),H2,c,rfl,q2⟩
theorem z41 (hu:X.A.units + 1 < cLine) (ho:PE X o td) (hi:PE X i ty) (hv:PE X value tv) (hs:o8 value (some (.Subscript o i pos')) pos.line X.env=Z3 false) :
  PS X (.Assign [.Subscript o i pos'] value pos) (sDPut td ty tv):=by
 intro b s σ H D I h;refine wpAny_Assign_Subscript (thn (hv b s σ H _ I h) λ r d ⟨v,H1,I1,rv,q1⟩=>thn (ho b d σ H1 _ I1 q1) λ u c ⟨x,H2,I2,rx,q2⟩=>thn (hi b c σ H2 _ I2 q2) λ k j ⟨y,H3,I3,ry,a,H4,ex,g,q3⟩=>?_) hs;subst ex;obtain rfl:u=P1 a:=rx;exact zar hu I3 g ry rv λ f e=>⟨σ,H4,e,q3⟩
end
theorem z8s {P:Program} {w:Z0} {H:Hp} (h:Heap) (hb:y4 < h.objs.size):ObjOk P w H (h.push { cls:=.type "dict",data:=.dict #[] }) h.objs.size (.dK []):=
 ⟨A2 _,beq_eq_false_iff_ne.mpr (J4 (L0 hb)),[],.nil,Heap.DictOf.new h⟩
noncomputable def tDNewK:TE:=λ _ H Q=>∀p,H p=none->Q (.ref p) (upd H p (.dK []))
section
variable {X:Cx} {pos:Pos}
theorem z6p:PE X (.Dict [] [] pos) tDNewK:=λ b s σ H Q I h=>wpAny_Dict_empty ⟨.ref s.heap.objs.size,_,I.laid (a:=s.heap.objs.size) (o:=.dK []) (t':=s.toks) (λ _ _ q=>v0 _ q) (y0 _) (z8s s.heap I.big),rfl,h _ (I.hok.fresh (y0 _))⟩
end
noncomputable def tPairs:List (TE×TE)->St->Hp->(List (V×V)->Hp->Prop)->Prop
 | [],_,H,Q=>Q [] H
 | (tk,tv) :: r,σ,H,Q=>tk σ H λ x H1=>tv σ H1 λ y H2=>tPairs r σ H2 λ ps H3=>Q ((x,y) :: ps) H3
abbrev VV:List (V×V)->List (Value×Value)->Prop:=d8 λ p q=>RelV p.1 q.1/\RelV p.2 q.2
def PPs (X:Cx) (pos:Pos) (keys:List (Option Expr)) (values:List Expr) (trs:List (TE×TE)):Prop:=
 ∀(pins:List (Addr×Obj)) (s:u0) (σ:St) (H:Hp) (Q:List (V×V)->Hp->Prop),Inv X pins σ H s->tPairs trs σ H Q->
  N0 (B1 X.prog X.w) X.A (evalPairs (pairTrees keys values X.env pos)) (λ vs s'=>∃ps H',Inv X pins σ H' s'/\VV ps vs/\Q ps H') X.xe s
theorem zc7 {X:Cx} {pos:Pos}:PPs X pos [] [] []:=λ a s σ H Q I h=>pairTrees_nil_walk ⟨[],H,I,.nil,h⟩
theorem z8q {X:Cx} {pos:Pos} {k v:Expr} {ks:List (Option Expr)} {vs:List Expr} {tk tv:TE} {trs:List (TE×TE)} (hk:PE X k tk) (hv:PE X v tv) (hr:PPs X pos ks vs trs) :
  PPs X pos (some k :: ks) (v :: vs) ((tk,tv) :: trs):=λ a s σ H Q I h=>
 pairTrees_cons_walk (thn (hk a s σ H _ I h) λ u c ⟨x,H1,I1,rx,q1⟩=>thn (hv a c σ H1 _ I1 q1) λ f b ⟨y,H2,I2,ry,q2⟩=>thn (hr a b σ H2 _ I2 q2) λ e d ⟨ps,H3,I3,rel,q3⟩=>⟨(x,y) :: ps,H3,I3,.cons ⟨rx,ry⟩ rel,q3⟩)
noncomputable def mergeK (kvs more:List (Key×V)):List (Key×V):=more.foldl (λ acc kv=>putK acc kv.1 kv.2) kvs
theorem KV.merge :∀{more:List (Key×V)} {rs:List (Key×Value)} {kvs:List (Key×V)} {vs:List (Key×Value)},KV more rs->KV kvs vs->KV (mergeK kvs more) (merged vs rs):=by
 intro more rs kvs vs r;unfold KV at r;induction r generalizing kvs vs with
 | nil=>intro q;exact q
 | @cons p q ps qs h t ih=>
  intro a;have e:KV (putK kvs p.1 p.2) (stored vs q.1 q.2):=by have:=a.put p.1 h.2;rw [<-h.1];exact this
  exact ih e
theorem z30 :∀(more kvs:List (Key×V)),(mergeK kvs more).length<=kvs.length + more.length
 | [],kvs=>by show kvs.length<=kvs.length + 0;omega
 | p :: r,kvs=>by have a:=z30 r (putK kvs p.1 p.2);have b:=z2r kvs p.1 p.2;show (mergeK (putK kvs p.1 p.2) r).length<=_;rw [T1];omega
theorem z5w {P:Program} {w:Z0} :∀{kvs:List (Key×V)} {ws:List (Value×Value)},VV (kvs.map λ kv=>(kV kv.1,kv.2)) ws->∃rs,Carries (z0l P w) ws rs/\KV kvs rs
 | [],_,r=>by rw [x8] at r;cases r;exact ⟨[],True.intro,.nil⟩
 | p :: kvs,_,r=>by
  rw [O0] at r;cases r with
  | @cons a b as bs h t=>obtain ⟨rs,c,q⟩:=z5w (P:=P) (w:=w) t;obtain ⟨e,d⟩:=b;exact ⟨(p.1,d) :: rs,⟨kV_is h.1,rfl,c⟩,.cons ⟨rfl,h.2⟩ q⟩
noncomputable def tDisp (trs:List (TE×TE)):TE:=λ σ H Q=>∀p,H p=none->tPairs trs σ (upd H p (.dK [])) λ ps H2=>H2 p=some (.dK [])/\∃kvs:List (Key×V),ps=kvs.map (λ kv=>(kV kv.1,kv.2))/\kvs.length<=15/\Q (.ref p) (upd H2 p (.dK (mergeK [] kvs)))
theorem zca {X:Cx} {pos:Pos} {keys:List (Option Expr)} {values:List Expr} {trs:List (TE×TE)} (h:PPs X pos keys values trs) (hall:keys.all (·.isSome)=true) (hl:keys.length=values.length) (h0:keys≠[])
  (h15:keys.length<=15):PE X (.Dict keys values pos) (tDisp trs):=by
 intro k s σ H Q I q;have m:=I.hok.fresh (y0 s.heap.objs.size);have f:=I.laid (a:=s.heap.objs.size) (o:=.dK []) (h':=s.heap.push { cls:=.type "dict",data:=.dict #[] }) (t':=s.toks) (λ _ _ q=>v0 _ q) (y0 _) (z8s s.heap I.big);refine wpAny_Dict_walk (knd:=z0l X.prog X.w) hall hl h0 h15 (thn (h k _ σ _ _ f (q _ m)) λ t r ⟨ps,H2,I2,rel,e,kvs,ep,lk,q2⟩=>?_);subst ep;obtain ⟨rs,c,d⟩:=z5w (P:=X.prog) (w:=X.w) rel;obtain ⟨z,hd,u,i,l⟩:=dk_of I2.hok e;cases i;refine ⟨rs,c,l,λ h' b j=>⟨.ref s.heap.objs.size,_,?_,rfl,q2⟩⟩;have n:(mergeK [] kvs).length<=sizeLine:=by have g:=z30 kvs [];rw [j6] at g;rw [O5];omega
 have p :∃q,h'.get? s.heap.objs.size=some q:=let ⟨q,_,_,hq,_⟩:=b;⟨q,hq⟩;exact z7f I2 (by rw [e];exact True.intro) j p (dk_new n hd (d.merge .nil) b)
structure M1 (X:Cx) (o:Expr) (m:Str) (apos:Pos) (e:Expr) (cpos:Pos):Prop where
 base:r6 o m X.env (W3 o X.env)=W3 o X.env
 few:((q5 cpos (U1 [e] X.env)).all (λ x=>!x.1) && (backToKw cpos (y9 [] X.env)).all (λ x=>x.1.isSome)
  && decide (([e]:List Expr).length + ([]:List O7).length + (if ([]:List O7).isEmpty then 0 else 1) < 30))=true
 line:(apos.endLine == cpos.line)=true
 trees:q5 cpos (U1 [e] X.env)=[(false,W3 e X.env)]
structure M2 (X:Cx) (o:Expr) (m:Str) (apos:Pos) (e f:Expr) (cpos:Pos):Prop where
 base:r6 o m X.env (W3 o X.env)=W3 o X.env
 few:((q5 cpos (U1 [e,f] X.env)).all (λ x=>!x.1) && (backToKw cpos (y9 [] X.env)).all (λ x=>x.1.isSome)
  && decide (([e,f]:List Expr).length + ([]:List O7).length + (if ([]:List O7).isEmpty then 0 else 1) < 30))=true
 line:(apos.endLine == cpos.line)=true
 trees:q5 cpos (U1 [e,f] X.env)=[(false,W3 e X.env),(false,W3 f X.env)]
def IsD (H:Hp) (a:Addr):Prop:=(∃kvs,Rd H a (.dK kvs))\/∃kvs,Rd H a (.dT kvs)
theorem isD_at {X:Cx} {pins:List (Addr×Obj)} {σ:St} {H:Hp} {s:u0} {a:Addr} (I:Inv X pins σ H s) (d:IsD H a) :
  s.TypeIs (.ref a) "dict"/\(∀b,P1 a=.ref b->∃ob,s.heap.get? b=some ob/\ob.dict=none)/\(a == y4)=false:=by
 rcases d with ⟨h,e⟩|⟨h,e⟩
 ·obtain ⟨_,hd,j,_,c⟩:=dk_rd I.hok e;refine ⟨c.typeIs,λ b q=>?_,hd⟩;cases q;obtain ⟨ob,_,_,f,g,_⟩:=c;exact ⟨ob,f,g.2.1⟩
 ·obtain ⟨_,hd,i,_,c⟩:=dt_rd I.hok e;refine ⟨c.typeIs,λ b q=>?_,hd⟩;cases q;obtain ⟨ob,_,_,f,g,_⟩:=c;exact ⟨ob,f,g.2.1⟩
section
variable {X:Cx} {pins:List (Addr×Obj)} {σ:St} {H:Hp} {s:u0} {a:Addr} {y d:V} {u r:Value} {o:Option V} {A:C2} {E:Value->u0->Prop}
theorem d_get1 {Q:Value->u0->Prop} (hu:A.units + 1 < cLine) (I:Inv X pins σ H s) (g:DGet H a y o) (ry:RelV y u) (h :∀w' s',Inv X pins σ H s'->RelV (o.getD .non) w'->Q w' s') :
  N0 (B1 X.prog X.w) A (call (.builtin "dict.get") [.ref a,u]) Q E s:=by
 rcases g with ⟨j,k,e,f,l⟩|⟨j,k,b,e,f,eb,l⟩
 ·subst f;obtain ⟨z,hd,m,d,c⟩:=dk_rd I.hok e;refine N7 Z6 c.typeIs t9 (j9 _ _) (meets_dict_get (z0l X.prog X.w) a (kV_is ry) hd) ⟨_,c.mapOf,h _ _ (I.tok _) ?_⟩;rw [l];exact (d.val k).getD rfl
 ·subst f;cases (show u=P1 b from ry);obtain ⟨z,hd,i,d,c⟩:=dt_rd I.hok e;refine N7 Z6 c.typeIs t9 (j9 _ _) (meetsH_dict_get (m8 (z0l X.prog X.w)) a b hd) ⟨K5 hu,k,i,key_of I.hok eb,c,h _ _ (I.tok _) ?_⟩;rw [l];exact (d.val k).getD rfl
end
noncomputable def tDGet1 (td ty:TE):TE:=λ σ H Q=>td σ H λ x H1=>∃a,x=.ref a/\IsD H1 a/\ty σ H1 λ y H2=>∃o,DGet H2 a y o/\Q (o.getD .non) H2
noncomputable def tDPop1 (td ty:TE):TE:=λ σ H Q=>td σ H λ x H1=>∃a,x=.ref a/\IsD H1 a/\ty σ H1 λ y H2=>∃kvs k v,H2 a=some (.dK kvs)/\y=kV k/\valV kvs k=some v/\Q v (upd H2 a (.dK (dropK kvs k)))
section
variable {X:Cx} {o e f:Expr} {apos cpos:Pos} {td ty tx:TE}
theorem za6 (hu:X.A.units + 1 < cLine) (ho:PE X o td) (he:PE X e ty) (m:M1 X o "get" apos e cpos):PE X (.Call (.Attribute o "get" apos) [e] [] cpos) (tDGet1 td ty):=by intro b s σ H Q I h;refine wpAny_Call_method m.base m.few m.line l5 Z6 PySem.F.type_dict_get (thn (ho b s σ H _ I h) λ u f ⟨x,H1,I1,rx,a,ex,d,q1⟩=>?_);subst ex;obtain rfl:u=P1 a:=rx;obtain ⟨i,j,_⟩:=isD_at I1 d;refine ⟨i,j,?_⟩;rw [m.trees];refine B4 rfl (F7 (X3 (thn (he b f σ H1 _ I1 q1) λ q l ⟨y,H2,I2,ry,ov,g,q2⟩=>d4 ?_)));exact d_get1 hu I2 g ry λ p n c k=>⟨_,H2,c,k,q2⟩
theorem zch (ho:PE X o td) (he:PE X e ty) (m:M1 X o "pop" apos e cpos):PE X (.Call (.Attribute o "pop" apos) [e] [] cpos) (tDPop1 td ty):=by intro b s σ H Q I h;refine wpAny_Call_method m.base m.few m.line l5 B9 PySem.F.type_dict_pop (thn (ho b s σ H _ I h) λ u f ⟨x,H1,I1,rx,a,ex,d,q1⟩=>?_);subst ex;obtain rfl:u=P1 a:=rx;obtain ⟨g,i,_⟩:=isD_at I1 d;refine ⟨g,i,?_⟩;rw [m.trees];refine B4 rfl (F7 (X3 (thn (he b f σ H1 _ I1 q1) λ r n ⟨y,H2,I2,ry,kvs,k,v,ea,ey,l,q2⟩=>d4 ?_)));subst ey;exact d_pop I2 ea ry l (.inl rfl) λ q p c j=>⟨v,_,c,j,q2⟩
end
end L2
namespace Att
open PySem PySem.W PySem.Calls PyProof.Rows
theorem z3v {P:J1} {h:Heap} :∀(ns:List Int) (vs:List Value),WellAll P h vs (ns.map WData.int)->Z2 vs ns:=by
 intro ns;induction ns with
 | nil=>intro vs w;rw [x8] at w;cases w;exact .nil
 | cons n ns ih=>
  intro vs w;rw [O0] at w;cases w with
  | cons a b=>cases a;exact .cons _ _ (ih _ b)
theorem zaw {l:OpenLaw} {n:Nat} (hn:l.most=some n) {P:J1} {h:Heap} {args:List WData} {vals:List Value}
  (hpre:l.row.toRowW.claim.pre args=true) (hwl:WellAll P h vals args) :
  ∃a vs ns,vals=[P1 a]/\args=[WData.list (ns.map WData.int)]/\h.get? a=some { cls:=.type "list",data:=.seq vs.toArray }/\Z2 vs ns/\ns.length<=n:=by
 have i:WShape.hasAll [] args [.list .int]=true:=(pre_splitW hpre).1;have e:l.pre.holds [] { args:=args }=true:=(pre_splitW hpre).2;obtain ⟨d,r,rfl,k,m⟩:=hasAllW_cons i;obtain rfl:=hasAllW_nil m;obtain ⟨o,rfl,j⟩:=hasW_list k;obtain ⟨ns,rfl⟩:=items_int j;have f:ns.length<=n:=by
  unfold OpenLaw.pre at e;have b:(WTm.not (.lt (.lit (.int (n:Int))) (.len (.arg 0)))).holds [] { args:=[.list (ns.map .int)] }=true:=by have b:=(holds_andW e).1;rw [hn] at b;exact b
  have c:=condW_of b (w_not (w_lt w_lit (w_len_list (w_arg rfl))));rw [A0] at c;refine V5 λ q=>?_;have g:(n:Int) < ((ns.length:Nat):Int):=by omega
  first
   | (rw [decide_eq_true g] at c;exact absurd c (by decide))
   | (simp at c;omega)
 cases hwl with
 | cons w1 w2=>
  cases w2;cases w1 with
  | list ho hall=>exact ⟨_,_,ns,rfl,rfl,ho,z3v ns _ hall,f⟩
theorem zb5 (l:OpenLaw) (args:List WData):l.row.toRowW.claim.post args (.bool true) args=true:=
 postW_of (r:=l.row.toRowW) (X:=(true == true))
  (show WShape.has [] (.bool true) .bool=true by first|rfl|decide|simp [WShape.has,WShape.arms,WShape.armsAll])
  (show (WTm.eq .res (.lit (.bool true))).value [] { args:=args,res:=some (.bool true),after:=args }=some (.bool (true == true)) from w_eq_bool (w_res rfl) w_lit) rfl
theorem attach_call {l:OpenLaw} {n:Nat} {q:Program} {loose:List Str} {XP:(Str->Option Value)->Heap->Prop} {YP:Z0->Heap->Prop} {d:DefRec}
  (hn:l.most=some n) (hdf:d.params.defaults=[])
  (call :∀(w:Z0) (s₀ s₁:u0) (mg mb:Str->Option Value) (fa:Addr) (o:Obj) (pm cd doc:Value) (a:Addr) (vs:List Value) (ns:List Int),
   Ground q loose [] XP w s₀ mg mb s₁.heap->YP w s₁.heap->
   s₁.heap.get? fa=some o->o.data=.func (docDef d.name d.params d.body d.scope pm cd doc)->s₁.heap.CodeRec cd d.name->mg d.name=some (.ref fa)->
   s₁.heap.get? a=some { cls:=.type "list",data:=.seq vs.toArray }->Z2 vs ns->ns.length<=n->s₁.gens = #[]->
   K6 (B1 l.prog w) U8 (.call (.ref fa) ⟨[.ref a],[]⟩) (λ r s'=>r=.ok (.ret (.bool true))/\OldK s₁.heap s'.heap/\s'.os=s₁.os/\j7 s'.gens) s₁) :
  WalkO q loose XP YP l.row.toRowW d [] (λ f vs=>PySem.call f vs):=by
 intro w s₀ s₁ mg mb G Y fa o pm cd doc u kV i hd c b y m C D z x A E h B;obtain rfl:u=.none:=Dflts.none b hdf;obtain rfl:kV=.none:=Dflts.noKw b;obtain ⟨a,vs,ns,rfl,rfl,e,g,j⟩:=zaw hn x h;refine enter_call (J6 (call w s₀ s₁ mg mb fa o pm cd doc a vs ns G Y i (fd_plain hd) c y e g j m) λ r s' v=>?_);obtain ⟨rfl,t,k,s⟩:=v;exact ⟨.inl ⟨.bool true,.bool true,[],rfl,λ _=>rfl,.bool true,zb5 l _,λ _=>⟨o9,λ _ p=>(nomatch p)⟩⟩,t,k,s⟩
end Att
namespace L2
open PySem PySem.Spec PyProof.Rows
theorem z52 :∀{vs:List Value} {ns:List Int},Z2 vs ns->Vals (ns.map V.int) vs
 | _,_,.nil=>.nil
 | _,_,.cons n t h=>.cons ⟨t,rfl⟩ (z52 h)
noncomputable def z5s (s:Stmt):Arguments:=match s with
 | .FunctionDef _ a _ _ _ _ _ _ _ _=>a
 | _=>{ posonlyargs:=[],args:=[],vararg:=none,kwonlyargs:=[],kw_defaults:=[],kwarg:=none,defaults:=[] }
noncomputable def z3q (s:Stmt):List Stmt:=match s with
 | .FunctionDef _ _ b _ _ _ _ _ _ _=>b
 | _=>[]
noncomputable def z08 (s:Stmt):Scope:=match s with
 | .FunctionDef _ _ _ _ _ _ sc _ _ _=>sc
 | _=>{ kind:=.function,names:=[],isGenerator:=false,isCoroutine:=false }
noncomputable abbrev CX0:CXT:=λ _ _ _ _ _ _=>False
noncomputable abbrev E0:XK:=λ _ _ _=>False
theorem pass0 {X:Cx}:Passes CX0 X E0:=λ _ _ _ _ _ _ _ h=>h.elim
structure Fun (K:c0) (x qual:Str) (st:Stmt) (f:Addr) (fd:FuncData):Prop where
 ex :∃(oc:Value) (od:Option Addr) (kV doc pm:Value) (an:Option Addr) (cdv ct:Value) (osl:Array (Option Value)),
  fd=w5 x qual (z5s st) (z3q st) (z08 st) .none kV doc pm an cdv ct/\K.lookup f=some ⟨oc,od,.func fd,osl⟩/\z7 K cdv qual=true
 kp:j4 K (.ref f)=true
section
variable {P:Program} {w:Z0} {K:c0} {mg:Str->Option Value} {base:Heap}
theorem Fun.ok {x qual:Str} {st:Stmt} {f:Addr} {fd:FuncData} {N ps:List Str} {k:Nat} {sp:Sp} (F:Fun K x qual st f fd) (S:FnScope N ps (z08 st)) (len :∀vs H Q E,sp vs H Q E->vs.length=ps.length)
  (hbody :∀(cdv:Value) (A:C2) (outer:List Env) (s:u0) (H:Hp) (vs:List V) (Q:VK) (E:XK),Room k (A.deeper (c8 qual (z08 st) s.heap.objs.size f cdv))->sp vs H Q E->
   ∃t,PSs (cxOf CX0 P w K mg base N qual (z08 st) f cdv A outer s H E).nox (z3q st) t/\t { nx:=λ _ H'=>Q .non H',rt:=Q } (start N vs) H):FnOk P w K mg base CX0 (k + 1) f fd ps sp:=by
 obtain ⟨m,n,kV,i,g,e,cdv,l,j,rfl,c,a⟩:=F.ex;refine fn_of c a S len λ A outer s H vs Q E b d=>?_;obtain ⟨t,h,q⟩:=hbody cdv A outer s H vs Q E b d;exact ⟨t,h.nox,q⟩
theorem Fun.binds {x qual:Str} {st:Stmt} {f:Addr} {fd:FuncData} {ps:List Str} (F:Fun K x qual st f fd)
  (h :∀(kV doc pm:Value) (an:Option Addr) (cdv ct:Value) (us:List Value),us.length=ps.length->bindArgs (w5 x qual (z5s st) (z3q st) (z08 st) .none kV doc pm an cdv ct) ⟨us,[]⟩=Z3 (ps.zip us)):Binds K fd ps []:=by
 obtain ⟨d,e,kV,doc,pm,an,cdv,ct,b,rfl,c,a⟩:=F.ex;exact .all (h kV doc pm an cdv ct)
theorem fun_mk {x qual:Str} {st:Stmt} {f:Addr} {oc:Value} {od an:Option Addr} {osl:Array (Option Value)} {kV doc pm cdv ct:Value} (l:K.lookup f=some ⟨oc,od,.func (w5 x qual (z5s st) (z3q st) (z08 st) .none kV doc pm an cdv ct),osl⟩)
  (c:z7 K cdv qual=true) (k:j4 K (.ref f)=true):Fun K x qual st f (w5 x qual (z5s st) (z3q st) (z08 st) .none kV doc pm an cdv ct):=⟨⟨oc,od,kV,doc,pm,an,cdv,ct,osl,rfl,l,c⟩,k⟩
end
theorem hu_of {A:C2} {k:Nat} (hr:Room k A):A.units + 1 < cLine:=W1 (Nat.add_le_add_left (by decide:1<=64) _) hr.units
section
variable {X:Cx}
theorem pv (i:Nat) {x:Str} {pos:Pos} (hN:X.N[i]? = some x:=by rfl) (hv:Vis X.env.scope x:=by first|exact S0 rfl|exact Q0 (S0 rfl)|exact Q0 (Q0 rfl)) (hd:(x == ("__debug__" : Str))=false:=by decide)
  (hcd:(x == ("__classdict__" : Str))=false:=by decide):PE X (.Name x pos) (tVar i):=pe_var hN hv hd hcd
end
theorem iteF {A B:Prop} (h:B):if false=true then A else B:=by rw [if_neg W0];exact h
theorem iteT {A B:Prop} (h:A):if true=true then A else B:=by rw [if_pos rfl];exact h
theorem ite2 {c A B:Prop} [Decidable c] (h1:c->A) (h2:¬ c->B):if c then A else B:=by
 by_cases h:c
 ·rw [if_pos h];exact h1 h
 ·rw [if_neg h];exact h2 h
def Same (H H':Hp):Prop:=∀b o,H b=some o->H' b=some o
theorem Same.refl (H:Hp):Same H H:=λ _ _ h=>h
theorem Same.trans {H H1 H2:Hp} (a:Same H H1) (b:Same H1 H2):Same H H2:=λ c o h=>b c o (a c o h)
theorem Same.free {H H':Hp} (e:Same H H') {l:Addr} (h:H' l=Option.none):H l=Option.none:=by
 cases q:H l with
 | none=>rfl
 | some o=>rw [e l o q] at h;cases h
theorem Same.seq {K:c0} {H H':Hp} {a:Addr} {xs:List V} (e:Same H H') (h:SqL K H a xs):SqL K H' a xs:=by
 rcases h with (h|⟨o,h⟩)|h
 ·exact .inl (.inl (e _ _ h))
 ·exact .inl (.inr ⟨o,e _ _ h⟩)
 ·exact .inr h
section
variable {κ:Type} [DecidableEq κ]
theorem z7n {p:κ×V} {r:List (κ×V)} {k:κ} (e:p.1=k):dropK (p :: r) k=dropK r k:=by unfold dropK;rw [Q5,if_neg (by simp [e])]
theorem z7b {p:κ×V} {r:List (κ×V)} {k:κ} (e:¬ p.1=k):dropK (p :: r) k=p :: dropK r k:=by unfold dropK;rw [Q5,if_pos (by simp [e])]
end
end L2
set_option maxHeartbeats 4000000
namespace L2
open PySem PySem.Spec PyProof.Rows
section
variable {prog:Program} {w:Z0} {A:C2} {R:Result->u0->Prop} {s:u0}
theorem zb2 {elt target iter:Expr} {ifs:List Expr} {scope:Scope} {pos:Pos} {it acc:Value} {env:Env} (J:Nat->u0->Prop)
  (turn :∀n s,J n s->N0 (B1 prog w) A (F8 it) (λ r s₁=>match r with
   | none=>R (.ok .next) s₁
   | some v=>N0 (B1 prog w) A (Q7 target it v) (λ _ s₂=>N0 (B1 prog w) A (assign target env v) (λ _ s₃=>
     N0 (B1 prog w) A (forIn ifs true λ c r=>if r=true then do let ok <-isTrue c env (W3 c env);Z3 (Z4 ok) else Z3 (Z4 r)) (λ ok s₄=>
      if ok=true then N0 (B1 prog w) A (W3 elt env) (λ x s₅=>N0 (B1 prog w) A (call (.builtin "list.append") [acc,x]) (λ _ s₆=>∃m,m < n/\J m s₆) (λ _ _=>False) s₅) (λ _ _=>False) s₄
      else∃m,m < n/\J m s₄) (λ _ _=>False) s₃) (λ _ _=>False) s₂) (λ _ _=>False) s₁) (λ _ _=>False) s)
  (n:Nat) (h:J n s):K6 (B1 prog w) A (.compLoop (.ListComp elt [⟨target,iter,ifs,0⟩] scope pos) 0 it acc env) R s:=by
 refine codeAny_loop rfl J (λ n s i=>?_) n h;show N0 _ A ((compTurn (.ListComp elt [⟨target,iter,ifs,0⟩] scope pos) 0 it acc env).onRaise (λ x=>do noteFrame x env;theTreesLotGoes x)) _ _ s;refine wpAny_noted ?_;rw [compTurn_list];refine o0 (C8 (o0 (K3 (turn n s i) (λ r s₁ a=>?_) λ _ _ f=>f.elim)));cases r with
 | none=>exact C0 a
 | some v=>
  refine o0 (K3 a (λ _ s₂ e=>o0 (K3 e (λ _ s₃ g=>o0 (K3 g (λ ok s₄ b=>?_) λ _ _ f=>f.elim)) λ _ _ f=>f.elim)) λ _ _ f=>f.elim);cases ok with
  | false=>exact C0 ⟨rfl,b⟩
  | true=>exact o0 (o0 (K3 b (λ x s₅ j=>o0 (K3 j (λ _ s₆ d=>C0 (C0 ⟨rfl,d⟩)) λ _ _ f=>f.elim)) λ _ _ f=>f.elim))
end
theorem z23 {env:Env} :∀(names:List (Str×X5)) (acc:List (Str×Addr)),(∀y∈names,y.2=Y1->∃c,env.cells.lookup y.1=some c)->(∀y c,acc.lookup y=some c->env.cells.lookup y=some c)->
  ∃cl,(forIn names acc λ (x:Str×X5) (r:List (Str×Addr))=>(match x with
    | (name,kind)=>if (kind == Y1)=true then do let c <-cellOf env name;Z3 (Z4 ((name,c) :: r)) else Z3 (Z4 r):Sem (ForInStep (List (Str×Addr)))))=Z3 cl/\
   (∀y c,cl.lookup y=some c->env.cells.lookup y=some c)/\(∀y,((y,Y1)∈names\/∃c,acc.lookup y=some c)->∃c,cl.lookup y=some c)
 | [],acc,_,ha=>⟨acc,by rw [List.forIn_nil],ha,λ y h=>h.elim (λ z=>nomatch z) id⟩
 | (n,k) :: r,acc,hf,ha=>by
  rw [List.forIn_cons];dsimp only;by_cases hk:k=Y1
  ·subst hk;obtain ⟨c,i⟩:=hf (n,.free) d3 rfl;have e:cellOf env n=Z3 c:=by unfold cellOf;rw [i]
   rw [if_pos (by rfl),e];obtain ⟨cl,f,g,b⟩:=z23 r ((n,c) :: acc) (λ y a=>hf y (T2 _ a)) (λ y d hd=>by
    rw [X4] at hd;by_cases a:(y == n)=true
    ·rw [a] at hd;have:=eq_of_beq a;subst this;cases hd;exact i
    ·rw [E8] at a;rw [a] at hd;exact ha y d hd)
   refine ⟨cl,f,g,λ y a=>b y ?_⟩;rcases a with a|⟨d,hd⟩
   ·rcases List.mem_cons.mp a with z|z
    ·cases z;exact .inr ⟨c,by rw [X4];simp⟩
    ·exact .inl z
   ·refine .inr ?_;rw [X4];by_cases a:(y == n)=true
    ·rw [a];exact ⟨c,rfl⟩
    ·rw [E8] at a;rw [a];exact ⟨d,hd⟩
  ·rw [if_neg (by simpa using hk)];obtain ⟨cl,f,g,b⟩:=z23 r acc (λ y a=>hf y (T2 _ a)) ha;refine ⟨cl,f,g,λ y a=>b y ?_⟩;rcases a with a|a
   ·rcases List.mem_cons.mp a with z|z
    ·cases z;exact absurd rfl hk
    ·exact .inl z
   ·exact .inr a
theorem z92 {scope:Scope} {env:Env} (hf :∀y∈scope.names,y.2=Y1->∃c,env.cells.lookup y.1=some c) :
  ∃cl,T9 scope env=Z3 cl/\(∀y c,cl.lookup y=some c->env.cells.lookup y=some c)/\(∀y,(y,Y1)∈scope.names->∃c,cl.lookup y=some c):=by
 obtain ⟨cl,b,e,a⟩:=z23 (env:=env) scope.names [] hf (λ _ _ z=>nomatch z);refine ⟨cl,?_,e,λ y d=>a y (.inl d)⟩;simp only [T9];rw [b];rfl
theorem mem_of_lookup {κ:Type} {y:Str} {k:κ} :∀{l:List (Str×κ)},l.lookup y=some k->(y,k)∈l
 | (n,c) :: r,h=>by
  rw [X4] at h;by_cases hy:(y == n)=true
  ·rw [hy] at h;cases h;rw [eq_of_beq hy];exact d3
  ·rw [E8] at hy;rw [hy] at h;exact T2 _ (mem_of_lookup h)
theorem z3m {scope:Scope} {env:Env} (hcell :∀y∈scope.names,y.2≠NameKind.cell) {y:Str} {k:X5} (h:(d7 scope env).names.lookup y=some k) (hk:k=.cell\/k=.free):(y,Y1)∈scope.names:=by
 have m:=mem_of_lookup h;unfold d7 at m;obtain ⟨⟨n,c⟩,a,e⟩:=List.mem_map.mp m;dsimp only at e;by_cases hc:(c == Y1)=true
 ·have:=eq_of_beq hc;subst this;split at e<;>(injection e with e1 e2;subst e1;exact a)
 ·rw [if_neg (by simp [hc])] at e;injection e with e1 e2;subst e1 e2;rcases hk with rfl|rfl
  ·exact absurd rfl (hcell _ a)
  ·exact absurd rfl hc
noncomputable abbrev cxComp (X:Cx) (scope:Scope) (cl:List (Str×Addr)) (N:List Str) (C:Addr) (s₂:u0) (H₂:Hp) (fp:List Addr):Cx:=
 { X with N:=N,s₀:=s₂,H₀:=H₂,env:=compEnvC scope cl C X.env,outer:=X.stack,stack:=X.stack,ex:=fp,fn:=λ _=>false,pn:=[],xe:=λ _ _=>False }
def PF (X:Cx) (ifs:List Expr) (t:TT):Prop:=
 ∀(pins:List (Addr×Obj)) (s:u0) (σ:St) (H:Hp) (Q:Bool->Hp->Prop),Inv X pins σ H s->t σ H Q->
  N0 (B1 X.prog X.w) X.A (forIn ifs true λ c r=>if r=true then do let ok <-isTrue c X.env (W3 c X.env);Z3 (Z4 ok) else Z3 (Z4 r)) (TP X pins σ Q) X.xe s
theorem pf_nil {X:Cx}:PF X [] (λ _ H Q=>Q true H):=λ _ _ _ H _ I h=>wpAny_tests_nil ⟨H,I,h⟩
theorem pf_one {X:Cx} {c:Expr} {t:TT} (h:PT X c t):PF X [c] t:=λ a s σ H Q I q=>wpAny_tests_one (h a s σ H Q I q)
theorem Vals.snoc {xs:List V} {us:List Value} {x:V} {u:Value} (r:Vals xs us) (q:RelV x u):Vals (xs++[x]) (us++[u]):=Vals.append r (.cons q .nil)
def TagOf (H:Hp) (x:V) (T:String):Prop:=match x with
 | .non=>T = "NoneType"
 | .bl _=>T = "bool"
 | .int _=>T = "int"
 | .str _=>T = "str"
 | .ref a=>((∃xs,H a=some (.lst xs))/\T = "list")\/((∃xs,H a=some (.tup xs))/\T = "tuple")\/((∃kvs,H a=some (.dK kvs))/\T = "dict")
 | _=>False
noncomputable def instB (T C:String):Bool:=T == C || (T == "bool" && C == "int")
theorem TagOf.ty {K:c0} {H:Hp} {x:V} {T:String} (h:TagOf H x T):TyOf K H x (.type T):=by
 cases x with
 | non=>cases (show T = "NoneType" from h);exact .non
 | bl b=>cases (show T = "bool" from h);exact .bl b
 | int i=>cases (show T = "int" from h);exact .int i
 | str z=>cases (show T = "str" from h);exact .str z
 | ref a=>
  rcases h with ⟨⟨c,e⟩,rfl⟩|⟨⟨c,e⟩,rfl⟩|⟨⟨c,e⟩,rfl⟩
  ·exact .lst e
  ·exact .tup e
  ·exact .dK e
 | _=>exact h.elim
theorem TagOf.one {H:Hp} {x:V} {T:String} (h:TagOf H x T):T = "NoneType"\/T = "bool"\/T = "int"\/T = "str"\/T = "list"\/T = "tuple"\/T = "dict":=by
 cases x with
 | non=>exact .inl h
 | bl b=>exact .inr (.inl h)
 | int i=>exact .inr (.inr (.inl h))
 | str z=>exact .inr (.inr (.inr (.inl h)))
 | ref a=>rcases h with ⟨_,rfl⟩|⟨_,rfl⟩|⟨_,rfl⟩<;>simp
 | _=>exact h.elim
noncomputable def isiC:List String:=["int","str","bool","tuple","list"]
theorem kit_of (K:c0) {T C:String} (h:T = "NoneType"\/T = "bool"\/T = "int"\/T = "str"\/T = "list"\/T = "tuple"\/T = "dict") (hC:C∈isiC):PySem.W.kitOne K (.type T) (.type C)=some (instB T C):=by
 have hC:C = "int"\/C = "str"\/C = "bool"\/C = "tuple"\/C = "list":=by simpa [isiC] using hC
 rcases h with rfl|rfl|rfl|rfl|rfl|rfl|rfl<;>rcases hC with rfl|rfl|rfl|rfl|rfl<;>kernel_rfl
section
variable {X:Cx}
theorem z2q:CallR X (.builtin "isinstance") (λ xs H Q=>∃x C T,xs=[x,.ty C]/\TagOf H x T/\C∈isiC/\Q (.bl (instB T C)) H):=by intro g s σ H xs us Q I r h;obtain ⟨x,C,T,rfl,a,f,q⟩:=h;obtain ⟨u,e,rfl,d,b⟩:=vals2 r;cases (show e=m5 C from b);exact zb6 I d a.ty (kit_of X.K a.one f) λ c=>⟨.bl _,H,I.tok c,rfl,q⟩
theorem zau {ys:List V} {its:List Value} (rv:Vals ys its) (hb :∀y∈ys,∃b,y=V.bl b):((U0 its.length).all λ i=>decide (ys[i]? = some (V.bl true)))=ys.all λ y=>decide (y=V.bl true):=by
 have e:=rv.length;rw [Bool.eq_iff_iff,List.all_eq_true,List.all_eq_true];constructor
 ·intro h y d;obtain ⟨i,a,rfl⟩:=List.getElem_of_mem d;have:=h i (List.mem_range.mpr (by omega));simpa [a] using this
 ·intro h i a;have c:i < ys.length:=by have:=List.mem_range.mp a;omega
  have:=h ys[i] (Y4 c);simpa [c] using this
theorem zbn (hc:X.calm=true):CallR X (.builtin "all") (λ xs H Q=>∃p ys,xs=[.ref p]/\SqL X.K H p ys/\(∀y∈ys,∃b,y=V.bl b)/\Q (.bl (ys.all λ y=>decide (y=V.bl true))) H):=by
 intro M s σ H xs us Q I r h;obtain ⟨p,ys,rfl,E,k,q⟩:=h;obtain ⟨u,rfl,B⟩:=vals1 r;cases B;obtain ⟨g,f,d,N⟩:=I.list E;have C:p≠s.heap.objs.size:=by obtain ⟨o,e,_⟩:=d.isList;exact L0 (G0 e)
 refine call_all_walk (S5 d.isList ?_);refine ⟨s.heap.objs.size,_,_,_,_,_,λ i=>decide (ys[i]? = some (V.bl true)),rfl,Walks.list (show X.A.in1.handled=none from I.ok.hd hc) s.heap.objs.size p C g.toArray,⟨⟨_,J0 _ rfl,rfl,rfl⟩,d.isList.at λ o e=>v0 _ e⟩,?_,?_⟩
 ·intro i v G L J a t;have a:g[i]? = some v:=by simpa using a
  obtain ⟨D,e⟩:=List.getElem?_eq_some_iff.mp a;have c:i < ys.length:=by rw [f.length];exact D
  obtain ⟨b,m⟩:=k ys[i] (Y4 c);obtain ⟨u,l,j⟩:=f.get (i:=i) (x:=ys[i]) (by simp [c]);rw [a] at l;cases l;rw [m] at j;cases (show v=W8 b from j);have:decide (ys[i]? = some (V.bl true))=b:=by rw [P0 c,m];cases b<;>simp
  exact F3 (this ▸ t)
 ·intro O n F;have e:=zau f k;rw [<-I0] at e;refine ⟨.bl _,H,I.kept (t':=n) λ b o z=>F b o ?_ (v0 _ z),rfl,e.symm ▸ q⟩;intro w;rw [List.mem_singleton.mp w] at z;exact absurd (G0 z) (C3 _)
def CDivB (i j:Int):Prop:=0 < j/\j < 2 ^ 64
theorem z6c:OpR X (z5 .FloorDiv) (rI CDivB λ i j=>.int (i / j)):=opI λ i j _ _ _ _ _ a q=>by
 obtain ⟨c,b⟩:=a;refine floordiv_int (by omega) ?_ (.inl (PyProof.noPylong_of_log2 ?_))
 ·rw [Int.fdiv_eq_ediv_of_nonneg _ (by omega)];exact q
 ·have:j.natAbs.log2 < 64:=(Nat.log2_lt (by omega)).mpr (by omega);omega
structure KDict (K:c0) (P:J1) (a:Addr) (kvs:List (Str×V)):Prop where
 ex :∃es n,K.lookup a=some ⟨.type "dict",none,.dict es n,#[]⟩/\d8 (λ (p:Str×V) (e:DictEntry)=>(∃t,e.key=.str p.1 t)/\e.hash=O1 P p.1/\RelV p.2 e.val) kvs es.toList
 lo:(a == y4)=false
structure KDictT (K:c0) (P:J1) (a:Addr) (kvs:List ((Str×Str)×V)):Prop where
 ex :∃es n,K.lookup a=some ⟨.type "dict",none,.dict es n,#[]⟩/\d8 (λ (p:(Str×Str)×V) (e:DictEntry)=>(∃(b:Addr) (t t':Tok) (m:Nat),e.key=.ref b/\K.lookup b=some ⟨.type "tuple",none,.seq #[.str p.1.1 t,.str p.1.2 t'] m,#[]⟩)/\
  e.hash=reduceHash (Builtin.Tuple.tupleHashOf [O1 P p.1.1,O1 P p.1.2])/\RelV p.2 e.val) kvs es.toList
 nd:(kvs.map (·.1)).Nodup
 lo:(a == y4)=false
end
structure Cal (P:Program) (w:Z0) (K:c0) (mg:Str->Option Value) (base:Heap) (x:Str) (ps:List Str) (k:Nat) (sp:Sp):Prop where
 ex :∃f fd,FnOk P w K mg base CX0 k f fd ps sp/\mg x=some (.ref f)/\j4 K (.ref f)=true/\Binds K fd ps []
section
variable {X:Cx} {x:Str} {ps:List Str} {k:Nat} {sp:Sp} {e:Expr} {es:List Expr} {t:TA} {p pos:Pos}
theorem pe_cal (c:Cal X.prog X.w X.K X.mg X.base x ps k sp) (hr:Room k X.A) (hg:Gl X x) (ha:PA X (e :: es) t) (hn:x≠"__name__":=by decide) (hdb:(x == ("__debug__" : Str))=false:=by decide)
  (he:U1 (e :: es) X.env=(false,W3 e X.env) :: U1 es X.env:=by rfl) (hpl:(q5 pos (U1 es X.env)).any (·.1)=false:=by rfl):PE X (.Call (.Name x p) (e :: es) [] pos) (tCall sp [] E0 t):=by
 obtain ⟨f,g,F,b,a,d⟩:=c.ex;exact zdo F hr hg b a d .nil pass0 ha hdb he hpl
end
structure TX (K:c0) (mg:Str->Option Value):Prop where
 of :∀{n:Str} {v:Value},T6 K P2 n=some (some v)->mg n=some v
 no :∀{n:Str},T6 K P2 n=some none->mg n=none
theorem TX.mk' {K:c0} {mg:Str->Option Value} {h:Heap} (X:K.In h) (G:h.Ns P2 mg):TX K mg:=⟨λ e=>PySem.W.mg_of X G e,λ e=>PySem.W.mg_none_of X G e⟩
section
variable {X:Cx}
noncomputable def rAdd4 (K:c0):R2:=λ x y H Q=>(∃i j,x=.int i/\y=.int j/\Q (.int (i + j)) H)\/(∃i j,x=.str i/\y=.str j/\i.length + j.length<=sizeLine/\Q (.str (i++j)) H)\/rCat x y H Q\/rCatT K x y H Q
theorem opAdd:OpR X (z5 .Add) (rAdd4 X.K):=op_add.or (op_add_str.or (op_cat.or zdq))
theorem opEq:OpR X (V2 .Eq) rEq:=op_eq
theorem z28:CallR X (.builtin "len") (λ xs H Q=>(∃p ys,xs=[.ref p]/\(SqL X.K H p ys\/SqT X.K H p ys)/\Q (.int ys.length) H)\/∃z,xs=[.str z]/\z.length<=sizeLine/\Q (.int z.length) H):=call_len_seq.or z6f
end
theorem z4v {names:List (Str×X5)} {Q:Str×X5->Prop} (h:(names.all λ y=>y.2 != Y1)=true) :∀y∈names,y.2=Y1->Q y:=λ y a e=>by have:=List.all_eq_true.mp h y a;rw [e] at this;exact absurd this (by decide)
theorem Same.upd {H:Hp} {p:Addr} {o:HO} (h:H p=none):Same H (upd H p o):=λ b u e=>by rw [upd_ne (z0d e h)];exact e
theorem Same.seqT {K:c0} {H H':Hp} {a:Addr} {xs:List V} (e:Same H H') (h:SqT K H a xs):SqT K H' a xs:=by
 rcases h with (h|⟨o,h⟩)|h
 ·exact .inl (.inl (e _ _ h))
 ·exact .inl (.inr ⟨o,e _ _ h⟩)
 ·exact .inr h
end L2
namespace L2
open PySem PySem.Spec PyProof.Rows
open Builtin.Str (occurrences partsBetween strKind)
section
variable {X:Cx}
theorem z79 {vl:Value} {lo:Option Int} (p:O8 vl lo) :∃l:Option (Int×Tok),vl=partValue l/\l.map (·.1)=lo:=by
 cases p with
 | none=>exact ⟨none,rfl,rfl⟩
 | int i t=>exact ⟨some (i,t),rfl,rfl⟩
end
end L2
namespace L2
open PySem PySem.Spec PyProof.Rows
section
variable {X:Cx}
theorem op_isB:OpR X (V2 .Is) (λ x y H Q=>∃b c,x=.bl b/\y=.bl c/\Q (.bl (b == c)) H):=by intro e s σ H x y v u Q I d a h;obtain ⟨b,c,rfl,rfl,q⟩:=h;cases d;cases a;refine wpAny_is_plain rfl (fin_bl I q ?_);cases b<;>cases c<;>rfl
def rSlS:V->Option Int->Option Int->Hp->VK->Prop:=λ x lo hi H Q=>∃z,x=.str z/\z.length<=sizeLine/\Q (.str (Txt.slice z lo hi)) H
theorem sl_str:SlR X rSlS:=by
 intro p s σ H x v j m o r n Q I e d b a h;obtain ⟨z,rfl,f,q⟩:=h;obtain ⟨t,rfl⟩:=e;obtain ⟨l,rfl,c⟩:=z79 b;obtain ⟨u,rfl,i⟩:=z79 a;subst c i;refine ⟨"str",_,F.slot_str_getitem.lookup,typeIs_str _ _ _,wpAny_getItem_str_slice (l:=l) (u:=u) (st:=none) d rfl
  (post_val_or_str ⟨D0 (Txt.slice_le z _ _) f,λ g k=>⟨.str (Txt.slice z _ _),H,I.tok k,⟨g,rfl⟩,q⟩⟩)⟩
theorem slSeq:SlR X (λ x lo hi H Q=>rSlL X.K x lo hi H Q\/rSlT X.K x lo hi H Q\/rSlS x lo hi H Q):=sl_list.or (sl_tup.or sl_str)
end
def RowAt (H:Hp) (r:Addr):Prop:=∃a b c:Int,H r=some (.lst [.int a,.int b,.int c])/\0<=c/\c < 536870909
def Kept (r:Addr) (H H':Hp):Prop:=∀b o,b≠r->H b=some o->H' b=some o
theorem Kept.trans {r:Addr} {H H1 H2:Hp} (a:Kept r H H1) (b:Kept r H1 H2):Kept r H H2:=λ c o n h=>b c o n (a c o n h)
theorem Same.kept {r:Addr} {H H':Hp} (s:Same H H'):Kept r H H':=λ b o _ h=>s b o h
theorem Kept.set {r:Addr} {H:Hp} {o:HO}:Kept r H (upd H r o):=λ b u n h=>by rw [upd_ne n];exact h
structure Rw (r:Addr) (H H':Hp):Prop where
 k:Kept r H H'
 r:RowAt H' r
theorem Rw.trans {r:Addr} {H H1 H2:Hp} (a:Rw r H H1) (b:Rw r H1 H2):Rw r H H2:=⟨a.k.trans b.k,b.r⟩
theorem RowAt.same {r:Addr} {H H':Hp} (h:RowAt H r) (s:Same H H'):RowAt H' r:=by obtain ⟨a,b,c,e,h⟩:=h;exact ⟨a,b,c,s _ _ e,h⟩
theorem Rw.same {r:Addr} {H H1 H2:Hp} (a:Rw r H H1) (s:Same H1 H2):Rw r H H2:=⟨a.k.trans s.kept,a.r.same s⟩
theorem RowAt.fresh {r p:Addr} {H:Hp} (h:RowAt H r) (e:H p=none):p≠r:=by obtain ⟨a,b,c,d,_⟩:=h;intro z;subst z;rw [e] at d;cases d
def Off (r:Addr) (H:Hp) (x:V):Prop:=∃T,TagOf H x T/\x≠.ref r
theorem atI_of {α:Type} {xs:List α} {t:Int} (h0:0<=t) (h1:t < xs.length) :∃v,atI xs t=some v/\v∈xs:=by
 have a:t.toNat < xs.length:=by omega
 refine ⟨xs[t.toNat],?_,Y4 a⟩;have:=z04 (xs:=xs) (j:=t.toNat) (v:=xs[t.toNat]) (by simp [a]);rw [V7 h0] at this;exact this
theorem seq_if {c:TT} {t u rest:TS} {D:Ends} {σ:St} {H:Hp} (R:Hp->Prop) (hr :∀H1,R H1->rest D σ H1) (h:(∀H1,R H1->rest D σ H1)->tIfS c t u { D with nx:=rest D } σ H):tSeq (tIfS c t u) rest D σ H:=h hr
section
variable {r:Addr} {σ:St} {H0:Hp} {K:c0}
theorem g_name {i:Nat} {v:V} {σ:St} {H:Hp} {Q:St->Hp->Prop} (h:Q (σ.set i (some v)) H):gName i v σ H Q:=h
theorem t_nx {nx ct bk:St->Hp->Prop} {rt:VK} {σ:St} {H:Hp} (h:nx σ H):Ends.nx { nx:=nx,rt:=rt,bk:=bk,ct:=ct } σ H:=h
end
end L2
namespace L2
open PySem
section
variable {prog:Program} {w:Z0} {A:C2} {E:Value->u0->Prop} {s:u0}
theorem tupOn {it t:Addr} {i:Nat} {its:Array Value} {x:Value} {Q:Value->u0->Prop} (a:s.heap.IsTupleIter it t i) (b:s.heap.IsTuple t its) (c:its[i]? = some x)
  (q :∀h',h'.IsTupleIter it t (i + 1)->F5 it s.heap h'->Q x { s with heap:=h' }):N0 (B1 prog w) A (z4 (.ref it)) Q E s:=by
 obtain ⟨o,e,h,d⟩:=id a;obtain ⟨p,f,_,n,g⟩:=b;unfold z4;refine o0 (D7 (name:=p7 "__next__") a.typeIs i5 (n6 i5 a.typeIs D9 (show N0 _ _ (field (.ref it) 0 >>= _) _ _ s from o0 (w6 e d (x:=.ref t) rfl ?_)) (w9 _)));show N0 _ _ (if (P1 t == X6)=true then _ else (field (.ref it) 1 >>= _)) _ _ s;rw [if_neg (by exact W0)];refine o0 (w6 e d (x:=.int i 0) rfl (show N0 _ _ (q9 (.ref t) >>= _) _ _ s from o0 (P6 f g ?_)));simp only [M5,c];refine o0 (wpAny_setField e d (by simp) (C0 ⟨x,rfl,C0 (q _ ⟨_,N4 _ e (Obj.isFreed_of_fields (Obj.data_mapFields d _)),(Obj.cls_mapFields ..).trans h,?_⟩ (y3 ..))⟩));rw [Obj.data_mapFields d];simp [U4]
theorem tupOff {it t:Addr} {i:Nat} {its:Array Value} {Q:Value->u0->Prop} (hh:A.handled=none) (a:s.heap.IsTupleIter it t i) (b:s.heap.IsTuple t its) (c:its[i]? = none)
  (q :∀h' e,Heap.ExtBut it s.heap h'->(∃o,h'.get? e=some o/\o.cls=.type "StopIteration")->E (.ref e) { s with heap:=h' }):N0 (B1 prog w) A (z4 (.ref it)) Q E s:=by
 obtain ⟨o,f,j,d⟩:=id a;obtain ⟨p,g,_,n,h⟩:=b;unfold z4;refine o0 (D7 (name:=p7 "__next__") a.typeIs i5 (n6 i5 a.typeIs D9 (show N0 _ _ (field (.ref it) 0 >>= _) _ _ s from o0 (w6 f d (x:=.ref t) rfl ?_)) (w9 _)));show N0 _ _ (if (P1 t == X6)=true then _ else (field (.ref it) 1 >>= _)) _ _ s;rw [if_neg (by exact W0)];refine o0 (w6 f d (x:=.int i 0) rfl (show N0 _ _ (q9 (.ref t) >>= _) _ _ s from o0 (P6 g h ?_)));simp only [M5,c];refine o0 (M7 (o0 (wpAny_setField f d (by simp) (show N0 _ _ (newExc (.type "StopIteration") [] >>= _) _ _ _ from o0 ?_))));simp only [newExc,newTuple];refine o0 (T3 (o0 (m:=firstArgMember _ _) (a8 (a:=X6) (by first|rfl|(simp only [firstArgMember];rfl)) (T3 ?_ (by size_fits)))) (by size_fits));simp only [raiseNew];refine o0 (wpAny_handled ?_);first|rw [show A.in1.handled=none from hh]|rw [hh]
 exact o0 (C0 (wpAny_throw (q _ _ (((y3 ..).extBut.push _).push _) ⟨_,J0 _ rfl,rfl⟩)))
structure ZApart (z T U i j a b:Addr):Prop where
 dis:[z,T,U,i,j].Nodup
 fa:a∉[z,T,U,i,j]
 fb:b∉[z,T,U,i,j]
structure ZAt (h:Heap) (z T U i j a b:Addr) (n:Nat) (f:Value):Prop where
 z:IsZip h z T U f
 t:IsPair h T (.ref i) (.ref j)
 u :∃p q,IsPair h U p q
 i:h.IsTupleIter i a n
 j:h.IsTupleIter j b n
end
end L2
namespace L2
open PySem PySem.Spec PyProof.Rows
inductive Dt where
 | non|bl (b:Bool)|int (i:Int)|str (z:Str)|tup (ds:List Dt)
mutual
noncomputable def IsDt (K:c0) (H:Hp):Dt->V->Prop
 | .non,v=>v=.non
 | .bl b,v=>v=.bl b
 | .int i,v=>v=.int i
 | .str z,v=>v=.str z
 | .tup ds,v=>∃a xs,v=.ref a/\SqT K H a xs/\IsDts K H ds xs
noncomputable def IsDts (K:c0) (H:Hp):List Dt->List V->Prop
 | [],xs=>xs=[]
 | d :: ds,xs=>∃x r,xs=x :: r/\IsDt K H d x/\IsDts K H ds r
end
mutual
noncomputable def Dt.deep:Dt->Nat
 | .tup ds=>Dt.deeps ds + 1
 | _=>0
noncomputable def Dt.deeps:List Dt->Nat
 | []=>0
 | d :: ds=>max d.deep (Dt.deeps ds)
noncomputable def Dt.plain:Dt->Bool
 | .int _=>true
 | .str _=>true
 | .tup ds=>Dt.plains ds
 | _=>false
noncomputable def Dt.plains:List Dt->Bool
 | []=>true
 | d :: ds=>d.plain && Dt.plains ds
end
section
variable {X:Cx}
theorem Inv.turnedL {pins:List (Addr×Obj)} {σ:St} {H:Hp} {s:u0} {h':Heap} {t':Nat} {fp:List Addr} (I:Inv X pins σ H s) (k :∀b o,b∉fp->s.heap.get? b=some o->h'.get? b=some o) (hf :∀b∈fp,FpOk X pins H b) :
  Inv X pins σ H { s with heap:=h',toks:=t' }:=by
 have f :∀b u,H b=some u->b∉fp:=λ b u e z=>by have:=(hf b z).1;rw [this] at e;cases e
 refine I.step (g':=s.gens) (d':=s.drawn) (ch:=fp) (λ b d=>⟨(hf b d).2.2.2.1,(hf b d).2.1,(hf b d).2.2.2.2.1,(hf b d).2.2.2.2.2⟩) (λ b o _ _ a e _=>k b o a e) (λ b o _ _ a e _=>⟨o.slots,k b o a e⟩) (λ _ _ _ _ n=>n)
  (λ b o a e=>⟨o,k b o a e⟩) (λ _ _ e=>e) (λ _ _ _ e=>e) (λ b l e=>⟨#[],by rw [e];simp⟩) (λ m h=>?_) (λ b u e=>?_) I.bare
 ·obtain ⟨o,j,i,g,r⟩:=h;exact ⟨o,j,i,k _ o (λ z=>(hf _ z).2.1 rfl) g,r⟩
 ·refine (I.hok b u e).stay (λ c v a q=>k c v ?_ q) (λ _ q=>q) λ _ _ q=>q;rcases a with z|z
  ·rw [z];exact f b u e
  ·exact f c _ z
theorem Inv.turnedLaid {pins:List (Addr×Obj)} {σ:St} {H:Hp} {s:u0} {h':Heap} {t':Nat} {fp:List Addr} {a:Addr} {o:HO} (I:Inv X pins σ H s) (k :∀b o,b∉fp->s.heap.get? b=some o->h'.get? b=some o) (hf :∀b∈fp,FpOk X pins H b)
  (hp:s.heap.objs.size<=a) (new:ObjOk X.prog X.w (upd H a o) h' a o):Inv X pins σ (upd H a o) { s with heap:=h',toks:=t' }:=by
 have t:H a=none:=I.hok.fresh hp;have h :∀b u,H b=some u->b∉fp:=λ b u e z=>by have:=(hf b z).1;rw [this] at e;cases e
 have g :∀b u,H b=some u->upd H a o b=some u:=λ b u e=>by rw [upd_ne (z0d e t)];exact e
 refine I.step (g':=s.gens) (d':=s.drawn) (ch:=fp) (λ b f=>⟨(hf b f).2.2.2.1,(hf b f).2.1,(hf b f).2.2.2.2.1,(hf b f).2.2.2.2.2⟩) (λ b o _ _ d e _=>k b o d e) (λ b o _ _ d e _=>⟨o.slots,k b o d e⟩)
  (λ b u _ e n=>by rw [upd_ne (λ z=>by subst z;exact absurd (G0 e) (Nat.not_lt.mpr hp))];exact n)
  (λ b o d e=>⟨o,k b o d e⟩) (λ _ _ e=>g _ _ e) (λ _ _ _ e=>g _ _ e) (λ b y e=>⟨#[],by rw [g _ _ e];simp⟩) (λ m p=>?_) (λ b u e=>?_) I.bare
 ·obtain ⟨o,l,i,j,r⟩:=p;exact ⟨o,l,i,k _ o (λ z=>(hf _ z).2.1 rfl) j,r⟩
 ·by_cases f:b=a
  ·subst f;rw [z02] at e;cases e;exact new
  ·rw [upd_ne f] at e;refine (I.hok b u e).stay (λ c v d q=>k c v ?_ q) (λ c q=>g _ _ q) λ c x q=>g _ _ q;rcases d with z|z
   ·rw [z];exact h b u e
   ·exact h c _ z
theorem z0z {o e:Expr} {es:List Expr} {to:TE} {t:TA} {apos cpos:Pos} (ho:PE X o to) (ha:PA X (e :: es) t)
  (hbase:r6 o "append" X.env (W3 o X.env)=W3 o X.env:=by rfl)
  (hfew:((q5 cpos (U1 (e :: es) X.env)).all (λ x=>!x.1) && (backToKw cpos (y9 [] X.env)).all (λ x=>x.1.isSome)
   && decide ((e :: es).length + ([]:List O7).length + (if ([]:List O7).isEmpty then 0 else 1) < 30))=true:=by rfl)
  (hline:(apos.endLine == cpos.line)=true:=by rfl) (hs:U1 (e :: es) X.env=(false,W3 e X.env) :: U1 es X.env:=by rfl) (hplain:(q5 cpos (U1 es X.env)).any (·.1)=false:=by rfl) :
  PE X (.Call (.Attribute o "append" apos) (e :: es) [] cpos) (tBM X.K "list" z9k to t):=pe_bm PySem.F.plainAttrs_list PySem.F.slot_list_append PySem.F.type_list_append zbp ho ha hbase hfew hline hs hplain
end
def KeptL (L:List Addr) (H H':Hp):Prop:=∀b o,b∉L->H b=some o->H' b=some o
theorem KeptL.trans {L:List Addr} {H H1 H2:Hp} (a:KeptL L H H1) (b:KeptL L H1 H2):KeptL L H H2:=λ c o n h=>b c o n (a c o n h)
theorem KeptL.set {L:List Addr} {H:Hp} {l:Addr} {o:HO} (h:l∈L):KeptL L H (upd H l o):=λ b u n e=>by rw [upd_ne (λ z=>n (by rw [z];exact h))];exact e
theorem SqT.wrote {K:c0} {H:Hp} {l a:Addr} {o:HO} {zs xs:List V} (e:H l=some (.lst zs)) (h:SqT K H a xs):SqT K (upd H l o) a xs:=by
 rcases h with (h|⟨ob,h⟩)|h
 ·exact .inl (.inl (by rw [upd_ne (ne_of h e (by intro z;cases z))];exact h))
 ·exact .inl (.inr ⟨ob,by rw [upd_ne (ne_of h e (by intro z;cases z))];exact h⟩)
 ·exact .inr h
section
variable {prog:Program} {w:Z0} {A:C2} {E:Value->u0->Prop} {s:u0}
theorem zd8 {v:Value} {Q:Value->u0->Prop} {ns:List Int} (hn:ns.length < 64)
  (hc :∀R:List Value->u0->Prop,(∀h' tk vs,(∀b o,s.heap.get? b=some o->h'.get? b=some o)->Z2 vs ns->R vs { s with heap:=h',toks:=tk })->N0 (B1 prog w) A.in1 (collect v) R E s)
  (h :∀(h1 h':Heap) (tk:Nat) (out:Array Value) (ns':List Int) (e:Nat),(∀b o,s.heap.get? b=some o->h1.get? b=some o)->(∀b o,h1.get? b=some o->h'.get? b=some o)->h'.get? h1.objs.size=some { cls:=.type "list",data:=.seq out e }->Z2 out.toList ns'->ns'.Perm ns->ns'.Pairwise (·<=·)->Q (.ref h1.objs.size) { s with heap:=h',toks:=tk }) :
  N0 (B1 prog w) A (call (.builtin "sorted") [v]) Q E s:=by
 refine Calls.call_function_entry kind_sorted plain_sorted entry_sorted (args_sorted1 _) ?_;unfold Builtin.«sorted»;refine o0 (m:=checkCount "sorted" 1 1 _) (C0 (o0 (hc _ λ h1 tk vs k c=>?_)));have d:vs.length < 64:=by rw [c.length];exact hn
 refine o0 (wpAny_newList ?_ (D0 (U3 d) (by decide)));have a:(h1.push (A3 "list" vs.toArray 0)).get? h1.objs.size=some (A3 "list" vs.toArray 0):=J0 _ rfl;refine o0 (D2 (n6 slot_list_sort ⟨_,a,rfl⟩ entry_list_sort (list_sort_tree a c d λ out ns' l g j=>⟨_,rfl,?_⟩) (args_list_sort _)));obtain ⟨e,i⟩:=sortedHeap_at (out:=out) a;refine C0 ⟨_,rfl,h h1 _ tk out ns' e k (λ b o f=>?_) i l g j⟩;have lt:=G0 f;refine (sortedHeap_old (L0 lt) ?_).trans (v0 _ f);rw [size_push'];exact C1 lt
end
section
variable {X:Cx}
def srt (ns:List Int) (H:Hp) (Q:VK):Prop:=∀(l:Addr) (ns':List Int),H l=none->ns'.Perm ns->ns'.Pairwise (·<=·)->Q (.ref l) (upd H l (.lst (ns'.map V.int)))
theorem zd9 {pins:List (Addr×Obj)} {σ:St} {H:Hp} {s:u0} {Q:VK} {ns:List Int} {h1 h':Heap} {tk:Nat} {out:Array Value} {ns':List Int} {e:Nat} (I:Inv X pins σ H s) (hn:ns.length < 64) (q:srt ns H Q)
  (k1 :∀b o,s.heap.get? b=some o->h1.get? b=some o) (k2 :∀b o,h1.get? b=some o->h'.get? b=some o) (g:h'.get? h1.objs.size=some { cls:=.type "list",data:=.seq out e }) (i:Z2 out.toList ns') (p:ns'.Perm ns) (r:ns'.Pairwise (·<=·)) :
  EP X pins σ Q (.ref h1.objs.size) { s with heap:=h',toks:=tk }:=by
 have a:Inv X pins σ H { s with heap:=h1 }:=I.kept (t':=s.toks) k1;refine ⟨.ref h1.objs.size,_,a.laid (t':=tk) (o:=.lst (ns'.map V.int)) k2 (y0 _) ⟨?_,out.toList,e,z52 i,by simpa using g⟩,rfl,q _ ns' (a.hok.fresh (y0 _)) p r⟩;rw [A0,p.length_eq];exact D0 (U3 hn) (by decide)
theorem z6t:CallR X (.builtin "sorted") (λ xs H Q=>∃a ns,xs=[.ref a]/\(SqL X.K H a (ns.map V.int)\/SqT X.K H a (ns.map V.int))/\ns.length < 64/\srt ns H Q):=by
 intro C s σ H xs us Q I r h;obtain ⟨a,ns,rfl,c,v,q⟩:=h;obtain ⟨u,rfl,y⟩:=vals1 r;cases y;refine zd8 v (λ R t=>?_) λ B d A D E e x z g i p r=>zd9 I v q x z g i p r;rcases c with c|c
 ·obtain ⟨w,b,f,m⟩:=I.list c;obtain ⟨o,l,j,n,hd⟩:=f.isList;exact T8 a (.inl rfl) l j hd (λ d k=>t d s.toks _ k (by simpa using z1p b)) (by rw [I0,<-b.length];exact m)
 ·obtain ⟨w,b,f,m⟩:=I.tuple c;obtain ⟨o,l,j,n,hd⟩:=f;exact T8 a (.inr rfl) l j hd (λ d k=>t d s.toks _ k (by simpa using z1p b)) (by rw [I0,<-b.length];exact m)
end
theorem iteP {c A B:Prop} [Decidable c] (hc:c) (h:A):if c then A else B:=by rw [if_pos hc];exact h
theorem iteN {c A B:Prop} [Decidable c] (hc:¬ c) (h:B):if c then A else B:=by rw [if_neg hc];exact h
theorem z6s {names:List (Str×X5)} {n:Str} {Q:Str×X5->Prop} (h:(names.all λ y=>y.2 != Y1 || y.1 == n)=true) (q :∀k,Q (n,k)) :∀y∈names,y.2=Y1->Q y:=λ y c e=>by
 have:=List.all_eq_true.mp h y c;rw [e] at this;have:(y.1 == n)=true:=by simpa using this
 obtain ⟨a,b⟩:=y;rw [beq_iff_eq] at this;have:a=n:=this;subst this;exact q b
noncomputable def CXE (P:Program) (w:Z0) (base:Heap):CXT:=λ outer H s E e s'=>∃(ea:Addr) (cls a0:Value) (B:Heap) (H':Hp),e=.ref ea/\s'.os=s.os/\j7 s'.gens/\Un (frs outer) [] H H' s.heap s'.heap/\HOk P w H' s'.heap/\H' ea=none/\
 base.StaysIn B/\Heap.FlyingW B outer ea cls a0 s'.heap/\(∀b o,s'.heap.get? b=some o->b∉frs outer->((∃u,H' b=some u)\/∃u,s.heap.get? b=some u)->B.get? b=some o)/\E cls none H'
structure CalE (P:Program) (w:Z0) (K:c0) (mg:Str->Option Value) (base:Heap) (x:Str) (ps:List Str) (k:Nat) (sp:Sp):Prop where
 ex :∃f fd,FnOk P w K mg base (CXE P w base) k f fd ps sp/\mg x=some (.ref f)/\j4 K (.ref f)=true/\Binds K fd ps []
end L2
set_option maxHeartbeats 400000
namespace L2
open PySem PySem.Spec PyProof.Rows PySem.W PySem.Calls PySem.Builtin PySem.Builtin.ObjectAttr PySem.Builtin.Getset_descriptor
end L2
namespace L2
open PySem PySem.Spec PyProof.Rows PySem.W
end L2
namespace L2
open PySem PySem.Spec PyProof.Rows
end L2
set_option maxHeartbeats 4000000
namespace L2
open PySem PySem.Spec PyProof.Rows
noncomputable def cStG (σ:St) (fr:List (Nat×Str)) (us:List (Option V)):St:=us++fr.map λ p=>(σ[p.1]?).join
noncomputable def tCompG (wi:TI) (n:Nat) (fr:List (Nat×Str)) (g:TG) (tc:TT) (te:TE):TE:=λ σ H Q=>wi σ H λ J H1=>∃W:Nat->Nat->List V->Hp->Prop,(∃m,W 0 m [] H1)/\∀i m ys H,W i m ys H->
 (J.stop i H/\ys.length<=sizeLine/\∀p,H p=none->Q (.ref p) (upd H p (.lst ys)))\/
 (J.go i H/\ys.length<=sizeLine/\∀v H',J.yld i H v H'->g v (cStG σ fr (N2 n none)) H' λ σ6 H6=>∃us,us.length=n/\σ6=cStG σ fr us/\tc (cStG σ fr us) H6 λ b H2=>if b=true then te (cStG σ fr us) H2 λ y H3=>∃m',m' < m/\W (i + 1) m' (ys++[y]) H3 else∃m',m' < m/\W (i + 1) m' ys H2)
section
variable {X:Cx}
theorem zcy {scope:Scope} {cl:List (Str×Addr)} {N:List Str} {C:Addr} {s₂:u0} {H₂:Hp} {fp:List Addr} {x:Str} {px:Pos} (i:Nat) (hN:N.Nodup) (hi:N[i]? = some x) (hx:scope.names.lookup x=some .local):PG (cxComp X scope cl N C s₂ H₂ fp) (.Name x px) (gName i):=
 z0f hN hi (.inl (lookup_relabel_local hx)) (.inr (lookup_relabel_local hx))
theorem zab {xs:List Str} {tg:Expr} {g:TG} {pos:Pos} {elt iter:Expr} {ifs:List Expr} {scope:Scope} {fr:List (Nat×Str)} {wi:TI} {tc:TT} {te:TE} {use:Option (Value->Sem Unit)} {QQ:Value->u0->Prop} {pins:List (Addr×Obj)} {s:u0} {σ:St} {H:Hp} {Q:VK} {pp:Pos} (hcalm:X.calm=true) (hi:PI X tg iter wi)
  (hfr :∀p∈fr,X.N[p.1]? = some p.2/\(X.env.kindOf p.2=some .cell\/X.env.kindOf p.2=some .free))
  (hfree :∀y∈scope.names,y.2=Y1->X.env.kindOf y.1=some .cell\/X.env.kindOf y.1=some .free)
  (hfs :∀p∈fr,(p.2,Y1)∈scope.names/\((d7 scope X.env).names.lookup p.2=some .cell\/(d7 scope X.env).names.lookup p.2=some .free))
  (hcell :∀y∈scope.names,y.2≠NameKind.cell) (hkind:scope.kind=.function) (hnames :∀y∈scope.names,y.2=NameKind.local->scope.names.lookup y.1=some .local)
  (hg :∀cl C s₂ H₂ fp,PG (cxComp X scope cl (xs++fr.map (·.2)) C s₂ H₂ fp) tg g)
  (ht :∀cl C s₂ H₂ fp,PF (cxComp X scope cl (xs++fr.map (·.2)) C s₂ H₂ fp) ifs tc) (he :∀cl C s₂ H₂ fp,PE (cxComp X scope cl (xs++fr.map (·.2)) C s₂ H₂ fp) elt te)
  (hs :∀x,V4 iter X.env x=Z3 x) (I:Inv X pins σ H s) (h:tCompG wi xs.length fr g tc te σ H Q)
  (hend :∀(D:Addr) (s4:u0) (H4:Hp),Inv X pins σ H4 s4->(∃m,s4.heap.Ns (D + 1) m)->H4 (D + 1)=none->D + 1≠X.env.locals->X.s₀.heap.objs.size<=D + 1->(D + 1∉X.fs/\(∀x c,X.env.cells.lookup x=some c->c≠D + 1)/\∀p∈X.pn++pins,p.1≠D + 1)->Q (.ref D) H4->compPost (B1 X.prog X.w) X.A X.xe use QQ (.ref D) (D + 1) (.ok .next) s4) :
  N0 (B1 X.prog X.w) X.A (comprehension (.ListComp elt [⟨tg,iter,ifs,0⟩] scope pos) scope X.env pp (newList []) false (firstIter [⟨tg,iter,ifs,0⟩] X.env) use) QQ X.xe s:=by
 obtain ⟨cl,g2,U,b9⟩:=z92 (scope:=scope) (env:=X.env) λ y R hk=>I.ok.has y.1 (hfree y R hk);refine wpAny_comprehension_free (use:=use) rfl hs g2 hkind hnames (thn (hi pins s σ H _ I h) λ xv s₁ h₁=>thn h₁ λ g6 s₂ h₂=>?_);obtain ⟨it,fp,tn,J,O,e,f,T,b2,M,W,⟨m0,w0⟩,f4⟩:=h₂;subst e
 -- the list that is filled,the block's names
 refine T3 (wpAny_newFunctionEnv hcell (by intro y R;simp at R) (λ h₁ a5 a0=>?_) hkind);dsimp only at a5 a0⊢;generalize hD:s₂.heap.objs.size=D at a5 a0⊢;generalize hG:s₂.heap.push { cls:=.type "list",dict:=none,data:=.seq ([]:List Value).toArray }=G at a5 a0⊢;have hC:G.objs.size=D + 1:=by rw [<-hG,p4,hD]
 generalize hCC:G.objs.size=C at a5 a0 hC⊢;subst hC;have b0 :∀b∈fp,b < D:=λ b a=>by obtain ⟨o,e,_⟩:=T.obj _ _ b2 b a;rw [<-hD];exact G0 e
 have a2 :∀b o,s₂.heap.get? b=some o->h₁.get? b=some o:=λ b o e=>a0.extBut b o (L0 (C1 (by rw [<-hD];exact G0 e))) (v0 _ (hG ▸ v0 _ e));have d5:G.get? D=some { cls:=.type "list",dict:=none,data:=.seq ([]:List Value).toArray }:=by rw [<-hG,<-hD];exact J0 _ rfl
 have g1:h₁.PlainList D #[]:=⟨0,a0.extBut _ _ (L0 (V1 D)) (v0 _ d5)⟩
 have f8 :∀y c,cl.lookup y=some c->c < D:=λ y c e=>by obtain ⟨v,q⟩:=f.cell y c (U y c e);rw [<-hD];exact q.lt
 have e8 :∀b∈frs X.stack,b < D:=λ b a=>by
  rcases List.mem_cons.mp (f.stkSub b a) with e|a
  ·rw [e,<-hD];exact f.lt
  ·rw [<-hD];exact K8 λ z=>f.nofs z a
 have c6 :∀b∈fp,b∉frs X.stack:=λ b a g3=>by
  rcases List.mem_cons.mp (f.stkSub b g3) with e|z
  ·exact (M b a).2.1 e
  ·exact (M b a).2.2.1 z
 generalize hX':cxComp X scope cl (xs++fr.map (·.2)) (D + 1) s₂ O fp=X';have e0:X'.Ok:=by
  subst hX';refine ⟨f.ok.mod,hkind,f.ok.glob,f.ok.blt,(by show s₂.heap.objs.size<=D + 1;omega),λ y z c P L=>f.ok.inj y z c (U _ _ P) (U _ _ L),λ y R=>?_,(λ _ _ z=>Bool.noConfusion z),f.ok.hd,f.ok.frames,.inl rfl,λ b a=>⟨?_,λ y c e=>?_⟩,λ b o e=>f.bs b o e,?_,λ b o e a=>?_,c6,f.env0.funs,f.stkFree⟩
  ·rcases R with R|R
   ·exact b9 y (z3m hcell R (.inl rfl))
   ·exact b9 y (z3m hcell R (.inr rfl))
  ·exact L0 (C1 (b0 b a))
  ·exact (M b a).2.2.2.2.1 y c (U y c e)
  ·exact D0 f.ok.bsz f.sz
  ·rcases (M b a).2.2.2.1 with z|z
   ·exact f.ok.noex b o e z
   ·exact absurd (X0 (G0 (f.ok.bs b o e).1) z) (C3 _)
 have Y:X'.env.locals=D + 1:=by subst hX';rfl
 have a3:X'.env.cells=cl:=by subst hX';rfl
 have a9:X'.fs=frs X.stack:=by subst hX';rfl
 have b8:X'.pn=[]:=by subst hX';rfl
 have a4:X'.s₀=s₂:=by subst hX';rfl
 have c7:X'.H₀=O:=by subst hX';rfl
 have b5:X'.ex=fp:=by subst hX';rfl
 have c9:X'.N=xs++fr.map (·.2):=by subst hX';rfl
 have d4:X'.A=X.A:=by subst hX';rfl
 have E:X'.prog=X.prog/\X'.w=X.w/\X'.K=X.K/\X'.calm=true:=by subst hX';exact ⟨rfl,rfl,rfl,hcalm⟩
 have b3:X'.xe=λ _ _=>False:=by subst hX';rfl
 have c3:X'.env=compEnvC scope cl (D + 1) X.env:=by subst hX';rfl
 have f9:PF X' ifs tc:=hX' ▸ ht cl (D + 1) s₂ O fp;have e7:PE X' elt te:=hX' ▸ he cl (D + 1) s₂ O fp;have e5:PG X' tg g:=hX' ▸ hg cl (D + 1) s₂ O fp;have fresh :∀b,D<=b->O b=none:=λ b a=>f.hok.fresh (by rw [hD];exact a);have start :∀t,Inv X' [] (cStG σ fr (N2 xs.length none)) O { s₂ with heap:=h₁,toks:=t }:=λ t=>by
  refine ⟨e0,by rw [a4],f.bare,?_,⟨_,by rw [Y];exact a5,λ i y v P L e3=>?_⟩,λ y c e=>?_,by rw [Y];exact fresh _ (M6 _),λ y c e=>?_,λ p B=>?_,?_,?_⟩
  ·rw [a9,b5,c7,a4];exact Un.kept a2
  ·rw [c9] at P;by_cases a1:i < xs.length
   ·exfalso;unfold cStG at L;rw [Y0 (by rw [L3];exact a1),W6,if_pos a1] at L;cases L
   ·have a1:xs.length<=i:=V5 a1;rw [F1 a1,N1] at P;unfold cStG at L;rw [F1 (by rw [L3];exact a1),L3,N1] at L;generalize i - xs.length=i at P L;cases ej:fr[i]? with
    | none=>rw [ej] at P;cases P
    | some p=>
     rw [ej] at P;obtain rfl:p.2=y:=T0 P;have a8:(σ[p.1]?).join=some v:=by rw [ej] at L;exact T0 L
     have f1:σ[p.1]? = some (some v):=by
      cases q:σ[p.1]? with
      | none=>rw [q] at a8;cases a8
      | some z=>rw [q] at a8;exact congrArg some a8
     have B:=d0 ej;obtain ⟨m,hn,hl⟩:=f.loc;obtain ⟨u,r,l⟩:=hl p.1 p.2 v (hfr p B).1 f1 (by rcases (hfr p B).2 with z|z;exact .inr (.inl z);exact .inr (.inr z));refine ⟨u,r,.inr ⟨?_,?_⟩⟩
     ·rw [c3];exact (hfs p B).2
     ·rcases l with ⟨z,_⟩|⟨_,c,ec,q⟩
      ·exfalso;rcases (hfr p B).2 with z'|z'<;>(rw [z] at z';cases z')
      ·obtain ⟨c',c0⟩:=b9 p.2 (hfs p B).1;have:=U _ _ c0;rw [ec] at this;cases this;obtain ⟨o,ho,hd⟩:=q;exact ⟨c,by rw [a3];exact c0,o,a2 _ _ ho,hd⟩
  ·rw [a3] at e;obtain ⟨v,o,ho,hd⟩:=f.cell y c (U y c e);exact ⟨v,o,a2 _ _ ho,hd⟩
  ·rw [a3] at e;exact f.freeC y c (U y c e)
  ·rw [b8] at B;exact nomatch B
  ·rw [E.1,E.2.1];exact f.hok.kept a2
  ·rw [c9];unfold cStG;simp
 have FP :∀{pins':List (Addr×Obj)} {H':Hp},(∀b∈fp,H' b=none)->(∀p∈pins',p.1=D)->∀b∈fp,FpOk X' pins' H' b:=λ hn B b a=>by
  refine ⟨hn b a,?_,?_,.inl (by rw [b5];exact a),λ y c e=>?_,λ p c4=>?_⟩
  ·rw [Y];exact L0 (C1 (b0 b a))
  ·rw [a9];exact c6 b a
  ·rw [a3] at e;exact (M b a).2.2.2.2.1 y c (U y c e)
  ·rw [b8] at c4;rw [B p c4];exact E2 (b0 b a)
 -- the turns
 have c1 :∀s₃:u0,s₃={ s₂ with heap:=h₁,toks:=s₂.toks + ([]:List (Str×Value)).length }->
   K6 (B1 X.prog X.w) X.A (.compLoop (.ListComp elt [⟨tg,iter,ifs,0⟩] scope pos) 0 (.ref it) (.ref D) (compEnvC scope cl (D + 1) X.env))
    (compPost (B1 X.prog X.w) X.A X.xe use QQ (.ref D) (D + 1)) s₃:=by
  rintro s₃ rfl;rw [<-c3,<-E.1,<-E.2.1,<-d4];refine zb2 (λ k s'=>∃i ys its H',Inv X' [] (cStG σ fr (N2 xs.length none)) H' s'/\tn i s'.heap/\(∀b∈fp,H' b=none)/\s'.heap.PlainList D its.toArray/\Vals ys its/\H' D=none/\W i k ys H') ?_ m0
   ⟨0,[],[],O,start _,T.keep _ _ _ b2 λ b a o e=>a2 b o e,λ b a=>(M b a).1,g1,.nil,fresh _ (y0 _),w0⟩
  rintro n s3 ⟨i,ys,its,H3,I3,st3,fr3,ac3,rv3,hD3,w3⟩;obtain ⟨na,d9⟩:=id ac3;have c2:Inv X' [(D,{ cls:=.type "list",data:=.seq its.toArray na })] (cStG σ fr (N2 xs.length none)) H3 s3:=I3.pins_of λ p B=>by rw [Y7] at B;subst B;refine ⟨d9,hD3,by rw [Y];exact L0 (V1 D),by rw [a9];exact λ z=>C3 _ (e8 D z),λ v z=>nomatch z⟩
  have hT:=T;rw [<-E.1,<-E.2.1,<-E.2.2.1] at hT;rcases f4 i n ys H3 w3 with ⟨f3,b7,qn⟩|⟨go,b7,step⟩
  ·refine thn (hT.done X' rfl rfl rfl E.2.2.2 i _ s3 _ H3 _ c2 (FP fr3 (by intro p B;rw [List.mem_singleton.mp B])) st3 f3) λ r s4 ⟨hr,I4⟩=>?_;subst hr;obtain ⟨m4,g0,_⟩:=id I4.loc;obtain ⟨h',c5⟩ :∃h',h'=s4.heap:=⟨_,rfl⟩
   have d1:F5 (D + 1) s4.heap h':=by rw [c5];exact ⟨rfl,λ _ _=>rfl⟩
   have d6:D≠D + 1:=L0 (V1 D);have f0:=(I4.pin (D,_) (M0 _ d3))
   have f5:h'.get? D=some { cls:=.type "list",data:=.seq its.toArray na }:=(d1.2 D d6).trans f0.1;have un:Un (frs X.stack) fp O H3 s₂.heap s4.heap:=by have:=I4.base;rw [a9,b5,c7,a4] at this;exact this
   have kp :∀b o,b≠D + 1->s4.heap.get? b=some o->h'.get? b=some o:=λ b o a e=>(d1.2 b a).trans e;have a7 :∀b o,s₂.heap.get? b=some o->b≠D + 1/\b≠D:=λ b o e=>by have:=G0 e;rw [hD] at this;exact ⟨L0 (C1 this),L0 this⟩
   have f6:Un (frs X.stack) fp O (upd H3 D (.lst ys)) s₂.heap h':=by
    refine ⟨λ b o e n a Z=>kp b o (a7 b o e).1 (un.keep b o e n a Z),λ b o e n a Z=>?_,λ b o e n Z=>by rw [upd_ne (a7 b o e).2];exact un.free b o e n Z,λ b o e Z=>?_,λ b xs e=>?_,λ b o u e=>?_,λ b ps e=>?_⟩
    ·obtain ⟨sl,z⟩:=un.slot b o e n a Z;exact ⟨sl,kp _ _ (a7 b o e).1 z⟩
    ·obtain ⟨o',z⟩:=un.there b o e Z;exact ⟨o',kp _ _ (a7 b o e).1 z⟩
    ·rw [upd_ne (z0d e (fresh D (y0 _)))];exact un.tups b xs e
    ·rw [upd_ne (z0d e (fresh D (y0 _)))];exact un.frzs b o u e
    ·rw [upd_ne (z0d e (fresh D (y0 _)))];exact un.tbls b ps e
   have b1:H3 (D + 1)=none:=by have:=I4.free;rw [Y] at this;exact this
   have g4:HOk X.prog X.w (upd H3 D (.lst ys)) h':=λ b u e=>by
    by_cases a:b=D
    ·subst a;rw [z02] at e;cases e;exact ⟨b7,its,na,rv3,f5⟩
    ·rw [upd_ne a] at e;have z:=I4.hok b u e;rw [E.1,E.2.1] at z;refine z.stay (λ c v hc q=>kp c v ?_ q) (λ c q=>by rw [upd_ne (z0d q hD3)];exact q) λ c xs q=>by rw [upd_ne (z0d q hD3)];exact q
     rintro rfl;rcases hc with rfl|hc
     ·rw [b1] at e;cases e
     ·rw [b1] at hc;cases hc
   subst c5;have I5:Inv X pins σ (upd H3 D (.lst ys)) s4:=f.call' (s':=s4) (ch:=fp) (by have:=I4.os;rw [a4] at this;exact this) f6 g4 I4.bare (λ b a=>⟨(M b a).2.2.2.1,(M b a).2.1,(M b a).2.2.2.2.1,(M b a).2.2.2.2.2⟩);show compPost (B1 X'.prog X'.w) X'.A X.xe use QQ (.ref D) (D + 1) (.ok .next) s4;rw [E.1,E.2.1,d4];refine hend D s4 _ I5 ⟨m4,Y ▸ g0⟩ ?_ ?_ ?_ ?_ (qn D hD3)
   ·rw [upd_ne (E2 (V1 D))];exact b1
   ·exact E2 (C1 (by rw [<-hD];exact f.lt))
   ·exact D0 f.sz (by rw [hD];exact M6 D)
   ·refine ⟨λ z=>f.nofs (by rw [hD];exact M6 D) z,λ y c e=>?_,λ p B=>?_⟩
    ·obtain ⟨v,q⟩:=f.cell y c e;exact L0 (C1 (by rw [<-hD];exact q.lt))
    ·exact L0 (C1 (by rw [<-hD];exact G0 (f.pin p B).1))
  ·refine thn (hT.item X' rfl rfl rfl E.2.2.2 i _ s3 _ H3 _ c2 (FP fr3 (by intro p B;rw [List.mem_singleton.mp B])) st3 go) λ r s4 ⟨u,hr,h4⟩=>?_;subst hr;refine thn h4 λ _ s5 ⟨v,H5,I5,r5,y5,st5,fr5⟩=>?_;have f7:=I5.pinned (FP fr5 (by intro p B;rw [List.mem_singleton.mp B])) (T.obj _ _ st5);have g5:=e5 _ s5 (cStG σ fr (N2 xs.length none)) H5 v u _ f7 r5 (step v H5 y5);rw [b3] at g5;refine thn g5 λ _ s6 ⟨σ6,H6,I6,us,hus,e6,q6⟩=>?_;subst e6;have t6:=f9 _ s6 _ H6 _ I6 q6;rw [b3] at t6;refine thn t6 λ ok s7 ⟨H7,I7,q7⟩=>?_;have c8 :∀{H8:Hp} {F:u0} {ys':List V} {its':List Value} {pl:List (Addr×Obj)},Inv X' (pl++pinsAt fp s5.heap) (cStG σ fr us) H8 F->F.heap.PlainList D its'.toArray->Vals ys' its'->H8 D=none->(∃m',m' < n/\W (i + 1) m' ys' H8)->
     ∃m,m < n/\∃i ys its H',Inv X' [] (cStG σ fr (N2 xs.length none)) H' F/\tn i F.heap/\(∀b∈fp,H' b=none)/\F.heap.PlainList D its.toArray/\Vals ys its/\H' D=none/\W i m ys H':=λ {H8 F ys' its' pl} S b6 rv8 a6 ⟨m',hm,w8⟩=>by
    refine ⟨m',hm,i + 1,ys',its',H8,(S.pins_of (pins':=[]) (λ p B=>absurd B B0)).weak (by unfold cStG;simp [hus]) ?_,T.keep _ _ _ st5 λ b a o e=>(S.pin (b,o) (M0 _ (M0 _ (z12 a e)))).1,λ b a=>?_,b6,rv8,a6,w8⟩
    ·intro j z e;unfold cStG at e⊢;by_cases hj:j < xs.length
     ·rw [Y0 (by rw [L3];exact hj),W6,if_pos hj] at e;cases e
     ·have hj:xs.length<=j:=V5 hj;rw [F1 (by rw [L3];exact hj),L3] at e;rw [F1 (by rw [hus];exact hj),hus];exact e
    ·obtain ⟨o,e,d⟩:=T.obj _ _ st5 b a;exact (S.pin (b,o) (M0 _ (M0 _ (z12 a e)))).2.1
   have b4 :∀{H8:Hp} {F:u0} {σ8:St},Inv X' ([(D,{ cls:=.type "list",data:=.seq its.toArray na })]++pinsAt fp s5.heap) σ8 H8 F->F.heap.PlainList D its.toArray/\H8 D=none:=λ S=>
    have z:=S.pin (D,_) (M0 _ (Z5 _ d3))
    ⟨⟨na,z.1⟩,z.2.1⟩
   cases ok with
   | false=>rw [if_neg W0] at q7⊢;exact c8 I7 (b4 I7).1 rv3 (b4 I7).2 q7
   | true=>
    rw [if_pos rfl] at q7⊢;have t7:=e7 _ s7 _ H7 _ I7 q7;rw [b3] at t7;refine thn t7 λ y F ⟨vy,H8,S,r8,q8⟩=>?_;obtain ⟨b6,a6⟩:=b4 S;refine wpAny_list_append_plain (hsz:=by have:=rv3.length;rw [I0,<-this];exact b7) b6 λ h9 d2 e4=>?_;have I9:Inv X' ([]++pinsAt fp s5.heap) (cStG σ fr us) H8 F:=S.pins_of λ p B=>(S.pin p (M0 _ (M0 _ B)))
    have d8:Inv X' ([]++pinsAt fp s5.heap) (cStG σ fr us) H8 { F with heap:=h9 }:=by
     refine I9.turned (t':=F.toks) (it:=D) (λ b o a e=>(e4.2 b a).trans e) a6 (by rw [Y];exact L0 (V1 D)) (.inr (by rw [a4,hD];exact y0 _)) (λ y' c e=>?_) λ p B=>?_
     ·rw [a3] at e;exact L0 (f8 y' c e)
     ·rw [b8] at B;exact L0 (b0 _ (z73 B).1)
    have e9:its.toArray.push y=(its++[y]).toArray:=by simp
    rw [e9] at d2;exact c8 d8 d2 (rv3.snoc r8) a6 q8
 exact codeAny_compStart_list (c1 _ rfl) (T.self _ 0 _ _ _ (T.keep _ _ _ b2 λ b a o e=>a2 b o e) (c1 _ rfl))
theorem zcz {xs:List Str} {tg:Expr} {g:TG} {pos:Pos} {elt iter:Expr} {ifs:List Expr} {scope:Scope} {fr:List (Nat×Str)} {wi:TI} {tc:TT} {te:TE} (hcalm:X.calm=true) (hi:PI X tg iter wi)
  (hfr :∀p∈fr,X.N[p.1]? = some p.2/\(X.env.kindOf p.2=some .cell\/X.env.kindOf p.2=some .free))
  (hfree :∀y∈scope.names,y.2=Y1->X.env.kindOf y.1=some .cell\/X.env.kindOf y.1=some .free)
  (hfs :∀p∈fr,(p.2,Y1)∈scope.names/\((d7 scope X.env).names.lookup p.2=some .cell\/(d7 scope X.env).names.lookup p.2=some .free))
  (hcell :∀y∈scope.names,y.2≠NameKind.cell) (hkind:scope.kind=.function) (hnames :∀y∈scope.names,y.2=NameKind.local->scope.names.lookup y.1=some .local)
  (hg :∀cl C s₂ H₂ fp,PG (cxComp X scope cl (xs++fr.map (·.2)) C s₂ H₂ fp) tg g)
  (ht :∀cl C s₂ H₂ fp,PF (cxComp X scope cl (xs++fr.map (·.2)) C s₂ H₂ fp) ifs tc) (he :∀cl C s₂ H₂ fp,PE (cxComp X scope cl (xs++fr.map (·.2)) C s₂ H₂ fp) elt te)
  (hs :∀x,V4 iter X.env x=Z3 x:=by intro _;rfl):PE X (.ListComp elt [⟨tg,iter,ifs,0⟩] scope pos) (tCompG wi xs.length fr g tc te):=by
 intro t s σ H Q I h;rw [eval_ListComp];refine zab hcalm hi hfr hfree hfs hcell hkind hnames hg ht he hs I h λ D k l d a i j n ⟨c,hc,hp⟩ q=>?_;obtain ⟨m,a⟩:=a;exact ⟨m,a,λ r f=>⟨.ref D,l,d.turned (t':=k.toks) (it:=D + 1) (λ b o c e=>(f.2 b c).trans e) i j (.inr n) hc hp,rfl,q⟩⟩
theorem z4a {xs:List Str} {tg:Expr} {g:TG} {pos:Pos} {elt iter:Expr} {ifs:List Expr} {scope:Scope} {fr:List (Nat×Str)} {wi:TI} {tc:TT} {te:TE} {i:Nat} {y:Str} {py spos:Pos} (hNy:X.N.Nodup) (hiy:X.N[i]? = some y) (hy:Loc X.env.scope y) (hcalm:X.calm=true) (hi:PI X tg iter wi)
  (hfr :∀p∈fr,X.N[p.1]? = some p.2/\(X.env.kindOf p.2=some .cell\/X.env.kindOf p.2=some .free))
  (hfree :∀y∈scope.names,y.2=Y1->X.env.kindOf y.1=some .cell\/X.env.kindOf y.1=some .free)
  (hfs :∀p∈fr,(p.2,Y1)∈scope.names/\((d7 scope X.env).names.lookup p.2=some .cell\/(d7 scope X.env).names.lookup p.2=some .free))
  (hcell :∀y∈scope.names,y.2≠NameKind.cell) (hkind:scope.kind=.function) (hnames :∀y∈scope.names,y.2=NameKind.local->scope.names.lookup y.1=some .local)
  (hg :∀cl C s₂ H₂ fp,PG (cxComp X scope cl (xs++fr.map (·.2)) C s₂ H₂ fp) tg g)
  (ht :∀cl C s₂ H₂ fp,PF (cxComp X scope cl (xs++fr.map (·.2)) C s₂ H₂ fp) ifs tc) (he :∀cl C s₂ H₂ fp,PE (cxComp X scope cl (xs++fr.map (·.2)) C s₂ H₂ fp) elt te)
  (hs :∀x,V4 iter X.env x=Z3 x:=by intro _;rfl) (hw:o8 (.ListComp elt [⟨tg,iter,ifs,0⟩] scope pos) (some (.Name y py)) spos.line X.env=Z3 true:=by rfl) (hf:X.fn y=true\/X.env.scope.names.lookup y=some .local:=by first|exact .inl rfl|exact .inr rfl|assumption) :
  PS X (.Assign [.Name y py] (.ListComp elt [⟨tg,iter,ifs,0⟩] scope pos) spos) (tAsg (tCompG wi xs.length fr g tc te) (gName i)):=by
 intro t s σ H D I h;rw [exec_Assign_Name_used y py _ spos hw];refine o0 (C8 (o0 ?_));show N0 _ _ (do let _ <-comprehension (.ListComp elt [⟨tg,iter,ifs,0⟩] scope pos) scope X.env (firstIterPos [⟨tg,iter,ifs,0⟩] pos) (newList []) (firstAsync [⟨tg,iter,ifs,0⟩]) (firstIter [⟨tg,iter,ifs,0⟩] X.env) (some (assign (.Name y py) X.env));Z3 ()) _ _ _;refine o0 (zab hcalm hi hfr hfree hfs hcell hkind hnames hg ht he hs I h λ A l r j d L k E ⟨c,hc,hp⟩ q=>?_);obtain ⟨m,d⟩:=d;obtain ⟨o,F,w,G,hd,M,J⟩:=d;have K:Inv X ((A + 1,o) :: t) σ r l:=j.pins_of λ p a=>by
  rcases List.mem_cons.mp a with rfl|a
  ·exact ⟨G,L,k,c,λ v z=>by rw [hd] at z;cases z⟩
  ·exact j.pin p (M0 _ a)
 refine thn (z0f (pos:=py) hNy hiy hy hf _ l σ r (.ref A) (.ref A) D.nx K rfl q) λ _ n ⟨σ5,H5,I6,q6⟩=>?_;have f:=I6.pin (A + 1,o) (M0 _ d3);have u:Inv X t σ5 H5 n:=I6.pins_of λ p a=>I6.pin p (M0 _ (T2 _ a));refine ⟨m,⟨o,F,w,f.1,hd,M,J⟩,λ O B=>?_⟩;exact C0 (C0 ⟨σ5,H5,u.turned (t':=n.toks) (it:=A + 1) (λ b o c e=>(B.2 b c).trans e) f.2.1 k (.inr E) hc hp,q6⟩)
end
end L2
set_option maxHeartbeats 400000
namespace L2
open PySem PySem.Spec PyProof.Rows
theorem z78 {t rest:TS} {D:Ends} {σ:St} {H:Hp} (R:St->Hp->Prop) (hr :∀σ1 H1,R σ1 H1->rest D σ1 H1) (h:(∀σ1 H1,R σ1 H1->rest D σ1 H1)->t { D with nx:=rest D } σ H):tSeq t rest D σ H:=h hr
theorem z0a {te:TE} {g:TG} {rest:TS} {D:Ends} {σ:St} {H:Hp} (h:te σ H λ x H1=>g x σ H1 (rest D)):tSeq (tAsg te g) rest D σ H:=h
structure Runs (J:It) (H1:Hp) (n:Nat) (Item:Nat->V->Hp->Prop):Prop where
 go :∀i,i < n->∀H,Same H1 H->J.go i H
 stop :∀H,Same H1 H->J.stop n H
 item :∀i,i < n->∀H v H',Same H1 H->J.yld i H v H'->Same H H'/\Item i v H'
theorem z1e (p:Nat->Bool) (n:Nat):(U0 (n + 1)).filter p=(U0 n).filter p++(if p n=true then [n] else []):=by rw [B7,U2,Q5];cases p n<;>rfl
inductive All2 {α β:Type} (R:α->β->Prop):List α->List β->Prop
 | nil:All2 R [] []
 | cons {a:α} {b:β} {xs:List α} {ys:List β}:R a b->All2 R xs ys->All2 R (a :: xs) (b :: ys)
theorem z3l {α β:Type} {R:α->β->Prop} :∀{xs:List α} {ys:List β} {x:α} {y:β},All2 R xs ys->R x y->All2 R (xs++[x]) (ys++[y])
 | [],_,x,y,.nil,h=>.cons h .nil
 | _ :: _,_,x,y,.cons a r,h=>.cons a (z3l r h)
theorem z01 {α β:Type} {R S:α->β->Prop} (h :∀a b,R a b->S a b) :∀{xs:List α} {ys:List β},All2 R xs ys->All2 S xs ys
 | [],_,.nil=>.nil
 | _ :: _,_,.cons a r=>.cons (h _ _ a) (z01 h r)
theorem z03 {α β:Type} {R:α->β->Prop} :∀{xs:List α} {ys:List β},All2 R xs ys->ys.length=xs.length
 | [],_,.nil=>rfl
 | _ :: _,_,.cons _ r=>congrArg (· + 1) (z03 r)
theorem z2p {α β:Type} {f:α->β} :∀{xs:List α} {ys:List β},All2 (λ x y=>y=f x) xs ys->ys=xs.map f
 | [],_,.nil=>rfl
 | _ :: _,_,.cons a r=>by rw [O0,z2p r,a]
theorem z0w {α β:Type} (p:α->Bool) (f:α->β) (d:α) :∀xs:List α,((U0 xs.length).filter λ i=>p (xs[i]?.getD d)).map (λ i=>f (xs[i]?.getD d))=(xs.filter p).map f:=by
 intro xs;have h:(U0 xs.length).map (λ i=>xs[i]?.getD d)=xs:=by
  apply List.ext_getElem
  ·simp
  ·intro i b a;simp only [n4,List.getElem_range,P0 a,Option.getD_some]
 have e:(xs.filter p).map f=((((U0 xs.length).map (λ i=>xs[i]?.getD d))).filter p).map f:=by rw [h]
 rw [e,List.filter_map,O3];rfl
structure QE (X:Cx) (e:Expr) (t:TE):Prop where
 run:PE X e t
structure QA (X:Cx) (es:List Expr) (t:TA):Prop where
 run:PA X es t
structure QPs (X:Cx) (pos:Pos) (ks:List (Option Expr)) (vs:List Expr) (t:List (TE×TE)):Prop where
 run:PPs X pos ks vs t
structure QS (X:Cx) (st:Stmt) (t:TS):Prop where
 run:PS X st t
structure QSs (X:Cx) (sts:List Stmt) (t:TS):Prop where
 run:PSs X sts t
section
variable {X:Cx} {pos:Pos}
theorem q_of {sts:List Stmt} {t:TS} {G:TS->Prop} (q:QSs X sts t) (g:G t) :∃t,PSs X sts t/\G t:=⟨t,q.run,g⟩
theorem z42 {st:Stmt} {t:TS} (h:QS X st t):QSs X [st] t:=⟨z06 h.run⟩
theorem z0c {st:Stmt} {rest:List Stmt} {t u:TS} (h:QS X st t) (r:QSs X rest u):QSs X (st :: rest) (tSeq t u):=⟨z05 h.run r.run⟩
theorem qs_set {i:Nat} {x:Str} {e:Expr} {te:TE} {pos':Pos} (hN:X.N.Nodup) (hi:X.N[i]? = some x) (hx:Loc X.env.scope x) (he:QE X e te) (hs:o8 e (some (.Name x pos')) pos.line X.env=Z3 false:=by rfl) (hf:X.fn x=true\/X.env.scope.names.lookup x=some .local:=by first|exact .inl rfl|exact .inr rfl|assumption) :
  QS X (.Assign [.Name x pos'] e pos) (tAsg te (gName i)):=⟨ps_set hN hi hx he.run hs hf⟩
theorem zdf {o i value:Expr} {td ty tv:TE} {pos':Pos} (hu:X.A.units + 1 < cLine) (ho:QE X o td) (hi:QE X i ty) (hv:QE X value tv) (hs:o8 value (some (.Subscript o i pos')) pos.line X.env=Z3 false) :
  QS X (.Assign [.Subscript o i pos'] value pos) (sDPut td ty tv):=⟨z41 hu ho.run hi.run hv.run hs⟩
theorem qs_for {tg iter:Expr} {body:List Stmt} {wi:TI} {g:TG} {tb:TS} (hp:PassesOwn (B1 X.prog X.w) X.A X.env X.xe) (hc:X.calm=true) (hi:PI X tg iter wi) (hg:PG X tg g) (hb:QSs X body tb)
  (hs :∀x,V4 iter X.env x=Z3 x:=by intro _;rfl):QS X (.For tg iter body [] pos) (tFor wi g tb):=⟨ps_for hp hc hi hg hb.run hs⟩
theorem qe_lst {es:List Expr} {t:TA} (h:QA X es t):QE X (.List es pos) (tLst t):=⟨pe_lst h.run⟩
theorem qa_nil:QA X [] tNil:=⟨pa_nil⟩
theorem zbx {e:Expr} {es:List Expr} {te:TE} {t:TA} (ha:QE X e te) (hr:QA X es t) (hs:U1 (e :: es) X.env=(false,W3 e X.env) :: U1 es X.env:=by rfl):QA X (e :: es) (tCons te t):=⟨z00 ha.run hr.run hs⟩
theorem ze8:QPs X pos [] [] []:=⟨zc7⟩
theorem zcp {k v:Expr} {ks:List (Option Expr)} {vs:List Expr} {tk tv:TE} {trs:List (TE×TE)} (hk:QE X k tk) (hv:QE X v tv) (hr:QPs X pos ks vs trs):QPs X pos (some k :: ks) (v :: vs) ((tk,tv) :: trs):=⟨z8q hk.run hv.run hr.run⟩
theorem zdu {keys:List (Option Expr)} {values:List Expr} {trs:List (TE×TE)} (h:QPs X pos keys values trs) (hall:keys.all (·.isSome)=true) (hl:keys.length=values.length) (h0:keys≠[]) (h15:keys.length<=15):QE X (.Dict keys values pos) (tDisp trs):=⟨zca h.run hall hl h0 h15⟩
end
theorem z0k {X:Cx} {K:c0} (h:X.K=K):IxR X (rIx K):=h ▸ ix_seq
theorem z09 {α β:Type} {R:α->β->Prop} :∀{xs:List α} {ys:List β} {i:Nat} {y:β},All2 R xs ys->ys[i]? = some y->∃x,xs[i]? = some x/\R x y
 | _,_,i,y,.nil,e=>by simp at e
 | _,_,0,y,.cons a _,e=>by rw [Q2] at e;cases e;exact ⟨_,Q2,a⟩
 | _,_,i + 1,y,.cons _ r,e=>by rw [Z1] at e;obtain ⟨x,b,c⟩:=z09 r e;exact ⟨x,by rw [Z1];exact b,c⟩
end L2
set_option maxHeartbeats 4000000
namespace L2
open PySem PySem.Spec PyProof.Rows
section
variable {prog:Program} {w:Z0} {A:C2} {E:Value->u0->Prop} {s:u0}
theorem z48 (hh:A.handled=none) (it t:Addr) (ne:t≠it) (items:Array Value):Draws prog w A it [it,t] items.size (λ i v=>items[i]? = some v) (λ i h=>h.IsTupleIter it t i/\h.IsTuple t items) where
 live:=λ i h st=>st.1.elim λ o z=>⟨o,z.1⟩
 frame:=λ i h a st k=>⟨st.1.elim λ o z=>⟨o,k it (by simp) o z.1,z.2⟩,st.2.elim λ o z=>⟨o,k t (by simp) o z.1,z.2⟩⟩
 item:=λ i s Q E b st q=>tupOn st.1 st.2 (G6 b) λ a c sb=>q _ a s.toks (G6 b) ⟨c,st.2.elim λ o z=>⟨o,(sb.2 t ne).trans z.1,z.2⟩⟩ sb
 done:=λ s Q E st q=>tupOff hh st.1 st.2 (by simp) λ a e x y=>q a e x y
theorem zdd (a:Addr) (xs:Array Value):Meets (Builtin.«enumerate.__new__» ⟨[.type "enumerate",.ref a],[]⟩) (λ _ R s=>s.heap.IsTuple a xs/\R (.ok (.ret (.ref (s.heap.objs.size + 1))))
  { s with heap:=(s.heap.push { cls:=.type "tuple_iterator",data:=.fields #[.ref a,.int 0 0] }).push { cls:=.type "enumerate",data:=.fields #[.none,.bool false,.ref s.heap.objs.size,U4 0,.none,.none] } }):=
 .of_wp λ k w A R s h=>by
  obtain ⟨e,g,d,i,j⟩:=s;obtain ⟨f,h⟩:=h;have l:=sub_enumerate;have b:Heap.IsTuple (Shared.heap ⟨e,g,d,i,j⟩) a xs:=f
  wp_walk using J5 b
  intro Γ p m;show N0 (B1 k w) A.in1 (Z3 _) _ _ _;refine C0 ?_;generalize List.drop 1 ((Γ.code,p) :: Γ.below)=L;split
  ·rename_i c _ _ _ _;cases c == m5 "enumerate" with
   | true=>
    wp_walk using J5 b
    refine ⟨_,rfl,?_⟩;simpa [p4,E4] using h
   | false=>
    wp_walk using J5 b
    refine ⟨_,rfl,?_⟩;simpa [p4,E4] using h
  ·wp_walk using J5 b
   refine ⟨_,rfl,?_⟩;simpa [p4,E4] using h
theorem zcb {a:Addr} {xs:Array Value} {Q:Value->u0->Prop} (ha:s.heap.IsTuple a xs)
  (q :∀h',IsEnum h' (s.heap.objs.size + 1) s.heap.objs.size 0 .none->h'.IsTupleIter s.heap.objs.size a 0->h'.objs.size=s.heap.objs.size + 2->(∀c o,s.heap.get? c=some o->h'.get? c=some o)->Q (.ref (s.heap.objs.size + 1)) { s with heap:=h' }) :
  N0 (B1 prog w) A (call (.type "enumerate") [.ref a]) Q E s:=by
 refine callType_new F.called_enumerate (by decide) (F.typeCall_enumerate_1 _) (F.newCall_enumerate_1 _) (λ f=>F.args_object_init_2 f _) F.entry_enumerate_new (zdd a xs) ⟨ha,?_⟩;generalize hn:s.heap.objs.size=n at q⊢;generalize h0:s.heap.push { cls:=.type "tuple_iterator",data:=.fields #[.ref a,.int 0 0] }=k0;have d:k0.objs.size=n + 1:=by rw [<-h0,p4,hn]
 have g:k0.get? n=some { cls:=.type "tuple_iterator",data:=.fields #[.ref a,.int 0 0] }:=by rw [<-h0,<-hn];exact J0 _ rfl
 have b:(k0.push { cls:=.type "enumerate",data:=.fields #[.none,.bool false,.ref n,U4 0,.none,.none] }).get? (n + 1)=some { cls:=.type "enumerate",data:=.fields #[.none,.bool false,.ref n,U4 0,.none,.none] }:=by rw [<-d];exact J0 _ rfl
 exact ⟨⟨_,b,rfl⟩,q _ b ⟨_,v0 _ g,rfl,rfl⟩ (by rw [p4,d]) λ c o e=>v0 _ (by rw [<-h0];exact v0 _ e)⟩
end
noncomputable def IteL (K:c0) (a:Addr):It:=
  ⟨λ i H=>∃xs x,SqL K H a xs/\xs[i]? = some x,
   λ i H v H'=>∃p,H p=none/\v=.ref p/\∀xs,SqL K H a xs->∃x,xs[i]? = some x/\H'=upd H p (.tup [.int i,x]),
   λ i H=>∃xs,SqL K H a xs/\xs.length=i⟩
theorem w_0:(0:Nat)<=sizeLine:=by decide
theorem w_1:(1:Nat)<=sizeLine:=by decide
theorem w_2:(2:Nat)<=sizeLine:=by decide
theorem w_3:(3:Nat)<=sizeLine:=by decide
theorem w_4:(4:Nat)<=sizeLine:=by decide
theorem w_5:(5:Nat)<=sizeLine:=by decide
theorem w_7:(7:Nat)<=sizeLine:=by decide
theorem z8p {P:Program} {w:Z0} {K:c0} {elts:List Expr} {x1:Nat} {pos:Pos} {e it a:Addr} (ne:e≠it) (nae:a≠e) (nai:a≠it):Turn P w K (.Tuple elts x1 pos) (IteL K a) [e,it] e (λ n h=>(∃old,IsEnum h e it (n:Nat) old)/\h.IsListIter it a n) where
 mem:=by simp
 obj:=λ n h st c f=>by
  simp only [B3,B0,or_false] at f;rcases f with rfl|rfl
  ·obtain ⟨⟨old,z⟩,_⟩:=st;exact ⟨_,z,λ v z=>by cases (show P8 _=K9 v from z)⟩
  ·obtain ⟨_,o,e,_,d⟩:=st;exact ⟨o,e,λ v z=>by rw [d] at z;cases z⟩
 keep:=λ n h M st k=>by obtain ⟨⟨old,z⟩,o,e1,e2⟩:=st;exact ⟨⟨old,k e (by simp) _ z⟩,o,k it (by simp) _ e1,e2⟩
 item:=by
  intro X r G C f n a2 s σ H E I l st F;subst r G C;obtain ⟨L,x,m,O⟩:=F;obtain ⟨g,q,i,_⟩:=I.list m;have i:s.heap.IsList a g.toArray:=i.isList;obtain ⟨u,R,ru⟩:=q.get O;have D:=Draws.list (prog:=X.prog) (w:=X.w) (A:=X.A.in1) (I.ok.hd f) it a nai g.toArray;have a0:n < g.toArray.size:=by have:=(List.getElem?_eq_some_iff.mp R).1;simpa using this
  obtain ⟨⟨old,N⟩,J⟩:=st;refine wpAny_pyNext_enum_itemD D N ⟨J,i⟩ a0 ne (by simp [ne,nae.symm]) λ y M t j a3 a5 tT hz B=>?_;have j:g[n]? = some y:=by simpa using j
  rw [R] at j;cases j;have Y:e < s.heap.objs.size:=G0 N;have Z:it < s.heap.objs.size:=by obtain ⟨o,z,_⟩:=J;exact G0 z
  have T:s.heap.objs.size≠e:=E2 Y;have nT:s.heap.objs.size∉[e,it]:=by simp only [B3,B0,or_false,not_or];exact ⟨T,E2 Z⟩
  refine ⟨_,rfl,Q9 a3 λ Q a1 sb=>?_⟩;have k2 :∀b o,b∉[e,it]->s.heap.get? b=some o->Q.get? b=some o:=λ b o p z=>by simp only [B3,B0,or_false,not_or] at p;exact (sb.2 b p.1).trans (B b o p.1 p.2 z)
  have S:=(sb.2 _ T).trans tT;have a4:=a5.1.elim λ o z=>(⟨o,(sb.2 it ne.symm).trans z.1,z.2⟩:Q.IsListIter it a (n + 1))
  have fr:H s.heap.objs.size=none:=I.hok.fresh (y0 _);refine ⟨.ref s.heap.objs.size,upd H s.heap.objs.size (.tup [.int n,x]),I.turnedLaid (t':=t + 1) k2 l (y0 _) ⟨w_2,[.int n t,u],.cons ⟨t,rfl⟩ (.cons ru .nil),⟨_,S,rfl,_,rfl⟩,_,S,rfl⟩,rfl,⟨_,fr,rfl,λ a6 U=>⟨x,?_,rfl⟩⟩,⟨⟨_,a1⟩,a4⟩,λ c f=>?_⟩
  ·rw [I.list_inj U m];exact O
  ·rw [upd_ne (λ (z:c=s.heap.objs.size)=>nT (z ▸ f))];exact (l c f).1
 done:=by
  intro X r G C f n a2 s σ H E I l st F;subst r G C;obtain ⟨L,m,rfl⟩:=F;obtain ⟨g,q,i,_⟩:=I.list m;have i:s.heap.IsList a g.toArray:=i.isList;have D:=Draws.list (prog:=X.prog) (w:=X.w) (A:=X.A.in1) (I.ok.hd f) it a nai g.toArray;have W:=WalksT.enumerateD D e ne (by simp [ne,nae.symm]) (by simp);have la:g.toArray.size=L.length:=by simpa using q.length.symm
  exact W.done s _ E (by rw [la];exact ⟨st.1,st.2,i⟩) λ M V B=>⟨rfl,I.turnedL (t':=V) (λ c o f e=>B c o f e) l⟩
 self:=λ _ _ _ _ _ st h=>st.1.elim λ old z=>c7 z h
noncomputable def ieL (K:c0) (ta:TA):TI:=λ σ H R=>ta σ H λ vs H1=>∃a xs,vs=[.ref a]/\SqL K H1 a xs/\R (IteL K a) H1
theorem z9t {X:Cx} {elts:List Expr} {x1:Nat} {tpos:Pos} {e:Expr} {ta:TA} {p pos:Pos} (hg:Gl X "enumerate") (hm:X.mg "enumerate" = none) (ha:PA X [e] ta) (hs:U1 [e] X.env=[(false,W3 e X.env)]:=by rfl) :
  PI X (.Tuple elts x1 tpos) (.Call (.Name "enumerate" p) [e] [] pos) (ieL X.K ta):=by
 intro r s σ H R I h;refine Call_ (ld_blt I hg hm boot_enumerate (F2 (thn (ha pos r s σ H _ I h) λ us d ⟨vs,H1,I1,r1,q1⟩=>?_) (by rw [hs];rfl) rfl));obtain ⟨a,x,k,m,q⟩:=q1;subst k;obtain ⟨u,rfl,l⟩:=vals1 r1;cases (show u=P1 a from l);obtain ⟨v,w,b,_⟩:=I1.list m;have b:d.heap.IsList a v.toArray:=b.isList;have f:a < d.heap.objs.size:=by obtain ⟨o,e,_⟩:=id b;exact G0 e
 refine call_enumerate_list b λ y g t _ n=>?_;refine c7 g ?_;refine ⟨_,_,_,_,H1,rfl,I1.kept (t':=d.toks) n,z8p (E2 (V1 _)) (L0 (C1 f)) (L0 f),⟨⟨_,g⟩,t⟩,λ c i=>?_,q⟩;have j:d.heap.objs.size<=c:=by
  simp only [B3,B0,or_false] at i;rcases i with rfl|rfl
  ·exact W5 _ _
  ·exact y0 _
 exact I1.fpOk j (I1.hok.fresh j)
theorem zb0 {K:c0} {a:Addr} {xs:List V} {g:TG} {tb:TS} {D:Ends} {σ:St} {H:Hp} (Pv:Nat->St->Hp->Prop) (h0:Pv 0 σ H) (hl :∀i σ H,Pv i σ H->SqL K H a xs)
  (hs :∀i x σ H p,xs[i]? = some x->Pv i σ H->H p=none->g (.ref p) σ (upd H p (.tup [.int i,x])) λ σ2 H2=>tb { D with nx:=Pv (i + 1),ct:=Pv (i + 1),bk:=D.nx } σ2 H2) (hd :∀σ H,Pv xs.length σ H->D.nx σ H) :
  ∃W:Nat->Nat->St->Hp->Prop,(∃m,W 0 m σ H)/\∀i m σ H,W i m σ H->
   ((IteL K a).stop i H/\D.nx σ H)\/((IteL K a).go i H/\∃N:St->Hp->Prop,(∀σ' H',N σ' H'->∃m',m' < m/\W (i + 1) m' σ' H')/\∀x H',(IteL K a).yld i H x H'->g x σ H' λ σ2 H2=>tb { D with nx:=N,ct:=N,bk:=D.nx } σ2 H2):=by
 refine ⟨λ i m σ H=>m=xs.length - i/\i<=xs.length/\Pv i σ H,⟨xs.length,by simp,A2 _,h0⟩,?_⟩;rintro i m σ H ⟨rfl,hi,p⟩;have b:=hl i σ H p;by_cases hlt:i < xs.length
 ·refine .inr ⟨⟨xs,xs[i],b,by simp [hlt]⟩,Pv (i + 1),λ σ' H' f=>⟨xs.length - (i + 1),by omega,rfl,hlt,f⟩,λ v H' y=>?_⟩;obtain ⟨t,h,rfl,d⟩:=y;obtain ⟨j,c,rfl⟩:=d xs b;exact hs i j σ H t c p h
 ·have e:i=xs.length:=by omega
  subst e;exact .inl ⟨⟨xs,b,rfl⟩,hd σ H p⟩
noncomputable def IteT (K:c0) (a:Addr):It:=
  ⟨λ i H=>∃xs x,SqT K H a xs/\xs[i]? = some x,
   λ i H v H'=>∃p,H p=none/\v=.ref p/\∀xs,SqT K H a xs->∃x,xs[i]? = some x/\H'=upd H p (.tup [.int i,x]),
   λ i H=>∃xs,SqT K H a xs/\xs.length=i⟩
theorem z9p {P:Program} {w:Z0} {K:c0} {elts:List Expr} {x1:Nat} {pos:Pos} {e it a:Addr} (ne:e≠it) (nae:a≠e) (nai:a≠it):Turn P w K (.Tuple elts x1 pos) (IteT K a) [e,it] e (λ n h=>(∃old,IsEnum h e it (n:Nat) old)/\h.IsTupleIter it a n) where
 mem:=by simp
 obj:=λ n h st c f=>by
  simp only [B3,B0,or_false] at f;rcases f with rfl|rfl
  ·obtain ⟨⟨old,z⟩,_⟩:=st;exact ⟨_,z,λ v z=>by cases (show P8 _=K9 v from z)⟩
  ·obtain ⟨_,o,e,_,d⟩:=st;exact ⟨o,e,λ v z=>by rw [d] at z;cases z⟩
 keep:=λ n h M st k=>by obtain ⟨⟨old,z⟩,o,e1,e2⟩:=st;exact ⟨⟨old,k e (by simp) _ z⟩,o,k it (by simp) _ e1,e2⟩
 item:=by
  intro X r G C f n a2 s σ H E I l st F;subst r G C;obtain ⟨L,x,m,O⟩:=F;obtain ⟨g,q,i,_⟩:=I.tuple m;have i:s.heap.IsTuple a g.toArray:=i;obtain ⟨u,R,ru⟩:=q.get O;have D:=z48 (prog:=X.prog) (w:=X.w) (A:=X.A.in1) (I.ok.hd f) it a nai g.toArray;have a0:n < g.toArray.size:=by have:=(List.getElem?_eq_some_iff.mp R).1;simpa using this
  obtain ⟨⟨old,N⟩,J⟩:=st;refine wpAny_pyNext_enum_itemD D N ⟨J,i⟩ a0 ne (by simp [ne,nae.symm]) λ y M t j a3 a5 tT hz B=>?_;have j:g[n]? = some y:=by simpa using j
  rw [R] at j;cases j;have Y:e < s.heap.objs.size:=G0 N;have Z:it < s.heap.objs.size:=by obtain ⟨o,z,_⟩:=J;exact G0 z
  have T:s.heap.objs.size≠e:=E2 Y;have nT:s.heap.objs.size∉[e,it]:=by simp only [B3,B0,or_false,not_or];exact ⟨T,E2 Z⟩
  refine ⟨_,rfl,Q9 a3 λ Q a1 sb=>?_⟩;have k2 :∀b o,b∉[e,it]->s.heap.get? b=some o->Q.get? b=some o:=λ b o p z=>by simp only [B3,B0,or_false,not_or] at p;exact (sb.2 b p.1).trans (B b o p.1 p.2 z)
  have S:=(sb.2 _ T).trans tT;have a4:=a5.1.elim λ o z=>(⟨o,(sb.2 it ne.symm).trans z.1,z.2⟩:Q.IsTupleIter it a (n + 1))
  have fr:H s.heap.objs.size=none:=I.hok.fresh (y0 _);refine ⟨.ref s.heap.objs.size,upd H s.heap.objs.size (.tup [.int n,x]),I.turnedLaid (t':=t + 1) k2 l (y0 _) ⟨w_2,[.int n t,u],.cons ⟨t,rfl⟩ (.cons ru .nil),⟨_,S,rfl,_,rfl⟩,_,S,rfl⟩,rfl,⟨_,fr,rfl,λ a6 U=>⟨x,?_,rfl⟩⟩,⟨⟨_,a1⟩,a4⟩,λ c f=>?_⟩
  ·rw [I.tuple_inj U m];exact O
  ·rw [upd_ne (λ (z:c=s.heap.objs.size)=>nT (z ▸ f))];exact (l c f).1
 done:=by
  intro X r G C f n a2 s σ H E I l st F;subst r G C;obtain ⟨L,m,rfl⟩:=F;obtain ⟨g,q,i,_⟩:=I.tuple m;have i:s.heap.IsTuple a g.toArray:=i;have D:=z48 (prog:=X.prog) (w:=X.w) (A:=X.A.in1) (I.ok.hd f) it a nai g.toArray;have W:=WalksT.enumerateD D e ne (by simp [ne,nae.symm]) (by simp);have la:g.toArray.size=L.length:=by simpa using q.length.symm
  exact W.done s _ E (by rw [la];exact ⟨st.1,st.2,i⟩) λ M V B=>⟨rfl,I.turnedL (t':=V) (λ c o f e=>B c o f e) l⟩
 self:=λ _ _ _ _ _ st h=>st.1.elim λ old z=>c7 z h
noncomputable def ieT (K:c0) (ta:TA):TI:=λ σ H R=>ta σ H λ vs H1=>∃a xs,vs=[.ref a]/\SqT K H1 a xs/\R (IteT K a) H1
theorem zcu {X:Cx} {elts:List Expr} {x1:Nat} {tpos:Pos} {e:Expr} {ta:TA} {p pos:Pos} (hg:Gl X "enumerate") (hm:X.mg "enumerate" = none) (ha:PA X [e] ta) (hs:U1 [e] X.env=[(false,W3 e X.env)]:=by rfl) :
  PI X (.Tuple elts x1 tpos) (.Call (.Name "enumerate" p) [e] [] pos) (ieT X.K ta):=by
 intro r s σ H R I h;refine Call_ (ld_blt I hg hm boot_enumerate (F2 (thn (ha pos r s σ H _ I h) λ us d ⟨vs,H1,I1,r1,q1⟩=>?_) (by rw [hs];rfl) rfl));obtain ⟨a,x,k,m,q⟩:=q1;subst k;obtain ⟨u,rfl,l⟩:=vals1 r1;cases (show u=P1 a from l);obtain ⟨v,w,b,_⟩:=I1.tuple m;have b:d.heap.IsTuple a v.toArray:=b;have f:a < d.heap.objs.size:=by obtain ⟨o,e,_⟩:=id b;exact G0 e
 refine zcb b λ y g t _ n=>?_;refine c7 g ?_;refine ⟨_,_,_,_,H1,rfl,I1.kept (t':=d.toks) n,z9p (E2 (V1 _)) (L0 (C1 f)) (L0 f),⟨⟨_,g⟩,t⟩,λ c i=>?_,q⟩;have j:d.heap.objs.size<=c:=by
  simp only [B3,B0,or_false] at i;rcases i with rfl|rfl
  ·exact W5 _ _
  ·exact y0 _
 exact I1.fpOk j (I1.hok.fresh j)
theorem zb7 {K:c0} {a:Addr} {xs:List V} {g:TG} {tb:TS} {D:Ends} {σ:St} {H:Hp} (Pv:Nat->St->Hp->Prop) (h0:Pv 0 σ H) (hl :∀i σ H,Pv i σ H->SqT K H a xs)
  (hs :∀i x σ H p,xs[i]? = some x->Pv i σ H->H p=none->g (.ref p) σ (upd H p (.tup [.int i,x])) λ σ2 H2=>tb { D with nx:=Pv (i + 1),ct:=Pv (i + 1),bk:=D.nx } σ2 H2) (hd :∀σ H,Pv xs.length σ H->D.nx σ H) :
  ∃W:Nat->Nat->St->Hp->Prop,(∃m,W 0 m σ H)/\∀i m σ H,W i m σ H->
   ((IteT K a).stop i H/\D.nx σ H)\/((IteT K a).go i H/\∃N:St->Hp->Prop,(∀σ' H',N σ' H'->∃m',m' < m/\W (i + 1) m' σ' H')/\∀x H',(IteT K a).yld i H x H'->g x σ H' λ σ2 H2=>tb { D with nx:=N,ct:=N,bk:=D.nx } σ2 H2):=by
 refine ⟨λ i m σ H=>m=xs.length - i/\i<=xs.length/\Pv i σ H,⟨xs.length,by simp,A2 _,h0⟩,?_⟩;rintro i m σ H ⟨rfl,hi,p⟩;have b:=hl i σ H p;by_cases hlt:i < xs.length
 ·refine .inr ⟨⟨xs,xs[i],b,by simp [hlt]⟩,Pv (i + 1),λ σ' H' f=>⟨xs.length - (i + 1),by omega,rfl,hlt,f⟩,λ v H' y=>?_⟩;obtain ⟨t,h,rfl,d⟩:=y;obtain ⟨j,c,rfl⟩:=d xs b;exact hs i j σ H t c p h
 ·have e:i=xs.length:=by omega
  subst e;exact .inl ⟨⟨xs,b,rfl⟩,hd σ H p⟩
end L2
set_option maxHeartbeats 400000
namespace L2
open PySem PySem.Spec PyProof.Rows
mutual
noncomputable def IsPd (K:c0) (H:Hp):PyData->V->Prop
 | .none,v=>v=.non
 | .bool b,v=>v=.bl b
 | .int i,v=>v=.int i
 | .str z,v=>v=.str z
 | .list ds,v=>∃a xs,v=.ref a/\SqL K H a xs/\IsPds K H ds xs
 | .tuple ds,v=>∃a xs,v=.ref a/\SqT K H a xs/\IsPds K H ds xs
 | .dict _,_=>False
noncomputable def IsPds (K:c0) (H:Hp):List PyData->List V->Prop
 | [],xs=>xs=[]
 | d :: ds,xs=>∃x r,xs=x :: r/\IsPd K H d x/\IsPds K H ds r
end
section
variable {X:Cx} {pins:List (Addr×Obj)} {σ:St} {H:Hp} {s:u0}
mutual
theorem z2j (I:Inv X pins σ H s) :∀(d:PyData) (v:V) (u:Value),IsPd X.K H d v->RelV v u->∃as,Reads s.heap u d as
 | .none,v,u,h,r=>by cases (show v=.non from h);cases (show u=.none from r);exact ⟨_,.none⟩
 | .bool b,v,u,h,r=>by cases (show v=.bl b from h);cases (show u=.bool b from r);exact ⟨_,.bool b⟩
 | .int i,v,u,h,r=>by cases (show v=.int i from h);obtain ⟨t,rfl⟩:=r;exact ⟨_,.int i t⟩
 | .str z,v,u,h,r=>by cases (show v=.str z from h);obtain ⟨t,rfl⟩:=r;exact ⟨_,.str z t⟩
 | .list ds,v,u,h,r=>by obtain ⟨a,f,rfl,e,g⟩:=h;cases (show u=.ref a from r);obtain ⟨c,l,j,_⟩:=I.list e;obtain ⟨o,m,p,n,k⟩:=j.isList;obtain ⟨as,q⟩:=z51 I ds f c g l;exact ⟨_,.list m p k q⟩
 | .tuple ds,v,u,h,r=>by obtain ⟨a,f,rfl,e,g⟩:=h;cases (show u=.ref a from r);obtain ⟨c,l,j,_⟩:=I.tuple e;obtain ⟨o,m,p,n,k⟩:=j;obtain ⟨as,q⟩:=z51 I ds f c g l;exact ⟨_,.tuple m p k q⟩
 | .dict _,v,u,h,r=>h.elim
theorem z51 (I:Inv X pins σ H s) :∀(ds:List PyData) (xs:List V) (us:List Value),IsPds X.K H ds xs->Vals xs us->∃as,ReadsAll s.heap us ds as
 | [],xs,us,h,r=>by cases (show xs=[] from h);cases r;exact ⟨_,.nil⟩
 | d :: ds,xs,us,h,r=>by
  obtain ⟨x,t,rfl,a,b⟩:=h;cases r with
  | cons r1 r2=>obtain ⟨as,e⟩:=z2j I d x _ a r1;obtain ⟨bs,c⟩:=z51 I ds t _ b r2;exact ⟨_,.cons e c⟩
end
end
mutual
noncomputable def plainP:PyData->Bool
 | .none=>true
 | .bool _=>false
 | .int _=>true
 | .str z=>(PyData.str z).canLay0
 | .list ds=>z1f ds
 | .tuple ds=>z1f ds
 | .dict _=>false
noncomputable def z1f:List PyData->Bool
 | []=>true
 | d :: ds=>plainP d && z1f ds
end
mutual
theorem z2b :∀d:PyData,plainP d=true->d.canLay0=true
 | .none,_=>rfl
 | .bool _,h=>by cases h
 | .int _,_=>rfl
 | .str _,h=>h
 | .list ds,h=>z1k ds h
 | .tuple ds,h=>z1k ds h
 | .dict _,h=>by cases h
theorem z1k :∀ds:List PyData,z1f ds=true->PyData.canLayAll0 ds=true
 | [],_=>rfl
 | d :: ds,h=>by have h:(plainP d && z1f ds)=true:=h;rw [N3] at h;show (d.canLay0 && PyData.canLayAll0 ds)=true;rw [z2b d h.1,z1k ds h.2];rfl
end
mutual
theorem z59 :∀d e:PyData,plainP d=true->plainP e=true->(d.eqv e=true↔d=e)
 | .none,e,_,he=>by
  cases e with
  | none=>exact ⟨λ _=>rfl,λ _=>rfl⟩
  | bool b=>cases he
  | dict _=>cases he
  | _=>exact ⟨λ z=>(by cases z),λ z=>(by cases z)⟩
 | .bool _,e,hd,_=>by cases hd
 | .int i,e,_,he=>by
  cases e with
  | int j=>exact ⟨λ z=>congrArg _ (eq_of_beq (show (i == j)=true from z)),λ z=>by cases z;exact beq_self_eq_true i⟩
  | bool b=>cases he
  | dict _=>cases he
  | _=>exact ⟨λ z=>(by cases z),λ z=>(by cases z)⟩
 | .str i,e,_,he=>by
  cases e with
  | str j=>exact ⟨λ z=>congrArg _ (eq_of_beq (show (i == j)=true from z)),λ z=>by cases z;exact beq_self_eq_true i⟩
  | bool b=>cases he
  | dict _=>cases he
  | _=>exact ⟨λ z=>(by cases z),λ z=>(by cases z)⟩
 | .list ds,e,hd,he=>by
  cases e with
  | list es=>exact ⟨λ z=>congrArg _ ((z39 ds es hd he).mp z),λ z=>(z39 ds es hd he).mpr (by cases z;rfl)⟩
  | bool b=>cases he
  | dict _=>cases he
  | _=>exact ⟨λ z=>(by cases z),λ z=>(by cases z)⟩
 | .tuple ds,e,hd,he=>by
  cases e with
  | tuple es=>exact ⟨λ z=>congrArg _ ((z39 ds es hd he).mp z),λ z=>(z39 ds es hd he).mpr (by cases z;rfl)⟩
  | bool b=>cases he
  | dict _=>cases he
  | _=>exact ⟨λ z=>(by cases z),λ z=>(by cases z)⟩
 | .dict _,e,hd,_=>by cases hd
theorem z39 :∀ds es:List PyData,z1f ds=true->z1f es=true->(PyData.eqvAll ds es=true↔ds=es)
 | [],[],_,_=>⟨λ _=>rfl,λ _=>rfl⟩
 | [],e :: es,_,_=>⟨λ z=>(by cases z),λ z=>(by cases z)⟩
 | d :: ds,[],_,_=>⟨λ z=>(by cases z),λ z=>(by cases z)⟩
 | d :: ds,e :: es,hd,a=>by have hd:(plainP d && z1f ds)=true:=hd;have a:(plainP e && z1f es)=true:=a;rw [N3] at hd a;show (d.eqv e && PyData.eqvAll ds es)=true↔_;rw [N3,z59 d e hd.1 a.1,z39 ds es hd.2 a.2];exact ⟨λ z=>by rw [z.1,z.2],λ z=>by cases z;exact ⟨rfl,rfl⟩⟩
end
section
variable {X:Cx}
noncomputable def rNeP (K:c0):R2:=λ x y H Q=>∃d e,IsPd K H d x/\IsPd K H e y/\plainP d=true/\plainP e=true/\d.depth<=60/\Q (.bl (!d.eqv e)) H
theorem room60 {A:C2} {k m n:Nat} (hr:Room k A) (h:m<=60):A.units + min m n < cLine:=W1 (Nat.add_le_add_left (D0 (Nat.min_le_left _ _) (D0 h (by decide:60<=64))) _) hr.units
theorem room61 {A:C2} {k m n:Nat} (hr:Room k A) (h:n<=60):A.units + 1 + min m n < cLine:=by have a:=hr.units;have b:=Nat.min_le_right m n;omega
theorem op_neP {k:Nat} (hr:Room k X.A):OpR X (V2 .NotEq) (rNeP X.K):=by intro n s σ H x y v u Q I g f h;obtain ⟨d,e,hd,j,i,l,a,q⟩:=h;obtain ⟨m,c⟩:=z2j I d x v hd g;obtain ⟨bs,b⟩:=z2j I e y u j f;exact SeqAt.compareNe_reads c b (z2b _ i) (z2b _ l) (room60 hr a) ⟨.bl _,H,I,rfl,q⟩
noncomputable def rInP (K:c0) (neg:Bool):R2:=λ x y H Q=>∃d ds,IsPd K H d x/\(IsPd K H (.list ds) y\/IsPd K H (.tuple ds) y)/\plainP d=true/\z1f ds=true/\d.depth<=60/\Q (.bl (if neg then !(ds.any λ e=>e.eqv d) else ds.any λ e=>e.eqv d)) H
theorem zam {k:Nat} (hr:Room k X.A):OpR X (V2 .NotIn) (rInP X.K true):=by
 intro m s σ H x y v u Q I j f h;obtain ⟨d,n,hd,a,g,i,c,q⟩:=h;obtain ⟨l,e⟩:=z2j I d x v hd j;rcases a with a|a
 ·obtain ⟨bs,b⟩:=z2j I _ y u a f;exact SeqAt.notIn_list_reads b e (z1k _ i) (z2b _ g) (room61 hr c) ⟨.bl _,H,I,rfl,q⟩
 ·obtain ⟨bs,b⟩:=z2j I _ y u a f;exact SeqAt.notIn_tuple_reads b e (z1k _ i) (z2b _ g) (room61 hr c) ⟨.bl _,H,I,rfl,q⟩
end
end L2
set_option maxHeartbeats 1000000
namespace L2
open PySem PySem.Spec PyProof.Rows
end L2
set_option maxHeartbeats 400000
namespace L2
open PySem PySem.Spec PyProof.Rows
structure RunsR (S:Hp->Hp->Prop) (J:It) (H1:Hp) (n:Nat) (Item:Nat->V->Hp->Prop):Prop where
 go :∀i,i < n->∀H,S H1 H->J.go i H
 stop :∀H,S H1 H->J.stop n H
 item :∀i,i < n->∀H v H',S H1 H->J.yld i H v H'->S H H'/\Item i v H'
theorem z2c {S:Hp->Hp->Prop} {J:It} {H1:Hp} {n m:Nat} {Item:Nat->V->Hp->Prop} {fr:List (Nat×Str)} {g:TG} {tc:TT} {te:TE} {σ:St} {Q:VK} (s0:S H1 H1) (st :∀a b c,S a b->S b c->S a c) (p:Nat->Bool) (R:Nat->V->Hp->Prop) (hR :∀i y H H',S H H'->R i y H->R i y H') (r:RunsR S J H1 n Item) (hn:n<=sizeLine)
  (body :∀i,i < n->∀v H,S H1 H->Item i v H->∀(KT:VK) (KF:Hp->Prop),(p i=true->∀y H',S H H'->R i y H'->KT y H')->(p i=false->∀H',S H H'->KF H')->
   g v (cStG σ fr (N2 m none)) H λ σ6 H6=>∃us,us.length=m/\σ6=cStG σ fr us/\tc (cStG σ fr us) H6 λ b H2=>if b=true then te (cStG σ fr us) H2 KT else KF H2)
  (hQ :∀l H' ys,S H1 H'->H' l=none->All2 (λ i y=>R i y H') ((U0 n).filter p) ys->Q (.ref l) (upd H' l (.lst ys))) :
  ∃W:Nat->Nat->List V->Hp->Prop,(∃m,W 0 m [] H1)/\∀i k ys H,W i k ys H->
   (J.stop i H/\ys.length<=sizeLine/\∀p,H p=none->Q (.ref p) (upd H p (.lst ys)))\/
   (J.go i H/\ys.length<=sizeLine/\∀v H',J.yld i H v H'->g v (cStG σ fr (N2 m none)) H' λ σ6 H6=>∃us,us.length=m/\σ6=cStG σ fr us/\tc (cStG σ fr us) H6 λ b H2=>if b=true then te (cStG σ fr us) H2 λ y H3=>∃m',m' < k/\W (i + 1) m' (ys++[y]) H3 else∃m',m' < k/\W (i + 1) m' ys H2):=by
 refine ⟨λ i k ys H'=>k=n - i/\i<=n/\S H1 H'/\All2 (λ i y=>R i y H') ((U0 i).filter p) ys,⟨n,by simp,A2 _,s0,.nil⟩,?_⟩;rintro i k ys H' ⟨rfl,hi,sm,fa⟩;have j:ys.length<=sizeLine:=by rw [z03 fa];have:=E1 p (U0 i);rw [X2] at this;omega
 by_cases hlt:i < n
 ·refine .inr ⟨r.go i hlt H' sm,j,λ v H2 y=>?_⟩;obtain ⟨d,s⟩:=r.item i hlt H' v H2 sm y;refine body i hlt v H2 (st _ _ _ sm d) s _ _ (λ h y H3 f o=>⟨n - (i + 1),by omega,rfl,hlt,st _ _ _ (st _ _ _ sm d) f,?_⟩) (λ h H3 f=>⟨n - (i + 1),by omega,rfl,hlt,st _ _ _ (st _ _ _ sm d) f,?_⟩)
  ·rw [z1e,if_pos h];exact z3l (z01 (λ a b z=>hR a b _ _ (st _ _ _ d f) z) fa) o
  ·rw [z1e,if_neg (by rw [h];decide),E3];exact z01 (λ a b z=>hR a b _ _ (st _ _ _ d f) z) fa
 ·have e:i=n:=by omega
  subst e;exact .inl ⟨r.stop H' sm,j,λ l q=>hQ l H' ys sm q fa⟩
theorem z5f {S:Hp->Hp->Prop} {K:c0} {a:Addr} {xs:List V} {H1:Hp} (hs :∀H,S H1 H->S H H) (hq :∀H,S H1 H->SqL K H a xs):RunsR S (Itl K a) H1 xs.length (λ i v _=>xs[i]? = some v):=
 ⟨λ i b H s=>⟨xs,xs[i],hq H s,by simp [b]⟩,λ H s=>⟨xs,hq H s,y0 _⟩,λ i b H v c s y=>by obtain ⟨e,y⟩:=y;subst e;exact ⟨hs _ s,y xs (hq _ s)⟩⟩
theorem zbl {S:Hp->Hp->Prop} {K:c0} {a:Addr} {xs:List V} {H1:Hp} (hs :∀H,S H1 H->S H H) (hq :∀H,S H1 H->SqT K H a xs):RunsR S (Itt K a) H1 xs.length (λ i v _=>xs[i]? = some v):=
 ⟨λ i b H s=>⟨xs,xs[i],hq H s,by simp [b]⟩,λ H s=>⟨xs,hq H s,y0 _⟩,λ i b H v c s y=>by obtain ⟨e,y⟩:=y;subst e;exact ⟨hs _ s,y xs (hq _ s)⟩⟩
def Ris (xs:Array Nat):Prop:=xs.toList.Pairwise (· < ·)
theorem Ris.lt {xs:Array Nat} (r:Ris xs) {i k:Nat} (h:i < k) (hk:k < xs.size):xs[i]'(A6 h hk) < xs[k]:=by have:=(List.pairwise_iff_getElem.mp r) i k (by simpa using A6 h hk) (by simpa using hk) h;simpa using this
theorem zdr {xs:Array Nat} {i d:Nat} (h:i < xs.size):xs.getD i d=xs[i]:=by simp [Array.getD,h]
theorem z6w {xs:Array Nat} {j:Nat} (r:Ris xs) :∀(f lo hi:Nat),lo<=hi->hi<=xs.size->hi - lo<=f->(∀i (h:i < xs.size),i < lo->xs[i] < j)->(∀i (h:i < xs.size),hi<=i->j<=xs[i])->
  U5 xs j f lo hi<=xs.size/\(∀i (h:i < xs.size),i < U5 xs j f lo hi->xs[i] < j)/\(∀i (h:i < xs.size),U5 xs j f lo hi<=i->j<=xs[i])
 | 0,lo,hi,h1,h2,h3,ha,hb=>by
  have:lo=hi:=by omega
  subst this;exact ⟨h2,ha,hb⟩
 | f + 1,lo,hi,h1,h2,h3,ha,hb=>by
  unfold U5;by_cases z:lo < hi
  ·rw [if_pos z];have a:(lo + hi) / 2 < xs.size:=by omega
   dsimp only;rw [zdr a];by_cases y:xs[(lo + hi) / 2] < j
   ·rw [if_pos y];refine z6w r f _ _ (by omega) h2 (by omega) (λ i h b=>?_) hb;by_cases e:i=(lo + hi) / 2
    ·subst e;exact y
    ·exact A6 (r.lt (by omega) a) y
   ·rw [if_neg y];refine z6w r f _ _ (by omega) (by omega) (by omega) ha λ i h b=>?_;by_cases e:i=(lo + hi) / 2
    ·subst e;omega
    ·exact D0 (Nat.not_lt.mp y) (U3 (r.lt (by omega) h))
  ·rw [if_neg z];have:lo=hi:=by omega
   subst this;exact ⟨h2,ha,hb⟩
theorem z8t {xs:Array Nat} (r:Ris xs) (j:Nat):B2 xs j<=xs.size/\(∀i (h:i < xs.size),i < B2 xs j->xs[i] < j)/\(∀i (h:i < xs.size),B2 xs j<=i->j<=xs[i]):=
 z6w r _ _ _ (A2 _) (y0 _) (y0 _) (λ i h z=>absurd z (O2 _)) (λ i h z=>absurd h (Nat.not_lt.mpr z))
theorem z3x {α:Type} (xs:Array α) (p:Nat) (x:α) (hp:p<=xs.size):(S7 xs p x).toList=xs.toList.take p++x :: xs.toList.drop p:=by unfold S7;simp [f7]
theorem Ris.insert {xs:Array Nat} (r:Ris xs) {j:Nat} (h:¬ xs[B2 xs j]? = some j):Ris (S7 xs (B2 xs j) j):=by
 obtain ⟨o,u,g⟩:=z8t r j;unfold Ris;rw [z3x _ _ _ o];refine List.pairwise_append.mpr ⟨r.sublist (List.take_sublist _ _),List.pairwise_cons.mpr ⟨λ y m=>?_,r.sublist (List.drop_sublist _ _)⟩,λ a t b f=>?_⟩
 ·obtain ⟨i,d,e⟩:=List.mem_drop_iff_getElem.mp m;have l:B2 xs j + i < xs.size:=by simpa [Nat.add_comm] using d
  have c:xs[B2 xs j + i]=y:=by simpa using e
  have le:=g _ l (by omega);rw [c] at le;rcases Nat.lt_or_eq_of_le le with z|z
  ·exact z
  ·exfalso;have f:B2 xs j < xs.size:=by omega
   have x:=g _ f (y0 _);have:xs[B2 xs j]=j:=by
    by_cases i0:i=0
    ·subst i0;exact c.trans z.symm
    ·have:=r.lt (show B2 xs j < B2 xs j + i by omega) l;rw [c] at this;omega
   exact h (by rw [G6 f,this])
 ·obtain ⟨i,d,e⟩:=List.mem_take_iff_getElem.mp t;have q:i < xs.size:=by have:=d;simp at this;omega
  have p:i < B2 xs j:=by have:=d;simp at this;omega
  have lt:=u i q p;have c:xs[i]=a:=by simpa using e
  rw [c] at lt;rcases List.mem_cons.mp f with z|z
  ·rw [z];exact lt
  ·obtain ⟨k,w,s⟩:=List.mem_drop_iff_getElem.mp z;have n:B2 xs j + k < xs.size:=by simpa [Nat.add_comm] using w
   have v:xs[B2 xs j + k]=b:=by simpa using s
   have:=g _ n (by omega);rw [v] at this;omega
theorem zah (n:Nat):Ris (Array.range n):=by unfold Ris;rw [Array.toList_range];exact B5
def z5v (t:S6) (j:Nat):Prop:=¬ t.place[B2 t.place j]? = some j
theorem z5t {t:S6} {j:Nat} (h :∀i,t.slot j≠.live i):z5v t j:=λ e=>by refine h (B2 t.place j) ?_;unfold SetTable.slot;dsimp only;rw [if_pos (by rw [e];exact beq_self_eq_true _)]
theorem z3e {t:S6} {hs:Nat->Int} {h:Int} :∀(f:Nat) (p:SetTable.Probe) (j:Nat) (d:Option Nat),(∀k,p.dummy=some k->z5v t k)->X8 t hs h f p=some (.empty j d)->z5v t j/\∀k,d=some k->z5v t k
 | 0,p,j,d,hd,e=>by cases e
 | f + 1,p,j,d,hd,e=>by
  unfold X8 at e;cases q:t.slot p.j with
  | empty=>rw [q] at e;cases e;exact ⟨z5t (λ i z=>by rw [q] at z;cases z),hd⟩
  | dummy=>rw [q] at e;refine z3e f _ j d (λ k z=>?_) e;unfold j00 at z;dsimp only at z;split at z<;>(cases z;exact z5t λ i z=>by rw [q] at z;cases z)
  | live i=>
   rw [q] at e;dsimp only at e;split at e
   ·cases e
   ·refine z3e f _ j d (λ k z=>?_) e;unfold j00 at z;dsimp only at z;split at z<;>exact hd k z
theorem z8j {t:S6} {h:Int} {s:Nat} {b:Bool} (e:t.freeSlot h=some (s,b)):z5v t s:=by
 unfold SetTable.freeSlot at e;cases q:t.probe (λ _=>h + 1) h (t.probeStart h) with
 | none=>rw [q] at e;cases e
 | some m=>
  rw [q] at e;cases m with
  | candidate a b c=>cases e
  | empty j d=>
   have:=z3e _ _ j d (λ k z=>by cases z) q;cases e;cases d with
   | none=>exact this.1
   | some k=>exact this.2 k rfl
def Tidy (l:Bool) (t:S6):Prop:=t.led=l/\Ris t.place
theorem Tidy.standIn {l:Bool} {t:S6} (h:Tidy l t) (n:Nat):Tidy l (t.standIn n):=⟨h.1,zah n⟩
theorem Tidy.layNew {l:Bool} {t:S6} (h:Tidy l t) (es:Array (Int×Value)) (k:Int) (x:Value):Tidy l (layNew t es k x).2.1:=by
 unfold PySem.layNew;cases q:t.freeSlot k with
 | none=>exact h.standIn _
 | some s=>
  obtain ⟨s,b⟩:=s;dsimp only;have a:Tidy l (t.put s).1:=⟨h.1,Ris.insert h.2 (z8j q)⟩
  unfold SetTable.orStandIn;split
  ·exact a
  ·exact a.standIn _
theorem Tidy.relayAll {l:Bool} {t:S6} (h:Tidy l t) (es:Array (Int×Value)) (n:Nat):Tidy l (S9 t es n).2.1:=by
 unfold PySem.relayAll;cases q:t.relaid (es.map (·.1)) n with
 | none=>exact h.standIn _
 | some p=>
  obtain ⟨j,o⟩:=p;dsimp only;split
  ·unfold SetTable.relaid SetTable.laid at q;cases q2:SetTable.layClean (SetTable.sizeAbove n - 1) (es.map (·.1)) with
   | none=>rw [q2] at q;cases q
   | some ow=>rw [q2] at q;cases q;refine ⟨h.1,?_⟩;show (List.map _ _).Pairwise _;rw [L6];refine List.Pairwise.filterMap _ (λ a b i c f d hd=>?_) (B5);obtain ⟨k,_,e⟩:=Option.map_eq_some_iff.mp f;obtain ⟨m,_,g⟩:=Option.map_eq_some_iff.mp hd;rw [<-e,<-g];exact i
  ·exact h.standIn _
end L2
set_option maxHeartbeats 1000000
namespace L2
open PySem PySem.Spec PyProof.Rows
noncomputable def intOf:Value->Int
 | .int i _=>i
 | _=>0
theorem z4x {vs:List Value} {ns:List Int} (h:Z2 vs ns):ns=vs.map intOf/\∀v∈vs,∃i t,v=.int i t:=by
 induction h with
 | nil=>exact ⟨rfl,λ v a=>by cases a⟩
 | cons n t r ih=>
  refine ⟨by rw [ih.1];rfl,λ v a=>?_⟩;rcases List.mem_cons.mp a with e|a
  ·exact ⟨n,t,e⟩
  ·exact ih.2 v a
theorem z91 :∀vs:List Value,(∀v∈vs,∃i t,v=.int i t)->Z2 vs (vs.map intOf)
 | [],_=>.nil
 | v :: vs,h=>by obtain ⟨i,t,e⟩:=h v (.head _);subst e;exact .cons i t (z91 vs λ v a=>h v (.tail _ a))
theorem z82 {vs vs':List Value} {ns:List Int} (h:Z2 vs ns) (p:vs'.Perm vs) :∃ns',Z2 vs' ns'/\ns'.Perm ns:=by obtain ⟨e,k⟩:=z4x h;refine ⟨vs'.map intOf,z91 vs' λ v a=>k v (p.mem_iff.mp a),?_⟩;rw [e];exact p.map _
theorem z9m {vs:List Value} {ns:List Int} (h:Z2 vs ns):ns.length=vs.length:=by rw [(z4x h).1,A0]
theorem zat {vs:List Value} {ns:List Int} (h:Z2 vs ns) (n:Int) (t:Tok):Z2 (vs++[.int n t]) (ns++[n]):=by
 induction h with
 | nil=>exact .cons n t .nil
 | cons m u r ih=>exact .cons m u ih
section
variable {prog:Program} {w:Z0} {A:C2} {E:Value->u0->Prop} {s:u0}
def SetAt (prog:Program) (w:Z0) (l:Bool) (h:Heap) (a:Addr) (ns:List Int):Prop:=
 ∃es ep t,h.get? a=some { cls:=.type "set",dict:=none,data:=.set es ep t,slots:=#[] }/\ElemsOf (C4 prog w) es.toList/\Z2 (es.toList.map (·.2)) ns/\ns.Nodup/\es.size < scanBound/\t.fits es.size=true/\Tidy l t
theorem z7m {l:Bool} {h:Heap} {a:Addr} {es0 es:Array (Int×Value)} {ep:Nat} {t0 t:S6} {ns:List Int} (ho:h.get? a=some { cls:=.type "set",dict:=none,data:=.set es0 ep t0,slots:=#[] })
  (hel:ElemsOf (C4 prog w) es.toList) (hi:Z2 (es.toList.map (·.2)) ns) (nd:ns.Nodup) (hb:es.size < scanBound) (hf:t.fits es.size=true) (ht:Tidy l t) :
  (h.update a (f8 es t)).get? a=some { cls:=.type "set",dict:=none,data:=.set es (ep + 1) t,slots:=#[] }/\SetAt prog w l (h.update a (f8 es t)) a ns:=by
 have g:(h.update a (f8 es t)).get? a=some { cls:=.type "set",dict:=none,data:=.set es (ep + 1) t,slots:=#[] }:=N4 (f8 es t) ho rfl;exact ⟨g,es,ep + 1,t,g,hel,hi,nd,hb,hf,ht⟩
theorem zcw {es:List (Int×Value)} {ns:List Int} {v:Int} (hi:Z2 (es.map (·.2)) ns) (h:es.findIdx? (λ e=>(C4 prog w).is v e.2)=none):¬ v∈ns:=λ c=>by
 obtain ⟨e,k⟩:=z4x hi;rw [e] at c;obtain ⟨y,a,d⟩:=List.mem_map.mp c;obtain ⟨p,g,j⟩:=List.mem_map.mp a;obtain ⟨i,t,b⟩:=k y a;have:=List.findIdx?_eq_none_iff.mp h p g;have f:v=i:=by rw [<-d,b];rfl
 have:(C4 prog w).is v p.2=false:=by simpa using this
 rw [j,b,f,Q6] at this;cases this
theorem ze4 {es:List (Int×Value)} {ns:List Int} {v:Int} {j:Nat} (hi:Z2 (es.map (·.2)) ns) (h:es.findIdx? (λ e=>(C4 prog w).is v e.2)=some j):v∈ns:=by obtain ⟨b,a,_⟩:=List.findIdx?_eq_some_iff_getElem.mp h;obtain ⟨t,e⟩:=Value.isInt_shape (show W9 v es[j].2=true from a);rw [(z4x hi).1];exact List.mem_map.mpr ⟨es[j].2,List.mem_map.mpr ⟨es[j],Y4 b,rfl⟩,by rw [e];rfl⟩
theorem z9r {ns:List Int} {v:Int} (h:ns.Nodup) (n:¬ v∈ns):(ns++[v]).Nodup:=by refine List.nodup_append.mpr ⟨h,by simp,λ a c b d e=>?_⟩;rw [List.mem_singleton.mp d] at e;exact n (e ▸ c)
noncomputable def addI (ns:List Int) (v:Int):List Int:=if v∈ns then ns else ns++[v]
theorem ze7 {l:Bool} {a:Addr} {v:Int} {tk:Tok} {ns:List Int} {Q:Bool->u0->Prop} (hS:SetAt prog w l s.heap a ns) (hroom:ns.length + 1 < scanBound)
  (h :∀b h' ns',F5 a s.heap h'->SetAt prog w l h' a ns'->ns'.Perm (addI ns v)->Q b { s with heap:=h' }):N0 (B1 prog w) A (setAddHashed a (.int v tk) ((C4 prog w).hash v)) Q E s:=by
 obtain ⟨f,Y,t,m,u,o,R,W,G,K⟩:=hS;have a2:f.size=ns.length:=by rw [z9m o,A0,D1]
 have V:(C4 prog w).is v (.int v tk)=true:=Q6 prog w v tk;unfold setAddHashed setAddHashedIn;refine D2 (o0 (wpAny_setState_of m rfl G ?_));dsimp only;rw [byScan_of rfl W u];simp only [↓reduceIte];unfold setAddByScan;refine o0 (o0 (M7 (o0 (wpAny_setScan_of V m rfl G u ?_))));cases hr:List.findIdx? (λ e=>(C4 prog w).is v e.2) f.toList with
 | some j=>refine C0 (C0 ?_);have:=h false s.heap ns (v9 a s.heap) ⟨f,Y,t,m,u,o,R,W,G,K⟩ (by unfold addI;rw [if_pos (ze4 o hr)]);exact this
 | none=>
  dsimp only;have g:=layNew_perm t f ((C4 prog w).hash v) (.int v tk);have C:=layNew_fits t f ((C4 prog w).hash v) (.int v tk);have y:=K.layNew f ((C4 prog w).hash v) (.int v tk);generalize layNew t f ((C4 prog w).hash v) (.int v tk)=L at g C y⊢;obtain ⟨c,d,wd,a0⟩:=L;dsimp only at g C y⊢;rw [Array.toList_push] at g;have J:ElemsOf (C4 prog w) c.toList:=(u.push V rfl).perm g;have p :∃k,Z2 (c.toList.map (·.2)) k/\k.Perm (ns++[v]):=z82 (zat o v tk) (by have:=g.map (λ e:Int×Value=>e.2);rwa [V0] at this);obtain ⟨k,p,B⟩:=p;have M:=zcw o hr;have S:k.Nodup:=B.nodup_iff.mpr (z9r R M);have N:addI ns v=ns++[v]:=if_neg M;have F:c.size < scanBound:=by rw [<-D1,g.length_eq,F0,D1,a2];exact hroom
  have T :∀(b:Bool) {D:u0} {Q':Unit->u0->Prop},Q' () D->N0 (B1 prog w) A (match b with|true=>rule "set.scan.the-table-gave-way" | false=>Z3 ()) Q' E D:=λ b D Q' q=>by cases b with|false=>exact C0 q|true=>exact M7 q
  have X:N0 (B1 prog w) A (do
    storeSet a c d
    if (!wd && d.tooFull)=true then do
      (match (S9 d c (L4 c.size)).2.2 with|true=>rule "set.scan.the-table-gave-way" | false=>Z3 ())
      storeSet a (S9 d c (L4 c.size)).1 (S9 d c (L4 c.size)).2.1
      Z3 (some true)
     else Z3 (some true)) (λ r i=>∃b,r=some b/\Q b i) E s:=by
   obtain ⟨O,Z⟩:=z7m (prog:=prog) (w:=w) m J p S F C y;have sb:=y3 s.heap a (f8 c d);refine o0 (wpAny_storeSet_of m rfl ?_ (fits_of_scanBound F));split
   ·have n:=relayAll_perm d c (L4 c.size);have I:=relayAll_fits d c (L4 c.size);have H:=y.relayAll c (L4 c.size);generalize S9 d c (L4 c.size)=L2 at n I H⊢;obtain ⟨a4,t2,g2⟩:=L2;dsimp only at n I H⊢;obtain ⟨a3,a1,P⟩:=z82 p (n.map (λ e:Int×Value=>e.2));have U:a4.size < scanBound:=by rw [<-D1,n.length_eq,D1];exact F
    refine o0 (T g2 (o0 (wpAny_storeSet_of O rfl ?_ (fits_of_scanBound U))));obtain ⟨_,S2⟩:=z7m (prog:=prog) (w:=w) O (J.perm n) a1 (P.nodup_iff.mpr S) U I H;exact C0 ⟨true,rfl,h true _ a3 (sb.trans (y3 _ a _)) S2 (by rw [N];exact P.trans B)⟩
   ·exact C0 ⟨true,rfl,h true _ k sb Z (by rw [N];exact B)⟩
  refine o0 (T a0 ?_);have fin:=K3 X (Q':=λ r i=>N0 (B1 prog w) A (match r with|some added=>Z3 added|none=>setAddHashedIn a (.int v tk) ((C4 prog w).hash v) 99999) Q E i) (E':=E) (λ r i x=>by obtain ⟨b,e,q⟩:=x;subst e;exact C0 q) (λ e i x=>x);by_cases z:d.plain=true
  ·rw [if_pos z];exact o0 (a8 (show hashByValue 8 (v6 v tk)=Z3 true from rfl) fin)
  ·rw [if_neg z];exact o0 (C0 fin)
end
theorem zao {ns ms:List Int} (p:ns.Perm ms) (v:Int):(addI ns v).Perm (addI ms v):=by
 unfold addI;by_cases z:v∈ns
 ·rw [if_pos z,if_pos (p.mem_iff.mp z)];exact p
 ·rw [if_neg z,if_neg (λ y=>z (p.mem_iff.mpr y))];exact p.append_right [v]
theorem z2a :∀(vs:List Int) {ns ms:List Int},ns.Perm ms->(vs.foldl addI ns).Perm (vs.foldl addI ms)
 | [],_,_,p=>p
 | v :: vs,_,_,p=>z2a vs (zao p v)
theorem z98 (ns:List Int) (v:Int):(addI ns v).length<=ns.length + 1:=by
 unfold addI;split
 ·exact M6 _
 ·rw [F0];exact y0 _
section
variable {prog:Program} {w:Z0} {A:C2} {E:Value->u0->Prop} {s:u0}
theorem SetAt.at' {l:Bool} {h h':Heap} {a:Addr} {ns:List Int} (k :∀o,h.get? a=some o->h'.get? a=some o) (x:SetAt prog w l h a ns):SetAt prog w l h' a ns:=by obtain ⟨c,b,t,e,r⟩:=x;exact ⟨c,b,t,k _ e,r⟩
theorem zbj (a:Args):(Code.builtin "set.update.loop" a).quiet=true:=m7 (by decide +kernel) _
noncomputable def set0 (w:Z0):Obj:={ cls:=.type "set",dict:=none,data:=.set #[] 0 (.fresh 0 0 (!w.params.followText "set-order")) }
theorem zdz (a:Value) {Q₁:Value->u0->Prop} (h:Q₁ (.ref s.heap.objs.size) { s with heap:=s.heap.push (set0 w) }):K6 (B1 prog w) A (.call (.builtin "set.__new__") ⟨[.type "set",a],[]⟩) (wants Q₁ E) s:=by refine codeAny_call_builtin F.plain_set_new F.entry_set_new (a8 (F.newCall_set_1 a) ?_);show N0 _ _ (Builtin.Frozenset.newClass "set" ⟨[.type "set",a],[]⟩ >>= _) _ _ _;refine o0 (o0 (show N0 _ _ (Z3 true) _ _ _ from C0 ?_));show N0 _ _ (isSubtype (.type "set") (.type "set") >>= _) _ _ _;refine o0 (a8 sub_set_self ?_);refine C0 ?_;show N0 _ _ (newSet (.type "set") >>= _) _ _ _;unfold newSet setsByText;refine o0 (o0 (o0 (wpAny_askSetting (C0 ?_))));exact o0 (wpAny_alloc (C0 (C0 h)))
theorem zed {h:Heap} {a:Addr} (e:h.get? a=some (set0 w)):SetAt prog w (!w.params.followText "set-order") h a []:=
 ⟨#[],0,_,e,λ x b=>by simp at b,.nil,List.nodup_nil,by decide,by rfl,rfl,o9⟩
end
section
variable {X:Cx}
theorem z2v :∀(vs ns:List Int),(vs.foldl addI ns).length<=ns.length + vs.length
 | [],ns=>y0 _
 | v :: vs,ns=>by have a:=z2v vs (addI ns v);have b:=z98 ns v;show (vs.foldl addI (addI ns v)).length<=_;rw [T1];omega
end
end L2
set_option maxHeartbeats 400000
namespace HT
open PySem PySem.Spec PyProof.Rows L2
variable {prog:Program} {w:Z0} {A:C2} {E:Value->u0->Prop} {s:u0}
end HT
namespace L2
open PySem PySem.Spec PyProof.Rows
theorem qs_if {X:Cx} {pos:Pos} {c:Expr} {a b:List Stmt} {t:TT} {ta tb:TS} (hc:PT X c t) (ha:QSs X a ta) (hb:QSs X b tb):QS X (.If c a b pos) (tIfS t ta tb):=⟨ps_if hc ha.run hb.run⟩
theorem z9b {c:TT} {a b:TS} {D:Ends} {σ:St} {H:Hp} (h:c σ H λ k H1=>if k=true then a D σ H1 else b D σ H1):tIfS c a b D σ H:=h
theorem z8h {K:c0} {a:Addr} {xs:List V} {H1:Hp} (hq:SqL K H1 a xs):RunsR Same (IteL K a) H1 xs.length (λ i v H=>∃x p,xs[i]? = some x/\v=.ref p/\H p=some (.tup [.int (i:Nat),x])):=by refine ⟨λ i b H s=>⟨xs,xs[i],s.seq hq,by simp [b]⟩,λ H s=>⟨xs,s.seq hq,rfl⟩,λ i b H v e s y=>?_⟩;obtain ⟨p,c,rfl,f⟩:=y;obtain ⟨x,d,rfl⟩:=f xs (s.seq hq);exact ⟨Same.upd c,x,p,d,rfl,z02⟩
end L2
set_option maxHeartbeats 1000000
namespace L2
open PySem PySem.Spec PyProof.Rows
section
variable {prog:Program} {w:Z0} {A:C2} {E:Value->u0->Prop} {s:u0}
theorem z99 {b:Bool} {S it l:Addr} {items:Array Value} (nsi:S≠it) (nsl:S≠l) (nil':it≠l) :∀(ms:List Int) (i:Nat) (ns:List Int) (A:C2) (R:Result->u0->Prop) (s:u0),A.handled=none->s.heap.IsListIter it l i->s.heap.IsList l items->
  Z2 (items.toList.drop i) ms->SetAt prog w b s.heap S ns->ns.length + ms.length < scanBound->
  (∀h' tk ns',SetAt prog w b h' S ns'->ns'.Perm (ms.foldl addI ns)->(∀c o,c≠S->c≠it->s.heap.get? c=some o->h'.get? c=some o)->R (.ok (.ret .none)) { s with heap:=h',toks:=tk })->
  K6 (B1 prog w) A (Code.builtin "set.update.loop" { pos:=[.ref S,.ref it],kw:=[] }) R s
 | [],i,ns,A,R,s,hh,si,sl,al,dd,hz,q=>by
  have M:items[i]? = none:=by
   cases hd:items.toList.drop i with
   | nil=>have:=List.drop_eq_nil_iff.mp hd;rw [D1] at this;exact L9 this
   | cons u us=>rw [hd] at al;cases al
  refine A5 j09 ?_;show N0 _ _ (F8 (.ref it) >>= _) _ _ s;refine o0 (c6 (show (A.under _).handled=none from hh) si sl M λ h' v=>?_);exact C0 (q h' s.toks ns (dd.at' λ o e=>v S o nsi e) (List.Perm.refl _) λ c o _ C e=>v c o C e)
 | m :: ms,i,ns,A,R,s,hh,si,sl,al,dd,hz,q=>by
  cases hd:items.toList.drop i with
  | nil=>rw [hd] at al;cases al
  | cons u us=>
   rw [hd] at al;cases al with
   | cons _ tk al=>
    have L:items.toList[i]? = some (.int m tk):=by have:=congrArg (λ l=>l[0]?) hd;simpa using this
    have I:items[i]? = some (.int m tk):=by simpa using L
    have J:items.toList.drop (i + 1)=us:=by have:=congrArg List.tail hd;simpa using this
    refine A5 j09 ?_;show N0 _ _ (F8 (.ref it) >>= _) _ _ s;refine o0 (O4 si sl I λ f y g=>?_);have F:f.IsList l items:=by obtain ⟨o,d,a⟩:=sl;exact ⟨o,(g.2 l (J4 nil')).trans d,a⟩
    have z:SetAt prog w b f S ns:=dd.at' λ o e=>(g.2 S nsi).trans e;rw [T1] at hz;refine o0 (D2 (show N0 _ _ (setAdd S (.int m tk)) _ _ _ from ?_));unfold setAdd;refine D2 (o0 ((C4 prog w).pyHash (k:=m) (Q6 prog w m tk) ?_));refine ze7 (s:={ s with heap:=f,toks:=s.toks + 1 }) z (W1 (by omega) hz) λ c h p j E n=>?_;refine C0 ⟨zbj _,?_⟩;have K:h.IsListIter it l (i + 1):=by obtain ⟨o,d,a⟩:=y;exact ⟨o,(j.2 it (J4 nsi)).trans d,a⟩
    have G:h.IsList l items:=by obtain ⟨o,d,a⟩:=F;exact ⟨o,(j.2 l (J4 nsl)).trans d,a⟩
    have N:p.length<=ns.length + 1:=by rw [n.length_eq];exact z98 ns m
    refine z99 nsi nsl nil' ms (i + 1) p A R { s with heap:=h,toks:=s.toks + 1 } hh K G (by rw [J];exact al) E (by omega) λ h' H ns' x B D=>q h' H ns' x (B.trans (z2a ms n)) λ c o t r e=>D c o t r ((j.2 c t).trans ((g.2 c r).trans e))
theorem z9a:isSubtype (.type "list") (.type "set")=Z3 false:=by rw [isSubtype_type];kernel_rfl
theorem z8b:isSubtype (.type "list") (.type "frozenset")=Z3 false:=by rw [isSubtype_type];kernel_rfl
theorem z6k {l:Addr} {items:Array Value} {ns:List Int} {Q:Value->u0->Prop} (hh:A.handled=none) (ht:s.heap.IsList l items) (hi:Z2 items.toList ns) (hb:ns.length < scanBound)
  (h :∀h' tk ns',SetAt prog w (!w.params.followText "set-order") h' s.heap.objs.size ns'->ns'.Perm (ns.foldl addI [])->(∀b o,s.heap.get? b=some o->h'.get? b=some o)->Q (.ref s.heap.objs.size) { s with heap:=h',toks:=tk }) :
  N0 (B1 prog w) A (call (.type "set") [.ref l]) Q E s:=by
 obtain ⟨c,K,X⟩:=F.called_set.mro;have U:=F.called_set.made;have L:=F.called_set.sub;refine wpAny_call (codeAny_of_tree (show N0 _ _ (callAny (.type "set") _) _ _ _ from C0 ⟨Code.quiet_builtin _ (by decide +kernel),A5 F.entry_type_call ?_⟩));rw [Around.under_plain (weight_type_call_type "set" [.ref l] []) rfl];have M:=F.called_set.notType;have P:=F.called_set.canCreate;have Z:=F.typeCall_set_1 (.ref l)
 (repeat (any_goals (first|assumption|wp_step)));refine J6 (zdz (.ref l) (E:=E) (Q₁:=λ j k=>j=.ref s.heap.objs.size/\k={ s with heap:=s.heap.push (set0 w) }) ⟨rfl,rfl⟩) λ r k a=>?_
 cases r with
 | error e=>exact a
 | ok fl=>
  cases fl with
  | next=>exact a.elim
  | brk=>exact a.elim
  | cont=>exact a.elim
  | ret j=>
   obtain ⟨rfl,rfl⟩:=a;have f:(s.heap.push (set0 w)).get? s.heap.objs.size=some (set0 w):=J0 _ rfl;have C:Shared.TypeIs { s with heap:=s.heap.push (set0 w) } (.ref s.heap.objs.size) "set":=⟨_,f,rfl⟩
   have V:=F.called_set.init.lookup;have O:=F.called_set.init.bind (.ref s.heap.objs.size)
   (repeat (any_goals (first|assumption|wp_step)))
   have x:K6 (B1 prog w) A.in1 (.call (.builtin "set.__init__") ⟨[.ref s.heap.objs.size,.ref l],[]⟩) (wants (λ r q=>r=.none/\Q (.ref s.heap.objs.size) q) E) { s with heap:=s.heap.push (set0 w) }:=by
    refine codeAny_call_builtin F.called_set.init.plain F.entry_set_init (check_set_init_1 C ?_);obtain ⟨o,g,m,n,hd⟩:=ht;obtain ⟨T,v,N,z⟩:=o;dsimp only at m hd;subst m hd;have u:(s.heap.push (set0 w)).get? l=some { cls:=.type "list",dict:=v,data:=.seq items n,slots:=z }:=v0 _ g;have W:=z9a;have J:=z8b;have R:(m5 "list" == m5 "dict")=false:=by decide
    have Y:(s.heap.push (set0 w)).get? s.heap.objs.size=some { cls:=.type "set",dict:=none,data:=.set #[] 0 (.fresh 0 0 (!w.params.followText "set-order")),slots:=#[] }:=f;have I:(s.heap.push (set0 w)).IsList l items:=⟨_,u,rfl,n,rfl⟩
    have p:l < s.heap.objs.size:=G0 g;unfold Builtin.«set.__init__» noKeywords Builtin.Frozenset.updateFrom;generalize hPI:pyIter=PI
    wp_walk
    subst hPI;refine S5 I (o0 (wpAny_runValue ?_));have t :∀b o,s.heap.get? b=some o->((s.heap.push (set0 w)).push { cls:=.type "list_iterator",data:=.fields #[.ref l,.int 0 0] }).get? b=some o:=λ b o e=>v0 _ (v0 _ e);have i:(s.heap.push (set0 w)).objs.size=s.heap.objs.size + 1:=p4 _ _;refine z99 (S:=s.heap.objs.size) (it:=(s.heap.push (set0 w)).objs.size) (l:=l) (items:=items) (by rw [i];exact L0 (V1 _)) (E2 p) (by rw [i];exact E2 (C1 p)) ns 0 [] _ _ _ (by simp [hh]) ⟨_,J0 _ rfl,rfl,rfl⟩ ⟨_,t _ _ g,rfl,n,rfl⟩ (by rw [E5];exact hi) (zed (v0 _ f)) (by simpa using hb) λ h' tk ns' D y B=>?_;refine C0 (C0 ⟨rfl,h h' tk ns' D y λ b o e=>B b o (L0 (G0 e)) (by rw [i];exact L0 (C1 (G0 e))) (t b o e)⟩)
   refine J6 x λ H q d=>?_;cases H with
   | error e=>exact d
   | ok f2=>
    cases f2 with
    | next=>exact d.elim
    | brk=>exact d.elim
    | cont=>exact d.elim
    | ret r=>obtain ⟨rfl,G⟩:=d;exact C0 (C0 G)
end
section
variable {X:Cx}
noncomputable def tLSet (K:c0) (te:TE):TE:=λ σ H Q=>te σ H λ x H1=>∃(a:Addr) (ns:List Int),x=.ref a/\SqL K H1 a (ns.map V.int)/\ns.length < 100/\Q (.int ((ns.foldl addI []).length:Nat)) H1
theorem z76 {e:Expr} {te:TE} {p1 p2 c1 c2:Pos} (hcalm:X.calm=true) (g1:Gl X "len") (m1:X.mg "len" = none) (g2:Gl X "set") (m2:X.mg "set" = none) (b1:P4 "len" = some (.builtin "len")) (b2:P4 "set" = some (.type "set")) (ha:PE X e te)
  (he:U1 [e] X.env=[(false,W3 e X.env)]:=by rfl):PE X (.Call (.Name "len" p1) [.Call (.Name "set" p2) [e] [] c2] [] c1) (tLSet X.K te):=by
 intro n s σ H Q I h;have m:X.A.handled=none:=I.ok.hd hcalm;refine P3 (ld_blt I g1 m1 b1 ?_ (by decide) (by decide));refine J7 ?_ rfl rfl;refine (show N0 _ _ (M9 ((false,W3 (.Call (.Name "set" p2) [e] [] c2) X.env) :: [])) _ _ s from X3 ?_);refine P3 (ld_blt I g2 m2 b2 ?_ (by decide) (by decide));refine F2 ?_ he rfl;rw [he];refine (show N0 _ _ (M9 ((false,W3 e X.env) :: [])) _ _ s from X3 (thn (ha n s σ H _ I h) λ u v ⟨x,H1,I1,r1,a,ns,ex,sq,hl,q⟩=>?_));subst ex;cases r1;refine d4 ?_;obtain ⟨w,g,f,D⟩:=I1.list sq;refine z6k m f.isList (by simpa using z1p g) (A6 hl (by decide)) λ o b z r l p=>d4 ?_;obtain ⟨j,y,t,i,_,k,B,E,d,_⟩:=r;have c:j.size=(ns.foldl addI []).length:=by rw [<-l.length_eq,z9m k,A0,D1]
 have C:(ns.foldl addI []).length < 100:=by have:=z2v ns [];rw [j6,L5] at this;omega
 refine call_len_set (s:={ v with heap:=o,toks:=b }) i ⟨rfl,rfl,rfl⟩ rfl d (by omega) ?_;rw [c];exact ⟨.int ((ns.foldl addI []).length:Nat),H1,(I1.kept (t':=b + 1 + 1) p),⟨_,rfl⟩,q⟩
end
section
variable {prog:Program} {w:Z0} {A:C2} {E:Value->u0->Prop}
theorem drawL {I l:Addr} {xs:Array Value} (nl:l≠I) :∀(m k:Nat) (s:u0) (R:List Value->u0->Prop),s.heap.IsListIter I l k->s.heap.IsList l xs->k + m<=xs.size->
  (∀g,g.IsListIter I l (k + m)->F5 I s.heap g->R ((xs.toList.drop k).take m) { s with heap:=g })->N0 (B1 prog w) A (draw (.ref I) m) R E s
 | 0,k,s,R,hI,_,_,hR=>(show N0 (B1 prog w) A (Z3 ([]:List Value)) R E s from C0 (by simpa using hR s.heap hI (v9 ..)))
 | m + 1,k,s,R,hI,hl,le,hR=>by
  have lt:k < xs.size:=by omega
  refine (show N0 (B1 prog w) A (F8 (.ref I) >>= _) R E s from o0 (O4 hI hl (x:=xs[k]) (by simp [lt]) λ b h a=>?_));refine o0 (D2 (drawL nl m (k + 1) { s with heap:=b } _ h (hl.extBut a.extBut nl) (by omega) λ d f c=>C0 ?_));have e:xs.toList.drop k=xs[k] :: xs.toList.drop (k + 1):=by simp [d5,lt]
  have z:=hR d (by rw [show k + (m + 1)=k + 1 + m by omega];exact f) (a.trans c);rw [e,List.take_succ_cons] at z;exact z
theorem zdt {l:Addr} {xs:Array Value} {ts:List (Bool×(Value->Sem Unit))} {R:Unit->u0->Prop} {s:u0} (hh:A.handled=none) (hl:s.heap.IsList l xs) (hn:ts.length=xs.size) (hst:ts.findIdx? (·.1)=none)
  (q :∀g,Heap.ExtBut s.heap.objs.size s.heap g->N0 (B1 prog w) A (assignInOrder (ts.map (·.2)) xs.toList) R E { s with heap:=g }):N0 (B1 prog w) A (unpack (.ref l) ts) R E s:=by
 have ne:l≠s.heap.objs.size:=hl.elim λ o z=>L0 (G0 z.1);unfold unpack;rw [hn,hst];refine o0 (D2 ?_);unfold unpackItems;refine o0 ?_;unfold notIterableAtAll;refine o0 (wpAny_specialOf hl.typeIs slot_list_iter.lookup (C0 ?_));simp only [Y3,if_false];refine o0 (D2 (S5 hl (o0 (D2 (drawL ne xs.size 0 _ _ ⟨_,J0 _ rfl,rfl,rfl⟩ (hl.push _) (by omega) λ f j a=>?_)))));have all:List.take xs.size (List.drop 0 xs.toList)=xs.toList:=by rw [E5,f7 (by simp)]
 rw [all,if_neg (by simp)];have d:f.IsList l xs:=(hl.push _).extBut a.extBut ne;refine o0 (D2 (c6 hh j d (by simp) λ i h=>?_));simp only [Option.isSome_none,Y3,if_false];exact C0 (q i λ b o c e=>h b o c (a.extBut b o c (v0 _ e)))
end
section
variable {X:Cx} {pos:Pos}
noncomputable def gLst (K:c0) (n:Nat) (t:TGs):TG:=λ v σ H Q=>∃a xs,v=.ref a/\SqL K H a xs/\xs.length=n/\t xs σ H Q
theorem pg_lst {es:List Expr} {k:Nat} {t:TGs} {n:Nat} (hc:X.calm=true) (h:PGs X es t) (hn:(o6 es X.env).length=n:=by rfl) (hst:(o6 es X.env).findIdx? (·.1)=none:=by rfl):PG X (.Tuple es k pos) (gLst X.K n t):=by intro f s σ H v u Q I r ⟨a,xs,e1,hq,hl,hw⟩;subst e1;cases r;obtain ⟨j,c,d,l⟩:=I.list hq;rw [assign_Tuple];refine o0 (C8 (zdt (I.ok.hd hc) d.isList (by simp [hn,<-hl,c.length]) hst λ g i=>?_));exact h f _ σ H xs _ Q (I.kept (t':=s.toks) λ b o e=>i b o (L0 (G0 e)) e) (by simpa using c) hw
end
theorem z17 {K:c0} {a:Addr} {xs:List V} {tl te:TE} {tc:TT} {g:TG} {m:Nat} {fr:List (Nat×Str)} {σ:L2.St} {H H1:Hp} {Q:VK} (p:Nat->Bool) (R:Nat->V->Hp->Prop) (hR :∀i y H H',Same H H'->R i y H->R i y H') (htl :∀R:VK,R (.ref a) H1->tl σ H R) (hq:SqL K H1 a xs) (hn:xs.length<=sizeLine)
  (body :∀i,i < xs.length->∀v H,Same H1 H->xs[i]? = some v->∀(KT:VK) (KF:Hp->Prop),(p i=true->∀y H',Same H H'->R i y H'->KT y H')->(p i=false->∀H',Same H H'->KF H')->
   g v (cStG σ fr (N2 m none)) H λ σ6 H6=>∃us,us.length=m/\σ6=cStG σ fr us/\tc (cStG σ fr us) H6 λ b H2=>if b=true then te (cStG σ fr us) H2 KT else KF H2)
  (hQ :∀l H' ys,Same H1 H'->H' l=none->All2 (λ i y=>R i y H') ((U0 xs.length).filter p) ys->Q (.ref l) (upd H' l (.lst ys))):tCompG (iList K tl) m fr g tc te σ H Q:=
 htl _ ⟨a,rfl,⟨xs,hq⟩,z2c (Same.refl _) (λ _ _ _ a b=>a.trans b) p R hR (z5f (S:=Same) (λ _ _=>Same.refl _) λ H s=>s.seq hq) hn body hQ⟩
theorem zb3 {K:c0} {a:Addr} {xs:List V} {ta:TA} {te:TE} {tc:TT} {g:TG} {m:Nat} {fr:List (Nat×Str)} {σ:L2.St} {H H1:Hp} {Q:VK} (p:Nat->Bool) (R:Nat->V->Hp->Prop) (hR :∀i y H H',Same H H'->R i y H->R i y H') (hta :∀T:List V->Hp->Prop,T [.ref a] H1->ta σ H T) (hq:SqL K H1 a xs) (hn:xs.length<=sizeLine)
  (body :∀i,i < xs.length->∀v H,Same H1 H->(∃x p,xs[i]? = some x/\v=.ref p/\H p=some (.tup [.int (i:Nat),x]))->∀(KT:VK) (KF:Hp->Prop),(p i=true->∀y H',Same H H'->R i y H'->KT y H')->(p i=false->∀H',Same H H'->KF H')->
   g v (cStG σ fr (N2 m none)) H λ σ6 H6=>∃us,us.length=m/\σ6=cStG σ fr us/\tc (cStG σ fr us) H6 λ b H2=>if b=true then te (cStG σ fr us) H2 KT else KF H2)
  (hQ :∀l H' ys,Same H1 H'->H' l=none->All2 (λ i y=>R i y H') ((U0 xs.length).filter p) ys->Q (.ref l) (upd H' l (.lst ys))):tCompG (ieL K ta) m fr g tc te σ H Q:=
 hta _ ⟨a,xs,rfl,hq,z2c (Same.refl _) (λ _ _ _ a b=>a.trans b) p R hR (z8h hq) hn body hQ⟩
theorem za2 {K:c0} {tl te:TE} {tc:TT} {g:TG} {m:Nat} {fr:List (Nat×Str)} {σ:L2.St} {H:Hp} {Q:VK} (Pr:Addr->List V->Hp->Prop) (htl :∀R:VK,(∀a xs H1,Pr a xs H1->R (.ref a) H1)->tl σ H R) (hq :∀a xs H1,Pr a xs H1->SqL K H1 a xs/\xs.length<=sizeLine)
  (p:Nat->Bool) (R:Nat->V->Hp->Prop) (hR :∀i y H H',Same H H'->R i y H->R i y H')
  (body :∀a xs H1,Pr a xs H1->∀i,i < xs.length->∀v H,Same H1 H->xs[i]? = some v->∀(KT:VK) (KF:Hp->Prop),(p i=true->∀y H',Same H H'->R i y H'->KT y H')->(p i=false->∀H',Same H H'->KF H')->
   g v (cStG σ fr (N2 m none)) H λ σ6 H6=>∃us,us.length=m/\σ6=cStG σ fr us/\tc (cStG σ fr us) H6 λ b H2=>if b=true then te (cStG σ fr us) H2 KT else KF H2)
  (hQ :∀a xs H1,Pr a xs H1->∀l H' ys,Same H1 H'->H' l=none->All2 (λ i y=>R i y H') ((U0 xs.length).filter p) ys->Q (.ref l) (upd H' l (.lst ys))):tCompG (iList K tl) m fr g tc te σ H Q:=
 htl _ λ a xs H1 c=>⟨a,rfl,⟨xs,(hq a xs H1 c).1⟩,z2c (Same.refl _) (λ _ _ _ a b=>a.trans b) p R hR (z5f (S:=Same) (λ _ _=>Same.refl _) λ H s=>s.seq (hq a xs H1 c).1) (hq a xs H1 c).2 (body a xs H1 c) (hQ a xs H1 c)⟩
theorem zbk {K:c0} {a:Addr} {xs:List V} {tl te:TE} {tc:TT} {g:TG} {m:Nat} {fr:List (Nat×Str)} {σ:L2.St} {H H1:Hp} {Q:VK} (p:Nat->Bool) (R:Nat->V->Hp->Prop) (hR :∀i y H H',Same H H'->R i y H->R i y H') (htl :∀R:VK,R (.ref a) H1->tl σ H R) (hq:SqT K H1 a xs) (hn:xs.length<=sizeLine)
  (body :∀i,i < xs.length->∀v H,Same H1 H->xs[i]? = some v->∀(KT:VK) (KF:Hp->Prop),(p i=true->∀y H',Same H H'->R i y H'->KT y H')->(p i=false->∀H',Same H H'->KF H')->
   g v (cStG σ fr (N2 m none)) H λ σ6 H6=>∃us,us.length=m/\σ6=cStG σ fr us/\tc (cStG σ fr us) H6 λ b H2=>if b=true then te (cStG σ fr us) H2 KT else KF H2)
  (hQ :∀l H' ys,Same H1 H'->H' l=none->All2 (λ i y=>R i y H') ((U0 xs.length).filter p) ys->Q (.ref l) (upd H' l (.lst ys))):tCompG (iTup K tl) m fr g tc te σ H Q:=
 htl _ ⟨a,rfl,⟨xs,hq⟩,z2c (Same.refl _) (λ _ _ _ a b=>a.trans b) p R hR (zbl (S:=Same) (λ _ _=>Same.refl _) λ H s=>s.seqT hq) hn body hQ⟩
theorem e_cb1 {f:List V->Hp->VK->Prop} {te:TE} {σ:L2.St} {H:Hp} {Q:VK} (h:te σ H λ x H1=>f [x] H1 Q):tCB f (tCons te tNil) σ H Q:=h
theorem t_test {r:R2} {ta tb:TE} {σ:L2.St} {H:Hp} {Q:Bool->Hp->Prop} (h:ta σ H λ x H1=>tb σ H1 λ y H2=>r x y H2 λ x H3=>∃c,x=.bl c/\Q c H3):tTest (tOp r ta tb) σ H Q:=h
theorem t_lset {K:c0} {te:TE} {σ:L2.St} {H:Hp} {Q:VK} (h:te σ H λ x H1=>∃(a:Addr) (ns:List Int),x=.ref a/\SqL K H1 a (ns.map V.int)/\ns.length < 100/\Q (.int ((ns.foldl addI []).length:Nat)) H1):tLSet K te σ H Q:=h
theorem t_or {t u:TT} {σ:L2.St} {H:Hp} {Q:Bool->Hp->Prop} (h:t σ H λ c H1=>if c=true then Q true H1 else u σ H1 Q):tOr t u σ H Q:=h
theorem sq_if {c:TT} {a b rest:TS} {D:Ends} {σ:L2.St} {H:Hp} (h:c σ H λ k H1=>if k=true then a { D with nx:=rest D } σ H1 else b { D with nx:=rest D } σ H1):tSeq (tIfS c a b) rest D σ H:=h
theorem sq_ret {te:TE} {D:Ends} {σ:L2.St} {H:Hp} (h:te σ H D.rt):tRet te D σ H:=h
section
variable {X:Cx} {pins:List (Addr×Obj)} {σ:St} {H:Hp} {s:u0} {a:Addr} {u v:HO}
theorem Inv.retold (I:Inv X pins σ H s) (e:H a=some u) (nt :∀xs,u≠.tup xs) (nb :∀ps,u≠.tbl ps) (no :∀c,u≠.own c) (nf :∀o w,X.H₀ a≠some (.frz o w)) (ok:ObjOk X.prog X.w (upd H a v) s.heap a v):Inv X pins σ (upd H a v) s:=by
 have ne :∀{b:Addr},H b=none->b≠a:=λ n z=>by rw [z,e] at n;cases n
 refine ⟨I.ok,I.os,I.bare,⟨I.base.keep,I.base.slot,λ b o q n j=>?_,I.base.there,λ b xs q=>?_,λ b o w q=>?_,λ b ps q=>?_⟩,I.loc,I.cell,?_,λ x c q=>?_,λ p f=>?_,λ b o q=>?_,I.len⟩
 ·have z:=I.base.free b o q n j;rw [upd_ne (ne z)];exact z
 ·have z:=I.base.tups b xs q;rw [upd_ne (λ y=>by rw [y,e] at z;exact nt xs (T0 z))];exact z
 ·have z:=I.base.frzs b o w q;rw [upd_ne (λ y=>by rw [y] at q;exact nf o w q)];exact z
 ·obtain ⟨h,z⟩:=I.base.tbls b ps q;exact ⟨h,by rw [upd_ne (λ y=>by rw [y,e] at z;exact nb _ (T0 z))];exact z⟩
 ·rw [upd_ne (ne I.free)];exact I.free
 ·rw [upd_ne (ne (I.freeC x c q))];exact I.freeC x c q
 ·obtain ⟨i,d,g⟩:=I.pin p f;exact ⟨i,by rw [upd_ne (ne d)];exact d,g⟩
 ·by_cases z:b=a
  ·subst z;rw [z02] at q;cases q;exact ok
  ·rw [upd_ne z] at q;refine (I.hok b o q).stay (λ _ _ _ y=>y) (λ c y=>?_) λ c xs y=>?_
   ·rw [upd_ne (λ x=>by rw [x,e] at y;exact no b (T0 y))];exact y
   ·rw [upd_ne (λ x=>by rw [x,e] at y;exact nt xs (T0 y))];exact y
theorem Inv.noFrz {kvs:List (Key×V)} (I:Inv X pins σ H s) (e:H a=some (.dK kvs)) :∀o w,X.H₀ a≠some (.frz o w):=λ o w q=>by have z:=I.base.frzs a o w q;rw [e] at z;cases z
theorem Inv.freeze {kvs:List (Key×V)} {ob:Obj} (I:Inv X pins σ H s) (e:H a=some (.dK kvs)) (ho:s.heap.get? a=some ob):Inv X pins σ (upd H a (.frz ob (.dK kvs))) s:=
 I.retold e (λ _ z=>by cases z) (λ _ z=>by cases z) (λ _ z=>by cases z) (I.noFrz e) ⟨ho,(show ObjOk X.prog X.w H s.heap a (.dK kvs) from I.hok a _ e)⟩
theorem Inv.thaw {kvs:List (Key×V)} {ob:Obj} (I:Inv X pins σ H s) (nf :∀o w,X.H₀ a≠some (.frz o w)) (e:H a=some (.frz ob (.dK kvs))):Inv X pins σ (upd H a (.dK kvs)) s:=
 I.retold e (λ _ z=>by cases z) (λ _ z=>by cases z) (λ _ z=>by cases z) nf (show ObjOk X.prog X.w H s.heap a (.frz ob (.dK kvs)) from I.hok a _ e).2
end
theorem z4w {α β:Type} {F:α->β->Prop} :∀{l:List α} {m:List β} {i:Nat} {x:α},d8 F l m->l[i]? = some x->∃y,m[i]? = some y/\F x y
 | _,_,i,x,.nil,e=>by simp at e
 | _,_,0,x,.cons a _,e=>by rw [Q2] at e;cases e;exact ⟨_,Q2,a⟩
 | _,_,i + 1,x,.cons _ r,e=>by rw [Z1] at e;obtain ⟨y,b,c⟩:=z4w r e;exact ⟨y,by rw [Z1];exact b,c⟩
noncomputable def Itv (a:Addr) (ob:Obj) (kvs:List (Key×V)):It:=
 ⟨λ i H=>H a=some (.frz ob (.dK kvs))/\i < kvs.length,λ i H x H'=>H'=H/\∃k,kvs[i]? = some (k,x),λ i H=>H a=some (.frz ob (.dK kvs))/\kvs.length<=i⟩
theorem frz_at {X:Cx} {pins:List (Addr×Obj)} {σ:St} {H:Hp} {s:u0} {a:Addr} {ob:Obj} {kvs:List (Key×V)} {es:Array DictEntry} {ep:Nat} (I:Inv X pins σ H s) (hob:ob.data=.dict es ep) (e:H a=some (.frz ob (.dK kvs))) :
  ∃vs,KV kvs vs/\vs.length=kvs.length/\s.heap.DictAt (z0l X.prog X.w) a vs ep:=by
 obtain ⟨h,_,_,vs,d,g⟩:=(show ObjOk X.prog X.w H s.heap a (.frz ob (.dK kvs)) from I.hok a _ e)
 obtain ⟨l,f⟩:=g.dictAt;refine ⟨vs,d,d.length.symm,?_⟩;obtain ⟨o,j,c,k,b,i⟩:=id f;rw [h] at c;cases c;rw [hob] at b;cases b;exact f
theorem zbg {P:Program} {w:Z0} {K:c0} {tg:Expr} {a it:Addr} {ob:Obj} {kvs:List (Key×V)} {es:Array DictEntry} {ep:Nat} (hob:ob.data=.dict es ep):Turn P w K tg (Itv a ob kvs) [it] it (λ i h=>h.IsValIter it a i kvs.length ep) where
 mem:=by simp
 obj:=λ i h st b f=>by
  obtain rfl:b=it:=by simpa using f
  obtain ⟨o,e,c,d⟩:=st;exact ⟨o,e,λ v z=>by rw [d] at z;cases z⟩
 keep:=λ i h l st k=>by obtain ⟨o,e,r⟩:=st;exact ⟨o,k it (by simp) o e,r⟩
 item:=by intro X q F y G i L s σ H E I g st A;subst q F y;obtain ⟨t,M⟩:=A;obtain ⟨O,J,j,C⟩:=frz_at I hob t;obtain ⟨D,p,S,x,m,B⟩:=g it (by simp);have N:kvs[i]? = some kvs[i]:=P0 M;obtain ⟨⟨W,u⟩,T,Y,R⟩:=z4w J N;rw [<-j] at st;refine wpAny_pyNext_values_item st C T λ l n sb=>?_;have Q:Inv X L σ H { s with heap:=l }:=I.turned (t':=s.toks) (λ b o f e=>(sb.2 b f).trans e) D p x m B;obtain ⟨o,e,c,d⟩:=id n;rw [j] at n;exact ⟨u,rfl,go_of (s:={ s with heap:=l }) e c d (by decide) ⟨kvs[i].2,H,Q,R,⟨rfl,kvs[i].1,N⟩,n,λ b f=>(g b f).1⟩⟩
 done:=by intro X q F y G i L s σ H E I g st A;subst q F y;obtain ⟨t,M⟩:=A;obtain ⟨O,J,j,C⟩:=frz_at I hob t;obtain ⟨D,p,S,x,m,B⟩:=g it (by simp);rw [<-j] at st;exact wpAny_pyNext_values_end (I.ok.hd G) st C (by rw [M3];omega) λ l U=>⟨rfl,I.turned (t':=s.toks) (λ b o f e=>U b o f e) D p x m B⟩
 self:=λ _ _ _ _ _ st h=>wpAny_pyIter_valiter st h
noncomputable def iVals (td:TE):TI:=λ σ H R=>td σ H λ x H1=>∃a kvs,x=.ref a/\H1 a=some (.dK kvs)/\∀ob,R (Itv a ob kvs) (upd H1 a (.frz ob (.dK kvs)))
section
variable {X:Cx}
theorem zbt {tg o:Expr} {to:TE} {apos cpos:Pos} (ho:PE X o to) (hbase:r6 o "values" X.env (W3 o X.env)=W3 o X.env:=by rfl) (hline:(apos.endLine == cpos.line)=true:=by rfl):PI X tg (.Call (.Attribute o "values" apos) [] [] cpos) (iVals to):=by
 intro l s σ H R I h;refine wpAny_Call_method0_late hbase hline (thn (ho l s σ H _ I h) λ v c ⟨x,H1,I1,r1,a,kvs,ex,ea,q⟩=>?_);subst ex;cases r1;obtain ⟨i,B,hd⟩:=isD_at I1 (.inl ⟨_,.inl ea⟩);obtain ⟨_,_,f,y,m⟩:=dk_of I1.hok ea;obtain ⟨t,n⟩:=m.dictAt;obtain ⟨p,j,ho,D,A,_⟩:=id n;refine ⟨"dict","dict.values",l5,Y8,PySem.F.type_dict_values,i,B,B4 rfl (j01 ?_)⟩;refine N7 Y8 i PySem.F.entry_dict_values (PySem.F.args_dict_values_1 _) (meets_dict_values (z0l X.prog X.w) a hd) ⟨⟨_,m⟩,?_⟩;have g :∀b o,c.heap.get? b=some o->(c.heap.push { cls:=.type "dict_values",data:=.fields #[.ref a] }).get? b=some o:=λ b o e=>v0 _ e;have d:Inv X l σ (upd H1 a (.frz p (.dK kvs))) { c with heap:=c.heap.push { cls:=.type "dict_values",data:=.fields #[.ref a] } }:=(I1.freeze ea ho).kept (t':=c.toks) g;have k:(c.heap.push { cls:=.type "dict_values",data:=.fields #[.ref a] }).DictAt (z0l X.prog X.w) a f t:=by obtain ⟨o,j,u,r⟩:=n;exact ⟨o,j,g _ _ u,r⟩
 refine wpAny_pyIter_values (s:={ c with heap:=c.heap.push { cls:=.type "dict_values",data:=.fields #[.ref a] } }) ⟨_,J0 _ rfl,rfl,rfl⟩ k ?_;have z:f.length=kvs.length:=y.length.symm;generalize hh2:c.heap.push { cls:=.type "dict_values",data:=.fields #[.ref a] }=h2 at d k;refine ⟨h2.objs.size,[h2.objs.size],_,_,_,rfl,d.kept (t':=c.toks) λ b o e=>v0 _ e,zbg A,⟨_,J0 _ rfl,rfl,by rw [z];rfl⟩,λ b C=>?_,q p⟩;obtain rfl:b=h2.objs.size:=by simpa using C
 exact d.fpOk (y0 _) (d.hok.fresh (y0 _))
noncomputable def tThaw (t:TE):TE:=λ σ H Q=>∃a kvs,H a=some (.dK kvs)/\t σ H λ v H4=>(∃ob,H4 a=some (.frz ob (.dK kvs)))/\Q v (upd H4 a (.dK kvs))
theorem ze6 {e:Expr} {t:TE} (h:PE X e t):PE X e (tThaw t):=by intro b s σ H Q I ⟨a,kvs,ea,q⟩;refine thn (h b s σ H _ I q) λ u c ⟨v,H4,I4,r4,⟨ob,e4⟩,q4⟩=>?_;exact ⟨v,_,I4.thaw (I.noFrz ea) e4,r4,q4⟩
noncomputable def sThaw (t:TS):TS:=λ D σ H=>∃a kvs,H a=some (.dK kvs)/\t { D with nx:=λ σ' H4=>(∃ob,H4 a=some (.frz ob (.dK kvs)))/\D.nx σ' (upd H4 a (.dK kvs)) } σ H
theorem zdx {st:Stmt} {t:TS} (h:PS X st t):PS X st (sThaw t):=by
 intro d s σ H D I ⟨a,kvs,ea,q⟩;refine thn (h d s σ H _ I q) λ f i z=>?_;cases f with
 | next=>obtain ⟨g,j,e,⟨k,c⟩,b⟩:=z;exact ⟨g,_,e.thaw (I.noFrz ea) c,b⟩
 | brk=>exact z
 | cont=>exact z
 | ret u=>exact z
end
theorem z9v {S:Hp->Hp->Prop} {a:Addr} {ob:Obj} {kvs:List (Key×V)} {H1:Hp} (hs :∀H,S H1 H->S H H) (hq :∀H,S H1 H->H a=some (.frz ob (.dK kvs))):RunsR S (Itv a ob kvs) H1 kvs.length (λ i v _=>∃k,kvs[i]? = some (k,v)):=
 ⟨λ i b H s=>⟨hq H s,b⟩,λ H s=>⟨hq H s,y0 _⟩,λ i b H v c s y=>by obtain ⟨e,y⟩:=y;subst e;exact ⟨hs _ s,y⟩⟩
theorem z8m {K:c0} {H:Hp} {l c:Addr} {o:HO} {kvs:List (Key×V)} {xs:List V} (e:H l=some (.dK kvs)) (h:SqT K H c xs):SqT K (upd H l o) c xs:=by
 rcases h with (h|⟨ob,h⟩)|h
 ·exact .inl (.inl (by rw [upd_ne (ne_of h e (by intro z;cases z))];exact h))
 ·exact .inl (.inr ⟨ob,by rw [upd_ne (ne_of h e (by intro z;cases z))];exact h⟩)
 ·exact .inr h
theorem tcompV {K:c0} {a:Addr} {kvs:List (Key×V)} {td te:TE} {tc:TT} {g:TG} {m:Nat} {fr:List (Nat×Str)} {σ:L2.St} {H:Hp} {Q:VK} (p:Nat->Bool) (R:Nat->V->Prop) (htd :∀R:VK,R (.ref a) H->td σ H R) (ea:H a=some (.dK kvs)) (hn:kvs.length<=sizeLine)
  (body :∀i k v,kvs[i]? = some (k,v)->∀H1,(∀c xs,SqT K H c xs->SqT K H1 c xs)->∀(KT:VK) (KF:Hp->Prop),(p i=true->∀y H',Same H1 H'->R i y->KT y H')->(p i=false->∀H',Same H1 H'->KF H')->
   g v (cStG σ fr (N2 m none)) H1 λ σ6 H6=>∃us,us.length=m/\σ6=cStG σ fr us/\tc (cStG σ fr us) H6 λ b H2=>if b=true then te (cStG σ fr us) H2 KT else KF H2)
  (hQ :∀l H' ys,Same H H'->H l=none->H' l=some (.lst ys)->All2 R ((U0 kvs.length).filter p) ys->Q (.ref l) H'):tThaw (tCompG (iVals td) m fr g tc te) σ H Q:=by
 refine ⟨a,kvs,ea,htd _ ⟨a,kvs,rfl,ea,λ d=>?_⟩⟩;have q :∀{H':Hp},Same (upd H a (.frz d (.dK kvs))) H'->H' a=some (.frz d (.dK kvs)):=λ s=>s _ _ z02;refine z2c (S:=Same) (H1:=upd H a (.frz d (.dK kvs))) (Q:=λ v r=>(∃d,r a=some (.frz d (.dK kvs)))/\Q v (upd r a (.dK kvs))) (fr:=fr) (g:=g) (tc:=tc) (te:=te) (σ:=σ) (m:=m) (Same.refl _) (λ _ _ _ a b=>a.trans b) p (λ i y _=>R i y) (λ _ _ _ _ _ z=>z) (z9v (S:=Same) (λ _ _=>Same.refl _) λ H s=>q s) hn (λ i C v H1 u A KT KF t B=>?_) λ l H' ys f h w=>?_
 ·obtain ⟨k,x⟩:=A;exact body i k v x H1 (λ c xs z=>u.seqT (z8m ea z)) KT KF t B
 ·have j:l≠a:=λ z=>by rw [z,q f] at h;cases h
  refine ⟨⟨d,by rw [upd_ne j.symm];exact q f⟩,hQ l _ ys (λ b o e=>?_) ?_ (by rw [upd_ne j];exact z02) w⟩
  ·by_cases z:b=a
   ·rw [z] at e⊢;rw [ea] at e;cases e;exact z02
   ·have n:H' b=some o:=f b o (by rw [upd_ne z];exact e);rw [upd_ne z,upd_ne (λ y=>by rw [y,h] at n;cases n)];exact n
  ·cases hx:H l with
   | none=>rfl
   | some o=>have:=f l o (by rw [upd_ne j];exact hx);rw [h] at this;cases this
theorem zcd {te:TE} {i:Nat} {rest:TS} {D:Ends} {σ:L2.St} {H:Hp} (h:tThaw te σ H λ x H1=>rest D (σ.set i (some x)) H1):tSeq (sThaw (tAsg te (gName i))) rest D σ H:=h
def TupI (h:Heap) (v:Value) (x:Int×Int):Prop:=∃(p:Addr) (o:Obj) (n:Nat) (t u:Tok),v=.ref p/\h.get? p=some o/\o.cls=.type "tuple"/\o.data=.seq #[.int x.1 t,.int x.2 u] n
noncomputable def gtI (x y:Int×Int):Bool:=if x.1=y.1 then decide (y.2 < x.2) else decide (y.1 < x.1)
section
variable {prog:Program} {w:Z0} {A:C2} {E:Value->u0->Prop} {s:u0}
theorem tup_gt {v z:Value} {x y:Int×Int} {Q:Value->u0->Prop} (hx:TupI s.heap v x) (hy:TupI s.heap z y) (hu:A.units < cLine) (h:Q (.bool (gtI x y)) s):N0 (B1 prog w) A (richCompare .Gt v z) Q E s:=by
 obtain ⟨p,o,n,t,u,rfl,d,f,hd⟩:=hx;obtain ⟨l,k,B,C,r,rfl,c,g,m⟩:=hy;refine wpAny_richCompare_same_room (op:=.Gt) (T:="tuple") ⟨o,d,f⟩ ⟨k,c,g⟩ F.slot_tuple_gt (n6 F.slot_tuple_gt ⟨o,d,f⟩ F.entry_tuple_gt ?_ (F.args_tuple_gt_2 _ _)) hu;refine (show N0 _ _ (isInstance (.ref l) (.type "tuple") >>= _) _ _ s from o0 (wpAny_isInstance (T:="tuple") ⟨k,c,g⟩ isSubtype_tuple_tuple ?_));simp only [E9,Y3,if_false];refine o0 (wpAny_tupleItemsOf d hd (o0 (wpAny_tupleItemsOf c m (o0 ?_))));simp only [List.zip_cons_cons,t8,List.forIn_cons,List.forIn_nil];refine o0 (o0 ((C4 prog w).eqBool (a:=x.1) (b:=y.1) (Q6 prog w _ _) (Q6 prog w _ _) ?_));have e :∀{i j:Int} {a b:Tok} {R:Value->u0->Prop},R (.bool (decide (j < i))) s->N0 (B1 prog w) A.in1 (richCompare .Gt (.int i a) (.int j b)) R E s:=λ q=>(show N0 _ _ (V2 .Gt _ _) _ _ _ from gt_int q)
 by_cases e1:x.1=y.1
 ·rw [decide_eq_true e1];simp only [E9,Y3,if_false];refine C0 (o0 (o0 ((C4 prog w).eqBool (a:=x.2) (b:=y.2) (Q6 prog w _ _) (Q6 prog w _ _) ?_)));unfold gtI at h;rw [if_pos e1] at h;by_cases e2:x.2=y.2
  ·rw [decide_eq_true e2];simp only [E9,Y3,if_false];rw [decide_eq_false (by omega)] at h;exact C0 (C0 (C0 ⟨_,rfl,(λ z=>nomatch z),h⟩))
  ·rw [decide_eq_false e2];simp only [Bool.not_false,if_true];exact o0 (M7 (o0 (e (o0 (C0 (C0 (C0 (C0 ⟨_,rfl,(λ z=>nomatch z),h⟩))))))))
 ·rw [decide_eq_false e1];simp only [Bool.not_false,if_true];unfold gtI at h;rw [if_neg e1] at h;exact o0 (M7 (o0 (e (o0 (C0 (C0 (C0 (C0 ⟨_,rfl,(λ z=>nomatch z),h⟩))))))))
theorem TupI.kept {h h':Heap} {v:Value} {x:Int×Int} {c:Addr} {oc:Obj} (q:TupI h v x) (e:h.get? c=some oc) (nc:oc.cls≠.type "tuple") (k :∀b o,b≠c->h.get? b=some o->h'.get? b=some o):TupI h' v x:=by obtain ⟨p,o,n,t,u,rfl,a,d,hd⟩:=q;exact ⟨p,o,n,t,u,rfl,k p o (λ z=>by rw [z,e] at a;cases a;exact nc d) a,d,hd⟩
noncomputable def bestI (m:Value×(Int×Int)):List (Value×(Int×Int))->Value×(Int×Int)
 | []=>m
 | x :: r=>bestI (if gtI x.2 m.2=true then x else m) r
theorem z4t {I l S:Addr} {its:Array Value} (nl:l≠I) (ns:S≠I) (nsl:l≠S) :∀(xs:List (Value×(Int×Int))) (k c:Nat) (m:Value×(Int×Int)) (A:C2) (R:Result->u0->Prop) (s:u0),A.handled=none->A.units + 1 < cLine->s.heap.IsListIter I l k->s.heap.IsList l its->its.toList.drop k=xs.map (·.1)->
  s.heap.get? S=some { cls:=.type "list",dict:=none,data:=.seq #[m.1,m.1] c,slots:=#[] }->TupI s.heap m.1 m.2->(∀x∈xs,TupI s.heap x.1 x.2)->
  (∀h' tk,(∀b o,b≠I->b≠S->s.heap.get? b=some o->h'.get? b=some o)->R (.ok (.ret (bestI m xs).1)) { s with heap:=h',toks:=tk })->
  K6 (B1 prog w) A (.builtin "max.loop" ⟨[.ref I,.none,.ref S],[]⟩) R s
 | [],k,c,m,A,R,s,hh,hu,hI,hl,hd,hS,hm,hx,q=>by
  have K:its[k]? = none:=by have:=List.drop_eq_nil_iff.mp hd;rw [D1] at this;exact L9 this
  refine A5 a9 ?_;rw [C7 A4 _];refine (show N0 _ A.in1 (q9 (.ref S) >>= _) _ _ s from o0 (P6 hS rfl ?_));refine (show N0 _ A.in1 (tryCatch (F8 (.ref I)) _ >>= _) _ _ s from o0 (Z7 (c6 (show A.in1.handled=none from hh) hI hl K λ h' f=>?_)));have a:=f S _ ns hS;refine (show N0 _ A.in1 (updateSeq S (λ _=>#[]) >>= _) _ _ _ from o0 (F9 a rfl (o0 (b8 (C0 ?_)))));exact q _ _ λ b o d h e=>(D4 _ _ (J4 h)).trans (f b o d e)
 | x :: xs,k,c,m,A,R,s,hh,hu,hI,hl,hd,hS,hm,hx,q=>by
  have u:its.toList[k]? = some x.1:=by have:=congrArg (λ z=>z[0]?) hd;simpa using this
  have u:its[k]? = some x.1:=by simpa using u
  have E:its.toList.drop (k + 1)=xs.map (·.1):=by have:=congrArg List.tail hd;simpa using this
  have v:(toString "max"++toString ".loop" : String) = "max.loop":=by decide
  obtain ⟨J,G,H,_⟩:=id hI;have D:J.cls≠.type "tuple":=by rw [H];decide
  refine A5 a9 ?_;rw [C7 A4 _];refine (show N0 _ A.in1 (q9 (.ref S) >>= _) _ _ s from o0 (P6 hS rfl ?_));refine (show N0 _ A.in1 (tryCatch (F8 (.ref I)) _ >>= _) _ _ s from o0 (Z7 (O4 hI hl u λ h' F sb=>?_)));have g :∀b o,b≠I->s.heap.get? b=some o->h'.get? b=some o:=λ b o n e=>(sb.2 b n).trans e;have a:=g S _ ns hS;have C:h'.IsList l its:=hl.elim λ o z=>⟨o,g l o nl z.1,z.2⟩
  have B:TupI h' m.1 m.2:=hm.kept G D g;have p :∀y∈x :: xs,TupI h' y.1 y.2:=λ y i=>(hx y i).kept G D g;refine (show N0 _ A.in1 (tryCatch (holding [x.1,x.1] (richCompare .Gt x.1 m.1 >>= _)) _ >>= _) _ _ _ from o0 (Z7 (D2 (o0 (tup_gt (s:={ s with heap:=h' }) (p x (.head _)) B (by simpa using hu) (o0 (D2 (F3 (o0 (b8 (C0 ?_)))))))))));have f:bestI m (x :: xs)=bestI (if gtI x.2 m.2=true then x else m) xs:=rfl;cases hg:gtI x.2 m.2 with
  | true=>rw [hg,if_pos rfl] at f;simp only [if_true];refine o0 (F9 a rfl (o0 (b8 ?_)));rw [v];have j :∀b o,b≠S->h'.get? b=some o->(h'.update S (R1 λ _=>#[x.1,x.1])).get? b=some o:=λ b o n e=>(D4 _ _ (J4 n)).trans e;refine C0 ⟨m7 A4 _,z4t nl ns nsl xs (k + 1) _ x A R { s with heap:=h'.update S (R1 λ _=>#[x.1,x.1]) } hh hu (F.elim λ o z=>⟨o,j I o (J4 ns) z.1,z.2⟩) (C.elim λ o z=>⟨o,j l o nsl z.1,z.2⟩) E (N4 _ a rfl) ((p x (.head _)).kept a (show m5 "list"≠.type "tuple" by decide) j) (λ y i=>(p y (.tail _ i)).kept a (show m5 "list"≠.type "tuple" by decide) j) λ r tk t=>?_⟩;rw [<-f];exact q r tk λ b o d h e=>t b o d h (j b o h (g b o d e))
  | false=>rw [hg,if_neg (by decide)] at f;simp only [Y3,if_false];refine o0 (b8 ?_);rw [v];refine C0 ⟨m7 A4 _,z4t nl ns nsl xs (k + 1) c m A R { s with heap:=h' } hh hu F C E a B (λ y i=>p y (.tail _ i)) λ r tk t=>?_⟩;rw [<-f];exact q r tk λ b o d h e=>t b o d h (g b o d e)
theorem zbm {l:Addr} {its:Array Value} {m:Value×(Int×Int)} {xs:List (Value×(Int×Int))} {Q:Value->u0->Prop} (hh:A.handled=none) (hu:A.units + 1 < cLine) (hl:s.heap.IsList l its) (hi:its.toList=(m :: xs).map (·.1)) (ht :∀x∈m :: xs,TupI s.heap x.1 x.2)
  (q :∀h' tk,(∀b o,s.heap.get? b=some o->h'.get? b=some o)->Q (bestI m xs).1 { s with heap:=h',toks:=tk }):N0 (B1 prog w) A (call (.builtin "max") [.ref l]) Q E s:=by
 have G:(toString "max"++toString ".loop" : String) = "max.loop":=by decide
 refine call_function_tree F.kind_max F.plain_max F.entry_max (F.args_max1 _) ?_;refine (show N0 _ A.in1 (G7 "max" ["key","default"] 0 ⟨[],[]⟩ >>= _) _ _ s from o0 (a8 (show G7 "max" ["key","default"] 0 ⟨[],[]⟩=Z3 [none,none] from rfl) (o0 (C0 ?_))));refine o0 (S5 hl ?_);refine o0 (T3 ?_);rw [G];dsimp only;generalize hI0:s.heap.push { cls:=.type "list_iterator",data:=.fields #[.ref l,.int 0 0] }=h1;have y:h1.get? s.heap.objs.size=some { cls:=.type "list_iterator",data:=.fields #[.ref l,.int 0 0] }:=by rw [<-hI0];exact J0 _ rfl
 have i:h1.objs.size=s.heap.objs.size + 1:=by rw [<-hI0];exact p4 _ _
 have f :∀b o,s.heap.get? b=some o->h1.get? b=some o:=λ b o e=>by rw [<-hI0];exact v0 _ e
 generalize hS0:h1.push { cls:=.type "list",data:=.seq #[] }=h2;have B:h2.get? h1.objs.size=some { cls:=.type "list",data:=.seq #[] }:=by rw [<-hS0];exact J0 _ rfl
 have a :∀b o,h1.get? b=some o->h2.get? b=some o:=λ b o e=>by rw [<-hS0];exact v0 _ e
 have v:l < s.heap.objs.size:=hl.elim λ o z=>G0 z.1;generalize hI:s.heap.objs.size=I at y i v;generalize hSS:h1.objs.size=S at B i;have j:S≠I:=by omega
 have C:l≠I:=L0 v;have J:l≠S:=L0 (by rw [i];exact C1 v);have O :∀x∈m :: xs,TupI h2 x.1 x.2:=λ x c=>by obtain ⟨p,o,n,t,u,e,N,r⟩:=ht x c;exact ⟨p,o,n,t,u,e,a _ _ (f _ _ N),r⟩
 refine C0 ⟨m7 A4 _,A5 a9 ?_⟩;rw [C7 A4 _];refine (show N0 _ A.in1 (q9 (.ref S) >>= _) _ _ _ from o0 (P6 B rfl ?_));have R:its[0]? = some m.1:=by have:=congrArg (λ z=>z[0]?) hi;simpa using this
 refine (show N0 _ A.in1 (tryCatch (F8 (.ref I)) _ >>= _) _ _ _ from o0 (Z7 (O4 (l:=l) ⟨_,a _ _ y,rfl,rfl⟩ (hl.elim λ o z=>⟨o,a _ _ (f _ _ z.1),z.2⟩) R λ d M sb=>?_)));have h :∀b o,b≠I->h2.get? b=some o->d.get? b=some o:=λ b o n e=>(sb.2 b n).trans e;have k:=h S _ j B;refine (show N0 _ A.in1 (updateSeq S (λ _=>#[m.1,m.1]) >>= _) _ _ _ from o0 (F9 k rfl ?_));rw [G];have g :∀b o,b≠S->d.get? b=some o->(d.update S (R1 λ _=>#[m.1,m.1])).get? b=some o:=λ b o n e=>(D4 _ _ (J4 n)).trans e;have D :∀x∈m :: xs,TupI (d.update S (R1 λ _=>#[m.1,m.1])) x.1 x.2:=λ x c=>((O x c).kept (a _ _ y) (show m5 "list_iterator"≠.type "tuple" by decide) h).kept k (show m5 "list"≠.type "tuple" by decide) g;refine C0 ⟨m7 A4 _,z4t C j J xs 1 _ m A _ { s with heap:=d.update S (R1 λ _=>#[m.1,m.1]) } hh hu (M.elim λ o z=>⟨o,g I o (J4 j) z.1,z.2⟩) (hl.elim λ o z=>⟨o,g l o J (h _ _ C (a _ _ (f _ _ z.1))),z.2⟩) ?_ (N4 _ k rfl) (D m (.head _)) (λ x c=>D x (.tail _ c)) λ h' tk P=>?_⟩
 ·rw [hi];rfl
 ·refine q h' tk λ b o e=>?_;have L:b < I:=by rw [<-hI];exact G0 e
  have K:b≠I:=L0 L;have H:b≠S:=L0 (by rw [i];exact C1 L);exact P b o K H (g _ _ H (h _ _ K (a _ _ (f _ _ e))))
end
section
variable {X:Cx}
theorem gtI_iff {x y:Int×Int}:gtI x y=true↔y.1 < x.1\/(x.1=y.1/\y.2 < x.2):=by
 unfold gtI;by_cases e:x.1=y.1
 ·rw [if_pos e,decide_eq_true_iff];omega
 ·rw [if_neg e,decide_eq_true_iff];omega
theorem z6r :∀(xs:List (Value×(Int×Int))) (m:Value×(Int×Int)),bestI m xs∈m :: xs/\∀x∈m :: xs,gtI x.2 (bestI m xs).2=false
 | [],m=>⟨.head _,λ x d=>by rw [List.mem_singleton.mp d];exact Bool.eq_false_iff.mpr λ z=>by have:m.2.1 < m.2.1\/(m.2.1=m.2.1/\m.2.2 < m.2.2):=gtI_iff.mp z;omega⟩
 | y :: xs,m=>by
  show bestI (if gtI y.2 m.2=true then y else m) xs∈m :: y :: xs/\∀x∈m :: y :: xs,gtI x.2 (bestI (if gtI y.2 m.2=true then y else m) xs).2=false;by_cases z:gtI y.2 m.2=true
  ·rw [if_pos z];obtain ⟨g,f⟩:=z6r xs y;refine ⟨.tail _ g,λ x d=>?_⟩;rcases List.mem_cons.mp d with e|d
   ·have a:=f y (.head _);rw [e];refine Bool.eq_false_iff.mpr λ b=>Bool.eq_false_iff.mp a ?_;have b:=gtI_iff.mp b;have c:=gtI_iff.mp z;exact gtI_iff.mpr (by omega)
   ·exact f x d
  ·rw [if_neg z];obtain ⟨g,f⟩:=z6r xs m;refine ⟨?_,λ x d=>?_⟩
   ·rcases List.mem_cons.mp g with e|e
    ·rw [e];exact .head _
    ·exact .tail _ (.tail _ e)
   ·rcases List.mem_cons.mp d with e|d
    ·rw [e];exact f m (.head _)
    ·rcases List.mem_cons.mp d with e|d
     ·have a:=f m (.head _);rw [e];refine Bool.eq_false_iff.mpr λ b=>Bool.eq_false_iff.mp a ?_;have b:=gtI_iff.mp b;have c:¬ _:=λ c=>z (gtI_iff.mpr c);exact gtI_iff.mpr (by omega)
     ·exact f x (.tail _ d)
theorem zbh (hcalm:X.calm=true) {k:Nat} (hr:Room k X.A):CallR X (.builtin "max") (λ xs H Q=>∃(l:Addr) (m:Addr×(Int×Int)) (r:List (Addr×(Int×Int))),xs=[.ref l]/\SqL X.K H l ((m :: r).map λ x=>V.ref x.1)/\(∀x∈m :: r,SqT X.K H x.1 [.int x.2.1,.int x.2.2])/\
  ∀b,(b∈m :: r)->(∀x∈m :: r,gtI x.2 b.2=false)->Q (.ref b.1) H):=by
 intro S s σ H xs us Q I D h;obtain ⟨l,m,r,rfl,sq,st,q⟩:=h;obtain ⟨u,rfl,L⟩:=vals1 D;cases L;obtain ⟨i,N,C,T⟩:=I.list sq;have M:i.toArray.toList=(((P1 m.1,m.2) :: r.map λ x=>(P1 x.1,x.2)):List (Value×(Int×Int))).map (·.1):=by
  have J :∀(f:List (Addr×(Int×Int))) (us:List Value),Vals (f.map λ x=>V.ref x.1) us->us=(f.map λ x=>(P1 x.1,x.2)).map (·.1):=by
   intro f;induction f with
   | nil=>intro us h;cases h;rfl
   | cons y f ih=>
    intro us h;cases h with
    | cons a b=>cases (show _=P1 y.1 from a);rw [O0,O0,<-ih _ b]
  simpa using J (m :: r) i N
 have p :∀x∈(((P1 m.1,m.2) :: r.map λ x=>(P1 x.1,x.2)):List (Value×(Int×Int))),TupI s.heap x.1 x.2:=λ x c=>by
  obtain ⟨y,d,rfl⟩ :∃y∈m :: r,x=(P1 y.1,y.2):=by
   rcases List.mem_cons.mp c with e|c
   ·exact ⟨m,.head _,e⟩
   ·obtain ⟨y,d,e⟩:=List.mem_map.mp c;exact ⟨y,.tail _ d,e.symm⟩
  obtain ⟨R,j,⟨o,G,E,n,hd⟩,_⟩:=I.tuple (st y d);obtain ⟨P,U,rfl,w,B⟩:=vals2 j;obtain ⟨F,rfl⟩:=w;obtain ⟨O,rfl⟩:=B;exact ⟨y.1,o,n,F,O,rfl,G,E,hd⟩
 refine zbm (I.ok.hd hcalm) (hu_of hr) C.isList M p λ W t k=>?_;obtain ⟨z,g⟩:=z6r (r.map λ x=>(P1 x.1,x.2)) (P1 m.1,m.2);obtain ⟨y,d,v⟩ :∃y∈m :: r,bestI (P1 m.1,m.2) (r.map λ x=>(P1 x.1,x.2))=(P1 y.1,y.2):=by
  rcases List.mem_cons.mp z with e|c
  ·exact ⟨m,.head _,e⟩
  ·obtain ⟨y,d,e⟩:=List.mem_map.mp c;exact ⟨y,.tail _ d,e.symm⟩
 rw [v] at g⊢;refine ⟨.ref y.1,H,I.kept (t':=t) k,rfl,q y d λ x c=>?_⟩;rcases List.mem_cons.mp c with e|c
 ·rw [e];exact g _ (.head _)
 ·exact g (P1 x.1,x.2) (.tail _ (List.mem_map.mpr ⟨x,c,rfl⟩))
end
end L2
set_option maxHeartbeats 400000
namespace L2
open PySem PySem.Spec PyProof.Rows
end L2
set_option maxHeartbeats 1000000
namespace L2
open PySem PySem.Spec PyProof.Rows
structure ZLAt (h:Heap) (z T U i j a b:Addr) (n:Nat) (f:Value):Prop where
 z:IsZip h z T U f
 t:IsPair h T (.ref i) (.ref j)
 u :∃p q,IsPair h U p q
 i:h.IsListIter i a n
 j:h.IsListIter j b n
end L2
namespace L2
open PySem PySem.Spec PyProof.Rows PySem.NumText
end L2
namespace L2
open PySem PySem.Spec PyProof.Rows
end L2
open PySem PySem.W PyProof.Rows
set_option maxHeartbeats 4000000
namespace TJ
end TJ
open PySem PySem.W PyProof.Rows
namespace TJ
end TJ
open PySem PySem.W PyProof.Rows
namespace TJ
noncomputable abbrev dObj (es:Array DictEntry) (ep:Nat):Obj:={ cls:=.type "dict",data:=.dict es ep }
section
variable {p:Program} {w:Z0} {n₀:Nat} {ann:Option Value} {code:Code} {q:Pos} {pos:Pos} {F:Obj->Nat->SharedT} {d:Addr}
structure Fam (n₀:Nat) (d:Addr) (F:Obj->Nat->SharedT):Prop where
 le:Nat.ble n₀ d=true
 get :∀es ep tk,(F (dObj es ep) tk).abs.heap.get? d=some (dObj es ep)
 upd :∀es ep tk (e:DictEntry),({ (F (dObj es ep) tk).abs with heap:=(F (dObj es ep) tk).abs.heap.update d (Obj.mapDictKeys (·.push e)) }:u0)=(F (dObj (es.push e) (ep + 1)) tk).abs
end
theorem zcj {p q:Program} {loose:List Str} {Xt:u0->Bool} {α:Type} {Yf:u0->α} {Ya:Z0->α} {N:Nat} {H₀:J1->Heap} {gs₀:Array GenState} {d₀:Drawn} {k₀ m₀:Nat} {ann:Option Value} {S:Z0->W4->u0}
  (opens :∀w:Z0,(fencedOpening N5 p w N).map (λ s=>(s.heap,s.gens,s.drawn,s.toks))=some (H₀ w.params,gs₀,d₀,k₀))
  (sizes :∀w:Z0,(((H₀ w.params).isNs P2 && gs₀.size == 0),(H₀ w.params).objs.size,(H₀ w.params).nsMap P2 "__annotations__")=(true,m₀,ann))
  (runs :∀(w:Z0) (os:W4),∃M,M<=N/\topRun N5 p w m₀ ann M ⟨H₀ w.params,gs₀,d₀,k₀,os⟩ (topStub p)=some (S w os))
  (looks1 :∀(w:Z0) (os:W4),(staticsOk (F6 p.main.body) (H₀ w.params) (S w os).heap && namesBound p (S w os).heap && gensDone (S w os) && laidKept (H₀ w.params) (S w os).heap)=true)
  (looks2 :∀(w:Z0) (os:W4),openSeen q loose (F6 p.main.body) Xt true (S w os)=openGood q loose) (looks3 :∀(w:Z0) (os:W4),Yf (S w os)=Ya w):LeftO p q loose Xt Yf Ya N:=by
 intro w;obtain ⟨⟨h,b,c,k,os⟩,e,a⟩:=Option.map_eq_some_iff.mp (opens w);simp only [Prod.mk.injEq] at a;obtain ⟨rfl,rfl,rfl,rfl⟩:=a;have z:=sizes w;simp only [Prod.mk.injEq] at z;obtain ⟨f,i,d⟩:=z;obtain ⟨M,g,r⟩:=runs w os;have r:=topRun_mono (N - M) _ _ _ _ r;rw [Nat.add_sub_cancel' g] at r;have t:topFrom N5 p w N ⟨H₀ w.params,b,c,k,os⟩=some (S w os):=by unfold topFrom;dsimp only;rw [f,i,d,r];show (match (staticsOk (F6 p.main.body) (H₀ w.params) (S w os).heap && namesBound p (S w os).heap && gensDone (S w os) && laidKept (H₀ w.params) (S w os).heap) with|true=>some (S w os)|false=>none)=_;rw [looks1 w os]
 unfold openEnds;rw [e];show (topFrom N5 p w N _).map _=_;rw [t];show some (_,_)=some (_,_);rw [looks2 w os,looks3 w os]
end TJ
open PySem PySem.Spec PyProof.Rows
namespace L2
noncomputable abbrev fnX (x q:Str) (s:Stmt) (m:Str) (k c:Nat):FuncData:=w5 x q (z5s s) (z3q s) (z08 s) .none .none .none (.str m k) none (.ref c) .none
noncomputable abbrev fY (x q:Str) (s:Stmt):=fnX x q s "law_talejudge_k25_whole_runs_of_registers" 383
noncomputable abbrev fO (x q:Str) (s:Stmt) (m:Str) (k c:Nat):Obj:=⟨.type "function",none,.func (fnX x q s m k c),#[]⟩
noncomputable abbrev fL (x q:Str) (s:Stmt):=fO x q s "law_talejudge_k25_whole_runs_of_registers" 383
noncomputable abbrev cO (x q:Str) (i l n a j:Nat):Obj:=
 ⟨.type "code",none,.fields #[.str x i,.str q (i + 1),.str "/claim/cut.py" (i + 2),.int l 0,.int n 0,.int 0 0,.int 0 0,.int 3 0,.ref a,.bool true,.int 181 0,.ref (a + 1),.none,.ref (a + 2),.ref (a + 3),.ref (a + 4),.int j 0,.int l 0,.str "/claim/cut.py" (j + 1)],#[]⟩
noncomputable abbrev cP (x q:Str) (i l n a j:Nat):Obj:=
 ⟨.type "code",none,.fields #[.str x i,.str q (i + 1),.str "/claim/cut.py" (i + 2),.int l 0,.int n 0,.int 0 0,.int 0 0,.int 3 0,.ref a,.bool true,.int 181 0,.ref (a + 1),.none,.none,.none,.ref (a + 2),.int j 0,.int l 0,.str "/claim/cut.py" (j + 1)],#[]⟩
noncomputable abbrev kR (P:J1) (x:Str) (i a:Nat):DictEntry:=⟨O1 P x,.str x i,.ref a⟩
section
variable {P:Program} {w:Z0} {K:c0} {mg:Str->Option Value} {base:Heap} {x q:Str} {st:Stmt} {f:Addr} {fd:FuncData} {k:Nat} {ps:List Str} {sp:Sp}
theorem z0e {m:Str} {i c:Nat} (l:K.lookup f=some (fO x q st m i c):=by kernel_rfl) (hc:z7 K (.ref c) q=true:=by kernel_rfl) (hk:j4 K (.ref f)=true:=by kernel_rfl):Fun K x q st f (fnX x q st m i c):=fun_mk l hc hk
theorem cal_mk (T:TX K mg) (F:Fun K x q st f fd) (g:T6 K P2 x=some (some (.ref f))) (b:Binds K fd ps []) (G:FnOk P w K mg base CX0 k f fd ps sp):Cal P w K mg base x ps k sp:=⟨⟨f,fd,G,T.of g,F.kp,b⟩⟩
end
section
variable {p:List Value->Prop}
theorem us1 (h :∀a,p [a]) :∀us:List Value,us.length=1->p us | [a],_=>h a
theorem us2 (h :∀a b,p [a,b]) :∀us:List Value,us.length=2->p us | [a,b],_=>h a b
theorem us3 (h :∀a b c,p [a,b,c]) :∀us:List Value,us.length=3->p us | [a,b,c],_=>h a b c
theorem us4 (h :∀a b c d,p [a,b,c,d]) :∀us:List Value,us.length=4->p us | [a,b,c,d],_=>h a b c d
end
end L2
set_option maxHeartbeats 1000000
namespace L2
open PySem PySem.Spec PyProof.Rows
section
variable {X:Cx}
noncomputable def rEqL0 (K:c0):R2:=λ x y H Q=>∃a b xs,x=.ref a/\y=.ref b/\SqL K H a xs/\SqL K H b []/\Q (.bl (decide (xs=[]))) H
theorem zdl {k:Nat} (hr:Room k X.A):OpR X (V2 .Eq) (rEqL0 X.K):=by
 intro B s σ H x y v u Q I r l h;obtain ⟨a,b,m,rfl,rfl,p,t,q⟩:=h;cases r;cases l;obtain ⟨C,c,f,_⟩:=I.list p;obtain ⟨D,i,g,_⟩:=I.list t;cases i;have d:X.A.units < cLine:=Nat.lt_of_succ_lt (hu_of hr);have o:=c.length;cases m with
 | nil=>cases c;exact SeqAt.RcAt.lists (e:=λ _=>true) f.isList g.isList rfl d (λ j n _=>absurd n (O2 _)) X.prog X.w _ _ ⟨.bl _,H,I,rfl,q⟩
 | cons z zs=>refine SeqAt.RcAt.lists_lengths f.isList g.isList ?_ d X.prog X.w _ _ ⟨.bl _,H,I,rfl,q⟩;rw [I0,<-o];rfl
end
variable {X:Cx}
theorem zbf (hc:X.calm=true):CallR X (.builtin "max") (λ xs H Q=>∃(p:Addr) (ns:List Int),xs=[.ref p]/\SqL X.K H p (ns.map V.int)/\ns≠[]/\∀M,M∈ns->(∀a∈ns,a<=M)->Q (.int M) H):=by
 intro C s σ H xs us Q I r h;obtain ⟨p,ns,rfl,x,ne,q⟩:=h;obtain ⟨u,rfl,o⟩:=vals1 r;cases o;obtain ⟨i,l,k,D⟩:=I.list x;have g:Z2 i ns:=z1p l;obtain ⟨xs,e⟩:=g.allInts.items;have b:ns=xs.toList.map (·.1):=by rw [<-g.numsOf,<-nums_intItems,<-e]
 have m:0 < xs.size:=by have f:=List.length_pos_iff.mpr ne;rw [b,A0,D1] at f;exact f
 have c:=k.isList;rw [e] at c;refine max_intList (I.ok.hd hc) c m λ v E A n z=>?_;obtain ⟨t,rfl⟩:=intItems_at n;obtain ⟨B,w⟩:=argBest_gt (numAt xs) (xs.size - 1);refine ⟨.int _,H,I.kept z,⟨_,rfl⟩,q _ ?_ λ a d=>?_⟩
 ·rw [b,numAt_eq];exact getD_mem (by rw [A0,D1];omega)
 ·rw [b] at d;obtain ⟨j,y,rfl⟩:=mem_getD d;rw [A0,D1] at y;rw [<-numAt_eq];exact w j (by omega)
theorem zan (hc:X.calm=true):CallR X (.builtin "min") (λ xs H Q=>∃(p:Addr) (ns:List Int),xs=[.ref p]/\SqL X.K H p (ns.map V.int)/\ns≠[]/\∀M,M∈ns->(∀a∈ns,M<=a)->Q (.int M) H):=by
 intro C s σ H xs us Q I r h;obtain ⟨p,ns,rfl,x,ne,q⟩:=h;obtain ⟨u,rfl,o⟩:=vals1 r;cases o;obtain ⟨i,l,k,D⟩:=I.list x;have g:Z2 i ns:=z1p l;obtain ⟨xs,e⟩:=g.allInts.items;have b:ns=xs.toList.map (·.1):=by rw [<-g.numsOf,<-nums_intItems,<-e]
 have m:0 < xs.size:=by have f:=List.length_pos_iff.mpr ne;rw [b,A0,D1] at f;exact f
 have c:=k.isList;rw [e] at c;refine min_intList (I.ok.hd hc) c m λ v E A n z=>?_;obtain ⟨t,rfl⟩:=intItems_at n;obtain ⟨B,w⟩:=argBest_lt (numAt xs) (xs.size - 1);refine ⟨.int _,H,I.kept z,⟨_,rfl⟩,q _ ?_ λ a d=>?_⟩
 ·rw [b,numAt_eq];exact getD_mem (by rw [A0,D1];omega)
 ·rw [b] at d;obtain ⟨j,y,rfl⟩:=mem_getD d;rw [A0,D1] at y;rw [<-numAt_eq];exact w j (by omega)
end L2
set_option maxHeartbeats 4000000
namespace L2
open PySem PySem.Spec PyProof.Rows
noncomputable def Itms (a:Addr) (ob:Obj) (kvs:List (Key×V)):It:=
 ⟨λ i H=>H a=some (.frz ob (.dK kvs))/\i < kvs.length,λ i H x H'=>∃p k v,H p=none/\x=.ref p/\kvs[i]? = some (k,v)/\H'=upd H p (.tup [kV k,v]),λ i H=>H a=some (.frz ob (.dK kvs))/\kvs.length<=i⟩
theorem z9d {P:Program} {w:Z0} {K:c0} {elts:List Expr} {x1:Nat} {pos:Pos} {a it:Addr} {ob:Obj} {kvs:List (Key×V)} {es:Array DictEntry} {ep:Nat} (hob:ob.data=.dict es ep):Turn P w K (.Tuple elts x1 pos) (Itms a ob kvs) [it] it (λ i h=>∃ok ov,IsItemIter h it a i kvs.length ep ok ov) where
 mem:=by simp
 obj:=λ i h st b d=>by
  obtain rfl:b=it:=by simpa using d
  obtain ⟨ok,ov,e⟩:=st;exact ⟨_,e,λ v z=>by cases (show P8 _=K9 v from z)⟩
 keep:=λ i h F st k=>by obtain ⟨ok,ov,e⟩:=st;exact ⟨ok,ov,k it (by simp) _ e⟩
 item:=by
  intro X l B p f i a0 s σ H E I g st q;subst l B p;obtain ⟨m,L⟩:=q;obtain ⟨S,D,j,r⟩:=frz_at I hob m;have N:kvs[i]? = some kvs[i]:=P0 L;obtain ⟨⟨T,u⟩,hu,y,ru⟩:=z4w D N;obtain ⟨ok,ov,st⟩:=st;rw [<-j] at st;have R:it < s.heap.objs.size:=G0 st;have C:s.heap.objs.size≠it:=E2 R;refine wpAny_pyNext_items_item st r hu λ M F U a1 tT hz kk=>?_;refine ⟨_,rfl,wpAny_letOwnedTupleGo_items a1 λ h2 G sb=>?_⟩;have Q:RelV (kV kvs[i].1) M:=by
   have y:kvs[i].1=T:=y;rw [y];rcases z0j U with ⟨i,t,A,n⟩|⟨x,t,A,n⟩
   ·rw [A,n];exact ⟨t,rfl⟩
   ·rw [A,n];exact ⟨t,rfl⟩
  have k2 :∀b o,b∉[it]->s.heap.get? b=some o->h2.get? b=some o:=λ b o d z=>by have d:b≠it:=λ z=>d (List.mem_singleton.mpr z);exact (sb.2 b d).trans (kk b o d z)
  have J:=(sb.2 _ C).trans tT;have Y:H s.heap.objs.size=none:=I.hok.fresh (y0 _);rw [j] at G;refine ⟨.ref s.heap.objs.size,upd H s.heap.objs.size (.tup [kV kvs[i].1,kvs[i].2]),I.turnedLaid (t':=s.toks) k2 g (y0 _) ⟨w_2,[M,u],.cons Q (.cons ru .nil),⟨_,J,rfl,_,rfl⟩,_,J,rfl⟩,rfl,⟨_,_,_,Y,rfl,N,rfl⟩,⟨_,_,G⟩,λ c f=>?_⟩;rw [upd_ne (λ (z:c=s.heap.objs.size)=>C (z ▸ List.mem_singleton.mp f))];exact (g c f).1
 done:=by intro X l B p f i a0 s σ H E I g st q;subst l B p;obtain ⟨m,L⟩:=q;obtain ⟨S,D,j,r⟩:=frz_at I hob m;obtain ⟨f0,Z,f2,f3,O,f5⟩:=g it (by simp);obtain ⟨ok,ov,st⟩:=st;rw [<-j] at st;exact wpAny_pyNext_items_end (I.ok.hd f) st r (by rw [M3];omega) λ F eb=>⟨rfl,I.turned (t':=s.toks) (λ b o d e=>eb b o d e) f0 Z f3 O f5⟩
 self:=λ _ _ _ _ _ st h=>by obtain ⟨ok,ov,st⟩:=st;exact PySem.W.kcp_self st h
noncomputable def iItems (td:TE):TI:=λ σ H R=>td σ H λ x H1=>∃a kvs,x=.ref a/\H1 a=some (.dK kvs)/\∀ob,R (Itms a ob kvs) (upd H1 a (.frz ob (.dK kvs)))
section
variable {X:Cx}
theorem zci {elts:List Expr} {x1:Nat} {tpos:Pos} {o:Expr} {to:TE} {apos cpos:Pos} (ho:PE X o to) (hbase:r6 o "items" X.env (W3 o X.env)=W3 o X.env:=by rfl) (hline:(apos.endLine == cpos.line)=true:=by rfl):PI X (.Tuple elts x1 tpos) (.Call (.Attribute o "items" apos) [] [] cpos) (iItems to):=by
 intro l s σ H R I h;refine wpAny_Call_method0_late hbase hline (thn (ho l s σ H _ I h) λ v c ⟨x,H1,I1,r1,a,kvs,ex,ea,q⟩=>?_);subst ex;cases r1;obtain ⟨i,B,hd⟩:=isD_at I1 (.inl ⟨_,.inl ea⟩);obtain ⟨_,_,f,y,m⟩:=dk_of I1.hok ea;obtain ⟨t,n⟩:=m.dictAt;obtain ⟨p,j,ho,D,A,_⟩:=id n;refine ⟨"dict","dict.items",l5,c9,PySem.F.type_dict_items,i,B,B4 rfl (j01 ?_)⟩;refine N7 c9 i PySem.F.entry_dict_items (PySem.F.args_dict_items_1 _) (meets_dict_items (z0l X.prog X.w) a hd) ⟨⟨_,m⟩,?_⟩;have g :∀b o,c.heap.get? b=some o->(c.heap.push { cls:=.type "dict_items",data:=.fields #[.ref a] }).get? b=some o:=λ b o e=>v0 _ e;have d:Inv X l σ (upd H1 a (.frz p (.dK kvs))) { c with heap:=c.heap.push { cls:=.type "dict_items",data:=.fields #[.ref a] } }:=(I1.freeze ea ho).kept (t':=c.toks) g;have k:(c.heap.push { cls:=.type "dict_items",data:=.fields #[.ref a] }).DictAt (z0l X.prog X.w) a f t:=by obtain ⟨o,j,u,r⟩:=n;exact ⟨o,j,g _ _ u,r⟩
 refine wpAny_pyIter_items (s:={ c with heap:=c.heap.push { cls:=.type "dict_items",data:=.fields #[.ref a] } }) ⟨_,J0 _ rfl,rfl,rfl⟩ k ?_;have z:f.length=kvs.length:=y.length.symm;generalize hh2:c.heap.push { cls:=.type "dict_items",data:=.fields #[.ref a] }=h2 at d k;refine ⟨h2.objs.size,[h2.objs.size],_,_,_,rfl,d.kept (t':=c.toks) λ b o e=>v0 _ e,z9d A,⟨_,_,by rw [<-z];exact J0 _ rfl⟩,λ b C=>?_,q p⟩;obtain rfl:b=h2.objs.size:=by simpa using C
 exact d.fpOk (y0 _) (d.hok.fresh (y0 _))
end
theorem zbd {a:Addr} {ob:Obj} {kvs:List (Key×V)} {g:TG} {tb:TS} {D:Ends} {σ:St} {H:Hp} (Pv:Nat->St->Hp->Prop) (h0:Pv 0 σ H) (fr :∀i σ H,Pv i σ H->H a=some (.frz ob (.dK kvs)))
  (hs :∀i k v σ H p,kvs[i]? = some (k,v)->Pv i σ H->H p=none->g (.ref p) σ (upd H p (.tup [kV k,v])) λ σ2 H2=>tb { D with nx:=Pv (i + 1),ct:=Pv (i + 1),bk:=D.nx } σ2 H2) (hd :∀σ H,Pv kvs.length σ H->D.nx σ H) :
  ∃W:Nat->Nat->St->Hp->Prop,(∃m,W 0 m σ H)/\∀i m σ H,W i m σ H->
   ((Itms a ob kvs).stop i H/\D.nx σ H)\/((Itms a ob kvs).go i H/\∃N:St->Hp->Prop,(∀σ' H',N σ' H'->∃m',m' < m/\W (i + 1) m' σ' H')/\∀x H',(Itms a ob kvs).yld i H x H'->g x σ H' λ σ2 H2=>tb { D with nx:=N,ct:=N,bk:=D.nx } σ2 H2):=by
 refine ⟨λ i m σ H=>m=kvs.length - i/\i<=kvs.length/\Pv i σ H,⟨kvs.length,by simp,A2 _,h0⟩,?_⟩;rintro i m σ H ⟨rfl,hi,p⟩;by_cases hlt:i < kvs.length
 ·refine .inr ⟨⟨fr _ _ _ p,hlt⟩,Pv (i + 1),λ σ' H' q=>⟨kvs.length - (i + 1),by omega,rfl,hlt,q⟩,λ x H' y=>?_⟩;obtain ⟨b,k,v,d,rfl,c,rfl⟩:=y;exact hs i k v σ H b c p d
 ·obtain rfl:i=kvs.length:=by omega
  exact .inl ⟨⟨fr _ _ _ p,y0 _⟩,hd σ H p⟩
end L2
set_option maxHeartbeats 1000000
namespace L2
open PySem PySem.Spec PyProof.Rows
theorem z7i {α β:Type} {g:α->β} {l m:List β} (h:l.Perm m) :∀zs:List α,m=zs.map g->∃zs':List α,zs'.Perm zs/\l=zs'.map g:=by
 induction h with
 | nil=>intro zs e;exact ⟨zs,.refl _,e⟩
 | cons x _ ih=>
  intro zs e;cases zs with
  | nil=>cases e
  | cons z zs=>injection e with e1 e2;obtain ⟨zs',a,b⟩:=ih zs e2;exact ⟨z :: zs',a.cons z,by rw [O0,<-e1,<-b]⟩
 | swap x y l=>
  intro zs e;cases zs with
  | nil=>cases e
  | cons z zs=>
   cases zs with
   | nil=>injection e with _ e;cases e
   | cons z' zs=>injection e with e1 e2;injection e2 with e2 e3;exact ⟨z' :: z :: zs,.swap _ _ _,by rw [O0,O0,<-e1,<-e2,<-e3]⟩
 | trans _ _ ih1 ih2=>intro zs e;obtain ⟨f,a,b⟩:=ih2 zs e;obtain ⟨i,c,d⟩:=ih1 f b;exact ⟨i,c.trans a,d⟩
def KeyOut (kz:List Int) (ys out:List V):Prop:=∃ps:List (Int×V),ps.Perm (kz.zip ys)/\out=ps.map Prod.snd/\ps.Pairwise λ p q=>p.1<=q.1
theorem zej {kz:List Int} {ys:List V} {vs out:List Value} (hv:Vals ys vs) (hl:kz.length=ys.length) (h:KskOut false kz vs out) :∃zs,Vals zs out/\KeyOut kz ys zs/\zs.length=ys.length:=by
 obtain ⟨n,a,rfl,c⟩:=h;have f:=hv.length;have e:kz.zip vs=(kz.zip (ys.zip vs)).map λ p=>(p.1,p.2.2):=by
  clear a c hl;induction hv generalizing kz with
  | nil=>rw [C6,t8,C6];rfl
  | cons r t ih=>
   cases kz with
   | nil=>rfl
   | cons k kz=>have:=ih (kz:=kz) (by have:=f;simpa using this);show (k,_) :: kz.zip _=_ :: _;rw [this];rfl
 obtain ⟨zs,d,g⟩:=z7i a _ e;have i :∀p∈kz.zip (ys.zip vs),RelV p.2.1 p.2.2:=λ p a=>by
  have:=(d6 a).2;have j :∀{ys:List V} {vs:List Value},Vals ys vs->∀q∈ys.zip vs,RelV q.1 q.2:=by
   intro ys vs h;induction h with
   | nil=>exact λ q b=>absurd b B0
   | cons r t ih=>
    intro q b;rcases List.mem_cons.mp b with rfl|b
    ·exact r
    ·exact ih q b
  exact j hv _ this
 have l :∀zs:List (Int×V×Value),(∀p∈zs,RelV p.2.1 p.2.2)->Vals (zs.map λ p=>p.2.1) (zs.map λ p=>p.2.2):=by
  intro zs;induction zs with
  | nil=>exact λ _=>.nil
  | cons z zs ih=>exact λ h=>.cons (h z (.head _)) (ih λ p a=>h p (.tail _ a))
 have m:kz.zip ys=(kz.zip (ys.zip vs)).map λ p=>(p.1,p.2.1):=by
  clear a c hl d g i e;induction hv generalizing kz with
  | nil=>rw [C6,t8,C6];rfl
  | cons r t ih=>
   cases kz with
   | nil=>rfl
   | cons k kz=>have:=ih (kz:=kz) (by have:=f;simpa using this);show (k,_) :: kz.zip _=_ :: _;rw [this];rfl
 refine ⟨zs.map λ p=>p.2.1,?_,⟨zs.map λ p=>(p.1,p.2.1),?_,?_,?_⟩,?_⟩
 ·rw [g,O3];exact l zs λ p a=>i p (d.mem_iff.mp a)
 ·rw [m];exact d.map _
 ·rw [O3];rfl
 ·rw [g] at c;rw [L6] at c⊢;exact c.imp λ h=>h
 ·rw [A0,d.length_eq,List.length_zip,List.length_zip,hl,<-f,X9,X9]
section
variable {X:Cx} {pins:List (Addr×Obj)} {σ:St} {H:Hp} {s:u0}
theorem Inv.track {a:Addr} {o:HO} (I:Inv X pins σ H s) (hf:FpOk X pins H a) (new:ObjOk X.prog X.w (upd H a o) s.heap a o):Inv X pins σ (upd H a o) s:=by
 have g:=hf.1;have f :∀b u,H b=some u->upd H a o b=some u:=λ b u e=>by rw [upd_ne (z0d e g)];exact e
 refine I.step (h':=s.heap) (t':=s.toks) (g':=s.gens) (d':=s.drawn) (ch:=[a]) (λ b d=>?_) (λ b o _ _ _ e _=>e) (λ b o _ _ _ e _=>⟨o.slots,e⟩) (λ b u d e n=>?_) (λ b o _ e=>⟨o,e⟩) (λ _ _ e=>f _ _ e) (λ _ _ _ e=>f _ _ e) (λ b i e=>⟨#[],by rw [f _ _ e];simp⟩) (λ m h=>h) (λ b u e=>?_) I.bare
 ·cases List.mem_singleton.mp d;exact ⟨hf.2.2.2.1,hf.2.1,hf.2.2.2.2.1,hf.2.2.2.2.2⟩
 ·rw [upd_ne λ z=>d (List.mem_singleton.mpr z)];exact n
 ·by_cases d:b=a
  ·subst d;rw [z02] at e;cases e;exact new
  ·rw [upd_ne d] at e;exact (I.hok b u e).stay (λ c v _ q=>q) (λ c q=>f _ _ q) λ c j q=>f _ _ q
theorem ze1 {A:C2} {E:Value->u0->Prop} {P:PySem.Fin->u0->Prop} {a kS:Addr} {vs:List Value} {kz:List Int} {keys:Array Value} {e e1:Nat}
  (I:Inv X pins σ H s) (fa:FpOk X pins H a) (fk:FpOk X pins H kS) (hka:kS≠a) (ek:s.heap.get? kS=some (A3 "list" keys e)) (ea:s.heap.get? a=some (A3 "list" #[] e1))
  (hk:Z2 keys.toList kz) (hlen:kz.length=vs.length) (h64:vs.length < 64)
  (h :∀h' tk out c,Inv X pins σ H { s with heap:=h',toks:=tk }->h'.get? a=some (A3 "list" out c)->KskOut false kz vs out.toList->P (.done (.ret .none)) { s with heap:=h',toks:=tk }) :
  N0 (B1 X.prog X.w) A (ksk_end a false vs.toArray e1 (.ref kS) keys) P E s:=by
 have n:keys.size=vs.length:=by have x:=hk.length;rw [D1] at x;omega
 have k:(keys.zip vs.toArray).size=vs.length:=by rw [Array.size_zip,n,I0,X9]
 have t :∀st:SortSt,(V8 st).Perm (keys.zip vs.toArray)->SortedTo (V8 st) (V8 st).size->failedOf st=none->N0 (B1 X.prog X.w) A (ksk_tail a false e1 (.ref kS) st) P E s:=by
  intro st g p F;have B:(V8 st).size=vs.length:=by rw [g.size_eq,k]
  have r:=y3 s.heap kS (R1 λ _=>(#[]:Array Value));have m:(s.heap.update kS (R1 λ _=>(#[]:Array Value))).get? a=some (A3 "list" #[] e1):=(r.2 a hka.symm).trans ea;have v:=y3 (s.heap.update kS (R1 λ _=>(#[]:Array Value))) a (R1 λ _=>(V8 st).map (·.2));obtain ⟨l,D⟩ :∃l,((s.heap.update kS (R1 λ _=>(#[]:Array Value))).update a (R1 λ _=>(V8 st).map (·.2))).get? a=some (A3 "list" ((V8 st).map (·.2)) l):=
   ⟨_,G9 m λ _=>(V8 st).map (·.2)⟩
  unfold ksk_tail
  try dsimp only
  refine o0 (D8 ek rfl ?_ (by rw [n,O5];omega) (A2 _));refine o0 (b8 ?_);refine o0 (seqEpoch_at m rfl ?_);refine o0 (D8 m rfl ?_ (A2 _) (D0 (B6 ((Array.size_map ..).trans B)) (by rw [O5];omega)));rw [F];simp only [bne_self_eq_false,Y3,if_false];have J:=I.turnedL (fp:=[kS,a]) (h':=(s.heap.update kS (R1 λ _=>(#[]:Array Value))).update a (R1 λ _=>(V8 st).map (·.2))) (t':=s.toks) (λ b o f q=>(v.2 b λ z=>f (z ▸ .tail _ (.head _))).trans ((r.2 b λ z=>f (z ▸ .head _)).trans q)) (λ b f=>by
   rcases List.mem_cons.mp f with rfl|f
   ·exact fk
   ·rw [List.mem_singleton.mp f];exact fa)
  exact C0 (h _ _ _ l J D (ksk_out (b:=false) hk g p))
 unfold ksk_end
 try dsimp only
 rw [if_neg W0];by_cases h2:vs.toArray.size < 2
 ·rw [if_pos h2,if_pos h2];refine o0 (C0 ?_);rw [StateT.run_pure];refine o0 (C0 ?_)
  try dsimp only
  refine t (SortSt.mk' general' (if false=true then (keys.zip vs.toArray).reverse else keys.zip vs.toArray) #[] 7 none) (Z9 _) ?_ rfl;intro i j M G;have y:j < (keys.zip vs.toArray).size:=G;rw [k] at y;rw [I0] at h2;have:i=j:=by omega
  subst this;exact Int.le_refl _
 ·rw [if_neg h2,if_neg h2];rw [I0] at h2;rw [ksk_kind hk (by rw [n];omega)];refine o0 (C0 ?_);refine o0 (K3 (wpS_sortRuns (a₀:=keys.zip vs.toArray) (st:=SortSt.mk' oneType' (if false=true then (keys.zip vs.toArray).reverse else keys.zip vs.toArray) #[] 7 none)
   (Q:=λ _ d=>(V8 d).Perm (keys.zip vs.toArray)/\failedOf d=none/\SortedTo (V8 d) (keys.zip vs.toArray).size)
   (ksk_intKeys hk) ⟨Z9 _,rfl,rfl,rfl⟩ (by rw [k];omega) (by rw [k];exact h64) λ d K u C=>⟨K,u,C⟩) ?_ λ _ _ e=>e)
  rintro ⟨⟨⟩,d⟩ L ⟨rfl,g,hf,p⟩
  try dsimp only
  exact t d g (by rw [g.size_eq];exact p) hf
theorem zcv {A:C2} {E:Value->u0->Prop} {P:PySem.Fin->u0->Prop} {a:Addr} {vs:List Value} {kz:List Int} {f:Value} {n:Nat}
  (I:Inv X pins σ H s) (fa:FpOk X pins H a) (ea:s.heap.get? a=some (A3 "list" vs.toArray n)) (hlen:kz.length=vs.length) (h64:vs.length < 64)
  (turn :∀(i:Nat) (v:Value) (k:Int),vs[i]? = some v->kz[i]? = some k->∀(pins':List (Addr×Obj)) (s1:u0),Inv X (pins++pins') σ H s1->N0 (B1 X.prog X.w) A (call f [v]) (λ u s2=>∃t,u=.int k t/\Inv X (pins++pins') σ H s2) (λ _ _=>False) s1)
  (h :∀s' out c,Inv X pins σ H s'->s'.heap.get? a=some (A3 "list" out c)->KskOut false kz vs out.toList->P (.done (.ret .none)) s') :
  N0 (B1 X.prog X.w) A (ksk_tree a f false) P E s:=by
 have U:a < s.heap.objs.size:=G0 ea;have s1:=y3 s.heap a (R1 λ _=>(#[]:Array Value));obtain ⟨l,F⟩ :∃l,(s.heap.update a (R1 λ _=>(#[]:Array Value))).get? a=some (A3 "list" #[] l):=⟨_,G9 ea λ _=>#[]⟩
 have B:((s.heap.update a (R1 λ _=>(#[]:Array Value))).push (A3 "tuple" vs.toArray 0)).objs.size=s.heap.objs.size + 1:=by rw [size_push',Heap.size_update]
 unfold ksk_tree;refine o0 (listItems_at ea rfl ?_);refine o0 (D8 ea rfl ?_ (by rw [I0,O5];omega) (A2 _));refine o0 (seqEpoch_at F rfl ?_);refine o0 (wpAny_newTuple ?_ (by show vs.length<=_;rw [O5];omega));refine o0 (wpAny_newList ?_ (A2 _));refine D2 ?_;have D:(((s.heap.update a (R1 λ _=>(#[]:Array Value))).push (A3 "tuple" vs.toArray 0)).push (A3 "list" #[] 0)).get? ((s.heap.update a (R1 λ _=>(#[]:Array Value))).push (A3 "tuple" vs.toArray 0)).objs.size=some (A3 "list" #[] 0):=J0 _ rfl;have M:(((s.heap.update a (R1 λ _=>(#[]:Array Value))).push (A3 "tuple" vs.toArray 0)).push (A3 "list" #[] 0)).get? a=some (A3 "list" #[] l):=v0 _ (v0 _ F);have J:Inv X pins σ H { s with heap:=((s.heap.update a (R1 λ _=>(#[]:Array Value))).push (A3 "tuple" vs.toArray 0)).push (A3 "list" #[] 0),toks:=s.toks }:=I.turnedL (fp:=[a]) (λ b o d q=>v0 _ (v0 _ ((s1.2 b λ z=>d (z ▸ .head _)).trans q))) (λ b d=>by rw [List.mem_singleton.mp d];exact fa);have m:FpOk X pins H ((s.heap.update a (R1 λ _=>(#[]:Array Value))).push (A3 "tuple" vs.toArray 0)).objs.size:=I.fpOk (by rw [B];omega) (I.hok.fresh (by rw [B];omega));have p:((s.heap.update a (R1 λ _=>(#[]:Array Value))).push (A3 "tuple" vs.toArray 0)).objs.size≠a:=by rw [B];exact E2 (C1 U)
 generalize ((s.heap.update a (R1 λ _=>(#[]:Array Value))).push (A3 "tuple" vs.toArray 0)).objs.size=kS at D m p⊢;generalize ((s.heap.update a (R1 λ _=>(#[]:Array Value))).push (A3 "tuple" vs.toArray 0)).push (A3 "list" #[] 0)=h3 at D M J⊢;unfold ksk_rest;refine o0 (M7 ?_);first
  | rw [List.forIn_toArray]
  | (rw [<-Array.forIn_toList];simp only [List.toList_toArray])
  | rw [<-Array.forIn_toList]
 refine o0 (ksk_fold (λ i s'=>∃kA e,Inv X pins σ H s'/\s'.heap.get? kS=some (A3 "list" kA e)/\s'.heap.get? a=some (A3 "list" #[] l)/\Z2 kA.toList (kz.take i)) vs 0 _
  ⟨#[],0,J,D,M,by simpa using IntsAre.nil⟩ ?step ?done)
 case step=>
  rintro j x s' K ⟨kA,e,J',ek,ea',hk⟩;simp only [L5] at hk⊢;have hj:j < vs.length:=(List.getElem?_eq_some_iff.mp K).1;obtain ⟨k,L⟩ :∃k,kz[j]? = some k:=⟨_,P0 (by omega)⟩
  have hz:kA.size<=vs.length:=by have R:=hk.length;rw [D1,V3] at R;omega
  have Jp:=J'.pinned (fp:=[kS,a]) (λ b d=>by
   rcases List.mem_cons.mp d with rfl|d
   ·exact m
   ·rw [List.mem_singleton.mp d];exact fa) (λ b d=>by
   rcases List.mem_cons.mp d with rfl|d
   ·exact ⟨_,ek,λ v z=>by cases z⟩
   ·rw [List.mem_singleton.mp d];exact ⟨_,ea',λ v z=>by cases z⟩)
  refine o0 (wpAny_attempt (K3 (turn j x k K L _ s' Jp) (λ v r he=>?_) λ _ _ N=>N.elim));obtain ⟨g,rfl,C⟩:=he
  try dsimp only
  have G:=C.pin (kS,A3 "list" kA e) (M0 _ (M0 _ (z12 (.head _) ek)));have Y:=C.pin (a,A3 "list" #[] l) (M0 _ (M0 _ (z12 (.tail _ (.head _)) ea')));have J3:=C.unpinned;have s1:=y3 r.heap kS (R1 (·.push (.int k g)));obtain ⟨y,Z⟩ :∃y,(r.heap.update kS (R1 (·.push (.int k g)))).get? kS=some (A3 "list" (kA.push (.int k g)) y):=⟨_,G9 G.1 (·.push (.int k g))⟩
  have W:kz.take (j + 1)=kz.take j++[k]:=by rw [List.take_add_one,L];simp
  have a0:(kA.push (v6 k g)).toList=kA.toList++[v6 k g]:=by simp
  refine o0 (D8 G.1 rfl ?_ (by rw [O5];omega) (D0 (B6 (Array.size_push ..)) (by rw [O5];omega)));refine C0 ⟨rfl,kA.push (.int k g),y,J3.turnedL (fp:=[kS]) (t':=r.toks) (λ b o d q=>(s1.2 b λ z=>d (z ▸ .head _)).trans q) (λ b d=>by rw [List.mem_singleton.mp d];exact m),Z,(s1.2 a p.symm).trans Y.1,by rw [a0,W];exact ksk_snoc hk⟩
 case done=>
  rintro s' ⟨kA,e,J',ek,ea',hk⟩;have O:Z2 kA.toList kz:=by have T:kz.take (0 + vs.length)=kz:=f7 (by omega);rw [T] at hk;exact hk
  try dsimp only
  refine o0 (listItems_at ek rfl ?_);exact ze1 J' fa m p ek ea' O hlen h64 λ h' tk out c V S Q=>h _ out c V S Q
theorem za1 {l q:Addr} {ys:List V} {kz:List Int} {Q:Value->u0->Prop} {E:Value->u0->Prop} (I:Inv X pins σ H s) (sq:SqL X.K H l ys) (hlen:kz.length=ys.length) (h64:ys.length < 64)
  (turn :∀(i:Nat) (y:V) (u:Value) (k:Int),ys[i]? = some y->kz[i]? = some k->RelV y u->∀(pins':List (Addr×Obj)) (s1:u0),Inv X (pins++pins') σ H s1->N0 (B1 X.prog X.w) X.A.in1.in1 (call (.ref q) [u]) (λ v s2=>∃t,v=.int k t/\Inv X (pins++pins') σ H s2) (λ _ _=>False) s1)
  (h :∀(D:Addr) (out:List V) (s':u0),H D=none->KeyOut kz ys out->Inv X pins σ (upd H D (.lst out)) s'->Q (.ref D) s') :
  N0 (B1 X.prog X.w) X.A (call (.builtin "sorted") [.ref l] [(p7 "key",.ref q)]) Q E s:=by
 obtain ⟨d,j,N,C⟩:=I.list sq;have B:d.length=ys.length:=j.length.symm;refine call_function_entry_kw kind_sorted plain_sorted entry_sorted (ksk_s1 _ _) ?_;unfold Builtin.«sorted»;obtain ⟨o,R,O,n,hd⟩:=N.isList;refine o0 (m:=checkCount "sorted" 1 1 _) (C0 (o0 (T8 l (.inl rfl) R O hd (λ a L=>?_) (by rw [I0,B];exact C))));have p:(a.push (A3 "list" d.toArray 0)).get? a.objs.size=some (A3 "list" d.toArray 0):=J0 _ rfl;have f:Inv X pins σ H { s with heap:=a }:=I.kept (t':=s.toks) L;have M:Inv X pins σ H { s with heap:=a.push (A3 "list" d.toArray 0) }:=f.kept (t':=s.toks) λ b o e=>v0 _ e;have g:FpOk X pins H a.objs.size:=f.fpOk (y0 _) (f.hok.fresh (y0 _));refine o0 (wpAny_newList (o0 (D2 (wpAny_call_entry_kw slot_list_sort ⟨_,p,rfl⟩ entry_list_sort ?body (ksk_l1 _ _)))) (by show d.length<=_;rw [B];exact C))
 case body=>
  show N0 (B1 X.prog X.w) X.A.in1.in1 (Builtin.«list.sort» ⟨[.ref a.objs.size],[(p7 "key",.ref q)]⟩) _ _ _;rw [ksk_t1];refine zcv (kz:=kz) M g p (by omega) (by omega) (λ i v k r U pins' s1 J=>?_) λ s' out c J e S=>⟨_,rfl,?_⟩
  ·have z:i < ys.length:=by have:=(List.getElem?_eq_some_iff.mp r).1;omega
   obtain ⟨u,x,P⟩:=j.get (P0 z);rw [r] at x;cases x;exact turn i _ v k (P0 z) U P pins' s1 J
  obtain ⟨T,F,G,W⟩:=zej j hlen S;exact C0 ⟨_,rfl,h _ T s' g.1 G (J.track g ⟨by omega,out.toList,c,F,by simpa using e⟩)⟩
end
theorem ze0 {P:Program} {w:Z0} {K:c0} {mg:Str->Option Value} {base:Heap} {k:Nat} {f c':Addr} {name qual:Str} {params:Arguments} {body:Expr} {scope:Scope} {pm ctv:Value} {N ps:List Str} {A:C2} {outer:List Env} {s:u0} {H:Hp} {us:List Value} {vs:List V} {Q:VK} {t:TE}
  (hr:Room (k + 1) A) (e0:Env0 P w K mg base A outer s H) (ho:s.heap.get? f=some (j5 name qual params body scope [] pm c' ctv)) (hcd:s.heap.CodeRec (.ref c') qual) (S:FnScope N ps scope)
  (hb:bindArgs (PySem.W.kla_fn name qual params body scope [] pm (.ref c') ctv) ⟨us,[]⟩=Z3 (ps.zip us)) (hl:vs.length=ps.length) (r:Vals vs us)
  (ht:PE (cxOf CX0 P w K mg base N qual scope f (.ref c') A outer s H E0).nox body t) (hq:t (start N vs) H Q) :
  K6 (B1 P w) A (.call (.ref f) ⟨us,[]⟩) (λ r s'=>∃u,r=.ok (.ret u)/\CE outer P w H s Q u s') s:=by
 have g:s.heap.NoLimit:=e0.mod.nolimit.keeps λ b o e=>(e0.bs b o e).1;have j :∀y∈ps.zip us,scope.names.lookup y.1=some .local\/(scope.names.lookup y.1=some .cell/\((cellsFrom (s.heap.objs.size + 1) scope.names []).lookup y.1).isSome=true):=λ ⟨n,v⟩ hy=>by
  rcases S.par n (d6 hy).1 with q|q
  ·exact .inl q
  ·exact .inr ⟨q,U6 _ _ _ (.inl q)⟩
 refine PySem.W.kla_callFunE hr.depth ho rfl S.co S.gen rfl hcd ?_;rw [hb];refine C0 (P9 S.kind j λ l h c x=>?_);subst h;refine ⟨g.keeps x.toInCall.keep,PySem.W.kla_codeExpr ?_⟩;have I:Inv (cxOf CX0 P w K mg base N qual scope f (.ref c') A outer s H E0) [] (start N vs) H c:=z7o S hr.hd e0 hl r x;refine K3 (ht [] c (start N vs) H _ (I.wish _) hq) (λ u s' a=>?_) λ e s' a=>a.elim;obtain ⟨v,d,J,i,q⟩:=a;exact ⟨u,rfl,v,d,J.os,J.bare,J.base,J.hok,i,q⟩
def CodeK (K:c0) (c T:Addr):Prop:=
 ∃o vs file tf flags tg inF text tt,K.lookup c=some o/\o.cls=.type "code"/\o.data=.fields vs/\vs[11]? = some (.ref T)/\vs.getD 11 .none=.ref T/\vs.getD 18 .none=.str file tf/\
  vs.getD 7 .none=.int flags tg/\vs.getD 9 .none=.bool inF/\vs.getD 10 .none=.int text tt/\c≠T
theorem CodeK.hd {K:c0} {c T:Addr} {h:Heap} (x:CodeK K c T) (k:K.In h):A7 h c T:=
 let ⟨o,vs,file,tf,flags,tg,inF,text,tt,e,r⟩:=x;⟨o,vs,file,tf,flags,tg,inF,text,tt,k _ _ e,r⟩
noncomputable def CodeO (c:Addr) (qual:Str):HO:=.ext λ h=>h.CodeRec (.ref c) qual
def LamT (T:Addr) (pos:Pos) (qual:Str) (H:Hp):Prop:=H T=some (.tbl #[])\/∃c',H T=some (.tbl #[U4 pos.line,U4 pos.col,.ref c'])/\H c'=some (CodeO c' qual)
def SameB (T:Addr) (H H':Hp):Prop:=∀b o,b≠T->H b=some o->H' b=some o
def BtMain (h:Heap) (mg:Str->Option Value):Prop:=∃bm o,mg "__builtins__" = some (.ref bm)/\bm≠G8/\bm≠P2/\h.get? bm=some o/\o.cls=.type "module"/\o.dict=some G8/\o.data=.plain
section
variable {X:Cx} {pins:List (Addr×Obj)} {σ:St} {H:Hp} {s:u0} {T:Addr} {lpos:Pos} {params:Arguments} {body:Expr} {scope:Scope}
theorem zck {P:Program} {w:Z0} {H:Hp} {h:Heap} {c:Addr} {qual:Str} (x:h.CodeRec (.ref c) qual):ObjOk P w H h c (CodeO c qual):=by
 refine ⟨x,?_,λ g i y k=>?_⟩
 ·obtain ⟨f,d,b,t,e,a,_⟩:=x;cases e;exact ⟨_,a⟩
 ·obtain ⟨f,d,b,t,e,a,r⟩:=y;cases e;exact ⟨c,d,b,t,rfl,k _ a,r⟩
theorem zd0 {c:Addr} {Q:Value->u0->Prop} {E:Value->u0->Prop} (I:Inv X pins σ H s) (B:BtMain X.base X.mg) (hcode:X.env.code=.ref c) (C:A7 X.base c T) (hT:LamT T lpos (X.env.qual++"<lambda>") H)
  (hcl:T9 scope X.env=Z3 []) (hdef:defaultsOf params X.env=([],[]))
  (h :∀f c' ctv pm H' s',SameB T H H'->LamT T lpos (X.env.qual++"<lambda>") H'->Inv X pins σ H' s'->FpOk X pins H' f->s'.heap.get? f=some (j5 "<lambda>" (X.env.qual++"<lambda>") params body scope [] pm c' ctv)->H' c'=some (CodeO c' (X.env.qual++"<lambda>"))->Q (.ref f) s') :
  N0 (B1 X.prog X.w) X.A (W3 (.Lambda params body scope lpos) X.env) Q E s:=by
 have L:s.heap.Ns P2 X.mg:=by obtain ⟨o,K,D,e,r⟩:=I.ok.mod.glob;exact ⟨o,K,D,I.bk _ _ e,r⟩
 have x:A7 s.heap c T:=C.keeps I.bk;have p :∀{a:Array Value},H T=some (.tbl a)->s.heap.get? T=some (y7 a):=λ e=>I.hok T _ e;have M :∀{b:Addr} {o:Obj} {a:Array Value},X.base.get? b=some o->H T=some (.tbl a)->b≠T:=λ {b o a} e z q=>by have:=(I.bs b o e).2;rw [q,z] at this;cases this
 have y :∀{a:Array Value},H T=some (.tbl a)->s.heap.BuiltinsAt X.mg T:=λ z=>by obtain ⟨bm,o,S,b2,b3,O,b5⟩:=B;exact ⟨bm,o,S,b2,b3,M O z,I.bk _ _ O,b5⟩
 have Z :∀{a:Array Value},H T=some (.tbl a)->P2≠T:=λ z=>by obtain ⟨o,K,D,e,r⟩:=I.ok.mod.glob;exact M e z
 refine PySem.W.kla_eval hdef ?_;rcases hT with z|⟨c',z,zc⟩
 ·refine PySem.W.kla_makeFunction hcl I.ok.glob L hcode x (p z) trivial rfl (Z z) (y z) λ c' ctv h' l hx j G a1 a0=>?_;have cn:H c'=none:=I.hok.fresh j;have N:T < s.heap.objs.size:=G0 (p z);have cT:c'≠T:=λ q=>C3 _ (X0 (q ▸ N) j);have k :∀b o,b≠T->s.heap.get? b=some o->(h'.push (j5 "<lambda>" (X.env.qual++"<lambda>") params body scope [] ((X.mg "__name__").getD .none) c' ctv)).get? b=some o:=λ b o n e=>v0 _ (hx b o n e);have P:upd (upd H T (.tbl #[U4 lpos.line,U4 lpos.col,.ref c'])) c' (CodeO c' (X.env.qual++"<lambda>")) T=some (.tbl #[U4 lpos.line,U4 lpos.col,.ref c']):=by rw [upd_ne cT.symm];exact z02
  have g :∀b u,b≠T->H b=some u->upd (upd H T (.tbl #[U4 lpos.line,U4 lpos.col,.ref c'])) c' (CodeO c' (X.env.qual++"<lambda>")) b=some u:=λ b u n e=>by rw [upd_ne (z0d e cn),upd_ne n];exact e
  have m :∀{b:Addr},H b=none->b≠T:=λ e q=>by rw [q,z] at e;cases e
  have i :∀{b:Addr} {u:HO},H b=some u->(∀a,u≠.tbl a)->b≠T:=λ e n q=>by rw [q,z] at e;exact n _ (T0 e).symm
  have F:(h'.push (j5 "<lambda>" (X.env.qual++"<lambda>") params body scope [] ((X.mg "__name__").getD .none) c' ctv)).get? T=some { cls:=.none,data:=.fields #[U4 lpos.line,U4 lpos.col,.ref c'] }:=v0 _ a0;have d:s.heap.objs.size<=h'.objs.size:=D0 j (U3 G);have J:=I.un (h':=h'.push (j5 "<lambda>" (X.env.qual++"<lambda>") params body scope [] ((X.mg "__name__").getD .none) c' ctv)) (t':=l) (H':=upd (upd H T (.tbl #[U4 lpos.line,U4 lpos.col,.ref c'])) c' (CodeO c' (X.env.qual++"<lambda>"))) ⟨λ b o e n _ _=>k b o (m n) e,λ b o e n _ _=>⟨o.slots,k b o (m n) e⟩,λ b o e n _=>by
    rw [upd_ne (show b≠c' from L0 (X0 (G0 e) j)),upd_ne (m n)];exact n,λ b o e _=>by
    by_cases q:b=T
    ·exact ⟨_,q ▸ F⟩
    ·exact ⟨_,k b o q e⟩,λ b U e=>g _ _ (i e λ _ q=>by cases q) e,λ b o u e=>g _ _ (i e λ _ q=>by cases q) e,λ b a e=>by
    by_cases q:b=T
    ·subst q;rw [z] at e;cases e;exact ⟨#[U4 lpos.line,U4 lpos.col,.ref c'],by rw [P];simp⟩
    ·exact ⟨#[],by rw [g _ _ q e];simp⟩⟩ λ b u e=>by
    by_cases q1:b=c'
    ·subst q1;rw [z02] at e;cases e;refine zck ?_;obtain ⟨V,oc,R,t,e2,ho,r⟩:=a1;exact ⟨V,oc,R,t,e2,v0 _ ho,r⟩
    ·rw [upd_ne q1] at e;by_cases q2:b=T
     ·subst q2;rw [z02] at e;cases e;exact F
     ·rw [upd_ne q2] at e;exact (I.hok b u e).stay (λ c v Y q=>k c v (Y.elim (λ w=>w ▸ q2) λ w=>i w λ _ q=>by cases q) q) (λ c q=>g _ _ (i q λ _ q=>by cases q) q) λ c U q=>g _ _ (i q λ _ q=>by cases q) q
  refine h h'.objs.size c' ctv _ _ _ (λ b o n e=>g b o n e) (.inr ⟨c',P,z02⟩) J (I.fpOk d ?_) (J0 _ rfl) z02;rw [upd_ne (E2 G),upd_ne (E2 (X0 N d))];exact I.hok.fresh d
 ·refine PySem.W.kla_makeFunctionHit (cv:=.ref c') hcl I.ok.glob L hcode x (p z) trivial (by simp [codeAmong,U4]) (y z) λ ctv h' l hk d=>?_;have J:=I.kept (h':=h'.push (j5 "<lambda>" (X.env.qual++"<lambda>") params body scope [] ((X.mg "__name__").getD .none) c' ctv)) (t':=l) λ b o e=>v0 _ (hk b o e);exact h h'.objs.size c' ctv _ _ _ (λ b o n e=>e) (.inr ⟨c',z,zc⟩) J (I.fpOk d (I.hok.fresh d)) (J0 _ rfl) zc
noncomputable def tSortL (K:c0) (T:Addr) (lpos:Pos) (qual:Str) (N:List Str) (tb:TE) (ta:TA):TE:=λ σ H Q=>ta σ H λ vs H1=>∃(l:Addr) (ys:List V) (kz:List Int),vs=[.ref l]/\SqL K H1 l ys/\kz.length=ys.length/\ys.length < 64/\LamT T lpos qual H1/\
 ∀H2,SameB T H1 H2->LamT T lpos qual H2->(∀(i:Nat) (y:V) (k:Int),ys[i]? = some y->kz[i]? = some k->tb (start N [y]) H2 λ v H3=>v=.int k/\H3=H2)/\∀D out,H2 D=none->KeyOut kz ys out->Q (.ref D) (upd H2 D (.lst out))
theorem SameB.seqL {K:c0} {H H':Hp} {a:Addr} {xs:List V} (s:SameB T H H') (hT :∃ps,H T=some (.tbl ps)) (h:SqL K H a xs):SqL K H' a xs:=by
 obtain ⟨ps,z⟩:=hT;rcases h with e|e
 ·refine .inl ?_;rcases e with e|⟨o,e⟩
  ·exact .inl (s _ _ (λ q=>by rw [q,z] at e;cases e) e)
  ·exact .inr ⟨o,s _ _ (λ q=>by rw [q,z] at e;cases e) e⟩
 ·exact .inr e
theorem LamT.tb {qual:Str} (h:LamT T lpos qual H) :∃ps,H T=some (.tbl ps):=by
 rcases h with z|⟨_,z,_⟩
 ·exact ⟨_,z⟩
 ·exact ⟨_,z⟩
theorem z90 {e:Expr} {ta:TA} {p pos kp:Pos} {c:Addr} {k:Nat} {N:List Str} {px:Str} {tb:TE} (B:BtMain X.base X.mg) (hcode:X.env.code=.ref c) (C:CodeK X.K c T) (hr:Room (k + 3) X.A) (hg:Gl X "sorted") (hm:X.mg "sorted" = none) (ha:PA X [e] ta)
  (S:FnScope N [px] scope)
  (hbind :∀(pm ctv:Value) (c':Addr) (u:Value),bindArgs (PySem.W.kla_fn "<lambda>" (X.env.qual++"<lambda>") params body scope [] pm (.ref c') ctv) ⟨[u],[]⟩=Z3 [(px,u)])
  (hbody :∀(f c':Addr) (s:u0) (H:Hp),PE (cxOf CX0 X.prog X.w X.K X.mg X.base N (X.env.qual++"<lambda>") scope f (.ref c') X.A.in1.in1 X.stack s H E0).nox body tb)
  (hcl:T9 scope X.env=Z3 []:=by rfl) (hdef:defaultsOf params X.env=([],[]):=by rfl)
  (he:q5 pos (U1 [e] X.env)=(false,W3 e X.env) :: q5 pos (U1 [] X.env):=by rfl) (hpl:(q5 pos (U1 [e] X.env)).any (·.1)=false:=by rfl) :
  PE X (.Call (.Name "sorted" p) [e] [⟨some "key",.Lambda params body scope lpos,kp⟩] pos) (tSortL X.K T lpos (X.env.qual++"<lambda>") N tb ta):=by
 intro a0 s σ H Q I h;refine P3 (ld_blt I hg hm boot_sorted (callWith_kw (thn (ha pos a0 s σ H _ I h) λ us s1 ⟨vs,H1,I1,r,q⟩=>?_) he hpl));obtain ⟨l,ys,kz,rfl,sq,V,o,m,q⟩:=q;obtain ⟨u,rfl,rx⟩:=vals1 r;cases rx;refine kws_cons (zd0 I1 B hcode (C.hd I1.ok.mod.kin) m hcl hdef λ f c' ctv pm n s2 sb a1 M Y j R=>kws_nil ?_);obtain ⟨qb,qd⟩:=q n sb a1;have Z:=sb.seqL m.tb sq;have L:=M.pinned (fp:=[f]) (λ b d=>by rw [List.mem_singleton.mp d];exact Y) (λ b d=>by rw [List.mem_singleton.mp d];exact ⟨_,j,λ v z=>by cases z⟩);refine za1 L Z V o (λ i y u k G hk U a3 g J=>?_) λ D a2 F E ko J=>⟨.ref D,_,J.unpinned,rfl,qd D a2 E ko⟩
 have pf:=J.pin (f,_) (M0 _ (Z5 _ (M0 _ (z12 (.head _) j))));have x:g.heap.CodeRec (.ref c') (X.env.qual++"<lambda>"):=(J.hok c' _ R).1;refine wpAny_call (J6 (ze0 hr.in1.in1 J.env0.in1.in1 pf.1 x S (by exact hbind pm ctv c' u) rfl (.cons U .nil) (hbody f c' g n) (qb i y k G hk)) λ r F a=>?_);obtain ⟨u',rfl,a⟩:=a;obtain ⟨v,H',O,P,rfl,rfl⟩:=J.after a;obtain ⟨t,rfl⟩:=P;exact ⟨t,rfl,O⟩
end
theorem zaj {P:Program} {w:Z0} {K:c0} {mg mb:Str->Option Value} {CX:CXT} {k:Nat} {fa a:Addr} {fd:FuncData} {x:Str} {sp:Sp} {s₁:u0} {vs:List Value} {ns:List Int} {T c:Addr}
  (KX:K.In s₁.heap) (hns:s₁.heap.Ns P2 mg) (hb:s₁.heap.Ns G8 mb) (hbb :∀x:Str,x≠"__name__"->mb x=P4 x) (hlim:s₁.heap.NoLimit) (hg:s₁.gens = #[])
  (ha:s₁.heap.get? a=some { cls:=.type "list",data:=.seq vs.toArray }) (hi:Z2 vs ns) (hl:ns.length<=sizeLine) (hr:Room k U8) (hT:s₁.heap.get? T=some (y7 #[])) (hKT:K.lookup T=none) (C:A7 s₁.heap c T) (hbm:BtMain s₁.heap mg)
  (F :∀base:Heap,K.In base->base.Ns P2 mg->BtMain base mg->FnOk P w K mg base CX k fa fd [x] sp) (hbind :∀(s:u0) (u:Value),BindsTo s fd ⟨[u],[]⟩ [(x,u)])
  (hsp :∀H:Hp,H T=some (.tbl #[])->SqL K H a (ns.map V.int)->sp [.ref a] H (λ v _=>v=.bl true) λ _ _ _=>False)
  (hCX :∀H e s',CX [] H s₁ (λ _ _ _=>False) e s'->False) :
  K6 (B1 P w) U8 (.call (.ref fa) ⟨[.ref a],[]⟩) (λ r s'=>r=.ok (.ret (.bool true))/\OldK s₁.heap s'.heap/\s'.os=s₁.os/\j7 s'.gens) s₁:=by
 have D:=z52 hi;have Q:=hi.length;have N:a≠T:=λ q=>by rw [q,hT] at ha;cases ha
 have A :∀H:Hp,H T=some (.tbl #[])->SqL K H a (ns.map V.int)->HOk P w H s₁.heap->(∀b u,H b=some u->(b=a/\K.lookup a=none/\∃o g,u=.frz o (.lst g))\/(b=T/\u=.tbl #[]))->
   K6 (B1 P w) U8 (.call (.ref fa) ⟨[.ref a],[]⟩) (λ r s'=>r=.ok (.ret (.bool true))/\OldK s₁.heap s'.heap/\s'.os=s₁.os/\j7 s'.gens) s₁:=by
  intro H Y R M l;have j :∀{b:Addr} {o:Obj},s₁.heap.get? b=some o->H b=none->(hidT s₁.heap H).get? b=some o:=λ e n=>zcm e n;have G :∀{b:Addr} {o:Obj},s₁.heap.get? b=some o->(∀g n,o.data≠.seq g n)->(∀vs,o.data≠.fields vs)->H b=none:=λ {b o} e d1 d2=>by
   cases q:H b with
   | none=>rfl
   | some u=>
    rcases l b u q with ⟨z,_⟩|⟨z,_⟩
    ·subst z;rw [ha] at e;cases e;exact absurd rfl (d1 _ _)
    ·subst z;rw [hT] at e;cases e;exact absurd rfl (d2 _)
  have i :∀{b:Addr} {m:Str->Option Value},s₁.heap.Ns b m->(hidT s₁.heap H).Ns b m:=λ {b m} ⟨o,es,ep,e,d,r⟩=>⟨o,es,ep,j e (G e (λ _ _ z=>by rw [d] at z;cases z) λ _ z=>by rw [d] at z;cases z),d,r⟩
  have E:K.In (hidT s₁.heap H):=λ b o e=>j (KX b o e) (by
   cases q:H b with
   | none=>rfl
   | some u=>
    rcases l b u q with ⟨z,hK,_⟩|⟨z,_⟩
    ·rw [z,hK] at e;cases e
    ·rw [z,hKT] at e;cases e)
  have X:BtMain (hidT s₁.heap H) mg:=by obtain ⟨bm,o,S,b2,b3,I,b5,b6,t⟩:=hbm;exact ⟨bm,o,S,b2,b3,j I (G I (λ _ _ z=>by rw [t] at z;cases z) λ _ z=>by rw [t] at z;cases z),b5,b6,t⟩
  have U:Mod K mg (hidT s₁.heap H):=⟨E,i hns,⟨mb,i hb,hbb⟩,let ⟨mc,h1,h2⟩:=hlim;⟨mc,i h1,h2⟩⟩
  have O:Env0 P w K mg (hidT s₁.heap H) U8 [] s₁ H:=⟨rfl,U,λ b o e=>zeh e,B6 (zay _ _),trivial,λ b hb=>absurd (show b∈([]:List Addr) from hb) (by simp),M,.of_eq hg⟩
  refine J6 ((F _ E (i hns) X).run U8 [] s₁ H ⟨[.ref a],[]⟩ [.ref a] [.ref a] _ _ hr O (hbind s₁ (.ref a)) (.cons rfl .nil) (hsp H Y R)) λ r s' h=>?_;cases r with
  | error e=>exact (hCX H e s' h).elim
  | ok fl=>
   cases fl with
   | next=>exact T4 h
   | brk=>exact T4 h
   | cont=>exact T4 h
   | ret u=>
    obtain ⟨v,H',os,W,un,J,r',q⟩:=h;have Z:v=.bl true:=q;subst Z;obtain rfl:u=W8 true:=r';refine ⟨rfl,⟨λ b o e=>?_,λ b o e=>un.there b o e (by simp)⟩,os,W⟩;cases q:H b with
    | none=>exact .inl (un.keep b o e q (by intro z;exact absurd (show b∈([]:List Addr) from z) (by simp)) (by simp))
    | some u=>
     rcases l b u q with ⟨_,_,ob,g,rfl⟩|⟨rfl,rfl⟩
     ·have p:=un.frzs b ob _ q;obtain ⟨L,_⟩:=M b _ q;obtain ⟨y,_⟩:=J b _ p;rw [e] at L;cases L;exact .inl y
     ·obtain ⟨B,p⟩:=un.tbls b _ q;have y:s'.heap.get? b=some { cls:=.none,data:=.fields (#[]++B) }:=J b _ p;rw [hT] at e;cases e;exact .inr (.inl ⟨(C.tab hT).isCodeTable,rfl,#[],B,rfl,y⟩)
 cases hk:K.lookup a with
 | some o=>
  have e:=KX a o hk;rw [ha] at e;cases e;refine A (λ b=>if b=T then some (.tbl #[]) else none) (if_pos rfl) (.inr ⟨_,vs.toArray,_,hk,rfl,rfl,rfl,by rw [I0,Q];exact hl,by simpa using D⟩) (λ b u z=>?_) (λ b u z=>?_)
  ·by_cases hb:b=T
   ·have f:=(if_pos hb).symm.trans z;cases f;subst hb;exact hT
   ·have f:=(if_neg hb).symm.trans z;cases f
  ·by_cases hb:b=T
   ·have f:=(if_pos hb).symm.trans z;cases f;exact .inr ⟨hb,rfl⟩
   ·have f:=(if_neg hb).symm.trans z;cases f
 | none=>
  refine A (λ b=>if b=T then some (.tbl #[]) else if b=a then some (.frz { cls:=.type "list",data:=.seq vs.toArray } (.lst (ns.map V.int))) else none) (if_pos rfl) (.inl (.inr ⟨{ cls:=.type "list",data:=.seq vs.toArray },(if_neg N).trans (if_pos rfl)⟩)) (λ b u z=>?_) (λ b u z=>?_)
  ·by_cases hb:b=T
   ·have f:=(if_pos hb).symm.trans z;cases f;subst hb;exact hT
   ·by_cases hc:b=a
    ·have f:=((if_neg hb).trans (if_pos hc)).symm.trans z;cases f;subst hc;exact ⟨ha,by rw [A0];exact hl,vs,_,D,ha⟩
    ·have f:=((if_neg hb).trans (if_neg hc)).symm.trans z;cases f
  ·by_cases hb:b=T
   ·have f:=(if_pos hb).symm.trans z;cases f;exact .inr ⟨hb,rfl⟩
   ·by_cases hc:b=a
    ·have f:=((if_neg hb).trans (if_pos hc)).symm.trans z;cases f;exact .inl ⟨hc,hk,_,_,rfl⟩
    ·have f:=((if_neg hb).trans (if_neg hc)).symm.trans z;cases f
theorem walk_ofT {l:PySem.W.OpenLaw} {n k:Nat} {q:Program} {loose:List Str} {XP:(Str->Option Value)->Heap->Prop} {YP:Z0->Heap->Prop} {d:DefRec} {K:J1->c0} {CX:Z0->CXT} {sp:Z0->Sp} {x:Str} {T c:Addr}
  (hn:l.most=some n) (hn2:n<=sizeLine) (hdf:d.params.defaults=[]) (hr:Room k U8)
  (hY :∀(w:Z0) (h:Heap),YP w h->(K w.params).In h/\h.get? T=some (y7 #[])) (hKT :∀P,(K P).lookup T=none) (hC :∀P,CodeK (K P) c T)
  (F :∀(w:Z0) (mg:Str->Option Value) (fa:Addr) (h:Heap),(K w.params).In h->h.Ns P2 mg->mg d.name=some (.ref fa)->
   ∃fd:FuncData,(∀(s:u0) (u:Value),BindsTo s fd ⟨[u],[]⟩ [(x,u)])/\
    ∀base:Heap,(K w.params).In base->base.Ns P2 mg->BtMain base mg->FnOk l.prog w (K w.params) mg base (CX w) k fa fd [x] (sp w))
  (hsp :∀(w:Z0) (H:Hp) (a:Addr) (ns:List Int),ns.length<=n->H T=some (.tbl #[])->SqL (K w.params) H a (ns.map V.int)->sp w [.ref a] H (λ v _=>v=.bl true) λ _ _ _=>False)
  (hCX :∀(w:Z0) (H:Hp) (s:u0) (e:Value) (s':u0),CX w [] H s (λ _ _ _=>False) e s'->False) :
  PySem.W.WalkO q loose XP YP l.row.toRowW d [] (λ f vs=>PySem.call f vs):=by
 refine Att.attach_call hn hdf λ w S p mg X fa o pm cd a0 a vs ns G Y ho hd R N y A r E=>?_;obtain ⟨KX,I⟩:=hY w _ Y;obtain ⟨fd,Q,t⟩:=F w mg fa _ KX G.T.g N;have i:BtMain p.heap mg:=by obtain ⟨i,J,C,L,j,M,O,m⟩:=G.T.bmain;refine ⟨i,J,C,L,λ z=>?_,j,M,O,m⟩;obtain ⟨o,Z,U,e,hd,_⟩:=G.T.g;rw [z,e] at j;cases j;rw [hd] at m;cases m
 exact zaj KX G.T.g G.T.b G.T.builtins G.T.nolimit E y A (D0 r hn2) hr I (hKT _) ((hC _).hd KX) i t Q (λ H D B=>hsp w H a ns r D B) λ H e s'=>hCX w H p e s'
theorem Fun.okC {P:Program} {w:Z0} {K:c0} {mg:Str->Option Value} {base:Heap} {x qual:Str} {st:Stmt} {f c:Addr} {fd:FuncData} {N ps:List Str} {k:Nat} {sp:Sp} (F:Fun K x qual st f fd) (hc:fd.code=.ref c) (S:FnScope N ps (z08 st)) (len :∀vs H Q E,sp vs H Q E->vs.length=ps.length)
  (hbody :∀(A:C2) (outer:List Env) (s:u0) (H:Hp) (vs:List V) (Q:VK) (E:XK),Room k (A.deeper (c8 qual (z08 st) s.heap.objs.size f (.ref c)))->sp vs H Q E->
   ∃t,PSs (cxOf CX0 P w K mg base N qual (z08 st) f (.ref c) A outer s H E).nox (z3q st) t/\t { nx:=λ _ H'=>Q .non H',rt:=Q } (start N vs) H):FnOk P w K mg base CX0 (k + 1) f fd ps sp:=by
 obtain ⟨o,p,kV,l,j,i,d,n,m,rfl,e,a⟩:=F.ex;obtain rfl:d=.ref c:=hc;refine fn_of e a S len λ A outer s H vs Q E b g=>?_;obtain ⟨t,h,q⟩:=hbody A outer s H vs Q E b g;exact ⟨t,h.nox,q⟩
end L2
set_option maxHeartbeats 4000000
namespace L2
open PySem PySem.Spec PyProof.Rows
end L2
set_option maxHeartbeats 1000000
namespace L2
open PySem PySem.Spec PyProof.Rows
section
variable {X:Cx}
theorem z3o :∀{ns:List Int} {ys:List Value},CarriedAll ys (ns.map PyData.int)->Vals (ns.map V.int) ys
 | [],_,h=>by cases h;exact .nil
 | n :: ns,_,h=>by
  cases h with
  | cons a r=>cases a;exact .cons ⟨_,rfl⟩ (z3o r)
noncomputable def rngV (n:Nat):List V:=((U0 n).map λ i=>((i:Nat):Int)).map V.int
noncomputable def tLRng (te:TE):TE:=λ σ H Q=>te σ H λ x H1=>∃n:Nat,x=.int (n:Nat)/\n<=1000/\∀p,H1 p=none->Q (.ref p) (upd H1 p (.lst (rngV n)))
theorem z8v {e:Expr} {te:TE} {p1 p2 c1 c2:Pos} (hcalm:X.calm=true) (g1:Gl X "list") (m1:X.mg "list" = none) (g2:Gl X "range") (m2:X.mg "range" = none) (b1:P4 "list" = some (.type "list")) (ha:PE X e te)
  (he:U1 [e] X.env=[(false,W3 e X.env)]:=by rfl):PE X (.Call (.Name "list" p1) [.Call (.Name "range" p2) [e] [] c2] [] c1) (tLRng te):=by
 intro k s σ H Q I h;have y:X.A.handled=none:=I.ok.hd hcalm;refine P3 (ld_blt I g1 m1 b1 ?_ (by decide) (by decide));refine F2 ?_ rfl rfl;refine (show N0 _ _ (M9 ((false,W3 (.Call (.Name "range" p2) [e] [] c2) X.env) :: [])) _ _ s from X3 ?_);refine P3 (ld_blt I g2 m2 boot_range ?_ (by decide) (by decide));refine F2 ?_ he rfl;rw [he];refine (show N0 _ _ (M9 ((false,W3 e X.env) :: [])) _ _ s from X3 (thn (ha k s σ H _ I h) λ u a ⟨x,H1,I1,r1,n,ex,hn,q⟩=>?_));subst ex;obtain ⟨t,rfl⟩:=r1;refine d4 ?_;refine call_range_1 (d4 ?_);have d:Inv X k σ H1 { a with heap:=a.heap.push { cls:=.type "range",data:=.fields #[.int 0 a.toks,.int (n:Nat) t,.int 1 (a.toks + 1)] },toks:=a.toks + 1 + 1 }:=I1.kept λ b o e=>v0 _ e;obtain ⟨m,z,_⟩:=d.loc;have sz:y8 0 ((n:Nat):Int) 1=((n:Nat):Int):=by rw [rangeSize_one];split<;>omega
 refine list_rangeD (h₀:={ objs:=#[] }) (L:=X.env.locals) (m:=m) (news:=[]) y ⟨z,λ b o e=>by simp [Heap.get?] at e,A2 _⟩ (λ p h=>absurd h B0) (IsRange.new ..) (small_one (by omega) (by omega) (by omega) (by omega)) sz (D0 hn (by decide)) λ E l j _ _ B _ C v w=>?_;obtain ⟨c,r⟩:=v.1;have f:Vals (rngV n) j:=by
  have:=z3o w;unfold rangeInts at this;unfold rngV
  rwa [S3 (g:=λ i=>((i:Nat):Int)) (λ i _=>by omega)] at this
 have D:=f.length;refine ⟨.ref _,_,d.laid (t':=l) (o:=.lst (rngV n)) B (y0 _) ⟨?_,j,c,f,r⟩,rfl,q _ (d.hok.fresh (y0 _))⟩;unfold rngV;rw [A0,A0,X2];exact D0 hn (by decide)
end
end L2
set_option maxHeartbeats 0
namespace K25
open PySem PySem.W PyProof.Rows TJ L2
noncomputable abbrev PX:Program:=PySem.Challenge.pw_talejudge_k25_whole_runs_of_registers
noncomputable abbrev annX:Option Value:=some (.ref 6)
noncomputable abbrev cdX:Code:=.body (behindTheImports PX) K25.pre.env_1
noncomputable abbrev qX:Pos:=⟨0,0,0,0⟩
noncomputable abbrev BX:List Frame:=[topFrame qX]
noncomputable def sufX:List Stmt:=(behindTheImports PX).drop 3
theorem bodyX:behindTheImports PX=K25.pre.sts_7++(K25.pre.sts_26++sufX):=by kernel_rfl
noncomputable abbrev p3X:Pos:=⟨4,0,5,8⟩
noncomputable abbrev S2X (w:Z0) (os:W4):SharedT:=⟨K25.pre.tree_42 w.params,40,{},⟨[]⟩,{},223,os⟩
noncomputable abbrev pLX:Pos:=⟨223,0,240,109⟩
noncomputable def R3X (w:Z0) (os:W4):Option (Flow×SharedT×Code×Pos):=PySem.W.Fast.tw10110043849684766642 PySem.W.Fast.tw14364793385576792824 PX w 11 annX 1 1013 (S2X w os) ⟨(PySem.W.Fast.tw12563942051412417395 sufX K25.pre.env_1).wrap doneF deadEnd id id,cdX,p3X,BX⟩
noncomputable def S3X (w:Z0) (os:W4):SharedT:=match R3X w os with|some r=>r.2.1|none=>S2X w os
theorem R3X_eq (w:Z0) (os:W4):R3X w os=some (.next,S3X w os,cdX,pLX):=by kernel_rfl
theorem ze3 (w:Z0) (os:W4):segRun N5 PX w 11 annX 1 1013 (S2X w os).abs (piecesOf sufX K25.pre.env_1 cdX p3X BX)=some (.next,(S3X w os).abs,cdX,pLX):=by have e:=R3X_eq w os;unfold R3X at e;rw [<-PySem.W.Fast.te10110043849684766642,<-Y6,<-PySem.W.Fast.te12563942051412417395] at e;exact segRun_of e
noncomputable def S0X (w:Z0) (os:W4):SharedT:=⟨K25.pre.tree_6 w.params,15,{},⟨[]⟩,{},187,os⟩
theorem pre_go (w:Z0) (os:W4):topGo N5 PX w 11 annX 12 ⟨boot_heap w.params,Array.mk [],boot_drawn,boot_toks,os⟩ (topStub PX)=some ((S0X w os).abs,⟨denote N5 cdX,cdX,qX,BX⟩):=by rw [PySem.W.Fast.te15667345088766844465,Y6,PySem.W.Fast.te11892475500146522536];kernel_rfl
theorem zcr (w:Z0) (os:W4) :∃M,M<=200000/\topRun N5 PX w 11 annX M ⟨boot_heap w.params,Array.mk [],boot_drawn,boot_toks,os⟩ (topStub PX)=some (S3X w os).abs:=by have c:topRun N5 PX w 11 annX 2 (S3X w os).abs (restOf [] K25.pre.env_1 cdX pLX BX)=some (S3X w os).abs:=rfl;have b:=piece_app (ze3 w os) c;rw [E3] at b;have a:=K25.pre.chain PX (behindTheImports PX) w os _ _ _ b;rw [<-bodyX] at a;have e:segRun N5 PX w 11 annX 1 1 (S0X w os).abs (blockOf (behindTheImports PX) K25.pre.env_1 cdX qX BX)=some (.next,(S0X w os).abs,cdX,qX):=rfl;have d:=piece_block e a;have f:=go_top (pre_go w os) d;refine ⟨_,?_,f⟩;simp only [Nat.add_eq];omega
noncomputable def looseX:List Str:=[("TaleError" : Str),("NotPlain" : Str),("is_whole" : Str),("deeds" : Str),("FIRST_WRITE" : Str),("plain_deeds" : Str),("are_plain" : Str),("is_answered" : Str),("writers" : Str),("ended_reads" : Str),("zones" : Str),("zone_of" : Str),("collision" : Str),("first_pair" : Str),("of_kind" : Str),("collide" : Str),("lone_writer_deeds" : Str),("is_regular" : Str),("is_safe" : Str),("writes_beside" : Str),("last_ahead" : Str),("turn_about" : Str),("_law_cell_at" : Str),("_law_stream" : Str),("_law_take" : Str),("_law_worth" : Str),("_law_name" : Str),("_law_fresh" : Str),("_law_deeds" : Str),("_law_last" : Str),("_law_beside" : Str),("_law_run" : Str),("_law_bent" : Str)]
noncomputable def viewX:Program:={ PX with main:={ PX.main with body:=(PX.main.body[39]?).toList } }
noncomputable def top (i:Nat):Stmt:=PX.main.body.getD i (.Pass ⟨0,0,0,0⟩)
noncomputable def asX:List Addr:=[3,11,13,15,17,18,20,22,23,24,28,30,31,33,35,36,37,40,42,43,45,46,47,49,50,52,53,54,55,58,59,60,63,64,65,67,68,70,71,72,74,75,77,78,79,82,83,84,87,88,89,92,93,94,96,97,99,100,101,103,104,106,107,108,111,112,113,115,116,118,119,120,123,124,125,127,128,130,131,132,134,135,137,138,139,142,143,144,147,148,149,152,153,154,156,157,159,160,161,163,164,166,167,168,170,171,173,174,175,177,178,180,181,182,184,185,187,188,189,191,192,194,195,196,198,199,201,202,203,205,206,208,209,210,212,213,215,216,217,219,220,222,223,224,227,228,229,232,233]
noncomputable def KX (P:J1):Frag:=[
 (3,⟨(.type "dict"),none,(.dict #[⟨(O1 P "__name__"),(.str "__name__" 165),(.str "law_talejudge_k25_whole_runs_of_registers" 383)⟩,⟨(O1 P "__doc__"),(.str "__doc__" 166),.none⟩,⟨(O1 P "__package__"),(.str "__package__" 167),.none⟩,⟨(O1 P "__loader__"),(.str "__loader__" 168),(.builtin "__main__.__loader__#opaque")⟩,⟨(O1 P "__spec__"),(.str "__spec__" 169),.none⟩,kR P "__annotations__" 170 6,kR P "__builtins__" 171 4,⟨(O1 P "__file__"),(.str "__file__" 173),(.str "/claim/cut.py" 172)⟩,⟨(O1 P "__cached__"),(.str "__cached__" 174),.none⟩,kR P "TaleError" 206 24,kR P "NotPlain" 222 37,kR P "is_whole" 231 46,kR P "deeds" 246 53,kR P "FIRST_WRITE" 253 54,kR P "plain_deeds" 259 59,kR P "are_plain" 265 64,kR P "is_answered" 272 71,kR P "writers" 281 78,kR P "ended_reads" 287 83,kR P "zones" 293 88,kR P "zone_of" 299 93,kR P "collision" 310 100,kR P "first_pair" 320 107,kR P "of_kind" 326 112,kR P "collide" 334 119,kR P "lone_writer_deeds" 342 124,kR P "is_regular" 353 131,kR P "is_safe" 364 138,kR P "writes_beside" 370 143,kR P "last_ahead" 376 148,kR P "turn_about" 382 153,kR P "_law_cell_at" 392 160,kR P "_law_stream" 401 167,kR P "_law_take" 410 174,kR P "_law_worth" 418 181,kR P "_law_name" 428 188,kR P "_law_fresh" 437 195,kR P "_law_deeds" 449 202,kR P "_law_last" 461 209,kR P "_law_beside" 474 216,kR P "_law_run" 493 223,kR P "_law_bent" 499 228,kR P "law" 505 233] 43),#[]⟩),
 (11,⟨(.type "tuple"),none,(.seq #[] 0),#[]⟩),
 (13,⟨(.type "code"),none,(.fields #[(.str "<module>" 182),(.str "<module>" 183),(.str "/claim/cut.py" 184),(.int (1) 0),(.int (0) 0),(.int (0) 0),(.int (0) 0),(.int (0) 0),(.ref 11),(.bool false),(.int (181) 0),(.ref 12),.none,.none,.none,.none,(.int (185) 0),(.int (1) 0),(.str "/claim/cut.py" 186)]),#[]⟩),
 (15,⟨(.type "tuple"),none,(.seq #[(.type "ValueError")] 0),#[]⟩),
 (17,⟨(.type "dict"),none,(.dict #[⟨(O1 P "__module__"),(.str "__module__" 196),(.str "talejudge.errors" 187)⟩,⟨(O1 P "__qualname__"),(.str "__qualname__" 198),(.str "TaleError" 197)⟩,⟨(O1 P "__firstlineno__"),(.str "__firstlineno__" 200),(.int (2) 199)⟩,kR P "__static_attributes__" 201 22] 4),#[]⟩),
 (18,⟨(.type "tuple"),none,(.seq #[] 0),#[]⟩),
 (20,⟨(.type "code"),none,(.fields #[(.str "TaleError" 191),(.str "TaleError" 192),(.str "/claim/cut.py" 193),(.int (2) 0),(.int (0) 0),(.int (0) 0),(.int (0) 0),(.int (0) 0),(.ref 18),(.bool false),(.int (181) 0),(.ref 19),.none,.none,.none,.none,(.int (194) 0),(.int (2) 0),(.str "/claim/cut.py" 195)]),#[]⟩),
 (22,⟨(.type "tuple"),none,(.seq #[] 0),#[]⟩),
 (23,⟨(.type "dict"),none,(.dict #[⟨(O1 P "__module__"),(.str "__module__" 196),(.str "talejudge.errors" 187)⟩,⟨(O1 P "__firstlineno__"),(.str "__firstlineno__" 200),(.int (2) 199)⟩,kR P "__static_attributes__" 201 22,kR P "__weakref__" 203 25,⟨(O1 P "__doc__"),(.str "__doc__" 204),.none⟩] 3),#[]⟩),
 (24,⟨(.type "type"),none,(.cls ⟨"TaleError",[(.type "ValueError")],[(.ref 24),(.type "ValueError"),(.type "Exception"),(.type "BaseException"),(.type "object")],23,"TaleError",true,[],[(.ref 37)],false,none,false⟩),#[some (.ref 15),none,some (.str "TaleError" 189),some (.str "TaleError" 197),some (.builtin "ValueError.__new__"),some (.bool true)]⟩),
 (28,⟨(.type "tuple"),none,(.seq #[(.ref 24)] 0),#[]⟩),
 (30,⟨(.type "dict"),none,(.dict #[⟨(O1 P "__module__"),(.str "__module__" 214),(.str "talejudge.errors" 187)⟩,⟨(O1 P "__qualname__"),(.str "__qualname__" 216),(.str "NotPlain" 215)⟩,⟨(O1 P "__firstlineno__"),(.str "__firstlineno__" 218),(.int (4) 217)⟩,kR P "__static_attributes__" 219 35] 4),#[]⟩),
 (31,⟨(.type "tuple"),none,(.seq #[] 0),#[]⟩),
 (33,⟨(.type "code"),none,(.fields #[(.str "NotPlain" 209),(.str "NotPlain" 210),(.str "/claim/cut.py" 211),(.int (4) 0),(.int (0) 0),(.int (0) 0),(.int (0) 0),(.int (0) 0),(.ref 31),(.bool false),(.int (181) 0),(.ref 32),.none,.none,.none,.none,(.int (212) 0),(.int (4) 0),(.str "/claim/cut.py" 213)]),#[]⟩),
 (35,⟨(.type "tuple"),none,(.seq #[] 0),#[]⟩),
 (36,⟨(.type "dict"),none,(.dict #[⟨(O1 P "__module__"),(.str "__module__" 214),(.str "talejudge.errors" 187)⟩,⟨(O1 P "__firstlineno__"),(.str "__firstlineno__" 218),(.int (4) 217)⟩,kR P "__static_attributes__" 219 35,⟨(O1 P "__doc__"),(.str "__doc__" 220),.none⟩] 2),#[]⟩),
 (37,⟨(.type "type"),none,(.cls ⟨"NotPlain",[(.ref 24)],[(.ref 37),(.ref 24),(.type "ValueError"),(.type "Exception"),(.type "BaseException"),(.type "object")],36,"NotPlain",true,[],[],false,none,false⟩),#[some (.ref 28),none,some (.str "NotPlain" 207),some (.str "NotPlain" 215),some (.builtin "ValueError.__new__"),some (.bool true)]⟩),
 (40,⟨(.type "tuple"),none,(.seq #[] 0),#[]⟩),
 (42,⟨(.type "tuple"),none,(.seq #[(.str "value" 228)] 0),#[]⟩),
 (43,⟨(.type "tuple"),none,(.seq #[] 0),#[]⟩),
 (45,cO "is_whole" "is_whole" 225 7 1 40 229),
 (46,fO "is_whole" "is_whole" (top 4) "talejudge.basics" 223 45),
 (47,⟨(.type "tuple"),none,(.seq #[] 0),#[]⟩),
 (49,⟨(.type "tuple"),none,(.seq #[(.str "tale" 237),(.str "told" 238),(.str "numbers" 239),(.str "place" 240),(.str "event" 241),(.str "number" 242),(.str "begun" 243)] 0),#[]⟩),
 (50,⟨(.type "tuple"),none,(.seq #[] 0),#[]⟩),
 (52,cO "deeds" "deeds" 234 10 1 47 244),
 (53,fO "deeds" "deeds" (top 6) "talejudge.tales" 232 52),
 (54,⟨(.type "tuple"),none,(.seq #[(.int (-2) 250),(.int (-1) 252)] 0),#[]⟩),
 (55,⟨(.type "tuple"),none,(.seq #[] 0),#[]⟩),
 (58,cP "plain_deeds" "plain_deeds" 254 24 1 55 257),
 (59,fO "plain_deeds" "plain_deeds" (top 9) "talejudge.zones" 247 58),
 (60,⟨(.type "tuple"),none,(.seq #[] 0),#[]⟩),
 (63,cP "are_plain" "are_plain" 260 29 1 60 263),
 (64,fO "are_plain" "are_plain" (top 10) "talejudge.zones" 247 63),
 (65,⟨(.type "tuple"),none,(.seq #[] 0),#[]⟩),
 (67,⟨(.type "tuple"),none,(.seq #[(.str "deed" 269)] 0),#[]⟩),
 (68,⟨(.type "tuple"),none,(.seq #[] 0),#[]⟩),
 (70,cO "is_answered" "is_answered" 266 34 1 65 270),
 (71,fO "is_answered" "is_answered" (top 11) "talejudge.zones" 247 70),
 (72,⟨(.type "tuple"),none,(.seq #[] 0),#[]⟩),
 (74,⟨(.type "tuple"),none,(.seq #[(.str "told" 276),(.str "found" 277),(.str "deed" 278)] 0),#[]⟩),
 (75,⟨(.type "tuple"),none,(.seq #[] 0),#[]⟩),
 (77,cO "writers" "writers" 273 38 1 72 279),
 (78,fO "writers" "writers" (top 12) "talejudge.zones" 247 77),
 (79,⟨(.type "tuple"),none,(.seq #[] 0),#[]⟩),
 (82,cP "ended_reads" "ended_reads" 282 44 1 79 285),
 (83,fO "ended_reads" "ended_reads" (top 13) "talejudge.zones" 247 82),
 (84,⟨(.type "tuple"),none,(.seq #[] 0),#[]⟩),
 (87,cP "zones" "zones" 288 46 1 84 291),
 (88,fO "zones" "zones" (top 14) "talejudge.zones" 247 87),
 (89,⟨(.type "tuple"),none,(.seq #[] 0),#[]⟩),
 (92,cP "zone_of" "zone_of" 294 54 2 89 297),
 (93,fO "zone_of" "zone_of" (top 15) "talejudge.zones" 247 92),
 (94,⟨(.type "tuple"),none,(.seq #[] 0),#[]⟩),
 (96,⟨(.type "tuple"),none,(.seq #[(.str "tale" 303),(.str "told" 304),(.str "written" 305),(.str "number" 306),(.str "read" 307)] 0),#[]⟩),
 (97,⟨(.type "tuple"),none,(.seq #[] 0),#[]⟩),
 (99,cO "collision" "collision" 300 60 1 94 308),
 (100,fO "collision" "collision" (top 16) "talejudge.zones" 247 99),
 (101,⟨(.type "tuple"),none,(.seq #[] 0),#[]⟩),
 (103,⟨(.type "tuple"),none,(.seq #[(.str "found" 314),(.str "kind" 315),(.str "zone" 316),(.str "other" 317)] 0),#[]⟩),
 (104,⟨(.type "tuple"),none,(.seq #[] 0),#[]⟩),
 (106,cO "first_pair" "first_pair" 311 67 1 101 318),
 (107,fO "first_pair" "first_pair" (top 17) "talejudge.zones" 247 106),
 (108,⟨(.type "tuple"),none,(.seq #[] 0),#[]⟩),
 (111,cP "of_kind" "of_kind" 321 74 2 108 324),
 (112,fO "of_kind" "of_kind" (top 18) "talejudge.zones" 247 111),
 (113,⟨(.type "tuple"),none,(.seq #[] 0),#[]⟩),
 (115,⟨(.type "tuple"),none,(.seq #[(.str "zone" 330),(.str "other" 331)] 0),#[]⟩),
 (116,⟨(.type "tuple"),none,(.seq #[] 0),#[]⟩),
 (118,cO "collide" "collide" 327 76 2 113 332),
 (119,fO "collide" "collide" (top 19) "talejudge.zones" 247 118),
 (120,⟨(.type "tuple"),none,(.seq #[] 0),#[]⟩),
 (123,cP "lone_writer_deeds" "lone_writer_deeds" 337 81 1 120 340),
 (124,fO "lone_writer_deeds" "lone_writer_deeds" (top 21) "talejudge.weaker" 335 123),
 (125,⟨(.type "tuple"),none,(.seq #[] 0),#[]⟩),
 (127,⟨(.type "tuple"),none,(.seq #[(.str "tale" 346),(.str "told" 347),(.str "written" 348),(.str "number" 349),(.str "read" 350)] 0),#[]⟩),
 (128,⟨(.type "tuple"),none,(.seq #[] 0),#[]⟩),
 (130,cO "is_regular" "is_regular" 343 86 1 125 351),
 (131,fO "is_regular" "is_regular" (top 22) "talejudge.weaker" 335 130),
 (132,⟨(.type "tuple"),none,(.seq #[] 0),#[]⟩),
 (134,⟨(.type "tuple"),none,(.seq #[(.str "tale" 357),(.str "told" 358),(.str "written" 359),(.str "number" 360),(.str "read" 361)] 0),#[]⟩),
 (135,⟨(.type "tuple"),none,(.seq #[] 0),#[]⟩),
 (137,cO "is_safe" "is_safe" 354 93 1 132 362),
 (138,fO "is_safe" "is_safe" (top 23) "talejudge.weaker" 335 137),
 (139,⟨(.type "tuple"),none,(.seq #[] 0),#[]⟩),
 (142,cP "writes_beside" "writes_beside" 365 100 2 139 368),
 (143,fO "writes_beside" "writes_beside" (top 24) "talejudge.weaker" 335 142),
 (144,⟨(.type "tuple"),none,(.seq #[] 0),#[]⟩),
 (147,cP "last_ahead" "last_ahead" 371 103 2 144 374),
 (148,fO "last_ahead" "last_ahead" (top 25) "talejudge.weaker" 335 147),
 (149,⟨(.type "tuple"),none,(.seq #[] 0),#[]⟩),
 (152,cP "turn_about" "turn_about" 377 105 1 149 380),
 (153,fO "turn_about" "turn_about" (top 26) "talejudge.weaker" 335 152),
 (154,⟨(.type "tuple"),none,(.seq #[] 0),#[]⟩),
 (156,⟨(.type "tuple"),none,(.seq #[(.str "script" 388),(.str "k" 389)] 0),#[]⟩),
 (157,⟨(.type "tuple"),none,(.seq #[] 0),#[]⟩),
 (159,cO "_law_cell_at" "_law_cell_at" 385 115 2 154 390),
 (160,fL "_law_cell_at" "_law_cell_at" (top 28) 159),
 (161,⟨(.type "tuple"),none,(.seq #[] 0),#[]⟩),
 (163,⟨(.type "tuple"),none,(.seq #[(.str "cell" 396),(.str "way" 397),(.str "low" 398)] 0),#[]⟩),
 (164,⟨(.type "tuple"),none,(.seq #[] 0),#[]⟩),
 (166,cO "_law_stream" "_law_stream" 393 119 2 161 399),
 (167,fL "_law_stream" "_law_stream" (top 29) 166),
 (168,⟨(.type "tuple"),none,(.seq #[] 0),#[]⟩),
 (170,⟨(.type "tuple"),none,(.seq #[(.str "row" 405),(.str "many" 406),(.str "told" 407)] 0),#[]⟩),
 (171,⟨(.type "tuple"),none,(.seq #[] 0),#[]⟩),
 (173,cO "_law_take" "_law_take" 402 122 2 168 408),
 (174,fL "_law_take" "_law_take" (top 30) 173),
 (175,⟨(.type "tuple"),none,(.seq #[] 0),#[]⟩),
 (177,⟨(.type "tuple"),none,(.seq #[(.str "row" 414),(.str "kind" 415)] 0),#[]⟩),
 (178,⟨(.type "tuple"),none,(.seq #[] 0),#[]⟩),
 (180,cO "_law_worth" "_law_worth" 411 129 1 175 416),
 (181,fL "_law_worth" "_law_worth" (top 31) 180),
 (182,⟨(.type "tuple"),none,(.seq #[] 0),#[]⟩),
 (184,⟨(.type "tuple"),none,(.seq #[(.str "row" 422),(.str "letters" 423),(.str "name" 424),(.str "k" 425)] 0),#[]⟩),
 (185,⟨(.type "tuple"),none,(.seq #[] 0),#[]⟩),
 (187,cO "_law_name" "_law_name" 419 136 1 182 426),
 (188,fL "_law_name" "_law_name" (top 32) 187),
 (189,⟨(.type "tuple"),none,(.seq #[] 0),#[]⟩),
 (191,⟨(.type "tuple"),none,(.seq #[(.str "row" 432),(.str "used" 433),(.str "worth" 434)] 0),#[]⟩),
 (192,⟨(.type "tuple"),none,(.seq #[] 0),#[]⟩),
 (194,cO "_law_fresh" "_law_fresh" 429 142 2 189 435),
 (195,fL "_law_fresh" "_law_fresh" (top 33) 194),
 (196,⟨(.type "tuple"),none,(.seq #[] 0),#[]⟩),
 (198,⟨(.type "tuple"),none,(.seq #[(.str "events" 441),(.str "found" 442),(.str "last" 443),(.str "place" 444),(.str "event" 445),(.str "deed" 446)] 0),#[]⟩),
 (199,⟨(.type "tuple"),none,(.seq #[] 0),#[]⟩),
 (201,cO "_law_deeds" "_law_deeds" 438 150 1 196 447),
 (202,fL "_law_deeds" "_law_deeds" (top 34) 201),
 (203,⟨(.type "tuple"),none,(.seq #[] 0),#[]⟩),
 (205,⟨(.type "tuple"),none,(.seq #[(.str "events" 453),(.str "begin" 454),(.str "worth" 455),(.str "open_one" 456),(.str "place" 457),(.str "event" 458)] 0),#[]⟩),
 (206,⟨(.type "tuple"),none,(.seq #[] 0),#[]⟩),
 (208,cO "_law_last" "_law_last" 450 164 2 203 459),
 (209,fL "_law_last" "_law_last" (top 35) 208),
 (210,⟨(.type "tuple"),none,(.seq #[] 0),#[]⟩),
 (212,⟨(.type "tuple"),none,(.seq #[(.str "events" 465),(.str "begin" 466),(.str "end" 467),(.str "found" 468),(.str "open_one" 469),(.str "place" 470),(.str "event" 471)] 0),#[]⟩),
 (213,⟨(.type "tuple"),none,(.seq #[] 0),#[]⟩),
 (215,cO "_law_beside" "_law_beside" 462 175 3 210 472),
 (216,fL "_law_beside" "_law_beside" (top 36) 215),
 (217,⟨(.type "tuple"),none,(.seq #[] 0),#[]⟩),
 (219,⟨(.type "tuple"),none,(.seq #[(.str "cells" 478),(.str "way" 479),(.str "head" 480),(.str "name" 481),(.str "hands" 482),(.str "writer" 483),(.str "used" 484),(.str "store" 485),(.str "busy" 486),(.str "events" 487),(.str "cell" 488),(.str "row" 489),(.str "hand" 490)] 0),#[]⟩),
 (220,⟨(.type "tuple"),none,(.seq #[] 0),#[]⟩),
 (222,cO "_law_run" "_law_run" 475 189 4 217 491),
 (223,fL "_law_run" "_law_run" (top 37) 222),
 (224,⟨(.type "tuple"),none,(.seq #[] 0),#[]⟩),
 (227,cP "_law_bent" "_law_bent" 494 213 3 224 497),
 (228,fL "_law_bent" "_law_bent" (top 38) 227),
 (229,⟨(.type "tuple"),none,(.seq #[] 0),#[]⟩),
 (232,cP "law" "law" 500 223 1 229 503),
 (233,fL "law" "law" (top 39) 232)]
noncomputable def asY:List Addr:=85 :: asX
noncomputable def KY (P:J1):Frag:=(85,⟨.none,none,.fields #[],#[]⟩) :: KX P
noncomputable abbrev cdT:Addr:=87
noncomputable abbrev tbT:Addr:=85
noncomputable def HX:Hook:=kHook KY asY (λ _=>by kernel_rfl)
noncomputable abbrev XtX:u0->Bool:=λ s=>xlAt viewX [] s && recOk (RowW.records (OpenRow.toRowW PySem.Challenge.rw_talejudge_k25_whole_runs_of_registers.row)) s
theorem look1 (w:Z0) (os:W4):(staticsOk (F6 PX.main.body) (boot_heap w.params) (S3X w os).abs.heap && namesBound PX (S3X w os).abs.heap && gensDone (S3X w os).abs && laidKept (boot_heap w.params) (S3X w os).abs.heap)=true:=by kernel_rfl
theorem look2 (w:Z0) (os:W4):openSeen viewX looseX (F6 PX.main.body) XtX true (S3X w os).abs=openGood viewX looseX:=by rw [PySem.W.Fast.te4187177175401517315];kernel_rfl
theorem look3 (w:Z0) (os:W4):Hook.obs HX (S3X w os).abs=Hook.val HX w:=by kernel_rfl
theorem leftX:LeftO PX viewX looseX XtX (Hook.obs HX) (Hook.val HX) 200000:=
 zcj (H₀:=boot_heap) (gs₀:=Array.mk []) (boot_open (by kernel_rfl) (by decide) (λ s=>rfl)) (λ w=>by kernel_rfl) zcr look1 look2 look3
end K25
set_option maxHeartbeats 4000000
namespace L2
open PySem PySem.Spec PyProof.Rows
theorem FnScope.k {N P:List Str} {sc:Scope} (a:sc.kind=.function:=by exact rfl) (b:sc.isCoroutine=false:=by exact rfl) (c:sc.isGenerator=false:=by exact rfl) (d:N.Nodup:=by decide +kernel) (e:N.take P.length=P:=by exact rfl) (f :∀x∈P,sc.names.lookup x=some .local\/sc.names.lookup x=some .cell:=by decide +kernel) (g :∀y∈sc.names,y.2≠.free:=by decide +kernel):FnScope N P sc:=⟨a,b,c,d,e,f,g⟩
theorem newA {H:Hp} {p:Addr} (o:HO) (h:H p=none) :∃H',H'=upd H p o/\Same H H'/\H' p=some o:=⟨_,rfl,Same.upd h,z02⟩
theorem iteK {c A B:Prop} [Decidable c] (h:B) (hc:¬ c:=by decide +kernel):if c then A else B:=iteN hc h
theorem pg_cn {X:Cx} {scope:Scope} {cl:List (Str×Addr)} {N:List Str} {C:Addr} {s₂:u0} {H₂:Hp} {fp:List Addr} {x:Str} {px:Pos} (i:Nat) (hN:N.Nodup:=by decide +kernel) (hi:N[i]? = some x:=by exact rfl) (hx:scope.names.lookup x=some .local:=by exact rfl):PG (cxComp X scope cl N C s₂ H₂ fp) (.Name x px) (gName i):=zcy i hN hi hx
theorem pe_cg {X:Cx} {xs:List Str} {tg:Expr} {g:TG} {pos:Pos} {elt iter:Expr} {ifs:List Expr} {scope:Scope} {fr:List (Nat×Str)} {wi:TI} {tc:TT} {te:TE} (hi:PI X tg iter wi)
  (hg :∀cl C s₂ H₂ fp,PG (cxComp X scope cl (xs++fr.map (·.2)) C s₂ H₂ fp) tg g)
  (ht :∀cl C s₂ H₂ fp,PF (cxComp X scope cl (xs++fr.map (·.2)) C s₂ H₂ fp) ifs tc) (he :∀cl C s₂ H₂ fp,PE (cxComp X scope cl (xs++fr.map (·.2)) C s₂ H₂ fp) elt te) (hcalm:X.calm=true:=by exact rfl)
  (hfr :∀p∈fr,X.N[p.1]? = some p.2/\(X.env.kindOf p.2=some .cell\/X.env.kindOf p.2=some .free):=by first|exact λ _ z=>absurd z B0|(intro p hp;obtain rfl:=List.mem_singleton.mp hp;first|exact ⟨rfl,.inl rfl⟩|exact ⟨rfl,.inr rfl⟩))
  (hin:(scope.names.all λ y=>y.2 != Y1 || fr.any λ p=>p.2 == y.1)=true:=by decide +kernel)
  (hfs :∀p∈fr,(p.2,Y1)∈scope.names/\((d7 scope X.env).names.lookup p.2=some .cell\/(d7 scope X.env).names.lookup p.2=some .free):=by first|exact λ _ z=>absurd z B0|(intro p hp;obtain rfl:=List.mem_singleton.mp hp;exact ⟨by decide +kernel,by first|exact .inl rfl|exact .inr rfl⟩))
  (hcell :∀y∈scope.names,y.2≠NameKind.cell:=by decide +kernel) (hkind:scope.kind=.function:=by exact rfl) (hnames :∀y∈scope.names,y.2=NameKind.local->scope.names.lookup y.1=some .local:=by decide +kernel)
  (hs :∀x,V4 iter X.env x=Z3 x:=by intro _;rfl):PE X (.ListComp elt [⟨tg,iter,ifs,0⟩] scope pos) (tCompG wi xs.length fr g tc te):=
 zcz hcalm hi hfr (λ y a e=>by
  have h:=List.all_eq_true.mp hin y a;rw [e] at h;obtain ⟨p,hp,z⟩:=List.any_eq_true.mp (show fr.any (λ p=>p.2 == y.1)=true from h);have:=(hfr p hp).2
  rwa [eq_of_beq z] at this) hfs hcell hkind hnames hg ht he hs
end L2
namespace K25
open PySem PySem.Spec PyProof.Rows TJ L2
abbrev Gg (n:Str) (a:Addr):Prop:=∀P,T6 (KX P) P2 n=some (some (.ref a))
abbrev Gn (n:Str):Prop:=∀P,T6 (KX P) P2 n=some none
noncomputable abbrev kx (w:Z0):=KX w.params
noncomputable abbrev Ca (P:Program) (w:Z0) (mg:Str->Option Value) (base:Heap):=Cal P w (KX w.params) mg base
noncomputable abbrev CaE (P:Program) (w:Z0) (mg:Str->Option Value) (base:Heap):=CalE P w (KX w.params) mg base
noncomputable abbrev Fo (P:Program) (w:Z0) (mg:Str->Option Value) (base:Heap):=FnOk P w (KX w.params) mg base
theorem z20:Gn "isinstance":=λ _=>by kernel_rfl
theorem n_len:Gn "len":=λ _=>by kernel_rfl
theorem n_all:Gn "all":=λ _=>by kernel_rfl
theorem n_max:Gn "max":=λ _=>by kernel_rfl
theorem n_min:Gn "min":=λ _=>by kernel_rfl
theorem n_int:Gn "int":=λ _=>by kernel_rfl
theorem n_bool:Gn "bool":=λ _=>by kernel_rfl
theorem z81:Gn "tuple":=λ _=>by kernel_rfl
theorem n_list:Gn "list":=λ _=>by kernel_rfl
theorem z80:Gn "range":=λ _=>by kernel_rfl
theorem z8y:Gn "sorted":=λ _=>by kernel_rfl
theorem n_set:Gn "set":=λ _=>by kernel_rfl
theorem z2i:Gn "enumerate":=λ _=>by kernel_rfl
theorem zad:Gg "is_whole" 46:=λ _=>by kernel_rfl
theorem zdb:Gg "deeds" 53:=λ _=>by kernel_rfl
theorem z5g:Gg "FIRST_WRITE" 54:=λ _=>by kernel_rfl
theorem z5p:Gg "plain_deeds" 59:=λ _=>by kernel_rfl
theorem z8c:Gg "are_plain" 64:=λ _=>by kernel_rfl
theorem z5b:Gg "is_answered" 71:=λ _=>by kernel_rfl
theorem zap:Gg "writers" 78:=λ _=>by kernel_rfl
theorem z61:Gg "ended_reads" 83:=λ _=>by kernel_rfl
theorem zeg:Gg "zones" 88:=λ _=>by kernel_rfl
theorem zba:Gg "zone_of" 93:=λ _=>by kernel_rfl
theorem z8n:Gg "collision" 100:=λ _=>by kernel_rfl
theorem z6q:Gg "first_pair" 107:=λ _=>by kernel_rfl
theorem zaq:Gg "of_kind" 112:=λ _=>by kernel_rfl
theorem zbq:Gg "collide" 119:=λ _=>by kernel_rfl
theorem z29:Gg "lone_writer_deeds" 124:=λ _=>by kernel_rfl
theorem z6z:Gg "is_regular" 131:=λ _=>by kernel_rfl
theorem zaz:Gg "is_safe" 138:=λ _=>by kernel_rfl
theorem z3t:Gg "writes_beside" 143:=λ _=>by kernel_rfl
theorem z67:Gg "last_ahead" 148:=λ _=>by kernel_rfl
theorem z69:Gg "turn_about" 153:=λ _=>by kernel_rfl
theorem z4h:Gg "_law_cell_at" 160:=λ _=>by kernel_rfl
theorem z5i:Gg "_law_stream" 167:=λ _=>by kernel_rfl
theorem z8a:Gg "_law_take" 174:=λ _=>by kernel_rfl
theorem z6e:Gg "_law_worth" 181:=λ _=>by kernel_rfl
theorem z8d:Gg "_law_name" 188:=λ _=>by kernel_rfl
theorem z6x:Gg "_law_fresh" 195:=λ _=>by kernel_rfl
theorem z66:Gg "_law_deeds" 202:=λ _=>by kernel_rfl
theorem z88:Gg "_law_last" 209:=λ _=>by kernel_rfl
theorem z63:Gg "_law_beside" 216:=λ _=>by kernel_rfl
theorem z9h:Gg "_law_run" 223:=λ _=>by kernel_rfl
theorem z8e:Gg "_law_bent" 228:=λ _=>by kernel_rfl
theorem g_law:Gg "law" 233:=λ _=>by kernel_rfl
noncomputable abbrev y1d:Stmt:=top 4
noncomputable abbrev y0o:FuncData:=fnX "is_whole" "is_whole" (top 4) "talejudge.basics" 223 45
theorem z3n (P:J1):Fun (KX P) "is_whole" "is_whole" y1d 46 y0o:=z0e
theorem z9s (P:J1):Binds (KX P) y0o ["value"] []:=(z3n P).binds λ _ _ _ _ _ _=>us1 λ _=>rfl
theorem z87:FnScope ["value"] ["value"] (z08 y1d):=.k
noncomputable abbrev y1m:Stmt:=top 6
noncomputable abbrev y1f:FuncData:=fnX "deeds" "deeds" (top 6) "talejudge.tales" 232 52
theorem za9 (P:J1):Fun (KX P) "deeds" "deeds" y1m 53 y1f:=z0e
theorem zdc (P:J1):Binds (KX P) y1f ["tale"] []:=(za9 P).binds λ _ _ _ _ _ _=>us1 λ _=>rfl
theorem sc_deeds:FnScope ["tale","told","numbers","place","event","number","begun"] ["tale"] (z08 y1m):=.k
noncomputable abbrev y0q:Stmt:=top 9
noncomputable abbrev y04:FuncData:=fnX "plain_deeds" "plain_deeds" (top 9) "talejudge.zones" 247 58
theorem z1q (P:J1):Fun (KX P) "plain_deeds" "plain_deeds" y0q 59 y04:=z0e
theorem z62 (P:J1):Binds (KX P) y04 ["tale"] []:=(z1q P).binds λ _ _ _ _ _ _=>us1 λ _=>rfl
theorem sc_plain_deeds:FnScope ["tale","told"] ["tale"] (z08 y0q):=.k
noncomputable abbrev y17:Stmt:=top 10
noncomputable abbrev y0g:FuncData:=fnX "are_plain" "are_plain" (top 10) "talejudge.zones" 247 63
theorem z2n (P:J1):Fun (KX P) "are_plain" "are_plain" y17 64 y0g:=z0e
theorem z8f (P:J1):Binds (KX P) y0g ["told"] []:=(z2n P).binds λ _ _ _ _ _ _=>us1 λ _=>rfl
theorem sc_are_plain:FnScope ["told","worths"] ["told"] (z08 y17):=.k
noncomputable abbrev y0r:Stmt:=top 11
noncomputable abbrev y05:FuncData:=fnX "is_answered" "is_answered" (top 11) "talejudge.zones" 247 70
theorem z1n (P:J1):Fun (KX P) "is_answered" "is_answered" y0r 71 y05:=z0e
theorem z54 (P:J1):Binds (KX P) y05 ["deed"] []:=(z1n P).binds λ _ _ _ _ _ _=>us1 λ _=>rfl
theorem z4q:FnScope ["deed"] ["deed"] (z08 y0r):=.k
noncomputable abbrev y1h:Stmt:=top 12
noncomputable abbrev y0v:FuncData:=fnX "writers" "writers" (top 12) "talejudge.zones" 247 77
theorem z4g (P:J1):Fun (KX P) "writers" "writers" y1h 78 y0v:=z0e
theorem zas (P:J1):Binds (KX P) y0v ["told"] []:=(z4g P).binds λ _ _ _ _ _ _=>us1 λ _=>rfl
theorem sc_writers:FnScope ["told","found","deed"] ["told"] (z08 y1h):=.k
noncomputable abbrev y0s:Stmt:=top 13
noncomputable abbrev y06:FuncData:=fnX "ended_reads" "ended_reads" (top 13) "talejudge.zones" 247 82
theorem z1j (P:J1):Fun (KX P) "ended_reads" "ended_reads" y0s 83 y06:=z0e
theorem z64 (P:J1):Binds (KX P) y06 ["told"] []:=(z1j P).binds λ _ _ _ _ _ _=>us1 λ _=>rfl
theorem z4r:FnScope ["told"] ["told"] (z08 y0s):=.k
noncomputable abbrev y1n:Stmt:=top 14
noncomputable abbrev y1g:FuncData:=fnX "zones" "zones" (top 14) "talejudge.zones" 247 87
theorem z9n (P:J1):Fun (KX P) "zones" "zones" y1n 88 y1g:=z0e
theorem zdm (P:J1):Binds (KX P) y1g ["tale"] []:=(z9n P).binds λ _ _ _ _ _ _=>us1 λ _=>rfl
theorem sc_zones:FnScope ["tale","told","found","worth","write","spans"] ["tale"] (z08 y1n):=.k
noncomputable abbrev y1i:Stmt:=top 15
noncomputable abbrev y0w:FuncData:=fnX "zone_of" "zone_of" (top 15) "talejudge.zones" 247 92
theorem z4l (P:J1):Fun (KX P) "zone_of" "zone_of" y1i 93 y0w:=z0e
theorem zal (P:J1):Binds (KX P) y0w ["worth","spans"] []:=(z4l P).binds λ _ _ _ _ _ _=>us2 λ _ _=>rfl
theorem sc_zone_of:FnScope ["worth","spans","least","greatest"] ["worth","spans"] (z08 y1i):=.k
noncomputable abbrev y18:Stmt:=top 16
noncomputable abbrev y0h:FuncData:=fnX "collision" "collision" (top 16) "talejudge.zones" 247 99
theorem z2s (P:J1):Fun (KX P) "collision" "collision" y18 100 y0h:=z0e
theorem z83 (P:J1):Binds (KX P) y0h ["tale"] []:=(z2s P).binds λ _ _ _ _ _ _=>us1 λ _=>rfl
theorem sc_collision:FnScope ["tale","told","written","number","read"] ["tale"] (z08 y18):=.k
noncomputable abbrev y10:Stmt:=top 17
noncomputable abbrev y09:FuncData:=fnX "first_pair" "first_pair" (top 17) "talejudge.zones" 247 106
theorem z1y (P:J1):Fun (KX P) "first_pair" "first_pair" y10 107 y09:=z0e
theorem z6i (P:J1):Binds (KX P) y09 ["found"] []:=(z1y P).binds λ _ _ _ _ _ _=>us1 λ _=>rfl
theorem sc_first_pair:FnScope ["found","kind","zone","other"] ["found"] (z08 y10):=.k
noncomputable abbrev y1j:Stmt:=top 18
noncomputable abbrev y0x:FuncData:=fnX "of_kind" "of_kind" (top 18) "talejudge.zones" 247 111
theorem z4z (P:J1):Fun (KX P) "of_kind" "of_kind" y1j 112 y0x:=z0e
theorem zbo (P:J1):Binds (KX P) y0x ["found","kind"] []:=(z4z P).binds λ _ _ _ _ _ _=>us2 λ _ _=>rfl
theorem zac:FnScope ["found","kind"] ["found","kind"] (z08 y1j):=.k
noncomputable abbrev y1k:Stmt:=top 19
noncomputable abbrev y0y:FuncData:=fnX "collide" "collide" (top 19) "talejudge.zones" 247 118
theorem z4i (P:J1):Fun (KX P) "collide" "collide" y1k 119 y0y:=z0e
theorem zai (P:J1):Binds (KX P) y0y ["zone","other"] []:=(z4i P).binds λ _ _ _ _ _ _=>us2 λ _ _=>rfl
theorem z9x:FnScope ["zone","other"] ["zone","other"] (z08 y1k):=.k
noncomputable abbrev y02:Stmt:=top 21
noncomputable abbrev y00:FuncData:=fnX "lone_writer_deeds" "lone_writer_deeds" (top 21) "talejudge.weaker" 335 123
theorem z0u (P:J1):Fun (KX P) "lone_writer_deeds" "lone_writer_deeds" y02 124 y00:=z0e
theorem z2h (P:J1):Binds (KX P) y00 ["tale"] []:=(z0u P).binds λ _ _ _ _ _ _=>us1 λ _=>rfl
theorem sc_lone_writer_deeds:FnScope ["tale","told"] ["tale"] (z08 y02):=.k
noncomputable abbrev y11:Stmt:=top 22
noncomputable abbrev y0a:FuncData:=fnX "is_regular" "is_regular" (top 22) "talejudge.weaker" 335 130
theorem z21 (P:J1):Fun (KX P) "is_regular" "is_regular" y11 131 y0a:=z0e
theorem z6j (P:J1):Binds (KX P) y0a ["tale"] []:=(z21 P).binds λ _ _ _ _ _ _=>us1 λ _=>rfl
theorem sc_is_regular:FnScope ["tale","told","written","number","read"] ["tale"] (z08 y11):=.k
noncomputable abbrev y1l:Stmt:=top 23
noncomputable abbrev y0z:FuncData:=fnX "is_safe" "is_safe" (top 23) "talejudge.weaker" 335 137
theorem z4p (P:J1):Fun (KX P) "is_safe" "is_safe" y1l 138 y0z:=z0e
theorem zag (P:J1):Binds (KX P) y0z ["tale"] []:=(z4p P).binds λ _ _ _ _ _ _=>us1 λ _=>rfl
theorem sc_is_safe:FnScope ["tale","told","written","number","read"] ["tale"] (z08 y1l):=.k
noncomputable abbrev y0i:Stmt:=top 24
noncomputable abbrev y01:FuncData:=fnX "writes_beside" "writes_beside" (top 24) "talejudge.weaker" 335 142
theorem z16 (P:J1):Fun (KX P) "writes_beside" "writes_beside" y0i 143 y01:=z0e
theorem z3w (P:J1):Binds (KX P) y01 ["written","read"] []:=(z16 P).binds λ _ _ _ _ _ _=>us2 λ _ _=>rfl
theorem sc_writes_beside:FnScope ["written","read","begun"] ["written","read"] (z08 y0i):=.k
noncomputable abbrev y12:Stmt:=top 25
noncomputable abbrev y0b:FuncData:=fnX "last_ahead" "last_ahead" (top 25) "talejudge.weaker" 335 147
theorem z25 (P:J1):Fun (KX P) "last_ahead" "last_ahead" y12 148 y0b:=z0e
theorem z6n (P:J1):Binds (KX P) y0b ["written","read"] []:=(z25 P).binds λ _ _ _ _ _ _=>us2 λ _ _=>rfl
theorem z5l:FnScope ["written","read"] ["written","read"] (z08 y12):=.k
noncomputable abbrev y13:Stmt:=top 26
noncomputable abbrev y0c:FuncData:=fnX "turn_about" "turn_about" (top 26) "talejudge.weaker" 335 152
theorem z26 (P:J1):Fun (KX P) "turn_about" "turn_about" y13 153 y0c:=z0e
theorem z70 (P:J1):Binds (KX P) y0c ["tale"] []:=(z26 P).binds λ _ _ _ _ _ _=>us1 λ _=>rfl
theorem sc_turn_about:FnScope ["tale","told","written","reads","number","read","behind","other"] ["tale"] (z08 y13):=.k
noncomputable abbrev y0n:Stmt:=top 28
noncomputable abbrev y03:FuncData:=fY "_law_cell_at" "_law_cell_at" (top 28) 159
theorem z1d (P:J1):Fun (KX P) "_law_cell_at" "_law_cell_at" y0n 160 y03:=z0e
theorem z4u (P:J1):Binds (KX P) y03 ["script","k"] []:=(z1d P).binds λ _ _ _ _ _ _=>us2 λ _ _=>rfl
theorem z3s:FnScope ["script","k"] ["script","k"] (z08 y0n):=.k
noncomputable abbrev y0t:Stmt:=top 29
noncomputable abbrev y07:FuncData:=fY "_law_stream" "_law_stream" (top 29) 166
theorem z1h (P:J1):Fun (KX P) "_law_stream" "_law_stream" y0t 167 y07:=z0e
theorem z5x (P:J1):Binds (KX P) y07 ["cell","way"] []:=(z1h P).binds λ _ _ _ _ _ _=>us2 λ _ _=>rfl
theorem sc__law_stream:FnScope ["cell","way","low"] ["cell","way"] (z08 y0t):=.k
noncomputable abbrev y19:Stmt:=top 30
noncomputable abbrev y0j:FuncData:=fY "_law_take" "_law_take" (top 30) 173
theorem z2o (P:J1):Fun (KX P) "_law_take" "_law_take" y19 174 y0j:=z0e
theorem z86 (P:J1):Binds (KX P) y0j ["row","many"] []:=(z2o P).binds λ _ _ _ _ _ _=>us2 λ _ _=>rfl
theorem sc__law_take:FnScope ["row","many","told"] ["row","many"] (z08 y19):=.k
noncomputable abbrev y14:Stmt:=top 31
noncomputable abbrev y0d:FuncData:=fY "_law_worth" "_law_worth" (top 31) 180
theorem z22 (P:J1):Fun (KX P) "_law_worth" "_law_worth" y14 181 y0d:=z0e
theorem z6v (P:J1):Binds (KX P) y0d ["row"] []:=(z22 P).binds λ _ _ _ _ _ _=>us1 λ _=>rfl
theorem sc__law_worth:FnScope ["row","kind"] ["row"] (z08 y14):=.k
noncomputable abbrev y1a:Stmt:=top 32
noncomputable abbrev y0k:FuncData:=fY "_law_name" "_law_name" (top 32) 187
theorem z2m (P:J1):Fun (KX P) "_law_name" "_law_name" y1a 188 y0k:=z0e
theorem z8k (P:J1):Binds (KX P) y0k ["row"] []:=(z2m P).binds λ _ _ _ _ _ _=>us1 λ _=>rfl
theorem sc__law_name:FnScope ["row","letters","name","k"] ["row"] (z08 y1a):=.k
noncomputable abbrev y15:Stmt:=top 33
noncomputable abbrev y0e:FuncData:=fY "_law_fresh" "_law_fresh" (top 33) 194
theorem z1w (P:J1):Fun (KX P) "_law_fresh" "_law_fresh" y15 195 y0e:=z0e
theorem z6u (P:J1):Binds (KX P) y0e ["row","used"] []:=(z1w P).binds λ _ _ _ _ _ _=>us2 λ _ _=>rfl
theorem sc__law_fresh:FnScope ["row","used","worth"] ["row","used"] (z08 y15):=.k
noncomputable abbrev y16:Stmt:=top 34
noncomputable abbrev y0f:FuncData:=fY "_law_deeds" "_law_deeds" (top 34) 201
theorem z1x (P:J1):Fun (KX P) "_law_deeds" "_law_deeds" y16 202 y0f:=z0e
theorem z6h (P:J1):Binds (KX P) y0f ["events"] []:=(z1x P).binds λ _ _ _ _ _ _=>us1 λ _=>rfl
theorem sc__law_deeds:FnScope ["events","found","last","place","event","deed"] ["events"] (z08 y16):=.k
noncomputable abbrev y1b:Stmt:=top 35
noncomputable abbrev y0l:FuncData:=fY "_law_last" "_law_last" (top 35) 208
theorem z2l (P:J1):Fun (KX P) "_law_last" "_law_last" y1b 209 y0l:=z0e
theorem z85 (P:J1):Binds (KX P) y0l ["events","begin"] []:=(z2l P).binds λ _ _ _ _ _ _=>us2 λ _ _=>rfl
theorem sc__law_last:FnScope ["events","begin","worth","open_one","place","event"] ["events","begin"] (z08 y1b):=.k
noncomputable abbrev y0u:Stmt:=top 36
noncomputable abbrev y08:FuncData:=fY "_law_beside" "_law_beside" (top 36) 215
theorem z1m (P:J1):Fun (KX P) "_law_beside" "_law_beside" y0u 216 y08:=z0e
theorem z5k (P:J1):Binds (KX P) y08 ["events","begin","end"] []:=(z1m P).binds λ _ _ _ _ _ _=>us3 λ _ _ _=>rfl
theorem sc__law_beside:FnScope ["events","begin","end","found","open_one","place","event"] ["events","begin","end"] (z08 y0u):=.k
noncomputable abbrev y1e:Stmt:=top 37
noncomputable abbrev y0p:FuncData:=fY "_law_run" "_law_run" (top 37) 222
theorem z3g (P:J1):Fun (KX P) "_law_run" "_law_run" y1e 223 y0p:=z0e
theorem z8w (P:J1):Binds (KX P) y0p ["cells","way","head","name"] []:=(z3g P).binds λ _ _ _ _ _ _=>us4 λ _ _ _ _=>rfl
theorem sc__law_run:FnScope ["cells","way","head","name","hands","writer","used","store","busy","events","cell","row","hand"] ["cells","way","head","name"] (z08 y1e):=.k
noncomputable abbrev y1c:Stmt:=top 38
noncomputable abbrev y0m:FuncData:=fY "_law_bent" "_law_bent" (top 38) 227
theorem z2k (P:J1):Fun (KX P) "_law_bent" "_law_bent" y1c 228 y0m:=z0e
theorem z8o (P:J1):Binds (KX P) y0m ["events","row","used"] []:=(z2k P).binds λ _ _ _ _ _ _=>us3 λ _ _ _=>rfl
theorem sc__law_bent:FnScope ["events","row","used","reads","verb","worth","answer","begin","end","fine","some","found"] ["events","row","used"] (z08 y1c):=.k
noncomputable abbrev y1o:Stmt:=top 39
noncomputable abbrev fd_law:FuncData:=fY "law" "law" (top 39) 232
theorem F_law (P:J1):Fun (KX P) "law" "law" y1o 233 fd_law:=z0e
theorem sc_law:FnScope ["script","first","head","name","things","events","tale","used","bent"] ["script"] (z08 y1o):=.k
section
variable {P:Program} {w:Z0} {mg:Str->Option Value} {base:Heap}
def z1u (K:c0):Sp:=λ vs H Q _=>∃(a:Addr) (ns:List Int),vs=[.ref a,.int 0]/\SqL K H a (ns.map V.int)/\∀i,Q (.int i) H
theorem z3u (T:TX (kx w) mg):Fo P w mg base CX0 1 160 y03 ["script","k"] (z1u (kx w)):=by
 refine (z1d w.params).ok z3s (λ c H Q E h=>?_) (λ f A d s H c Q E e h=>?_)
 ·obtain ⟨a,b,rfl,_⟩:=h;rfl
 ·obtain ⟨a,b,rfl,sq,q⟩:=h;refine ⟨_,(z05 (ps_if (z07 op_lt (pv 1) (z0n z28 rfl (T.no (n_len _)) T5 (z00 (pv 0) pa_nil)) (nomark _))
   (z06 (ps_ret (pe_ix ix_seq (pv 0) (pv 1) (λ _ _=>rfl))))
   z0g)
   (z06 (ps_ret pe_int))),?_⟩
  refine ⟨_,rfl,_,rfl,.inl ⟨a,_,rfl,.inl sq,_,_,rfl,rfl,_,rfl,?_⟩⟩;cases b with
  | nil=>exact iteF (q 0)
  | cons n b=>rw [if_pos (by simp)];exact ⟨_,rfl,_,rfl,.inl ⟨a,_,0,.int n,rfl,rfl,sq,z04 (xs:=(n :: b).map V.int) (j:=0) rfl,q n⟩⟩
def z1b:Sp:=λ vs H Q _=>∃(c d:Int),vs=[.int c,.int d]/\∀p t,H p=none->0<=t->t < 536870909->Q (.ref p) (upd H p (.lst [.int c,.int d,.int t]))
theorem z4j (T:TX (kx w) mg):Fo P w mg base CX0 1 167 y07 ["cell","way"] z1b:=by
 refine (z1h w.params).ok sc__law_stream (λ b H Q E h=>?_) (λ f A e s H b Q E g h=>?_)
 ·obtain ⟨c,d,rfl,_⟩:=h;rfl
 ·obtain ⟨c,d,rfl,q⟩:=h;refine ⟨_,(z05 (ps_set (i:=2) sc__law_stream.nd rfl (S0 rfl) (pe_op op_mod (pv 0) pe_int))
   (z06 (ps_ret (pe_lst (z00 (pv 0) (z00 (pv 1) (z00 (pe_op op_mod (pe_op opAdd (pe_op op_mul (pe_op op_mod (pe_op op_mul (pv 2) (pv 2)) pe_int) (pe_op opAdd (pv 2) pe_int)) pe_int) pe_int) pa_nil))))))),?_⟩
  have m:0<=c % 536870909:=p5 _ (by decide);have j:c % 536870909 < 536870909:=F4 _ (by decide);refine ⟨_,rfl,_,_,rfl,rfl,(show (0:Int) < 536870909 by decide),?_⟩;refine ⟨_,rfl,_,rfl,_,rfl,_,rfl,_,_,rfl,rfl,.inl ⟨by omega,by omega⟩,_,_,rfl,rfl,(show (0:Int) < 536870909 by decide),?_⟩;have l:0<=(c % 536870909 * (c % 536870909)) % 536870909:=p5 _ (by decide);have k:(c % 536870909 * (c % 536870909)) % 536870909 < 536870909:=F4 _ (by decide);refine ⟨_,rfl,.inl ⟨_,_,rfl,rfl,_,_,rfl,rfl,.inl ⟨by omega,by omega⟩,.inl ⟨_,_,rfl,rfl,_,_,rfl,rfl,(show (0:Int) < 536870909 by decide),?_⟩⟩⟩;exact ⟨w_3,λ p a=>q p _ a (p5 _ (by decide)) (F4 _ (by decide))⟩
def z0x:Sp:=λ vs H Q _=>∃(r:Addr) (m:Int),vs=[.ref r,.int m]/\RowAt H r/\0 < m/\m < 2 ^ 64/\∀t H',Rw r H H'->0<=t->t < m->Q (.int t) H'
theorem z65 (T:TX (kx w) mg):Fo P w mg base CX0 1 174 y0j ["row","many"] z0x:=by
 refine (z2o w.params).ok sc__law_take (λ n H Q E h=>?_) (λ z A y s H n Q E B h=>?_)
 ·obtain ⟨r,m,rfl,_⟩:=h;rfl
 ·obtain ⟨r,m,rfl,⟨a,b,c,e,u,x⟩,g,t,q⟩:=h;refine ⟨_,(z05 (ps_if (PW.pt (pw_and (z07 opEq (pe_ix ix_seq (pv 0) pe_int (λ _ _=>rfl)) pe_int (nomark _)) (z1a (z07 z3f (pe_ix ix_seq (pv 0) pe_int (λ _ _=>rfl)) (pe_tup (z00 pe_int (z00 (pe_un un_neg pe_int) pa_nil))) (by with_unfolding_all rfl)))))
   (z05 (ps_set (i:=2) sc__law_take.nd rfl (S0 rfl) (pe_op op_mod (pe_ix ix_seq (pv 0) pe_int (λ _ _=>rfl)) (pv 1)))
   (z05 (ps_asg (pe_op z6c (pe_ix ix_seq (pv 0) pe_int (λ _ _=>rfl)) (pv 1)) (pg_sub (pv 0) pe_int z1z))
   (z06 (ps_ret (pv 2)))))
   z0g)
   (z05 (ps_asg (pe_op op_mod (pe_op op_mul (pe_op opAdd (pe_ix ix_seq (pv 0) pe_int (λ _ _=>rfl)) pe_int) (pe_op opAdd (pe_ix ix_seq (pv 0) pe_int (λ _ _=>rfl)) pe_int)) pe_int) (pg_sub (pv 0) pe_int z1z))
   (z06 (ps_ret (pe_op op_mod (pe_op opAdd (pe_op op_mul (pe_ix ix_seq (pv 0) pe_int (λ _ _=>rfl)) pe_int) pe_int) (pv 1)))))),?_⟩
  have j :∀f,Same H f->SqL (kx w) f r [.int a,.int b,.int c]:=λ f d=>SqL.of (d _ _ e);refine seq_if (λ f=>Same H f) (λ f d=>?_) λ k=>?_
  ·have v:0<=((c + 7919) * (c + 104729)) % 536870909:=p5 _ (by decide);have o:((c + 7919) * (c + 104729)) % 536870909 < 536870909:=F4 _ (by decide);refine ⟨_,rfl,.inl ⟨r,_,2,.int c,rfl,rfl,j f d,rfl,.inl ⟨_,_,rfl,rfl,?_⟩⟩⟩;refine ⟨_,rfl,.inl ⟨r,_,2,.int c,rfl,rfl,j f d,rfl,.inl ⟨_,_,rfl,rfl,?_⟩⟩⟩;refine ⟨_,_,rfl,rfl,.inl ⟨by omega,by omega⟩,_,_,rfl,rfl,(show (0:Int) < 536870909 by decide),?_⟩;refine ⟨_,rfl,r,_,2,2,rfl,rfl,d _ _ e,rfl,?_⟩;refine ⟨_,rfl,.inl ⟨r,_,2,.int _,rfl,rfl,SqL.of z02,rfl,?_⟩⟩;refine ⟨_,_,rfl,rfl,.inl ⟨by omega,by omega⟩,.inl ⟨_,_,rfl,rfl,_,rfl,_,_,rfl,rfl,g,?_⟩⟩;exact q _ _ ⟨(Same.kept d).trans .set,a,b,_,z02,v,o⟩ (p5 _ (by omega)) (F4 _ g)
  ·refine ⟨_,rfl,.inl ⟨r,_,1,.int b,rfl,rfl,SqL.of e,rfl,rfl,_,rfl,?_⟩⟩;by_cases hb:b=0
   ·subst hb;refine iteT ⟨_,rfl,.inl ⟨r,_,0,.int a,rfl,rfl,SqL.of e,rfl,?_⟩⟩;refine ⟨_,rfl,w_2,λ p l=>⟨p,_,rfl,.inr (SqT.of z02),rfl,rfl,_,rfl,?_⟩⟩;have d:Same H (upd H p (.tup [.int 0,.int (-1)])):=Same.upd l;refine ite2 (λ _=>?_) λ _=>k _ d;refine ⟨_,rfl,.inl ⟨r,_,0,.int a,rfl,rfl,j _ d,rfl,_,rfl,_,_,rfl,rfl,g,?_⟩⟩;refine ⟨_,rfl,.inl ⟨r,_,0,.int a,rfl,rfl,j _ d,rfl,_,rfl,_,_,rfl,rfl,⟨g,t⟩,?_⟩⟩;refine ⟨_,rfl,r,_,0,0,rfl,rfl,d _ _ e,rfl,?_⟩;exact ⟨_,rfl,q _ _ ⟨(Same.kept d).trans .set,_,_,c,z02,u,x⟩ (p5 _ (by omega)) (F4 _ g)⟩
   ·have:decide (V.int b=V.int 0)=false:=by simp [hb]
    rw [this];exact iteF (k _ (Same.refl H))
theorem e9:(10:Int) ^ (9:Int).toNat=1000000000:=by decide
theorem p9:CPow 10 9:=⟨by decide,by decide,by decide⟩
def z2y:Sp:=λ vs H Q _=>∃r:Addr,vs=[.ref r]/\RowAt H r/\∀i H',Rw r H H'->-1000000000<=i->i<=1000000000->Q (.int i) H'
theorem z56 (T:TX (kx w) mg) (c0:Ca P w mg base "_law_take" ["row","many"] 1 z0x):Fo P w mg base CX0 2 181 y0d ["row"] z2y:=by
 refine (z22 w.params).ok sc__law_worth (λ n H Q E h=>?_) (λ x A u s H n Q E c h=>?_)
 ·obtain ⟨r,rfl,_⟩:=h;rfl
 ·obtain ⟨r,rfl,R,q⟩:=h;refine ⟨_,(z05 (ps_set (i:=1) sc__law_worth.nd rfl (S0 rfl) (pe_cal c0 (c.mono (by decide)) rfl (z00 (pv 0) (z00 pe_int pa_nil))))
   (z05 (ps_if (z07 opEq (pv 1) pe_int (nomark _))
   (z06 (ps_ret (pe_op op_sub (pe_cal c0 (c.mono (by decide)) rfl (z00 (pv 0) (z00 (pe_op opAdd (pe_op op_mul pe_int (pe_op op_pow pe_int pe_int)) pe_int) pa_nil))) (pe_op op_pow pe_int pe_int))))
   z0g)
   (z05 (ps_if (z07 opEq (pv 1) pe_int (nomark _))
   (z06 (ps_ret (pe_ix ix_seq (pe_lst (z00 (pe_op op_pow pe_int pe_int) (z00 (pe_un un_neg (pe_op op_pow pe_int pe_int)) (z00 (pe_op op_sub (pe_op op_pow pe_int pe_int) pe_int) (z00 (pe_op op_sub pe_int (pe_op op_pow pe_int pe_int)) pa_nil))))) (pe_cal c0 (c.mono (by decide)) rfl (z00 (pv 0) (z00 pe_int pa_nil))) (λ _ _=>rfl))))
   z0g)
   (z06 (ps_ret (pe_op op_sub (pe_cal c0 (c.mono (by decide)) rfl (z00 (pv 0) (z00 pe_int pa_nil))) pe_int)))))),?_⟩
  refine ⟨_,rfl,r,4,rfl,R,by decide,by decide,λ t z b B y=>?_⟩;refine ⟨_,rfl,rfl,_,rfl,?_⟩;refine ite2 (λ _=>?_) λ _=>?_
  ·refine ⟨_,rfl,_,_,rfl,rfl,p9,_,_,rfl,rfl,.inl ⟨by decide,by decide⟩,.inl ⟨_,_,rfl,rfl,r,_,rfl,b.r,by decide,by decide,λ l g a f d=>?_⟩⟩;rw [e9] at d;refine ⟨_,_,rfl,rfl,p9,_,_,rfl,rfl,?_⟩;rw [e9];exact q _ _ (b.trans a) (by omega) (by omega)
  ·refine ⟨_,rfl,rfl,_,rfl,?_⟩;refine ite2 (λ _=>?_) λ _=>?_
   ·refine ⟨_,_,rfl,rfl,p9,_,_,rfl,rfl,p9,_,rfl,_,_,rfl,rfl,p9,_,_,rfl,rfl,_,_,rfl,rfl,p9,_,_,rfl,rfl,w_4,λ p e=>?_⟩;refine ⟨_,rfl,r,4,rfl,b.r.same (Same.upd e),by decide,by decide,λ l g a f d=>?_⟩;rw [e9] at a;obtain ⟨v,o,j⟩:=atI_of (xs:=[V.int 1000000000,.int (-1000000000),.int (1000000000 - 1),.int (1 - 1000000000)]) f d;refine .inl ⟨p,_,_,v,rfl,rfl,SqL.of (a.k _ _ (b.r.fresh e) z02),o,?_⟩;have m:Rw r H g:=(b.same (Same.upd e)).trans a;simp only [B3,B0,or_false] at j;rcases j with rfl|rfl|rfl|rfl<;>exact q _ _ m (by decide) (by decide)
   ·refine ⟨_,rfl,r,7,rfl,b.r,by decide,by decide,λ l g a f d=>?_⟩;exact ⟨_,_,rfl,rfl,q _ _ (b.trans a) (by omega) (by omega)⟩
inductive Ev
 | beg (h:Int) (n v x:V)
 | fin (h:Int) (a:V)
noncomputable def EvAt (K:c0) (H:Hp):Ev->V->Prop
 | .beg h n v x,y=>∃p,y=.ref p/\SqT K H p [.str "begin",.int h,n,v,x]
 | .fin h a,y=>∃p,y=.ref p/\SqT K H p [.str "end",.int h,a]
structure Rc where
 h:Int
 n:V
 v:V
 x:V
 a:V
 b:Nat
 e:Option Nat
noncomputable def endV:Option Nat->V
 | none=>.non
 | some i=>.int i
def RcAt (K:c0) (H:Hp) (r:Rc) (y:V):Prop:=∃p,y=.ref p/\SqT K H p [.int r.h,r.n,r.v,r.x,r.a,.int r.b,endV r.e]
def Tups (K:c0) (H H':Hp):Prop:=∀a xs,SqT K H a xs->SqT K H' a xs
theorem Tups.of {K:c0} {H H':Hp} (s:Same H H'):Tups K H H':=λ _ _ q=>s.seqT q
theorem Tups.lst {K:c0} {H:Hp} {l:Addr} {o:HO} {zs:List V} (e:H l=some (.lst zs)):Tups K H (upd H l o):=λ _ _ q=>q.wrote e
theorem Tups.dict {K:c0} {H:Hp} {l:Addr} {o:HO} {kvs:List (Key×V)} (e:H l=some (.dK kvs)):Tups K H (upd H l o):=λ a b h=>by
 rcases h with (h|⟨ob,h⟩)|h
 ·exact .inl (.inl (by rw [upd_ne (ne_of h e (by intro z;cases z))];exact h))
 ·exact .inl (.inr ⟨ob,by rw [upd_ne (ne_of h e (by intro z;cases z))];exact h⟩)
 ·exact .inr h
theorem zdk {n j:Nat} (h:j < n):ixN n (j:Nat)=some j:=by unfold ixN;rw [if_pos (by omega),if_pos (by omega)];rfl
theorem Same.keep {H H':Hp} {l:Addr} {o:HO} (s:Same H H') (n:H l=none):Same H (upd H' l o):=λ a x e=>by rw [upd_ne (z0d e n)];exact s a x e
theorem z0v {α β:Type} {R:α->β->Prop} {x:α} {y:β} :∀{xs:List α} {ys:List β},All2 R xs ys->R x y->All2 R (xs++[x]) (ys++[y])
 | _,_,.nil,h=>.cons h .nil
 | _,_,.cons a r,h=>.cons a (z0v r h)
theorem za8 {κ:Type} [DecidableEq κ] {kvs:List (κ×V)} {k:κ} {v:V}:(putK kvs k v).length<=kvs.length + 1:=by
 unfold putK;by_cases z:(kvs.any λ a=>decide (a.1=k))=true
 ·rw [if_pos z,A0];omega
 ·rw [if_neg z,F0];exact y0 _
noncomputable def lastI (h:Int) (hs:List Int):Option Nat:=(hs.foldl (λ (acc:Nat×Option Nat) k=>(acc.1 + 1,if k=h then some acc.1 else acc.2)) (0,none)).2
theorem lastF (h:Int) :∀hs:List Int,(hs.foldl (λ (acc:Nat×Option Nat) k=>(acc.1 + 1,if k=h then some acc.1 else acc.2)) (0,none)).1=hs.length:=by
 have b :∀(hs:List Int) (a:Nat×Option Nat),(hs.foldl (λ (acc:Nat×Option Nat) k=>(acc.1 + 1,if k=h then some acc.1 else acc.2)) a).1=a.1 + hs.length:=by
  intro hs;induction hs with
  | nil=>intro a;rfl
  | cons k hs ih=>intro a;rw [l6,ih,T1];show a.1 + 1 + hs.length=_;omega
 intro hs;rw [b hs (0,none)];simp
theorem z0y (h k:Int) (hs:List Int):lastI h (hs++[k])=if k=h then some hs.length else lastI h hs:=by unfold lastI;rw [C5];show (if k=h then some _ else _)=_;rw [lastF]
theorem z4e {h:Int} {hs:List Int} {j:Nat} (e:lastI h hs=some j):j < hs.length:=by
 have c :∀(hs:List Int) (a:Nat×Option Nat),(∀j,a.2=some j->j < a.1)->∀j,(hs.foldl (λ (acc:Nat×Option Nat) k=>(acc.1 + 1,if k=h then some acc.1 else acc.2)) a).2=some j->j < a.1 + hs.length:=by
  intro hs;induction hs with
  | nil=>intro a b j e;exact b j e
  | cons k hs ih=>
   intro a b j e;rw [l6] at e;have:=ih (a.1 + 1,if k=h then some a.1 else a.2) (λ j e=>by
    dsimp only at e⊢;by_cases z:k=h
    ·rw [if_pos z] at e;cases e;omega
    ·rw [if_neg z] at e;have:=b j e;omega) j e
   rw [T1];dsimp only at this;omega
 have:=c hs (0,none) (λ j e=>by cases e) j e;simpa using this
noncomputable def dstep (i:Nat) (rs:List Rc):Ev->List Rc
 | .beg h n v x=>rs++[⟨h,n,v,x,.non,i,none⟩]
 | .fin h a=>match lastI h (rs.map Rc.h) with|some j=>rs.modify j (λ r=>{ r with a:=a,e:=some i })|none=>rs
noncomputable def dAll:Nat->List Rc->List Ev->List Rc
 | _,rs,[]=>rs
 | i,rs,e :: es=>dAll (i + 1) (dstep i rs e) es
noncomputable def dWf:Nat->List Rc->List Ev->Prop
 | _,_,[]=>True
 | i,rs,e :: es=>(∀h a,e=.fin h a->(lastI h (rs.map Rc.h)).isSome=true)/\dWf (i + 1) (dstep i rs e) es
theorem RcAt.tups {K:c0} {H H':Hp} {r:Rc} {y:V} (t:Tups K H H') (h:RcAt K H r y):RcAt K H' r y:=h.elim λ p z=>⟨p,z.1,t _ _ z.2⟩
theorem EvAt.tups {K:c0} {H H':Hp} (t:Tups K H H') :∀{e:Ev} {y:V},EvAt K H e y->EvAt K H' e y
 | .beg h n v x,_,z=>z.elim λ p z=>⟨p,z.1,t _ _ z.2⟩
 | .fin h a,_,z=>z.elim λ p z=>⟨p,z.1,t _ _ z.2⟩
theorem z43 {α β:Type} {R:α->β->Prop} {f:α->α} {y:β} :∀{xs:List α} {ys:List β} {j:Nat} {x:α},All2 R xs ys->xs[j]? = some x->R (f x) y->All2 R (xs.modify j f) (ys.set j y)
 | _,_,_,_,.nil,e,_=>by simp at e
 | _,_,0,x,.cons a r,e,h=>by rw [Q2] at e;cases e;exact .cons h r
 | _,_,j + 1,x,.cons a r,e,h=>by rw [Z1] at e;exact .cons a (z43 r e h)
theorem z38 {α β:Type} {R:α->β->Prop} :∀{xs:List α} {ys:List β} {i:Nat} {x:α},All2 R xs ys->xs[i]? = some x->∃y,ys[i]? = some y/\R x y
 | _,_,i,x,.nil,e=>by simp at e
 | _,_,0,x,.cons a _,e=>by rw [Q2] at e;cases e;exact ⟨_,Q2,a⟩
 | _,_,i + 1,x,.cons _ r,e=>by rw [Z1] at e;obtain ⟨y,b,c⟩:=z38 r e;exact ⟨y,by rw [Z1];exact b,c⟩
def z9j (K:c0):Sp:=λ vs H Q _=>∃(t te:Addr) (th:V) (ys:List V) (es:List Ev),vs=[.ref t]/\SqT K H t [th,.ref te]/\SqT K H te ys/\All2 (EvAt K H) es ys/\es.length<=100/\dWf 0 [] es/\
 ∀l zs H',Same H H'->H l=none->H' l=some (.lst zs)->All2 (RcAt K H') (dAll 0 [] es) zs->Q (.ref l) H'
theorem zd2 (T:TX (kx w) mg):Fo P w mg base CX0 1 53 y1f ["tale"] (z9j (kx w)):=by
 refine (za9 w.params).ok sc_deeds (λ vs H Q E h=>?_) (λ c4 A c3 s H vs Q E hr h=>?_)
 ·obtain ⟨t,te,th,ys,B,rfl,_⟩:=h;rfl
 ·obtain ⟨t,te,th,ys,B,rfl,st,se,al,hl,wf,q⟩:=h;refine ⟨_,(z05 (ps_set (i:=1) sc_deeds.nd rfl (S0 rfl) (pe_lst pa_nil))
   (z05 (ps_set (i:=2) sc_deeds.nd rfl (S0 rfl) z6p)
   (z05 (ps_for X1 rfl (zcu rfl (T.no (z2i _)) (z00 (pe_ix ix_seq (pv 0) pe_int (λ _ _=>rfl)) pa_nil)) (pg_tup rfl (z0b (z0f (i:=3) sc_deeds.nd rfl (S0 rfl)) (z0b (z0f (i:=4) sc_deeds.nd rfl (S0 rfl)) z11)))
   (z06 (ps_if (z07 opEq (pe_ix ix_seq (pv 4) pe_int (λ _ _=>rfl)) pe_str (nomark _))
   (z05 (z41 (hu_of hr) (pv 2) (pe_ix ix_seq (pv 4) pe_int (λ _ _=>rfl)) (z0n z28 rfl (T.no (n_len _)) T5 (z00 (pv 1) pa_nil)) rfl)
   (z06 (z2g (z0z (pv 1) (z00 (pe_op opAdd (z3j slSeq (pv 4) (z47 pe_int) z7s) (pe_tup (z00 pe_non (z00 (pv 3) (z00 pe_non pa_nil))))) pa_nil)))))
   (z05 (ps_set (i:=5) sc_deeds.nd rfl (S0 rfl) (z1g (hu_of hr) (pv 2) (pe_ix ix_seq (pv 4) pe_int (λ _ _=>rfl)) (λ _ _=>rfl)))
   (z05 (ps_set (i:=6) sc_deeds.nd rfl (S0 rfl) (pe_ix ix_seq (pv 1) (pv 5) (λ _ _=>rfl)))
   (z06 (ps_asg (pe_op opAdd (z3j slSeq (pv 6) z7s (z47 pe_int)) (pe_tup (z00 (pe_ix ix_seq (pv 4) pe_int (λ _ _=>rfl)) (z00 (pe_ix ix_seq (pv 6) pe_int (λ _ _=>rfl)) (z00 (pv 3) pa_nil))))) (pg_sub (pv 1) (pv 5) z1z))))))))
   (z06 (ps_ret (pv 1)))))),?_⟩
  refine ⟨w_0,λ l a0=>?_⟩;intro d a3;have J:l≠d:=z0d z02 a3;have s0:upd H l (.lst []) d=none->H d=none:=λ z=>by rwa [upd_ne J.symm] at z
  have Y:Same H (upd (upd H l (.lst [])) d (.dK [])):=(Same.upd a0).trans (Same.upd a3);have e1:upd (upd H l (.lst [])) d (.dK []) l=some (.lst []):=by rw [upd_ne J];exact z02
  have e2:upd (upd H l (.lst [])) d (.dK []) d=some (.dK []):=z02;generalize upd (upd H l (.lst [])) d (.dK [])=H2 at Y e1 e2⊢;have b6:=z03 al;refine ⟨_,rfl,.inr (.inl ⟨t,_,1,.ref te,rfl,rfl,Y.seqT st,z04 (j:=1) rfl,te,ys,rfl,Y.seqT se,?_⟩)⟩;refine zb7 (K:=KX w.params) (a:=te) (xs:=ys) (λ i σ R=>∃rs c f,R l=some (.lst c)/\All2 (RcAt (kx w) R) rs c/\R d=some (.dK f)/\f.length<=i/\rs.length<=i/\(∀h,valV f (.inl h)=(lastI h (rs.map Rc.h)).map λ j=>V.int (j:Nat))/\dAll i rs (B.drop i)=dAll 0 [] B/\dWf i rs (B.drop i)/\Same H R/\∃x3 x4 x5 x6,σ=[some (.ref t),some (.ref l),some (.ref d),x3,x4,x5,x6])
   ⟨[],[],[],e1,.nil,e2,y0 _,y0 _,λ h=>rfl,by rw [E5],by rw [E5];exact wf,Y,_,_,_,_,rfl⟩ (λ i σ R h=>?_) ?_ ?_
  ·obtain ⟨rs,c,f,_,_,_,_,_,_,_,_,s',_⟩:=h;exact s'.seqT se
  ·rintro i y σ Z p hy ⟨rs,c,f,el,ar,ed,hk,hr',hv,C,dw,s3,x3,x4,x5,x6,rfl⟩ hp;obtain ⟨e,he,ev⟩:=z09 al hy;obtain ⟨hi,ee⟩:=List.getElem?_eq_some_iff.mp he;have dr:B.drop i=e :: B.drop (i + 1):=by rw [d5 hi,ee]
   rw [dr] at C dw;have s4:=s3.trans (Same.upd (o:=.tup [.int i,y]) hp);have U:=(Same.upd (o:=.tup [.int i,y]) hp) _ _ el;have S:=(Same.upd (o:=.tup [.int i,y]) hp) _ _ ed;have W:=z01 (λ a b z=>RcAt.tups (.of (Same.upd (o:=.tup [.int i,y]) hp)) z) ar;have a9:upd Z p (.tup [.int i,y]) p=some (.tup [.int i,y]):=z02;generalize upd Z p (.tup [.int i,y])=H4 at s4 U S W a9⊢;have a8:=EvAt.tups (.of s4) ev;refine ⟨p,_,rfl,SqT.of a9,rfl,.int i,_,rfl,y,_,rfl,rfl,?_⟩;have lz:c.length=rs.length:=z03 W;have b4:100<=sizeLine:=by decide
   have b3:i < 100:=X0 hi hl;cases e with
   | beg h n v x=>
    obtain ⟨G,rfl,I⟩:=a8;refine ⟨_,rfl,.inr (.inl ⟨G,_,0,.str "begin",rfl,rfl,I,z04 (j:=0) rfl,rfl,_,rfl,iteP (decide_eq_true rfl) ?_⟩)⟩;refine ⟨_,rfl,.inl ⟨l,c,rfl,.inl (SqL.of U),⟨_,rfl,⟨_,rfl,.inr (.inl ⟨G,_,1,.int h,rfl,rfl,I,z04 (j:=1) rfl,d,_,rfl,DPut.k (k:=.inl h) S (W1 hk (X0 b3 b4)),?_⟩)⟩⟩⟩⟩;have c0:H d=none:=s0 a3;have t5:Tups (kx w) H4 (upd H4 d (.dK (putK f (.inl h) (.int (c.length:Nat))))):=Tups.dict S;have s5:=Same.keep (o:=.dK (putK f (.inl h) (.int (c.length:Nat)))) s4 c0;have a4:upd H4 d (.dK (putK f (.inl h) (.int (c.length:Nat)))) l=some (.lst c):=by rw [upd_ne J];exact U
    have b0:upd H4 d (.dK (putK f (.inl h) (.int (c.length:Nat)))) d=some (.dK (putK f (.inl h) (.int (c.length:Nat)))):=z02;generalize upd H4 d (.dK (putK f (.inl h) (.int (c.length:Nat))))=H5 at t5 s5 a4 b0⊢;have b9:=t5 _ _ I;have b8:=z01 (λ a b z=>RcAt.tups t5 z) W;refine ⟨_,rfl,.inl ⟨rfl,c,SqL.of a4⟩,⟨_,rfl,1,rfl,.inr (.inl ⟨G,_,rfl,b9,λ z=>absurd z.1 (show ¬ HT.sIx 5 0 (some 1)=0 by decide),λ F O=>?_⟩)⟩⟩;have c1:cutV [V.str "begin",.int h,n,v,x] (some 1) none=[.int h,n,v,x]:=rfl;rw [c1];refine ⟨_,rfl,w_3,λ D X=>.inr (.inr (.inr ⟨F,D,_,_,rfl,rfl,(Same.upd X).seqT (SqT.of z02),SqT.of z02,by simp,w_7,λ z=>(by cases z),λ _ g a1=>?_⟩))⟩;have u:Same H5 (upd (upd (upd H5 F (.tup [.int h,n,v,x])) D (.tup [.non,.int i,.non])) g (.tup ([.int h,n,v,x]++[.non,.int i,.non]))):=((Same.upd O).trans (Same.upd X)).trans (Same.upd a1);have N:upd (upd (upd H5 F (.tup [.int h,n,v,x])) D (.tup [.non,.int i,.non])) g (.tup ([.int h,n,v,x]++[.non,.int i,.non])) g=some (.tup ([.int h,n,v,x]++[.non,.int i,.non])):=z02;generalize upd (upd (upd H5 F (.tup [.int h,n,v,x])) D (.tup [.non,.int i,.non])) g (.tup ([.int h,n,v,x]++[.non,.int i,.non]))=H6 at u N⊢;have M:=u _ _ a4;have a2:=u _ _ b0;have a5:=z01 (λ a b z=>RcAt.tups (.of u) z) b8;have L:Tups (kx w) H6 (upd H6 l (.lst (c++[.ref g]))):=Tups.lst M;refine ⟨l,c,_,rfl,rfl,M,W1 (D0 (B6 lz) hr') (X0 b3 b4),?_⟩;refine ⟨rs++[⟨h,n,v,x,.non,i,none⟩],c++[.ref g],putK f (.inl h) (.int (c.length:Nat)),z02,?_,?_,?_,?_,?_,(show dAll (i + 1) (dstep i rs (.beg h n v x)) _=_ from C),dw.2,Same.keep (s5.trans u) a0,_,_,_,_,rfl⟩
    ·exact z0v (z01 (λ a b z=>RcAt.tups L z) a5) ⟨g,rfl,L _ _ (SqT.of N)⟩
    ·rw [upd_ne J.symm];exact a2
    ·exact D0 za8 (by omega)
    ·rw [F0];show rs.length + 1<=i + 1;omega
    ·intro k;rw [z9o,V0];show _=Option.map _ (lastI k (rs.map Rc.h++[h]));rw [z0y,hv k,A0,lz];by_cases z:h=k
     ·rw [if_pos z,if_pos (by rw [z])];rfl
     ·rw [if_neg z,if_neg (λ y=>z (W2 y).symm)]
   | fin h a=>
    obtain ⟨G,rfl,I⟩:=a8;obtain ⟨j,hj⟩:=Option.isSome_iff_exists.mp (dw.1 h a rfl);have c2:valV f (.inl h)=some (.int (j:Nat)):=by rw [hv h,hj];rfl
    have a7:j < rs.length:=by have:=z4e hj;rwa [A0] at this
    have b1:rs[j]? = some rs[j]:=P0 a7;obtain ⟨yj,b5,pj,rfl,sj⟩:=z38 W b1;have b7:DGet H4 d (.int h) (some (.int (j:Nat))):=c2 ▸ DGet.k (k:=.inl h) S;refine ⟨_,rfl,.inr (.inl ⟨G,_,0,.str "end",rfl,rfl,I,z04 (j:=0) rfl,rfl,_,rfl,iteK ?_⟩)⟩;refine ⟨_,rfl,⟨_,rfl,.inr (.inl ⟨G,_,1,.int h,rfl,rfl,I,z04 (j:=1) rfl,d,_,rfl,b7,?_⟩)⟩⟩;refine ⟨_,rfl,_,rfl,.inl ⟨l,c,j,.ref pj,rfl,rfl,SqL.of U,z04 b5,?_⟩⟩;refine ⟨_,rfl,4,rfl,.inr (.inl ⟨pj,_,rfl,sj,λ z=>absurd z.2 (show ¬ HT.sIx 7 7 (some 4)=7 by decide),λ F O=>?_⟩)⟩;have c1:cutV [.int rs[j].h,rs[j].n,rs[j].v,rs[j].x,rs[j].a,.int rs[j].b,endV rs[j].e] none (some 4)=[.int rs[j].h,rs[j].n,rs[j].v,rs[j].x]:=rfl;rw [c1];refine ⟨_,rfl,.inr (.inl ⟨G,_,2,a,rfl,rfl,(Same.upd O).seqT I,z04 (j:=2) rfl,?_⟩)⟩;refine ⟨_,rfl,.inr (.inl ⟨pj,_,5,.int rs[j].b,rfl,rfl,(Same.upd O).seqT sj,z04 (j:=5) rfl,?_⟩)⟩;refine ⟨_,rfl,w_3,λ D X=>.inr (.inr (.inr ⟨F,D,_,_,rfl,rfl,(Same.upd X).seqT (SqT.of z02),SqT.of z02,by simp,w_7,λ z=>(by cases z),λ _ g a1=>?_⟩))⟩;have u:Same H4 _:=((Same.upd O).trans (Same.upd X)).trans (Same.upd (o:=.tup ([.int rs[j].h,rs[j].n,rs[j].v,rs[j].x]++[a,.int rs[j].b,.int (i:Nat)])) a1);have N:upd (upd (upd H4 F (.tup [.int rs[j].h,rs[j].n,rs[j].v,rs[j].x])) D (.tup [a,.int rs[j].b,.int (i:Nat)])) g (.tup ([.int rs[j].h,rs[j].n,rs[j].v,rs[j].x]++[a,.int rs[j].b,.int (i:Nat)])) g=some (.tup ([.int rs[j].h,rs[j].n,rs[j].v,rs[j].x]++[a,.int rs[j].b,.int (i:Nat)])):=z02;generalize upd (upd (upd H4 F (.tup [.int rs[j].h,rs[j].n,rs[j].v,rs[j].x])) D (.tup [a,.int rs[j].b,.int (i:Nat)])) g (.tup ([.int rs[j].h,rs[j].n,rs[j].v,rs[j].x]++[a,.int rs[j].b,.int (i:Nat)]))=H6 at u N⊢;have M:=u _ _ U;have a2:=u _ _ S;have a5:=z01 (λ a b z=>RcAt.tups (.of u) z) W;have L:Tups (kx w) H6 (upd H6 l (.lst (c.set j (.ref g)))):=Tups.lst M;refine ⟨_,rfl,_,rfl,l,c,j,j,rfl,rfl,M,zdk (show j < c.length by rw [lz];exact a7),?_⟩;have dd:dstep i rs (.fin h a)=rs.modify j (λ r=>{ r with a:=a,e:=some i }):=by unfold dstep;dsimp only;rw [hj]
    have b2:dAll (i + 1) (dstep i rs (.fin h a)) (List.drop (i + 1) B)=_:=C;have a6:=dw.2;rw [dd] at b2 a6;have mh:(rs.modify j (λ r=>{ r with a:=a,e:=some i })).map Rc.h=rs.map Rc.h:=by
     apply D5;intro m;rw [N1,N1,A1];cases rs[m]? with
     | none=>rfl
     | some r=>
      show some (if j=m then _ else r).h=some r.h;by_cases z:j=m
      ·rw [if_pos z]
      ·rw [if_neg z]
    refine ⟨_,c.set j (.ref g),f,z02,?_,?_,?_,?_,?_,b2,a6,Same.keep (s4.trans u) a0,_,_,_,_,rfl⟩
    ·exact z43 (z01 (λ a b z=>RcAt.tups L z) a5) b1 ⟨g,rfl,L _ _ (SqT.of N)⟩
    ·rw [upd_ne J.symm];exact a2
    ·omega
    ·rw [E6];omega
    ·intro k;rw [mh];exact hv k
  ·rintro σ Z ⟨rs,c,f,el,ar,ed,hk,hr',hv,C,dw,s3,x3,x4,x5,x6,rfl⟩;have:B.drop ys.length=[]:=by rw [b6];exact List.drop_length
   rw [this] at C;have C:rs=dAll 0 [] B:=C;rw [<-C] at q;exact ⟨_,rfl,q l c Z s3 a0 el ar⟩
end
section
noncomputable def oStep (os:List Int):Ev->List Int
 | .beg h _ _ _=>os++[h]
 | .fin h _=>os.filter λ k=>decide (k≠h)
noncomputable def oOk (os:List Int):Ev->Prop
 | .beg h _ _ _=>h∉os
 | .fin h _=>h∈os
noncomputable def EWf:List Int->List Ev->Prop
 | _,[]=>True
 | os,e :: es=>oOk os e/\EWf (oStep os e) es
theorem EWf.snoc :∀{es:List Ev} {os:List Int} {e:Ev},EWf os es->oOk (es.foldl oStep os) e->EWf os (es++[e])
 | [],os,e,_,h=>⟨h,trivial⟩
 | x :: es,os,e,w,h=>⟨w.1,EWf.snoc w.2 h⟩
theorem zaf {h:Int} (hs:List Int) :∀{j:Nat},lastI h hs=some j->hs[j]? = some h/\∀k,j < k->hs[k]?≠some h:=by
 suffices key :∀n (hs:List Int),hs.length=n->∀{j:Nat},lastI h hs=some j->hs[j]? = some h/\∀k,j < k->hs[k]?≠some h from λ {j} a=>key _ hs rfl a;intro n;induction n with
 | zero=>intro hs e j a;have:=z4e a;omega
 | succ n ih=>
  intro hs e j a;have ne:hs≠[]:=λ z=>by rw [z] at e;cases e
  obtain ⟨b,t,rfl⟩ :∃b t,hs=b++[t]:=⟨hs.dropLast,hs.getLast ne,(S8 ne).symm⟩
  rw [F0] at e;have e:b.length=n:=by simpa using e
  rw [z0y] at a;by_cases z:t=h
  ·rw [if_pos z] at a;cases a;refine ⟨by simp [z],λ k c=>?_⟩;rw [M3 (by rw [F0];show b.length + 1<=k;omega)];intro y;cases y
  ·rw [if_neg z] at a;obtain ⟨d,f⟩:=ih b e a;have lt:=z4e a;refine ⟨by rw [Y0 lt];exact d,λ k c=>?_⟩;by_cases y:k < b.length
   ·rw [Y0 y];exact f k c
   ·by_cases y2:k=b.length
    ·subst y2;rw [F1 (y0 _)];simp;exact z
    ·rw [M3 (by rw [F0];show b.length + 1<=k;omega)];intro y;cases y
theorem z9l {h:Int} (hs:List Int) (hm:h∈hs):(lastI h hs).isSome=true:=by
 suffices key :∀n (hs:List Int),hs.length=n->h∈hs->(lastI h hs).isSome=true from key _ hs rfl hm;intro n;induction n with
 | zero=>intro hs e hm;rw [List.length_eq_zero_iff.mp e] at hm;cases hm
 | succ n ih=>
  intro hs e hm;have ne:hs≠[]:=λ z=>by rw [z] at e;cases e
  obtain ⟨a,t,rfl⟩ :∃a t,hs=a++[t]:=⟨hs.dropLast,hs.getLast ne,(S8 ne).symm⟩
  rw [F0] at e;rw [z0y];by_cases z:t=h
  ·rw [if_pos z];rfl
  ·rw [if_neg z];refine ih a (by simpa using e) ?_;rcases List.mem_append.mp hm with y|y
   ·exact y
   ·exact absurd (List.mem_singleton.mp y).symm z
structure DInv (i:Nat) (rs:List Rc) (os:List Int):Prop where
 b :∀r∈rs,r.b < i
 e :∀r∈rs,∀e,r.e=some e->e < i
 p :∀(x y:Nat) (r q:Rc),x < y->rs[x]? = some r->rs[y]? = some q->r.b < q.b/\(r.h=q.h->∃e,r.e=some e/\e < q.b)
 o :∀r∈rs,r.h∉os->r.e.isSome=true
 m :∀h∈os,h∈rs.map Rc.h
theorem DInv.nil:DInv 0 [] []:=⟨λ _ h=>(by cases h),λ _ h=>(by cases h),λ x y r q _ h=>(by simp at h),λ _ h=>(by cases h),λ _ h=>(by cases h)⟩
theorem z3d {rs:List Rc} {j:Nat} {f:Rc->Rc} (hf :∀r,(f r).h=r.h):(rs.modify j f).map Rc.h=rs.map Rc.h:=by
 apply D5;intro m;rw [N1,N1,A1];cases rs[m]? with
 | none=>rfl
 | some r=>
  show some (if j=m then f r else r).h=some r.h;by_cases z:j=m
  ·rw [if_pos z,hf]
  ·rw [if_neg z]
theorem DInv.step {i:Nat} {rs:List Rc} {os:List Int} (I:DInv i rs os) {e:Ev} (ok:oOk os e):DInv (i + 1) (dstep i rs e) (oStep os e)/\∀h a,e=.fin h a->(lastI h (rs.map Rc.h)).isSome=true:=by
 cases e with
 | beg h n v x=>
  have ok:h∉os:=ok;refine ⟨⟨λ r d=>?_,λ r d e c=>?_,λ u g r q E K C=>?_,λ r d A=>?_,λ k O=>?_⟩,λ h a e=>by cases e⟩
  ·rcases List.mem_append.mp d with z|z
   ·have:=I.b r z;omega
   ·rw [List.mem_singleton.mp z];exact V1 i
  ·rcases List.mem_append.mp d with z|z
   ·have:=I.e r z e c;omega
   ·rw [List.mem_singleton.mp z] at c;cases c
  ·have a1:g < (dstep i rs (.beg h n v x)).length:=(List.getElem?_eq_some_iff.mp C).1;have hl:(dstep i rs (.beg h n v x)).length=rs.length + 1:=by show (rs++[_]).length=_;rw [F0];rfl
   have U:rs[u]? = some r:=by
    have:(rs++[_])[u]? = some r:=K
    rwa [Y0 (by omega)] at this
   by_cases z:g < rs.length
   ·have a0:rs[g]? = some q:=by
     have:(rs++[_])[g]? = some q:=C
     rwa [Y0 z] at this
    exact I.p u g r q E U a0
   ·have F:(rs++[_])[g]? = some q:=C;have Z:g=rs.length:=by omega
    subst Z;rw [F1 (y0 _)] at F;simp at F;have J:=d0 U;rw [<-F];refine ⟨I.b r J,λ B=>?_⟩;have:r.e.isSome=true:=I.o r J (by rw [B];exact ok);obtain ⟨e,c⟩:=Option.isSome_iff_exists.mp this;exact ⟨e,c,I.e r J e c⟩
  ·rcases List.mem_append.mp d with z|z
   ·exact I.o r z λ y=>A (List.mem_append.mpr (.inl y))
   ·rw [List.mem_singleton.mp z] at A;exact absurd (List.mem_append.mpr (.inr (List.mem_singleton.mpr rfl))) A
  ·show k∈(rs++[_]).map Rc.h;rw [V0];rcases List.mem_append.mp O with z|z
   ·exact List.mem_append.mpr (.inl (I.m k z))
   ·rw [List.mem_singleton.mp z];exact List.mem_append.mpr (.inr (List.mem_singleton.mpr rfl))
 | fin h a=>
  have ok:h∈os:=ok;obtain ⟨j,N⟩:=Option.isSome_iff_exists.mp (z9l _ (I.m h ok));refine ⟨?_,λ h' a' e=>by cases e;rw [N];rfl⟩;obtain ⟨S,X⟩:=zaf _ N;have hd:dstep i rs (.fin h a)=rs.modify j (λ r=>{ r with a:=a,e:=some i }):=by unfold dstep;dsimp only;rw [N]
  rw [hd];have hs:oStep os (.fin h a)=os.filter λ k=>decide (k≠h):=rfl;rw [hs];rw [N1] at S;obtain ⟨Y,R,Q⟩:=Option.map_eq_some_iff.mp S;have get :∀m q,(rs.modify j (λ r=>{ r with a:=a,e:=some i }))[m]? = some q->∃r,rs[m]? = some r/\q.h=r.h/\q.b=r.b/\(m=j->q.e=some i)/\(m≠j->q=r):=λ m q V=>by
   rw [A1] at V;obtain ⟨r,d,e⟩:=Option.map_eq_some_iff.mp V;refine ⟨r,d,?_⟩;by_cases z:j=m
   ·rw [if_pos z] at e;rw [<-e];exact ⟨rfl,rfl,λ _=>rfl,λ y=>absurd z.symm y⟩
   ·rw [if_neg z] at e;rw [<-e];exact ⟨rfl,rfl,λ y=>absurd y.symm z,λ _=>rfl⟩
  refine ⟨λ r d=>?_,λ r d e c=>?_,λ u g r q E K C=>?_,λ r d A=>?_,λ k O=>?_⟩
  ·obtain ⟨m,D⟩:=List.mem_iff_getElem?.mp d;obtain ⟨s,t,_,h3,_⟩:=get m r D;have:=I.b s (d0 t);omega
  ·obtain ⟨m,D⟩:=List.mem_iff_getElem?.mp d;obtain ⟨s,t,_,_,M,L⟩:=get m r D;by_cases z:m=j
   ·rw [M z] at c;cases c;exact V1 i
   ·rw [L z] at c;have:=I.e s (d0 t) e c;omega
  ·obtain ⟨s,H,r2,r3,r4,r5⟩:=get u r K;obtain ⟨T,W,P,q3,_⟩:=get g q C;obtain ⟨p1,G⟩:=I.p u g s T E H W;refine ⟨by omega,λ B=>?_⟩;by_cases z:u=j
   ·subst z;rw [R] at H;cases H;refine absurd ?_ (X g E);rw [N1,W];show some T.h=some h;rw [<-P,<-B,r2,Q]
   ·rw [r5 z] at B⊢;rw [P] at B;obtain ⟨e,c,lt⟩:=G B;exact ⟨e,c,by omega⟩
  ·obtain ⟨m,D⟩:=List.mem_iff_getElem?.mp d;obtain ⟨s,t,h2,_,M,L⟩:=get m r D;by_cases z:m=j
   ·rw [M z];rfl
   ·rw [L z] at A⊢;by_cases y:s.h=h
    ·have lt:m < j:=by
      rcases Nat.lt_or_gt_of_ne z with l|l
      ·exact l
      ·exact absurd (by rw [N1,t];show some s.h=_;rw [y]) (X m l)
     obtain ⟨_,G⟩:=I.p m j s Y lt t R;obtain ⟨e,c,_⟩:=G (by rw [y,Q]);rw [c];rfl
    ·exact I.o s (d0 t) λ w=>A (List.mem_filter.mpr ⟨w,decide_eq_true y⟩)
  ·rw [z3d (f:=λ r=>{ r with a:=a,e:=some i }) (λ r=>rfl)];exact I.m k (List.mem_filter.mp O).1
theorem DInv.all :∀{es:List Ev} {i:Nat} {rs:List Rc} {os:List Int},DInv i rs os->EWf os es->dWf i rs es/\∃os',DInv (i + es.length) (dAll i rs es) os'
 | [],i,rs,os,I,_=>⟨trivial,os,I⟩
 | e :: es,i,rs,os,I,w=>by obtain ⟨d,a⟩:=I.step w.1;obtain ⟨b,os',c⟩:=DInv.all d w.2;refine ⟨⟨a,b⟩,os',?_⟩;rw [T1,show i + (es.length + 1)=i + 1 + es.length by omega];exact c
theorem z1t {kvs:List (Key×V)} {k:Key}:(valV kvs k).isSome=true↔k∈kvs.map (·.1):=by
 induction kvs with
 | nil=>simp [valV]
 | cons p r ih=>
  obtain ⟨a,pv⟩:=p;by_cases y:a=k
  ·subst y;rw [z0m rfl];simp
  ·rw [z0o y,ih,O0,B3];exact ⟨λ z=>.inr z,λ z=>z.resolve_left λ x=>y x.symm⟩
theorem z27 {kvs:List (Key×V)} {k:Key} {v:V} (h:k∉kvs.map (·.1)):putK kvs k v=kvs++[(k,v)]:=by unfold putK;rw [if_neg];intro z;obtain ⟨p,a,e⟩:=List.any_eq_true.mp z;exact h (List.mem_map.mpr ⟨p,a,of_decide_eq_true e⟩)
theorem z44 {α β:Type} {R S:α->β->Prop} :∀{xs:List α} {ys:List β},(∀a b,b∈ys->R a b->S a b)->All2 R xs ys->All2 S xs ys
 | _,_,_,.nil=>.nil
 | _,_,h,.cons a r=>.cons (h _ _ d3 a) (z44 (λ x y c z=>h x y (T2 _ c) z) r)
theorem z3y {α β:Type} {R:α->β->Prop} :∀{xs:List α} {ys:List β},ys.length=xs.length->(∀(k:Nat) a b,xs[k]? = some a->ys[k]? = some b->R a b)->All2 R xs ys
 | [],[],_,_=>.nil
 | [],y :: ys,h,_=>by cases h
 | x :: xs,[],h,_=>by cases h
 | x :: xs,y :: ys,h,f=>.cons (f 0 x y rfl rfl) (z3y (by simpa using h) λ k a b c d=>f (k + 1) a b (by rw [Z1];exact c) (by rw [Z1];exact d))
end
section
variable {P:Program} {w:Z0} {mg:Str->Option Value} {base:Heap}
theorem z6d :∀{xs ys:List Int},xs.Nodup->(∀x∈xs,x∈ys)->xs.length<=ys.length
 | [],_,_,_=>A2 _
 | x :: r,ys,nd,h=>by rw [n5] at nd;have b:=h x (List.mem_cons.mpr (.inl rfl));have:=z6d (xs:=r) (ys:=ys.erase x) nd.2 λ y a=>(List.mem_erase_of_ne (λ e=>nd.1 (by rw [<-e];exact a))).mpr (h y (List.mem_cons.mpr (.inr a)));rw [List.length_erase_of_mem b] at this;have c:0 < ys.length:=N9 b;rw [T1];omega
noncomputable def cyc (x:Int):Int:=if x > 1000000000 then x - 2000000001 else x
theorem z18 {f:Nat->Int} :∀n:Nat,(∀i j,i < j->j < n->f i≠f j)->((U0 n).map f).Nodup
 | 0,_=>.nil
 | n + 1,h=>by rw [B7,V0,u8];refine ⟨z18 n λ i j a b=>h i j a (by omega),by show [f n].Nodup;rw [n5];exact ⟨B0,.nil⟩,λ a d b g e=>?_⟩;obtain ⟨i,c,rfl⟩:=List.mem_map.mp d;rw [List.mem_singleton.mp g] at e;exact h i n (List.mem_range.mp c) (V1 n) e
theorem zdj {s0:Int} {ks:List Int} {j:Nat} (h1:-1000000000<=s0) (h2:s0<=1000000000) (hj:j<=1000) (h :∀i,i < j->cyc (s0 + i)∈ks):j<=ks.length:=by
 have:=z6d (xs:=(U0 j).map λ i=>cyc (s0 + (i:Nat))) (ys:=ks) (z18 j λ a b e f=>by
  unfold cyc;split<;>split<;>omega) λ x d=>by
  obtain ⟨i,c,rfl⟩:=List.mem_map.mp d;exact h i (List.mem_range.mp c)
 rwa [A0,X2] at this
def z3r (K:c0):Sp:=λ vs H Q _=>∃r:Addr,vs=[.ref r]/\RowAt H r/\∀(nm:Str) H',Rw r H H'->Q (.str nm) H'
theorem z68 (T:TX (kx w) mg) (c0:Ca P w mg base "_law_take" ["row","many"] 1 z0x):Fo P w mg base CX0 2 188 y0k ["row"] (z3r (kx w)):=by
 refine (z2m w.params).ok sc__law_name (λ g H Q E h=>?_) (λ y A x s H g Q E d h=>?_)
 ·obtain ⟨r,rfl,_⟩:=h;rfl
 ·obtain ⟨r,rfl,R,q⟩:=h;refine ⟨_,(z05 (ps_set (i:=1) sc__law_name.nd rfl (S0 rfl) pe_str)
   (z05 (ps_set (i:=2) sc__law_name.nd rfl (S0 rfl) pe_str)
   (z05 (ps_for X1 rfl (z4y rfl (T.no (z80 _)) (z00 (pe_op opAdd pe_int (pe_cal c0 (d.mono (by decide)) rfl (z00 (pv 0) (z00 pe_int pa_nil)))) pa_nil)) (z0f (i:=3) sc__law_name.nd rfl (S0 rfl))
   (z06 (ps_set (i:=2) sc__law_name.nd rfl (S0 rfl) (pe_op opAdd (pv 2) (pe_ix ix_seq (pv 1) (pe_cal c0 (d.mono (by decide)) rfl (z00 (pv 0) (z00 pe_int pa_nil))) (λ _ _=>rfl))))))
   (z06 (ps_ret (pv 2)))))),?_⟩
  have u:("abcdefghijklmnopqrstuvwxyz" : Str).cps.toList.length=26:=by decide +kernel
  have j:("abcdefghijklmnopqrstuvwxyz" : Str).length<=sizeLine:=by decide +kernel
  refine ⟨_,rfl,r,8,rfl,R,by decide,by decide,λ t C p B D=>.inl ⟨_,_,rfl,rfl,1 + t,rfl,by omega,by omega,?_⟩⟩;refine z53 (lo:=0) (n:=(1 + t).toNat) (λ i σ o=>Rw r H o/\∃(nm:Str) (x3:Option V),nm.length<=i/\σ=[some (.ref r),some (.str "abcdefghijklmnopqrstuvwxyz"),some (.str nm),x3]) ⟨p,"",_,y0 _,rfl⟩ ?_ ?_
  ·rintro i σ l F ⟨w2,nm,x3,ln,rfl⟩;rw [Y9];refine g_name ?_;refine ⟨_,rfl,_,rfl,_,rfl,r,26,rfl,w2.r,by decide,by decide,λ v z f a b=>?_⟩;obtain ⟨c,k,_⟩:=atI_of (xs:=("abcdefghijklmnopqrstuvwxyz" : Str).cps.toList) a (by rw [u];exact b);have e:(⟨#[c]⟩:Str).length=1:=rfl;refine .inr (.inr ⟨_,v,c,rfl,rfl,j,k,.inr (.inl ⟨nm,⟨#[c]⟩,rfl,rfl,by rw [e];exact D0 (m:=100) (by omega) (by decide),?_⟩)⟩);exact ⟨w2.trans f,_,_,by rw [PySem.Str.length_append,e];omega,rfl⟩
  ·rintro σ l ⟨w2,nm,x3,ln,rfl⟩;exact ⟨_,rfl,q _ _ w2⟩
def z2w (K:c0):Sp:=λ vs H Q _=>∃(r u:Addr) (ks:List Int) (kvs:List (Key×V)),vs=[.ref r,.ref u]/\RowAt H r/\H u=some (.dK kvs)/\r≠u/\kvs.map (·.1)=ks.map Sum.inl/\ks.length<=100/\∀(i:Int) H',Rw r H H'->-1000000000<=i->i<=1000000000->i∉ks->Q (.int i) (upd H' u (.dK (putK kvs (.inl i) (.bl true))))
theorem z5m (T:TX (kx w) mg) (c0:Ca P w mg base "_law_worth" ["row"] 2 z2y):Fo P w mg base CX0 3 195 y0e ["row","used"] (z2w (kx w)):=by
 refine (z1w w.params).ok sc__law_fresh (λ F H Q E h=>?_) (λ M A L s H F Q E f h=>?_)
 ·obtain ⟨r,u,c,g,rfl,_⟩:=h;rfl
 ·obtain ⟨r,u,c,g,rfl,R,K,I,x,N,q⟩:=h;refine ⟨_,(z05 (ps_set (i:=2) sc__law_fresh.nd rfl (S0 rfl) (pe_cal c0 (f.mono (by decide)) rfl (z00 (pv 0) pa_nil)))
   (z05 (zd7 X1 (pt_cmp (pc_din (hu_of f) (pv 2) (pv 1)) (by with_unfolding_all rfl))
   (z05 (ps_set (i:=2) sc__law_fresh.nd rfl (S0 rfl) (pe_op opAdd (pv 2) pe_int))
   (z06 (ps_if (z07 op_gt (pv 2) (pe_op op_pow pe_int pe_int) (nomark _))
   (z06 (ps_set (i:=2) sc__law_fresh.nd rfl (S0 rfl) (pe_un un_neg (pe_op op_pow pe_int pe_int))))
   z0g))))
   (z05 (z41 (hu_of f) (pv 1) (pv 2) pe_bl rfl)
   (z06 (ps_ret (pv 2)))))),?_⟩
  refine ⟨_,rfl,r,rfl,R,λ a o B C G=>?_⟩;refine g_name ?_;have l:o u=some (.dK g):=B.k _ _ (J4 I) K;have t :∀i:Int,(valV g (.inl i)).isSome=true↔i∈c:=λ i=>by rw [z1t,x];exact ⟨λ z=>by obtain ⟨k,b,e⟩:=List.mem_map.mp z;exact W2 e ▸ b,λ z=>List.mem_map.mpr ⟨i,z,rfl⟩⟩
  refine ⟨λ m σ d=>d=o/\∃j:Nat,j<=c.length/\m=100 - j/\(∀i:Nat,i < j->cyc (a + i)∈c)/\σ=[some (.ref r),some (.ref u),some (.int (cyc (a + j)))],⟨100,rfl,0,A2 _,rfl,λ _ z=>absurd z (O2 _),?_⟩,?_⟩
  ·have:cyc (a + ((0:Nat):Int))=a:=by unfold cyc;rw [if_neg (by omega)];omega
   rw [this];rfl
  ·rintro m σ J ⟨rfl,j,hj,rfl,hin,rfl⟩;have n:-1000000000<=cyc (a + j)/\cyc (a + j)<=1000000000:=by unfold cyc;split<;>omega
   have y:cyc (a + ((j + 1:Nat):Int))=if cyc (a + j) + 1 > 1000000000 then -1000000000 else cyc (a + j) + 1:=by unfold cyc;split<;>split<;>split<;>omega
   refine ⟨_,rfl,_,rfl,u,_,rfl,DGet.k (k:=.inl (cyc (a + j))) l,_,rfl,?_⟩;by_cases b:cyc (a + j)∈c
   ·refine iteP ((t _).mpr b) ?_;have v :∀i:Nat,i < j + 1->cyc (a + i)∈c:=λ i O=>by
     rcases i4 i j with z|z
     ·exact hin i z
     ·have:i=j:=by omega
      rw [this];exact b
    have D:=zdj C G (j:=j + 1) (by omega) v;refine ⟨λ p d=>d=J/\p=[some (.ref r),some (.ref u),some (.int (cyc (a + ((j + 1:Nat):Int))))],?_,?_⟩
    ·rintro p d ⟨rfl,rfl⟩;exact ⟨100 - (j + 1),by omega,rfl,j + 1,D,rfl,v,rfl⟩
    ·refine ⟨_,rfl,.inl ⟨_,_,rfl,rfl,?_⟩⟩;refine ⟨_,rfl,_,_,rfl,rfl,p9,_,_,rfl,rfl,_,rfl,?_⟩;rw [e9];by_cases z:cyc (a + j) + 1 > 1000000000
     ·refine iteP (decide_eq_true z) ⟨_,_,rfl,rfl,p9,_,rfl,rfl,?_⟩;rw [y,if_pos z,e9];rfl
     ·refine iteN (λ e=>z (of_decide_eq_true e)) ⟨rfl,?_⟩;rw [y,if_neg z];rfl
   ·refine iteN (λ e=>b ((t _).mp e)) ?_;refine ⟨_,rfl,_,rfl,u,_,rfl,DPut.k (k:=.inl (cyc (a + j))) l (W1 (m:=100) (by have:=congrArg M8 x;rw [A0,A0] at this;omega) (by decide)),?_⟩;exact ⟨_,rfl,q _ _ B n.1 n.2 b⟩
end
section
inductive TW (nm:Str) (wr:Int):List Ev->List (Int×Bool)->List Int->Prop
 | nil:TW nm wr [] [] []
 | wri {es:List Ev} {os:List (Int×Bool)} {us:List Int} {i:Int}:TW nm wr es os us->wr∉os.map (·.1)->i≠0->i∉us->TW nm wr (es++[.beg wr (.str nm) (.str "write") (.int i)]) (os++[(wr,true)]) (us++[i])
 | rd {es:List Ev} {os:List (Int×Bool)} {us:List Int} {h:Int}:TW nm wr es os us->h∉os.map (·.1)->TW nm wr (es++[.beg h (.str nm) (.str "read") .non]) (os++[(h,false)]) us
 | fin {es:List Ev} {os:List (Int×Bool)} {us:List Int} {h:Int} {b:Bool} {a:V}:TW nm wr es os us->(h,b)∈os->(b=true->a=.str "ok")->(b=false->∃i,a=.int i)->TW nm wr (es++[.fin h a]) (os.filter λ k=>decide (k.1≠h)) us
theorem TW.us {nm:Str} {wr:Int} {es:List Ev} {os:List (Int×Bool)} {us:List Int} (h:TW nm wr es os us):us.Nodup/\(0:Int)∉us:=by
 induction h with
 | nil=>exact ⟨.nil,B0⟩
 | wri _ _ h0 h1 ih=>
  refine ⟨List.nodup_append.mpr ⟨ih.1,by simp,λ a c b d e=>?_⟩,λ z=>?_⟩
  ·rw [List.mem_singleton.mp d] at e;exact h1 (e ▸ c)
  ·rcases List.mem_append.mp z with z|z
   ·exact ih.2 z
   ·exact h0 (List.mem_singleton.mp z).symm
 | rd _ _ ih=>exact ih
 | fin _ _ _ _ ih=>exact ih
theorem z5e {os:List (Int×Bool)} {h:Int}:(os.filter λ k=>decide (k.1≠h)).map (·.1)=(os.map (·.1)).filter λ k=>decide (k≠h):=by
 induction os with
 | nil=>rfl
 | cons o os ih=>
  by_cases z:o.1=h
  ·rw [Q1 (by simp [z]),O0,Q1 (by simp [z]),ih]
  ·rw [L1 (by simp [z]),O0,O0,L1 (by simp [z]),ih]
theorem TW.wf {nm:Str} {wr:Int} {es:List Ev} {os:List (Int×Bool)} {us:List Int} (h:TW nm wr es os us):EWf [] es/\es.foldl oStep []=os.map (·.1):=by
 induction h with
 | nil=>exact ⟨trivial,rfl⟩
 | wri _ h0 _ _ ih=>refine ⟨ih.1.snoc (by rw [ih.2];exact h0),?_⟩;rw [C5,ih.2,V0];rfl
 | rd _ h0 ih=>refine ⟨ih.1.snoc (by rw [ih.2];exact h0),?_⟩;rw [C5,ih.2,V0];rfl
 | fin _ h0 _ _ ih=>refine ⟨ih.1.snoc (by rw [ih.2];exact List.mem_map.mpr ⟨_,h0,rfl⟩),?_⟩;rw [C5,ih.2,z5e];rfl
theorem z0t :∀{es:List Ev} {i:Nat} {rs:List Rc} {e:Ev},dAll i rs (es++[e])=dstep (i + es.length) (dAll i rs es) e
 | [],i,rs,e=>rfl
 | x :: es,i,rs,e=>by show dAll (i + 1) (dstep i rs x) (es++[e])=dstep (i + (es.length + 1)) (dAll (i + 1) (dstep i rs x) es) e;rw [z0t,show i + (es.length + 1)=i + 1 + es.length by omega]
noncomputable def isW (r:Rc):Bool:=decide (r.v=.str "write")
noncomputable def intV:V->Int
 | .int i=>i
 | _=>0
def RdG (r:Rc):Prop:=r.v=.str "read"/\r.x=.non/\∀e,r.e=some e->r.a=.int (intV r.a)
def WrG (wr:Int) (r:Rc):Prop:=r.v=.str "write"/\r.h=wr/\r.x=.int (intV r.x)/\∀e,r.e=some e->r.a=.str "ok"
theorem z0h:(V.str "read")≠.str "write":=by decide +kernel
theorem WrG.w {wr:Int} {r:Rc} (h:WrG wr r):isW r=true:=decide_eq_true h.1
theorem RdG.w {r:Rc} (h:RdG r):isW r=false:=decide_eq_false λ e=>z0h (h.1.symm.trans e)
structure TWr (wr:Int) (rs:List Rc) (os:List (Int×Bool)) (us:List Int):Prop where
 g :∀r∈rs,RdG r\/WrG wr r
 u:(rs.filter isW).map (λ r=>intV r.x)=us
 o :∀h b,(h,b)∈os->∃j r,lastI h (rs.map Rc.h)=some j/\rs[j]? = some r/\r.v=.str (if b=true then "write" else "read")
theorem z1i {f:Rc->Rc} (hw :∀r,isW (f r)=isW r) (hx :∀r,(f r).x=r.x) :∀(rs:List Rc) (j:Nat),((rs.modify j f).filter isW).map (λ r=>intV r.x)=(rs.filter isW).map (λ r=>intV r.x)
 | [],j=>by cases j<;>rfl
 | r :: rs,0=>by
  show (((f r) :: rs).filter isW).map _=_;cases h:isW r with
  | true=>rw [L1 (by rw [hw,h]),L1 h,O0,O0,hx]
  | false=>rw [Q1 (by rw [hw,h];decide),Q1 (by rw [h];decide)]
 | r :: rs,j + 1=>by
  show ((r :: rs.modify j f).filter isW).map _=_;cases h:isW r with
  | true=>rw [L1 h,L1 h,O0,O0,z1i hw hx rs j]
  | false=>rw [Q1 (by rw [h];decide),Q1 (by rw [h];decide),z1i hw hx rs j]
theorem TW.rs {nm:Str} {wr:Int} {es:List Ev} {os:List (Int×Bool)} {us:List Int} (h:TW nm wr es os us):TWr wr (dAll 0 [] es) os us:=by
 have beg :∀{rs:List Rc} {os:List (Int×Bool)} {us B:List Int} (k:Int) (b:Bool) (r:Rc),TWr wr rs os us->k∉os.map (·.1)->r.h=k->(RdG r\/WrG wr r)->r.v=.str (if b=true then "write" else "read")->B=us++(if b=true then [intV r.x] else [])->TWr wr (rs++[r]) (os++[(k,b)]) B:=by
  intro rs os us B k b r I M F K y L;refine ⟨λ q A=>?_,?_,λ h c w=>?_⟩
  ·rcases List.mem_append.mp A with z|z
   ·exact I.g q z
   ·rw [List.mem_singleton.mp z];exact K
  ·rw [U2,V0,I.u,L];congr 1;cases b with
   | true=>rw [L1 (show isW r=true from decide_eq_true y)];rfl
   | false=>rw [Q1 (show ¬ isW r=true from λ z=>z0h (y.symm.trans (of_decide_eq_true z)))];rfl
  ·rw [V0];show∃j q,lastI h (rs.map Rc.h++[r.h])=some j/\_;rw [z0y,F];rcases List.mem_append.mp w with z|z
   ·have ne:¬ k=h:=λ e=>M (e ▸ List.mem_map.mpr ⟨_,z,rfl⟩);obtain ⟨j,q,n,l,d⟩:=I.o h c z;refine ⟨j,q,by rw [if_neg ne];exact n,?_,d⟩;rw [Y0 (List.getElem?_eq_some_iff.mp l).1];exact l
   ·have e:=List.mem_singleton.mp z;cases e;refine ⟨rs.length,r,by rw [if_pos rfl,A0],?_,y⟩;rw [F1 (y0 _),z6];rfl
 induction h with
 | nil=>exact ⟨λ _ h=>absurd h B0,rfl,λ _ _ h=>absurd h B0⟩
 | @wri es os us i _ h0 _ _ ih=>rw [z0t];exact beg wr true ⟨wr,.str nm,.str "write",.int i,.non,0 + es.length,none⟩ ih h0 rfl (.inr ⟨rfl,rfl,rfl,λ e z=>by cases z⟩) rfl rfl
 | @rd es os us h _ h0 ih=>rw [z0t];exact beg h false ⟨h,.str nm,.str "read",.non,.non,0 + es.length,none⟩ ih h0 rfl (.inl ⟨rfl,rfl,λ e z=>by cases z⟩) rfl (E3 _).symm
 | @fin es os us h b a _ h0 ht hf ih=>
  rw [z0t];obtain ⟨j,r,n,l,d⟩:=ih.o h b h0;have hd :∀i,dstep i (dAll 0 [] es) (.fin h a)=(dAll 0 [] es).modify j (λ r=>{ r with a:=a,e:=some i }):=λ i=>by unfold dstep;dsimp only;rw [n]
  rw [hd];generalize 0 + es.length=i;generalize hrs:dAll 0 [] es=rs at ih n l d;refine ⟨λ q A=>?_,?_,λ k c w=>?_⟩
  ·obtain ⟨m,D⟩:=List.mem_iff_getElem?.mp A;rw [A1] at D;obtain ⟨J,s,e⟩:=Option.map_eq_some_iff.mp D;have p:=ih.g J (d0 s);by_cases z:j=m
   ·subst z;rw [if_pos rfl] at e;rw [l] at s;cases s;subst e;cases b with
    | true=>
     have v:r.v=.str "write":=d;rcases p with g|g
     ·exact absurd (g.1.symm.trans v) z0h
     ·exact .inr ⟨g.1,g.2.1,g.2.2.1,λ _ _=>ht rfl⟩
    | false=>
     have v:r.v=.str "read":=d;rcases p with g|g
     ·obtain ⟨x,H⟩:=hf rfl;exact .inl ⟨g.1,g.2.1,λ _ _=>by show a=.int (intV a);rw [H];rfl⟩
     ·exact absurd (v.symm.trans g.1) z0h
   ·rw [if_neg z] at e;rw [<-e];exact p
  ·rw [z1i (f:=λ r=>{ r with a:=a,e:=some i }) (λ _=>rfl) (λ _=>rfl)];exact ih.u
  ·rw [z3d (f:=λ r=>{ r with a:=a,e:=some i }) (λ r=>rfl)];obtain ⟨t,E,G,N,C⟩:=ih.o k c (List.mem_filter.mp w).1;refine ⟨t,if j=t then { E with a:=a,e:=some i } else E,G,?_,?_⟩
   ·rw [A1,N];rfl
   ·by_cases z:j=t
    ·rw [if_pos z];exact C
    ·rw [if_neg z];exact C
noncomputable def sinceF (rs:List Rc) (x:Int):Option Int:=rs.foldl (λ (o:Option Int) r=>if isW r=true/\x=intV r.x then some (r.b:Int) else o) (if x=0 then some (-1) else none)
theorem z95 (x:Int):sinceF [] x=if x=0 then some (-1) else none:=rfl
theorem z1s (rs:List Rc) (r:Rc) (x:Int):sinceF (rs++[r]) x=if isW r=true/\x=intV r.x then some (r.b:Int) else sinceF rs x:=by unfold sinceF;rw [C5];rfl
theorem zb1 {rs:List Rc} {x s:Int} (h:sinceF rs x=some s):s=-1\/0<=s:=by
 have d :∀(rs:List Rc) (o:Option Int),(∀s,o=some s->s=-1\/0<=s)->∀s,rs.foldl (λ (o:Option Int) r=>if isW r=true/\x=intV r.x then some (r.b:Int) else o) o=some s->s=-1\/0<=s:=by
  intro rs;induction rs with
  | nil=>intro o h s e;exact h s e
  | cons r rs ih=>
   intro o h s e;rw [l6] at e;refine ih _ (λ c a=>?_) s e;by_cases z:isW r=true/\x=intV r.x
   ·rw [if_pos z] at a;cases a;exact .inr (Int.natCast_nonneg _)
   ·rw [if_neg z] at a;exact h c a
 refine d rs _ (λ c a=>?_) s h;by_cases z:x=0
 ·rw [if_pos z] at a;cases a;exact .inl rfl
 ·rw [if_neg z] at a;cases a
theorem z7x {rs:List Rc} {i:Nat} {r:Rc} (h:rs[i]? = some r):rs.take (i + 1)=rs.take i++[r]:=by rw [K7,h];rfl
def Bad (rs:List Rc) (i j:Nat):Prop:=∃(r q:Rc) (e f:Nat) (s t:Int),rs[i]? = some r/\rs[j]? = some q/\r.v=.str "read"/\q.v=.str "read"/\r.e=some e/\q.e=some f/\e < q.b/\sinceF rs (intV r.a)=some s/\sinceF rs (intV q.a)=some t/\t < s
def FstB (rs:List Rc) (i j:Nat):Prop:=Bad rs i j/\∀i' j',Bad rs i' j'->i < i'\/(i=i'/\j<=j')
def EndsB (rs:List Rc):Prop:=∀r∈rs,∀e,r.e=some e->r.b < e
theorem EndsB.all :∀{es:List Ev} {i:Nat} {rs:List Rc},EndsB rs->(∀r∈rs,r.b < i)->EndsB (dAll i rs es)/\∀r∈dAll i rs es,r.b < i + es.length
 | [],i,rs,h,hb=>⟨h,hb⟩
 | e :: es,i,rs,h,hb=>by
  have p:EndsB (dstep i rs e)/\∀r∈dstep i rs e,r.b < i + 1:=by
   cases e with
   | beg k n v x=>
    have l:dstep i rs (.beg k n v x)=rs++[⟨k,n,v,x,.non,i,none⟩]:=rfl;rw [l];refine ⟨λ r c e d=>?_,λ r c=>?_⟩
    ·rcases List.mem_append.mp c with z|z
     ·exact h r z e d
     ·rw [List.mem_singleton.mp z] at d;cases d
    ·rcases List.mem_append.mp c with z|z
     ·have:=hb r z;omega
     ·rw [List.mem_singleton.mp z];exact V1 i
   | fin k a=>
    cases hl:lastI k (rs.map Rc.h) with
    | none=>
     have hd:dstep i rs (.fin k a)=rs:=by unfold dstep;dsimp only;rw [hl]
     rw [hd];exact ⟨h,λ r c=>C1 (hb r c)⟩
    | some j=>
     have hd:dstep i rs (.fin k a)=rs.modify j (λ r=>{ r with a:=a,e:=some i }):=by unfold dstep;dsimp only;rw [hl]
     rw [hd];have get :∀q∈rs.modify j (λ r=>{ r with a:=a,e:=some i }),∃r∈rs,q.b=r.b/\(q.e=some i\/q.e=r.e):=λ q f=>by
      obtain ⟨m,l⟩:=List.mem_iff_getElem?.mp f;rw [A1] at l;obtain ⟨r,c,e⟩:=Option.map_eq_some_iff.mp l;refine ⟨r,d0 c,?_⟩;by_cases z:j=m
      ·rw [if_pos z] at e;rw [<-e];exact ⟨rfl,.inl rfl⟩
      ·rw [if_neg z] at e;rw [<-e];exact ⟨rfl,.inr rfl⟩
     refine ⟨λ q f e d=>?_,λ q f=>?_⟩
     ·obtain ⟨r,c,o,g⟩:=get q f;rcases g with g|g
      ·rw [g] at d;cases d;rw [o];exact hb r c
      ·rw [o];exact h r c e (by rw [<-g];exact d)
     ·obtain ⟨r,c,o,_⟩:=get q f;have:=hb r c;omega
  obtain ⟨s,t⟩:=EndsB.all (es:=es) p.1 p.2;refine ⟨s,λ r c=>?_⟩;have:=t r c;rw [T1];omega
theorem z57 :∀(us ns:List Int),us.Nodup->(∀u∈us,u∉ns)->(us.foldl addI ns).length=ns.length + us.length
 | [],ns,_,_=>rfl
 | u :: us,ns,nd,h=>by
  rw [n5] at nd;have e:addI ns u=ns++[u]:=by unfold addI;rw [if_neg (h u (.head _))]
  rw [l6,e,z57 us (ns++[u]) nd.2 λ v a z=>?_]
  ·simp only [F0,T1,j6];omega
  ·rcases List.mem_append.mp z with z|z
   ·exact h v (.tail _ a) z
   ·rw [List.mem_singleton.mp z] at a;exact nd.1 a
theorem z5h {w:Int} :∀(us ns:List Int),(∀u∈us,u=w)->(ns=[]\/ns=[w])->(us.foldl addI ns).length<=1
 | [],ns,_,h=>by rcases h with rfl|rfl<;>simp
 | u :: us,ns,hu,h=>by
  have e:=hu u (.head _);subst e;rw [l6];refine z5h (w:=u) us _ (λ v a=>hu v (.tail _ a)) (.inr ?_);rcases h with rfl|rfl
  ·rfl
  ·unfold addI;rw [if_pos (List.mem_singleton.mpr rfl)]
theorem z2d (p:Nat->Bool) (n:Nat):((U0 n).filter p).Pairwise (· < ·):=N8 _ B5
end
section
theorem zd1 {α:Type} {motive:List α->Prop} (nil:motive []) (snoc :∀l a,motive l->motive (l++[a])) (l:List α):motive l:=by
 have h :∀m:List α,motive m.reverse:=λ m=>by
  induction m with
  | nil=>exact nil
  | cons a m ih=>rw [List.reverse_cons];exact snoc _ _ ih
 have:=h l.reverse
 rwa [List.reverse_reverse] at this
theorem z14 {α:Type} {l:List α} {i:Nat} {x:α} (h:l[i]? = some x):i < l.length:=(List.getElem?_eq_some_iff.mp h).1
structure TwG (es:List Ev):Prop where
 wf:dWf 0 [] es
 nd:(((dAll 0 [] es).filter isW).map (λ r=>intV r.x)).Nodup
 n0:(0:Int)∉((dAll 0 [] es).filter isW).map (λ r=>intV r.x)
theorem TW.twg {nm:Str} {wr:Int} {es:List Ev} {os:List (Int×Bool)} {us:List Int} (h:TW nm wr es os us):TwG es:=⟨(DInv.nil.all h.wf.1).1,by rw [h.rs.u];exact h.us.1,by rw [h.rs.u];exact h.us.2⟩
structure PosI (n:Nat) (rs:List Rc):Prop where
 b :∀r∈rs,r.b < n
 e :∀r∈rs,∀e,r.e=some e->e < n
 bb :∀(i j:Nat) (r q:Rc),rs[i]? = some r->rs[j]? = some q->r.b=q.b->i=j
 ee :∀(i j:Nat) (r q:Rc) (e:Nat),rs[i]? = some r->rs[j]? = some q->r.e=some e->q.e=some e->i=j
 be :∀r∈rs,∀q∈rs,∀e,q.e=some e->r.b≠e
theorem PosI.step {n:Nat} {rs:List Rc} (p:PosI n rs) (e:Ev):PosI (n + 1) (dstep n rs e):=by
 cases e with
 | beg h nm v x=>
  have g :∀{i:Nat} {r:Rc},(rs++[(⟨h,nm,v,x,.non,n,none⟩:Rc)])[i]? = some r->rs[i]? = some r\/(i=rs.length/\r=⟨h,nm,v,x,.non,n,none⟩):=λ {i r} q=>by
   rw [j08] at q;split at q
   ·exact .inl q
   ·rename_i z;obtain ⟨y,_⟩:=List.getElem?_eq_some_iff.mp q;rw [M4] at y;have:i - rs.length=0:=by omega
    rw [this] at q;cases q;exact .inr ⟨by omega,rfl⟩
  show PosI (n + 1) (rs++[_]);refine ⟨λ r f=>?_,λ r f e d=>?_,λ i j r q k m z=>?_,λ i j r q e k m s o=>?_,λ r f q D e d=>?_⟩
  ·rcases List.mem_append.mp f with z|z
   ·exact C1 (p.b r z)
   ·rw [List.mem_singleton.mp z];exact V1 n
  ·rcases List.mem_append.mp f with z|z
   ·exact C1 (p.e r z e d)
   ·rw [List.mem_singleton.mp z] at d;cases d
  ·rcases g k with a|⟨a,rfl⟩
   ·rcases g m with b|⟨b,rfl⟩
    ·exact p.bb i j r q a b z
    ·have:=p.b r (d0 a);exact absurd z (L0 this)
   ·rcases g m with b|⟨b,rfl⟩
    ·have:=p.b q (d0 b);exact absurd z.symm (L0 this)
    ·omega
  ·rcases g k with a|⟨a,rfl⟩
   ·rcases g m with b|⟨b,rfl⟩
    ·exact p.ee i j r q e a b s o
    ·cases o
   ·cases s
  ·rcases List.mem_append.mp D with b|b
   ·rcases List.mem_append.mp f with a|a
    ·exact p.be r a q b e d
    ·rw [List.mem_singleton.mp a];exact E2 (p.e q b e d)
   ·rw [List.mem_singleton.mp b] at d;cases d
 | fin h a=>
  unfold dstep;dsimp only;cases lastI h (rs.map Rc.h) with
  | none=>exact ⟨λ r f=>C1 (p.b r f),λ r f e d=>C1 (p.e r f e d),p.bb,p.ee,p.be⟩
  | some j0=>
   dsimp only;have g :∀{i:Nat} {r:Rc},(rs.modify j0 λ r=>{ r with a:=a,e:=some n })[i]? = some r->∃c,rs[i]? = some c/\r.b=c.b/\((i=j0/\r.e=some n)\/r.e=c.e):=λ {i r} q=>by
    rw [A1] at q;cases z:rs[i]? with
    | none=>rw [z] at q;cases q
    | some c=>
     rw [z] at q;have q:some (if j0=i then { c with a:=a,e:=some n } else c)=some r:=q;by_cases y:j0=i
     ·rw [if_pos y] at q;cases q;exact ⟨c,rfl,rfl,.inl ⟨y.symm,rfl⟩⟩
     ·rw [if_neg y] at q;cases q;exact ⟨_,rfl,rfl,.inr rfl⟩
   have B :∀{r:Rc},r∈(rs.modify j0 λ r=>{ r with a:=a,e:=some n })->∃i,(rs.modify j0 λ r=>{ r with a:=a,e:=some n })[i]? = some r:=λ h=>List.mem_iff_getElem?.mp h;refine ⟨λ r f=>?_,λ r f e d=>?_,λ i j r q k m z=>?_,λ i j r q e k m s o=>?_,λ r f q D e d=>?_⟩
   ·obtain ⟨i,k⟩:=B f;obtain ⟨c,l,A,_⟩:=g k;rw [A];exact C1 (p.b c (d0 l))
   ·obtain ⟨i,k⟩:=B f;obtain ⟨c,l,_,⟨_,z⟩|z⟩:=g k
    ·rw [z] at d;cases d;exact V1 n
    ·rw [z] at d;exact C1 (p.e c (d0 l) e d)
   ·obtain ⟨c,l,A,_⟩:=g k;obtain ⟨t,u,F,_⟩:=g m;exact p.bb i j c t l u (by rw [<-A,<-F];exact z)
   ·obtain ⟨c,l,_,⟨H,G⟩|y⟩:=g k
    ·obtain ⟨t,u,_,⟨E,C⟩|w⟩:=g m
     ·rw [H,E]
     ·rw [G] at s;cases s;rw [w] at o;exact absurd (p.e t (d0 u) _ o) (C3 _)
    ·obtain ⟨t,u,_,⟨E,C⟩|w⟩:=g m
     ·rw [C] at o;cases o;rw [y] at s;exact absurd (p.e c (d0 l) _ s) (C3 _)
     ·exact p.ee i j c t e l u (by rw [<-y];exact s) (by rw [<-w];exact o)
   ·obtain ⟨i,k⟩:=B f;obtain ⟨j,m⟩:=B D;obtain ⟨c,l,A,_⟩:=g k;obtain ⟨t,u,_,⟨E,C⟩|w⟩:=g m
    ·rw [C] at d;cases d;rw [A];exact L0 (p.b c (d0 l))
    ·rw [A];exact p.be c (d0 l) t (d0 u) e (by rw [<-w];exact d)
theorem PosI.all :∀(es:List Ev) {n:Nat} {rs:List Rc},PosI n rs->PosI (n + es.length) (dAll n rs es)
 | [],_,_,p=>p
 | e :: es,n,rs,p=>by have:=PosI.all es (p.step e);rw [show n + (e :: es).length=n + 1 + es.length by rw [T1];omega];exact this
theorem PosI.nil:PosI 0 []:=⟨λ _ h=>absurd h B0,λ _ h=>absurd h B0,λ i j r q h=>by simp at h,λ i j r q e h=>by simp at h,λ _ h=>absurd h B0⟩
theorem z1l {α β:Type} {R:α->β->Prop} :∀{xs:List α} {x:α} {ys:List β},All2 R (xs++[x]) ys->∃ys' y,ys=ys'++[y]/\All2 R xs ys'/\R x y
 | [],x,_,.cons a .nil=>⟨[],_,rfl,.nil,a⟩
 | z :: xs,x,_,.cons a r=>by obtain ⟨ys',y,rfl,b,c⟩:=z1l r;exact ⟨_ :: ys',y,rfl,.cons a b,c⟩
theorem z4k {α β:Type} {S:α->β->Prop} {q:α->Bool} {es:List α} :∀(n:Nat),n<=es.length->∀{ws:List β},All2 (λ i y=>∀e,es[i]? = some e->S e y) ((U0 n).filter λ i=>(es[i]?.map q).getD false) ws->All2 S ((es.take n).filter q) ws
 | 0,_,ws,h=>by cases h;exact .nil
 | n + 1,hn,ws,h=>by
  have e:es[n]? = some es[n]:=P0 hn;rw [B7,U2] at h;rw [K7,e,U2];by_cases z:q es[n]=true
  ·rw [L1 (by rw [e];exact z)] at h;obtain ⟨c,y,rfl,a,b⟩:=z1l h;show All2 S (_++[es[n]].filter q) _;rw [L1 z];exact z0v (z4k n (by omega) a) (b _ e)
  ·rw [Q1 (by rw [e];exact z)] at h;show All2 S (_++[es[n]].filter q) _;rw [Q1 z,m6,E3];rw [m6,E3] at h;exact z4k n (by omega) h
end
section
variable {P:Program} {w:Z0} {mg:Str->Option Value} {base:Heap}
def z3z:Sp:=λ vs H Q _=>∃i,vs=[.int i]/\Q (.bl true) H
theorem z84 (T:TX (kx w) mg):Fo P w mg base CX0 1 46 y0o ["value"] z3z:=by
 refine (z3n w.params).ok z87 (λ a H Q E h=>?_) (λ d A b s H a Q E c h=>?_)
 ·obtain ⟨i,rfl,_⟩:=h;rfl
 ·obtain ⟨i,rfl,q⟩:=h;refine ⟨_,(z06 (ps_ret (pe_and (z0n z2q rfl (T.no (z20 _)) J9 (z00 (pv 0) (z00 (z97 (v:=.ty "int") rfl (T.no (n_int _)) boot_int rfl) pa_nil))) (pe_one (pe_not (z0n z2q rfl (T.no (z20 _)) J9 (z00 (pv 0) (z00 (z97 (v:=.ty "bool") rfl (T.no (n_bool _)) boot_bool rfl) pa_nil)))))))),?_⟩;refine ⟨_,rfl,_,_,"int",rfl,rfl,by decide,_,rfl,iteP (by decide) ?_⟩;exact ⟨_,rfl,_,_,"int",rfl,rfl,by decide,_,rfl,q⟩
def z2e (K:c0):Sp:=λ vs H Q _=>∃y r wr e,vs=[y]/\RcAt K H r y/\(RdG r\/WrG wr r)/\r.e=some e/\Q (.bl true) H
theorem z4s (T:TX (kx w) mg) (c0:Ca P w mg base "is_whole" ["value"] 1 z3z):Fo P w mg base CX0 2 71 y05 ["deed"] (z2e (kx w)):=by
 refine (z1n w.params).ok z4q (λ f H Q E h=>?_) (λ l A k s H f Q E d h=>?_)
 ·obtain ⟨y,r,i,e,rfl,_⟩:=h;rfl
 ·obtain ⟨y,r,i,e,rfl,⟨p,rfl,b⟩,g,c,q⟩:=h;refine ⟨_,(z05 (ps_if (z07 opEq (pe_ix ix_seq (pv 0) pe_int (λ _ _=>rfl)) pe_str (nomark _))
   (z06 (ps_ret (z55 opEq (pe_ix ix_seq (pv 0) pe_int (λ _ _=>rfl)) pe_str (nomark _))))
   z0g)
   (z06 (ps_ret (pe_cal c0 (d.mono (by decide)) rfl (z00 (pe_ix ix_seq (pv 0) pe_int (λ _ _=>rfl)) pa_nil))))),?_⟩
  rcases g with g|g
  ·refine ⟨_,rfl,.inr (.inl ⟨p,_,2,.str "read",rfl,rfl,b,by rw [g.1];exact z04 (j:=2) rfl,rfl,_,rfl,iteK ?_⟩)⟩;exact ⟨_,rfl,.inr (.inl ⟨p,_,4,.int (intV r.a),rfl,rfl,b,by rw [g.2.2 e c];exact z04 (j:=4) rfl,_,rfl,q⟩)⟩
  ·refine ⟨_,rfl,.inr (.inl ⟨p,_,2,.str "write",rfl,rfl,b,by rw [g.1];exact z04 (j:=2) rfl,rfl,_,rfl,iteP (by decide +kernel) ?_⟩)⟩;exact ⟨_,rfl,.inr (.inl ⟨p,_,4,.str "ok",rfl,rfl,b,by rw [g.2.2.2 e c];exact z04 (j:=4) rfl,rfl,q⟩)⟩
structure ToldAt (K:c0) (H:Hp) (l:Addr) (wr:Int) (rs:List Rc) (zs:List V):Prop where
 l:H l=some (.lst zs)
 a:All2 (RcAt K H) rs zs
 g :∀r∈rs,RdG r\/WrG wr r
 n:rs.length<=63
theorem ToldAt.same {K:c0} {H H':Hp} {l:Addr} {wr:Int} {rs:List Rc} {zs:List V} (s:Same H H') (h:ToldAt K H l wr rs zs):ToldAt K H' l wr rs zs:=⟨s _ _ h.l,z01 (λ _ _ z=>RcAt.tups (.of s) z) h.a,h.g,h.n⟩
noncomputable def r00:Rc:=⟨0,.non,.non,.non,.non,0,none⟩
theorem getD_some {rs:List Rc} {i:Nat} {r:Rc} (h:rs[i]? = some r):rs[i]?.getD r00=r:=by rw [h];rfl
theorem z4d (x:Int) :∀ns:List Int,inV (.int x) (ns.map V.int)=decide (x∈ns)
 | []=>by rw [decide_eq_false B0];rfl
 | n :: r=>by
  show ((n == x) || inV (.int x) (r.map V.int))=_;rw [z4d x r];by_cases e:n=x
  ·rw [beq_iff_eq.mpr e,Bool.true_or,decide_eq_true (List.mem_cons.mpr (.inl e.symm))]
  ·rw [Bool.eq_false_iff.mpr (λ h=>e (beq_iff_eq.mp h)),Bool.false_or];by_cases m:x∈r
   ·rw [decide_eq_true m,decide_eq_true (List.mem_cons.mpr (.inr m))]
   ·rw [decide_eq_false m,decide_eq_false (λ h=>(List.mem_cons.mp h).elim (λ y=>e y.symm) m)]
theorem z4o :∀ns:List Int,(ns.map V.int).all flatV=true
 | []=>rfl
 | _ :: r=>by show (true && (r.map V.int).all flatV)=true;rw [z4o r];rfl
theorem z7w {f:Rc->V} {rs:List Rc} {zs ys:List V} (lz:zs.length=rs.length) (h:All2 (λ (i:Nat) y=>y=f (rs[i]?.getD r00)) ((U0 zs.length).filter λ i=>isW (rs[i]?.getD r00)) ys):ys=(rs.filter isW).map f:=by rw [lz] at h;rw [z2p h];exact z0w isW f r00 rs
def z33 (K:c0):Sp:=λ vs H Q _=>∃l zs rs wr,vs=[.ref l]/\ToldAt K H l wr rs zs/\((rs.filter isW).map (λ r=>intV r.x)).Nodup/\(0:Int)∉(rs.filter isW).map (λ r=>intV r.x)/\∀H',Same H H'->Q (.bl true) H'
theorem z6g (T:TX (kx w) mg) (c0:Ca P w mg base "is_answered" ["deed"] 2 (z2e (kx w))):Fo P w mg base CX0 3 64 y0g ["told"] (z33 (kx w)):=by
 refine (z2n w.params).ok sc_are_plain (λ vs H Q E h=>?_) (λ a7 A a6 s H vs Q E Y h=>?_)
 ·obtain ⟨l,C,rs,O,rfl,_⟩:=h;rfl
 ·obtain ⟨l,C,rs,O,rfl,c,U,S,q⟩:=h;refine ⟨_,(z05 (z4a (i:=1) sc_are_plain.nd rfl (S0 rfl) (xs:=["deed"]) (g:=gName 0) (fr:=[]) rfl (z0r (pv 0)) (λ _ z=>absurd z B0) (z4v rfl) (λ _ z=>absurd z B0) (by decide +kernel) rfl (by decide +kernel) (λ _ _ _ _ _=>(pg_cn (N:=["deed"]) 0)) (λ _ _ _ _ _=>(pf_one (z07 opEq (pe_ix (z0k (K:=KX w.params) rfl) (pv 0) pe_int (λ _ _=>rfl)) pe_str (nomark _)))) (λ _ _ _ _ _=>(pe_ix (z0k (K:=KX w.params) rfl) (pv 0) pe_int (λ _ _=>rfl))))
   (z05 (ps_if (PW.pt (pw_or (z07 zbc pe_int (pv 1) (by with_unfolding_all rfl)) (pw_or1 (z07 op_lt (z76 rfl rfl (T.no (n_len _)) rfl (T.no (n_set _)) T5 boot_set (pv 1)) (z0n z28 rfl (T.no (n_len _)) T5 (z00 (pv 1) pa_nil)) (nomark _)))))
   (z06 (ps_ret pe_bl))
   z0g)
   (z06 (ps_ret (z0n (zbn rfl) rfl (T.no (n_all _)) boot_all (z00 (pe_cg (xs:=["deed"]) (g:=gName 0) (fr:=[]) (z0r (pv 0)) (λ _ _ _ _ _=>(pg_cn (N:=["deed"]) 0)) (λ _ _ _ _ _=>pf_nil) (λ _ _ _ _ _=>(pe_or (z55 op_isN (pe_ix (z0k (K:=KX w.params) rfl) (pv 0) pe_int (λ _ _=>rfl)) pe_non (nomark _)) (pe_one (pe_cal c0 (Y.mono (by decide)) rfl (z00 (pv 0) pa_nil)))))) pa_nil)))))),?_⟩
  have lz:C.length=rs.length:=z03 c.a;have a0:=c.n;refine z0a ?_;refine z17 (K:=KX w.params) (a:=l) (xs:=C) (H1:=H) (λ i=>isW (rs[i]?.getD r00)) (λ i y _=>y=.int (intV (rs[i]?.getD r00).x)) (λ _ _ _ _ _ z=>z) (λ R h=>⟨_,rfl,h⟩) (SqL.of c.l) (D0 (m:=63) (by omega) (by decide)) ?_ ?_
  ·intro i hi v H1 L G KT KF t I;obtain ⟨r,u,p,rfl,J⟩:=z09 c.a G;have b:=L.seqT J;rw [getD_some u] at t I;refine ⟨[some (.ref p)],rfl,rfl,?_⟩;rcases c.g r (d0 u) with g|g
   ·refine ⟨_,rfl,.inr (.inl ⟨p,_,2,.str "read",rfl,rfl,b,by rw [g.1];exact z04 (j:=2) rfl,rfl,_,rfl,iteK (I g.w _ (Same.refl _))⟩)⟩
   ·refine ⟨_,rfl,.inr (.inl ⟨p,_,2,.str "write",rfl,rfl,b,by rw [g.1];exact z04 (j:=2) rfl,rfl,_,rfl,iteP (by decide +kernel) ?_⟩)⟩;exact ⟨_,rfl,.inr (.inl ⟨p,_,3,.int (intV r.x),rfl,rfl,b,by rw [<-g.2.2.1];exact z04 (j:=3) rfl,t g.w _ _ (Same.refl _) rfl⟩)⟩
  intro d H1 ys L a1 a3;have ey:=z7w (f:=λ r=>V.int (intV r.x)) lz a3;have a2:ys=((rs.filter isW).map (λ r=>intV r.x)).map V.int:=by rw [ey,O3];rfl
  have lu:((rs.filter isW).map (λ r=>intV r.x)).length<=63:=by rw [A0];exact D0 (E1 _ _) a0
  subst a2;generalize (rs.filter isW).map (λ r=>intV r.x)=us at U S lu⊢;have M:=Same.upd (o:=.lst (us.map V.int)) a1;have B:upd H1 d (.lst (us.map V.int)) d=some (.lst (us.map V.int)):=z02;have F:=L.trans M;generalize upd H1 d (.lst (us.map V.int))=H2 at M B F⊢;refine g_name ?_;refine sq_if ?_;refine t_or ?_;refine ⟨_,rfl,d,_,rfl,.inl (SqL.of B),rfl,z4o _,_,rfl,iteN (by show ¬ inV _ _=true;rw [z4d,decide_eq_false S];decide) ?_⟩;refine ⟨_,rfl,d,us,rfl,SqL.of B,by omega,_,rfl,.inl ⟨d,_,rfl,.inl (SqL.of B),_,_,rfl,rfl,_,rfl,iteN ?_ ?_⟩⟩
  ·rw [z57 us [] U (λ _ _=>B0),j6,A0];exact λ e=>absurd (of_decide_eq_true e) (by omega)
  refine t_nx (sq_ret (e_cb1 ?_));have W:=c.same F;refine z17 (K:=KX w.params) (a:=l) (xs:=C) (H1:=H2) (λ _=>true) (λ i y _=>y=.bl true) (λ _ _ _ _ _ z=>z) (λ R h=>⟨_,rfl,h⟩) (SqL.of W.l) (D0 (m:=63) (by omega) (by decide)) ?_ ?_
  ·intro i hi v Z D G KT KF t I;obtain ⟨r,u,p,rfl,J⟩:=z09 W.a G;have b:=D.seqT J;refine ⟨[some (.ref p)],rfl,rfl,iteT ?_⟩;cases he:r.e with
   | none=>exact ⟨_,rfl,.inr (.inl ⟨p,_,6,.non,rfl,rfl,b,by rw [he];exact z04 (j:=6) rfl,rfl,_,rfl,iteP (by decide) (t rfl _ _ (Same.refl _) rfl)⟩)⟩
   | some e=>refine ⟨_,rfl,.inr (.inl ⟨p,_,6,.int e,rfl,rfl,b,by rw [he];exact z04 (j:=6) rfl,rfl,_,rfl,iteN (by simp) ?_⟩)⟩;exact ⟨_,rfl,_,r,O,e,rfl,⟨p,rfl,b⟩,c.g r (d0 u),he,t rfl _ _ (Same.refl _) rfl⟩
  intro l3 Z bs D a4 a5;have X :∀y∈bs,y=.bl true:=λ y k=>by obtain ⟨m,hm⟩:=List.mem_iff_getElem?.mp k;obtain ⟨_,_,z⟩:=z09 a5 hm;exact z
  refine ⟨l3,bs,rfl,SqL.of z02,λ y k=>⟨true,X y k⟩,?_⟩;rw [List.all_eq_true.mpr (λ y k=>decide_eq_true (X y k))];exact q _ (F.trans (D.trans (Same.upd a4)))
structure TalR (K:c0) (H:Hp) (t:Addr) (nm:Str) (wr:Int) (es:List Ev) (ys:List V):Prop where
 t :∃pt te th,SqT K H t [.ref pt,.ref te]/\SqT K H pt [.ref th]/\SqT K H th [.str nm,.str "register"]/\SqT K H te ys
 ev:All2 (EvAt K H) es ys
 tw :∃os us,TW nm wr es os us
 ln:es.length<=62
theorem TalR.twg {K:c0} {H:Hp} {t:Addr} {nm:Str} {wr:Int} {es:List Ev} {ys:List V} (h:TalR K H t nm wr es ys):TwG es:=by obtain ⟨b,us,a⟩:=h.tw;exact a.twg
theorem TalR.same {K:c0} {H H':Hp} {t:Addr} {nm:Str} {wr:Int} {es:List Ev} {ys:List V} (s:Same H H') (h:TalR K H t nm wr es ys):TalR K H' t nm wr es ys:=by obtain ⟨pt,e,f,a,b,c,d⟩:=h.t;exact ⟨⟨pt,e,f,s.seqT a,s.seqT b,s.seqT c,s.seqT d⟩,z01 (λ _ _ z=>EvAt.tups (.of s) z) h.ev,h.tw,h.ln⟩
theorem z35 :∀{es:List Ev} {i:Nat} {rs:List Rc},(dAll i rs es).length<=rs.length + es.length
 | [],_,_=>y0 _
 | e :: es,i,rs=>by
  have h:=z35 (es:=es) (i:=i + 1) (rs:=dstep i rs e);have b:(dstep i rs e).length<=rs.length + 1:=by
   cases e with
   | beg k n v x=>exact B6 (F0 ..)
   | fin k a=>
    unfold dstep;dsimp only;cases lastI k (rs.map Rc.h) with
    | none=>exact M6 _
    | some j=>dsimp only;rw [E6];exact M6 _
  show (dAll (i + 1) (dstep i rs e) es).length<=_;rw [T1];omega
def z10 (K:c0):Sp:=λ vs H Q _=>∃t nm wr es ys,vs=[.ref t]/\TalR K H t nm wr es ys/\∀l zs H',Same H H'->ToldAt K H' l wr (dAll 0 [] es) zs->Q (.ref l) H'
theorem z7p:plainP (.list [.str "register"])=true:=by decide +kernel
theorem zdv:PyData.eqv (.list [.str "register"]) (.list [.str "register"])=true:=by decide +kernel
theorem z50 (T:TX (kx w) mg) (c0:Ca P w mg base "deeds" ["tale"] 1 (z9j (kx w))) (c1:Ca P w mg base "are_plain" ["told"] 3 (z33 (kx w))):Fo P w mg base CX0 4 59 y04 ["tale"] (z10 (kx w)):=by
 refine (z1q w.params).ok sc_plain_deeds (λ Z H Q E h=>?_) (λ a2 A a1 s H Z Q E m h=>?_)
 ·obtain ⟨t,U,p,e,O,rfl,_⟩:=h;rfl
 ·obtain ⟨t,U,p,e,O,rfl,d,q⟩:=h;refine ⟨_,(z05 (ps_set (i:=1) sc_plain_deeds.nd rfl (S0 rfl) (pe_cal c0 (m.mono (by decide)) rfl (z00 (pv 0) pa_nil)))
   (z05 (ps_if (PW.pt (pw_or (z07 (op_neP m) (pe_cg (xs:=["name","kind"]) (g:=gTup (kx w) 2 (gCons (gName 0) (gCons (gName 1) gNil))) (fr:=[]) (pi_tup (pe_ix ix_seq (pv 0) pe_int (λ _ _=>rfl))) (λ _ _ _ _ _=>(pg_tup rfl (z0b (pg_cn (N:=["name","kind"]) 0) (z0b (pg_cn (N:=["name","kind"]) 1) z11)))) (λ _ _ _ _ _=>pf_nil) (λ _ _ _ _ _=>(pv 1))) (pe_lst (z00 pe_str pa_nil)) (nomark _)) (pw_or1 (pt_not (pt_val (pe_cal c1 (m.mono (by decide)) rfl (z00 (pv 1) pa_nil)) (λ _=>rfl))))))
   (z06 za7)
   z0g)
   (z06 (ps_ret (pv 1))))),?_⟩
  obtain ⟨pt,te,x,st,sp,sh,se⟩:=d.t;obtain ⟨os,us,b⟩:=d.tw;have wf:=(DInv.nil.all b.wf.1).1;have a3:=d.ln;have X:(dAll 0 [] e).length<=63:=D0 z35 (by simp;omega);refine z0a ?_;refine ⟨_,rfl,t,te,.ref pt,O,e,rfl,st,se,d.ev,by omega,wf,λ l C H1 k a4 el al=>?_⟩;refine g_name ?_;have J:ToldAt (kx w) H1 l p (dAll 0 [] e) C:=⟨el,al,b.rs.g,X⟩
  refine sq_if (t_or (t_test ?_));refine zbk (K:=KX w.params) (a:=pt) (xs:=[.ref x]) (H1:=H1) (λ _=>true) (λ i y _=>y=.str "register") (λ _ _ _ _ _ z=>z) (λ R h=>⟨_,rfl,.inr (.inl ⟨t,_,0,.ref pt,rfl,rfl,k.seqT st,z04 (j:=0) rfl,h⟩)⟩) (k.seqT sp) w_1 ?_ ?_
  ·intro i hi v D n hv KT KF h1 h2;have:v=.ref x:=List.mem_singleton.mp (d0 hv);subst this;refine ⟨x,_,rfl,(k.trans n).seqT sh,rfl,_,_,rfl,_,_,rfl,rfl,[some (.str U),some (.str "register")],rfl,rfl,iteT ⟨_,rfl,h1 rfl _ _ (Same.refl _) rfl⟩⟩
  intro f D W n Y F;have ek:W=[.str "register"]:=by
   replace F:All2 (λ (_:Nat) (y:V)=>y=.str "register") [0] W:=F;cases F with
   | cons a r=>cases r;rw [a]
  subst ek;have I:=Same.upd (o:=.lst [V.str "register"]) Y;have M:upd D f (.lst [V.str "register"]) f=some (.lst [V.str "register"]):=z02;have G:=n.trans I;generalize upd D f (.lst [V.str "register"])=H3 at I M G⊢;refine ⟨w_1,λ L a0=>?_⟩;have B:=Same.upd (o:=.lst [V.str "register"]) a0;refine ⟨.list [.str "register"],.list [.str "register"],⟨f,_,rfl,SqL.of (B _ _ M),⟨_,_,rfl,rfl,rfl⟩⟩,⟨L,_,rfl,SqL.of z02,⟨_,_,rfl,rfl,rfl⟩⟩,z7p,z7p,(show (1:Nat)<=60 by decide),_,rfl,iteN (by rw [zdv];decide) ?_⟩;have c:=G.trans B;generalize upd H3 L (.lst [V.str "register"])=H4 at B c⊢;refine ⟨_,rfl,l,C,_,p,rfl,J.same c,by rw [b.rs.u];exact b.us.1,by rw [b.rs.u];exact b.us.2,λ H5 S=>⟨true,rfl,iteN (by decide) ?_⟩⟩;exact ⟨_,rfl,q l C H5 (k.trans (c.trans S)) (J.same (c.trans S))⟩
end
section
structure EvR (es:List Ev) (rs:List Rc):Prop where
 a :∀r∈rs,es[r.b]? = some (.beg r.h r.n r.v r.x)
 b :∀r∈rs,∀k,r.e=some k->es[k]? = some (.fin r.h r.a)
 c :∀(i:Nat) h n v x,es[i]? = some (.beg h n v x)->∃r∈rs,r.b=i
 d :∀(i:Nat) h a,es[i]? = some (.fin h a)->∃r∈rs,r.e=some i/\r.h=h
theorem TW.open {nm:Str} {wr:Int} {es:List Ev} {os:List (Int×Bool)} {us:List Int} (h:TW nm wr es os us) :∀k b,(k,b)∈os->∃j r,lastI k ((dAll 0 [] es).map Rc.h)=some j/\(dAll 0 [] es)[j]? = some r/\r.h=k/\r.e=none:=by
 have beg :∀{rs:List Rc} {os:List (Int×Bool)} (k:Int) (b:Bool) (r:Rc),(∀k b,(k,b)∈os->∃j r,lastI k (rs.map Rc.h)=some j/\rs[j]? = some r/\r.h=k/\r.e=none)->k∉os.map (·.1)->r.h=k->r.e=none->∀d o,(d,o)∈os++[(k,b)]->∃j g,lastI d ((rs++[r]).map Rc.h)=some j/\(rs++[r])[j]? = some g/\g.h=d/\g.e=none:=by
  intro rs os k b r I B u A d o s;rw [V0];show∃j q,lastI d (rs.map Rc.h++[r.h])=some j/\_;rw [z0y,u];rcases List.mem_append.mp s with z|z
  ·have ne:¬ k=d:=λ e=>B (e ▸ List.mem_map.mpr ⟨_,z,rfl⟩);obtain ⟨j,q,n,l,p⟩:=I d o z;refine ⟨j,q,by rw [if_neg ne];exact n,?_,p⟩;rw [Y0 (List.getElem?_eq_some_iff.mp l).1];exact l
  ·have e:=List.mem_singleton.mp z;cases e;refine ⟨rs.length,r,by rw [if_pos rfl,A0],?_,u,A⟩;rw [F1 (y0 _),z6];rfl
 induction h with
 | nil=>exact λ _ _ h=>absurd h B0
 | @wri es os us i _ h0 _ _ ih=>rw [z0t];exact beg wr true ⟨wr,.str nm,.str "write",.int i,.non,0 + es.length,none⟩ ih h0 rfl rfl
 | @rd es os us h _ h0 ih=>rw [z0t];exact beg h false ⟨h,.str nm,.str "read",.non,.non,0 + es.length,none⟩ ih h0 rfl rfl
 | @fin es os us h b a _ h0 ht hf ih=>
  intro k c x;rw [z0t];obtain ⟨j,r,n,l,p,_⟩:=ih h b h0;have hd :∀i,dstep i (dAll 0 [] es) (.fin h a)=(dAll 0 [] es).modify j (λ r=>{ r with a:=a,e:=some i }):=λ i=>by unfold dstep;dsimp only;rw [n]
  rw [hd,z3d (f:=λ r=>{ r with a:=a,e:=some (0 + es.length) }) (λ r=>rfl)];obtain ⟨s,t⟩:=List.mem_filter.mp x;have t:=of_decide_eq_true t;obtain ⟨m,g,y,w,v,C⟩:=ih k c s;refine ⟨m,g,y,?_,v,C⟩;rw [A1,w];show some (if j=m then _ else g)=some g;rw [if_neg (show ¬ j=m from λ e=>by rw [e,w] at l;cases l;exact t (v.symm.trans p))]
theorem TW.evr {nm:Str} {wr:Int} {es:List Ev} {os:List (Int×Bool)} {us:List Int} (h:TW nm wr es os us):EvR es (dAll 0 [] es):=by
 have beg :∀{es:List Ev} {rs:List Rc} (h:Int) (n v x:V),EvR es rs->EvR (es++[.beg h n v x]) (rs++[⟨h,n,v,x,.non,0 + es.length,none⟩]):=by
  intro es rs h n v x I;have lt :∀{i:Nat} {e:Ev},es[i]? = some e->(es++[Ev.beg h n v x])[i]? = some e:=λ z=>by rw [Y0 (List.getElem?_eq_some_iff.mp z).1];exact z
  have w:(es++[Ev.beg h n v x])[0 + es.length]? = some (.beg h n v x):=by rw [L5,F1 (y0 _),z6];rfl
  have u :∀{i:Nat} {e:Ev},(es++[Ev.beg h n v x])[i]? = some e->es[i]? = some e\/(i=0 + es.length/\e=.beg h n v x):=λ {i e} z=>by
   by_cases y:i < es.length
   ·rw [Y0 y] at z;exact .inl z
   ·have p:=(List.getElem?_eq_some_iff.mp z).1;rw [F0] at p;have:i=0 + es.length:=by simp at p;omega
    rw [this,w] at z;exact .inr ⟨this,(T0 z).symm⟩
  refine ⟨λ r g=>?_,λ r g k l=>?_,λ i B F L J z=>?_,λ i B a z=>?_⟩
  ·rcases List.mem_append.mp g with y|y
   ·exact lt (I.a r y)
   ·rw [List.mem_singleton.mp y];exact w
  ·rcases List.mem_append.mp g with y|y
   ·exact lt (I.b r y k l)
   ·rw [List.mem_singleton.mp y] at l;cases l
  ·rcases u z with y|⟨y,_⟩
   ·obtain ⟨r,g,e⟩:=I.c i _ _ _ _ y;exact ⟨r,List.mem_append.mpr (.inl g),e⟩
   ·exact ⟨_,List.mem_append.mpr (.inr (List.mem_singleton.mpr rfl)),y.symm⟩
  ·rcases u z with y|⟨_,y⟩
   ·obtain ⟨r,g,e⟩:=I.d i _ _ y;exact ⟨r,List.mem_append.mpr (.inl g),e⟩
   ·cases y
 induction h with
 | nil=>exact ⟨λ _ h=>absurd h B0,λ _ h=>absurd h B0,λ _ _ _ _ _ h=>by simp at h,λ _ _ _ h=>by simp at h⟩
 | wri _ _ _ _ ih=>rw [z0t];exact beg _ _ _ _ ih
 | rd _ _ ih=>rw [z0t];exact beg _ _ _ _ ih
 | @fin es os us h b a t h0 ht hf I=>
  rw [z0t];obtain ⟨j,r,D,s,E,K⟩:=t.open h b h0;have hd :∀i,dstep i (dAll 0 [] es) (.fin h a)=(dAll 0 [] es).modify j (λ r=>{ r with a:=a,e:=some i }):=λ i=>by unfold dstep;dsimp only;rw [D]
  rw [hd];generalize dAll 0 [] es=rs at I D s;have lt :∀{i:Nat} {e:Ev},es[i]? = some e->(es++[Ev.fin h a])[i]? = some e:=λ z=>by rw [Y0 (List.getElem?_eq_some_iff.mp z).1];exact z
  have w:(es++[Ev.fin h a])[0 + es.length]? = some (.fin h a):=by rw [L5,F1 (y0 _),z6];rfl
  have u :∀{i:Nat} {e:Ev},(es++[Ev.fin h a])[i]? = some e->es[i]? = some e\/(i=0 + es.length/\e=.fin h a):=λ {i e} z=>by
   by_cases y:i < es.length
   ·rw [Y0 y] at z;exact .inl z
   ·have p:=(List.getElem?_eq_some_iff.mp z).1;rw [F0] at p;have:i=0 + es.length:=by simp at p;omega
    rw [this,w] at z;exact .inr ⟨this,(T0 z).symm⟩
  have get :∀q∈rs.modify j (λ r=>{ r with a:=a,e:=some (0 + es.length) }),(q={ r with a:=a,e:=some (0 + es.length) })\/q∈rs:=λ q f=>by
   obtain ⟨m,o⟩:=List.mem_iff_getElem?.mp f;rw [A1] at o;obtain ⟨N,A,e⟩:=Option.map_eq_some_iff.mp o;by_cases z:j=m
   ·rw [if_pos z] at e;rw [<-z,s] at A;cases A;exact .inl e.symm
   ·rw [if_neg z] at e;rw [<-e];exact .inr (d0 A)
  have put :∀q∈rs,q∈rs.modify j (λ r=>{ r with a:=a,e:=some (0 + es.length) })\/q=r:=λ q f=>by
   obtain ⟨m,o⟩:=List.mem_iff_getElem?.mp f;by_cases z:j=m
   ·rw [<-z,s] at o;cases o;exact .inr rfl
   ·refine .inl (d0 (i:=m) ?_);rw [A1,o];show some (if j=m then _ else q)=some q;rw [if_neg z]
  have new:{ r with a:=a,e:=some (0 + es.length) }∈rs.modify j (λ r=>{ r with a:=a,e:=some (0 + es.length) }):=d0 (i:=j) (by rw [A1,s];show some (if j=j then _ else r)=_;rw [if_pos rfl]);have G:=d0 s;refine ⟨λ q f=>?_,λ q f k l=>?_,λ i B F L J z=>?_,λ i B M z=>?_⟩
  ·rcases get q f with e|e
   ·rw [e];exact lt (I.a r G)
   ·exact lt (I.a q e)
  ·rcases get q f with e|e
   ·rw [e] at l⊢;cases l;show (es++[Ev.fin h a])[0 + es.length]? = some (.fin r.h a);rw [E];exact w
   ·exact lt (I.b q e k l)
  ·rcases u z with y|⟨_,y⟩
   ·obtain ⟨q,f,e⟩:=I.c i _ _ _ _ y;rcases put q f with x|x
    ·exact ⟨q,x,e⟩
    ·exact ⟨_,new,by rw [<-e,x]⟩
   ·cases y
  ·rcases u z with y|⟨y1,y2⟩
   ·obtain ⟨q,f,C,H⟩:=I.d i _ _ y;rcases put q f with x|x
    ·exact ⟨q,x,C,H⟩
    ·rw [x,K] at C;cases C
   ·cases y2;exact ⟨_,new,by rw [y1],E⟩
structure Sq1 (wr:Int) (es:List Ev) (rs:List Rc):Prop where
 R:EvR es rs
 G :∀r∈rs,RdG r\/WrG wr r
 D :∀(x y:Nat) (r q:Rc),x < y->rs[x]? = some r->rs[y]? = some q->r.b < q.b/\(r.h=q.h->∃e,r.e=some e/\e < q.b)
 E:EndsB rs
theorem TW.sq {nm:Str} {wr:Int} {es:List Ev} {os:List (Int×Bool)} {us:List Int} (h:TW nm wr es os us):Sq1 wr es (dAll 0 [] es):=by obtain ⟨_,b,a⟩:=DInv.nil.all h.wf.1;exact ⟨h.evr,h.rs.g,a.p,(EndsB.all (es:=es) (i:=0) (rs:=[]) (λ _ h=>absurd h B0) (λ _ h=>absurd h B0)).1⟩
variable {wr:Int} {es:List Ev} {rs:List Rc}
theorem Sq1.hand (S:Sq1 wr es rs) {w w':Rc} (h:w∈rs) (h':w'∈rs) (e:w.h=w'.h):w=w'\/(w.b < w'.b/\∃k,w.e=some k/\k < w'.b)\/(w'.b < w.b/\∃k,w'.e=some k/\k < w.b):=by
 obtain ⟨i,d⟩:=List.mem_iff_getElem?.mp h;obtain ⟨j,c⟩:=List.mem_iff_getElem?.mp h';rcases Q3 i j with z|z|z
 ·obtain ⟨a,b⟩:=S.D i j w w' z d c;exact .inr (.inl ⟨a,b e⟩)
 ·subst z;rw [d] at c;cases c;exact .inl rfl
 ·obtain ⟨a,b⟩:=S.D j i w' w z c d;exact .inr (.inr ⟨a,b e.symm⟩)
theorem Sq1.same_b (S:Sq1 wr es rs) {w w':Rc} (h:w∈rs) (h':w'∈rs) (e:w.b=w'.b):w=w':=by
 obtain ⟨i,c⟩:=List.mem_iff_getElem?.mp h;obtain ⟨j,a⟩:=List.mem_iff_getElem?.mp h';rcases Q3 i j with z|z|z
 ·have:=(S.D i j w w' z c a).1;omega
 ·subst z;rw [c] at a;cases a;rfl
 ·have:=(S.D j i w' w z a c).1;omega
theorem Sq1.wh (S:Sq1 wr es rs) {w:Rc} (h:w∈rs) (hw:isW w=true):w.h=wr/\w.v=.str "write":=by
 rcases S.G w h with g|g
 ·rw [g.w] at hw;cases hw
 ·exact ⟨g.2.1,g.1⟩
def OpW (rs:List Rc) (i:Nat) (w:Rc):Prop:=w∈rs/\isW w=true/\w.b < i/\∀e,w.e=some e->i<=e
theorem Sq1.op1 (S:Sq1 wr es rs) {i:Nat} {w w':Rc} (h:OpW rs i w) (h':OpW rs i w'):w=w':=by
 rcases S.hand h.1 h'.1 ((S.wh h.1 h.2.1).1.trans (S.wh h'.1 h'.2.1).1.symm) with z|⟨_,k,e,lt⟩|⟨_,k,e,lt⟩
 ·exact z
 ·have:=h.2.2.2 k e;have:=h'.2.2.1;omega
 ·have:=h'.2.2.2 k e;have:=h.2.2.1;omega
def OpI (rs:List Rc) (i:Nat) (o:Option Rc):Prop:=match o with|none=>∀w,¬ OpW rs i w|some w=>OpW rs i w
theorem Sq1.begW (S:Sq1 wr es rs) {i:Nat} {h:Int} {n x:V} (e:es[i]? = some (.beg h n (.str "write") x)) :∃w,OpW rs (i + 1) w/\w.b=i/\w.x=x/\w.h=h/\w.n=n:=by obtain ⟨r,d,rfl⟩:=S.R.c i _ _ _ _ e;have:=S.R.a r d;rw [e] at this;injection this with this;injection this with h1 h2 h3 h4;exact ⟨r,⟨d,decide_eq_true h3.symm,V1 _,λ k f=>S.E r d k f⟩,rfl,h4.symm,h1.symm,h2.symm⟩
theorem Sq1.noE (S:Sq1 wr es rs) {i:Nat} {h:Int} {n v x:V} (e:es[i]? = some (.beg h n v x)) :∀w∈rs,w.e≠some i:=λ w a z=>by have:=S.R.b w a i z;rw [e] at this;cases this
theorem Sq1.noB (S:Sq1 wr es rs) {i:Nat} {h:Int} {a:V} (e:es[i]? = some (.fin h a)) :∀w∈rs,w.b≠i:=λ w c z=>by have:=S.R.a w c;rw [z,e] at this;cases this
theorem Sq1.noW (S:Sq1 wr es rs) {i:Nat} {h:Int} {n v x:V} (e:es[i]? = some (.beg h n v x)) (hv:v≠.str "write") :∀w∈rs,isW w=true->w.b≠i:=λ w d c z=>by have:=S.R.a w d;rw [z,e] at this;injection this with this;injection this with _ _ h3 _;exact hv (h3.trans (of_decide_eq_true c))
theorem OpI.on {i:Nat} {o:Option Rc} (h:OpI rs i o) (nb :∀w∈rs,isW w=true->w.b≠i) (ne :∀w∈rs,isW w=true->w.e≠some i):OpI rs (i + 1) o:=by
 cases o with
 | none=>
  intro w a;refine h w ⟨a.1,a.2.1,?_,λ e z=>?_⟩
  ·have:=a.2.2.1;have:=nb w a.1 a.2.1;omega
  ·have:=a.2.2.2 e z;omega
 | some w=>
  refine ⟨h.1,h.2.1,?_,λ e z=>?_⟩
  ·have:=h.2.2.1;omega
  ·have:=h.2.2.2 e z;rcases i4 i e with y|y
   ·exact y
   ·have:e=i:=by omega
    subst this;exact absurd z (ne w h.1 h.2.1)
theorem Sq1.finY (S:Sq1 wr es rs) {i:Nat} {w:Rc} {a:V} (e:es[i]? = some (.fin w.h a)) (h:OpW rs i w):w.e=some i/\OpI rs (i + 1) none:=by
 obtain ⟨r,g,f,m⟩:=S.R.d i _ _ e;have o:=S.E r g i f;have l:r=w:=by
  rcases S.hand g h.1 m with z|⟨_,k,e1,lt⟩|⟨_,k,e1,lt⟩
  ·exact z
  ·rw [f] at e1;cases e1;have:=h.2.2.1;omega
  ·have:=h.2.2.2 k e1;omega
 subst l;refine ⟨f,λ j c=>?_⟩;have n:j.b≠i:=S.noB e j c.1;rcases S.hand g c.1 ((S.wh g h.2.1).1.trans (S.wh c.1 c.2.1).1.symm) with z|⟨_,k,e1,lt⟩|⟨_,k,e1,lt⟩
 ·subst z;have:=c.2.2.2 i f;omega
 ·rw [f] at e1;cases e1;have:=c.2.2.1;omega
 ·have:=c.2.2.2 k e1;omega
theorem Sq1.finN (S:Sq1 wr es rs) {i:Nat} {h:Int} {a:V} {o:Option Rc} (e:es[i]? = some (.fin h a)) (ho:OpI rs i o) (hn :∀w,o=some w->h≠w.h) :∀w∈rs,isW w=true->w.e≠some i:=λ w d j z=>by
 have c:=S.R.b w d i z;rw [e] at c;injection c with c;injection c with h1 _;have f:OpW rs i w:=⟨d,j,S.E w d i z,λ k g=>by rw [z] at g;cases g;exact y0 _⟩
 cases o with
 | none=>exact ho w f
 | some w'=>have:w'=w:=S.op1 ho f;subst this;exact hn w' rfl h1
def LastI (rs:List Rc) (i:Nat) (x:Int):Prop:=(x=0/\∀w∈rs,isW w=true->∀e,w.e=some e->¬ e < i)\/∃w∈rs,isW w=true/\intV w.x=x/\(∃e,w.e=some e/\e < i)/\∀w'∈rs,isW w'=true->(∃e,w'.e=some e/\e < i)->w'.b<=w.b
theorem LastI.zero:LastI rs 0 0:=.inl ⟨rfl,λ _ _ _ _ _=>O2 _⟩
theorem LastI.on {i:Nat} {x:Int} (h:LastI rs i x) (ne :∀w∈rs,isW w=true->w.e≠some i):LastI rs (i + 1) x:=by
 have f :∀w∈rs,isW w=true->∀e,w.e=some e->e < i + 1->e < i:=λ w b a e z lt=>by
  rcases i4 e i with y|y
  ·exact y
  ·have:e=i:=by omega
   subst this;exact absurd z (ne w b a)
 rcases h with ⟨c,d⟩|⟨w,b,c,d,⟨e,h3,h4⟩,h5⟩
 ·exact .inl ⟨c,λ w b a e z lt=>d w b a e z (f w b a e z lt)⟩
 ·exact .inr ⟨w,b,c,d,⟨e,h3,by omega⟩,λ g j a ⟨e',z,lt⟩=>h5 g j a ⟨e',z,f g j a e' z lt⟩⟩
theorem Sq1.lastY (S:Sq1 wr es rs) {i:Nat} {w:Rc} (hw:w∈rs) (hi:isW w=true) (e:w.e=some i):LastI rs (i + 1) (intV w.x):=by
 refine .inr ⟨w,hw,hi,rfl,⟨i,e,V1 _⟩,λ c a b ⟨k,z,lt⟩=>?_⟩;rcases S.hand hw a ((S.wh hw hi).1.trans (S.wh a b).1.symm) with y|⟨_,k',e1,l1⟩|⟨l,_⟩
 ·rw [y];exact y0 _
 ·rw [e] at e1;cases e1;have:=S.E c a k z;omega
 ·omega
theorem Sq1.last1 (S:Sq1 wr es rs) {i:Nat} {x y:Int} (a:LastI rs i x) (b:LastI rs i y):x=y:=by
 rcases a with ⟨f,g⟩|⟨w,hw,f,g,⟨e,a3,a4⟩,a5⟩
 ·rcases b with ⟨c,d⟩|⟨w,hw,c,d,⟨e,b3,b4⟩,b5⟩
  ·rw [f,c]
  ·exact absurd b4 (g w hw c e b3)
 ·rcases b with ⟨c,d⟩|⟨w',hw',c,d,⟨e',b3,b4⟩,b5⟩
  ·exact absurd a4 (d w hw f e a3)
  ·have h:=a5 w' hw' c ⟨e',b3,b4⟩;have j:=b5 w hw f ⟨e,a3,a4⟩;have:w=w':=S.same_b hw hw' (by omega);rw [<-g,<-d,this]
def BesI (rs:List Rc) (rb i:Nat) (x:Int):Prop:=∃w∈rs,isW w=true/\intV w.x=x/\((rb < w.b/\w.b < i)\/(rb < i/\w.b < rb/\∀e,w.e=some e->rb < e))
theorem BesI.le {rb i:Nat} {x:Int} (h:i<=rb):¬ BesI rs rb i x:=λ ⟨w,_,_,_,z⟩=>by omega
theorem BesI.on {rb i:Nat} {x:Int} (nr:i≠rb) (nb :∀w∈rs,isW w=true->w.b≠i):BesI rs rb (i + 1) x↔BesI rs rb i x:=by
 constructor
 ·rintro ⟨w,hw,h1,h2,h3⟩;have:=nb w hw h1;exact ⟨w,hw,h1,h2,h3.elim (λ z=>.inl ⟨z.1,by omega⟩) λ z=>.inr ⟨by omega,z.2⟩⟩
 ·rintro ⟨w,hw,h1,h2,h3⟩;exact ⟨w,hw,h1,h2,h3.elim (λ z=>.inl ⟨z.1,by omega⟩) λ z=>.inr ⟨by omega,z.2⟩⟩
theorem Sq1.besW (S:Sq1 wr es rs) {rb i:Nat} {x:Int} {w:Rc} (hw:w∈rs) (hi:isW w=true) (hb:w.b=i) (nr:i≠rb):BesI rs rb (i + 1) x↔BesI rs rb i x\/(rb < i/\x=intV w.x):=by
 constructor
 ·rintro ⟨w',hw',h1,h2,a⟩;rcases a with ⟨a,c⟩|⟨a,c⟩
  ·by_cases z:w'.b=i
   ·have:w'=w:=S.same_b hw' hw (by rw [z,hb]);exact .inr ⟨by omega,by rw [<-h2,this]⟩
   ·exact .inl ⟨w',hw',h1,h2,.inl ⟨a,by omega⟩⟩
  ·exact .inl ⟨w',hw',h1,h2,.inr ⟨by omega,c⟩⟩
 ·rintro (⟨w',hw',h1,h2,a⟩|⟨h1,h2⟩)
  ·exact ⟨w',hw',h1,h2,a.elim (λ z=>.inl ⟨z.1,by omega⟩) λ z=>.inr ⟨by omega,z.2⟩⟩
  ·exact ⟨w,hw,hi,h2.symm,.inl ⟨by omega,by omega⟩⟩
theorem Sq1.besB (S:Sq1 wr es rs) {rb:Nat} {x:Int} {o:Option Rc} (ho:OpI rs rb o) (ne :∀w∈rs,w.e≠some rb):BesI rs rb (rb + 1) x↔∃w,o=some w/\x=intV w.x:=by
 constructor
 ·rintro ⟨w,hw,a,h2,h3⟩;rcases h3 with h3|⟨_,h4,h5⟩
  ·omega
  ·have b:OpW rs rb w:=⟨hw,a,h4,λ e z=>U3 (h5 e z)⟩
   cases o with
   | none=>exact absurd b (ho w)
   | some w'=>have:w'=w:=S.op1 ho b;exact ⟨w',rfl,by rw [this,h2]⟩
 ·rintro ⟨w,rfl,h⟩;refine ⟨w,ho.1,ho.2.1,h.symm,.inr ⟨V1 _,ho.2.2.1,λ e z=>?_⟩⟩;have a:=ho.2.2.2 e z;rcases i4 rb e with y|y
  ·exact y
  ·have:e=rb:=by omega
   subst this;exact absurd z (ne w ho.1)
theorem Sq1.besE (S:Sq1 wr es rs) {rb re:Nat} {x:Int} (lt:rb < re) (nb :∀w∈rs,isW w=true->w.b≠rb):BesI rs rb re x↔∃w∈rs,isW w=true/\intV w.x=x/\w.b < re/\∀e,w.e=some e->rb < e:=by
 constructor
 ·rintro ⟨w,hw,h1,h2,a⟩;refine ⟨w,hw,h1,h2,?_⟩;rcases a with ⟨a,c⟩|⟨_,c,h5⟩
  ·exact ⟨c,λ e z=>by have:=S.E w hw e z;omega⟩
  ·exact ⟨by omega,h5⟩
 ·rintro ⟨w,hw,h1,h2,a,c⟩;refine ⟨w,hw,h1,h2,?_⟩;have:=nb w hw h1;rcases i4 rb w.b with z|z
  ·exact .inl ⟨z,a⟩
  ·exact .inr ⟨lt,by omega,c⟩
end
section
structure Ent where
 x:Int
 b:Int
 e:Option Int
noncomputable def ent0:Ent:=⟨0,-2,some (-1)⟩
noncomputable def entW (r:Rc):Ent:=⟨intV r.x,r.b,r.e.map λ n=>(n:Int)⟩
noncomputable def ents (rs:List Rc):List Ent:=ent0 :: (rs.filter isW).map entW
theorem ents_mem {rs:List Rc} {t:Ent}:t∈ents rs↔t=ent0\/∃w∈rs,isW w=true/\t=entW w:=by
 unfold ents;rw [B3,List.mem_map];constructor
 ·rintro (h|⟨w,hw,e⟩)
  ·exact .inl h
  ·exact .inr ⟨w,(List.mem_filter.mp hw).1,(List.mem_filter.mp hw).2,e.symm⟩
 ·rintro (h|⟨w,hw,hi,e⟩)
  ·exact .inl h
  ·exact .inr ⟨w,List.mem_filter.mpr ⟨hw,hi⟩,e.symm⟩
theorem z7r (rs:List Rc) (r:Rc):ents (rs++[r])=ents rs++if isW r=true then [entW r] else []:=by
 unfold ents;rw [U2,V0,List.cons_append];by_cases z:isW r=true
 ·rw [if_pos z,L1 z];rfl
 ·rw [if_neg z,Q1 z];rfl
noncomputable def besB (rb re:Int) (t:Ent):Bool:=(match t.e with|none=>true|some e=>decide (rb < e)) && decide (t.b < re)
noncomputable def ahdB (rb:Int) (t:Ent):Bool:=match t.e with|none=>false|some e=>decide (e < rb)
variable {wr:Int} {es:List Ev} {rs:List Rc}
theorem Sq1.ents_b (S:Sq1 wr es rs) {t t':Ent} (h:t∈ents rs) (h':t'∈ents rs) (e:t.b=t'.b):t=t':=by
 rcases ents_mem.mp h with rfl|⟨w,hw,_,rfl⟩
 ·rcases ents_mem.mp h' with rfl|⟨w',hw',_,rfl⟩
  ·rfl
  ·have:(-2:Int)=(w'.b:Int):=e;omega
 ·rcases ents_mem.mp h' with rfl|⟨w',hw',_,rfl⟩
  ·have:(w.b:Int)=-2:=e;omega
  ·have:(w.b:Int)=(w'.b:Int):=e;rw [S.same_b hw hw' (by omega)]
theorem z15 {α:Type} {f:α->Int} :∀{l:List α},(l.map f).Nodup->∀a∈l,∀b∈l,f a=f b->a=b
 | [],_,_,h,_,_,_=>absurd h B0
 | x :: l,nd,a,ha,b,hb,e=>by
  rw [O0,n5] at nd;rcases List.mem_cons.mp ha with rfl|ha'
  ·rcases List.mem_cons.mp hb with rfl|hb'
   ·rfl
   ·exact absurd (List.mem_map.mpr ⟨b,hb',e.symm⟩) nd.1
  ·rcases List.mem_cons.mp hb with rfl|hb'
   ·exact absurd (List.mem_map.mpr ⟨a,ha',e⟩) nd.1
   ·exact z15 nd.2 a ha' b hb' e
theorem zbr (nd:((rs.filter isW).map (λ r=>intV r.x)).Nodup) (n0:(0:Int)∉(rs.filter isW).map (λ r=>intV r.x)) {t t':Ent} (h:t∈ents rs) (h':t'∈ents rs) (e:t.x=t'.x):t=t':=by
 have ne :∀w∈rs,isW w=true->intV w.x≠0:=λ w b a z=>n0 (List.mem_map.mpr ⟨w,List.mem_filter.mpr ⟨b,a⟩,z⟩);rcases ents_mem.mp h with rfl|⟨w,b,a,rfl⟩
 ·rcases ents_mem.mp h' with rfl|⟨w',hw',hi',rfl⟩
  ·rfl
  ·exact absurd e.symm (ne w' hw' hi')
 ·rcases ents_mem.mp h' with rfl|⟨w',hw',hi',rfl⟩
  ·exact absurd e (ne w b a)
  ·rw [z15 nd w (List.mem_filter.mpr ⟨b,a⟩) w' (List.mem_filter.mpr ⟨hw',hi'⟩) e]
theorem besW {rb re:Nat} {w:Rc}:besB rb re (entW w)=true↔w.b < re/\∀k,w.e=some k->rb < k:=by
 unfold besB entW;cases h:w.e with
 | none=>simp
 | some k=>
  rw [a6];constructor
  ·rintro ⟨a,b⟩;have a:(rb:Int) < (k:Int):=of_decide_eq_true a;have b:(w.b:Int) < (re:Int):=of_decide_eq_true b;exact ⟨by omega,λ c z=>by cases z;omega⟩
  ·rintro ⟨a,b⟩;have b:=b k rfl;exact ⟨decide_eq_true (show (rb:Int) < (k:Int) by omega),decide_eq_true (show (w.b:Int) < (re:Int) by omega)⟩
theorem bes0 {rb re:Nat}:besB rb re ent0=false:=by have:decide ((rb:Int) < -1)=false:=decide_eq_false (by omega);show (decide ((rb:Int) < -1) && _)=false;rw [this];rfl
theorem ahdW {rb:Nat} {w:Rc}:ahdB rb (entW w)=true↔∃e,w.e=some e/\e < rb:=by
 unfold ahdB entW;cases h:w.e with
 | none=>simp
 | some k=>
  constructor
  ·intro a;have a:(k:Int) < (rb:Int):=of_decide_eq_true a;exact ⟨k,rfl,by omega⟩
  ·rintro ⟨e,z,lt⟩;cases z;exact decide_eq_true (show (k:Int) < (rb:Int) by omega)
theorem ahd0 {rb:Nat}:ahdB rb ent0=true:=decide_eq_true (show (-1:Int) < (rb:Int) by omega)
theorem zc6 (nd:((rs.filter isW).map (λ r=>intV r.x)).Nodup) (n0:(0:Int)∉(rs.filter isW).map (λ r=>intV r.x)) {rb re:Nat} {t:Ent} (h:t∈ents rs):besB rb re t=true↔∃w∈rs,isW w=true/\intV w.x=t.x/\w.b < re/\∀k,w.e=some k->rb < k:=by
 constructor
 ·intro b;rcases ents_mem.mp h with rfl|⟨w,hw,hi,rfl⟩
  ·rw [bes0] at b;cases b
  ·exact ⟨w,hw,hi,rfl,besW.mp b⟩
 ·rintro ⟨w,hw,hi,hx,r⟩;have:t=entW w:=zbr nd n0 h (ents_mem.mpr (.inr ⟨w,hw,hi,rfl⟩)) hx.symm;rw [this];exact besW.mpr r
theorem Sq1.last_iff (S:Sq1 wr es rs) (nd:((rs.filter isW).map (λ r=>intV r.x)).Nodup) (n0:(0:Int)∉(rs.filter isW).map (λ r=>intV r.x)) {rb:Nat} {t l:Ent} (h:t∈ents rs) (hl:l∈ents rs) (la:ahdB rb l=true) (lm :∀t'∈ents rs,ahdB rb t'=true->t'.b<=l.b):t=l↔LastI rs rb t.x:=by
 have g:LastI rs rb l.x:=by
  rcases ents_mem.mp hl with rfl|⟨w,f,c,rfl⟩
  ·refine .inl ⟨rfl,λ w f c e z lt=>?_⟩;have:=lm (entW w) (ents_mem.mpr (.inr ⟨w,f,c,rfl⟩)) (ahdW.mpr ⟨e,z,lt⟩);have:(w.b:Int)<=-2:=this;omega
  ·refine .inr ⟨w,f,c,rfl,ahdW.mp la,λ d j i z=>?_⟩;have:(d.b:Int)<=(w.b:Int):=lm (entW d) (ents_mem.mpr (.inr ⟨d,j,i,rfl⟩)) (ahdW.mpr z);omega
 constructor
 ·rintro rfl;exact g
 ·intro a;exact zbr nd n0 h hl (S.last1 a g)
theorem zbv {rb:Nat} {x:Int} (h:LastI rs rb x) :∃t∈ents rs,t.x=x:=by
 rcases h with ⟨h,_⟩|⟨w,hw,hi,hx,_⟩
 ·exact ⟨ent0,.head _,h.symm⟩
 ·exact ⟨entW w,ents_mem.mpr (.inr ⟨w,hw,hi,rfl⟩),hx⟩
def RegR (rs:List Rc) (r:Rc) (e:Nat):Prop:=(∃w∈rs,isW w=true/\intV w.x=intV r.a/\w.b < e/\∀k,w.e=some k->r.b < k)\/LastI rs r.b (intV r.a)
def SafR (rs:List Rc) (r:Rc) (e:Nat):Prop:=(∃w∈rs,isW w=true/\w.b < e/\∀k,w.e=some k->r.b < k)\/LastI rs r.b (intV r.a)
theorem RegR.safe {r:Rc} {e:Nat} (h:RegR rs r e):SafR rs r e:=h.imp (λ ⟨w,hw,hi,_,z⟩=>⟨w,hw,hi,z⟩) id
def AllR (P:List Rc->Rc->Nat->Prop) (rs:List Rc):Prop:=∀r∈rs,∀e,r.v=.str "read"->r.e=some e->P rs r e
end
section
variable {P:Program} {w:Z0} {mg:Str->Option Value} {base:Heap}
noncomputable def endO:Option Int->V
 | none=>.non
 | some i=>.int i
theorem endV_O (o:Option Nat):endV o=endO (o.map λ n=>(n:Int)):=by cases o<;>rfl
def EntV (K:c0) (H:Hp) (t:Ent) (v:V):Prop:=∃p,v=.ref p/\SqT K H p [.int t.b,endO t.e]
def EntAt (K:c0) (H:Hp) (t:Ent) (kv:Key×V):Prop:=kv.1=.inl t.x/\EntV K H t kv.2
theorem EntV.tups {K:c0} {H H':Hp} {t:Ent} {v:V} (f :∀c xs,SqT K H c xs->SqT K H' c xs) (h:EntV K H t v):EntV K H' t v:=h.elim λ p z=>⟨p,z.1,f _ _ z.2⟩
theorem EntAt.tups {K:c0} {H H':Hp} {t:Ent} {kv:Key×V} (f :∀c xs,SqT K H c xs->SqT K H' c xs) (h:EntAt K H t kv):EntAt K H' t kv:=⟨h.1,h.2.tups f⟩
theorem z4f {K:c0} {H:Hp} :∀{ts:List Ent} {kvs:List (Key×V)},All2 (EntAt K H) ts kvs->kvs.map (·.1)=ts.map λ t=>Sum.inl t.x
 | _,_,.nil=>rfl
 | _,_,.cons a r=>by rw [O0,O0,z4f r,a.1]
theorem z37 (rs:List Rc):(ents rs).length<=rs.length + 1:=by unfold ents;rw [T1,A0];exact Nat.succ_le_succ (E1 _ _)
theorem zec {rs:List Rc} {i:Nat} {r:Rc} (nd:((rs.filter isW).map (λ r=>intV r.x)).Nodup) (n0:(0:Int)∉(rs.filter isW).map (λ r=>intV r.x)) (h:rs[i]? = some r) (hw:isW r=true):(Sum.inl (intV r.x):Key)∉(ents (rs.take i)).map λ t=>(Sum.inl t.x:Key):=λ z=>by
 obtain ⟨t,b,e⟩:=List.mem_map.mp z;have e:=W2 e;rcases ents_mem.mp b with rfl|⟨w,hm,hi,rfl⟩
 ·exact n0 (List.mem_map.mpr ⟨r,List.mem_filter.mpr ⟨d0 h,hw⟩,e.symm⟩)
 ·have c:rs=rs.take i++r :: rs.drop (i + 1):=by obtain ⟨d,a⟩:=List.getElem?_eq_some_iff.mp h;rw [<-a,<-d5 d,List.take_append_drop]
  rw [c,U2,V0,u8] at nd;exact nd.2.2 _ (List.mem_map.mpr ⟨w,List.mem_filter.mpr ⟨hm,hi⟩,rfl⟩) _ (List.mem_map.mpr ⟨r,List.mem_filter.mpr ⟨.head _,hw⟩,rfl⟩) e
theorem zcx {H:Hp}:SqT (kx w) H 54 [.int (-2),.int (-1)]:=
 .inr ⟨⟨(.type "tuple"),none,(.seq #[(.int (-2) 250),(.int (-1) 252)] 0),#[]⟩,#[(.int (-2) 250),(.int (-1) 252)],0,by kernel_rfl,rfl,rfl,w_2,.cons ⟨_,rfl⟩ (.cons ⟨_,rfl⟩ .nil)⟩
def z19 (K:c0):Sp:=λ vs H Q _=>∃l zs rs wr,vs=[.ref l]/\ToldAt K H l wr rs zs/\((rs.filter isW).map (λ r=>intV r.x)).Nodup/\(0:Int)∉(rs.filter isW).map (λ r=>intV r.x)/\∀d kvs H',Same H H'->H d=none->H' d=some (.dK kvs)->All2 (EntAt K H') (ents rs) kvs->Q (.ref d) H'
theorem z8z (T:TX (kx w) mg):Fo P w mg base CX0 1 78 y0v ["told"] (z19 (kx w)):=by
 refine (z4g w.params).ok sc_writers (λ U H Q E h=>?_) (λ a2 A a1 s H U Q E R h=>?_)
 ·obtain ⟨l,C,rs,V,rfl,_⟩:=h;rfl
 ·obtain ⟨l,C,rs,V,rfl,f,Z,W,q⟩:=h;refine ⟨_,(z05 (ps_set (i:=1) sc_writers.nd rfl (S0 rfl) (zca (z8q pe_int (zda (v:=.ref 54) rfl (T.of (z5g _)) rfl) zc7) rfl rfl (by simp) (by decide)))
   (z05 (ps_for X1 rfl (z0r (pv 0)) (z0f (i:=2) sc_writers.nd rfl (S0 rfl))
   (z06 (ps_if (z07 opEq (pe_ix ix_seq (pv 2) pe_int (λ _ _=>rfl)) pe_str (nomark _))
   (z06 (z41 (hu_of R) (pv 1) (pe_ix ix_seq (pv 2) pe_int (λ _ _=>rfl)) (z3j slSeq (pv 2) (z47 pe_int) z7s) rfl))
   z0g)))
   (z06 (ps_ret (pv 1))))),?_⟩
  have lz:C.length=rs.length:=z03 f.a;have a3:=f.n;intro d hd;refine ⟨z02,[(.inl 0,.ref 54)],rfl,(show (1:Nat)<=15 by decide),?_⟩;have G:Same H (upd (upd H d (.dK [])) d (.dK (mergeK [] [(.inl 0,.ref 54)]))):=Same.keep (Same.upd hd) hd;have N:upd (upd H d (.dK [])) d (.dK (mergeK [] [(.inl 0,.ref 54)])) d=some (.dK [(.inl 0,.ref 54)]):=z02;generalize upd (upd H d (.dK [])) d (.dK (mergeK [] [(.inl 0,.ref 54)]))=H1 at G N⊢;refine ⟨_,rfl,l,rfl,⟨_,SqL.of (G _ _ f.l)⟩,?_⟩;refine z1c (K:=KX w.params) (a:=l) (xs:=C) (λ i σ B=>Same H B/\(∃kvs,B d=some (.dK kvs)/\All2 (EntAt (kx w) B) (ents (rs.take i)) kvs)/\∃x2,σ=[some (.ref l),some (.ref d),x2])
   ⟨G,⟨_,N,.cons ⟨rfl,54,rfl,zcx⟩ .nil⟩,_,rfl⟩ (λ _ σ B _ h=>SqL.of (h.1 _ _ f.l)) ?_ ?_
  ·rintro i y σ M S ⟨s2,⟨kvs,ed,wk⟩,x2,rfl⟩;obtain ⟨r,o,p,rfl,sp⟩:=z09 f.a S;have hi:i < 63:=by have:=(List.getElem?_eq_some_iff.mp o).1;omega
   have lk:kvs.length<=64:=by rw [z03 wk];refine D0 (z37 _) ?_;rw [V3];omega
   have t:=s2.seqT sp;refine g_name ?_;rcases f.g r (d0 o) with g|g
   ·refine ⟨_,rfl,.inr (.inl ⟨p,_,2,.str "read",rfl,rfl,t,by rw [g.1];exact z04 (j:=2) rfl,rfl,_,rfl,iteK ?_⟩)⟩;refine ⟨s2,⟨kvs,ed,?_⟩,_,rfl⟩;rw [z7x o,z7r,if_neg (by rw [g.w];decide),E3];exact wk
   ·refine ⟨_,rfl,.inr (.inl ⟨p,_,2,.str "write",rfl,rfl,t,by rw [g.1];exact z04 (j:=2) rfl,rfl,_,rfl,iteP (by decide +kernel) ?_⟩)⟩;refine ⟨_,rfl,5,rfl,.inr (.inl ⟨p,_,rfl,t,λ z=>absurd z.1 (show ¬ HT.sIx 7 0 (some 5)=0 by decide),λ L a0=>?_⟩)⟩;have X:cutV [.int r.h,r.n,r.v,r.x,r.a,.int r.b,endV r.e] (some 5) none=[.int r.b,endV r.e]:=rfl;rw [X];obtain ⟨I,O,u,Y⟩:=newA (.tup [.int r.b,endV r.e]) a0;rw [<-O];have J:=u _ _ ed;refine ⟨_,rfl,_,rfl,.inr (.inl ⟨p,_,3,.int (intV r.x),rfl,rfl,u.seqT t,by rw [<-g.2.2.1];exact z04 (j:=3) rfl,d,_,rfl,DPut.k (k:=.inl (intV r.x)) J (W1 (m:=100) (by omega) (by decide)),?_⟩)⟩;have F:Tups (kx w) I (upd I d (.dK (putK kvs (.inl (intV r.x)) (.ref L)))):=Tups.dict J;have D:=zec Z W o g.w;rw [<-z4f wk] at D;refine ⟨Same.keep (s2.trans u) hd,⟨_,z02,?_⟩,_,rfl⟩;rw [z7x o,z7r,if_pos g.w,z27 D];rw [z27 D] at F;refine z0v (z01 (λ _ _ z=>EntAt.tups (λ c xs y=>F _ _ (u.seqT y)) z) wk) ⟨rfl,L,rfl,?_⟩;have:=F _ _ (SqT.of Y);rw [endV_O] at this;exact this
  ·rintro σ M ⟨s2,⟨kvs,ed,wk⟩,x2,rfl⟩;rw [lz,P5] at wk;exact ⟨_,rfl,q d kvs M s2 hd ed wk⟩
def NumAt (H:Hp) (zs:List V) (i:Nat) (y:V):Prop:=∃p z,y=.ref p/\H p=some (.tup [.int (i:Nat),z])/\zs[i]? = some z
theorem NumAt.same {H H':Hp} {zs:List V} {i:Nat} {y:V} (s:Same H H') (h:NumAt H zs i y):NumAt H' zs i y:=by obtain ⟨p,z,b,c,a⟩:=h;exact ⟨p,z,b,s _ _ c,a⟩
noncomputable def isRE (r:Rc):Bool:=decide (r.v=.str "read") && r.e.isSome
def z0p (K:c0):Sp:=λ vs H Q _=>∃l zs rs wr,vs=[.ref l]/\ToldAt K H l wr rs zs/\∀a ws H',Same H H'->H' a=some (.lst ws)->All2 (NumAt H' zs) ((U0 rs.length).filter λ i=>isRE (rs[i]?.getD r00)) ws->Q (.ref a) H'
theorem z4n (T:TX (kx w) mg):Fo P w mg base CX0 1 83 y06 ["told"] (z0p (kx w)):=by
 refine (z1j w.params).ok z4r (λ J H Q E h=>?_) (λ a0 A Z s H J Q E hr h=>?_)
 ·obtain ⟨l,d,rs,L,rfl,_⟩:=h;rfl
 ·obtain ⟨l,d,rs,L,rfl,b,q⟩:=h;refine ⟨_,(z06 (ps_ret (pe_cg (xs:=["number","deed"]) (g:=gTup (kx w) 2 (gCons (gName 0) (gCons (gName 1) gNil))) (fr:=[]) (z9t rfl (T.no (z2i _)) (z00 (pv 0) pa_nil)) (λ _ _ _ _ _=>(pg_tup rfl (z0b (pg_cn (N:=["number","deed"]) 0) (z0b (pg_cn (N:=["number","deed"]) 1) z11)))) (λ _ _ _ _ _=>(pf_one (PW.pt (pw_and (z07 opEq (pe_ix (z0k (K:=KX w.params) rfl) (pv 1) pe_int (λ _ _=>rfl)) pe_str (nomark _)) (z1a (z07 z1v (pe_ix (z0k (K:=KX w.params) rfl) (pv 1) pe_int (λ _ _=>rfl)) pe_non (nomark _))))))) (λ _ _ _ _ _=>(pe_tup (z00 (pv 0) (z00 (pv 1) pa_nil))))))),?_⟩;have W:d.length=rs.length:=z03 b.a;have a1:=b.n;refine sq_ret ?_;refine zb3 (K:=KX w.params) (a:=l) (xs:=d) (H1:=H) (λ i=>isRE (rs[i]?.getD r00)) (λ i y X=>NumAt X d i y) (λ _ _ _ _ s z=>z.same s) (λ R h=>⟨_,rfl,h⟩) (SqL.of b.l) (D0 (m:=63) (by omega) (by decide)) ?_ ?_
  ·intro i hi v H1 k S KT KF C f;obtain ⟨x,U,F,rfl,G⟩:=S;obtain ⟨r,u,p,rfl,Y⟩:=z09 b.a F;have c:=k.seqT Y;rw [getD_some u] at C f;refine ⟨U,_,rfl,SqT.of G,rfl,_,_,rfl,_,_,rfl,rfl,[some (.int (i:Nat)),some (.ref p)],rfl,rfl,?_⟩;rcases b.g r (d0 u) with g|g
   ·refine ⟨_,rfl,.inr (.inl ⟨p,_,2,.str "read",rfl,rfl,c,by rw [g.1];exact z04 (j:=2) rfl,rfl,_,rfl,iteP (by decide +kernel) ?_⟩)⟩;cases he:r.e with
    | none=>exact ⟨_,rfl,.inr (.inl ⟨p,_,6,.non,rfl,rfl,c,by rw [he];exact z04 (j:=6) rfl,rfl,_,rfl,iteN (by decide) (f (by unfold isRE;rw [he];exact Bool.and_false _) _ (Same.refl _))⟩)⟩
    | some e=>refine ⟨_,rfl,.inr (.inl ⟨p,_,6,.int e,rfl,rfl,c,by rw [he];exact z04 (j:=6) rfl,rfl,_,rfl,iteP (by simp) ?_⟩)⟩;refine ⟨_,rfl,_,rfl,w_2,λ I V=>C (by unfold isRE;rw [he,decide_eq_true g.1];rfl) _ _ (Same.upd V) ⟨I,_,rfl,z02,F⟩⟩
   ·refine ⟨_,rfl,.inr (.inl ⟨p,_,2,.str "write",rfl,rfl,c,by rw [g.1];exact z04 (j:=2) rfl,rfl,_,rfl,iteK ?_⟩)⟩;refine iteN (by decide) (f ?_ _ (Same.refl _));unfold isRE;rw [decide_eq_false (λ e=>z0h (e.symm.trans g.1))];rfl
  intro M H1 B k O D;rw [W] at D;have t:=Same.upd (o:=.lst B) O;exact q M B _ (k.trans t) z02 (z01 (λ _ _ z=>z.same t) D)
def z0i (K:c0):Sp:=λ vs H Q _=>∃t nm wr es ys,vs=[.ref t]/\TalR K H t nm wr es ys/\∀l zs H',Same H H'->ToldAt K H' l wr (dAll 0 [] es) zs->Q (.ref l) H'
theorem z24 (T:TX (kx w) mg) (c0:Ca P w mg base "plain_deeds" ["tale"] 4 (z10 (kx w))):Fo P w mg base CX0 5 124 y00 ["tale"] (z0i (kx w)):=by
 refine (z0u w.params).ok sc_lone_writer_deeds (λ U H Q E h=>?_) (λ a2 A a1 s H U Q E M h=>?_)
 ·obtain ⟨t,J,d,x,G,rfl,_⟩:=h;rfl
 ·obtain ⟨t,J,d,x,G,rfl,X,q⟩:=h;refine ⟨_,(z05 (ps_set (i:=1) sc_lone_writer_deeds.nd rfl (S0 rfl) (pe_cal c0 (M.mono (by decide)) rfl (z00 (pv 0) pa_nil)))
   (z05 (ps_if (z07 op_gt (z76 rfl rfl (T.no (n_len _)) rfl (T.no (n_set _)) T5 boot_set (pe_cg (xs:=["deed"]) (g:=gName 0) (fr:=[]) (z0r (pv 1)) (λ _ _ _ _ _=>(pg_cn (N:=["deed"]) 0)) (λ _ _ _ _ _=>(pf_one (z07 opEq (pe_ix (z0k (K:=KX w.params) rfl) (pv 0) pe_int (λ _ _=>rfl)) pe_str (nomark _)))) (λ _ _ _ _ _=>(pe_ix (z0k (K:=KX w.params) rfl) (pv 0) pe_int (λ _ _=>rfl))))) pe_int (nomark _))
   (z06 za7)
   z0g)
   (z06 (ps_ret (pv 1))))),?_⟩
  refine z0a ?_;refine ⟨_,rfl,t,J,d,x,G,rfl,X,λ l B H1 s1 b=>?_⟩;refine g_name ?_;generalize dAll 0 [] x=rs at b q;have lz:B.length=rs.length:=z03 b.a;have W:=b.n;refine sq_if (t_test (t_lset ?_));refine z17 (K:=KX w.params) (a:=l) (xs:=B) (H1:=H1) (λ i=>isW (rs[i]?.getD r00)) (λ i y _=>y=.int ((rs[i]?.getD r00).h)) (λ _ _ _ _ _ z=>z) (λ R h=>⟨_,rfl,h⟩) (SqL.of b.l) (D0 (m:=63) (by omega) (by decide)) ?_ ?_
  ·intro i hi v H2 c hv KT KF F I;obtain ⟨r,C,p,rfl,sp⟩:=z09 b.a hv;have k:=c.seqT sp;rw [getD_some C] at F I;refine ⟨[some (.ref p)],rfl,rfl,?_⟩;rcases b.g r (d0 C) with g|g
   ·refine ⟨_,rfl,.inr (.inl ⟨p,_,2,.str "read",rfl,rfl,k,by rw [g.1];exact z04 (j:=2) rfl,rfl,_,rfl,iteK (I g.w _ (Same.refl _))⟩)⟩
   ·refine ⟨_,rfl,.inr (.inl ⟨p,_,2,.str "write",rfl,rfl,k,by rw [g.1];exact z04 (j:=2) rfl,rfl,_,rfl,iteP (by decide +kernel) ?_⟩)⟩;exact ⟨_,rfl,.inr (.inl ⟨p,_,0,.int r.h,rfl,rfl,k,z04 (j:=0) rfl,F g.w _ _ (Same.refl _) rfl⟩)⟩
  intro l2 H2 hs c O a0;have S:=z7w (f:=λ r=>V.int r.h) lz a0;have Z:hs=((rs.filter isW).map (λ r=>r.h)).map V.int:=by rw [S,O3];rfl
  subst Z;have al :∀u∈(rs.filter isW).map (λ r=>r.h),u=d:=λ u hu=>by
   obtain ⟨r,Y,rfl⟩:=List.mem_map.mp hu;obtain ⟨hm,L⟩:=List.mem_filter.mp Y;rcases b.g r hm with g|g
   ·rw [g.w] at L;cases L
   ·exact g.2.1
  have lh:((rs.filter isW).map (λ r=>r.h)).length<=63:=by rw [A0];exact D0 (E1 _ _) W
  have a3:=z5h _ [] al (.inl rfl);have D:=Same.upd (o:=.lst (((rs.filter isW).map (λ r=>r.h)).map V.int)) O;refine ⟨l2,_,rfl,SqL.of z02,by omega,_,_,rfl,rfl,_,rfl,iteN (λ e=>absurd (of_decide_eq_true e) (by omega)) ?_⟩;exact ⟨_,rfl,q l B _ (s1.trans (c.trans D)) (b.same (c.trans D))⟩
noncomputable def t00:Ent:=⟨0,0,none⟩
theorem z6o {ts:List Ent} {i:Nat} {t:Ent} (h:ts[i]? = some t):ts[i]?.getD t00=t:=by rw [h];rfl
theorem ent_at {K:c0} {H:Hp} {ts:List Ent} {kvs:List (Key×V)} {i:Nat} {k:Key} {v:V} (al:All2 (EntAt K H) ts kvs) (h:kvs[i]? = some (k,v)) :∃t,ts[i]? = some t/\EntV K H t v:=by obtain ⟨t,a,z⟩:=z09 al h;exact ⟨t,a,z.2⟩
theorem z6m {P:Ent->V->Prop} {ts:List Ent} {q:Ent->Bool} {n:Nat} {us:List V} (hn:n=ts.length) (h:All2 (λ (i:Nat) y=>P (ts[i]?.getD t00) y) ((U0 n).filter λ i=>q (ts[i]?.getD t00)) us):All2 P (ts.filter q) us:=by
 subst hn;have c :∀(b:List Nat) (us:List V),All2 (λ (k:Nat) y=>P (ts[k]?.getD t00) y) b us->All2 P (b.map λ k=>ts[k]?.getD t00) us:=by
  intro b;induction b with
  | nil=>intro us h;cases h;exact .nil
  | cons k b ih=>intro us h;cases h with|cons a r=>exact .cons a (ih _ r)
 have z:=c _ _ h;have e:=z0w q (λ i=>i) t00 ts;rw [e,List.map_id'] at z;exact z
structure WrAt (K:c0) (H:Hp) (d:Addr) (kvs:List (Key×V)) (ts:List Ent):Prop where
 d:H d=some (.dK kvs)
 a:All2 (EntAt K H) ts kvs
 n:ts.length<=64
theorem WrAt.same {K:c0} {H H':Hp} {d:Addr} {kvs:List (Key×V)} {ts:List Ent} (s:Same H H') (h:WrAt K H d kvs ts):WrAt K H' d kvs ts:=⟨s _ _ h.d,z01 (λ _ _ z=>EntAt.tups (λ _ _ y=>s.seqT y) z) h.a,h.n⟩
def z13 (K:c0):Sp:=λ vs H Q _=>∃d kvs ts y r re,vs=[.ref d,y]/\WrAt K H d kvs ts/\RcAt K H r y/\r.e=some re/\∀l ps H',Same H H'->H' l=some (.lst ps)->All2 (EntV K H') (ts.filter (besB r.b re)) ps->Q (.ref l) H'
theorem z3a (T:TX (kx w) mg):Fo P w mg base CX0 1 143 y01 ["written","read"] (z13 (kx w)):=by
 refine (z16 w.params).ok sc_writes_beside (λ vs H Q E h=>?_) (λ a3 A a2 s H vs Q E hr h=>?_)
 ·obtain ⟨d,kvs,l,y,r,f,rfl,_⟩:=h;rfl
 ·obtain ⟨d,kvs,l,y,r,f,rfl,C,⟨X,rfl,W⟩,he,q⟩:=h;refine ⟨_,(z05 (zdx (z4a (i:=2) sc_writes_beside.nd rfl (S0 rfl) (xs:=["write"]) (g:=gName 0) (fr:=[(1,"read")]) rfl (zbt (pv 0)) (by intro p F;obtain rfl:=List.mem_singleton.mp F;first|exact ⟨rfl,.inl rfl⟩|exact ⟨rfl,.inr rfl⟩) (z6s (n:="read") (by decide +kernel) (λ _=>by first|exact .inl rfl|exact .inr rfl)) (by intro p F;obtain rfl:=List.mem_singleton.mp F;exact ⟨by decide +kernel,by first|exact .inl rfl|exact .inr rfl⟩) (by decide +kernel) rfl (by decide +kernel) (λ _ _ _ _ _=>(pg_cn (N:=["write","read"]) 0)) (λ _ _ _ _ _=>(pf_one (z07 op_lt (pe_ix (z0k (K:=KX w.params) rfl) (pv 0) pe_int (λ _ _=>rfl)) (pe_ix (z0k (K:=KX w.params) rfl) (pv 1) pe_int (λ _ _=>rfl)) (nomark _)))) (λ _ _ _ _ _=>(pv 0))))
   (z06 (ps_ret (pe_cg (xs:=["write"]) (g:=gName 0) (fr:=[(1,"read")]) (z0r (pv 2)) (λ _ _ _ _ _=>(pg_cn (N:=["write","read"]) 0)) (λ _ _ _ _ _=>(pf_one (PW.pt (pw_or (z07 op_isN (pe_ix (z0k (K:=KX w.params) rfl) (pv 0) pe_int (λ _ _=>rfl)) pe_non (nomark _)) (pw_or1 (z07 op_lt (pe_ix (z0k (K:=KX w.params) rfl) (pv 1) pe_int (λ _ _=>rfl)) (pe_ix (z0k (K:=KX w.params) rfl) (pv 0) pe_int (λ _ _=>rfl)) (nomark _))))))) (λ _ _ _ _ _=>(pv 0)))))),?_⟩
  have lk:kvs.length=l.length:=z03 C.a;have a0:=C.n;refine zcd ?_;refine tcompV (K:=KX w.params) (a:=d) (kvs:=kvs) (λ i=>decide ((l[i]?.getD t00).b < (f:Int))) (λ i y=>EntV (kx w) H (l[i]?.getD t00) y) (λ R h=>⟨_,rfl,h⟩) C.d (D0 (m:=64) (by omega) (by decide)) ?_ ?_
  ·intro i k v hk H1 S KT KF c u;obtain ⟨t,G,p,rfl,D⟩:=ent_at C.a hk;rw [z6o G] at c u;refine ⟨[some (.ref p)],rfl,rfl,?_⟩;refine ⟨_,rfl,.inr (.inl ⟨p,_,0,.int t.b,rfl,rfl,S _ _ D,z04 (j:=0) rfl,?_⟩)⟩;refine ⟨_,rfl,.inr (.inl ⟨X,_,6,.int (f:Nat),rfl,rfl,S _ _ W,by rw [he];exact z04 (j:=6) rfl,_,_,rfl,rfl,_,rfl,?_⟩)⟩;by_cases z:t.b < (f:Int)
   ·exact iteP (decide_eq_true z) ⟨_,rfl,c (decide_eq_true z) _ _ (Same.refl _) ⟨p,rfl,D⟩⟩
   ·exact iteN (λ e=>z (of_decide_eq_true e)) (u (decide_eq_false z) _ (Same.refl _))
  intro l1 H1 O J a4 Y I;have I:=z6m (P:=λ t y=>EntV (kx w) H t y) (q:=λ t=>decide (t.b < (f:Int))) lk I;have L:=z01 (λ _ _ z=>EntV.tups (λ _ _ y=>J.seqT y) z) I;have e2:l.filter (besB r.b f)=(l.filter λ t=>decide (t.b < (f:Int))).filter λ t=>(match t.e with|none=>true|some e=>decide ((r.b:Int) < e)):=by rw [List.filter_filter];rfl
  rw [e2] at q;generalize hts:(l.filter λ t=>decide (t.b < (f:Int)))=ts1 at L q;have ly:O.length=ts1.length:=z03 L;have a5:ts1.length<=64:=by rw [<-hts];exact D0 (E1 _ _) a0
  refine sq_ret ?_;refine z17 (K:=KX w.params) (a:=l1) (xs:=O) (H1:=H1) (λ i=>(match (ts1[i]?.getD t00).e with|none=>true|some e=>decide ((r.b:Int) < e))) (λ i y H'=>EntV (kx w) H' (ts1[i]?.getD t00) y) (λ _ _ _ _ s z=>z.tups λ _ _ y=>s.seqT y) (λ R h=>⟨_,rfl,h⟩) (SqL.of Y) (D0 (m:=64) (by omega) (by decide)) ?_ ?_
  ·intro i hi v U B hv KT KF c u;obtain ⟨t,G,p,rfl,D⟩:=z09 L hv;rw [z6o G] at c u;have x:=B.seqT D;refine ⟨[some (.ref p)],rfl,rfl,?_⟩;cases te:t.e with
   | none=>rw [te] at c;exact ⟨_,rfl,.inr (.inl ⟨p,_,1,.non,rfl,rfl,x,by rw [te];exact z04 (j:=1) rfl,rfl,_,rfl,iteP (by decide) (iteP rfl ⟨_,rfl,c rfl _ _ (Same.refl _) ⟨p,rfl,x⟩⟩)⟩)⟩
   | some e=>
    rw [te] at c u;refine ⟨_,rfl,.inr (.inl ⟨p,_,1,.int e,rfl,rfl,x,by rw [te];exact z04 (j:=1) rfl,rfl,_,rfl,iteN (by simp) ?_⟩)⟩;refine ⟨_,rfl,.inr (.inl ⟨X,_,5,.int (r.b:Nat),rfl,rfl,(J.trans B).seqT W,z04 (j:=5) rfl,?_⟩)⟩;refine ⟨_,rfl,.inr (.inl ⟨p,_,1,.int e,rfl,rfl,x,by rw [te];exact z04 (j:=1) rfl,_,_,rfl,rfl,_,rfl,?_⟩)⟩;by_cases z:(r.b:Int) < e
    ·exact iteP (decide_eq_true z) ⟨_,rfl,c (decide_eq_true z) _ _ (Same.refl _) ⟨p,rfl,x⟩⟩
    ·exact iteN (λ e=>z (of_decide_eq_true e)) (u (decide_eq_false z) _ (Same.refl _))
  intro l2 U V B Z a1;have M:=Same.upd (o:=.lst V) Z;refine q l2 V _ (J.trans (B.trans M)) z02 ?_;exact z01 (λ _ _ z=>EntV.tups (λ _ _ y=>M.seqT y) z) (z6m (P:=λ t y=>EntV (kx w) U t y) (q:=λ t=>(match t.e with|none=>true|some e=>decide ((r.b:Int) < e))) ly a1)
theorem z74 {K:c0} {H:Hp} :∀{us:List Ent} {ys:List V},All2 (EntV K H) us ys->(∀t∈us,t.e≠none)->∃L:List (Addr×(Int×Int)),ys=L.map (λ x=>V.ref x.1)/\(∀x∈L,SqT K H x.1 [.int x.2.1,.int x.2.2]/\∃t∈us,t.b=x.2.1/\t.e=some x.2.2)/\∀t∈us,∃x∈L,x.2.1=t.b
 | _,_,.nil,_=>⟨[],rfl,λ _ h=>absurd h B0,λ _ h=>absurd h B0⟩
 | t :: us,_,.cons a r,h=>by
  obtain ⟨L,k,l,i⟩:=z74 r λ t j=>h t (.tail _ j);obtain ⟨p,rfl,g⟩:=a;cases te:t.e with
  | none=>exact absurd te (h t (.head _))
  | some e=>
   rw [te] at g;refine ⟨(p,(t.b,e)) :: L,by rw [k];rfl,λ x c=>?_,λ f d=>?_⟩
   ·rcases List.mem_cons.mp c with rfl|c
    ·exact ⟨g,t,.head _,rfl,te⟩
    ·obtain ⟨a,f,d,b⟩:=l x c;exact ⟨a,f,.tail _ d,b⟩
   ·rcases List.mem_cons.mp d with rfl|d
    ·exact ⟨_,.head _,rfl⟩
    ·obtain ⟨x,c,e⟩:=i f d;exact ⟨x,.tail _ c,e⟩
def z1o (K:c0):Sp:=λ vs H Q _=>∃d kvs ts y r,vs=[.ref d,y]/\WrAt K H d kvs ts/\RcAt K H r y/\(∃t∈ts,ahdB r.b t=true)/\∀p t H',Same H H'->SqT K H' p [.int t.b,endO t.e]->t∈ts->ahdB r.b t=true->(∀t'∈ts,ahdB r.b t'=true->t'.b<=t.b)->Q (.ref p) H'
theorem z5c (T:TX (kx w) mg):Fo P w mg base CX0 1 148 y0b ["written","read"] (z1o (kx w)):=by
 refine (z25 w.params).ok z5l (λ V H Q E h=>?_) (λ a6 A a5 s H V Q E U h=>?_)
 ·obtain ⟨d,kvs,D,y,r,rfl,_⟩:=h;rfl
 ·obtain ⟨d,kvs,D,y,r,rfl,B,⟨pr,rfl,sr⟩,⟨Z,a3,X⟩,q⟩:=h;refine ⟨_,(z06 (ps_ret (z0n (zbh rfl U) rfl (T.no (n_max _)) boot_max (z00 (ze6 (pe_cg (xs:=["write"]) (g:=gName 0) (fr:=[(1,"read")]) (zbt (pv 0)) (λ _ _ _ _ _=>(pg_cn (N:=["write","read"]) 0)) (λ _ _ _ _ _=>(pf_one (PW.pt (pw_and (z07 z1v (pe_ix (z0k (K:=KX w.params) rfl) (pv 0) pe_int (λ _ _=>rfl)) pe_non (nomark _)) (z1a (z07 op_lt (pe_ix (z0k (K:=KX w.params) rfl) (pv 0) pe_int (λ _ _=>rfl)) (pe_ix (z0k (K:=KX w.params) rfl) (pv 1) pe_int (λ _ _=>rfl)) (nomark _))))))) (λ _ _ _ _ _=>(pv 0)))) pa_nil)))),?_⟩;have Y:kvs.length=D.length:=z03 B.a;have a7:=B.n;refine sq_ret (e_cb1 ?_);refine tcompV (K:=KX w.params) (a:=d) (kvs:=kvs) (λ i=>ahdB r.b (D[i]?.getD t00)) (λ i y=>EntV (kx w) H (D[i]?.getD t00) y) (λ R h=>⟨_,rfl,h⟩) B.d (D0 (m:=64) (by omega) (by decide)) ?_ ?_
  ·intro i k v hk J u KT KF l c;obtain ⟨t,f,p,rfl,C⟩:=ent_at B.a hk;rw [z6o f] at l c;unfold ahdB at l c;refine ⟨[some (.ref p)],rfl,rfl,?_⟩;cases te:t.e with
   | none=>rw [te] at c;exact ⟨_,rfl,.inr (.inl ⟨p,_,1,.non,rfl,rfl,u _ _ C,by rw [te];exact z04 (j:=1) rfl,rfl,_,rfl,iteN (by decide) (iteN (by decide) (c rfl _ (Same.refl _)))⟩)⟩
   | some e=>
    rw [te] at l c;refine ⟨_,rfl,.inr (.inl ⟨p,_,1,.int e,rfl,rfl,u _ _ C,by rw [te];exact z04 (j:=1) rfl,rfl,_,rfl,iteP (by simp) ?_⟩)⟩;refine ⟨_,rfl,.inr (.inl ⟨p,_,1,.int e,rfl,rfl,u _ _ C,by rw [te];exact z04 (j:=1) rfl,?_⟩)⟩;refine ⟨_,rfl,.inr (.inl ⟨pr,_,5,.int (r.b:Nat),rfl,rfl,u _ _ sr,z04 (j:=5) rfl,_,_,rfl,rfl,_,rfl,?_⟩)⟩;by_cases z:e < (r.b:Int)
    ·exact iteP (decide_eq_true z) ⟨_,rfl,l (decide_eq_true z) _ _ (Same.refl _) ⟨p,rfl,C⟩⟩
    ·exact iteN (λ e=>z (of_decide_eq_true e)) (c (decide_eq_false z) _ (Same.refl _))
  intro W J ys I a8 S F;have F:=z6m (P:=λ t y=>EntV (kx w) H t y) (q:=ahdB r.b) Y F;have a4:=z01 (λ _ _ z=>EntV.tups (λ _ _ y=>I.seqT y) z) F;obtain ⟨L,l,c,M⟩:=z74 a4 λ t f z=>by have:=(List.mem_filter.mp f).2;unfold ahdB at this;rw [z] at this;cases this
  obtain ⟨x0,a1,_⟩:=M Z (List.mem_filter.mpr ⟨a3,X⟩);cases L with
  | nil=>exact absurd a1 B0
  | cons m L=>
   subst l;refine ⟨W,m,L,rfl,SqL.of S,λ x o=>(c x o).1,λ b hb G=>?_⟩;obtain ⟨sb,t,f,O,e2⟩:=c b hb;obtain ⟨f,ha⟩:=List.mem_filter.mp f;refine q b.1 t J I (by rw [O,e2];exact sb) f ha λ t' a0 a2=>?_;obtain ⟨x,o,e⟩:=M t' (List.mem_filter.mpr ⟨a0,a2⟩);have:=G x o;rw [O,<-e];rcases Int.lt_or_le b.2.1 x.2.1 with z|z
   ·have:=gtI_iff.mpr (.inl z:b.2.1 < x.2.1\/(x.2.1=b.2.1/\b.2.2 < x.2.2));rw [G x o] at this;cases this
   ·exact z
theorem z7a {K:c0} {H:Hp} :∀{ts:List Ent} {kvs:List (Key×V)},All2 (EntAt K H) ts kvs->∀x:Int,(∃t∈ts,t.x=x/\∃p,valV kvs (.inl x)=some (.ref p)/\SqT K H p [.int t.b,endO t.e])\/((∀t∈ts,t.x≠x)/\valV kvs (.inl x)=none)
 | _,_,.nil,x=>.inr ⟨λ _ h=>absurd h B0,rfl⟩
 | t :: ts,(k,v) :: kvs,.cons a r,x=>by
  obtain ⟨e,p,f,i⟩:=a;have e:k=.inl t.x:=e;have f:v=.ref p:=f;subst e f;by_cases z:t.x=x
  ·subst z;exact .inl ⟨t,.head _,rfl,p,z0m rfl,i⟩
  ·rw [z0o (λ e=>z (W2 e))];rcases z7a r x with ⟨d,c,g⟩|⟨c,g⟩
   ·exact .inl ⟨d,.tail _ c,g⟩
   ·refine .inr ⟨λ d j=>?_,g⟩;rcases List.mem_cons.mp j with rfl|y
    ·exact z
    ·exact c d y
noncomputable def endD:Option Int->PyData
 | none=>.none
 | some i=>.int i
noncomputable def entD (t:Ent):PyData:=.tuple [.int t.b,endD t.e]
theorem end_pd {K:c0} {H:Hp} :∀o:Option Int,IsPd K H (endD o) (endO o)
 | none=>rfl
 | some _=>rfl
theorem ent_pd {K:c0} {H:Hp} {t:Ent} {v:V} (h:EntV K H t v):IsPd K H (entD t) v:=h.elim λ p z=>⟨p,_,z.1,z.2,⟨_,_,rfl,rfl,_,_,rfl,end_pd _,rfl⟩⟩
theorem zc3 {K:c0} {H:Hp} :∀{us:List Ent} {ps:List V},All2 (EntV K H) us ps->IsPds K H (us.map entD) ps
 | _,_,.nil=>rfl
 | _,_,.cons a r=>⟨_,_,rfl,ent_pd a,zc3 r⟩
theorem z0s (t:Ent):plainP (entD t)=true:=by unfold entD;cases t.e<;>rfl
theorem z36 :∀us:List Ent,z1f (us.map entD)=true
 | []=>rfl
 | t :: us=>by show (plainP (entD t) && z1f (us.map entD))=true;rw [z0s,z36 us];rfl
theorem z7l (t:Ent):(entD t).depth<=60:=by unfold entD;cases t.e<;>exact (show (1:Nat)<=60 by decide)
theorem entD_b {t t':Ent} (h:entD t=entD t'):t.b=t'.b:=by unfold entD at h;injection h with h;injection h with h _;injection h with h
theorem zc8 (us:List Ent) (d:PyData) (hd:plainP d=true):((us.map entD).any λ e=>e.eqv d)=true↔∃t∈us,entD t=d:=by
 rw [List.any_eq_true];constructor
 ·rintro ⟨e,he,z⟩;obtain ⟨t,a,rfl⟩:=List.mem_map.mp he;exact ⟨t,a,(z59 _ _ (z0s t) hd).mp z⟩
 ·rintro ⟨t,a,rfl⟩;exact ⟨_,List.mem_map.mpr ⟨t,a,rfl⟩,(z59 _ _ (z0s t) (z0s t)).mpr rfl⟩
structure Seen (K:c0) (H:Hp) (l d:Addr) (wr:Int) (es:List Ev) (rs:List Rc) (zs:List V) (kvs:List (Key×V)):Prop where
 S:Sq1 wr es rs
 nd:((rs.filter isW).map (λ r=>intV r.x)).Nodup
 n0:(0:Int)∉(rs.filter isW).map (λ r=>intV r.x)
 t:ToldAt K H l wr rs zs
 w:WrAt K H d kvs (ents rs)
theorem Seen.same {K:c0} {H H':Hp} {l d:Addr} {wr:Int} {es:List Ev} {rs:List Rc} {zs:List V} {kvs:List (Key×V)} (s:Same H H') (h:Seen K H l d wr es rs zs kvs):Seen K H' l d wr es rs zs kvs:=⟨h.S,h.nd,h.n0,h.t.same s,h.w.same s⟩
theorem z45 {rs:List Rc} {rb:Nat} :∃t∈ents rs,ahdB rb t=true:=⟨ent0,.head _,ahd0⟩
theorem zc1 {K:c0} {H:Hp} {l:Addr} {wr:Int} {rs:List Rc} {zs:List V} (ta:ToldAt K H l wr rs zs) {k:Nat} {ws:List V} {y:V} (al:All2 (NumAt H zs) ((U0 rs.length).filter λ i=>isRE (rs[i]?.getD r00)) ws) (hy:ws[k]? = some y) :
  ∃i p pz r e,((U0 rs.length).filter λ i=>isRE (rs[i]?.getD r00))[k]? = some i/\y=.ref p/\H p=some (.tup [.int (i:Nat),.ref pz])/\rs[i]? = some r/\SqT K H pz [.int r.h,r.n,r.v,r.x,r.a,.int r.b,endV r.e]/\r.v=.str "read"/\r.e=some e/\r.a=.int (intV r.a):=by
 obtain ⟨i,f,p,z,rfl,s,o⟩:=z09 al hy;obtain ⟨r,d,pz,rfl,sz⟩:=z09 ta.a o;have j:=(List.mem_filter.mp (d0 f)).2;rw [getD_some d] at j;obtain ⟨c,q⟩:=Bool.and_eq_true_iff.mp j;have c:=of_decide_eq_true c;obtain ⟨e,m⟩:=Option.isSome_iff_exists.mp q;have g:RdG r:=(ta.g r (d0 d)).resolve_right λ g=>z0h (c.symm.trans g.1);exact ⟨i,p,pz,r,e,f,rfl,s,d,sz,c,m,g.2.2 e m⟩
theorem re_all {rs:List Rc} {r:Rc} {e:Nat} (hr:r∈rs) (rv:r.v=.str "read") (re:r.e=some e) :∃m i:Nat,((U0 rs.length).filter λ i=>isRE (rs[i]?.getD r00))[m]? = some i/\rs[i]? = some r:=by
 obtain ⟨i,a⟩:=List.mem_iff_getElem?.mp hr;have:i∈(U0 rs.length).filter λ i=>isRE (rs[i]?.getD r00):=by refine List.mem_filter.mpr ⟨List.mem_range.mpr (List.getElem?_eq_some_iff.mp a).1,?_⟩;rw [getD_some a];unfold isRE;rw [re,decide_eq_true rv];rfl
 obtain ⟨m,b⟩:=List.mem_iff_getElem?.mp this;exact ⟨m,i,b,a⟩
def z2x (K:c0):Sp:=λ vs H Q _=>∃t nm wr es ys,vs=[.ref t]/\TalR K H t nm wr es ys/\∀b H',Same H H'->(b=true↔AllR RegR (dAll 0 [] es))->Q (.bl b) H'
theorem z5n (T:TX (kx w) mg) (c0:Ca P w mg base "lone_writer_deeds" ["tale"] 5 (z0i (kx w))) (c1:Ca P w mg base "writers" ["told"] 1 (z19 (kx w))) (c2:Ca P w mg base "ended_reads" ["told"] 1 (z0p (kx w))) (c3:Ca P w mg base "writes_beside" ["written","read"] 1 (z13 (kx w))) (c4:Ca P w mg base "last_ahead" ["written","read"] 1 (z1o (kx w))):Fo P w mg base CX0 6 131 y0a ["tale"] (z2x (kx w)):=by
 refine (z21 w.params).ok sc_is_regular (λ vs H Q E h=>?_) (λ c8 A c7 s H vs Q E v h=>?_)
 ·obtain ⟨t,nm,F,U,ys,rfl,_⟩:=h;rfl
 ·obtain ⟨t,nm,F,U,ys,rfl,ta,q⟩:=h;refine ⟨_,(z05 (ps_set (i:=1) sc_is_regular.nd rfl (S0 rfl) (pe_cal c0 (v.mono (by decide)) rfl (z00 (pv 0) pa_nil)))
   (z05 (ps_set (i:=2) sc_is_regular.nd rfl (S0 rfl) (pe_cal c1 (v.mono (by decide)) rfl (z00 (pv 1) pa_nil)))
   (z05 (ps_for X1 rfl (z0r (pe_cal c2 (v.mono (by decide)) rfl (z00 (pv 1) pa_nil))) (pg_tup rfl (z0b (z0f (i:=3) sc_is_regular.nd rfl (S0 rfl)) (z0b (z0f (i:=4) sc_is_regular.nd rfl (S0 rfl)) z11)))
   (z06 (ps_if (z07 (zam v) (za6 (hu_of v) (pv 2) (pe_ix ix_seq (pv 4) pe_int (λ _ _=>rfl)) ⟨rfl,rfl,rfl,rfl⟩) (pe_op opAdd (pe_cal c3 (v.mono (by decide)) rfl (z00 (pv 2) (z00 (pv 4) pa_nil))) (pe_lst (z00 (pe_cal c4 (v.mono (by decide)) rfl (z00 (pv 2) (z00 (pv 4) pa_nil))) pa_nil))) (by with_unfolding_all rfl))
   (z06 (ps_ret pe_bl))
   z0g)))
   (z06 (ps_ret pe_bl))))),?_⟩
  obtain ⟨os,us,L⟩:=ta.tw;have S:=L.sq;have J:=L.rs.u ▸ L.us.1;have B:=L.rs.u ▸ L.us.2;refine z0a ?_;refine ⟨_,rfl,t,nm,F,U,ys,rfl,ta,λ l zs H1 s1 N=>?_⟩;refine g_name ?_;generalize dAll 0 [] U=rs at N q S J B;have c6:=N.n;refine z0a ?_;refine ⟨_,rfl,l,zs,rs,F,rfl,N,J,B,λ d Z H2 s2 _ ed al=>?_⟩;refine g_name ?_;have se:Seen (kx w) H2 l d F U rs zs Z:=⟨S,J,B,N.same s2,ed,al,D0 (z37 rs) (by omega)⟩
  refine ⟨_,rfl,l,zs,rs,F,rfl,se.t,λ a ws H3 s3 ea aw=>⟨a,rfl,⟨_,SqL.of ea⟩,?_⟩⟩;have a6:=(s1.trans s2).trans s3;have a8:=se.same s3;have lw:ws.length=((U0 rs.length).filter λ i=>isRE (rs[i]?.getD r00)).length:=z03 aw;refine z1c (K:=KX w.params) (a:=a) (xs:=ws) (λ k σ g=>Same H3 g/\(∀(m i:Nat) r e,m < k->((U0 rs.length).filter λ i=>isRE (rs[i]?.getD r00))[m]? = some i->rs[i]? = some r->r.e=some e->RegR rs r e)/\∃x3 x4,σ=[some (.ref t),some (.ref l),some (.ref d),x3,x4]) ⟨Same.refl _,λ m i r e h=>absurd h (O2 _),_,_,rfl⟩ (λ _ σ g _ h=>SqL.of (h.1 _ _ ea)) ?_ ?_
  ·rintro k y σ H4 hy ⟨s4,al4,x3,x4,rfl⟩;obtain ⟨i,p,Y,r,e,hi,rfl,ep,a3,sz,rv,re,ra⟩:=zc1 a8.t aw hy;have a0:=d0 a3;have W:=s4.seqT sz;have x:=a8.same s4;refine ⟨p,_,rfl,SqT.of (s4 _ _ ep),rfl,_,_,rfl,_,_,rfl,rfl,?_⟩;have fin:RegR rs r e->∀(m i:Nat) r e,m < k + 1->((U0 rs.length).filter λ i=>isRE (rs[i]?.getD r00))[m]? = some i->rs[i]? = some r->r.e=some e->RegR rs r e:=λ ok m i' r' e' hm c o h3=>by
    rcases i4 m k with z|z
    ·exact al4 m i' r' e' z c o h3
    ·have:m=k:=by omega
     subst this;rw [hi] at c;cases c;rw [a3] at o;cases o;rw [re] at h3;cases h3;exact ok
   have a5:¬ RegR rs r e->∀g,Same H4 g->Q (.bl false) g:=λ n g s'=>q false g (a6.trans (s4.trans s')) ⟨(λ z=>by cases z),λ z=>absurd (z r a0 e rv re) n⟩;have dg:=DGet.k (k:=.inl (intV r.a)) x.w.d;refine ⟨_,rfl,d,rfl,.inl ⟨_,.inl x.w.d⟩,_,rfl,.inr (.inl ⟨Y,_,4,.int (intV r.a),rfl,rfl,W,by rw [ra];exact z04 (j:=4) rfl,_,dg,?_⟩)⟩;refine ⟨_,rfl,_,rfl,d,Z,ents rs,_,r,e,rfl,x.w,⟨Y,rfl,W⟩,re,λ lb G H5 s5 b2 a4=>?_⟩;refine ⟨_,rfl,_,rfl,d,Z,ents rs,_,r,rfl,x.w.same s5,⟨Y,rfl,s5.seqT W⟩,z45,λ C O H6 s6 b4 a2 b8 b9=>⟨w_1,λ l7 b6=>?_⟩⟩;obtain ⟨H7,X,s7,e7⟩:=newA (.lst [V.ref C]) b6;rw [<-X];have a9:=s6.trans s7;have lp:G.length<=64:=by rw [z03 a4];exact D0 (E1 _ _) x.w.n
   refine .inr (.inr (.inl ⟨lb,l7,G,[V.ref C],rfl,rfl,a9 _ _ b2,e7,D0 (m:=65) (by show G.length + 1<=65;omega) (by decide),λ l8 b5=>?_⟩));obtain ⟨H8,X,s8,e8⟩:=newA (.lst (G++[V.ref C])) b5;rw [<-X];have b0:=a9.trans s8;have R:=s5.trans b0;have b3:All2 (EntV (kx w) H8) ((ents rs).filter (besB r.b e)++[O]) (G++[V.ref C]):=z0v (z01 (λ _ _ z=>EntV.tups (λ _ _ y=>b0.seqT y) z) a4) ⟨C,rfl,(s7.trans s8).seqT b4⟩;have a7:IsPd (kx w) H8 (.list (((ents rs).filter (besB r.b e)++[O]).map entD)) (.ref l8):=⟨l8,_,rfl,SqL.of e8,zc3 b3⟩
   rcases z7a x.w.a (intV r.a) with ⟨f,I,c5,p1,a1,b7⟩|⟨hno,a1⟩
   ·rw [a1];have b1:(((((ents rs).filter (besB r.b e)++[O]).map entD).any λ z=>z.eqv (entD f))=true)↔RegR rs r e:=by
     rw [zc8 _ _ (z0s f)];have e1:=zc6 J B (rb:=r.b) (re:=e) I;have e2:=S.last_iff J B (rb:=r.b) I a2 b8 b9;rw [c5] at e1 e2;unfold RegR;rw [<-e1,<-e2];constructor
     ·rintro ⟨M,ht',D⟩;rcases List.mem_append.mp ht' with z|z
      ·obtain ⟨z1,z2⟩:=List.mem_filter.mp z;have:M=f:=S.ents_b z1 I (entD_b D);exact .inl (this ▸ z2)
      ·rw [List.mem_singleton.mp z] at D;exact .inr (S.ents_b a2 I (entD_b D)).symm
     ·rintro (z|z)
      ·exact ⟨f,List.mem_append.mpr (.inl (List.mem_filter.mpr ⟨I,z⟩)),rfl⟩
      ·exact ⟨f,List.mem_append.mpr (.inr (by rw [z];exact List.mem_singleton.mpr rfl)),rfl⟩
    refine ⟨entD f,_,ent_pd ⟨p1,rfl,R.seqT b7⟩,.inl a7,z0s f,z36 _,z7l f,_,rfl,?_⟩;by_cases z:RegR rs r e
    ·refine iteN (by rw [if_pos rfl,b1.mpr z];decide) ⟨s4.trans R,fin z,_,_,rfl⟩
    ·refine iteP (by rw [if_pos rfl,Bool.eq_false_iff.mpr (λ y=>z (b1.mp y))];decide) (a5 z _ R)
   ·rw [a1];have nr:¬ RegR rs r e:=by
     rintro (⟨w0,hw0,hi0,hx0,_⟩|z)
     ·exact hno _ (ents_mem.mpr (.inr ⟨w0,hw0,hi0,rfl⟩)) hx0
     ·obtain ⟨M,c,o⟩:=zbv z;exact hno M c o
    have an:((((ents rs).filter (besB r.b e)++[O]).map entD).any λ z=>z.eqv .none)=false:=Bool.eq_false_iff.mpr λ y=>by obtain ⟨M,_,D⟩:=(zc8 _ _ rfl).mp y;cases D
    refine ⟨.none,_,rfl,.inl a7,rfl,z36 _,A2 _,_,rfl,iteP (by rw [if_pos rfl,an];decide) (a5 nr _ R)⟩
  ·rintro σ H4 ⟨s4,al4,x3,x4,rfl⟩;refine q true H4 (a6.trans s4) ⟨λ _=>λ r a0 e rv re=>?_,λ _=>rfl⟩;obtain ⟨m,i,c,o⟩:=re_all a0 rv re;exact al4 m i r e (by rw [lw];exact (List.getElem?_eq_some_iff.mp c).1) c o re
def z5q (K:c0):Sp:=λ vs H Q _=>∃t nm wr es ys,vs=[.ref t]/\TalR K H t nm wr es ys/\∀b H',Same H H'->(b=true↔AllR SafR (dAll 0 [] es))->Q (.bl b) H'
theorem za5 (T:TX (kx w) mg) (c0:Ca P w mg base "lone_writer_deeds" ["tale"] 5 (z0i (kx w))) (c1:Ca P w mg base "writers" ["told"] 1 (z19 (kx w))) (c2:Ca P w mg base "ended_reads" ["told"] 1 (z0p (kx w))) (c3:Ca P w mg base "writes_beside" ["written","read"] 1 (z13 (kx w))) (c4:Ca P w mg base "last_ahead" ["written","read"] 1 (z1o (kx w))):Fo P w mg base CX0 6 138 y0z ["tale"] (z5q (kx w)):=by
 refine (z4p w.params).ok sc_is_safe (λ vs H Q E h=>?_) (λ c8 A c7 s H vs Q E B h=>?_)
 ·obtain ⟨t,nm,G,Y,ys,rfl,_⟩:=h;rfl
 ·obtain ⟨t,nm,G,Y,ys,rfl,ta,q⟩:=h;refine ⟨_,(z05 (ps_set (i:=1) sc_is_safe.nd rfl (S0 rfl) (pe_cal c0 (B.mono (by decide)) rfl (z00 (pv 0) pa_nil)))
   (z05 (ps_set (i:=2) sc_is_safe.nd rfl (S0 rfl) (pe_cal c1 (B.mono (by decide)) rfl (z00 (pv 1) pa_nil)))
   (z05 (ps_for X1 rfl (z0r (pe_cal c2 (B.mono (by decide)) rfl (z00 (pv 1) pa_nil))) (pg_tup rfl (z0b (z0f (i:=3) sc_is_safe.nd rfl (S0 rfl)) (z0b (z0f (i:=4) sc_is_safe.nd rfl (S0 rfl)) z11)))
   (z06 (ps_if (PW.pt (pw_and (z07 opEq (z0n z28 rfl (T.no (n_len _)) T5 (z00 (pe_cal c3 (B.mono (by decide)) rfl (z00 (pv 2) (z00 (pv 4) pa_nil))) pa_nil)) pe_int (nomark _)) (z1a (z07 (op_neP B) (za6 (hu_of B) (pv 2) (pe_ix ix_seq (pv 4) pe_int (λ _ _=>rfl)) ⟨rfl,rfl,rfl,rfl⟩) (pe_cal c4 (B.mono (by decide)) rfl (z00 (pv 2) (z00 (pv 4) pa_nil))) (nomark _)))))
   (z06 (ps_ret pe_bl))
   z0g)))
   (z06 (ps_ret pe_bl))))),?_⟩
  obtain ⟨os,us,M⟩:=ta.tw;have S:=M.sq;have L:=M.rs.u ▸ M.us.1;have D:=M.rs.u ▸ M.us.2;refine z0a ?_;refine ⟨_,rfl,t,nm,G,Y,ys,rfl,ta,λ l zs H1 s1 U=>?_⟩;refine g_name ?_;generalize dAll 0 [] Y=rs at U q S L D;have c6:=U.n;refine z0a ?_;refine ⟨_,rfl,l,zs,rs,G,rfl,U,L,D,λ d V H2 s2 _ ed al=>?_⟩;refine g_name ?_;have se:Seen (kx w) H2 l d G Y rs zs V:=⟨S,L,D,U.same s2,ed,al,D0 (z37 rs) (by omega)⟩
  refine ⟨_,rfl,l,zs,rs,G,rfl,se.t,λ a ws H3 s3 ea aw=>⟨a,rfl,⟨_,SqL.of ea⟩,?_⟩⟩;have b1:=(s1.trans s2).trans s3;have b2:=se.same s3;have lw:ws.length=((U0 rs.length).filter λ i=>isRE (rs[i]?.getD r00)).length:=z03 aw;refine z1c (K:=KX w.params) (a:=a) (xs:=ws) (λ k σ o=>Same H3 o/\(∀(m i:Nat) r e,m < k->((U0 rs.length).filter λ i=>isRE (rs[i]?.getD r00))[m]? = some i->rs[i]? = some r->r.e=some e->SafR rs r e)/\∃x3 x4,σ=[some (.ref t),some (.ref l),some (.ref d),x3,x4]) ⟨Same.refl _,λ m i r e h=>absurd h (O2 _),_,_,rfl⟩ (λ _ σ o _ h=>SqL.of (h.1 _ _ ea)) ?_ ?_
  ·rintro k y σ W hy ⟨s4,al4,x3,x4,rfl⟩;obtain ⟨i,p,pz,r,e,hi,rfl,ep,a6,sz,rv,C,ra⟩:=zc1 b2.t aw hy;have a0:=d0 a6;have Z:=s4.seqT sz;have N:=b2.same s4;refine ⟨p,_,rfl,SqT.of (s4 _ _ ep),rfl,_,_,rfl,_,_,rfl,rfl,?_⟩;have fin:SafR rs r e->∀(m i:Nat) r e,m < k + 1->((U0 rs.length).filter λ i=>isRE (rs[i]?.getD r00))[m]? = some i->rs[i]? = some r->r.e=some e->SafR rs r e:=λ ok m i' r' e' hm c g O=>by
    rcases i4 m k with z|z
    ·exact al4 m i' r' e' z c g O
    ·have:m=k:=by omega
     subst this;rw [hi] at c;cases c;rw [a6] at g;cases g;rw [C] at O;cases O;exact ok
   have b0:¬ SafR rs r e->∀o,Same W o->Q (.bl false) o:=λ n o s'=>q false o (b1.trans (s4.trans s')) ⟨(λ z=>by cases z),λ z=>absurd (z r a0 e rv C) n⟩;have dg :∀{o:Hp},Same W o->DGet o d (.int (intV r.a)) (valV V (.inl (intV r.a))):=λ s'=>DGet.k (k:=.inl (intV r.a)) (s' _ _ N.w.d);refine ⟨_,rfl,_,rfl,d,V,ents rs,_,r,e,rfl,N.w,⟨pz,rfl,Z⟩,C,λ lb ps H5 x b4 b5=>.inl ⟨lb,ps,rfl,.inl (SqL.of b4),rfl,_,rfl,?_⟩⟩;have lp:ps.length=((ents rs).filter (besB r.b e)).length:=z03 b5;by_cases hz:ps.length=0;rotate_left
   ·refine iteN (λ y=>hz (by have:=of_decide_eq_true y;injection this with this;omega)) (iteN (by decide) ⟨s4.trans x,fin (.inl ?_),_,_,rfl⟩);rw [lp] at hz;obtain ⟨t',b6⟩:=List.exists_mem_of_length_pos (Nat.pos_of_ne_zero hz);obtain ⟨c,g⟩:=List.mem_filter.mp b6;obtain ⟨f,J,F,_,R⟩:=(zc6 L D c).mp g;exact ⟨f,J,F,R⟩
   refine iteP (decide_eq_true (by rw [hz];rfl)) ?_;have a9 :∀f∈rs,isW f=true->¬ (f.b < e/\∀k,f.e=some k->r.b < k):=λ f c g O=>by have hm:entW f∈(ents rs).filter (besB r.b e):=List.mem_filter.mpr ⟨ents_mem.mpr (.inr ⟨f,c,g,rfl⟩),besW.mpr O⟩;have:=N9 hm;omega
   refine ⟨_,rfl,d,rfl,.inl ⟨_,.inl (x _ _ N.w.d)⟩,_,rfl,.inr (.inl ⟨pz,_,4,.int (intV r.a),rfl,rfl,x.seqT Z,by rw [ra];exact z04 (j:=4) rfl,_,dg x,?_⟩)⟩;refine ⟨_,rfl,_,rfl,d,V,ents rs,_,r,rfl,N.w.same x,⟨pz,rfl,x.seqT Z⟩,z45,λ pl v H6 s6 a7 a5 b8 b9=>?_⟩;have X:=x.trans s6;rcases z7a N.w.a (intV r.a) with ⟨I,a8,c5,p1,a4,b7⟩|⟨hno,a4⟩
   ·rw [a4];have b3:(entD I).eqv (entD v)=true↔SafR rs r e:=by
     rw [z59 _ _ (z0s I) (z0s v)];have e2:=S.last_iff L D (rb:=r.b) a8 a5 b8 b9;rw [c5] at e2;constructor
     ·intro z;exact .inr (e2.mp (S.ents_b a8 a5 (entD_b z)))
     ·rintro (⟨f,J,F,R⟩|z)
      ·exact absurd R (a9 f J F)
      ·rw [e2.mpr z]
    refine ⟨entD I,entD v,ent_pd ⟨p1,rfl,X.seqT b7⟩,ent_pd ⟨pl,rfl,a7⟩,z0s I,z0s v,z7l I,_,rfl,?_⟩;by_cases z:SafR rs r e
    ·refine iteN (by rw [b3.mpr z];decide) ⟨s4.trans X,fin z,_,_,rfl⟩
    ·refine iteP (by rw [Bool.eq_false_iff.mpr (λ y=>z (b3.mp y))];decide) (b0 z _ X)
   ·rw [a4];have nr:¬ SafR rs r e:=by
     rintro (⟨f,J,F,R⟩|z)
     ·exact a9 f J F R
     ·obtain ⟨t',c,g⟩:=zbv z;exact hno t' c g
    have an:PyData.eqv .none (entD v)=false:=Bool.eq_false_iff.mpr λ y=>by have:=(z59 _ _ rfl (z0s v)).mp y;cases this
    refine ⟨.none,entD v,rfl,ent_pd ⟨pl,rfl,a7⟩,rfl,z0s v,A2 _,_,rfl,iteP (by rw [an];decide) (b0 nr _ X)⟩
  ·rintro σ W ⟨s4,al4,x3,x4,rfl⟩;refine q true W (b1.trans s4) ⟨λ _=>λ r a0 e rv C=>?_,λ _=>rfl⟩;obtain ⟨m,i,c,g⟩:=re_all a0 rv C;exact al4 m i r e (by rw [lw];exact (List.getElem?_eq_some_iff.mp c).1) c g C
def WK (K:c0) (H:Hp) (kvs:List (Key×V)) (f:Int->Option Int):Prop:=∀x,(f x=none->valV kvs (.inl x)=none)/\∀s,f x=some s->∃(p:Addr) (b:Int) (e:V),valV kvs (.inl x)=some (.ref p)/\SqT K H p [.int b,e]/\((s=-1/\b=-2)\/(0<=s/\b=s))
theorem WK.tups {K:c0} {H H':Hp} {kvs:List (Key×V)} {f:Int->Option Int} (t:Tups K H H') (h:WK K H kvs f):WK K H' kvs f:=λ x=>⟨(h x).1,λ s e=>by obtain ⟨p,b,e,c,d,a⟩:=(h x).2 s e;exact ⟨p,b,e,c,t _ _ d,a⟩⟩
theorem z7h {rs:List Rc}:(((rs.filter isW).map (λ r=>intV r.x)).Nodup)->((0:Int)∉(rs.filter isW).map (λ r=>intV r.x))->(∀w∈rs,isW w=true->sinceF rs (intV w.x)=some (w.b:Int))/\sinceF rs 0=some (-1)/\∀x,x≠0->(∀w∈rs,isW w=true->intV w.x≠x)->sinceF rs x=none:=by
 induction rs using zd1 with
 | nil=>exact λ _ _=>⟨λ w h=>absurd h B0,rfl,λ x d _=>by rw [z95,if_neg d]⟩
 | snoc rs r ih=>
  intro f g;rw [U2,V0] at f g;obtain ⟨i,j,k⟩:=ih (List.nodup_append.mp f).1 λ z=>g (List.mem_append.mpr (.inl z));cases a:isW r with
  | false=>
   have e :∀x,sinceF (rs++[r]) x=sinceF rs x:=λ x=>by rw [z1s,if_neg (λ z=>by rw [a] at z;exact W0 z.1)]
   refine ⟨λ w h c=>?_,by rw [e];exact j,λ x d h=>by rw [e];exact k x d λ w a=>h w (List.mem_append.mpr (.inl a))⟩;rcases List.mem_append.mp h with z|z
   ·rw [e];exact i w z c
   ·rw [List.mem_singleton.mp z,a] at c;cases c
  | true=>
   rw [L1 a] at f g;refine ⟨λ w h c=>?_,?_,λ x d h=>?_⟩
   ·rw [z1s];rcases List.mem_append.mp h with z|z
    ·rw [if_neg (λ y=>(List.nodup_append.mp f).2.2 _ (List.mem_map.mpr ⟨w,List.mem_filter.mpr ⟨z,c⟩,rfl⟩) _ (List.mem_map.mpr ⟨r,.head _,rfl⟩) y.2)];exact i w z c
    ·rw [List.mem_singleton.mp z,if_pos ⟨a,rfl⟩]
   ·rw [z1s,if_neg (λ y=>g (List.mem_append.mpr (.inr (List.mem_map.mpr ⟨r,.head _,y.2.symm⟩))))];exact j
   ·rw [z1s,if_neg (λ y=>h r (List.mem_append.mpr (.inr (.head _))) a y.2.symm)];exact k x d λ w a=>h w (List.mem_append.mpr (.inl a))
theorem wk_of {K:c0} {H:Hp} {rs:List Rc} {kvs:List (Key×V)} (nd:((rs.filter isW).map (λ r=>intV r.x)).Nodup) (n0:(0:Int)∉(rs.filter isW).map (λ r=>intV r.x)) (a:All2 (EntAt K H) (ents rs) kvs):WK K H kvs (sinceF rs):=by
 obtain ⟨i,f,h⟩:=z7h nd n0;intro x;rcases z7a a x with ⟨t,g,rfl,p,b,sq⟩|⟨no,b⟩
 ·rcases ents_mem.mp g with rfl|⟨w,c,d,rfl⟩
  ·refine ⟨λ z=>?_,λ s z=>⟨p,_,_,b,sq,.inl ⟨?_,rfl⟩⟩⟩
   ·have z:sinceF rs 0=none:=z;rw [f] at z;cases z
   ·have z:sinceF rs 0=some s:=z;rw [f] at z;cases z;rfl
  ·have e:=i w c d;refine ⟨λ z=>?_,λ s z=>⟨p,_,_,b,sq,.inr ?_⟩⟩
   ·have z:sinceF rs (intV w.x)=none:=z;rw [e] at z;cases z
   ·have z:sinceF rs (intV w.x)=some s:=z;rw [e] at z;cases z;exact ⟨Int.natCast_nonneg _,rfl⟩
 ·refine ⟨λ _=>b,λ s z=>?_⟩;rw [h x (λ y=>no ent0 (.head _) y.symm) λ w c d y=>no (entW w) (ents_mem.mpr (.inr ⟨w,c,d,rfl⟩)) y] at z;cases z
noncomputable def selI (rs:List Rc) (i:Nat):Bool:=(sinceF rs (intV (rs[i]?.getD r00).a)).isSome
noncomputable def readsI (rs:List Rc):List Nat:=(((U0 rs.length).filter λ i=>isRE (rs[i]?.getD r00)).filter (selI rs))
theorem readsI_mem {rs:List Rc} {i:Nat}:i∈readsI rs↔∃r e s,rs[i]? = some r/\r.v=.str "read"/\r.e=some e/\sinceF rs (intV r.a)=some s:=by
 unfold readsI;rw [Q8,Q8,List.mem_range];constructor
 ·rintro ⟨⟨h1,h2⟩,h3⟩;have c:rs[i]? = some rs[i]:=P0 h1;unfold selI at h3;rw [getD_some c] at h2 h3;obtain ⟨a,b⟩:=Bool.and_eq_true_iff.mp h2;obtain ⟨e,f⟩:=Option.isSome_iff_exists.mp b;obtain ⟨s,d⟩:=Option.isSome_iff_exists.mp h3;exact ⟨_,e,s,c,of_decide_eq_true a,f,d⟩
 ·rintro ⟨r,e,s,h1,h2,h3,h4⟩;refine ⟨⟨(List.getElem?_eq_some_iff.mp h1).1,?_⟩,?_⟩
  ·rw [getD_some h1];unfold isRE;rw [h3,decide_eq_true h2];rfl
  ·unfold selI;rw [getD_some h1,h4];rfl
theorem z2u (rs:List Rc):(readsI rs).Pairwise (· < ·):=N8 _ (z2d _ _)
theorem z7y {is:List Nat} (h:is.Pairwise (· < ·)) {a b x y:Nat} (hab:a < b) (hx:is[a]? = some x) (hy:is[b]? = some y):x < y:=by obtain ⟨c,rfl⟩:=List.getElem?_eq_some_iff.mp hx;obtain ⟨d,rfl⟩:=List.getElem?_eq_some_iff.mp hy;exact List.pairwise_iff_getElem.mp h a b c d hab
theorem Bad.reads {rs:List Rc} {i j:Nat} (h:Bad rs i j):i∈readsI rs/\j∈readsI rs:=by obtain ⟨r,q,e,f,s,t,g,m,c,k,l,b,n,a,d,_⟩:=h;exact ⟨readsI_mem.mpr ⟨r,e,s,g,c,l,a⟩,readsI_mem.mpr ⟨q,f,t,m,k,b,d⟩⟩
theorem zcg {R:Nat->V->Prop} {is:List Nat} {q:Nat->Bool} {us:List V} (h:All2 (λ (k:Nat) y=>R (is[k]?.getD 0) y) ((U0 is.length).filter λ k=>q (is[k]?.getD 0)) us):All2 R (is.filter q) us:=by
 have c :∀(b:List Nat) (us:List V),All2 (λ (k:Nat) y=>R (is[k]?.getD 0) y) b us->All2 R (b.map λ k=>is[k]?.getD 0) us:=by
  intro b;induction b with
  | nil=>intro us h;cases h;exact .nil
  | cons k b ih=>intro us h;cases h with|cons a r=>exact .cons a (ih _ r)
 have z:=c _ _ h;have e:=z0w q (λ i=>i) 0 is;rw [e,List.map_id'] at z;exact z
def z2t (K:c0):Sp:=λ vs H Q _=>∃t nm wr es ys,vs=[.ref t]/\TalR K H t nm wr es ys/\(∀H',Same H H'->(∀i j,¬ Bad (dAll 0 [] es) i j)->Q .non H')/\∀p i j H',Same H H'->H' p=some (.tup [.int (i:Nat),.int (j:Nat)])->FstB (dAll 0 [] es) i j->Q (.ref p) H'
theorem z5d (T:TX (kx w) mg) (c0:Ca P w mg base "lone_writer_deeds" ["tale"] 5 (z0i (kx w))) (c1:Ca P w mg base "writers" ["told"] 1 (z19 (kx w))) (c2:Ca P w mg base "ended_reads" ["told"] 1 (z0p (kx w))):Fo P w mg base CX0 6 153 y0c ["tale"] (z2t (kx w)):=by
 refine (z26 w.params).ok sc_turn_about (λ vs H Q E h=>?_) (λ e2 A e1 s H vs Q E hr h=>?_)
 ·obtain ⟨t,nm,wr,es,ys,rfl,_⟩:=h;rfl
 ·obtain ⟨t,nm,wr,es,ys,rfl,ta,q0,q1⟩:=h;refine ⟨_,(z05 (ps_set (i:=1) sc_turn_about.nd rfl (S0 rfl) (pe_cal c0 (hr.mono (by decide)) rfl (z00 (pv 0) pa_nil)))
   (z05 (ps_set (i:=2) sc_turn_about.nd rfl (Q0 rfl) (pe_cal c1 (hr.mono (by decide)) rfl (z00 (pv 1) pa_nil)))
   (z05 (z4a (i:=3) sc_turn_about.nd rfl (S0 rfl) (xs:=["number","read"]) (g:=gTup (kx w) 2 (gCons (gName 0) (gCons (gName 1) gNil))) (fr:=[(2,"written")]) rfl (z0r (pe_cal c2 (hr.mono (by decide)) rfl (z00 (pv 1) pa_nil))) (by intro p hp;obtain rfl:=List.mem_singleton.mp hp;first|exact ⟨rfl,.inl rfl⟩|exact ⟨rfl,.inr rfl⟩) (z6s (n:="written") (by decide +kernel) (λ _=>by first|exact .inl rfl|exact .inr rfl)) (by intro p hp;obtain rfl:=List.mem_singleton.mp hp;exact ⟨by decide +kernel,by first|exact .inl rfl|exact .inr rfl⟩) (by decide +kernel) rfl (by decide +kernel) (λ _ _ _ _ _=>(pg_tup rfl (z0b (pg_cn (N:=["number","read","written"]) 0) (z0b (pg_cn (N:=["number","read","written"]) 1) z11)))) (λ _ _ _ _ _=>(pf_one (pt_cmp (pc_din (hu_of hr) (pe_ix (z0k (K:=KX w.params) rfl) (pv 1) pe_int (λ _ _=>rfl)) (pv 2)) (by with_unfolding_all rfl)))) (λ _ _ _ _ _=>(pe_tup (z00 (pv 0) (z00 (pv 1) pa_nil)))))
   (z05 (ps_for X1 rfl (z0r (pv 3)) (pg_tup rfl (z0b (z0f (i:=4) sc_turn_about.nd rfl (S0 rfl)) (z0b (z0f (i:=5) sc_turn_about.nd rfl (S0 rfl)) z11)))
   (z06 (ps_for X1 rfl (z0r (pv 3)) (pg_tup rfl (z0b (z0f (i:=6) sc_turn_about.nd rfl (S0 rfl)) (z0b (z0f (i:=7) sc_turn_about.nd rfl (S0 rfl)) z11)))
   (z06 (ps_if (PW.pt (pw_and (z07 op_lt (pe_ix ix_seq (pv 5) pe_int (λ _ _=>rfl)) (pe_ix ix_seq (pv 7) pe_int (λ _ _=>rfl)) (nomark _)) (z1a (z07 op_lt (pe_ix ix_seq (z1g (hu_of hr) (pv 2) (pe_ix ix_seq (pv 7) pe_int (λ _ _=>rfl)) (λ _ _=>rfl)) pe_int (λ _ _=>rfl)) (pe_ix ix_seq (z1g (hu_of hr) (pv 2) (pe_ix ix_seq (pv 5) pe_int (λ _ _=>rfl)) (λ _ _=>rfl)) pe_int (λ _ _=>rfl)) (nomark _)))))
   (z06 (ps_ret (pe_tup (z00 (pv 4) (z00 (pv 6) pa_nil)))))
   z0g)))))
   (z06 (ps_ret pe_non)))))),?_⟩
  refine z0a ?_;refine ⟨_,rfl,t,nm,wr,es,ys,rfl,ta,λ l U H1 s1 L=>?_⟩;refine g_name ?_;have tg:=ta.twg;have nd:=tg.nd;have n0:=tg.n0;generalize dAll 0 [] es=rs at L q0 q1 nd n0;have lz:U.length=rs.length:=z03 L.a;have c9:=L.n;refine z0a ?_;refine ⟨_,rfl,l,U,rs,wr,rfl,L,nd,n0,λ d c8 H2 s2 _ ed Z=>?_⟩;have wk:=wk_of nd n0 Z;refine g_name ?_;have b1:=L.same s2;refine z0a ?_;refine za2 (K:=KX w.params) (λ a X c=>Same H2 c/\c a=some (.lst X)/\All2 (NumAt c U) ((U0 rs.length).filter λ i=>isRE (rs[i]?.getD r00)) X) (λ R h=>⟨_,rfl,l,U,rs,wr,rfl,b1,λ a X c sx ea S=>h a X c ⟨sx,ea,S⟩⟩) ?_ (λ k=>selI rs (((U0 rs.length).filter λ i=>isRE (rs[i]?.getD r00))[k]?.getD 0)) (λ k y c=>NumAt c U (((U0 rs.length).filter λ i=>isRE (rs[i]?.getD r00))[k]?.getD 0) y) (λ _ _ _ _ s z=>z.same s) ?_ ?_
  ·rintro a X c ⟨_,ea,S⟩;refine ⟨SqL.of ea,?_⟩;rw [z03 S];refine D0 (E1 _ _) ?_;rw [X2];exact D0 c9 (by decide)
  ·rintro a X H3 ⟨s3,ea,S⟩ k hk v H4 s4 hv KT KF F G;obtain ⟨i,I,p,z,rfl,ep,hz⟩:=z09 S hv;have gi:((U0 rs.length).filter λ i=>isRE (rs[i]?.getD r00))[k]?.getD 0=i:=by rw [I];rfl
   rw [gi] at F G;obtain ⟨r,D,C,rfl,sz⟩:=z09 b1.a hz;have b8:=(List.mem_filter.mp (d0 I)).2;rw [getD_some D] at b8;obtain ⟨rv,re⟩:=Bool.and_eq_true_iff.mp b8;have rv:=of_decide_eq_true rv;obtain ⟨e,he⟩:=Option.isSome_iff_exists.mp re;have g:RdG r:=(L.g r (d0 D)).resolve_right λ g=>z0h (rv.symm.trans g.1);have b9:=s3.trans s4;have ez:=b9.seqT sz;have b0:selI rs i=(sinceF rs (intV r.a)).isSome:=by unfold selI;rw [getD_some D]
   refine ⟨p,_,rfl,SqT.of (s4 _ _ ep),rfl,_,_,rfl,_,_,rfl,rfl,[some (.int (i:Nat)),some (.ref C)],rfl,rfl,?_⟩;have ra:=g.2.2 e he;refine ⟨_,rfl,.inr (.inl ⟨C,_,4,.int (intV r.a),rfl,rfl,ez,by rw [ra];exact z04 (j:=4) rfl,_,rfl,d,_,rfl,DGet.k (k:=.inl (intV r.a)) (b9 _ _ ed),_,rfl,?_⟩)⟩;have b2:=wk (intV r.a);cases hs:sinceF rs (intV r.a) with
   | none=>refine iteN (by rw [b2.1 hs];decide) (G ?_ _ (Same.refl _));rw [b0,hs];rfl
   | some u=>obtain ⟨_,_,_,d7,_⟩:=b2.2 u hs;refine iteP (by rw [d7];rfl) ?_;exact ⟨_,rfl,_,rfl,w_2,λ p2 d6=>F (by rw [b0,hs];rfl) _ _ (Same.upd d6) ⟨p2,_,rfl,z02,hz⟩⟩
  rintro a X H3 ⟨s3,ea,S⟩ l4 H4 us s4 hl4 al4;rw [z03 S] at al4;have d3:All2 (NumAt H4 U) (readsI rs) us:=zcg (R:=λ i y=>NumAt H4 U i y) al4;have s5:=Same.upd (o:=.lst us) hl4;have e5:upd H4 l4 (.lst us) l4=some (.lst us):=z02;have a6:=z01 (λ _ _ z=>NumAt.same s5 z) d3;have a0:=(s3.trans s4).trans s5;generalize upd H4 l4 (.lst us)=H5 at s5 e5 a6 a0⊢;refine g_name ?_;have a9:=s2.trans a0;have b5:=s1.trans a9;have d4:=L.same a9;have d1:=wk.tups (.of a0);have b6:=a0 _ _ ed;have lu:us.length=(readsI rs).length:=z03 a6;have c3 :∀{k:Nat} {y:V},us[k]? = some y->∃i p C r e u W b Z,(readsI rs)[k]? = some i/\y=.ref p/\H5 p=some (.tup [.int (i:Nat),.ref C])/\rs[i]? = some r/\SqT (kx w) H5 C [.int r.h,r.n,r.v,r.x,r.a,.int r.b,endV r.e]/\r.v=.str "read"/\r.e=some e/\r.a=.int (intV r.a)/\sinceF rs (intV r.a)=some u/\valV c8 (.inl (intV r.a))=some (.ref W)/\SqT (kx w) H5 W [.int b,Z]/\((u=-1/\b=-2)\/(0<=u/\b=u)):=by intro k y hy;obtain ⟨i,I,p,z,rfl,ep,hz⟩:=z09 a6 hy;obtain ⟨r,D,C,rfl,sz⟩:=z09 d4.a hz;obtain ⟨r',e,u,J,M,g3,g4⟩:=readsI_mem.mp (d0 I);rw [D] at J;cases J;have g:RdG r:=(L.g r (d0 D)).resolve_right λ g=>z0h (M.symm.trans g.1);obtain ⟨W,b,Z,w1,w2,w3⟩:=(d1 (intV r.a)).2 u g4;exact ⟨i,p,C,r,e,u,W,b,Z,I,rfl,ep,D,sz,M,g3,g.2.2 e g3,g4,w1,w2,w3⟩
  refine ⟨_,rfl,l4,rfl,⟨_,SqL.of e5⟩,?_⟩;refine z1c (K:=KX w.params) (a:=l4) (xs:=us) (λ k σ c=>c=H5/\(∀m i,m < k->(readsI rs)[m]? = some i->∀j,¬ Bad rs i j)/\∃x4 x5 x6 x7,σ=[some (.ref t),some (.ref l),some (.ref d),some (.ref l4),x4,x5,x6,x7]) ⟨rfl,λ m i h=>absurd h (O2 _),_,_,_,_,rfl⟩ (λ _ σ c _ h=>by rw [h.1];exact SqL.of e5) ?_ ?_
  ·rintro k y σ H6 hy ⟨rfl,no,x4,x5,x6,x7,rfl⟩;obtain ⟨i,p,C,r,e,u,W,b,Z,I,rfl,ep,D,sz,rv,re,ra,b7,vw,sw,bw⟩:=c3 hy;refine ⟨p,_,rfl,SqT.of ep,rfl,_,_,rfl,_,_,rfl,rfl,?_⟩;refine ⟨_,rfl,l4,rfl,⟨_,SqL.of e5⟩,?_⟩;refine z1c (K:=KX w.params) (a:=l4) (xs:=us) (λ Y σ c=>c=H6/\(∀m j,m < Y->(readsI rs)[m]? = some j->¬ Bad rs i j)/\∃x6 x7,σ=[some (.ref t),some (.ref l),some (.ref d),some (.ref l4),some (.int (i:Nat)),some (.ref C),x6,x7]) ⟨rfl,λ m i h=>absurd h (O2 _),_,_,rfl⟩ (λ _ σ c _ h=>by rw [h.1];exact SqL.of e5) ?_ ?_
   ·rintro Y y2 σ H7 d5 ⟨rfl,no2,x6,x7,rfl⟩;obtain ⟨j,p',c4,q,f,t0,b3,b',e0,hj,rfl,d8,a5,b4,qv,qe,qa,a8,c6,c5,e3⟩:=c3 d5;have next:¬ Bad rs i j->∀m O,m < Y + 1->(readsI rs)[m]? = some O->¬ Bad rs i O:=λ nb m O hm a3=>by
     rcases i4 m Y with z|z
     ·exact no2 m O z a3
     ·have:m=Y:=by omega
      subst this;rw [hj] at a3;cases a3;exact nb
    have dg:DGet H7 d (.int (intV q.a)) (some (.ref b3)):=c6 ▸ DGet.k (k:=.inl (intV q.a)) b6;have d9:DGet H7 d (.int (intV r.a)) (some (.ref W)):=vw ▸ DGet.k (k:=.inl (intV r.a)) b6;refine ⟨p',_,rfl,SqT.of d8,rfl,_,_,rfl,_,_,rfl,rfl,?_⟩;refine ⟨_,rfl,.inr (.inl ⟨C,_,6,.int (e:Nat),rfl,rfl,sz,by rw [re];exact z04 (j:=6) rfl,?_⟩)⟩;refine ⟨_,rfl,.inr (.inl ⟨c4,_,5,.int (q.b:Nat),rfl,rfl,b4,z04 (j:=5) rfl,_,_,rfl,rfl,_,rfl,?_⟩)⟩;by_cases z1:e < q.b
    ·refine iteP (decide_eq_true (by omega)) ?_;refine ⟨_,rfl,_,rfl,.inr (.inl ⟨c4,_,4,.int (intV q.a),rfl,rfl,b4,by rw [qa];exact z04 (j:=4) rfl,d,_,rfl,dg,.inr (.inl ⟨b3,_,0,.int b',rfl,rfl,c5,z04 (j:=0) rfl,?_⟩)⟩)⟩;refine ⟨_,rfl,_,rfl,.inr (.inl ⟨C,_,4,.int (intV r.a),rfl,rfl,sz,by rw [ra];exact z04 (j:=4) rfl,d,_,rfl,d9,.inr (.inl ⟨W,_,0,.int b,rfl,rfl,sw,z04 (j:=0) rfl,_,_,rfl,rfl,_,rfl,?_⟩)⟩)⟩;by_cases z2:t0 < u
     ·refine iteP (decide_eq_true (by omega)) ?_;have B:Bad rs i j:=⟨r,q,e,f,u,t0,D,a5,rv,qv,re,qe,z1,b7,a8,z2⟩
      refine ⟨_,rfl,_,rfl,w_2,λ p9 d2=>q1 p9 i j _ (b5.trans (Same.upd d2)) z02 ⟨B,λ i' O a7=>?_⟩⟩;obtain ⟨m1,m2⟩:=a7.reads;obtain ⟨a1,F⟩:=List.mem_iff_getElem?.mp m1;obtain ⟨a2,G⟩:=List.mem_iff_getElem?.mp m2;rcases Q3 a1 k with y|y|y
      ·exact absurd a7 (no a1 i' y F O)
      ·subst y;rw [I] at F;cases F;refine .inr ⟨rfl,?_⟩;rcases Q3 a2 Y with x|x|x
       ·exact absurd a7 (no2 a2 O x G)
       ·subst x;rw [hj] at G;cases G;exact y0 _
       ·exact U3 (z7y (z2u rs) x hj G)
      ·exact .inl (z7y (z2u rs) y I F)
     ·refine iteN (λ x=>z2 (by have:=of_decide_eq_true x;omega)) ?_;refine ⟨rfl,next λ B=>?_,_,_,rfl⟩;obtain ⟨r',q',e',f',s',t',J,M,_,_,_,_,_,g8,g9,c7⟩:=B;rw [D] at J;cases J;rw [a5] at M;cases M;rw [b7] at g8;cases g8;rw [a8] at g9;cases g9;exact z2 c7
    ·refine iteN (λ x=>z1 (by have:=of_decide_eq_true x;omega)) ?_;refine iteN (by decide) ?_;refine ⟨rfl,next λ B=>?_,_,_,rfl⟩;obtain ⟨r',q',e',f',s',t',J,M,_,_,g5,_,g7,_⟩:=B;rw [D] at J;cases J;rw [a5] at M;cases M;rw [re] at g5;cases g5;exact z1 g7
   ·rintro σ H7 ⟨rfl,no2,x6,x7,rfl⟩;refine ⟨rfl,λ m i' hm a4 j B=>?_,_,_,_,_,rfl⟩;rcases i4 m k with z|z
    ·exact no m i' z a4 j B
    ·have:m=k:=by omega
     subst this;rw [I] at a4;cases a4;obtain ⟨a2,G⟩:=List.mem_iff_getElem?.mp B.reads.2;exact no2 a2 j (by rw [lu];exact (List.getElem?_eq_some_iff.mp G).1) G B
  ·rintro σ H6 ⟨rfl,no,x4,x5,x6,x7,rfl⟩;refine q0 _ b5 λ i j B=>?_;obtain ⟨a1,F⟩:=List.mem_iff_getElem?.mp B.reads.1;exact no a1 i (by rw [lu];exact (List.getElem?_eq_some_iff.mp F).1) F j B
theorem ck_T (P:J1):CodeK (KX P) cdT tbT:=⟨⟨(.type "code"),none,(.fields #[(.str "zones" 288),(.str "zones" 289),(.str "/claim/cut.py" 290),(.int (46) 0),(.int (1) 0),(.int (0) 0),(.int (0) 0),(.int (3) 0),(.ref 84),(.bool true),(.int (181) 0),(.ref 85),.none,.none,.none,(.ref 86),(.int (291) 0),(.int (46) 0),(.str "/claim/cut.py" 292)]),#[]⟩,_,_,_,_,_,_,_,_,by kernel_rfl,rfl,rfl,rfl,rfl,rfl,rfl,rfl,rfl,by decide⟩
structure Zt where
 x:Int
 lo:Int
 hi:Int
 on:Bool
noncomputable def onS:Bool->Str
 | true=>"on"
 | false=>"in"
def ZtV (H:Hp) (z:Zt) (y:V):Prop:=∃p,y=.ref p/\H p=some (.tup [.int z.x,.int z.lo,.int z.hi,.str (onS z.on)])
theorem ZtV.same {H H':Hp} {z:Zt} {y:V} (s:Same H H') (h:ZtV H z y):ZtV H' z y:=h.elim λ p e=>⟨p,e.1,s _ _ e.2⟩
def MinI (l:Int) (ns:List Int):Prop:=l∈ns/\∀u∈ns,l<=u
def MaxI (l:Int) (ns:List Int):Prop:=l∈ns/\∀u∈ns,u<=l
noncomputable def zOf (x l g:Int):Zt:=if l < g then ⟨x,l,g,true⟩ else ⟨x,g,l,false⟩
def SpV (K:c0) (H:Hp) (s:Int×Option Int) (y:V):Prop:=∃p,y=.ref p/\SqT K H p [.int s.1,endO s.2]
theorem z8u :∀{n:Nat} {ss:List (Int×Option Int)} {ys:List V},n<=ss.length->All2 (λ (i:Nat) y=>∀s e,ss[i]? = some s->s.2=some e->y=V.int e) ((U0 n).filter λ i=>(ss[i]?.map λ s=>s.2.isSome).getD false) ys->ys=((ss.take n).filterMap (·.2)).map V.int
 | 0,ss,ys,_,h=>by cases h;rfl
 | n + 1,ss,ys,hn,h=>by
  have e:ss[n]? = some ss[n]:=P0 hn;rw [B7,U2] at h;rw [K7,e,List.filterMap_append,V0];cases z:ss[n].2 with
  | none=>rw [Q1 (by rw [e];show ¬ ss[n].2.isSome=true;rw [z];decide),m6,E3] at h;rw [z8u (by omega) h];show _=_++([ss[n]].filterMap (·.2)).map V.int;rw [C9 z];exact (E3 _).symm
  | some v=>rw [L1 (by rw [e];show ss[n].2.isSome=true;rw [z];rfl),m6] at h;obtain ⟨c,y,rfl,a,b⟩:=z1l h;rw [z8u (by omega) a,b _ v e z];show _=_++([ss[n]].filterMap (·.2)).map V.int;rw [N6 z];rfl
def z3p (K:c0):Sp:=λ vs H Q _=>∃(x:Int) (l:Addr) (ys:List V) (ss:List (Int×Option Int)),vs=[.int x,.ref l]/\H l=some (.lst ys)/\All2 (SpV K H) ss ys/\ss.length<=100/\ss.filterMap (·.2)≠[]/\ss≠[]/\∀p lo g H',Same H H'->MinI lo (ss.filterMap (·.2))->MaxI g (ss.map (·.1))->ZtV H' (zOf x lo g) (.ref p)->Q (.ref p) H'
theorem z9q (T:TX (kx w) mg):Fo P w mg base CX0 1 93 y0w ["worth","spans"] (z3p (kx w)):=by
 refine (z4l w.params).ok sc_zone_of (λ vs H Q E h=>?_) (λ a5 A a4 s H vs Q E hr h=>?_)
 ·obtain ⟨x,l,G,b,rfl,_⟩:=h;rfl
 ·obtain ⟨x,l,G,b,rfl,Z,O,a6,a0,a3,q⟩:=h;have Y:=z03 O;refine ⟨_,(z05 (ps_set (i:=2) sc_zone_of.nd rfl (S0 rfl) (z0n (zan rfl) rfl (T.no (n_min _)) boot_min (z00 (pe_cg (xs:=["begin","end"]) (g:=gTup (kx w) 2 (gCons (gName 0) (gCons (gName 1) gNil))) (fr:=[]) (z0r (pv 1)) (λ _ _ _ _ _=>(pg_tup rfl (z0b (pg_cn (N:=["begin","end"]) 0) (z0b (pg_cn (N:=["begin","end"]) 1) z11)))) (λ _ _ _ _ _=>(pf_one (z07 z1v (pv 1) pe_non (nomark _)))) (λ _ _ _ _ _=>(pv 1))) pa_nil)))
   (z05 (ps_set (i:=3) sc_zone_of.nd rfl (S0 rfl) (z0n (zbf rfl) rfl (T.no (n_max _)) boot_max (z00 (pe_cg (xs:=["begin","end"]) (g:=gTup (kx w) 2 (gCons (gName 0) (gCons (gName 1) gNil))) (fr:=[]) (z0r (pv 1)) (λ _ _ _ _ _=>(pg_tup rfl (z0b (pg_cn (N:=["begin","end"]) 0) (z0b (pg_cn (N:=["begin","end"]) 1) z11)))) (λ _ _ _ _ _=>pf_nil) (λ _ _ _ _ _=>(pv 0))) pa_nil)))
   (z05 (ps_if (z07 op_lt (pv 2) (pv 3) (nomark _))
   (z06 (ps_ret (pe_tup (z00 (pv 0) (z00 (pv 2) (z00 (pv 3) (z00 pe_str pa_nil)))))))
   z0g)
   (z06 (ps_ret (pe_tup (z00 (pv 0) (z00 (pv 3) (z00 (pv 2) (z00 pe_str pa_nil)))))))))),?_⟩
  refine z0a (e_cb1 ?_);refine z17 (K:=KX w.params) (a:=l) (xs:=G) (H1:=H) (λ i=>(b[i]?.map λ s=>s.2.isSome).getD false) (λ i y _=>∀s e,b[i]? = some s->s.2=some e->y=V.int e) (λ _ _ _ _ _ z=>z) (λ R h=>⟨_,rfl,h⟩) (SqL.of Z) (D0 (m:=100) (by omega) (by decide)) (λ i hi v H1 r M KT KF d k=>?_) λ u H1 zs r a2 j=>?_
  ·obtain ⟨c,L,p,rfl,F⟩:=z09 O M;rw [L] at d k;refine ⟨p,_,rfl,r.seqT F,rfl,_,_,rfl,_,_,rfl,rfl,[some (.int c.1),some (endO c.2)],rfl,rfl,?_⟩;cases z:c.2 with
   | none=>exact ⟨_,rfl,rfl,_,rfl,iteN (by decide) (k (by show c.2.isSome=false;rw [z];rfl) _ (Same.refl _))⟩
   | some e=>exact ⟨_,rfl,rfl,_,rfl,iteP (by simp [endO]) ⟨_,rfl,d (by show c.2.isSome=true;rw [z];rfl) _ _ (Same.refl _) λ S e' I B=>by cases I;rw [z] at B;cases B;rfl⟩⟩
  rw [Y] at j;have f:=z8u (y0 _) j;rw [P5] at f;subst f;have t:=r.trans (Same.upd (o:=.lst ((b.filterMap (·.2)).map V.int)) a2);have e1:upd H1 u (.lst ((b.filterMap (·.2)).map V.int)) u=some (.lst ((b.filterMap (·.2)).map V.int)):=z02;generalize upd H1 u (.lst ((b.filterMap (·.2)).map V.int))=H2 at t e1⊢;refine ⟨u,_,rfl,SqL.of e1,a0,λ J d k=>g_name ?_⟩;refine z0a (e_cb1 ?_);refine z17 (K:=KX w.params) (a:=l) (xs:=G) (H1:=H2) (λ _=>true) (λ i y _=>y=V.int (b[i]?.getD (0,none)).1) (λ _ _ _ _ _ z=>z) (λ R h=>⟨_,rfl,h⟩) (SqL.of (t _ _ Z)) (D0 (m:=100) (by omega) (by decide)) (λ i hi v H1 r M KT KF d k=>?_) λ C U zs s3 a1 j=>?_
  ·obtain ⟨c,L,p,rfl,F⟩:=z09 O M;exact ⟨p,_,rfl,(t.trans r).seqT F,rfl,_,_,rfl,_,_,rfl,rfl,[some (.int c.1),some (endO c.2)],rfl,rfl,iteT ⟨_,rfl,d rfl _ _ (Same.refl _) (by rw [L];rfl)⟩⟩
  rw [Y,List.filter_eq_self.mpr (λ _ _=>rfl)] at j;have f:=z2p j;have f:zs=(b.map (·.1)).map V.int:=by
   rw [f];apply D5;intro m;rw [N1,N1,N1];by_cases z:m < b.length
   ·rw [List.getElem?_range z,P0 z];show some (V.int (b[m]?.getD (0,none)).1)=_;rw [P0 z];rfl
   ·rw [M3 (by rw [X2];omega),M3 (by omega)];rfl
  subst f;have W:=t.trans (s3.trans (Same.upd (o:=.lst ((b.map (·.1)).map V.int)) a1));have X:upd U C (.lst ((b.map (·.1)).map V.int)) C=some (.lst ((b.map (·.1)).map V.int)):=z02;generalize upd U C (.lst ((b.map (·.1)).map V.int))=H4 at W X⊢;refine ⟨C,_,rfl,SqL.of X,λ z=>a3 (List.map_eq_nil_iff.mp z),λ g I B=>g_name ?_⟩;have fin :∀(p:Addr) n,Same H4 n->ZtV n (zOf x J g) (.ref p)->Q (.ref p) n:=λ p n S z=>q p J g n (W.trans S) ⟨d,k⟩ ⟨I,B⟩ z;refine sq_if ⟨_,rfl,_,rfl,_,_,rfl,rfl,_,rfl,ite2 (λ z=>?_) λ z=>t_nx ?_⟩
  ·have z:=of_decide_eq_true z;refine ⟨_,rfl,_,rfl,_,rfl,w_4,λ p D=>fin p _ (Same.upd D) ⟨p,rfl,?_⟩⟩;unfold zOf;rw [if_pos z];exact z02
  ·have z:¬ J < g:=λ y=>z (decide_eq_true y);refine ⟨_,rfl,_,rfl,_,rfl,w_4,λ p D=>fin p _ (Same.upd D) ⟨p,rfl,?_⟩⟩;unfold zOf;rw [if_neg z];exact z02
theorem slSeqK {X:Cx} {K:c0} (hK:X.K=K):SlR X (λ x lo hi H Q=>rSlL K x lo hi H Q\/rSlT K x lo hi H Q\/rSlS x lo hi H Q):=hK ▸ slSeq
theorem zbu {K:c0} {tl te:TE} {tc:TT} {g:TG} {m:Nat} {fr:List (Nat×Str)} {σ:L2.St} {H:Hp} {Q:VK} (h:tl σ H λ x H1=>tCompG (iList K λ _ _ R=>R x H1) m fr g tc te σ H1 Q):tCompG (iList K tl) m fr g tc te σ H Q:=h
noncomputable def lamP:Pos:=⟨53,29,53,49⟩
noncomputable def lamQ:Str:=(("zones" : Str)++".<locals>.")++"<lambda>"
abbrev LamH:Hp->Prop:=LamT tbT lamP lamQ
theorem LamH.same {H H':Hp} (s:Same H H') (h:LamH H):LamH H':=by
 rcases h with z|⟨c',z,y⟩
 ·exact .inl (s _ _ z)
 ·exact .inr ⟨c',s _ _ z,s _ _ y⟩
noncomputable def rdsF (rs:List Rc) (x:Int):List Rc:=(rs.filter isRE).filter λ r=>decide (intV r.a=x)
noncomputable def spR (r:Rc):Int×Option Int:=((r.b:Int),r.e.map λ n=>(n:Int))
noncomputable def spans (rs:List Rc) (t:Ent):List (Int×Option Int):=(t.b,t.e) :: (rdsF rs t.x).map spR
noncomputable def cntB (rs:List Rc) (t:Ent):Bool:=decide ((spans rs t).filterMap (·.2)≠[])
def ZnR (rs:List Rc) (t:Ent) (z:Zt):Prop:=∃l g,MinI l ((spans rs t).filterMap (·.2))/\MaxI g ((spans rs t).map (·.1))/\z=zOf t.x l g
def ZonS (rs:List Rc) (zl:List Zt):Prop:=∃zl0,All2 (ZnR rs) ((ents rs).filter (cntB rs)) zl0/\zl.Perm zl0/\zl.Pairwise λ z z'=>z.lo<=z'.lo
theorem z4m {α β γ:Type} {f:α->β} {R:β->γ->Prop} :∀{xs:List α} {ys:List γ},All2 (λ x y=>R (f x) y) xs ys->All2 R (xs.map f) ys
 | _,_,.nil=>.nil
 | _,_,.cons a r=>.cons a (z4m r)
def RdN (K:c0) (H:Hp) (r:Rc) (y:V):Prop:=∃(p:Addr) (i:Int) (z:V),y=.ref p/\H p=some (.tup [.int i,z])/\RcAt K H r z
theorem rdn_of {K:c0} {H:Hp} {rs:List Rc} {zs ws:List V} (a:All2 (RcAt K H) rs zs) (h:All2 (NumAt H zs) ((U0 rs.length).filter λ i=>isRE (rs[i]?.getD r00)) ws):All2 (RdN K H) (rs.filter isRE) ws:=by have e:=z0w isRE id r00 rs;rw [j06] at e;rw [<-e];refine z4m (z01 (λ i y z=>?_) h);obtain ⟨p,v,rfl,d,b⟩:=z;obtain ⟨r,c,q⟩:=z09 a b;exact ⟨p,i,v,rfl,d,by rw [c];exact q⟩
theorem key_zt {H:Hp} {zl:List Zt} {ys out:List V} (a:All2 (ZtV H) zl ys) (k:KeyOut (zl.map (·.lo)) ys out) :∃zl',zl'.Perm zl/\zl'.Pairwise (λ z z'=>z.lo<=z'.lo)/\All2 (ZtV H) zl' out:=by
 obtain ⟨n,d,rfl,g⟩:=k;have e:(zl.map (·.lo)).zip ys=(zl.zip ys).map λ p=>(p.1.lo,p.2):=by rw [List.zip_map_left];exact S3 λ p _=>rfl
 obtain ⟨b,f,rfl⟩:=z7i d _ e;have j :∀{zl:List Zt} {ys:List V},All2 (ZtV H) zl ys->(∀q∈zl.zip ys,ZtV H q.1 q.2)/\(zl.zip ys).map j05=zl:=by
  intro zl ys a;induction a with
  | nil=>exact ⟨λ q c=>absurd c B0,rfl⟩
  | cons a r ih=>
   refine ⟨λ q c=>?_,?_⟩
   ·rcases List.mem_cons.mp c with rfl|c
    ·exact a
    ·exact ih.1 q c
   ·show _ :: (List.zip _ _).map j05=_;rw [ih.2]
 obtain ⟨l,m⟩:=j a;refine ⟨b.map j05,?_,?_,?_⟩
 ·rw [<-m];exact f.map _
 ·rw [L6] at g⊢;exact g
 ·rw [O3];have i :∀b:List (Zt×V),(∀q∈b,ZtV H q.1 q.2)->All2 (ZtV H) (b.map j05) (b.map (Prod.snd ∘ λ p=>(p.1.lo,p.2))):=by
   intro b;induction b with
   | nil=>exact λ _=>.nil
   | cons q b ih=>exact λ h=>.cons (h q (.head _)) (ih λ p d=>h p (.tail _ d))
  exact i b λ q c=>l q (f.mem_iff.mp c)
theorem sp_ne {rs:List Rc} {t:Ent} (h:rdsF rs t.x≠[]):(spans rs t).filterMap (·.2)≠[]:=by
 obtain ⟨r,d,e⟩:=n9 h;have b:r∈rdsF rs t.x:=by rw [e];exact .head _
 have a:=(List.mem_filter.mp (List.mem_filter.mp b).1).2;unfold isRE at a;rw [a6] at a;obtain ⟨k,c⟩:=Option.isSome_iff_exists.mp a.2;refine D6 (List.mem_filterMap.mpr ⟨spR r,.tail _ (List.mem_map.mpr ⟨r,b,rfl⟩),(?_:_=some (k:Int))⟩);unfold spR;rw [c];rfl
theorem SameB.tups {T:Addr} {K:c0} {H H':Hp} (s:SameB T H H') (h :∃ps,H T=some (.tbl ps)):Tups K H H':=λ a b e=>by
 obtain ⟨ps,z⟩:=h;rcases e with (e|⟨o,e⟩)|e
 ·exact .inl (.inl (s _ _ (λ q=>by rw [q,z] at e;cases e) e))
 ·exact .inl (.inr ⟨o,s _ _ (λ q=>by rw [q,z] at e;cases e) e⟩)
 ·exact .inr e
theorem SameB.of {T:Addr} {H H':Hp} (s:Same H H'):SameB T H H':=λ b o _ e=>s b o e
theorem SameB.trans {T:Addr} {H H1 H2:Hp} (s:SameB T H H1) (r:SameB T H1 H2):SameB T H H2:=λ b o n e=>r b o n (s b o n e)
theorem ZtV.sb {H H':Hp} {z:Zt} {y:V} (s:SameB tbT H H') (h :∃ps,H tbT=some (.tbl ps)) (e:ZtV H z y):ZtV H' z y:=by obtain ⟨ps,b⟩:=h;obtain ⟨p,rfl,a⟩:=e;exact ⟨p,rfl,s _ _ (λ q=>by rw [q,b] at a;cases a) a⟩
def za3 (K:c0):Sp:=λ vs H Q _=>∃t nm wr es ys,vs=[.ref t]/\TalR K H t nm wr es ys/\LamH H/\∀D out zl H',SameB tbT H H'->LamH H'->H D=none->H' D=some (.lst out)->ZonS (dAll 0 [] es) zl->All2 (ZtV H') zl out->Q (.ref D) H'
theorem zd6 (T:TX (kx w) mg) (B:BtMain base mg) (c0:Ca P w mg base "plain_deeds" ["tale"] 4 (z10 (kx w))) (c1:Ca P w mg base "writers" ["told"] 1 (z19 (kx w))) (c2:Ca P w mg base "ended_reads" ["told"] 1 (z0p (kx w))) (c3:Ca P w mg base "zone_of" ["worth","spans"] 1 (z3p (kx w))):Fo P w mg base CX0 6 88 y1g ["tale"] (za3 (kx w)):=by
 refine (z9n w.params).okC (c:=cdT) rfl sc_zones (λ vs H Q E h=>?_) (λ A g0 s H vs Q E L h=>?_)
 ·obtain ⟨t,nm,W,es,ys,rfl,_⟩:=h;rfl
 ·obtain ⟨t,nm,W,es,ys,rfl,ta,lm,q⟩:=h;refine ⟨_,(z05 (ps_set (i:=1) sc_zones.nd rfl (S0 rfl) (pe_cal c0 (L.mono (by decide)) rfl (z00 (pv 0) pa_nil)))
   (z05 (ps_set (i:=2) sc_zones.nd rfl (S0 rfl) (pe_lst pa_nil))
   (z05 (ps_for X1 rfl (zci (pe_cal c1 (L.mono (by decide)) rfl (z00 (pv 1) pa_nil))) (pg_tup rfl (z0b (z0f (i:=3) sc_zones.nd rfl (Q0 rfl)) (z0b (z0f (i:=4) sc_zones.nd rfl (S0 rfl)) z11)))
   (z05 (ps_set (i:=5) sc_zones.nd rfl (S0 rfl) (pe_op opAdd (pe_lst (z00 (pv 4) pa_nil)) (pe_cg (xs:=["number","read"]) (g:=gTup (kx w) 2 (gCons (gName 0) (gCons (gName 1) gNil))) (fr:=[(3,"worth")]) (z0r (pe_cal c2 (L.mono (by decide)) rfl (z00 (pv 1) pa_nil))) (λ _ _ _ _ _=>(pg_tup rfl (z0b (pg_cn (N:=["number","read","worth"]) 0) (z0b (pg_cn (N:=["number","read","worth"]) 1) z11)))) (λ _ _ _ _ _=>(pf_one (z07 opEq (pe_ix (z0k (K:=KX w.params) rfl) (pv 1) pe_int (λ _ _=>rfl)) (pv 2) (nomark _)))) (λ _ _ _ _ _=>(z3j (slSeqK (K:=KX w.params) rfl) (pv 1) (z47 pe_int) z7s)))))
   (z06 (ps_if (PW.pt (pw_or (z07 z1v (pe_ix ix_seq (pv 4) pe_int (λ _ _=>rfl)) pe_non (nomark _)) (pw_or1 (z07 op_gt (z0n z28 rfl (T.no (n_len _)) T5 (z00 (pv 5) pa_nil)) pe_int (nomark _)))))
   (z06 (z2g (z0z (pv 2) (z00 (pe_cal c3 (L.mono (by decide)) rfl (z00 (pv 3) (z00 (pv 5) pa_nil))) pa_nil))))
   z0g))))
   (z06 (ps_ret (z90 (k:=0) (N:=["zone"]) (px:="zone") B rfl (ck_T _) (L.mono (by decide)) rfl (T.no (z8y _)) (z00 (pv 2) pa_nil) ⟨rfl,rfl,rfl,by decide +kernel,rfl,by decide +kernel,by decide +kernel⟩ (λ _ _ _ _=>rfl) (λ _ _ _ _=>(pe_ix (z0k (K:=KX w.params) rfl) (pv 0) pe_int (λ _ _=>rfl))))))))),?_⟩
  refine z0a ⟨_,rfl,t,nm,W,es,ys,rfl,ta,λ l zs H1 s1 tl=>g_name ?_⟩;have nd:=ta.twg.nd;have d2:(dAll 0 [] es).length<=62:=D0 z35 (by simpa using ta.ln);have n0:=ta.twg.n0;generalize dAll 0 [] es=rs at tl nd n0 q d2;refine z0a ⟨w_0,λ F a4=>g_name ?_⟩;have u2:=s1.trans (Same.upd (o:=.lst []) a4);have ef:upd H1 F (.lst []) F=some (.lst []):=z02;have a0:=tl.same (Same.upd (o:=.lst []) a4);have nf:H F=none:=s1.free a4;have nl:l≠F:=λ z=>by have:=tl.l;rw [z,a4] at this;cases this
  generalize upd H1 F (.lst [])=H2 at u2 ef a0⊢;have f7:=a0.n;have le:=z37 rs;have f5:rs.length<=62:=d2;refine ⟨_,rfl,l,zs,rs,W,rfl,a0,nd,n0,λ d G U s3 b2 ed wk=>⟨d,G,rfl,ed,λ M=>?_⟩⟩;have d9:H d=none:=u2.free b2;have f3:F≠d:=λ z=>by rw [z,b2] at ef;cases ef
  have u4:Same H (upd U d (.frz M (.dK G))):=Same.keep (u2.trans s3) d9;have c9:=a0.same (Same.keep (o:=.frz M (.dK G)) s3 b2);have d3:All2 (EntAt (kx w) (upd U d (.frz M (.dK G)))) (ents rs) G:=z01 (λ _ _ z=>z.tups (Tups.dict ed)) wk;have d1:upd U d (.frz M (.dK G)) F=some (.lst []):=by rw [upd_ne f3];exact s3 _ _ ef
  have c4:upd U d (.frz M (.dK G)) d=some (.frz M (.dK G)):=z02;have lk:=z03 wk;generalize upd U d (.frz M (.dK G))=H4 at u4 c9 d3 d1 c4⊢;clear wk a0 ed s3 ef u2 tl;refine zbd (λ i σ u=>Same H u/\u d=some (.frz M (.dK G))/\ToldAt (kx w) u l W rs zs/\All2 (EntAt (kx w) u) (ents rs) G/\(∃fs zl,u F=some (.lst fs)/\All2 (ZtV u) zl fs/\All2 (ZnR rs) (((ents rs).take i).filter (cntB rs)) zl)/\∃x3 x4 x5,σ=[some (.ref t),some (.ref l),some (.ref F),x3,x4,x5]) ⟨u4,c4,c9,d3,⟨[],[],d1,.nil,.nil⟩,_,_,_,rfl⟩ (λ i σ u h=>h.2.1) ?_ ?_
  ·rintro i k v σ H5 p hk ⟨u5,ed5,tl5,wk5,⟨fs,zl,ef5,az,an⟩,x3,x4,x5,rfl⟩ hp;obtain ⟨f,b8,e1,C,e2,sw⟩:=z09 wk5 hk;have e1:k=.inl f.x:=e1;have e2:v=.ref C:=e2;subst e1 e2;have hi:=z14 b8;have u6:=Same.upd (o:=.tup [kV (.inl f.x),.ref C]) hp;have e6:upd H5 p (.tup [kV (.inl f.x),.ref C]) p=some (.tup [.int f.x,.ref C]):=z02;generalize upd H5 p (.tup [kV (.inl f.x),.ref C])=H6 at u6 e6⊢;refine ⟨p,_,rfl,SqT.of e6,rfl,_,_,rfl,_,_,rfl,rfl,?_⟩;refine z0a ⟨_,rfl,w_1,λ l0 e0=>?_⟩;have u7:=u6.trans (Same.upd (o:=.lst [.ref C]) e0);have e7:upd H6 l0 (.lst [.ref C]) l0=some (.lst [.ref C]):=z02;generalize upd H6 l0 (.lst [.ref C])=H7 at u7 e7⊢;have b7:=tl5.same u7;refine zbu ⟨_,rfl,l,zs,rs,W,rfl,b7,λ la ws H8 s8 f0 aw=>?_⟩;have aw:=rdn_of (b7.same s8).a aw;have lw:=z03 aw;have g1:(rs.filter isRE).length<=rs.length:=E1 _ _;refine z17 (K:=KX w.params) (a:=la) (xs:=ws) (H1:=H8) (λ j=>((rs.filter isRE)[j]?.map λ r=>decide (intV r.a=f.x)).getD false) (λ j y u=>∀r,(rs.filter isRE)[j]? = some r->SpV (kx w) u (spR r) y) (λ _ _ _ _ s z r L=>(z r L).elim λ p e=>⟨p,e.1,s.seqT e.2⟩) (λ R h=>h) (SqL.of f0) (D0 (m:=63) (by omega) (by decide)) (λ j hj v H9 s9 hv KT KF X Z=>?_) λ l1 H9 I s9 c5 Y=>?_
   ·obtain ⟨r,L,p',i',z,rfl,f2,S,rfl,a9⟩:=z09 aw hv;have hm:=List.mem_filter.mp (d0 L);have ra:r.a=.int (intV r.a):=by
     have a7:=hm.2;unfold isRE at a7;rw [a6] at a7;obtain ⟨e,he⟩:=Option.isSome_iff_exists.mp a7.2;rcases tl5.g r hm.1 with g|g
     ·exact g.2.2 e he
     ·exact absurd ((of_decide_eq_true a7.1).symm.trans g.1) z0h
    rw [L] at X Z;have a9:=s9.seqT a9;refine ⟨p',_,rfl,SqT.of (s9 _ _ f2),rfl,_,_,rfl,_,_,rfl,rfl,[some (.int i'),some (.ref S)],rfl,rfl,?_⟩;refine ⟨_,rfl,.inr (.inl ⟨S,_,4,.int (intV r.a),rfl,rfl,a9,by rw [<-ra];exact z04 (j:=4) rfl,_,rfl,rfl,_,rfl,?_⟩)⟩;refine ite2 (λ z=>?_) λ z=>Z (decide_eq_false λ y=>z (decide_eq_true (by rw [y]))) _ (Same.refl _);have z:=of_decide_eq_true z;injection z with z;refine ⟨_,rfl,5,rfl,.inr (.inl ⟨S,_,rfl,a9,λ z=>absurd z.1 (show ¬ HT.sIx 7 0 (some 5)=0 by decide),λ p1 e3=>?_⟩)⟩;refine X (decide_eq_true z) _ _ (Same.upd e3) λ r' f4=>?_;cases f4;refine ⟨p1,rfl,?_⟩;show SqT _ _ _ [.int (r.b:Int),endO (r.e.map λ n=>(n:Int))];rw [<-endV_O];exact SqT.of z02
   rw [lw] at Y;have Y:=z4k (q:=λ r:Rc=>decide (intV r.a=f.x)) _ (y0 _) Y;rw [P5] at Y;have f8:=z03 Y;have f9:((rs.filter isRE).filter λ r=>decide (intV r.a=f.x)).length<=(rs.filter isRE).length:=E1 _ _;have u9:=s8.trans (s9.trans (Same.upd (o:=.lst I) c5));have e9:upd H9 l1 (.lst I) l1=some (.lst I):=z02;have a5:All2 (λ r y=>SpV (kx w) (upd H9 l1 (.lst I)) (spR r) y) (rdsF rs f.x) I:=z01 (λ _ _ z=>z.elim λ p e=>⟨p,e.1,(Same.upd (o:=.lst I) c5).seqT e.2⟩) Y;generalize upd H9 l1 (.lst I)=H10 at u9 e9 a5⊢;refine .inr (.inr (.inl ⟨l0,l1,_,_,rfl,rfl,u9 _ _ e7,e9,D0 (m:=64) (by show 1 + I.length<=64;omega) (by decide),λ O e8=>g_name ?_⟩));have d5:=Same.upd (o:=.lst ([.ref C]++I)) e8;have J:=(u7.trans u9).trans d5;have b4:upd H10 O (.lst ([.ref C]++I)) O=some (.lst (.ref C :: I)):=z02;have c6:All2 (SpV (kx w) (upd H10 O (.lst ([.ref C]++I)))) (spans rs f) (.ref C :: I):=.cons ⟨C,rfl,J.seqT sw⟩ (z4m (z01 (λ _ _ z=>z.elim λ p e=>⟨p,e.1,d5.seqT e.2⟩) a5));generalize upd H10 O (.lst ([.ref C]++I))=H11 at J b4 c6⊢;have a3:=J _ _ ef5;have b9:(ents rs).take (i + 1)=(ents rs).take i++[f]:=by rw [K7,b8];rfl
   have skip:¬ (spans rs f).filterMap (·.2)≠[]->Same H H11/\H11 d=some (.frz M (.dK G))/\ToldAt (kx w) H11 l W rs zs/\All2 (EntAt (kx w) H11) (ents rs) G/\∃fs zl,H11 F=some (.lst fs)/\All2 (ZtV H11) zl fs/\All2 (ZnR rs) (((ents rs).take (i + 1)).filter (cntB rs)) zl:=λ z=>by refine ⟨u5.trans J,J _ _ ed5,tl5.same J,z01 (λ _ _ z=>z.tups (Tups.of J)) wk5,fs,zl,a3,z01 (λ _ _ z=>z.same J) az,?_⟩;rw [b9,U2,Q1 (by unfold cntB;rw [decide_eq_false z];decide),m6,E3];exact an
   have go:(spans rs f).filterMap (·.2)≠[]->∀{N:Hp->Prop},(∀u,(Same H u/\u d=some (.frz M (.dK G))/\ToldAt (kx w) u l W rs zs/\All2 (EntAt (kx w) u) (ents rs) G/\∃fs zl,u F=some (.lst fs)/\All2 (ZtV u) zl fs/\All2 (ZnR rs) (((ents rs).take (i + 1)).filter (cntB rs)) zl)->N u)->z3p (kx w) [.int f.x,.ref O] H11 (λ y H2=>z9k (.ref F) [y] H2 λ _ U=>N U) E0:=λ a8 N hN=>by
    refine ⟨f.x,O,_,spans rs f,rfl,b4,c6,by show (((rs.filter isRE).filter λ r=>decide (intV r.a=f.x)).map spR).length + 1<=100;rw [A0];omega,a8,List.cons_ne_nil _ _,λ S lo g a2 c7 X Z hz=>?_⟩;have b5:=c7 _ _ a3;have e4:=z03 an;have c8:=z03 az;have d8:(((ents rs).take i).filter (cntB rs)).length<=((ents rs).take i).length:=E1 _ _;rw [V3] at d8;refine ⟨F,_,_,rfl,rfl,b5,X0 (m:=100) (by omega) (by decide),hN _ ?_⟩;have a1:=J.trans c7;have b6:Tups (kx w) a2 (upd a2 F (.lst (fs++[.ref S]))):=Tups.lst b5;have zt :∀{z:Zt} {y:V},ZtV a2 z y->ZtV (upd a2 F (.lst (fs++[.ref S]))) z y:=λ ⟨p,e,ep⟩=>⟨p,e,by rw [upd_ne (ne_of ep b5 (by intro z;cases z))];exact ep⟩
    have b0:=tl5.same a1;refine ⟨Same.keep (u5.trans a1) nf,by rw [upd_ne (λ z=>by rw [z] at ed5;rw [ef5] at ed5;cases ed5)];exact a1 _ _ ed5,⟨by rw [upd_ne nl];exact b0.l,z01 (λ _ _ z=>RcAt.tups b6 z) b0.a,b0.g,b0.n⟩,z01 (λ _ _ z=>z.tups λ c xs e=>b6 _ _ (a1.seqT e)) wk5,fs++[.ref S],zl++[zOf f.x lo g],z02,z0v (z01 (λ _ _ z=>zt (z.same a1)) az) (zt hz),?_⟩;rw [b9,U2,L1 (by unfold cntB;exact decide_eq_true a8)];exact z0v an ⟨lo,g,X,Z,rfl⟩
   refine z9b (t_or ⟨_,rfl,.inr (.inl ⟨C,_,1,endO f.e,rfl,rfl,J.seqT sw,z04 (j:=1) rfl,rfl,_,rfl,?_⟩)⟩);cases he:f.e with
   | some e=>exact iteP (by simp [endO]) (iteT ⟨_,rfl,.inl ⟨rfl,_,SqL.of a3⟩,_,rfl,_,rfl,go (by unfold spans;rw [he];exact List.cons_ne_nil _ _) λ u h=>⟨h.1,h.2.1,h.2.2.1,h.2.2.2.1,h.2.2.2.2,_,_,_,rfl⟩⟩)
   | none=>
    refine iteN (by decide) ⟨_,rfl,.inl ⟨O,_,rfl,.inl (SqL.of b4),_,_,rfl,rfl,_,rfl,ite2 (λ z=>?_) λ z=>?_⟩⟩
    ·have z:=of_decide_eq_true z;rw [T1] at z;have a8:rdsF rs f.x≠[]:=λ y=>by have:=z03 a5;rw [y] at this;rw [this] at z;exact absurd z (by decide)
     exact ⟨_,rfl,.inl ⟨rfl,_,SqL.of a3⟩,_,rfl,_,rfl,go (sp_ne a8) λ u h=>⟨h.1,h.2.1,h.2.2.1,h.2.2.2.1,h.2.2.2.2,_,_,_,rfl⟩⟩
    ·have d7:rdsF rs f.x=[]:=by
      cases y:rdsF rs f.x with
      | nil=>rfl
      | cons r rr=>exfalso;have:=z03 a5;rw [y,T1] at this;refine z (decide_eq_true ?_);rw [T1];omega
     have h:=skip (λ y=>y (by unfold spans;rw [d7,he];rfl));exact ⟨h.1,h.2.1,h.2.2.1,h.2.2.2.1,h.2.2.2.2,_,_,_,rfl⟩
  rintro σ H5 ⟨u5,ed5,tl5,wk5,⟨fs,zl,ef5,az,an⟩,x3,x4,x5,rfl⟩;rw [lk,P5] at an;have c8:=z03 az;have e4:=z03 an;have f6:((ents rs).filter (cntB rs)).length<=(ents rs).length:=E1 _ _;have b3:=LamH.same u5 lm;refine ⟨_,rfl,F,fs,zl.map (·.lo),rfl,SqL.of ef5,by rw [A0];exact c8.symm,by omega,b3,λ H7 sb d4=>⟨λ i y k hy hk=>?_,λ D d6 hD ko=>?_⟩⟩
  ·obtain ⟨z,hz,p,rfl,ep⟩:=z09 az hy;rw [N1,hz] at hk;cases hk;have b1:ZtV H7 z (.ref p):=ZtV.sb sb b3.tb ⟨p,rfl,ep⟩;obtain ⟨p',e',b1⟩:=b1;cases e';exact ⟨_,rfl,.inr (.inl ⟨p,_,1,_,rfl,rfl,SqT.of b1,z04 (j:=1) rfl,rfl,rfl⟩)⟩
  ·obtain ⟨e5,X,Z,h3⟩:=key_zt (z01 (λ _ _ z=>ZtV.sb sb b3.tb z) az) ko;have f1:H D=none:=by
    cases y:H D with
    | none=>rfl
    | some o=>
     exfalso;by_cases z:D=tbT
     ·obtain ⟨ps,e⟩:=d4.tb;rw [z,e] at hD;cases hD
     ·rw [sb _ _ z (u5 _ _ y)] at hD;cases hD
   have v8:=Same.upd (o:=.lst d6) hD;exact q D d6 e5 _ (SameB.trans (SameB.of u5) (SameB.trans sb (SameB.of v8))) (LamH.same v8 d4) f1 z02 ⟨zl,an,X,Z⟩ (z01 (λ _ _ z=>z.same v8) h3)
noncomputable def enN (r:Rc):Int:=((r.e.getD 0:Nat):Int)
theorem re_end {r:Rc} (h:isRE r=true):r.v=.str "read"/\r.e=some (r.e.getD 0):=by unfold isRE at h;rw [a6] at h;obtain ⟨k,a⟩:=Option.isSome_iff_exists.mp h.2;exact ⟨of_decide_eq_true h.1,by rw [a];rfl⟩
theorem zdy (rs:List Rc) (t:Ent):(spans rs t).filterMap (·.2)=t.e.toList++(rdsF rs t.x).map enN:=by
 have a :∀l:List Rc,(∀r∈l,isRE r=true)->(l.map spR).filterMap (·.2)=l.map enN:=by
  intro l;induction l with
  | nil=>exact λ _=>rfl
  | cons r l ih=>
   intro h;rw [O0,N6 (b:=enN r) (by show r.e.map (λ n=>(n:Int))=some (enN r);unfold enN;rw [(re_end (h r (.head _))).2];rfl),ih λ q c=>h q (.tail _ c)];rfl
 have k:=a (rdsF rs t.x) λ r d=>(List.mem_filter.mp (List.mem_filter.mp d).1).2;unfold spans;cases h:t.e with
 | none=>rw [C9 rfl,k];rfl
 | some e=>rw [N6 (f:=λ x:Int×Option Int=>x.2) (b:=e) rfl,k];rfl
theorem zcq {a b:Int} {ns:List Int} (h:MinI a ns) (h':MinI b ns):a=b:=Int.le_antisymm (h.2 b h'.1) (h'.2 a h.1)
theorem z5o {rs:List Rc} (nd:((rs.filter isW).map (λ r=>intV r.x)).Nodup) (n0:(0:Int)∉(rs.filter isW).map (λ r=>intV r.x)):((ents rs).map λ t=>(Sum.inl t.x:Key)).Nodup:=by
 have e:(ents rs).map (λ t=>(Sum.inl t.x:Key))=((0:Int) :: (rs.filter isW).map (λ r=>intV r.x)).map Sum.inl:=by unfold ents;rw [O0,O3,O0,O3];rfl
 rw [e];unfold List.Nodup;rw [L6];exact (List.nodup_cons.mpr ⟨n0,nd⟩:List.Nodup _).imp λ h z=>h (W2 z)
end
section
def PosOf (rs:List Rc) (x p:Int):Prop:=(x=0/\p < 0)\/∃(i:Nat) (r:Rc),rs[i]? = some r/\(p=r.b\/∃e:Nat,r.e=some e/\p=(e:Int))/\((isW r=true/\intV r.x=x)\/(isRE r=true/\intV r.a=x))
theorem zcn {n:Nat} {rs:List Rc} (ps:PosI n rs) {x x' p:Int} (h:PosOf rs x p) (h':PosOf rs x' p):x=x':=by
 rcases h with ⟨rfl,h⟩|⟨i,r,hi,hp,hx⟩
 ·rcases h' with ⟨rfl,_⟩|⟨j,q,hj,hp',_⟩
  ·rfl
  ·rcases hp' with z|⟨e,_,z⟩<;>omega
 ·rcases h' with ⟨rfl,h'⟩|⟨j,q,hj,hp',hx'⟩
  ·rcases hp with z|⟨e,_,z⟩<;>omega
  ·have d:i=j:=by
    rcases hp with z|⟨e,he,z⟩
    ·rcases hp' with y|⟨f,hf,y⟩
     ·exact ps.bb i j r q hi hj (by omega)
     ·exact absurd (by omega) (ps.be r (d0 hi) q (d0 hj) f hf)
    ·rcases hp' with y|⟨f,hf,y⟩
     ·exact absurd (by omega) (ps.be q (d0 hj) r (d0 hi) e he)
     ·have:e=f:=by omega
      subst this;exact ps.ee i j r q e hi hj he hf
   subst d;rw [hi] at hj;cases hj;have c:¬ (isW r=true/\isRE r=true):=λ ⟨a,b⟩=>z0h ((re_end b).1.symm.trans (of_decide_eq_true a));rcases hx with ⟨a,rfl⟩|⟨a,rfl⟩
   ·rcases hx' with ⟨_,b⟩|⟨b,_⟩
    ·exact b
    ·exact absurd ⟨a,b⟩ c
   ·rcases hx' with ⟨b,_⟩|⟨_,b⟩
    ·exact absurd ⟨b,a⟩ c
    ·exact b
theorem z8x {rs:List Rc} {t:Ent} (ht:t∈ents rs) {s:Int×Option Int} (hs:s∈spans rs t):PosOf rs t.x s.1/\∀e,s.2=some e->PosOf rs t.x e:=by
 rcases List.mem_cons.mp hs with rfl|hs
 ·rcases ents_mem.mp ht with rfl|⟨w,hw,hi,rfl⟩
  ·exact ⟨.inl ⟨rfl,by decide⟩,λ e a=>by cases a;exact .inl ⟨rfl,by decide⟩⟩
  ·obtain ⟨i,h⟩:=List.mem_iff_getElem?.mp hw;refine ⟨.inr ⟨i,w,h,.inl rfl,.inl ⟨hi,rfl⟩⟩,λ e a=>?_⟩;unfold entW at a;cases hk:w.e with
   | none=>rw [hk] at a;cases a
   | some k=>rw [hk] at a;cases a;exact .inr ⟨i,w,h,.inr ⟨k,hk,rfl⟩,.inl ⟨hi,rfl⟩⟩
 ·obtain ⟨r,g,rfl⟩:=List.mem_map.mp hs;obtain ⟨f,b⟩:=List.mem_filter.mp g;obtain ⟨d,c⟩:=List.mem_filter.mp f;have b:=of_decide_eq_true b;obtain ⟨i,h⟩:=List.mem_iff_getElem?.mp d;refine ⟨.inr ⟨i,r,h,.inl rfl,.inr ⟨c,b⟩⟩,λ e a=>?_⟩;unfold spR at a;cases hk:r.e with
  | none=>rw [hk] at a;cases a
  | some k=>rw [hk] at a;cases a;exact .inr ⟨i,r,h,.inr ⟨k,hk,rfl⟩,.inr ⟨c,b⟩⟩
theorem zn_pos {rs:List Rc} {t:Ent} {z:Zt} (ht:t∈ents rs) (h:ZnR rs t z):PosOf rs t.x z.lo:=by
 obtain ⟨l,g,b,c,rfl⟩:=h;unfold zOf;split
 ·obtain ⟨s,a,e⟩:=List.mem_filterMap.mp b.1;exact (z8x ht a).2 l e
 ·obtain ⟨s,a,e⟩:=List.mem_map.mp c.1;rw [<-e];exact (z8x ht a).1
theorem zd5 {a b:Int} {ns:List Int} (h:MaxI a ns) (h':MaxI b ns):a=b:=Int.le_antisymm (h'.2 a h.1) (h.2 b h'.1)
theorem zc9 {rs:List Rc} {t:Ent} {z z':Zt} (h:ZnR rs t z) (h':ZnR rs t z'):z=z':=by obtain ⟨l,g,b,d,rfl⟩:=h;obtain ⟨f,e,a,c,rfl⟩:=h';rw [zcq b a,zd5 d c]
theorem ents_x {rs:List Rc} (nd:((ents rs).map λ t=>(Sum.inl t.x:Key)).Nodup) {t t':Ent} (h:t∈ents rs) (h':t'∈ents rs) (e:t.x=t'.x):t=t':=by
 obtain ⟨i,c⟩:=List.mem_iff_getElem?.mp h;obtain ⟨j,a⟩:=List.mem_iff_getElem?.mp h';obtain ⟨g,f⟩:=List.getElem?_eq_some_iff.mp c;obtain ⟨b,k⟩:=List.getElem?_eq_some_iff.mp a;have d:=List.pairwise_iff_getElem.mp nd;rcases Q3 i j with z|z|z
 ·refine absurd ?_ (d i j (by rw [A0];exact g) (by rw [A0];exact b) z);rw [n4,n4,f,k,e]
 ·subst z;rw [c] at a;exact T0 a
 ·refine absurd ?_ (d j i (by rw [A0];exact b) (by rw [A0];exact g) z);rw [n4,n4,f,k,e]
theorem z7c {α β:Type} {R:α->β->Prop} :∀{xs:List α} {ys:List β},All2 R xs ys->∀y∈ys,∃x∈xs,R x y
 | _,_,.cons a r,y,h=>by
  rcases List.mem_cons.mp h with rfl|h
  ·exact ⟨_,.head _,a⟩
  ·obtain ⟨x,b,c⟩:=z7c r y h;exact ⟨x,.tail _ b,c⟩
end
section
def onP (z z':Zt):Prop:=z.on=true/\z'.on=true/\z.lo < z'.lo/\z'.lo < z.hi
def inP (z z':Zt):Prop:=z.on=false/\z'.on=true/\z'.lo < z.lo/\z.hi < z'.hi
noncomputable def kdP:Bool->Zt->Zt->Prop
 | true=>onP
 | false=>inP
def FstP (P:Zt->Zt->Prop) (zl:List Zt) (z z':Zt):Prop:=z∈zl/\z'∈zl/\P z z'/\∀y y',y∈zl->y'∈zl->P y y'->z.lo < y.lo\/(z.lo=y.lo/\z'.lo<=y'.lo)
def NoP (P:Zt->Zt->Prop) (zl:List Zt):Prop:=∀y y',y∈zl->y'∈zl->¬ P y y'
inductive Oc
 | lost (n:Nat)
 | pr (k:Bool) (x y:Int)
 | non
def LosB (rs:List Rc) (r:Rc):Prop:=isRE r=true/\∀t∈ents rs,t.x=intV r.a->((r.e.getD 0:Nat):Int) < t.b
def FstL (rs:List Rc) (n:Nat):Prop:=∃r,rs[n]? = some r/\LosB rs r/\∀(m:Nat) (q:Rc),m < n->rs[m]? = some q->¬ LosB rs q
def NoL (rs:List Rc):Prop:=∀r∈rs,¬ LosB rs r
noncomputable def PrOk (zl:List Zt):Oc->Prop
 | .lost _=>False
 | .pr true x y=>∃z z',FstP onP zl z z'/\x=z.x/\y=z'.x
 | .pr false x y=>NoP onP zl/\∃z z',FstP inP zl z z'/\x=z.x/\y=z'.x
 | .non=>NoP onP zl/\NoP inP zl
noncomputable def OcOk (rs:List Rc):Oc->Prop
 | .lost n=>FstL rs n
 | o=>NoL rs/\∃zl,ZonS rs zl/\PrOk zl o
noncomputable def OcV (H:Hp):Oc->V->Prop
 | .lost n,v=>∃p,v=.ref p/\H p=some (.tup [.str "lost",.int (n:Nat)])
 | .pr k x y,v=>∃p,v=.ref p/\H p=some (.tup [.str (onS k),.int x,.int y])
 | .non,v=>v=.non
theorem zon_lo {n:Nat} {rs:List Rc} (ps:PosI n rs) (nd:((rs.filter isW).map (λ r=>intV r.x)).Nodup) (n0:(0:Int)∉(rs.filter isW).map (λ r=>intV r.x)) {zl:List Zt} (h:ZonS rs zl) :∀z∈zl,∀z'∈zl,z.lo=z'.lo->z=z':=λ z l z' o e=>by obtain ⟨a,i,f,q⟩:=h;obtain ⟨t,k,g⟩:=z7c i z (f.mem_iff.mp l);obtain ⟨s,p,j⟩:=z7c i z' (f.mem_iff.mp o);have b:=(List.mem_filter.mp k).1;have d:=(List.mem_filter.mp p).1;have c:=zn_pos b g;have m:=zn_pos d j;rw [e] at c;have:=ents_x (z5o nd n0) b d (zcn ps c m);subst this;exact zc9 g j
theorem zdg {rs:List Rc} {n:Nat} (h:FstL rs n) (h':NoL rs):False:=by obtain ⟨r,a,b,c⟩:=h;exact h' r (d0 a) b
theorem fst_no {P:Zt->Zt->Prop} {zl:List Zt} {z z':Zt} (h:FstP P zl z z') (h':NoP P zl):False:=h' z z' h.1 h.2.1 h.2.2.1
end
section
variable {P:Program} {w:Z0} {mg:Str->Option Value} {base:Heap}
noncomputable def colB (z z':Zt):Bool:=if z.on=true then decide (z.lo < z'.lo) && decide (z'.lo < z.hi) else decide (z'.lo < z.lo) && decide (z.hi < z'.hi)
def z5a (K:c0):Sp:=λ vs H Q _=>∃z z' y y',vs=[y,y']/\ZtV H z y/\ZtV H z' y'/\Q (.bl (colB z z')) H
theorem za4 (T:TX (kx w) mg):Fo P w mg base CX0 1 119 y0y ["zone","other"] (z5a (kx w)):=by
 refine (z4i w.params).ok z9x (λ g H Q E h=>?_) (λ l A k s H g Q E m h=>?_)
 ·obtain ⟨z,b,y,i,rfl,_⟩:=h;rfl
 ·obtain ⟨z,b,y,i,rfl,⟨p,rfl,c⟩,⟨f,rfl,d⟩,q⟩:=h;refine ⟨_,(z05 (ps_if (z07 opEq (pe_ix ix_seq (pv 0) pe_int (λ _ _=>rfl)) pe_str (nomark _))
   (z06 (ps_ret (pe_and (z55 op_lt (pe_ix ix_seq (pv 1) pe_int (λ _ _=>rfl)) (pe_ix ix_seq (pv 0) pe_int (λ _ _=>rfl)) (nomark _)) (pe_one (z55 op_lt (pe_ix ix_seq (pv 0) pe_int (λ _ _=>rfl)) (pe_ix ix_seq (pv 1) pe_int (λ _ _=>rfl)) (nomark _))))))
   z0g)
   (z06 (ps_ret (zce op_lt op_lt (pe_ix ix_seq (pv 0) pe_int (λ _ _=>rfl)) (pe_ix ix_seq (pv 1) pe_int (λ _ _=>rfl)) (pe_ix ix_seq (pv 0) pe_int (λ _ _=>rfl)))))),?_⟩
  have c:=SqT.of (K:=KX w.params) c;have d:=SqT.of (K:=KX w.params) d;refine sq_if ⟨_,rfl,.inr (.inl ⟨p,_,3,.str (onS z.on),rfl,rfl,c,z04 (j:=3) rfl,rfl,_,rfl,?_⟩)⟩;cases hz:z.on with
  | true=>
   refine iteK (t_nx ?_);refine ⟨_,rfl,.inr (.inl ⟨p,_,1,.int z.lo,rfl,rfl,c,z04 (j:=1) rfl,_,rfl,.inr (.inl ⟨f,_,1,.int b.lo,rfl,rfl,d,z04 (j:=1) rfl,_,_,rfl,rfl,_,rfl,ite2 (λ a=>?_) λ a=>?_⟩)⟩)⟩
   ·have e:colB z b=decide (b.lo < z.hi):=by unfold colB;rw [hz,if_pos rfl,a,Bool.true_and]
    rw [e] at q;exact ⟨_,rfl,.inr (.inl ⟨p,_,2,.int z.hi,rfl,rfl,c,z04 (j:=2) rfl,_,_,rfl,rfl,q⟩)⟩
   ·have e:colB z b=false:=by unfold colB;rw [hz,if_pos rfl,Bool.eq_false_iff.mpr a,L7]
    rw [e] at q;exact q
  | false=>
   refine iteP (by decide +kernel) ?_;refine ⟨_,rfl,.inr (.inl ⟨f,_,1,.int b.lo,rfl,rfl,d,z04 (j:=1) rfl,_,rfl,.inr (.inl ⟨p,_,1,.int z.lo,rfl,rfl,c,z04 (j:=1) rfl,_,_,rfl,rfl,_,rfl,ite2 (λ a=>?_) λ a=>?_⟩)⟩)⟩
   ·have e:colB z b=decide (z.hi < b.hi):=by unfold colB;rw [hz,if_neg (by decide),a,Bool.true_and]
    rw [e] at q;exact ⟨_,rfl,.inr (.inl ⟨p,_,2,.int z.hi,rfl,rfl,c,z04 (j:=2) rfl,_,rfl,.inr (.inl ⟨f,_,2,.int b.hi,rfl,rfl,d,z04 (j:=2) rfl,_,_,rfl,rfl,q⟩)⟩)⟩
   ·have e:colB z b=false:=by unfold colB;rw [hz,if_neg (by decide),Bool.eq_false_iff.mpr a,L7]
    rw [e] at q;exact q
def z60 (K:c0):Sp:=λ vs H Q _=>∃l zl ys b,vs=[.ref l,.str (onS b)]/\H l=some (.lst ys)/\All2 (ZtV H) zl ys/\zl.length<=100/\∀a ws H',Same H H'->H' a=some (.lst ws)->All2 (ZtV H') (zl.filter λ z=>z.on == b) ws->Q (.ref a) H'
theorem on_eq (b c:Bool):decide (V.str (onS b)=V.str (onS c))=(b == c):=by cases b<;>cases c<;>decide +kernel
theorem z9z (T:TX (kx w) mg):Fo P w mg base CX0 1 112 y0x ["found","kind"] (z60 (kx w)):=by
 refine (z4z w.params).ok zac (λ D H Q E h=>?_) (λ W A V s H D Q E k h=>?_)
 ·obtain ⟨l,d,x,b,rfl,_⟩:=h;rfl
 ·obtain ⟨l,d,x,b,rfl,L,t,a0,q⟩:=h;refine ⟨_,(z06 (ps_ret (pe_cg (xs:=["zone"]) (g:=gName 0) (fr:=[(1,"kind")]) (z0r (pv 0)) (λ _ _ _ _ _=>(pg_cn (N:=["zone","kind"]) 0)) (λ _ _ _ _ _=>(pf_one (z07 opEq (pe_ix (z0k (K:=KX w.params) rfl) (pv 0) pe_int (λ _ _=>rfl)) (pv 1) (nomark _)))) (λ _ _ _ _ _=>(pv 0))))),?_⟩;have I:=z03 t;refine sq_ret ?_;refine z17 (K:=KX w.params) (a:=l) (xs:=x) (H1:=H) (λ i=>(d[i]?.map λ z=>z.on == b).getD false) (λ i y S=>∀z,d[i]? = some z->ZtV S z y) (λ _ _ _ _ s z r k=>(z r k).same s) (λ R h=>⟨_,rfl,h⟩) (SqL.of L) (D0 (m:=100) (by omega) (by decide)) (λ i Z v H1 e O KT X u C=>?_) λ G H1 n e J c=>?_
  ·obtain ⟨z,U,p,rfl,F⟩:=z09 t O;have f:=e _ _ F;rw [U] at u C;refine ⟨[some (.ref p)],rfl,rfl,⟨_,rfl,.inr (.inl ⟨p,_,3,.str (onS z.on),rfl,rfl,SqT.of f,z04 (j:=3) rfl,_,rfl,rfl,_,rfl,?_⟩)⟩⟩;refine ite2 (λ y=>⟨_,rfl,u ((on_eq _ _).symm.trans y) _ _ (Same.refl _) λ Y M=>by cases M;exact ⟨p,rfl,f⟩⟩) λ y=>C ((on_eq _ _).symm.trans (Bool.eq_false_iff.mpr y)) _ (Same.refl _)
  rw [I] at c;have c:=z4k (q:=λ z:Zt=>z.on == b) _ (y0 _) c;rw [P5] at c;have B:=Same.upd (o:=.lst n) J;exact q G n _ (e.trans B) z02 (z01 (λ _ _ z=>z.same B) c)
theorem zn_x {rs:List Rc} {t:Ent} {z:Zt} (h:ZnR rs t z):z.x=t.x:=by obtain ⟨l,g,_,_,rfl⟩:=h;unfold zOf;split<;>rfl
theorem zon_lt {n:Nat} {rs:List Rc} (ps:PosI n rs) (nd:((rs.filter isW).map (λ r=>intV r.x)).Nodup) (n0:(0:Int)∉(rs.filter isW).map (λ r=>intV r.x)) {zl:List Zt} (h:ZonS rs zl):zl.Pairwise λ z z'=>z.lo < z'.lo:=by
 have s:=zon_lo ps nd n0 h;obtain ⟨a,u,k,p⟩:=h;have e :∀{d:List Ent} {a:List Zt},All2 (ZnR rs) d a->(a.map λ z=>(Sum.inl z.x:Key))=d.map λ t=>(Sum.inl t.x:Key):=by
  intro d a h;induction h with
  | nil=>rfl
  | cons a r ih=>rw [O0,O0,ih,zn_x a]
 have o:(a.map λ z=>(Sum.inl z.x:Key)).Nodup:=by rw [e u];exact (z5o nd n0).sublist ((List.filter_sublist).map _)
 have q:(zl.map λ z=>(Sum.inl z.x:Key)).Nodup:=(k.map _).nodup_iff.mpr o;have m:=List.pairwise_iff_getElem.mp q;have l:=List.pairwise_iff_getElem.mp p;rw [List.pairwise_iff_getElem];intro i j b c f;have g:=m i j (by rw [A0];exact b) (by rw [A0];exact c) f;rw [n4,n4] at g;have w:=l i j b c f;have v:zl[i].lo≠zl[j].lo:=λ z=>g (by rw [s _ (Y4 b) _ (Y4 c) z]);omega
theorem pw_lo {xs:List Zt} (pw:xs.Pairwise λ z z'=>z.lo < z'.lo) {i j:Nat} {z y:Zt} (hi:xs[i]? = some z) (hj:xs[j]? = some y) (h:i < j):z.lo < y.lo:=by
 obtain ⟨c,b⟩:=List.getElem?_eq_some_iff.mp hi;obtain ⟨a,d⟩:=List.getElem?_eq_some_iff.mp hj;have:=List.pairwise_iff_getElem.mp pw i j c a h
 rwa [b,d] at this
theorem kd_on {b:Bool} {z z':Zt} (h:kdP b z z'):z.on=b/\z'.on=true:=by
 cases b with
 | true=>exact ⟨h.1,h.2.1⟩
 | false=>exact ⟨h.1,h.2.1⟩
theorem zds {b:Bool} {z z':Zt} (h:z.on=b) (h':z'.on=true):colB z z'=true↔kdP b z z':=by
 unfold colB;subst h;cases hz:z.on with
 | true=>rw [if_pos rfl,N3,decide_eq_true_iff,decide_eq_true_iff];exact ⟨λ ⟨a,b⟩=>⟨hz,h',a,b⟩,λ ⟨_,_,a,b⟩=>⟨a,b⟩⟩
 | false=>rw [if_neg (by decide),N3,decide_eq_true_iff,decide_eq_true_iff];exact ⟨λ ⟨a,b⟩=>⟨hz,h',a,b⟩,λ ⟨_,_,a,b⟩=>⟨a,b⟩⟩
theorem mem_kd {b:Bool} {zl:List Zt} {y:Zt} (h:y∈zl) (e:y.on=b) :∃i:Nat,(zl.filter λ z=>z.on == b)[i]? = some y:=List.mem_iff_getElem?.mp (List.mem_filter.mpr ⟨h,beq_iff_eq.mpr e⟩)
def z2z (K:c0):Sp:=λ vs H Q _=>∃l zl ys,vs=[.ref l]/\H l=some (.lst ys)/\All2 (ZtV H) zl ys/\zl.length<=100/\(zl.Pairwise λ z z'=>z.lo < z'.lo)/\∀o v H',Same H H'->PrOk zl o->OcV H' o v->Q v H'
theorem z5z (T:TX (kx w) mg) (c0:Ca P w mg base "of_kind" ["found","kind"] 1 (z60 (kx w))) (c1:Ca P w mg base "collide" ["zone","other"] 1 (z5a (kx w))):Fo P w mg base CX0 2 107 y09 ["found"] (z2z (kx w)):=by
 refine (z1y w.params).ok sc_first_pair (λ vs H Q E h=>?_) (λ b6 A b5 s H vs Q E J h=>?_)
 ·obtain ⟨l,e,M,rfl,_⟩:=h;rfl
 ·obtain ⟨l,e,M,rfl,el,S,a6,pw,q⟩:=h;refine ⟨_,(z05 (ps_for X1 rfl (pi_tup (pe_tup (z00 pe_str (z00 pe_str pa_nil)))) (z0f (i:=1) sc_first_pair.nd rfl (S0 rfl))
   (z06 (ps_for X1 rfl (z0r (pe_cal c0 (J.mono (by decide)) rfl (z00 (pv 0) (z00 (pv 1) pa_nil)))) (z0f (i:=2) sc_first_pair.nd rfl (S0 rfl))
   (z06 (ps_for X1 rfl (z0r (pe_cal c0 (J.mono (by decide)) rfl (z00 (pv 0) (z00 pe_str pa_nil)))) (z0f (i:=3) sc_first_pair.nd rfl (S0 rfl))
   (z06 (ps_if (pt_val (pe_cal c1 (J.mono (by decide)) rfl (z00 (pv 2) (z00 (pv 3) pa_nil))) (λ _=>rfl))
   (z06 (ps_ret (pe_tup (z00 (pv 1) (z00 (pe_ix ix_seq (pv 2) pe_int (λ _ _=>rfl)) (z00 (pe_ix ix_seq (pv 3) pe_int (λ _ _=>rfl)) pa_nil))))))
   z0g)))))))
   (z06 (ps_ret pe_non))),?_⟩
  refine ⟨w_2,λ tb b3=>?_⟩;obtain ⟨H1,v_,R,W⟩:=newA (.tup [.str "on",.str "in"]) b3;rw [<-v_];refine ⟨tb,rfl,⟨_,SqT.of W⟩,?_⟩;refine zea (K:=KX w.params) (a:=tb) (xs:=[.str "on",.str "in"]) (λ i σ f=>Same H1 f/\(1<=i->NoP onP e)/\(2<=i->NoP inP e)/\∃x1 x2 x3,σ=[some (.ref l),x1,x2,x3]) ⟨Same.refl _,λ z=>absurd z (by decide),λ z=>absurd z (by decide),_,_,_,rfl⟩ (λ _ σ f _ h=>SqT.of (h.1 _ _ W)) ?_ ?_;rotate_left
  ·rintro σ H2 ⟨s2,n1,n2,x1,x2,x3,rfl⟩;exact q .non .non _ (R.trans s2) ⟨n1 (by decide),n2 (by decide)⟩ rfl
  rintro i y σ H2 d ⟨s2,n1,n2,x1,x2,x3,rfl⟩;obtain ⟨b,rfl,b0,a5⟩ :∃b,y=V.str (onS b)/\(b=true->i=0)/\(b=false->i=1):=by
   match i,d with
   | 0,d=>cases d;exact ⟨true,rfl,λ _=>rfl,(λ z=>by cases z)⟩
   | 1,d=>cases d;exact ⟨false,rfl,(λ z=>by cases z),λ _=>rfl⟩
  have N:=R.trans s2;refine g_name ?_;refine ⟨_,rfl,_,rfl,l,e,M,b,rfl,N _ _ el,z01 (λ _ _ z=>z.same N) S,a6,λ a ws H3 s3 ea aw=>⟨a,rfl,⟨_,SqL.of ea⟩,?_⟩⟩;have u3:=N.trans s3;have b2:(e.filter λ z=>z.on == b).Pairwise λ z z'=>z.lo < z'.lo:=pw.filter _;have b1:(e.filter λ z=>z.on == true).Pairwise λ z z'=>z.lo < z'.lo:=pw.filter _;refine z1c (K:=KX w.params) (a:=a) (xs:=ws) (λ j σ f=>Same H3 f/\(∀(o:Nat) (z:Zt),o < j->(e.filter λ z=>z.on == b)[o]? = some z->∀z'∈e,¬ kdP b z z')/\∃x2 x3,σ=[some (.ref l),some (.str (onS b)),x2,x3]) ⟨Same.refl _,λ o z h=>absurd h (O2 _),_,_,rfl⟩ (λ _ σ f _ h=>SqL.of (h.1 _ _ ea)) ?_ ?_;rotate_left
  ·rintro σ H4 ⟨s4,nb,x2,x3,rfl⟩;have no:NoP (kdP b) e:=λ y C d F k=>by obtain ⟨j,hj⟩:=mem_kd d (kd_on k).1;exact nb j y (by rw [z03 aw];exact z14 hj) hj C F k
   refine ⟨s2.trans (s3.trans s4),λ h=>?_,λ h=>?_,_,_,_,rfl⟩
   ·cases b with
    | true=>exact no
    | false=>exact n1 (by rw [a5 rfl];decide)
   ·cases b with
    | true=>have:=b0 rfl;omega
    | false=>exact no
  rintro j v σ H4 hv ⟨s4,nb,x2,x3,rfl⟩;obtain ⟨z,B,zv⟩:=z09 aw hv;have a3:=List.mem_filter.mp (d0 B);have L:=u3.trans s4;refine g_name ?_;refine ⟨_,rfl,l,e,M,true,rfl,L _ _ el,z01 (λ _ _ z=>z.same L) S,a6,λ Z a8 H5 I X a0=>⟨Z,rfl,⟨_,SqL.of X⟩,?_⟩⟩;refine z1c (K:=KX w.params) (a:=Z) (xs:=a8) (λ k σ f=>Same H5 f/\(∀(r:Nat) (z':Zt),r < k->(e.filter λ z=>z.on == true)[r]? = some z'->¬ kdP b z z')/\∃x3,σ=[some (.ref l),some (.str (onS b)),some v,x3]) ⟨Same.refl _,λ r z' h=>absurd h (O2 _),_,rfl⟩ (λ _ σ f _ h=>SqL.of (h.1 _ _ X)) ?_ ?_;rotate_left
  ·rintro σ H6 ⟨s6,nk,x3,rfl⟩;refine ⟨s4.trans (I.trans s6),λ o y h d z' n k=>?_,_,_,rfl⟩;rcases Nat.lt_succ_iff_lt_or_eq.mp h with h|rfl
   ·exact nb o y h d z' n k
   ·rw [B] at d;cases d;obtain ⟨m,g⟩:=mem_kd n (kd_on k).2;exact nk m z' (by rw [z03 a0];exact z14 g) g k
  rintro k v' σ H6 a9 ⟨s6,nk,x3,rfl⟩;obtain ⟨z',n,a7⟩:=z09 a0 a9;have a4:=List.mem_filter.mp (d0 n);have U:=zv.same (s4.trans (I.trans s6));have a1:=a7.same s6;have O:=zds (b:=b) (z:=z) (z':=z') (beq_iff_eq.mp a3.2) (beq_iff_eq.mp a4.2);refine g_name ?_;refine z9b ⟨_,rfl,_,rfl,z,z',v,v',rfl,U,a1,_,rfl,ite2 (λ c=>?_) λ c=>?_⟩
  ·have u:=O.mp c;have Y:FstP (kdP b) e z z':=⟨a3.1,a4.1,u,λ y C d F D=>by
    obtain ⟨m,g⟩:=mem_kd d (kd_on D).1;rcases Q3 m j with t|t|t
    ·exact absurd D (nb m y t g C F)
    ·subst t;rw [B] at g;cases g;refine .inr ⟨rfl,?_⟩;obtain ⟨m',G⟩:=mem_kd F (kd_on D).2;rcases Q3 m' k with t|t|t
     ·exact absurd D (nk m' C t G)
     ·subst t;rw [n] at G;cases G;exact Int.le_refl _
     ·exact Int.le_of_lt (pw_lo b1 n G t)
    ·exact .inl (pw_lo b2 B g t)⟩
   obtain ⟨p,rfl,ep⟩:=U;obtain ⟨p',rfl,b4⟩:=a1;refine ⟨_,rfl,_,rfl,.inr (.inl ⟨p,_,0,.int z.x,rfl,rfl,SqT.of ep,z04 (j:=0) rfl,_,rfl,.inr (.inl ⟨p',_,0,.int z'.x,rfl,rfl,SqT.of b4,z04 (j:=0) rfl,w_3,λ t ht=>?_⟩)⟩)⟩;refine q (.pr b z.x z'.x) (.ref t) _ (L.trans (I.trans (s6.trans (Same.upd ht)))) ?_ ⟨t,rfl,z02⟩;cases b with
   | true=>exact ⟨z,z',Y,rfl,rfl⟩
   | false=>exact ⟨n1 (by rw [a5 rfl];decide),z,z',Y,rfl,rfl⟩
  ·refine ⟨s6,λ r y h d u=>?_,_,rfl⟩;rcases Nat.lt_succ_iff_lt_or_eq.mp h with h|rfl
   ·exact nk r y h d u
   ·rw [n] at d;cases d;exact c (O.mpr u)
theorem val_in :∀{kvs:List (Key×V)} {k:Key} {v:V},(kvs.map (·.1)).Nodup->(k,v)∈kvs->valV kvs k=some v
 | (k',v') :: kvs,k,v,nd,h=>by
  rw [O0,n5] at nd;rcases List.mem_cons.mp h with e|h
  ·cases e;exact z0m rfl
  ·rw [z0o (λ e=>nd.1 (by have e:k'=k:=e;subst e;exact List.mem_map.mpr ⟨_,h,rfl⟩))];exact val_in nd.2 h
theorem zdh {K:c0} {H:Hp} {rs:List Rc} {kvs:List (Key×V)} (wk:All2 (EntAt K H) (ents rs) kvs) (nd:((ents rs).map λ t=>(Sum.inl t.x:Key)).Nodup) (x:Int):(valV kvs (.inl x)=none/\∀t∈ents rs,t.x≠x)\/∃t pw,t∈ents rs/\t.x=x/\valV kvs (.inl x)=some (.ref pw)/\SqT K H pw [.int t.b,endO t.e]:=by
 by_cases h :∃t∈ents rs,t.x=x
 ·obtain ⟨t,a,rfl⟩:=h;obtain ⟨i,f⟩:=List.mem_iff_getElem?.mp a;obtain ⟨j,g,c,pw,d,l⟩:=z38 wk f;obtain ⟨k,v⟩:=j;have c:k=.inl t.x:=c;have d:v=.ref pw:=d;subst c d;exact .inr ⟨t,pw,a,rfl,val_in (by rw [z4f wk];exact nd) (d0 g),l⟩
 ·refine .inl ⟨?_,λ t a e=>h ⟨t,a,e⟩⟩;cases z:valV kvs (.inl x) with
  | none=>rfl
  | some v=>have:=(z1t (kvs:=kvs) (k:=.inl x)).mp (by rw [z];rfl);rw [z4f wk] at this;obtain ⟨t,a,e⟩:=List.mem_map.mp this;exact absurd ⟨t,a,W2 e⟩ h
theorem zcc {rs:List Rc} {r:Rc} (h:isRE r=true) (n :∀t∈ents rs,t.x≠intV r.a):LosB rs r:=⟨h,λ t b e=>absurd e (n t b)⟩
theorem zcf {rs:List Rc} {r:Rc} (nd:((ents rs).map λ t=>(Sum.inl t.x:Key)).Nodup) (h:isRE r=true) {t:Ent} (ht:t∈ents rs) (e:t.x=intV r.a):LosB rs r↔((r.e.getD 0:Nat):Int) < t.b:=⟨λ l=>l.2 t ht e,λ l=>⟨h,λ f c d=>by rw [ents_x nd c ht (d.trans e.symm)];exact l⟩⟩
theorem idx_lt {n k i m:Nat} {p:Nat->Bool} (h:((U0 n).filter p)[k]? = some i) (hm:m < i) (hp:p m=true) :∃k',k' < k/\((U0 n).filter p)[k']? = some m:=by
 have d:=List.mem_range.mp (List.mem_filter.mp (d0 h)).1;obtain ⟨k',b⟩:=List.mem_iff_getElem?.mp (List.mem_filter.mpr ⟨List.mem_range.mpr (A6 hm d),hp⟩);refine ⟨k',?_,b⟩;have e:=List.pairwise_iff_getElem.mp ((B5 (n:=n)).filter p);obtain ⟨g,a⟩:=List.getElem?_eq_some_iff.mp h;obtain ⟨f,c⟩:=List.getElem?_eq_some_iff.mp b;rcases Q3 k' k with z|z|z
 ·exact z
 ·subst z;rw [a] at c;omega
 ·have:=e k k' g f z;rw [a,c] at this;omega
theorem oc_of {rs:List Rc} {zl:List Zt} {o:Oc} (n:NoL rs) (z:ZonS rs zl) (p:PrOk zl o):OcOk rs o:=by
 cases o with
 | lost _=>exact p.elim
 | pr k x y=>exact ⟨n,zl,z,p⟩
 | non=>exact ⟨n,zl,z,p⟩
theorem zde {rs:List Rc} {zl:List Zt} (h:ZonS rs zl):zl.length<=rs.length + 1:=by obtain ⟨a,c,b,_⟩:=h;rw [b.length_eq,z03 c];exact D0 (E1 _ _) (z37 rs)
def z3b (K:c0):Sp:=λ vs H Q _=>∃t nm wr es ys,vs=[.ref t]/\TalR K H t nm wr es ys/\LamH H/\∀o v H',SameB tbT H H'->LamH H'->OcOk (dAll 0 [] es) o->OcV H' o v->Q v H'
theorem z72 (T:TX (kx w) mg) (c0:Ca P w mg base "plain_deeds" ["tale"] 4 (z10 (kx w))) (c1:Ca P w mg base "writers" ["told"] 1 (z19 (kx w))) (c2:Ca P w mg base "ended_reads" ["told"] 1 (z0p (kx w))) (c3:Ca P w mg base "zones" ["tale"] 6 (za3 (kx w))) (c4:Ca P w mg base "first_pair" ["found"] 2 (z2z (kx w))):Fo P w mg base CX0 7 100 y0h ["tale"] (z3b (kx w)):=by
 refine (z2s w.params).ok sc_collision (λ vs H Q E h=>?_) (λ c5 A b9 s H vs Q E c h=>?_)
 ·obtain ⟨t,nm,M,J,ys,rfl,_⟩:=h;rfl
 ·obtain ⟨t,nm,M,J,ys,rfl,O,lm,q⟩:=h;refine ⟨_,(z05 (ps_set (i:=1) sc_collision.nd rfl (S0 rfl) (pe_cal c0 (c.mono (by decide)) rfl (z00 (pv 0) pa_nil)))
   (z05 (ps_set (i:=2) sc_collision.nd rfl (S0 rfl) (pe_cal c1 (c.mono (by decide)) rfl (z00 (pv 1) pa_nil)))
   (z05 (ps_for X1 rfl (z0r (pe_cal c2 (c.mono (by decide)) rfl (z00 (pv 1) pa_nil))) (pg_tup rfl (z0b (z0f (i:=3) sc_collision.nd rfl (S0 rfl)) (z0b (z0f (i:=4) sc_collision.nd rfl (S0 rfl)) z11)))
   (z06 (ps_if (PW.pt (pw_or (pt_cmp (z7e (hu_of c) (pe_ix ix_seq (pv 4) pe_int (λ _ _=>rfl)) (pv 2)) (by with_unfolding_all rfl)) (pw_or1 (z07 op_lt (pe_ix ix_seq (pv 4) pe_int (λ _ _=>rfl)) (pe_ix ix_seq (z1g (hu_of c) (pv 2) (pe_ix ix_seq (pv 4) pe_int (λ _ _=>rfl)) (λ _ _=>rfl)) pe_int (λ _ _=>rfl)) (nomark _)))))
   (z06 (ps_ret (pe_tup (z00 pe_str (z00 (pv 3) pa_nil)))))
   z0g)))
   (z06 (ps_ret (pe_cal c4 (c.mono (by decide)) rfl (z00 (pe_cal c3 (c.mono (by decide)) rfl (z00 (pv 0) pa_nil)) pa_nil))))))),?_⟩
  have ps:=PosI.all J PosI.nil;have Y:=O.twg.nd;have R:=O.twg.n0;have b3:(dAll 0 [] J).length<=62:=D0 z35 (by simpa using O.ln);refine z0a ⟨_,rfl,t,nm,M,J,ys,rfl,O,λ l zs H1 s1 tl=>g_name ?_⟩;generalize hrs:dAll 0 [] J=rs at tl Y R q b3 ps;have a8:=z5o Y R;refine z0a ⟨_,rfl,l,zs,rs,M,rfl,tl,Y,R,λ d a0 H2 s2 hd ed wk=>g_name ?_⟩;have u2:=s1.trans s2;have a3:=tl.same s2;refine ⟨_,rfl,l,zs,rs,M,rfl,a3,λ la ws H3 S a9 aw=>⟨la,rfl,⟨_,SqL.of a9⟩,?_⟩⟩;have u3:=u2.trans S;have a7:=a3.same S;have b0:All2 (EntAt (kx w) H3) (ents rs) a0:=z01 (λ _ _ z=>z.tups (Tups.of S)) wk;have b2:=S _ _ ed;refine z1c (K:=KX w.params) (a:=la) (xs:=ws) (λ k σ C=>Same H3 C/\(∀(f i:Nat),f < k->((U0 rs.length).filter λ i=>isRE (rs[i]?.getD r00))[f]? = some i->¬ LosB rs (rs[i]?.getD r00))/\∃x3 x4,σ=[some (.ref t),some (.ref l),some (.ref d),x3,x4]) ⟨Same.refl _,λ f i h=>absurd h (O2 _),_,_,rfl⟩ (λ _ σ C _ h=>SqL.of (h.1 _ _ a9)) ?_ ?_;rotate_left
  ·rintro σ G ⟨s4,nl,x3,x4,rfl⟩;have no:NoL rs:=λ r c F=>by obtain ⟨i,B⟩:=List.mem_iff_getElem?.mp c;obtain ⟨k,L⟩:=List.mem_iff_getElem?.mp ((Q8 (p:=λ i=>isRE (rs[i]?.getD r00))).mpr ⟨List.mem_range.mpr (z14 B),show isRE (rs[i]?.getD r00)=true by rw [getD_some B];exact F.1⟩);refine nl k i (by rw [z03 aw];exact z14 L) L ?_;rw [getD_some B];exact F
   have I:=u3.trans s4;refine ⟨_,rfl,t,nm,M,J,ys,rfl,O.same I,LamH.same I lm,λ D b7 zl H5 sb b1 nD eD X az=>?_⟩;rw [hrs] at X;have b8:=zde X;refine ⟨D,zl,b7,rfl,eD,az,by omega,zon_lt ps Y R X,λ o v H6 s6 pr ov=>q o v H6 (SameB.trans (SameB.of I) (SameB.trans sb (SameB.of s6))) (LamH.same s6 b1) (oc_of no X pr) ov⟩
  rintro k y σ G hy ⟨s4,nl,x3,x4,rfl⟩;obtain ⟨i,B,p,z,rfl,ep,hz⟩:=z09 aw hy;obtain ⟨r,c,pz,rfl,b5⟩:=z09 a7.a hz;have hm:=List.mem_filter.mp (d0 B);have a1:isRE r=true:=by have:=hm.2;rw [getD_some c] at this;exact this
  obtain ⟨rv,a2⟩:=re_end a1;have ra:r.a=.int (intV r.a):=by
   rcases a7.g r (d0 c) with g|g
   ·exact g.2.2 _ a2
   ·exact absurd (rv.symm.trans g.1) z0h
  have I:=u3.trans s4;have Z:=s4.seqT b5;have a5:=s4 _ _ b2;have a6:LosB rs r->∀C,Same G C->∀u,C u=none->Q (.ref u) (upd C u (.tup [.str "lost",.int (i:Nat)])):=λ F C s' u N=>by have v:=s'.trans (Same.upd (o:=.tup [.str "lost",.int (i:Nat)]) N);refine q (.lost i) (.ref u) _ (SameB.of (I.trans v)) (LamH.same (I.trans v) lm) ⟨r,c,F,λ m q' b6 hq lq=>?_⟩ ⟨u,rfl,z02⟩;obtain ⟨f,h1,h2⟩:=idx_lt B b6 (show isRE (rs[m]?.getD r00)=true by rw [getD_some hq];exact lq.1);refine nl f m h1 h2 ?_;rw [getD_some hq];exact lq
  have next:¬ LosB rs r->∀(f U:Nat),f < k + 1->((U0 rs.length).filter λ i=>isRE (rs[i]?.getD r00))[f]? = some U->¬ LosB rs (rs[U]?.getD r00):=λ nb f U h L=>by
   rcases Nat.lt_succ_iff_lt_or_eq.mp h with h|rfl
   ·exact nl f U h L
   ·rw [B] at L;cases L;rw [getD_some c];exact nb
  refine ⟨p,_,rfl,SqT.of (s4 _ _ ep),rfl,_,_,rfl,_,_,rfl,rfl,?_⟩;have b4:All2 (EntAt (kx w) G) (ents rs) a0:=z01 (λ _ _ z=>z.tups (Tups.of s4)) b0;have a4:atI [V.int r.h,r.n,r.v,r.x,r.a,.int r.b,endV r.e] 4=some (.int (intV r.a)):=by rw [<-ra];exact z04 (j:=4) rfl
  have e6:atI [V.int r.h,r.n,r.v,r.x,r.a,.int r.b,endV r.e] 6=some (.int ((r.e.getD 0:Nat):Int)):=by rw [a2];exact z04 (j:=6) rfl
  refine z9b (t_or ⟨_,rfl,.inr (.inl ⟨pz,_,4,.int (intV r.a),rfl,rfl,Z,a4,_,rfl,d,_,rfl,DGet.k (k:=.inl (intV r.a)) a5,_,rfl,?_⟩)⟩);rcases zdh b4 a8 (intV r.a) with ⟨W,hn⟩|⟨te,pw,hte,hx,W,sw⟩
  ·rw [W];exact iteP rfl ⟨_,rfl,w_2,λ u N=>a6 (zcc a1 hn) G (Same.refl _) u N⟩
  ·have dg:DGet G d (.int (intV r.a)) (some (.ref pw)):=.inl ⟨a0,.inl (intV r.a),.inl a5,rfl,W.symm⟩;have li:=zcf (r:=r) a8 a1 hte hx;rw [W];refine iteN (λ z=>W0 z) ⟨_,rfl,.inr (.inl ⟨pz,_,6,_,rfl,rfl,Z,e6,_,rfl,_,rfl,.inr (.inl ⟨pz,_,4,.int (intV r.a),rfl,rfl,Z,a4,d,_,rfl,dg,.inr (.inl ⟨pw,_,0,.int te.b,rfl,rfl,sw,z04 (j:=0) rfl,_,_,rfl,rfl,_,rfl,ite2 (λ z=>?_) λ z=>?_⟩)⟩)⟩)⟩
   ·exact ⟨_,rfl,w_2,λ u N=>a6 (li.mpr (of_decide_eq_true z)) G (Same.refl _) u N⟩
   ·exact ⟨s4,next λ F=>z (decide_eq_true (li.mp F)),_,_,rfl⟩
end
section
def Cvx (l:List Int):Prop:=∀(i j k:Nat) (w:Int),i<=j->j<=k->l[i]? = some w->l[k]? = some w->l[j]? = some w
theorem z3c {α:Type} {l:List α} {c x:α} {i:Nat}:(l++[c])[i]? = some x->l[i]? = some x\/(i=l.length/\x=c):=λ q=>by
 rw [j08] at q;split at q
 ·exact .inl q
 ·rename_i z;obtain ⟨y,_⟩:=List.getElem?_eq_some_iff.mp q;rw [M4] at y;have:i - l.length=0:=by omega
  rw [this] at q;cases q;exact .inr ⟨by omega,rfl⟩
theorem z0q {α:Type} {l:List α} {c x:α} {i:Nat} (h:l[i]? = some x):(l++[c])[i]? = some x:=by rw [Y0 (z14 h)];exact h
theorem at_end {α:Type} {l:List α} {c:α}:(l++[c])[l.length]? = some c:=by rw [F1 (y0 _),z6];rfl
theorem Cvx.snoc {l:List Int} {n:Nat} {now c:Int} (v:Cvx l) (hn:l.length=n + 1) (h:l[n]? = some now) (hc:c=now\/c∉l):Cvx (l++[c]):=λ i j k w d f a b=>by
 rcases z3c b with b|⟨rfl,rfl⟩
 ·have g:=z14 b;rcases z3c a with a|⟨rfl,rfl⟩
  ·exact z0q (v i j k w d f a b)
  ·omega
 ·by_cases e:j=l.length
  ·subst e;exact at_end
  ·rcases z3c a with a|⟨rfl,_⟩
   ·rcases hc with rfl|hc
    ·exact z0q (v i j n w d (by omega) a h)
    ·exact absurd (d0 a) hc
   ·omega
noncomputable def wth (r:Rc):Int:=if isW r=true then intV r.x else intV r.a
structure StG (f:Int->Int) (l:List Int) (rs:List Rc):Prop where
 z:l[0]? = some 0
 cv:Cvx l
 m :∀i j:Int,i < j->f i < f j
 f1:f (-1)=0
 tk :∀(p:Nat) (w:Int),l[p]? = some w->w=0\/∃r∈rs,isW r=true/\intV r.x=w/\f (r.b:Int)<=(p:Int)
 en :∀r∈rs,∀e:Nat,r.e=some e->∃p:Nat,f (r.b:Int)<=(p:Int)/\(p:Int)<=f (e:Int)/\l[p]? = some (wth r)
theorem StG.le {f:Int->Int} {l:List Int} {rs:List Rc} (s:StG f l rs) {i j:Int} (h:i<=j):f i<=f j:=by
 rcases Int.lt_or_eq_of_le h with z|z
 ·exact Int.le_of_lt (s.m i j z)
 ·rw [z];exact Int.le_refl _
theorem zbz {f:Int->Int} {l:List Int} {rs:List Rc} (st:StG f l rs) (nd:((ents rs).map λ t=>(Sum.inl t.x:Key)).Nodup) {t:Ent} (ht:t∈ents rs) (hc:(spans rs t).filterMap (·.2)≠[]) {s:Int×Option Int} (hs:s∈spans rs t) :∃q:Nat,f s.1<=q/\(∀e,s.2=some e->(q:Int)<=f e)/\l[q]? = some t.x:=by
 have v :∀r∈rdsF rs t.x,∃q:Nat,f (r.b:Int)<=q/\(∀e,(spR r).2=some e->(q:Int)<=f e)/\l[q]? = some t.x:=λ r i=>by
  obtain ⟨B,H⟩:=List.mem_filter.mp i;obtain ⟨D,F⟩:=List.mem_filter.mp B;obtain ⟨E,c⟩:=re_end F;obtain ⟨p,o,j,d⟩:=st.en r D _ c;have k:wth r=t.x:=by unfold wth;rw [if_neg (by unfold isW;rw [E,decide_eq_false z0h];decide)];exact of_decide_eq_true H
  rw [k] at d;refine ⟨p,o,λ e g=>?_,d⟩;unfold spR at g;rw [c] at g;have g:some ((r.e.getD 0:Nat):Int)=some e:=g;cases g;exact j
 rcases List.mem_cons.mp hs with rfl|hs
 ·rcases ents_mem.mp ht with rfl|⟨w,hw,wi,rfl⟩
  ·have A:=st.f1;have G:=st.m (-2) (-1) (by decide);exact ⟨0,by show f (-2)<=0;omega,λ e c=>by cases c;show (0:Int)<=f (-1);omega,st.z⟩
  ·cases c:w.e with
   | some e=>
    obtain ⟨p,o,j,d⟩:=st.en w hw e c;have k:wth w=intV w.x:=by unfold wth;rw [if_pos wi]
    rw [k] at d;refine ⟨p,o,λ h a=>?_,d⟩;have a:w.e.map (λ n=>(n:Int))=some h:=a;rw [c] at a;have a:(e:Int)=h:=T0 a;rw [<-a];exact j
   | none=>
    rw [zdy] at hc;have y:(entW w).e.toList=[]:=by show (w.e.map λ n=>(n:Int)).toList=[];rw [c];rfl
    rw [y,List.nil_append] at hc;obtain ⟨r,I,C⟩:=n9 (λ z=>hc (by rw [z];rfl):rdsF rs (entW w).x≠[]);obtain ⟨q,_,_,u⟩:=v r (by rw [C];exact .head _);refine ⟨q,?_,λ h a=>?_,u⟩
    ·rcases st.tk q _ u with z|⟨r',k1,k2,k3,k4⟩
     ·have:=ents_x nd ht (ents_mem.mpr (.inl rfl)) z;rw [this];have A:=st.f1;have G:=st.m (-2) (-1) (by decide);show f (-2)<=q;omega
     ·have:=ents_x nd ht (ents_mem.mpr (.inr ⟨r',k1,k2,rfl⟩)) k3.symm;rw [this];exact k4
    ·have a:w.e.map (λ n=>(n:Int))=some h:=a;rw [c] at a;cases a
 ·obtain ⟨r,i,rfl⟩:=List.mem_map.mp hs;exact v r i
theorem z7t {f:Int->Int} {l:List Int} {rs:List Rc} (st:StG f l rs) (nd:((ents rs).map λ t=>(Sum.inl t.x:Key)).Nodup) {t:Ent} (ht:t∈ents rs) (hc:(spans rs t).filterMap (·.2)≠[]) {z:Zt} (hz:ZnR rs t z) :
  z.x=t.x/\((z.on=true/\0<=f z.lo/\z.lo < z.hi/\∀q:Nat,f z.lo<=q->(q:Int)<=f z.hi->l[q]? = some t.x)\/(z.on=false/\∃q:Nat,f z.lo<=q/\(q:Int)<=f z.hi/\l[q]? = some t.x)):=by
 obtain ⟨lo,g,⟨n,s⟩,⟨k,v⟩,rfl⟩:=hz;obtain ⟨w,p,o⟩:=List.mem_filterMap.mp n;obtain ⟨u,r,m⟩:=List.mem_map.mp k;obtain ⟨b,_,c,d⟩:=zbz st nd ht hc p;obtain ⟨a,h,_,e⟩:=zbz st nd ht hc r;have c:=c lo o;rw [m] at h;unfold zOf;by_cases y:lo < g
 ·rw [if_pos y];refine ⟨rfl,.inl ⟨rfl,by show 0<=f lo;omega,y,λ q i j=>?_⟩⟩;have i:f lo<=q:=i;have j:(q:Int)<=f g:=j;exact st.cv b q a _ (by omega) (by omega) d e
 ·rw [if_neg y];refine ⟨rfl,.inr ⟨rfl,?_⟩⟩;have le:=st.le (show g<=lo by omega);show∃q:Nat,f g<=q/\(q:Int)<=f lo/\_;by_cases y1:(a:Int)<=f lo
  ·exact ⟨a,h,y1,e⟩
  ·by_cases y2:f g<=(b:Int)
   ·exact ⟨b,y2,c,d⟩
   ·exact ⟨(f g).toNat,by omega,by omega,st.cv b _ a _ (by omega) (by omega) d e⟩
theorem z46 {rs:List Rc} {zl:List Zt} (h:ZonS rs zl) {z:Zt} (hz:z∈zl) :∃t,t∈ents rs/\(spans rs t).filterMap (·.2)≠[]/\ZnR rs t z:=by obtain ⟨a,e,b,i⟩:=h;obtain ⟨t,c,f⟩:=z7c e z (b.mem_iff.mp hz);obtain ⟨d,g⟩:=List.mem_filter.mp c;exact ⟨t,d,of_decide_eq_true g,f⟩
theorem zon_of {rs:List Rc} {zl:List Zt} (h:ZonS rs zl) {t:Ent} (ht:t∈ents rs) (hc:(spans rs t).filterMap (·.2)≠[]) :∃z∈zl,ZnR rs t z:=by obtain ⟨a,e,c,f⟩:=h;obtain ⟨i,b⟩:=List.mem_iff_getElem?.mp (List.mem_filter.mpr ⟨ht,decide_eq_true hc⟩:t∈(ents rs).filter (cntB rs));obtain ⟨z,d,r⟩:=z38 e b;exact ⟨z,c.mem_iff.mpr (d0 d),r⟩
theorem no_col {f:Int->Int} {l:List Int} {rs:List Rc} (st:StG f l rs) (nd:((rs.filter isW).map (λ r=>intV r.x)).Nodup) (n0:(0:Int)∉(rs.filter isW).map (λ r=>intV r.x)) {o:Oc} (h:OcOk rs o):o=.non:=by
 have w:=z5o nd n0;have one :∀{c:List Zt},ZonS rs c->∀{z g:Zt},z∈c->g∈c->z.x=g.x->z=g:=λ {c} d {z g} n i e=>by obtain ⟨t,A,C,s⟩:=z46 d n;obtain ⟨J,v,B,u⟩:=z46 d i;have:=ents_x w A v (by rw [<-zn_x s,<-zn_x u];exact e);subst this;exact zc9 s u
 have O:NoL rs:=λ r L ⟨l1,l2⟩=>by
  obtain ⟨R,U⟩:=re_end l1;obtain ⟨p,X,W,H⟩:=st.en r L _ U;have N:wth r=intV r.a:=by unfold wth;rw [if_neg (by unfold isW;rw [R,decide_eq_false z0h];decide)]
  rw [N] at H;rcases st.tk p _ H with z|⟨q,q1,q2,q3,q4⟩
  ·have:=l2 ent0 (ents_mem.mpr (.inl rfl)) z.symm;have:((r.e.getD 0:Nat):Int) < -2:=this;omega
  ·have:=l2 (entW q) (ents_mem.mpr (.inr ⟨q,q1,q2,rfl⟩)) q3;have:=st.m _ _ (show ((r.e.getD 0:Nat):Int) < q.b from this);omega
 have T :∀c,ZonS rs c->NoP onP c:=λ c d z g n i ⟨o1,o2,o3,o4⟩=>by
  obtain ⟨t,A,C,s⟩:=z46 d n;obtain ⟨J,v,B,u⟩:=z46 d i;obtain ⟨D,⟨_,P,V,F⟩|⟨k,_⟩⟩:=z7t st w A C s
  ·obtain ⟨G,⟨_,M,I,E⟩|⟨j,_⟩⟩:=z7t st w v B u
   ·have S:=st.m _ _ o3;have K:=st.m _ _ o4;have Y:=st.m _ _ I;have a:=F (f g.lo).toNat (by omega) (by omega);have b:=E (f g.lo).toNat (by omega) (by omega);rw [a] at b;cases one d n i (by rw [D,G];exact T0 b);omega
   ·rw [o2] at j;cases j
  ·rw [o1] at k;cases k
 have Q :∀c,ZonS rs c->NoP inP c:=λ c d z g n i ⟨o1,o2,o3,o4⟩=>by
  obtain ⟨t,A,C,s⟩:=z46 d n;obtain ⟨J,v,B,u⟩:=z46 d i;obtain ⟨D,⟨k,_⟩|⟨_,q,P,V,F⟩⟩:=z7t st w A C s
  ·rw [o1] at k;cases k
  ·obtain ⟨G,⟨_,M,I,E⟩|⟨j,_⟩⟩:=z7t st w v B u
   ·have S:=st.m _ _ o3;have K:=st.m _ _ o4;have b:=E q (by omega) (by omega);rw [F] at b;cases one d n i (by rw [D,G];exact T0 b);rw [o1] at o2;cases o2
   ·rw [o2] at j;cases j
 match o,h with
 | .lost k,f=>exact (zdg f O).elim
 | .pr true x y,⟨_,c,d,z,g,f,_,_⟩=>exact (fst_no f (T c d)).elim
 | .pr false x y,⟨_,c,d,_,z,g,f,_,_⟩=>exact (fst_no f (Q c d)).elim
 | .non,_=>rfl
theorem zc4 {rs:List Rc} {n:Nat} (ps:PosI n rs) (nd:((rs.filter isW).map (λ r=>intV r.x)).Nodup) (n0:(0:Int)∉(rs.filter isW).map (λ r=>intV r.x)) {r q:Rc} {t:Ent} {e1:Int} {e2:Nat} (hr:r∈rs) (hre:isRE r=true) (ht:t∈ents rs) (ha:intV r.a=t.x) (h1:t.e=some e1) (hq:q∈rs) (hw:isW q=true) (h2:q.e=some e2) (be:q.b<=e2) (l1:e1 < q.b) (l2:e2 < r.b) (h:OcOk rs .non):False:=by
 obtain ⟨_,O,p,v,J⟩:=h;have D:=z5o nd n0;have A:e1∈(spans rs t).filterMap (·.2):=List.mem_filterMap.mpr ⟨(t.b,t.e),.head _,h1⟩;have E:(r.b:Int)∈(spans rs t).map (·.1):=List.mem_map.mpr ⟨spR r,.tail _ (List.mem_map.mpr ⟨r,List.mem_filter.mpr ⟨List.mem_filter.mpr ⟨hr,hre⟩,decide_eq_true ha⟩,rfl⟩),rfl⟩;have w:entW q∈ents rs:=ents_mem.mpr (.inr ⟨q,hq,hw,rfl⟩);have B:(entW q).e=some (e2:Int):=by show q.e.map (λ n=>(n:Int))=_;rw [h2];rfl
 have s:(e2:Int)∈(spans rs (entW q)).filterMap (·.2):=List.mem_filterMap.mpr ⟨((entW q).b,(entW q).e),.head _,B⟩;have H:(q.b:Int)∈(spans rs (entW q)).map (·.1):=List.mem_map.mpr ⟨((entW q).b,(entW q).e),.head _,rfl⟩;obtain ⟨z,l,j,g,⟨_,C⟩,⟨_,I⟩,d⟩:=zon_of p ht (D6 A);obtain ⟨i,k,m,o,⟨_,G⟩,⟨_,F⟩,c⟩:=zon_of p w (D6 s);have K:=C _ A;have L:=I _ E;have M:=G _ s;have N:=F _ H;have ne:z≠i:=λ e=>by
  have f:z.x=i.x:=by rw [e]
  have f:t.x=(entW q).x:=by rw [d,c] at f;unfold zOf at f;split at f<;>split at f<;>exact f
  have:=ents_x D ht w f;rw [this,B] at h1;cases h1;omega
 unfold zOf at d;rw [if_pos (show j < g by omega)] at d;unfold zOf at c;by_cases y:m < o
 ·rw [if_pos y] at c;rcases Int.lt_trichotomy j m with u|u|u
  ·exact v z i l k ⟨by rw [d],by rw [c],by rw [d,c];exact u,by rw [d,c];show m < g;omega⟩
  ·exact ne (zon_lo ps nd n0 p z l i k (by rw [d,c];exact u))
  ·exact v i z k l ⟨by rw [c],by rw [d],by rw [d,c];exact u,by rw [d,c];show j < o;omega⟩
 ·rw [if_neg y] at c;exact J i z k l ⟨by rw [c],by rw [d],by rw [d,c];show j < o;omega,by rw [d,c];show m < g;omega⟩
end
section
theorem rd_wth {r:Rc} (h:r.v=.str "read"):wth r=intV r.a:=by unfold wth;rw [if_neg (by unfold isW;rw [h,decide_eq_false z0h];decide)]
theorem wr_wth {r:Rc} (h:isW r=true):wth r=intV r.x:=by unfold wth;rw [if_pos h]
theorem w_uniq {rs:List Rc} (nd:((rs.filter isW).map (λ r=>intV r.x)).Nodup) {w w':Rc} (h:w∈rs) (hi:isW w=true) (h':w'∈rs) (hi':isW w'=true) (e:intV w.x=intV w'.x):w=w':=z15 nd _ (List.mem_filter.mpr ⟨h,hi⟩) _ (List.mem_filter.mpr ⟨h',hi'⟩) e
theorem w_n0 {rs:List Rc} (n0:(0:Int)∉(rs.filter isW).map (λ r=>intV r.x)) {w:Rc} (h:w∈rs) (hi:isW w=true):intV w.x≠0:=λ e=>n0 (List.mem_map.mpr ⟨w,List.mem_filter.mpr ⟨h,hi⟩,e⟩)
theorem w_seq {wr:Int} {es:List Ev} {rs:List Rc} (S:Sq1 wr es rs) {w w':Rc} (h:w∈rs) (hi:isW w=true) (h':w'∈rs) (hi':isW w'=true) (lt:w.b < w'.b) :∃k,w.e=some k/\k < w'.b:=by
 rcases S.hand h h' ((S.wh h hi).1.trans (S.wh h' hi').1.symm) with z|⟨_,z⟩|⟨z,_⟩
 ·rw [z] at lt;omega
 ·exact z
 ·omega
theorem StG.reg {f:Int->Int} {l:List Int} {wr:Int} {es:List Ev} {rs:List Rc} {n:Nat} (st:StG f l rs) (S:Sq1 wr es rs) (ps:PosI n rs) (nd:((rs.filter isW).map (λ r=>intV r.x)).Nodup) (n0:(0:Int)∉(rs.filter isW).map (λ r=>intV r.x)):AllR RegR rs:=λ r i e D y=>by
 obtain ⟨p,J,H,h⟩:=st.en r i e y;rw [rd_wth D] at h;rcases st.tk p _ h with z|⟨w,a,d,wx,wp⟩
 ·refine .inr (.inl ⟨z,λ w a d k c lt=>?_⟩);obtain ⟨q,F,C,g⟩:=st.en w a k c;rw [wr_wth d] at g;have A:=st.m k r.b (by omega);have:=st.cv 0 q p 0 (A2 _) (by omega) st.z (by rw [h,z]);rw [g] at this;exact w_n0 n0 a d (T0 this)
 ·by_cases c :∃k,w.e=some k/\k<=r.b
  ·obtain ⟨k,c,le⟩:=c;have ne:=ps.be r i w a k c;have lt:k < r.b:=by omega
   refine .inr (.inr ⟨w,a,d,wx,⟨k,c,lt⟩,λ u o s ⟨k',j,lt'⟩=>?_⟩);refine V5 λ B=>?_;obtain ⟨L,v,K⟩:=w_seq S a d o s B;rw [c] at v;cases v;obtain ⟨q,F,C,g⟩:=st.en w a k c;obtain ⟨E,I,M,t⟩:=st.en u o k' j;rw [wr_wth d] at g;rw [wr_wth s] at t;have A:=st.m k u.b (by omega);have G:=st.m k' r.b (by omega);have:=st.cv q E p (intV w.x) (by omega) (by omega) g (by rw [h,wx]);rw [t] at this;have:=w_uniq nd o s a d (T0 this);rw [this] at B;omega
  ·refine .inl ⟨w,a,d,wx,?_,λ k j=>K8 λ le=>c ⟨k,j,le⟩⟩;have ne:=ps.be w a r i e y;rcases i4 w.b e with z|z
   ·exact z
   ·have A:=st.m e w.b (by omega);omega
theorem StG.noBad {f:Int->Int} {l:List Int} {wr:Int} {es:List Ev} {rs:List Rc} (st:StG f l rs) (S:Sq1 wr es rs) (nd:((rs.filter isW).map (λ r=>intV r.x)).Nodup) (n0:(0:Int)∉(rs.filter isW).map (λ r=>intV r.x)) (i j:Nat):¬ Bad rs i j:=λ ⟨r,q,e,g,s,t,h1,h2,rv,qv,re,qe,lt,hs,ht,ts⟩=>by
 obtain ⟨h,o,B⟩:=z7h nd n0;obtain ⟨p,E,C,a⟩:=st.en r (d0 h1) e re;obtain ⟨d,F,D,c⟩:=st.en q (d0 h2) g qe;rw [rd_wth rv] at a;rw [rd_wth qv] at c;have H:=st.m e q.b (by omega);rcases st.tk p _ a with z|⟨w,hw,wi,wx,wp⟩
 ·rw [z,o] at hs;cases hs;rcases zb1 ht with z|z<;>omega
 rw [<-wx,h w hw wi] at hs;cases hs;rcases st.tk d _ c with z|⟨w',hw',wi',wx',wp'⟩
 ·have:=st.cv 0 p d 0 (A2 _) (by omega) st.z (by rw [c,z]);rw [a,<-wx] at this;exact w_n0 n0 hw wi (T0 this)
 rw [<-wx',h w' hw' wi'] at ht;cases ht;obtain ⟨k,v,G⟩:=w_seq S hw' wi' hw wi (by omega);obtain ⟨u,I,A,n⟩:=st.en w' hw' k v;rw [wr_wth wi'] at n;have y:=st.m k w.b (by omega);have:=st.cv u p d (intV w'.x) (by omega) (by omega) n (by rw [c,wx']);rw [a,<-wx] at this;have:=w_uniq nd hw wi hw' wi' (T0 this);rw [this] at ts;omega
theorem col_of {wr:Int} {es:List Ev} {rs:List Rc} {n:Nat} (S:Sq1 wr es rs) (ps:PosI n rs) (eb:EndsB rs) (nd:((rs.filter isW).map (λ r=>intV r.x)).Nodup) (n0:(0:Int)∉(rs.filter isW).map (λ r=>intV r.x)) {r:Rc} {e:Nat} (hr:r∈rs) (rv:r.v=.str "read") (re:r.e=some e) (nr:¬ RegR rs r e) (h:OcOk rs .non):False:=by
 have s:isRE r=true:=by unfold isRE;rw [decide_eq_true rv,re];rfl
 have B :∃t∈ents rs,t.x=intV r.a/\t.b<=(e:Int):=by refine D3 λ f=>h.1 r hr ⟨s,λ t m j=>?_⟩;rw [re];show (e:Int) < t.b;exact Int.lt_of_not_ge λ le=>f ⟨t,m,j,le⟩
 obtain ⟨t,m,j,A⟩:=B;rcases ents_mem.mp m with rfl|⟨w,d,g,rfl⟩
 ·have :∃w∈rs,isW w=true/\∃k,w.e=some k/\k < r.b:=by refine D3 λ f=>nr (.inr (.inl ⟨j.symm,λ w d g k c lt=>f ⟨w,d,g,k,c,lt⟩⟩))
  obtain ⟨w,d,g,k,c,lt⟩:=this;exact zc4 ps nd n0 hr s m j.symm rfl d g c (U3 (eb w d k c)) (by omega) lt h
 ·have ne:=ps.be w d r hr e re;have lt:w.b < e:=by have A:(w.b:Int)<=e:=A;omega
  have :∃k,w.e=some k/\k<=r.b:=by refine D3 λ f=>nr (.inl ⟨w,d,g,j,lt,λ k c=>K8 λ le=>f ⟨k,c,le⟩⟩)
  obtain ⟨k,c,le⟩:=this;have C:=ps.be r hr w d k c;have :∃i∈rs,isW i=true/\w.b < i.b/\∃l,i.e=some l/\l < r.b:=by refine D3 λ f=>nr (.inr (.inr ⟨w,d,g,j,⟨k,c,by omega⟩,λ i o q ⟨l,p,y⟩=>V5 λ u=>f ⟨i,o,q,u,l,p,y⟩⟩))
  obtain ⟨i,o,q,u,l,p,y⟩:=this;obtain ⟨E,z,D⟩:=w_seq S d g o q u;rw [c] at z;cases z;exact zc4 ps nd n0 hr s m j.symm (e1:=(k:Int)) (by show w.e.map (λ n=>(n:Int))=_;rw [c];rfl) o q p (U3 (eb i o l p)) (by omega) y h
end
section
structure Bz where
 h:Int
 w:Bool
 x:Int
 d:Option Int
noncomputable def osB (bs:List Bz):List (Int×Bool):=bs.map λ b=>(b.h,b.w)
theorem os_h (bs:List Bz):(osB bs).map (·.1)=bs.map (·.h):=by unfold osB;rw [O3];rfl
def OpB (rs:List Rc) (fs:List Nat) (l:List Int) (m:Nat) (b:Bz):Prop:=∃j r tb,lastI b.h (rs.map Rc.h)=some j/\rs[j]? = some r/\r.h=b.h/\r.e=none/\isW r=b.w/\fs[r.b]? = some tb/\tb<=m/\(b.w=true->intV r.x=b.x/\(b.d=none->b.x∉l))/\∀a,b.d=some a->∃p,tb<=p/\p<=m/\l[p]? = some (if b.w=true then b.x else a)
structure RunI (nm:Str) (wr:Int) (es:List Ev) (fs:List Nat) (l:List Int) (bs:List Bz) (us:List Int) (now:Int) (m:Nat):Prop where
 tw:TW nm wr es (osB bs) us
 nd:(bs.map (·.h)).Nodup
 fl:fs.length=es.length
 fi:fs.Pairwise (· < ·)
 fm :∀t∈fs,1<=t/\t<=m
 ll:l.length=m + 1
 lz:l[0]? = some 0
 ln:l[m]? = some now
 cv:Cvx l
 tk :∀(p:Nat) (w:Int),l[p]? = some w->w=0\/∃r∈dAll 0 [] es,isW r=true/\intV r.x=w/\∃tb,fs[r.b]? = some tb/\tb<=p
 en :∀r∈dAll 0 [] es,∀e:Nat,r.e=some e->∃p tb te,fs[r.b]? = some tb/\fs[e]? = some te/\tb<=p/\p<=te/\l[p]? = some (wth r)
 op :∀b∈bs,OpB (dAll 0 [] es) fs l m b
theorem RunI.nil {nm:Str} {wr:Int}:RunI nm wr [] [] [0] [] [] 0 0:=⟨.nil,.nil,rfl,.nil,λ _ h=>absurd h B0,rfl,rfl,rfl,λ i j k w g l f a=>by
 have:=z14 a;have e:k=0:=by rw [M4] at this;omega
 subst e;have e:j=0:=by omega
 subst e;exact a,λ p w h=>by
 have:=z14 h;have e:p=0:=by rw [M4] at this;omega
 subst e;cases h;exact .inl rfl,λ r c=>absurd c B0,λ b d=>absurd d B0⟩
variable {nm:Str} {wr:Int} {es:List Ev} {fs:List Nat} {l:List Int} {bs:List Bz} {us:List Int} {now:Int} {m:Nat}
theorem RunI.nowm (I:RunI nm wr es fs l bs us now m):now∈l:=d0 I.ln
theorem RunI.new (I:RunI nm wr es fs l bs us now m) {x:Int} (h0:x≠0) (h:x∉us):x∉l:=λ z=>by
 obtain ⟨p,a⟩:=List.mem_iff_getElem?.mp z;rcases I.tk p x a with e|⟨r,hr,ri,rx,_⟩
 ·exact h0 e
 ·rw [<-I.tw.rs.u] at h;exact h (List.mem_map.mpr ⟨r,List.mem_filter.mpr ⟨hr,ri⟩,rx⟩)
theorem fs_up (fi:fs.Pairwise (· < ·)) (fm :∀t∈fs,1<=t/\t<=m):(fs++[m + 1]).Pairwise (· < ·)/\∀t∈fs++[m + 1],1<=t/\t<=m + 1:=by
 refine ⟨List.pairwise_append.mpr ⟨fi,List.pairwise_singleton _ _,λ a c b e=>?_⟩,λ t d=>?_⟩
 ·rw [List.mem_singleton.mp e];have:=fm a c;omega
 ·rcases List.mem_append.mp d with z|z
  ·have:=fm t z;omega
  ·rw [List.mem_singleton.mp z];omega
theorem RunI.beg (I:RunI nm wr es fs l bs us now m) {b:Bz} {x:V} {us':List Int} (hb:b.h∉bs.map (·.h)) (hd:b.d=none) (tw:TW nm wr (es++[.beg b.h (.str nm) (.str (if b.w=true then "write" else "read")) x]) (osB bs++[(b.h,b.w)]) us') (hx:b.w=true->x=.int b.x/\b.x∉l) :
  RunI nm wr (es++[.beg b.h (.str nm) (.str (if b.w=true then "write" else "read")) x]) (fs++[m + 1]) (l++[now]) (bs++[b]) us' now (m + 1):=by
 have u:=I.ll;have A:dAll 0 [] (es++[.beg b.h (.str nm) (.str (if b.w=true then "write" else "read")) x])=dAll 0 [] es++[⟨b.h,.str nm,.str (if b.w=true then "write" else "read"),x,.non,es.length,none⟩]:=by rw [z0t,L5];rfl
 obtain ⟨K,O⟩:=fs_up I.fi I.fm;refine ⟨by unfold osB at tw⊢;rw [V0];exact tw,?_,by rw [F0,F0,I.fl];rfl,K,O,by rw [F0,u];rfl,z0q I.lz,by rw [<-u];exact at_end,I.cv.snoc u I.ln (.inl rfl),λ p w G=>?_,λ r C e B=>?_,λ c M=>?_⟩
 ·rw [V0];exact List.nodup_append.mpr ⟨I.nd,List.nodup_cons.mpr ⟨B0,.nil⟩,λ y D z R e=>hb (by have:=List.mem_singleton.mp R;rw [e,this] at D;exact D)⟩
 ·rw [A];have E :∀q:Nat,q<=p->l[q]? = some w->w=0\/∃r∈dAll 0 [] es++[(⟨b.h,.str nm,.str (if b.w=true then "write" else "read"),x,.non,es.length,none⟩:Rc)],isW r=true/\intV r.x=w/\∃tb,(fs++[m + 1])[r.b]? = some tb/\tb<=p:=λ q le P=>by
   rcases I.tk q w P with z|⟨r,f,o,i,tb,k,s⟩
   ·exact .inl z
   ·exact .inr ⟨r,List.mem_append.mpr (.inl f),o,i,tb,z0q k,by omega⟩
  rcases z3c G with z|⟨rfl,rfl⟩
  ·exact E p (y0 _) z
  ·exact E m (by omega) I.ln
 ·rw [A] at C;rcases List.mem_append.mp C with z|z
  ·obtain ⟨p,tb,N,f,o,i,k,s⟩:=I.en r z e B;exact ⟨p,tb,N,z0q f,z0q o,i,k,z0q s⟩
  ·rw [List.mem_singleton.mp z] at B;cases B
 ·rw [A];rcases List.mem_append.mp M with z|z
  ·obtain ⟨j,r,tb,f,o,i,k,s,H,S,v,Q⟩:=I.op c z;have ne:¬ b.h=c.h:=λ e=>hb (by rw [e];exact List.mem_map.mpr ⟨c,z,rfl⟩);refine ⟨j,r,tb,?_,z0q o,i,k,s,z0q H,by omega,λ g=>⟨(v g).1,λ F y=>?_⟩,λ a t=>?_⟩
   ·rw [V0];show lastI c.h (_++[b.h])=_;rw [z0y,if_neg ne];exact f
   ·rcases List.mem_append.mp y with y|y
    ·exact (v g).2 F y
    ·exact (v g).2 F (by rw [List.mem_singleton.mp y];exact I.nowm)
   ·obtain ⟨p,L,T,J⟩:=Q a t;exact ⟨p,L,by omega,z0q J⟩
  ·have z:=List.mem_singleton.mp z;subst z;refine ⟨(dAll 0 [] es).length,_,m + 1,?_,at_end,rfl,rfl,?_,?_,y0 _,λ g=>?_,λ a t=>?_⟩
   ·rw [V0];show lastI c.h (_++[c.h])=_;rw [z0y,if_pos rfl,A0]
   ·show decide (V.str (if c.w=true then "write" else "read")=.str "write")=c.w;cases c.w with
    | true=>exact decide_eq_true rfl
    | false=>exact decide_eq_false z0h
   ·show (fs++[m + 1])[es.length]? = _;rw [<-I.fl];exact at_end
   ·obtain ⟨e,n⟩:=hx g;refine ⟨by show intV x=c.x;rw [e];rfl,λ _ y=>?_⟩;rcases List.mem_append.mp y with y|y
    ·exact n y
    ·exact n (by rw [List.mem_singleton.mp y];exact I.nowm)
   ·rw [hd] at t;cases t
noncomputable def setD (bs:List Bz) (h a:Int):List Bz:=bs.map λ q=>if q.h=h then { q with d:=some a } else q
theorem setD_h (bs:List Bz) (h a:Int):(setD bs h a).map (·.h)=bs.map (·.h)/\osB (setD bs h a)=osB bs:=by
 unfold setD osB;rw [O3,O3];refine ⟨S3 λ q _=>?_,S3 λ q _=>?_⟩
 ·show (if q.h=h then { q with d:=some a } else q:Bz).h=q.h;split<;>rfl
 ·show ((if q.h=h then { q with d:=some a } else q:Bz).h,(if q.h=h then { q with d:=some a } else q:Bz).w)=(q.h,q.w);split<;>rfl
theorem zbs {bs:List Bz} (nd:(bs.map (·.h)).Nodup) {b c:Bz} (hb:b∈bs) (hc:c∈bs) (e:b.h=c.h):b=c:=z15 nd _ hb _ hc e
theorem RunI.act (I:RunI nm wr es fs l bs us now m) {b:Bz} {c a:Int} (hb:b∈bs) (hd:b.d=none) (hc:(b.w=true/\c=b.x)\/(b.w=false/\c=now/\a=now)):RunI nm wr es fs (l++[c]) (setD bs b.h a) us c (m + 1):=by
 have k:=I.ll;obtain ⟨j,r,tb,E,g,u,H,s,K,h7,G,h9⟩:=I.op b hb;refine ⟨by rw [(setD_h bs b.h a).2];exact I.tw,by rw [(setD_h bs b.h a).1];exact I.nd,I.fl,I.fi,λ t T=>?_,by rw [F0,k];rfl,z0q I.lz,by rw [<-k];exact at_end,I.cv.snoc k I.ln ?_,λ p w P=>?_,λ r U e Z=>?_,λ q J=>?_⟩
 ·have:=I.fm t T;omega
 ·rcases hc with ⟨f,rfl⟩|⟨_,z,_⟩
  ·exact .inr ((G f).2 hd)
  ·exact .inl z
 ·have N :∀q:Nat,q<=p->l[q]? = some w->w=0\/∃r∈dAll 0 [] es,isW r=true/\intV r.x=w/\∃tb,fs[r.b]? = some tb/\tb<=p:=λ q le J=>by
   rcases I.tk q w J with z|⟨r,E,g,u,tb,H,s⟩
   ·exact .inl z
   ·exact .inr ⟨r,E,g,u,tb,H,by omega⟩
  rcases z3c P with z|⟨e1,e2⟩
  ·exact N p (y0 _) z
  ·rcases hc with ⟨f,z⟩|⟨_,z,_⟩
   ·exact .inr ⟨r,d0 g,by rw [s];exact f,by rw [(G f).1,e2,z],tb,K,by omega⟩
   ·exact N m (by omega) (by rw [e2,z];exact I.ln)
 ·obtain ⟨p,tb,X,C,A,n,D,v⟩:=I.en r U e Z;exact ⟨p,tb,X,C,A,n,D,z0q v⟩
 ·obtain ⟨L,M,rfl⟩:=List.mem_map.mp J;by_cases e:L.h=b.h
  ·cases zbs I.nd M hb e;rw [if_pos rfl];refine ⟨j,r,tb,E,g,u,H,s,K,by omega,λ f=>⟨(G f).1,λ z=>by cases z⟩,λ F i=>⟨m + 1,by omega,y0 _,?_⟩⟩;have i:some a=some F:=i;cases i;rw [<-k,at_end];show some c=some (if b.w=true then b.x else a);rcases hc with ⟨f,z⟩|⟨f,z1,z2⟩
   ·rw [if_pos f,z]
   ·rw [if_neg (by rw [f];decide),z1,z2]
  ·rw [if_neg e];obtain ⟨V,Y,a0,C,A,n,D,v,Q,k7,B,k9⟩:=I.op L M;refine ⟨V,Y,a0,C,A,n,D,v,Q,by omega,λ o=>⟨(B o).1,λ O y=>?_⟩,λ F i=>?_⟩
   ·rcases List.mem_append.mp y with y|y
    ·exact (B o).2 O y
    ·rcases hc with ⟨f,z⟩|⟨_,z,_⟩
     ·have S:=I.tw.sq;exact e (n.symm.trans ((S.wh (d0 A) (by rw [v];exact o)).1.trans ((S.wh (d0 g) (by rw [s];exact f)).1.symm.trans u)))
     ·exact (B o).2 O (by rw [List.mem_singleton.mp y,z];exact I.nowm)
   ·obtain ⟨p,W,p2,R⟩:=k9 F i;exact ⟨p,W,by omega,z0q R⟩
theorem RunI.fin (I:RunI nm wr es fs l bs us now m) {b:Bz} {a:Int} (hb:b∈bs) (hd:b.d=some a):RunI nm wr (es++[.fin b.h (if b.w=true then .str "ok" else .int a)]) (fs++[m + 1]) (l++[now]) (bs.filter λ q=>decide (q.h≠b.h)) us now (m + 1):=by
 have G:=I.ll;obtain ⟨j,r,tb,X,N,h3,h4,h5,R,h7,h8,h9⟩:=I.op b hb;obtain ⟨p0,a1,a2,a3⟩:=h9 a hd;obtain ⟨V,f2⟩:=fs_up I.fi I.fm;have tw:=TW.fin (a:=if b.w=true then .str "ok" else .int a) I.tw (List.mem_map.mpr ⟨b,hb,rfl⟩:(b.h,b.w)∈osB bs) (λ z=>by rw [if_pos z]) (λ z=>⟨a,by rw [if_neg (by rw [z];decide)]⟩);have U:osB (bs.filter λ q=>decide (q.h≠b.h))=(osB bs).filter λ k=>decide (k.1≠b.h):=by unfold osB;rw [List.filter_map];rfl
 have K:dAll 0 [] (es++[.fin b.h (if b.w=true then .str "ok" else .int a)])=(dAll 0 [] es).modify j λ q=>{ q with a:=if b.w=true then .str "ok" else .int a,e:=some es.length }:=by rw [z0t,L5];unfold dstep;dsimp only;rw [X]
 have a0 :∀{i:Nat} {q:Rc},((dAll 0 [] es).modify j λ q=>{ q with a:=if b.w=true then .str "ok" else .int a,e:=some es.length })[i]? = some q->(i=j/\q={ r with a:=if b.w=true then .str "ok" else .int a,e:=some es.length })\/(i≠j/\(dAll 0 [] es)[i]? = some q):=λ {i q} z=>by
  rw [A1] at z;cases y:(dAll 0 [] es)[i]? with
  | none=>rw [y] at z;cases z
  | some r0=>
   rw [y] at z;have z:some (if j=i then { r0 with a:=if b.w=true then .str "ok" else .int a,e:=some es.length } else r0)=some q:=z;by_cases u:j=i
   ·subst u;rw [N] at y;cases y;rw [if_pos rfl] at z;cases z;exact .inl ⟨rfl,rfl⟩
   ·rw [if_neg u] at z;cases z;exact .inr ⟨J4 u,rfl⟩
 have M :∀{i:Nat} {q:Rc},(dAll 0 [] es)[i]? = some q->∃g,((dAll 0 [] es).modify j λ q=>{ q with a:=if b.w=true then .str "ok" else .int a,e:=some es.length })[i]? = some g/\g.b=q.b/\g.x=q.x/\isW g=isW q/\(i≠j->g=q):=λ {i q} z=>by
  rw [A1,z];refine ⟨if j=i then { q with a:=if b.w=true then .str "ok" else .int a,e:=some es.length } else q,rfl,?_⟩;by_cases u:j=i
  ·rw [if_pos u];exact ⟨rfl,rfl,rfl,λ n=>absurd u.symm n⟩
  ·rw [if_neg u];exact ⟨rfl,rfl,rfl,λ _=>rfl⟩
 refine ⟨by rw [U];exact tw,(List.filter_sublist.map _).nodup I.nd,by rw [F0,F0,I.fl];rfl,V,f2,by rw [F0,G];rfl,z0q I.lz,by rw [<-G];exact at_end,I.cv.snoc G I.ln (.inl rfl),λ p w Q=>?_,λ q B e C=>?_,λ c Z=>?_⟩
 ·rw [K];have O :∀q:Nat,q<=p->l[q]? = some w->w=0\/∃r∈(dAll 0 [] es).modify j λ q=>{ q with a:=if b.w=true then .str "ok" else .int a,e:=some es.length },isW r=true/\intV r.x=w/\∃tb,(fs++[m + 1])[r.b]? = some tb/\tb<=p:=λ q le B=>by
   rcases I.tk q w B with z|⟨r1,t,o,s,tb,v,A⟩
   ·exact .inl z
   ·obtain ⟨i,J⟩:=List.mem_iff_getElem?.mp t;obtain ⟨g,H,g2,g3,g4,_⟩:=M J;exact .inr ⟨g,d0 H,by rw [g4];exact o,by rw [g3];exact s,tb,by rw [g2];exact z0q v,by omega⟩
  rcases z3c Q with z|⟨e1,e2⟩
  ·exact O p (y0 _) z
  ·exact O m (by omega) (by rw [e2];exact I.ln)
 ·rw [K] at B;obtain ⟨i,J⟩:=List.mem_iff_getElem?.mp B;rcases a0 J with ⟨_,rfl⟩|⟨_,z⟩
  ·have C:some es.length=some e:=C;cases C;refine ⟨p0,tb,m + 1,z0q R,by rw [<-I.fl];exact at_end,a1,by omega,?_⟩;rw [z0q a3];unfold wth;rw [show isW { r with a:=if b.w=true then .str "ok" else .int a,e:=some es.length }=b.w from h5];cases bw:b.w with
   | true=>rw [if_pos rfl,if_pos rfl];exact congrArg some (h8 bw).1.symm
   | false=>rw [if_neg W0,if_neg W0];rfl
  ·obtain ⟨p,tb,te,t,o,s,v,A⟩:=I.en q (d0 z) e C;exact ⟨p,tb,te,z0q t,z0q o,s,v,z0q A⟩
 ·obtain ⟨W,E⟩:=List.mem_filter.mp Z;have E:=of_decide_eq_true E;rw [K];obtain ⟨L,r',a5,t,o,s,v,A,T,k7,D,k9⟩:=I.op c W;have nj:L≠j:=λ z=>by subst z;rw [N] at o;cases o;exact E (s.symm.trans h3)
  obtain ⟨g,H,_,_,_,g5⟩:=M o;cases g5 nj;refine ⟨L,r',a5,by rw [z3d (f:=λ q=>{ q with a:=if b.w=true then .str "ok" else .int a,e:=some es.length }) (λ _=>rfl)];exact t,H,s,v,A,z0q T,by omega,λ F=>⟨(D F).1,λ P y=>?_⟩,λ a' a4=>?_⟩
  ·rcases List.mem_append.mp y with y|y
   ·exact (D F).2 P y
   ·exact (D F).2 P (by rw [List.mem_singleton.mp y];exact I.nowm)
  ·obtain ⟨p,Y,p2,S⟩:=k9 a' a4;exact ⟨p,Y,by omega,z0q S⟩
noncomputable def tick (fs:List Nat) (m:Nat) (i:Int):Int:=if i < 0 then i + 1 else ((fs[i.toNat]?).getD (m + 1 + i.toNat):Nat)
theorem z9w {i t:Nat} (h:fs[i]? = some t):tick fs m (i:Int)=t:=by unfold tick;rw [if_neg (by omega),M5,h];rfl
theorem RunI.st (I:RunI nm wr es fs l bs us now m):StG (tick fs m) l (dAll 0 [] es):=by
 refine ⟨I.lz,I.cv,λ i j lt=>?_,rfl,λ p w q=>?_,λ r v e x=>?_⟩
 ·unfold tick;have s :∀k:Nat,1<=(fs[k]?).getD (m + 1 + k):=λ k=>by
   cases h:fs[k]? with
   | none=>show 1<=m + 1 + k;omega
   | some t=>exact (I.fm t (d0 h)).1
  by_cases hi:i < 0
  ·rw [if_pos hi];by_cases hj:j < 0
   ·rw [if_pos hj];omega
   ·rw [if_neg hj];have:=s j.toNat;omega
  ·rw [if_neg hi,if_neg (by omega)];have f:i.toNat < j.toNat:=by omega
   generalize i.toNat=a at f;generalize j.toNat=b at f;have:(fs[a]?).getD (m + 1 + a) < (fs[b]?).getD (m + 1 + b):=by
    cases ha:fs[a]? with
    | none=>have:fs[b]? = none:=M3 (by have:=List.getElem?_eq_none_iff.mp ha;omega);rw [this];show m + 1 + a < m + 1 + b;omega
    | some t=>
     cases hb:fs[b]? with
     | none=>have:=(I.fm t (d0 ha)).2;show t < m + 1 + b;omega
     | some u=>obtain ⟨y,rfl⟩:=List.getElem?_eq_some_iff.mp ha;obtain ⟨A,rfl⟩:=List.getElem?_eq_some_iff.mp hb;exact List.pairwise_iff_getElem.mp I.fi a b y A f
   omega
 ·rcases I.tk p w q with z|⟨r,d,c,g,tb,n,o⟩
  ·exact .inl z
  ·exact .inr ⟨r,d,c,g,by rw [z9w n];omega⟩
 ·obtain ⟨p,tb,B,d,c,g,n,o⟩:=I.en r v e x;exact ⟨p,by rw [z9w d];omega,by rw [z9w c];omega,o⟩
end
section
variable {P:Program} {w:Z0} {mg:Str->Option Value} {base:Heap}
noncomputable def xaV (r:Rc):V:=if r.v=.str "read"/\r.e.isSome=true then r.a else r.x
def ActAt (H:Hp) (r:Rc) (y:V):Prop:=∃p,y=.ref p/\H p=some (.lst [r.v,xaV r,r.a,.int r.b,endV r.e])
theorem ActAt.same {H H':Hp} {r:Rc} {y:V} (s:Same H H') (h:ActAt H r y):ActAt H' r y:=h.elim λ p z=>⟨p,z.1,s _ _ z.2⟩
theorem ActAt.wrote {H:Hp} {l:Addr} {o:HO} {r:Rc} {y:V} (n:y≠.ref l) (h:ActAt H r y):ActAt (upd H l o) r y:=h.elim λ p z=>⟨p,z.1,by rw [upd_ne (λ e=>n (by rw [z.1,e]))];exact z.2⟩
noncomputable def EvV:Ev->Prop
 | .beg _ _ v _=>∃z,v=.str z
 | .fin _ _=>True
def z31 (K:c0):Sp:=λ vs H Q _=>∃(te:Addr) (es:List Ev) (ys:List V),vs=[.ref te]/\SqL K H te ys/\All2 (EvAt K H) es ys/\es.length<=100/\dWf 0 [] es/\(∀e∈es,EvV e)/\∀l zs H',Same H H'->H' l=some (.lst zs)->All2 (ActAt H') (dAll 0 [] es) zs->Q (.ref l) H'
theorem z58 (T:TX (kx w) mg):Fo P w mg base CX0 1 202 y0f ["events"] (z31 (kx w)):=by
 refine (z1x w.params).ok sc__law_deeds (λ vs H Q E h=>?_) (λ d8 A d7 s H vs Q E hr h=>?_)
 ·obtain ⟨te,u,ys,rfl,_⟩:=h;rfl
 ·obtain ⟨te,u,ys,rfl,se,al,hl,wf,c8,q⟩:=h;refine ⟨_,(z05 (ps_set (i:=1) sc__law_deeds.nd rfl (S0 rfl) (pe_lst pa_nil))
   (z05 (ps_set (i:=2) sc__law_deeds.nd rfl (S0 rfl) z6p)
   (z05 (ps_for X1 rfl (z9t rfl (T.no (z2i _)) (z00 (pv 0) pa_nil)) (pg_tup rfl (z0b (z0f (i:=3) sc__law_deeds.nd rfl (S0 rfl)) (z0b (z0f (i:=4) sc__law_deeds.nd rfl (S0 rfl)) z11)))
   (z06 (ps_if (z07 opEq (pe_ix ix_seq (pv 4) pe_int (λ _ _=>rfl)) pe_str (nomark _))
   (z05 (z41 (hu_of hr) (pv 2) (pe_ix ix_seq (pv 4) pe_int (λ _ _=>rfl)) (z0n z28 rfl (T.no (n_len _)) T5 (z00 (pv 1) pa_nil)) rfl)
   (z06 (z2g (z0z (pv 1) (z00 (pe_lst (z00 (pe_ix ix_seq (pv 4) pe_int (λ _ _=>rfl)) (z00 (pe_ix ix_seq (pv 4) pe_int (λ _ _=>rfl)) (z00 pe_non (z00 (pv 3) (z00 pe_non pa_nil)))))) pa_nil)))))
   (z05 (ps_set (i:=5) sc__law_deeds.nd rfl (S0 rfl) (pe_ix ix_seq (pv 1) (z1g (hu_of hr) (pv 2) (pe_ix ix_seq (pv 4) pe_int (λ _ _=>rfl)) (λ _ _=>rfl)) (λ _ _=>rfl)))
   (z05 (ps_asg (pv 3) (pg_sub (pv 5) pe_int z1z))
   (z05 (ps_asg (pe_ix ix_seq (pv 4) pe_int (λ _ _=>rfl)) (pg_sub (pv 5) pe_int z1z))
   (z06 (ps_if (z07 opEq (pe_ix ix_seq (pv 5) pe_int (λ _ _=>rfl)) pe_str (nomark _))
   (z06 (ps_asg (pe_ix ix_seq (pv 4) pe_int (λ _ _=>rfl)) (pg_sub (pv 5) pe_int z1z)))
   z0g))))))))
   (z06 (ps_ret (pv 1)))))),?_⟩
  refine ⟨w_0,λ l b4=>?_⟩;intro d a9;have a1:l≠d:=z0d z02 a9;have d1:H d=none:=by rwa [upd_ne a1.symm] at a9
  have s2:Same H (upd (upd H l (.lst [])) d (.dK [])):=(Same.upd b4).trans (Same.upd a9);have M:upd (upd H l (.lst [])) d (.dK []) l=some (.lst []):=by rw [upd_ne a1];exact z02
  have C:upd (upd H l (.lst [])) d (.dK []) d=some (.dK []):=z02;generalize upd (upd H l (.lst [])) d (.dK [])=H2 at s2 M C⊢;have c5:=z03 al;refine ⟨_,rfl,te,ys,rfl,s2.seq se,?_⟩;refine zb0 (K:=KX w.params) (a:=te) (xs:=ys) (λ i σ U=>∃rs c t,U l=some (.lst c)/\All2 (ActAt U) rs c/\c.Nodup/\(∀p,V.ref p∈c->p≠l/\H p=none)/\U d=some (.dK t)/\t.length<=i/\rs.length<=i/\(∀h,valV t (.inl h)=(lastI h (rs.map Rc.h)).map λ j=>V.int (j:Nat))/\dAll i rs (u.drop i)=dAll 0 [] u/\dWf i rs (u.drop i)/\(∀(k:Nat) (r:Rc),rs[k]? = some r->∃z,r.v=V.str z)/\Same H U/\∃x3 x4 x5,σ=[some (.ref te),some (.ref l),some (.ref d),x3,x4,x5])
   ⟨[],[],[],M,.nil,.nil,λ _ z=>absurd z B0,C,y0 _,y0 _,λ h=>rfl,by rw [E5],by rw [E5];exact wf,(λ k r z=>by simp at z),s2,_,_,_,rfl⟩ (λ i σ U h=>?_) ?_ ?_
  ·obtain ⟨rs,c,t,_,_,_,_,_,_,_,_,_,_,_,s',_⟩:=h;exact s'.seq se
  ·rintro i y σ H3 pe hy ⟨rs,c,t,el3,ar3,nd,nzl,ed3,hk,hr',hv,B,dw,rv,s3,x3,x4,x5,rfl⟩ hpe;obtain ⟨e,he,ev⟩:=z09 al hy;obtain ⟨b7,ee⟩:=List.getElem?_eq_some_iff.mp he;have dr:u.drop i=e :: u.drop (i + 1):=by rw [d5 b7,ee]
   rw [dr] at B dw;have q4:=Same.upd (o:=.tup [.int i,y]) hpe;have s4:=s3.trans q4;have a0:=q4 _ _ el3;have L:=q4 _ _ ed3;have O:=z01 (λ a b z=>ActAt.same q4 z) ar3;have b5:upd H3 pe (.tup [.int i,y]) pe=some (.tup [.int i,y]):=z02;generalize upd H3 pe (.tup [.int i,y])=H4 at q4 s4 a0 L O b5⊢;have b3:=EvAt.tups (.of s4) ev;have d9:i < 100:=X0 b7 hl;have lz:c.length=rs.length:=z03 O;refine ⟨pe,_,rfl,SqT.of b5,rfl,.int i,_,rfl,y,_,rfl,rfl,?_⟩;cases e with
   | beg h n v x=>
    obtain ⟨D,rfl,I⟩:=b3;refine ⟨_,rfl,.inr (.inl ⟨D,_,0,.str "begin",rfl,rfl,I,z04 (j:=0) rfl,rfl,_,rfl,iteP (decide_eq_true rfl) ?_⟩)⟩;refine ⟨_,rfl,.inl ⟨l,c,rfl,.inl (SqL.of a0),⟨_,rfl,⟨_,rfl,.inr (.inl ⟨D,_,1,.int h,rfl,rfl,I,z04 (j:=1) rfl,d,_,rfl,DPut.k (k:=.inl h) L (W1 (m:=100) (by omega) (by decide)),?_⟩)⟩⟩⟩⟩;have Z:Tups (kx w) H4 (upd H4 d (.dK (putK t (.inl h) (.int (c.length:Nat))))):=Tups.dict L;have s5:=Same.keep (o:=.dK (putK t (.inl h) (.int (c.length:Nat)))) s4 d1;have a2:upd H4 d (.dK (putK t (.inl h) (.int (c.length:Nat)))) l=some (.lst c):=by rw [upd_ne a1];exact a0
    have b6:upd H4 d (.dK (putK t (.inl h) (.int (c.length:Nat)))) d=some (.dK (putK t (.inl h) (.int (c.length:Nat)))):=z02;have a8:All2 (ActAt (upd H4 d (.dK (putK t (.inl h) (.int (c.length:Nat)))))) rs c:=z01 (λ a b z=>z.wrote (λ e=>by obtain ⟨p,M,C⟩:=z;rw [M] at e;cases e;rw [L] at C;cases C)) O;generalize upd H4 d (.dK (putK t (.inl h) (.int (c.length:Nat))))=H5 at Z s5 a2 b6 a8⊢;have W:=Z _ _ I;refine ⟨_,rfl,.inl ⟨rfl,c,SqL.of a2⟩,?_⟩;refine ⟨_,rfl,.inr (.inl ⟨D,_,3,v,rfl,rfl,W,z04 (j:=3) rfl,_,rfl,.inr (.inl ⟨D,_,4,x,rfl,rfl,W,z04 (j:=4) rfl,_,rfl,w_5,λ G R=>?_⟩)⟩)⟩;have Y:=Same.upd (o:=.lst [v,x,.non,.int (i:Nat),.non]) R;have e6:upd H5 G (.lst [v,x,.non,.int (i:Nat),.non]) G=some (.lst [v,x,.non,.int (i:Nat),.non]):=z02;have fr :∀z∈c,z≠.ref G:=λ z hz e=>by obtain ⟨m,hm⟩:=List.mem_iff_getElem?.mp hz;obtain ⟨_,_,p,M,C⟩:=z09 a8 hm;rw [M] at e;cases e;rw [R] at C;cases C
    have b9:G≠l:=λ z=>by rw [z,a2] at R;cases R
    generalize upd H5 G (.lst [v,x,.non,.int (i:Nat),.non])=H6 at Y e6⊢;have c2:=Y _ _ a2;have c7:=Y _ _ b6;have d3:=z01 (λ a b z=>ActAt.same Y z) a8;refine ⟨l,c,_,rfl,rfl,c2,W1 (m:=100) (by omega) (by decide),?_⟩;refine ⟨rs++[⟨h,n,v,x,.non,i,none⟩],c++[.ref G],putK t (.inl h) (.int (c.length:Nat)),z02,?_,?_,?_,?_,?_,?_,?_,(show dAll (i + 1) (dstep i rs (.beg h n v x)) _=_ from B),dw.2,?_,Same.keep (s5.trans Y) b4,_,_,_,rfl⟩
    ·refine z0v ?_ ⟨G,rfl,by rw [upd_ne b9,e6];unfold xaV;rw [if_neg (λ z=>by cases z.2)];rfl⟩;refine z44 (λ a b hb z=>ActAt.wrote (λ e=>(nzl l (e ▸ hb)).1 rfl) z) d3
    ·rw [u8];refine ⟨nd,by simp,λ a ha b hb=>?_⟩;rw [List.mem_singleton.mp hb];exact fr a ha
    ·intro p hz;rcases List.mem_append.mp hz with y|y
     ·exact nzl p y
     ·have e:=List.mem_singleton.mp y;cases e;exact ⟨b9,s5.free R⟩
    ·rw [upd_ne a1.symm];exact c7
    ·exact D0 za8 (by omega)
    ·rw [F0];show rs.length + 1<=i + 1;omega
    ·intro k;rw [z9o,V0];show _=Option.map _ (lastI k (rs.map Rc.h++[h]));rw [z0y,A0,lz];by_cases z:h=k
     ·rw [if_pos z,if_pos (by rw [z])];rfl
     ·rw [if_neg z,if_neg (λ y=>z (W2 y).symm)];exact hv k
    ·intro k r F;by_cases z:k < rs.length
     ·rw [Y0 z] at F;exact rv k r F
     ·rw [F1 (Nat.not_lt.mp z)] at F;have F:=List.mem_singleton.mp (d0 F);rw [F];exact c8 _ (d0 he)
   | fin h a=>
    obtain ⟨D,rfl,I⟩:=b3;obtain ⟨j,hj⟩:=Option.isSome_iff_exists.mp (dw.1 h a rfl);have d2:valV t (.inl h)=some (.int (j:Nat)):=by rw [hv h,hj];rfl
    have c4:j < rs.length:=by have:=z4e hj;rwa [A0] at this
    have b0:rs[j]? = some rs[j]:=P0 c4;obtain ⟨yj,S,g,rfl,ej⟩:=z38 O b0;have c6:DGet H4 d (.int h) (some (.int (j:Nat))):=d2 ▸ DGet.k (k:=.inl h) L;refine ⟨_,rfl,.inr (.inl ⟨D,_,0,.str "end",rfl,rfl,I,z04 (j:=0) rfl,rfl,_,rfl,iteK ?_⟩)⟩;obtain ⟨d6,c3⟩:=nzl g (d0 S);have c9:g≠d:=λ z=>by rw [z,L] at ej;cases ej
    refine ⟨_,rfl,_,rfl,_,rfl,.inr (.inl ⟨D,_,1,.int h,rfl,rfl,I,z04 (j:=1) rfl,d,_,rfl,c6,.inl ⟨l,c,j,.ref g,rfl,rfl,SqL.of a0,z04 S,?_⟩⟩)⟩;refine ⟨_,rfl,_,rfl,g,_,4,4,rfl,rfl,ej,rfl,?_⟩;rw [show [rs[j].v,xaV rs[j],rs[j].a,V.int rs[j].b,endV rs[j].e].set 4 (.int (i:Nat))=[rs[j].v,xaV rs[j],rs[j].a,.int rs[j].b,.int (i:Nat)] from rfl];have k5:KeptL [g] H4 (upd H4 g (.lst [rs[j].v,xaV rs[j],rs[j].a,.int rs[j].b,.int (i:Nat)])):=KeptL.set (by simp);have Z:Tups (kx w) H4 (upd H4 g (.lst [rs[j].v,xaV rs[j],rs[j].a,.int rs[j].b,.int (i:Nat)])):=Tups.lst ej;have a7:upd H4 g (.lst [rs[j].v,xaV rs[j],rs[j].a,.int rs[j].b,.int (i:Nat)]) g=some (.lst [rs[j].v,xaV rs[j],rs[j].a,.int rs[j].b,.int (i:Nat)]):=z02;generalize upd H4 g (.lst [rs[j].v,xaV rs[j],rs[j].a,.int rs[j].b,.int (i:Nat)])=H5 at k5 Z a7⊢;have W:=Z _ _ I;refine ⟨_,rfl,.inr (.inl ⟨D,_,2,a,rfl,rfl,W,z04 (j:=2) rfl,?_⟩)⟩;refine ⟨_,rfl,g,_,2,2,rfl,rfl,a7,rfl,?_⟩;rw [show [rs[j].v,xaV rs[j],rs[j].a,V.int rs[j].b,.int (i:Nat)].set 2 a=[rs[j].v,xaV rs[j],a,.int rs[j].b,.int (i:Nat)] from rfl];have k6:KeptL [g] H5 (upd H5 g (.lst [rs[j].v,xaV rs[j],a,.int rs[j].b,.int (i:Nat)])):=KeptL.set (by simp);have t6:Tups (kx w) H5 (upd H5 g (.lst [rs[j].v,xaV rs[j],a,.int rs[j].b,.int (i:Nat)])):=Tups.lst a7;have a3:upd H5 g (.lst [rs[j].v,xaV rs[j],a,.int rs[j].b,.int (i:Nat)]) g=some (.lst [rs[j].v,xaV rs[j],a,.int rs[j].b,.int (i:Nat)]):=z02;generalize upd H5 g (.lst [rs[j].v,xaV rs[j],a,.int rs[j].b,.int (i:Nat)])=H6 at k6 t6 a3⊢;have b8:=k5.trans k6;have hd:dstep i rs (.fin h a)=rs.modify j (λ r=>{ r with a:=a,e:=some i }):=by unfold dstep;dsimp only;rw [hj]
    have B:dAll (i + 1) (dstep i rs (.fin h a)) (u.drop (i + 1))=_:=B;have b2:dWf (i + 1) (dstep i rs (.fin h a)) (u.drop (i + 1)):=dw.2;rw [hd] at B b2;have fin :∀J,KeptL [g] H4 J->J g=some (.lst [rs[j].v,xaV { rs[j] with a:=a,e:=some i },a,.int rs[j].b,.int (i:Nat)])->∃rs' c t,J l=some (.lst c)/\All2 (ActAt J) rs' c/\c.Nodup/\(∀p,V.ref p∈c->p≠l/\H p=none)/\J d=some (.dK t)/\t.length<=i + 1/\rs'.length<=i + 1/\(∀h,valV t (.inl h)=(lastI h (rs'.map Rc.h)).map λ j=>V.int (j:Nat))/\dAll (i + 1) rs' (u.drop (i + 1))=dAll 0 [] u/\dWf (i + 1) rs' (u.drop (i + 1))/\(∀(k:Nat) (r:Rc),rs'[k]? = some r->∃z,r.v=V.str z)/\Same H J:=by
     intro J kx ex;refine ⟨rs.modify j (λ r=>{ r with a:=a,e:=some i }),c,t,kx _ _ (by simp [d6.symm]) a0,?_,nd,nzl,kx _ _ (by simp [c9.symm]) L,by omega,by rw [E6];omega,?_,B,b2,?_,?_⟩
     ·refine z3y (by rw [E6];exact z03 O) λ k r y hk a4=>?_;rw [A1] at hk;obtain ⟨r',X,N⟩:=Option.map_eq_some_iff.mp hk;obtain ⟨y2,c0,p2,rfl,C⟩:=z38 O X;rw [a4] at c0;cases c0;by_cases z:j=k
      ·subst z;rw [S] at a4;cases a4;rw [if_pos rfl] at N;rw [b0] at X;cases X;subst N;exact ⟨g,rfl,ex⟩
      ·rw [if_neg z] at N;subst N;refine ⟨p2,rfl,kx _ _ (λ e=>z ?_) C⟩;have e:=List.mem_singleton.mp e;subst e;have h1:j < c.length:=(List.getElem?_eq_some_iff.mp S).1;exact (List.getElem?_inj h1 nd).mp (S.trans a4.symm)
     ·intro k;rw [z3d (f:=λ r=>{ r with a:=a,e:=some i }) (λ r=>rfl)];exact hv k
     ·intro k r F;rw [A1] at F;obtain ⟨r',X,N⟩:=Option.map_eq_some_iff.mp F;obtain ⟨z',c1⟩:=rv k r' X;refine ⟨z',?_⟩;rw [<-N];by_cases z:j=k
      ·rw [if_pos z];exact c1
      ·rw [if_neg z];exact c1
     ·intro b o e;exact kx b o (λ z=>by rw [List.mem_singleton.mp z,c3] at e;cases e) (s4 b o e)
    obtain ⟨z0,d4⟩:=rv j _ b0;refine ⟨_,rfl,.inl ⟨g,_,0,rs[j].v,rfl,rfl,SqL.of a3,z04 (j:=0) rfl,by rw [d4];rfl,_,rfl,?_⟩⟩;by_cases z:rs[j].v=.str "read"
    ·refine iteP (decide_eq_true z) ?_;refine ⟨_,rfl,.inr (.inl ⟨D,_,2,a,rfl,rfl,t6 _ _ W,z04 (j:=2) rfl,?_⟩)⟩;refine ⟨_,rfl,g,_,1,1,rfl,rfl,a3,rfl,?_⟩;rw [show [rs[j].v,xaV rs[j],a,V.int rs[j].b,.int (i:Nat)].set 1 a=[rs[j].v,a,a,.int rs[j].b,.int (i:Nat)] from rfl];have xa:xaV { rs[j] with a:=a,e:=some i }=a:=by unfold xaV;rw [if_pos ⟨z,rfl⟩]
     obtain ⟨r1,r2,r3,f⟩:=fin (upd H6 g (.lst [rs[j].v,a,a,.int rs[j].b,.int (i:Nat)])) (b8.trans (KeptL.set (by simp))) (by rw [xa];exact z02);obtain ⟨g1,g2,g3,g4,g5,g6,g7,g8,g9,a5,b1,a6⟩:=f;exact ⟨r1,r2,r3,g1,g2,g3,g4,g5,g6,g7,g8,g9,a5,b1,a6,_,_,_,rfl⟩
    ·refine iteN (λ e=>z (of_decide_eq_true e)) ?_;have xa:xaV { rs[j] with a:=a,e:=some i }=xaV rs[j]:=by unfold xaV;rw [if_neg (λ y=>z y.1),if_neg (λ y=>z y.1)]
     obtain ⟨r1,r2,r3,f⟩:=fin _ b8 (by rw [xa];exact a3);obtain ⟨g1,g2,g3,g4,g5,g6,g7,g8,g9,a5,b1,a6⟩:=f;exact ⟨r1,r2,r3,g1,g2,g3,g4,g5,g6,g7,g8,g9,a5,b1,a6,_,_,_,rfl⟩
  ·rintro σ H3 ⟨rs,c,t,el,ar,_,_,_,_,_,_,B,_,_,s3,x3,x4,x5,rfl⟩;have:u.drop ys.length=[]:=by rw [c5];exact List.drop_length
   rw [this] at B;have B:rs=dAll 0 [] u:=B;rw [<-B] at q;exact ⟨_,rfl,q l c H3 s3 el ar⟩
structure Evs (K:c0) (H:Hp) (te:Addr) (wr:Int) (es:List Ev) (ys:List V) (rs:List Rc):Prop where
 t:SqL K H te ys
 a:All2 (EvAt K H) es ys
 S:Sq1 wr es rs
 v :∀e∈es,EvV e
 n:es.length<=63
theorem Evs.same {K:c0} {H H':Hp} {te:Addr} {wr:Int} {es:List Ev} {ys:List V} {rs:List Rc} (s:Same H H') (h:Evs K H te wr es ys rs):Evs K H' te wr es ys rs:=⟨s.seq h.t,z01 (λ _ _ z=>EvAt.tups (.of s) z) h.a,h.S,h.v,h.n⟩
noncomputable def OvAt (K:c0) (H:Hp):Option Rc->V->Prop
 | none,v=>v=.non
 | some w,v=>∃p,v=.ref p/\SqT K H p [.str "begin",.int w.h,w.n,w.v,w.x]
theorem Sq1.wx {wr:Int} {es:List Ev} {rs:List Rc} (S:Sq1 wr es rs) {w:Rc} (h:w∈rs) (hw:isW w=true):w.x=.int (intV w.x):=by
 rcases S.G w h with g|g
 ·rw [g.w] at hw;cases hw
 ·exact g.2.2.1
def z3i (K:c0):Sp:=λ vs H Q _=>∃(te:Addr) (rb:Nat) (wr:Int) (es:List Ev) (ys:List V) (rs:List Rc),vs=[.ref te,.int rb]/\Evs K H te wr es ys rs/\rb<=es.length/\∀x,LastI rs rb x->Q (.int x) H
theorem z6l (T:TX (kx w) mg):Fo P w mg base CX0 1 209 y0l ["events","begin"] (z3i (kx w)):=by
 refine (z2l w.params).ok sc__law_last (λ N H Q E h=>?_) (λ a3 A a2 s H N Q E hr h=>?_)
 ·obtain ⟨D,u,O,G,r,rs,rfl,_⟩:=h;rfl
 ·obtain ⟨D,u,O,G,r,rs,rfl,l,hb,q⟩:=h;refine ⟨_,(z05 (ps_set (i:=2) sc__law_last.nd rfl (S0 rfl) pe_int)
   (z05 (ps_set (i:=3) sc__law_last.nd rfl (S0 rfl) pe_non)
   (z05 (ps_for X1 rfl (z4y rfl (T.no (z80 _)) (z00 (pv 1) pa_nil)) (z0f (i:=4) sc__law_last.nd rfl (S0 rfl))
   (z05 (ps_set (i:=5) sc__law_last.nd rfl (S0 rfl) (pe_ix ix_seq (pv 0) (pv 4) (λ _ _=>rfl)))
   (z06 (ps_if (PW.pt (pw_and (z07 opEq (pe_ix ix_seq (pv 5) pe_int (λ _ _=>rfl)) pe_str (nomark _)) (z1a (z07 opEq (pe_ix ix_seq (pv 5) pe_int (λ _ _=>rfl)) pe_str (nomark _)))))
   (z06 (ps_set (i:=3) sc__law_last.nd rfl (S0 rfl) (pv 5)))
   (z06 (ps_if (PW.pt (pw_and (z07 opEq (pe_ix ix_seq (pv 5) pe_int (λ _ _=>rfl)) pe_str (nomark _)) (pw_and (z07 z1v (pv 3) pe_non (nomark _)) (z1a (z07 opEq (pe_ix ix_seq (pv 5) pe_int (λ _ _=>rfl)) (pe_ix ix_seq (pv 3) pe_int (λ _ _=>rfl)) (nomark _))))))
   (z05 (ps_set (i:=2) sc__law_last.nd rfl (S0 rfl) (pe_ix ix_seq (pv 3) pe_int (λ _ _=>rfl)))
   (z06 (ps_set (i:=3) sc__law_last.nd rfl (S0 rfl) pe_non)))
   z0g))))))
   (z06 (ps_ret (pv 2)))))),?_⟩
  have ln:=l.n;have ly:r.length=G.length:=z03 l.a;have S:=l.S;refine z0a ?_;refine g_name ?_;refine z0a ?_;refine g_name ?_;refine ⟨_,rfl,u,rfl,by omega,by omega,?_⟩;refine z53 (lo:=0) (n:=u) (λ i σ I=>I=H/\∃(x:Int) (o:Option Rc) (ov:V),LastI rs i x/\OpI rs i o/\OvAt (kx w) H o ov/\∃x4 x5,σ=[some (.ref D),some (.int (u:Nat)),some (.int x),some ov,x4,x5])
   ⟨rfl,0,none,.non,LastI.zero,λ w f=>absurd f.2.2.1 (O2 _),rfl,_,_,rfl⟩ ?_ ?_
  ·rintro i σ I hi ⟨rfl,x,o,ov,la,op,m,x4,x5,rfl⟩;rw [Y9];have a1:i < G.length:=by omega
   have B:r[i]? = some (r[i]'(by omega)):=P0 (by omega);generalize r[i]'(by omega)=y at B;obtain ⟨e,d,L⟩:=z09 l.a B;refine g_name ?_;refine z0a ?_;refine ⟨_,rfl,_,rfl,.inl ⟨D,r,_,y,rfl,rfl,l.t,z04 B,?_⟩⟩;refine g_name ?_;cases e with
   | beg h n v x1=>
    obtain ⟨c,rfl,g⟩:=L;obtain ⟨z,rfl⟩:=l.v _ (d0 d);refine ⟨_,rfl,.inr (.inl ⟨c,_,0,.str "begin",rfl,rfl,g,z04 (j:=0) rfl,rfl,_,rfl,iteP (by decide +kernel) ?_⟩)⟩;refine ⟨_,rfl,.inr (.inl ⟨c,_,3,.str z,rfl,rfl,g,z04 (j:=3) rfl,rfl,_,rfl,?_⟩)⟩;by_cases hz:z = "write"
    ·subst hz;refine iteP (decide_eq_true rfl) ⟨_,rfl,?_⟩;obtain ⟨k,F,a4,W,a0,M⟩:=S.begW d;refine ⟨rfl,x,some k,.ref c,la.on λ w f _=>S.noE d w f,F,⟨c,rfl,?_⟩,_,_,rfl⟩;rw [W,a0,M,(S.wh F.1 F.2.1).2];exact g
    ·refine iteN (λ e=>hz (by have:=of_decide_eq_true e;injection this)) ?_;refine ⟨_,rfl,.inr (.inl ⟨c,_,0,.str "begin",rfl,rfl,g,z04 (j:=0) rfl,rfl,_,rfl,iteK (iteN (by decide) ?_)⟩)⟩;have U:=S.noW d (λ e=>hz (by injection e));exact ⟨rfl,x,o,ov,la.on λ w f _=>S.noE d w f,op.on U λ w f _=>S.noE d w f,m,_,_,rfl⟩
   | fin h a=>
    obtain ⟨c,rfl,g⟩:=L;have Y :∀w∈rs,isW w=true->w.b≠i:=λ w f _=>S.noB d w f;have keep:(∀w,o=some w->h≠w.h)->LastI rs (i + 1) x/\OpI rs (i + 1) o:=λ Z=>by have ne:=S.finN d op Z;exact ⟨la.on ne,op.on Y ne⟩
    refine ⟨_,rfl,.inr (.inl ⟨c,_,0,.str "end",rfl,rfl,g,z04 (j:=0) rfl,rfl,_,rfl,iteK (iteN (by decide) ?_)⟩)⟩;refine ⟨_,rfl,.inr (.inl ⟨c,_,0,.str "end",rfl,rfl,g,z04 (j:=0) rfl,rfl,_,rfl,iteP (by decide +kernel) ?_⟩)⟩;cases o with
    | none=>
     have m:ov=.non:=m;subst m;obtain ⟨C,J⟩:=keep λ _ z=>by cases z
     exact ⟨_,rfl,rfl,_,rfl,iteN (by decide) (iteN (by decide) ⟨rfl,x,none,.non,C,J,rfl,_,_,rfl⟩)⟩
    | some k=>
     obtain ⟨p,rfl,K⟩:=m;refine ⟨_,rfl,rfl,_,rfl,iteP (by simp) ?_⟩;refine ⟨_,rfl,.inr (.inl ⟨c,_,1,.int h,rfl,rfl,g,z04 (j:=1) rfl,?_⟩)⟩;refine ⟨_,rfl,.inr (.inl ⟨p,_,1,.int k.h,rfl,rfl,K,z04 (j:=1) rfl,rfl,_,rfl,?_⟩)⟩;by_cases hz:h=k.h
     ·subst hz;refine iteP (decide_eq_true rfl) ?_;obtain ⟨R,X⟩:=S.finY d op;refine z0a ?_;refine ⟨_,rfl,.inr (.inl ⟨p,_,4,.int (intV k.x),rfl,rfl,K,by rw [<-S.wx op.1 op.2.1];exact z04 (j:=4) rfl,?_⟩)⟩;refine g_name ?_;exact ⟨rfl,intV k.x,none,.non,S.lastY op.1 op.2.1 R,X,rfl,_,_,rfl⟩
     ·refine iteN (λ e=>hz (by have:=of_decide_eq_true e;injection this)) ?_;obtain ⟨C,J⟩:=keep λ w1 z=>by cases z;exact hz
      exact ⟨rfl,x,some k,.ref p,C,J,⟨p,rfl,K⟩,_,_,rfl⟩
  ·rintro σ I ⟨rfl,x,o,ov,la,op,m,x4,x5,rfl⟩;exact ⟨_,rfl,q x la⟩
def z2f (K:c0):Sp:=λ vs H Q _=>∃(te:Addr) (rb re:Nat) (wr:Int) (es:List Ev) (ys:List V) (rs:List Rc),vs=[.ref te,.int rb,.int re]/\Evs K H te wr es ys rs/\rb < re/\re<=es.length/\(∃h n x,es[rb]? = some (.beg h n (.str "read") x))/\∀l (fs:List Int) H',Same H H'->H' l=some (.lst (fs.map V.int))->fs.length<=200->(∀x,x∈fs↔BesI rs rb re x)->Q (.ref l) H'
theorem z4b (T:TX (kx w) mg):Fo P w mg base CX0 1 216 y08 ["events","begin","end"] (z2f (kx w)):=by
 refine (z1m w.params).ok sc__law_beside (λ vs H Q E h=>?_) (λ a9 A a8 s H vs Q E hr h=>?_)
 ·obtain ⟨L,f,J,wr,R,G,rs,rfl,_⟩:=h;rfl
 ·obtain ⟨L,f,J,wr,R,G,rs,rfl,C,b0,hb,⟨hh,hn,hx,a1⟩,q⟩:=h;refine ⟨_,(z05 (ps_set (i:=3) sc__law_beside.nd rfl (S0 rfl) (pe_lst pa_nil))
   (z05 (ps_set (i:=4) sc__law_beside.nd rfl (S0 rfl) pe_non)
   (z05 (ps_for X1 rfl (z4y rfl (T.no (z80 _)) (z00 (pv 2) pa_nil)) (z0f (i:=5) sc__law_beside.nd rfl (S0 rfl))
   (z05 (ps_set (i:=6) sc__law_beside.nd rfl (S0 rfl) (pe_ix ix_seq (pv 0) (pv 5) (λ _ _=>rfl)))
   (z05 (ps_if (PW.pt (pw_and (z07 opEq (pe_ix ix_seq (pv 6) pe_int (λ _ _=>rfl)) pe_str (nomark _)) (z1a (z07 opEq (pe_ix ix_seq (pv 6) pe_int (λ _ _=>rfl)) pe_str (nomark _)))))
   (z05 (ps_set (i:=4) sc__law_beside.nd rfl (S0 rfl) (pv 6))
   (z06 (ps_if (z07 op_gt (pv 5) (pv 1) (nomark _))
   (z06 (z2g (z0z (pv 3) (z00 (pe_ix ix_seq (pv 6) pe_int (λ _ _=>rfl)) pa_nil))))
   z0g)))
   (z06 (ps_if (PW.pt (pw_and (z07 opEq (pe_ix ix_seq (pv 6) pe_int (λ _ _=>rfl)) pe_str (nomark _)) (pw_and (z07 z1v (pv 4) pe_non (nomark _)) (z1a (z07 opEq (pe_ix ix_seq (pv 6) pe_int (λ _ _=>rfl)) (pe_ix ix_seq (pv 4) pe_int (λ _ _=>rfl)) (nomark _))))))
   (z06 (ps_set (i:=4) sc__law_beside.nd rfl (S0 rfl) pe_non))
   z0g)))
   (z06 (ps_if (PW.pt (pw_and (z07 opEq (pv 5) (pv 1) (nomark _)) (z1a (z07 z1v (pv 4) pe_non (nomark _)))))
   (z06 (z2g (z0z (pv 3) (z00 (pe_ix ix_seq (pv 4) pe_int (λ _ _=>rfl)) pa_nil))))
   z0g)))))
   (z06 (ps_ret (pv 3)))))),?_⟩
  have ln:=C.n;have ly:G.length=R.length:=z03 C.a;have S:=C.S;refine z0a ?_;refine ⟨w_0,λ r W=>?_⟩;refine g_name ?_;have s0:=Same.upd (o:=.lst []) W;have Z:upd H r (.lst []) r=some (.lst (([]:List Int).map V.int)):=z02;generalize upd H r (.lst [])=H0 at s0 Z⊢;refine z0a ?_;refine g_name ?_;refine ⟨_,rfl,J,rfl,by omega,by omega,?_⟩;refine z53 (lo:=0) (n:=J) (λ i σ H'=>Same H H'/\∃(fs:List Int) (o:Option Rc) (ov:V),H' r=some (.lst (fs.map V.int))/\fs.length<=i + i/\(∀x,x∈fs↔BesI rs f i x)/\OpI rs i o/\OvAt (kx w) H o ov/\∃x5 x6,σ=[some (.ref L),some (.int (f:Nat)),some (.int (J:Nat)),some (.ref r),some ov,x5,x6])
   ⟨s0,[],none,.non,Z,A2 _,λ x=>⟨λ z=>absurd z B0,λ z=>absurd z (BesI.le (A2 _))⟩,λ w B=>absurd B.2.2.1 (O2 _),rfl,_,_,rfl⟩ ?_ ?_
  ·rintro i σ H1 hi ⟨s1,fs,o,ov,el,lf2,bs,op,F,x5,x6,rfl⟩;rw [Y9];have b3:i < R.length:=by omega
   have N:G[i]? = some (G[i]'(by omega)):=P0 (by omega);generalize G[i]'(by omega)=y at N;obtain ⟨e,c,ea⟩:=z09 C.a N;refine g_name ?_;refine z0a ?_;refine ⟨_,rfl,_,rfl,.inl ⟨L,G,_,y,rfl,rfl,s1.seq C.t,z04 N,?_⟩⟩;refine g_name ?_;refine z78 (λ Y X=>Same H X/\∃(fs:List Int) (o:Option Rc) (ov:V),X r=some (.lst (fs.map V.int))/\fs.length<=i + i + 1/\(i≠f->∀x,x∈fs↔BesI rs f (i + 1) x)/\(i=f->(∀x,x∉fs)/\OpI rs i o/\∀w∈rs,w.e≠some i)/\OpI rs (i + 1) o/\OvAt (kx w) H o ov/\Y=[some (.ref L),some (.int (f:Nat)),some (.int (J:Nat)),some (.ref r),some ov,some (.int (i:Nat)),some y]) ?_ (λ D=>?_);rotate_left
   ·have z0:i=f->∀x,x∉fs:=λ e x hx=>BesI.le (B6 e) ((bs x).mp hx);cases e with
    | beg h n v x1=>
     obtain ⟨g,rfl,M⟩:=ea;obtain ⟨z,rfl⟩:=C.v _ (d0 c);have u:=s1.seqT M;refine ⟨_,rfl,.inr (.inl ⟨g,_,0,.str "begin",rfl,rfl,u,z04 (j:=0) rfl,rfl,_,rfl,iteP (by decide +kernel) ?_⟩)⟩;refine ⟨_,rfl,.inr (.inl ⟨g,_,3,.str z,rfl,rfl,u,z04 (j:=3) rfl,rfl,_,rfl,?_⟩)⟩;by_cases hz:z = "write"
     ·subst hz;refine iteP (decide_eq_true rfl) ?_;obtain ⟨d,l,a0,a2,a5,a4⟩:=S.begW c;have k:i≠f:=λ e=>by rw [e,a1] at c;injection c with c;injection c with _ _ c _;exact absurd c (by decide +kernel)
      have a3:OvAt (kx w) H (some d) (.ref g):=⟨g,rfl,by rw [a2,a5,a4,(S.wh l.1 l.2.1).2];exact M⟩
      have a7:x1=.int (intV d.x):=by rw [<-S.wx l.1 l.2.1,a2]
      refine z0a ?_;refine ⟨_,rfl,?_⟩;refine g_name ?_;refine ⟨_,rfl,_,rfl,_,_,rfl,rfl,_,rfl,?_⟩;by_cases hgt:f < i
      ·refine iteP (decide_eq_true (by omega)) ?_;refine ⟨_,rfl,.inl ⟨rfl,_,SqL.of el⟩,_,rfl,.inr (.inl ⟨g,_,4,.int (intV d.x),rfl,rfl,u,by rw [<-a7];exact z04 (j:=4) rfl,r,_,_,rfl,rfl,el,W1 (m:=200) (by rw [A0];omega) (by decide),?_⟩)⟩;refine D _ _ ⟨Same.keep s1 W,fs++[intV d.x],some d,.ref g,by rw [V0];exact z02,by rw [F0];show fs.length + 1<=_;omega,λ _ x=>?_,λ e=>absurd e k,l,a3,rfl⟩;rw [S.besW l.1 l.2.1 a0 k,List.mem_append,bs x,Y7];exact ⟨λ z=>z.imp id λ y=>⟨hgt,y⟩,λ z=>z.imp id λ y=>y.2⟩
      ·refine iteN (λ e=>hgt (by have:=of_decide_eq_true e;omega)) ?_;refine D _ _ ⟨s1,fs,some d,.ref g,el,by omega,λ _ x=>?_,λ e=>absurd e k,l,a3,rfl⟩;rw [S.besW l.1 l.2.1 a0 k,bs x];exact ⟨.inl,λ z=>z.elim id λ y=>absurd y.1 hgt⟩
     ·refine iteN (λ e=>hz (by have:=of_decide_eq_true e;injection this)) ?_;refine ⟨_,rfl,.inr (.inl ⟨g,_,0,.str "begin",rfl,rfl,u,z04 (j:=0) rfl,rfl,_,rfl,iteK (iteN (by decide) ?_)⟩)⟩;have nw:=S.noW c (λ e=>hz (by injection e));refine D _ _ ⟨s1,fs,o,ov,el,by omega,λ k x=>?_,λ e=>⟨z0 e,op,λ w B=>S.noE c w B⟩,op.on nw λ w B _=>S.noE c w B,F,rfl⟩;rw [BesI.on k nw,bs x]
    | fin h a=>
     obtain ⟨g,rfl,M⟩:=ea;have u:=s1.seqT M;have U :∀w∈rs,isW w=true->w.b≠i:=λ w B _=>S.noB c w B;have k:i≠f:=λ e=>by rw [e,a1] at c;cases c
     have O :∀x,x∈fs↔BesI rs f (i + 1) x:=λ x=>by rw [BesI.on k U,bs x]
     refine ⟨_,rfl,.inr (.inl ⟨g,_,0,.str "end",rfl,rfl,u,z04 (j:=0) rfl,rfl,_,rfl,iteK (iteN (by decide) ?_)⟩)⟩;refine ⟨_,rfl,.inr (.inl ⟨g,_,0,.str "end",rfl,rfl,u,z04 (j:=0) rfl,rfl,_,rfl,iteP (by decide +kernel) ?_⟩)⟩;cases o with
     | none=>have F:ov=.non:=F;subst F;have ne:=S.finN c op (λ _ z=>by cases z);exact ⟨_,rfl,rfl,_,rfl,iteN (by decide) (iteN (by decide) (D _ _ ⟨s1,fs,none,.non,el,by omega,λ _=>O,λ e=>absurd e k,op.on U ne,rfl,rfl⟩))⟩
     | some d=>
      obtain ⟨p,rfl,K⟩:=F;have a6:=s1.seqT K;refine ⟨_,rfl,rfl,_,rfl,iteP (by simp) ?_⟩;refine ⟨_,rfl,.inr (.inl ⟨g,_,1,.int h,rfl,rfl,u,z04 (j:=1) rfl,?_⟩)⟩;refine ⟨_,rfl,.inr (.inl ⟨p,_,1,.int d.h,rfl,rfl,a6,z04 (j:=1) rfl,rfl,_,rfl,?_⟩)⟩;by_cases hz:h=d.h
      ·subst hz;refine iteP (decide_eq_true rfl) ?_;obtain ⟨f1,f2⟩:=S.finY c op;exact D _ _ ⟨s1,fs,none,.non,el,by omega,λ _=>O,λ e=>absurd e k,f2,rfl,rfl⟩
      ·refine iteN (λ e=>hz (by have:=of_decide_eq_true e;injection this)) ?_;have ne:=S.finN c op (λ w1 z=>by cases z;exact hz);exact D _ _ ⟨s1,fs,some d,.ref p,el,by omega,λ _=>O,λ e=>absurd e k,op.on U ne,⟨p,rfl,K⟩,rfl⟩
   rintro Y X ⟨s2,fs2,o2,ov2,el2,ln2,b1,b2,op2,I,rfl⟩;refine ⟨_,rfl,_,rfl,rfl,_,rfl,?_⟩;by_cases er:i=f;rotate_left
   ·refine iteN (λ e=>er (by have:=of_decide_eq_true e;injection this with this;omega)) (iteN (by decide) ?_);exact ⟨s2,fs2,o2,ov2,el2,by omega,b1 er,op2,I,_,_,rfl⟩
   ·refine iteP (decide_eq_true (by rw [er])) ?_;obtain ⟨c1,c2,c3⟩:=b2 er;subst er;cases o2 with
    | none=>have I:ov2=.non:=I;subst I;refine ⟨_,rfl,rfl,_,rfl,iteN (by decide) ?_⟩;refine ⟨s2,fs2,none,.non,el2,by omega,λ x=>?_,op2,rfl,_,_,rfl⟩;rw [S.besB c2 c3];exact ⟨λ z=>absurd z (c1 x),λ ⟨_,z,_⟩=>by cases z⟩
    | some d=>
     obtain ⟨p,rfl,K⟩:=I;refine ⟨_,rfl,rfl,_,rfl,iteP (by simp) ?_⟩;refine ⟨_,rfl,.inl ⟨rfl,_,SqL.of el2⟩,_,rfl,.inr (.inl ⟨p,_,4,.int (intV d.x),rfl,rfl,s2.seqT K,by rw [<-S.wx op2.1 op2.2.1];exact z04 (j:=4) rfl,r,_,_,rfl,rfl,el2,W1 (m:=200) (by rw [A0];omega) (by decide),?_⟩)⟩;refine ⟨Same.keep s2 W,fs2++[intV d.x],some d,.ref p,by rw [V0];exact z02,by rw [F0];show fs2.length + 1<=_;omega,λ x=>?_,op2,⟨p,rfl,K⟩,_,_,rfl⟩;rw [S.besB c2 c3,List.mem_append,Y7];constructor
     ·rintro (z|z)
      ·exact absurd z (c1 x)
      ·exact ⟨d,rfl,z⟩
     ·rintro ⟨w1,z,e⟩;cases z;exact .inr e
  ·rintro σ H1 ⟨s1,fs,o,ov,el,lf2,bs,op,F,x5,x6,rfl⟩;exact ⟨_,rfl,q r fs H1 s1 el (by omega) bs⟩
end
section
theorem z7k {K:c0} {r:Addr} {H H':Hp} (R:RowAt H r) (h:Rw r H H'):Tups K H H':=λ a b z=>by
 obtain ⟨x,y,c,e,_⟩:=R;rcases z with (z|⟨ob,z⟩)|z
 ·exact .inl (.inl (h.k _ _ (λ n=>by rw [n,e] at z;cases z) z))
 ·exact .inl (.inr ⟨ob,h.k _ _ (λ n=>by rw [n,e] at z;cases z) z⟩)
 ·exact .inr z
theorem RowAt.up {H:Hp} {r a:Addr} {o:HO} (R:RowAt H r) (n:r≠a):RowAt (upd H a o) r:=by obtain ⟨x,y,c,e,z⟩:=R;exact ⟨x,y,c,by rw [upd_ne n];exact e,z⟩
noncomputable def vbS (b:Bool):Str:=if b=true then "write" else "read"
noncomputable def bzL (b:Bz):List V:=[.str (vbS b.w),if b.w=true then .int b.x else .non]++(match b.d with|none=>[]|some a=>[if b.w=true then .str "ok" else .int a])
def BzV (H2 H:Hp) (ev:Addr) (b:Bz) (kv:Key×V):Prop:=kv.1=.inl b.h/\∃p,kv.2=.ref p/\H p=some (.lst (bzL b))/\H2 p=none/\p≠ev
theorem BzV.keep {H2 H H':Hp} {ev:Addr} {b:Bz} {kv:Key×V} (h:BzV H2 H ev b kv) (k :∀p xs,kv.2=.ref p->H p=some (.lst xs)->p≠ev->H' p=some (.lst xs)):BzV H2 H' ev b kv:=by obtain ⟨e,p,a,d,f,c⟩:=h;exact ⟨e,p,a,k p _ a d c,f,c⟩
structure Rn (K:c0) (H2 H:Hp) (u bz ev:Addr) (us:List Int) (bs:List Bz) (kvs:List (Key×V)) (es:List Ev) (ys:List V):Prop where
 s:Same H2 H
 fu:H2 u=none
 fb:H2 bz=none
 fe:H2 ev=none
 nub:u≠bz
 u :∃ku,H u=some (.dK ku)/\ku.map (·.1)=((0:Int) :: us).map Sum.inl
 b:H bz=some (.dK kvs)
 k:All2 (BzV H2 H ev) bs kvs
 kn:(kvs.map (·.2)).Nodup
 e:H ev=some (.lst ys)
 a:All2 (EvAt K H) es ys
variable {K:c0} {H2 H H':Hp} {u bz ev:Addr} {us:List Int} {bs:List Bz} {kvs:List (Key×V)} {es:List Ev} {ys:List V}
theorem Rn.same (i:Rn K H2 H u bz ev us bs kvs es ys) (s:Same H H'):Rn K H2 H' u bz ev us bs kvs es ys:=by obtain ⟨f,c,d⟩:=i.u;exact ⟨i.s.trans s,i.fu,i.fb,i.fe,i.nub,⟨f,s _ _ c,d⟩,s _ _ i.b,z01 (λ _ _ z=>z.keep λ _ _ _ e _=>s _ _ e) i.k,i.kn,s _ _ i.e,z01 (λ _ _ z=>EvAt.tups (.of s) z) i.a⟩
theorem Rn.ne (i:Rn K H2 H u bz ev us bs kvs es ys):ev≠u/\ev≠bz:=by
 obtain ⟨c,a,_⟩:=i.u;refine ⟨λ z=>?_,λ z=>?_⟩
 ·have:=i.e;rw [z,a] at this;cases this
 ·have:=i.e;rw [z,i.b] at this;cases this
theorem z7j (k:All2 (BzV H2 H ev) bs kvs):kvs.map (·.1)=(bs.map (·.h)).map Sum.inl:=by
 induction k with
 | nil=>rfl
 | cons a _ ih=>rw [O0,O0,O0,ih,a.1]
theorem bz_in (k:All2 (BzV H2 H ev) bs kvs) {h:Int}:(valV kvs (.inl h)).isSome=true↔h∈bs.map (·.h):=by rw [z1t,z7j k];exact ⟨λ z=>by obtain ⟨k,a,e⟩:=List.mem_map.mp z;exact W2 e ▸ a,λ z=>List.mem_map.mpr ⟨h,z,rfl⟩⟩
theorem bz_get (k:All2 (BzV H2 H ev) bs kvs) {h:Int} (hm:h∈bs.map (·.h)) :∃b p,b∈bs/\b.h=h/\valV kvs (.inl h)=some (.ref p)/\H p=some (.lst (bzL b))/\H2 p=none/\p≠ev:=by
 induction k with
 | nil=>exact absurd hm B0
 | @cons b kv bs kvs a r ih=>
  obtain ⟨i,v⟩:=kv;obtain ⟨c,p,d,l,o,m⟩:=a;have c:i=.inl b.h:=c;have d:v=.ref p:=d;by_cases e:b.h=h
  ·exact ⟨b,p,.head _,e,by rw [z0m (by rw [c,e]),d],l,o,m⟩
  ·obtain ⟨n,g,j,f⟩:=ih ((List.mem_cons.mp hm).resolve_left λ z=>e z.symm);exact ⟨n,g,.tail _ j,f.1,by rw [z0o (λ z=>e (by rw [c] at z;exact W2 z))];exact f.2.1,f.2.2⟩
theorem zdi (k:All2 (BzV H2 H ev) bs kvs) {h:Int}:All2 (BzV H2 H ev) (bs.filter λ q=>decide (q.h≠h)) (dropK kvs (.inl h))/\∀kv∈dropK kvs (.inl h),kv∈kvs:=by
 induction k with
 | nil=>exact ⟨.nil,λ _ h=>h⟩
 | @cons b kv bs kvs a r ih=>
  obtain ⟨f,v⟩:=kv;have d:f=.inl b.h:=a.1;by_cases e:b.h=h
  ·rw [z7n (by rw [d,e]),Q1 (by rw [e];simp)];exact ⟨ih.1,λ kv c=>.tail _ (ih.2 kv c)⟩
  ·rw [z7b (λ z=>e (by rw [d] at z;exact W2 z)),L1 (p:=λ q:Bz=>decide (q.h≠h)) (decide_eq_true e)];refine ⟨.cons a ih.1,λ kv c=>?_⟩;rcases List.mem_cons.mp c with z|z
   ·rw [z];exact .head _
   ·exact .tail _ (ih.2 kv z)
theorem z6b :∀(kvs:List (Key×V)) (k:Key),(dropK kvs k).Sublist kvs
 | [],_=>.slnil
 | (k',v) :: kvs,k=>by
  by_cases e:k'=k
  ·rw [z7n e];exact .cons _ (z6b kvs k)
  ·rw [z7b e];exact .cons₂ _ (z6b kvs k)
theorem Rn.evt (i:Rn K H2 H u bz ev us bs kvs es ys) {p:Addr} {e:Ev} (h:EvAt K H e (.ref p)):Rn K H2 (upd H ev (.lst (ys++[.ref p]))) u bz ev us bs kvs (es++[e]) (ys++[.ref p]):=by obtain ⟨j,d,g⟩:=i.u;obtain ⟨c,f⟩:=i.ne;have ty:Tups K H (upd H ev (.lst (ys++[.ref p]))):=Tups.lst i.e;exact ⟨Same.keep i.s i.fe,i.fu,i.fb,i.fe,i.nub,⟨j,by rw [upd_ne c.symm];exact d,g⟩,by rw [upd_ne f.symm];exact i.b,z01 (λ _ _ z=>z.keep λ p _ _ e n=>by rw [upd_ne n];exact e) i.k,i.kn,z02,z0v (z01 (λ _ _ z=>EvAt.tups ty z) i.a) (EvAt.tups ty h)⟩
theorem Rn.use (i:Rn K H2 H u bz ev us bs kvs es ys) {ku:List (Key×V)} {x:Int} (eu:H u=some (.dK ku)) (hx:x∉(0:Int) :: us):Rn K H2 (upd H u (.dK (putK ku (.inl x) (.bl true)))) u bz ev (us++[x]) bs kvs es ys:=by obtain ⟨h,c,d⟩:=i.u;rw [eu] at c;cases c;obtain ⟨f,j⟩:=i.ne;have ty:Tups K H (upd H u (.dK (putK ku (.inl x) (.bl true)))):=Tups.dict eu;refine ⟨Same.keep i.s i.fu,i.fu,i.fb,i.fe,i.nub,⟨_,z02,?_⟩,by rw [upd_ne i.nub.symm];exact i.b,z01 (λ _ _ z=>z.keep λ p _ _ e n=>by rw [upd_ne (λ z=>by rw [z,eu] at e;cases e)];exact e) i.k,i.kn,by rw [upd_ne f];exact i.e,z01 (λ _ _ z=>EvAt.tups ty z) i.a⟩;rw [z27 (by rw [d];exact λ z=>hx (by obtain ⟨k,g,e⟩:=List.mem_map.mp z;exact W2 e ▸ g)),V0,d];show ((0:Int) :: us).map Sum.inl++[Sum.inl x]=(((0:Int) :: us)++[x]).map Sum.inl;rw [V0];rfl
theorem Rn.bzp (i:Rn K H2 H u bz ev us bs kvs es ys) {kvs':List (Key×V)} {bs':List Bz} (k:All2 (BzV H2 H ev) bs' kvs') (kn:(kvs'.map (·.2)).Nodup):Rn K H2 (upd H bz (.dK kvs')) u bz ev us bs' kvs' es ys:=by obtain ⟨h,d,g⟩:=i.u;obtain ⟨j,f⟩:=i.ne;have c:=i.b;have ty:Tups K H (upd H bz (.dK kvs')):=Tups.dict c;exact ⟨Same.keep i.s i.fb,i.fu,i.fb,i.fe,i.nub,⟨h,by rw [upd_ne i.nub];exact d,g⟩,z02,z01 (λ _ _ z=>z.keep λ p _ _ e n=>by rw [upd_ne (λ z=>by rw [z,c] at e;cases e)];exact e) k,kn,by rw [upd_ne f];exact i.e,z01 (λ _ _ z=>EvAt.tups ty z) i.a⟩
theorem bz_mem (k:All2 (BzV H2 H ev) bs kvs) {v:V} (h:v∈kvs.map (·.2)) :∃p xs,v=.ref p/\H p=some (.lst xs):=by obtain ⟨e,d,rfl⟩:=List.mem_map.mp h;obtain ⟨j,c⟩:=List.mem_iff_getElem?.mp d;obtain ⟨_,_,_,p,a,b,_⟩:=z09 k c;exact ⟨p,_,a,b⟩
theorem Rn.put (i:Rn K H2 H u bz ev us bs kvs es ys) {b:Bz} {p:Addr} (hb:b.h∉bs.map (·.h)) (hp:H p=none):putK kvs (.inl b.h) (.ref p)=kvs++[(.inl b.h,.ref p)]/\Rn K H2 (upd (upd H p (.lst (bzL b))) bz (.dK (kvs++[(.inl b.h,.ref p)]))) u bz ev us (bs++[b]) (kvs++[(.inl b.h,.ref p)]) es ys:=by
 have d:=Same.upd (o:=.lst (bzL b)) hp;have c:=i.same d;have l:p≠ev:=λ z=>by rw [z,i.e] at hp;cases hp
 refine ⟨z27 (by rw [z7j i.k];exact λ z=>hb (by obtain ⟨k,j,e⟩:=List.mem_map.mp z;exact W2 e ▸ j)),c.bzp (z0v c.k ⟨rfl,p,rfl,z02,i.s.free hp,l⟩) ?_⟩;rw [V0];refine List.nodup_append.mpr ⟨i.kn,List.nodup_cons.mpr ⟨B0,.nil⟩,λ y g z f e=>?_⟩;obtain ⟨q,m,rfl,a⟩:=bz_mem i.k g;rw [List.mem_singleton.mp f] at e;cases e;rw [hp] at a;cases a
theorem zbi {kvs:List (Key×V)} {k:Key} {v v':V} (h:k∉kvs.map (·.1)):putK (kvs++[(k,v)]) k v'=kvs++[(k,v')]:=by
 have b:((kvs++[(k,v)]).any λ a=>decide (a.1=k))=true:=List.any_eq_true.mpr ⟨(k,v),List.mem_append.mpr (.inr (.head _)),decide_eq_true rfl⟩;unfold putK;rw [if_pos b,V0];congr 1
 ·have :∀a∈kvs,(λ a:Key×V=>if a.1=k then (a.1,v') else a) a=id a:=λ a c=>if_neg λ e=>h (List.mem_map.mpr ⟨a,c,e⟩);rw [S3 this,j06]
 ·show [if k=k then (k,v') else (k,v)]=_;rw [if_pos rfl]
theorem Rn.put2 {b0 b:Bz} {p0 p:Addr} (i:Rn K H2 H u bz ev us (bs++[b0]) (kvs++[(.inl b0.h,.ref p0)]) es ys) (hb:b0.h∉bs.map (·.h)) (he:b.h=b0.h) (hp:H p=none):putK (kvs++[(.inl b0.h,.ref p0)]) (.inl b0.h) (.ref p)=kvs++[(.inl b.h,.ref p)]/\Rn K H2 (upd (upd H p (.lst (bzL b))) bz (.dK (kvs++[(.inl b.h,.ref p)]))) u bz ev us (bs++[b]) (kvs++[(.inl b.h,.ref p)]) es ys:=by
 have r:=Same.upd (o:=.lst (bzL b)) hp;have c:=i.same r;obtain ⟨t,y,e,f,_⟩:=z1l c.k;have n:=List.append_inj' e rfl;have j:kvs=t:=n.1;subst j;have v:p≠ev:=λ z=>by rw [z,i.e] at hp;cases hp
 refine ⟨by rw [he];exact zbi (by rw [z7j f];exact λ z=>hb (by obtain ⟨k,m,e⟩:=List.mem_map.mp z;exact W2 e ▸ m)),c.bzp (z0v f ⟨rfl,p,rfl,z02,i.s.free hp,v⟩) ?_⟩;have d:=i.kn;rw [V0] at d⊢;refine List.nodup_append.mpr ⟨(List.nodup_append.mp d).1,List.nodup_cons.mpr ⟨B0,.nil⟩,λ y g z l e=>?_⟩;obtain ⟨q,w,rfl,a⟩:=bz_mem i.k (by rw [V0];exact List.mem_append.mpr (.inl g));rw [List.mem_singleton.mp l] at e;cases e;rw [hp] at a;cases a
theorem zae :∀{kvs:List (Key×V)} {k:Key} {v:V},valV kvs k=some v->(k,v)∈kvs
 | [],_,_,h=>by cases h
 | (k',v') :: kvs,k,v,h=>by
  by_cases e:k'=k
  ·rw [z0m e] at h;cases h;rw [e];exact .head _
  ·rw [z0o e] at h;exact .tail _ (zae h)
theorem z7u {α γ:Type} (f:α->γ) {l:List α} (nd:(l.map f).Nodup) {x y:α} (hx:x∈l) (hy:y∈l) (e:f x=f y):x=y:=by
 induction l with
 | nil=>exact absurd hx B0
 | cons a l ih=>
  rw [O0,n5] at nd;rcases List.mem_cons.mp hx with hx|hx
  ·rcases List.mem_cons.mp hy with hy|hy
   ·rw [hx,hy]
   ·exact absurd (List.mem_map.mpr ⟨y,hy,by rw [<-e,hx]⟩) nd.1
  ·rcases List.mem_cons.mp hy with hy|hy
   ·exact absurd (List.mem_map.mpr ⟨x,hx,by rw [e,hy]⟩) nd.1
   ·exact ih nd.2 hx hy
theorem Rn.act (i:Rn K H2 H u bz ev us bs kvs es ys) (nd:(bs.map (·.h)).Nodup) {b:Bz} {p:Addr} {a:Int} (hb:b∈bs) (hv:valV kvs (.inl b.h)=some (.ref p)) (hp:H p=some (.lst (bzL b))) (pn:H2 p=none) (pe:p≠ev):Rn K H2 (upd H p (.lst (bzL { b with d:=some a }))) u bz ev us (setD bs b.h a) kvs es ys:=by
 obtain ⟨n,g,v⟩:=i.u;have j:=i.b;have ty:Tups K H (upd H p (.lst (bzL { b with d:=some a }))):=Tups.lst hp;refine ⟨Same.keep i.s pn,i.fu,i.fb,i.fe,i.nub,⟨n,by rw [upd_ne (λ z=>by rw [z,hp] at g;cases g)];exact g,v⟩,by rw [upd_ne (λ z=>by rw [z,hp] at j;cases j)];exact j,?_,i.kn,by rw [upd_ne pe.symm];exact i.e,z01 (λ _ _ z=>EvAt.tups ty z) i.a⟩;have o:=i.kn;have l:=zae hv;have y :∀{bs0:List Bz} {kv0:List (Key×V)},(∀q∈bs0,q∈bs)->(∀q∈kv0,q∈kvs)->All2 (BzV H2 H ev) bs0 kv0->All2 (BzV H2 (upd H p (.lst (bzL { b with d:=some a }))) ev) (setD bs0 b.h a) kv0:=λ {bs0 kv0} h1 h2 al=>by
  induction al with
  | nil=>exact .nil
  | @cons c kv bs0 kv0 x r ih=>
   refine .cons ?_ (ih (λ q f=>h1 q (.tail _ f)) (λ q f=>h2 q (.tail _ f)));by_cases e:c.h=b.h
   ·have t:=zbs nd (h1 c (.head _)) hb e;subst t;show BzV H2 _ ev (if c.h=c.h then { c with d:=some a } else c) kv;rw [if_pos rfl];obtain ⟨m,q,F,E,G,C⟩:=x;have B:kv=(.inl c.h,.ref p):=by
     have A:(kvs.map (·.1)).Nodup:=by rw [z7j i.k];exact List.Pairwise.map _ (λ a b h e=>h (W2 e)) nd
     exact z7u (·.1) A (h2 kv (.head _)) l m
    subst B;exact ⟨rfl,p,rfl,z02,pn,pe⟩
   ·show BzV H2 _ ev (if c.h=b.h then { c with d:=some a } else c) kv;rw [if_neg e];refine x.keep λ q D f w _=>?_;rw [upd_ne (λ z=>?_)]
    ·exact w
    ·subst z;have:kv=(.inl b.h,.ref q):=z7u (·.2) o (h2 kv (.head _)) l f;rw [this] at x;exact e (W2 x.1).symm
 exact y (λ _ h=>h) (λ _ h=>h) i.k
theorem Rn.pop (i:Rn K H2 H u bz ev us bs kvs es ys) (h:Int):Rn K H2 (upd H bz (.dK (dropK kvs (.inl h)))) u bz ev us (bs.filter λ q=>decide (q.h≠h)) (dropK kvs (.inl h)) es ys:=i.bzp (zdi i.k).1 (((z6b kvs (.inl h)).map _).nodup i.kn)
theorem zax {kvs:List (Key×V)} {k:Key} {v:V} (h:k∉kvs.map (·.1)):valV (kvs++[(k,v)]) k=some v:=by
 induction kvs with
 | nil=>exact z0m rfl
 | cons kv kvs ih=>rw [O0,B3,not_or] at h;show valV (kv :: (kvs++[(k,v)])) k=_;rw [z0o (λ e=>h.1 e.symm),ih h.2]
structure Off (r u bz ev:Addr) (kvs:List (Key×V)):Prop where
 u:r≠u
 b:r≠bz
 e:r≠ev
 k:V.ref r∉kvs.map (·.2)
theorem Rn.off (i:Rn K H2 H u bz ev us bs kvs es ys) {r:Addr} (h:H r=none):Off r u bz ev kvs:=by
 obtain ⟨f,c,_⟩:=i.u;refine ⟨λ z=>?_,λ z=>?_,λ z=>?_,λ z=>?_⟩
 ·rw [z,c] at h;cases h
 ·rw [z,i.b] at h;cases h
 ·rw [z,i.e] at h;cases h
 ·obtain ⟨p,d,e,a⟩:=bz_mem i.k z;cases e;rw [h] at a;cases a
theorem ze2 {f:Bz->Key×V->Prop} (k:All2 (BzV H2 H ev) bs kvs) (h :∀b kv,kv∈kvs->BzV H2 H ev b kv->f b kv):All2 f bs kvs:=by
 induction k with
 | nil=>exact .nil
 | cons a r ih=>exact .cons (h _ _ (.head _) a) (ih λ b kv c=>h b kv (.tail _ c))
theorem Rn.rw (i:Rn K H2 H u bz ev us bs kvs es ys) {r:Addr} (o:Off r u bz ev kvs) (n:H2 r=none) (R:RowAt H r) (k:Rw r H H'):Rn K H2 H' u bz ev us bs kvs es ys:=by obtain ⟨j,d,h⟩:=i.u;refine ⟨λ a x e=>k.k _ _ (λ z=>by rw [z,n] at e;cases e) (i.s a x e),i.fu,i.fb,i.fe,i.nub,⟨j,k.k _ _ o.u.symm d,h⟩,k.k _ _ o.b.symm i.b,?_,i.kn,k.k _ _ o.e.symm i.e,z01 (λ _ _ z=>EvAt.tups (z7k R k) z) i.a⟩;exact ze2 i.k λ b g f z=>z.keep λ p l c e _=>k.k _ _ (λ y=>o.k (by rw [<-y,<-c];exact List.mem_map.mpr ⟨g,f,rfl⟩)) e
end
section
variable {P:Program} {w:Z0} {mg:Str->Option Value} {base:Heap}
theorem sq_put {td ty tv:TE} {rest:TS} {D:Ends} {σ:L2.St} {H:Hp} (h:tv σ H λ v H1=>td σ H1 λ x H2=>ty σ H2 λ y H3=>∃a H4,x=.ref a/\DPut H3 a y v H4/\rest D σ H4):tSeq (sDPut td ty tv) rest D σ H:=h
def z40 (K:c0):Sp:=λ vs H Q _=>∃(c hd:Addr) (wy:Int) (nm:Str) (ns:List Int),vs=[.ref c,.int wy,.ref hd,.str nm]/\SqL K H c (ns.map V.int)/\c≠hd/\ns.length<=60/\RowAt H hd/\
 ∀l ys es fs wl bs us now m wr H',Rw hd H H'->H' l=some (.lst ys)->H l=none->All2 (EvAt K H') es ys->RunI nm wr es fs wl bs us now m->es.length<=60->Q (.ref l) H'
theorem z8g (T:TX (kx w) mg) (c0:Ca P w mg base "_law_take" ["row","many"] 1 z0x) (c1:Ca P w mg base "_law_stream" ["cell","way"] 1 z1b) (c2:Ca P w mg base "_law_fresh" ["row","used"] 3 (z2w (kx w))):Fo P w mg base CX0 4 223 y0p ["cells","way","head","name"] (z40 (kx w)):=by
 refine (z3g w.params).ok sc__law_run (λ vs H Q E h=>?_) (λ e8 A e7 s H vs Q E n h=>?_)
 ·obtain ⟨c,hd,N,F,ns,rfl,_⟩:=h;rfl
 ·obtain ⟨c,hd,N,F,ns,rfl,d1,c7,ln,R0,q⟩:=h;refine q_of (z0c (QS.mk (ps_set (i:=4) sc__law_run.nd rfl (S0 rfl) (pe_op opAdd pe_int (pe_cal c0 (n.mono (by decide)) rfl (z00 (pv 2) (z00 pe_int pa_nil))))))
   (z0c (QS.mk (ps_set (i:=5) sc__law_run.nd rfl (S0 rfl) (pe_cal c0 (n.mono (by decide)) rfl (z00 (pv 2) (z00 (pv 4) pa_nil)))))
   (z0c (qs_set (i:=6) sc__law_run.nd rfl (S0 rfl) (zdu (zcp (QE.mk pe_int) (QE.mk pe_bl) ze8) rfl rfl (by simp) (by decide)))
   (z0c (QS.mk (ps_set (i:=7) sc__law_run.nd rfl (S0 rfl) pe_int))
   (z0c (QS.mk (ps_set (i:=8) sc__law_run.nd rfl (S0 rfl) z6p))
   (z0c (QS.mk (ps_set (i:=9) sc__law_run.nd rfl (S0 rfl) (pe_lst pa_nil)))
   (z0c (qs_for X1 rfl (z0r (pv 0)) (z0f (i:=10) sc__law_run.nd rfl (S0 rfl))
   (z0c (QS.mk (ps_set (i:=11) sc__law_run.nd rfl (S0 rfl) (pe_cal c1 (n.mono (by decide)) rfl (z00 (pe_op z6c (pv 10) pe_int) (z00 (pv 1) pa_nil)))))
   (z0c (QS.mk (ps_set (i:=12) sc__law_run.nd rfl (S0 rfl) (pe_cal c0 (n.mono (by decide)) rfl (z00 (pv 11) (z00 (pv 4) pa_nil)))))
   (z42 (qs_if (pt_cmp (z7e (hu_of n) (pv 12) (pv 8)) (by with_unfolding_all rfl))
   (z0c (zdf (hu_of n) (QE.mk (pv 8)) (QE.mk (pv 12)) (qe_lst (zbx (QE.mk pe_str) (zbx (QE.mk pe_non) qa_nil))) rfl)
   (z0c (QS.mk (ps_if (PW.pt (pw_and (z07 opEq (pv 12) (pv 5) (nomark _)) (z1a (z07 op_gt (pe_cal c0 (n.mono (by decide)) rfl (z00 (pv 11) (z00 pe_int pa_nil))) pe_int (nomark _)))))
   (z06 (z41 (hu_of n) (pv 8) (pv 12) (pe_lst (z00 pe_str (z00 (pe_cal c2 (n.mono (by decide)) rfl (z00 (pv 11) (z00 (pv 6) pa_nil))) pa_nil))) rfl))
   z0g))
   (z42 (QS.mk (z2g (z0z (pv 9) (z00 (pe_tup (z00 pe_str (z00 (pv 12) (z00 (pv 3) (z00 (pe_ix ix_seq (z1g (hu_of n) (pv 8) (pv 12) (λ _ _=>rfl)) pe_int (λ _ _=>rfl)) (z00 (pe_ix ix_seq (z1g (hu_of n) (pv 8) (pv 12) (λ _ _=>rfl)) pe_int (λ _ _=>rfl)) pa_nil)))))) pa_nil)))))))
   (z42 (QS.mk (ps_if (z07 opEq (z0n z28 rfl (T.no (n_len _)) T5 (z00 (z1g (hu_of n) (pv 8) (pv 12) (λ _ _=>rfl)) pa_nil)) pe_int (nomark _))
   (z06 (ps_if (z07 opEq (pe_ix ix_seq (z1g (hu_of n) (pv 8) (pv 12) (λ _ _=>rfl)) pe_int (λ _ _=>rfl)) pe_str (nomark _))
   (z05 (ps_set (i:=7) sc__law_run.nd rfl (S0 rfl) (pe_ix ix_seq (z1g (hu_of n) (pv 8) (pv 12) (λ _ _=>rfl)) pe_int (λ _ _=>rfl)))
   (z06 (z2g (z0z (z1g (hu_of n) (pv 8) (pv 12) (λ _ _=>rfl)) (z00 pe_str pa_nil)))))
   (z06 (z2g (z0z (z1g (hu_of n) (pv 8) (pv 12) (λ _ _=>rfl)) (z00 (pv 7) pa_nil))))))
   (z06 (z2g (z0z (pv 9) (z00 (pe_tup (z00 pe_str (z00 (pv 12) (z00 (pe_ix ix_seq (zch (pv 8) (pv 12) ⟨rfl,rfl,rfl,rfl⟩) pe_int (λ _ _=>rfl)) pa_nil)))) pa_nil))))))))))))
   (z42 (QS.mk (ps_ret (pv 9))))))))))) ?_
  refine z0a ⟨_,rfl,hd,5,rfl,R0,by decide,by decide,λ R H1 k1 e6 e9=>.inl ⟨2,R,rfl,rfl,g_name ?_⟩⟩;refine z0a ⟨_,rfl,_,rfl,hd,2 + R,rfl,k1.r,by omega,by omega,λ G C k2 d6 d7=>g_name ?_⟩;have S:=k1.trans k2;refine z0a λ u L=>⟨z02,[(.inl 0,.bl true)],rfl,(show (1:Nat)<=15 by decide),g_name ?_⟩
  have fu:C u=none:=L;have s3:Same C (upd (upd C u (.dK [])) u (.dK (mergeK [] [(.inl 0,.bl true)]))):=Same.keep (Same.upd L) fu;have a2:upd (upd C u (.dK [])) u (.dK (mergeK [] [(.inl 0,.bl true)])) u=some (.dK [(.inl 0,.bl true)]):=z02;generalize upd (upd C u (.dK [])) u (.dK (mergeK [] [(.inl 0,.bl true)]))=H3 at s3 a2⊢;refine z0a (g_name ?_);refine z0a λ f Y=>g_name ?_;have s5:=Same.upd (o:=.dK []) Y;have b5:upd H3 f (.dK []) f=some (.dK []):=z02;have d4:u≠f:=λ z=>by rw [<-z,a2] at Y;cases Y
  have fb:C f=none:=s3.free Y;have b6:=s5 _ _ a2;have a4:=s3.trans s5;generalize upd H3 f (.dK [])=H5 at s5 b5 b6 a4⊢;refine z0a ⟨w_0,λ l a9=>g_name ?_⟩;have s6:=Same.upd (o:=.lst []) a9;have i6:Rn (kx w) C (upd H5 l (.lst [])) u f l [] [] [] [] []:=⟨a4.trans s6,fu,fb,a4.free a9,d4,⟨_,s6 _ _ b6,rfl⟩,s6 _ _ b5,.nil,.nil,z02,.nil⟩
  generalize upd H5 l (.lst [])=H6 at i6⊢;clear s3 a2 Y s5 b5 b6 a4 a9 s6 L;have b8:SqL (kx w) C c (ns.map V.int):=(by
   rcases d1 with (z|⟨ob,z⟩)|z
   ·exact .inl (.inl (S.k _ _ c7 z))
   ·exact .inl (.inr ⟨ob,S.k _ _ c7 z⟩)
   ·exact .inr z)
  have fl:H l=none:=by
   cases hh:H l with
   | none=>rfl
   | some o=>
    have ne:l≠hd:=λ z=>by obtain ⟨_,_,_,e,_⟩:=S.r;have:=i6.fe;rw [z,e] at this;cases this
    have:=S.k _ _ ne hh;rw [i6.fe] at this;cases this
  refine z78 (λ σ O=>∃us bs kvs es ys fs wl now x10 x11 x12,Rn (kx w) C O u f l us bs kvs es ys/\RunI F G es fs wl bs us now ns.length/\es.length<=ns.length/\σ=[some (.ref c),some (.int N),some (.ref hd),some (.str F),some (.int (2 + R)),some (.int G),some (.ref u),some (.int now),some (.ref f),some (.ref l),x10,x11,x12]) ?_ λ go=>?_
  ·rintro σ H7 ⟨us,bs,kvs,es,ys,fs,wl,now,x10,x11,x12,i7,rn,le,rfl⟩;exact ⟨_,rfl,q l ys es fs wl bs us now _ G H7 ⟨S.k.trans i7.s.kept,S.r.same i7.s⟩ i7.e fl i7.a rn (by omega)⟩
  refine ⟨_,rfl,c,rfl,⟨_,i6.s.seq b8⟩,?_⟩;refine z1c (K:=KX w.params) (a:=c) (xs:=ns.map V.int) (λ i σ O=>∃us bs kvs es ys fs wl now x10 x11 x12,Rn (kx w) C O u f l us bs kvs es ys/\RunI F G es fs wl bs us now i/\es.length<=i/\bs.length<=i/\us.length<=i/\σ=[some (.ref c),some (.int N),some (.ref hd),some (.str F),some (.int (2 + R)),some (.int G),some (.ref u),some (.int now),some (.ref f),some (.ref l),x10,x11,x12])
   ⟨[],[],[],[],[],[],[0],0,_,_,_,i6,RunI.nil,y0 _,y0 _,y0 _,rfl⟩ (λ _ σ O _ h=>?_) ?_ ?_
  ·obtain ⟨_,_,_,_,_,_,_,_,_,_,_,i,_⟩:=h;exact i.s.seq b8
  ·rintro i y σ H7 hy ⟨us,bs,kvs,es,ys,fs,wl,now,x10,x11,x12,i7,rn,le,lb,lu,rfl⟩;obtain ⟨cl,_,rfl⟩:=List.mem_map.mp (d0 hy);have hi:i < 60:=by have:=(List.getElem?_eq_some_iff.mp hy).1;rw [A0] at this;omega
   have ly:ys.length=es.length:=z03 i7.a;have lk:kvs.length=bs.length:=z03 i7.k;refine g_name ?_;refine z0a ⟨_,rfl,_,_,rfl,rfl,⟨by decide,by decide⟩,_,rfl,_,_,rfl,λ r tr a1 b0 b1=>g_name ?_⟩;have s8:=Same.upd (o:=.lst [.int (cl / 2),.int N,.int tr]) a1;have R8:RowAt (upd H7 r (.lst [.int (cl / 2),.int N,.int tr])) r:=⟨_,_,_,z02,b0,b1⟩
   have fr:C r=none:=i7.s.free a1;have off:=i7.off a1;have i8:=i7.same s8;generalize upd H7 r (.lst [.int (cl / 2),.int N,.int tr])=H8 at s8 R8 i8⊢;refine z0a ⟨_,rfl,_,rfl,r,2 + R,rfl,R8,by omega,by omega,λ h W k9 e4 d8=>g_name ?_⟩;have t:=i8.rw off fr R8 k9;have R9:=k9.r;clear s8 R8 i8 k9 a1 i7;refine ⟨_,rfl,_,rfl,f,_,rfl,DGet.k (k:=.inl h) t.b,_,rfl,?_⟩;by_cases hb:h∈bs.map (·.h)
   ·have hs:(valV kvs (.inl h)).isSome=true:=(bz_in t.k).mpr hb;refine iteN (by rw [hs];exact λ z=>W0 z) ?_;obtain ⟨b,p,X,rfl,hv,g,pn,pe⟩:=bz_get t.k hb;have I:DGet W f (.int b.h) (some (.ref p)):=by rw [<-hv];exact DGet.k (k:=.inl b.h) t.b
    have lS :∀a,(setD bs b.h a).length=bs.length:=λ a=>by unfold setD;rw [A0]
    cases hbd:b.d with
    | none=>
     have a5:(bzL b).length=2:=by unfold bzL;rw [hbd];rfl
     refine ⟨_,rfl,_,rfl,f,.ref p,rfl,I,.inl ⟨p,_,rfl,.inl (SqL.of g),rfl,_,rfl,iteP (decide_eq_true (by rw [a5];rfl)) ?_⟩⟩;refine ⟨_,rfl,_,rfl,f,.ref p,rfl,I,.inl ⟨p,_,0,.str (vbS b.w),rfl,rfl,SqL.of g,z04 (j:=0) rfl,rfl,_,rfl,?_⟩⟩;cases hw:b.w with
     | true=>
      refine iteP (by decide +kernel) ?_;have e1:(bzL b)[1]? = some (.int b.x):=by unfold bzL;rw [hw];rfl
      refine z0a ⟨_,rfl,_,rfl,f,.ref p,rfl,I,.inl ⟨p,_,1,.int b.x,rfl,rfl,SqL.of g,z04 (j:=1) e1,g_name ?_⟩⟩;refine ⟨_,rfl,_,rfl,f,.ref p,rfl,I,.inl ⟨rfl,_,SqL.of g⟩,p,_,.str "ok",rfl,rfl,g,by rw [a5];decide,?_⟩;have eL:bzL b++[.str "ok"]=bzL { b with d:=some 0 }:=by unfold bzL;rw [hbd,hw];rfl
      rw [eL];exact ⟨us,setD bs b.h 0,kvs,es,ys,fs,wl++[b.x],b.x,_,_,_,t.act rn.nd X hv g pn pe,rn.act X hbd (.inl ⟨hw,rfl⟩),by omega,by rw [lS];omega,by omega,rfl⟩
     | false=>
      refine iteK ?_;refine ⟨_,rfl,_,rfl,f,.ref p,rfl,I,.inl ⟨rfl,_,SqL.of g⟩,_,rfl,p,_,.int now,rfl,rfl,g,by rw [a5];decide,?_⟩;have eL:bzL b++[.int now]=bzL { b with d:=some now }:=by unfold bzL;rw [hbd,hw];rfl
      rw [eL];exact ⟨us,setD bs b.h now,kvs,es,ys,fs,wl++[now],now,_,_,_,t.act rn.nd X hv g pn pe,rn.act X hbd (.inr ⟨hw,rfl,rfl⟩),by omega,by rw [lS];omega,by omega,rfl⟩
    | some a=>
     have d2:(bzL b).length=3:=by unfold bzL;rw [hbd];rfl
     have e2:(bzL b)[2]? = some (if b.w=true then .str "ok" else .int a):=by unfold bzL;rw [hbd];rfl
     refine ⟨_,rfl,_,rfl,f,.ref p,rfl,I,.inl ⟨p,_,rfl,.inl (SqL.of g),rfl,_,rfl,iteN (λ z=>by have:=of_decide_eq_true z;rw [d2] at this;cases this) ?_⟩⟩;refine ⟨_,rfl,.inl ⟨rfl,_,SqL.of t.e⟩,_,rfl,_,rfl,f,rfl,.inl ⟨_,.inl t.b⟩,_,rfl,kvs,.inl b.h,.ref p,t.b,rfl,hv,?_⟩;have J:=t.pop b.h;have c3:upd W f (.dK (dropK kvs (.inl b.h))) p=some (.lst (bzL b)):=by rw [upd_ne (λ z=>by have:=t.b;rw [<-z,g] at this;cases this)];exact g
     generalize upd W f (.dK (dropK kvs (.inl b.h)))=H10 at J c3⊢;refine .inl ⟨p,_,2,_,rfl,rfl,SqL.of c3,z04 (j:=2) e2,w_3,λ pt a8=>?_⟩;have D:=J.same (Same.upd (o:=.tup [.str "end",.int b.h,if b.w=true then .str "ok" else .int a]) a8);have c6:EvAt (kx w) (upd H10 pt (.tup [.str "end",.int b.h,if b.w=true then .str "ok" else .int a])) (.fin b.h (if b.w=true then .str "ok" else .int a)) (.ref pt):=⟨pt,rfl,SqT.of z02⟩
     generalize upd H10 pt (.tup [.str "end",.int b.h,if b.w=true then .str "ok" else .int a])=U at D c6⊢;refine ⟨l,ys,_,rfl,rfl,D.e,W1 (m:=100) (by omega) (by decide),?_⟩;exact ⟨us,_,_,_,_,fs++[i + 1],wl++[now],now,_,_,_,D.evt c6,rn.fin X hbd,by rw [F0];show es.length + 1<=i + 1;omega,D0 (E1 _ _) (by omega),by omega,rfl⟩
   ·have hs:(valV kvs (.inl h)).isSome=false:=Bool.eq_false_iff.mpr λ z=>hb ((bz_in t.k).mp z);refine iteP (by rw [hs];rfl) ?_;refine sq_put ⟨w_2,λ B a3=>⟨_,rfl,_,rfl,f,_,rfl,DPut.k (k:=.inl h) ((Same.upd a3) _ _ t.b) (W1 (m:=100) (by omega) (by decide)),?_⟩⟩;obtain ⟨ep,J⟩:=t.put (b:=⟨h,false,0,none⟩) hb a3;have ep:putK kvs (.inl h) (.ref B)=kvs++[(.inl h,.ref B)]:=ep;rw [ep];have np:r≠B:=λ z=>by obtain ⟨_,_,_,e,_⟩:=R9;rw [<-z,e] at a3;cases a3
    have b2:RowAt (upd (upd W B (.lst [.str "read",.non])) f (.dK (kvs++[(.inl h,.ref B)]))) r:=RowAt.up (RowAt.up R9 np) off.b;have J:Rn (kx w) C (upd (upd W B (.lst [.str "read",.non])) f (.dK (kvs++[(.inl h,.ref B)]))) u f l us (bs++[⟨h,false,0,none⟩]) (kvs++[(.inl h,.ref B)]) es ys:=J;generalize upd (upd W B (.lst [.str "read",.non])) f (.dK (kvs++[(.inl h,.ref B)]))=H10 at b2 J⊢;have c4:Off r u f l (kvs++[(.inl h,.ref B)]):=⟨off.u,off.b,off.e,λ z=>by
     rw [V0] at z;rcases List.mem_append.mp z with z|z
     ·exact off.k z
     ·cases List.mem_singleton.mp z;exact np rfl⟩
    refine z78 (λ σ O=>∃b p us',b.h=h/\b.d=none/\Rn (kx w) C O u f l us' (bs++[b]) (kvs++[(.inl h,.ref p)]) es ys/\((b.w=false/\us'=us)\/(b.w=true/\h=G/\b.x≠0/\b.x∉us/\us'=us++[b.x]))/\σ=[some (.ref c),some (.int N),some (.ref hd),some (.str F),some (.int (2 + R)),some (.int G),some (.ref u),some (.int now),some (.ref f),some (.ref l),some (.int cl),some (.ref r),some (.int h)]) ?_ λ a7=>?_;rotate_left
    ·refine ⟨_,rfl,_,rfl,rfl,_,rfl,?_⟩;by_cases hw:h=G
     ·refine iteP (decide_eq_true (by rw [hw])) ?_;refine ⟨_,rfl,r,5,rfl,b2,by decide,by decide,λ t5 U b4 e5 e0=>⟨_,_,rfl,rfl,_,rfl,?_⟩⟩;have D:=J.rw c4 fr b2 b4;by_cases hz:t5 > 0
      ·refine iteP (decide_eq_true hz) ?_;obtain ⟨ku,eu,d5⟩:=D.u;refine ⟨_,rfl,_,rfl,r,u,(0:Int) :: us,ku,rfl,b4.r,eu,off.u,d5,by show us.length + 1<=100;omega,λ x b7 b9 _ _ Z=>?_⟩;have a0:=D.rw c4 fr b4.r b9;have d3:=b9.k _ _ off.u.symm eu;have a6:=a0.use d3 Z;generalize upd b7 u (.dK (putK ku (.inl x) (.bl true)))=H13 at a6⊢;refine ⟨w_2,λ p g=>?_⟩;refine ⟨_,rfl,_,rfl,f,_,rfl,DPut.k (k:=.inl h) ((Same.upd g) _ _ a6.b) (W1 (m:=100) (by rw [F0];show kvs.length + 1<=100;omega) (by decide)),?_⟩;obtain ⟨b3,c9⟩:=a6.put2 (b:=⟨h,true,x,none⟩) (b0:=⟨h,false,0,none⟩) hb rfl g;have b3:putK (kvs++[(.inl h,.ref B)]) (.inl h) (.ref p)=kvs++[(.inl h,.ref p)]:=b3;rw [b3];exact a7 _ _ ⟨⟨h,true,x,none⟩,p,us++[x],rfl,rfl,c9,.inr ⟨rfl,hw,λ z=>Z (by rw [show x=0 from z];exact .head _),λ z=>Z (.tail _ z),rfl⟩,rfl⟩
      ·exact iteN (λ e=>hz (of_decide_eq_true e)) (a7 _ _ ⟨_,B,us,rfl,rfl,D,.inl ⟨rfl,rfl⟩,rfl⟩)
     ·exact iteN (λ e=>hw (by have:=of_decide_eq_true e;injection this)) (iteN (by decide) (a7 _ _ ⟨_,B,us,rfl,rfl,J,.inl ⟨rfl,rfl⟩,rfl⟩))
    rintro σ U ⟨b,p,us',rfl,bd,D,L,rfl⟩;have hk:(Sum.inl b.h:Key)∉kvs.map (·.1):=λ z=>hb ((bz_in t.k).mp (by rw [z1t];exact z));have I:DGet U f (.int b.h) (some (.ref p)):=by rw [<-zax (v:=.ref p) hk];exact DGet.k (k:=.inl b.h) D.b
    have g:U p=some (.lst (bzL b)):=by obtain ⟨d9,y,e,_,_,p',e2,e3,_⟩:=z1l D.k;have e':=(List.append_inj' e rfl).2;cases e';cases e2;exact e3
    refine ⟨_,rfl,.inl ⟨rfl,_,SqL.of D.e⟩,_,rfl,_,rfl,_,rfl,_,rfl,f,.ref p,rfl,I,.inl ⟨p,_,0,.str (vbS b.w),rfl,rfl,SqL.of g,z04 (j:=0) rfl,?_⟩⟩;refine ⟨_,rfl,_,rfl,f,.ref p,rfl,I,.inl ⟨p,_,1,if b.w=true then .int b.x else .non,rfl,rfl,SqL.of g,z04 (j:=1) rfl,w_5,λ pt a8=>?_⟩⟩;have a0:=D.same (Same.upd (o:=.tup [.str "begin",.int b.h,.str F,.str (vbS b.w),if b.w=true then .int b.x else .non]) a8);have c5:EvAt (kx w) (upd U pt (.tup [.str "begin",.int b.h,.str F,.str (vbS b.w),if b.w=true then .int b.x else .non])) (.beg b.h (.str F) (.str (if b.w=true then "write" else "read")) (if b.w=true then .int b.x else .non)) (.ref pt):=⟨pt,rfl,SqT.of z02⟩
    generalize upd U pt (.tup [.str "begin",.int b.h,.str F,.str (vbS b.w),if b.w=true then .int b.x else .non])=b7 at a0 c5⊢;refine ⟨l,ys,_,rfl,rfl,a0.e,W1 (m:=100) (by omega) (by decide),?_⟩;have tw:TW F G (es++[.beg b.h (.str F) (.str (if b.w=true then "write" else "read")) (if b.w=true then .int b.x else .non)]) (osB bs++[(b.h,b.w)]) us':=by
     rcases L with ⟨M,rfl⟩|⟨M,hw,x0,xu,rfl⟩
     ·rw [M];exact .rd rn.tw (by rw [os_h];exact hb)
     ·rw [M,hw];exact .wri rn.tw (by rw [os_h,<-hw];exact hb) x0 xu
    have Z:b.w=true->(if b.w=true then V.int b.x else .non)=.int b.x/\b.x∉wl:=λ M=>by
     rcases L with ⟨z,_⟩|⟨_,_,x0,xu,_⟩
     ·rw [z] at M;cases M
     ·exact ⟨if_pos M,rn.new x0 xu⟩
    have c8:us'.length<=i + 1:=by
     rcases L with ⟨_,rfl⟩|⟨_,_,_,_,rfl⟩
     ·omega
     ·rw [F0];show us.length + 1<=i + 1;omega
    exact ⟨us',bs++[b],_,_,_,fs++[i + 1],wl++[now],now,_,_,_,a0.evt c5,rn.beg hb bd tw Z,by rw [F0];show es.length + 1<=i + 1;omega,by rw [F0];show bs.length + 1<=i + 1;omega,c8,rfl⟩
  ·rintro σ H7 ⟨us,bs,kvs,es,ys,fs,wl,now,x10,x11,x12,i7,rn,le,lb,lu,rfl⟩;rw [A0] at rn le;exact go _ _ ⟨us,bs,kvs,es,ys,fs,wl,now,_,_,_,i7,rn,le,rfl⟩
theorem z5j {X:Cx} {K:c0} (hK:X.K=K):OpR X (V2 .NotIn) (rIn K true):=hK ▸ z3f
theorem TW.half {nm:Str} {wr:Int} {es:List Ev} {os:List (Int×Bool)} {us:List Int} (h:TW nm wr es os us):2 * us.length<=es.length + 1/\((wr,true)∉os->2 * us.length<=es.length):=by
 induction h with
 | nil=>exact ⟨by decide,λ _=>y0 _⟩
 | wri _ h0 _ _ ih=>have:=ih.2 λ z=>h0 (List.mem_map.mpr ⟨_,z,rfl⟩);rw [F0,F0];refine ⟨?_,λ z=>absurd (List.mem_append.mpr (.inr (.head _))) z⟩;show 2 * (_ + 1)<=_ + 1 + 1;omega
 | rd _ _ ih=>rw [F0];refine ⟨D0 ih.1 (W5 _ 1),λ z=>?_⟩;exact D0 (ih.2 λ y=>z (List.mem_append.mpr (.inl y))) (W5 _ 1)
 | fin _ _ _ _ ih=>rw [F0];exact ⟨D0 ih.1 (W5 _ 1),λ _=>ih.1⟩
theorem ze5 {us fine:List Int} {x0:Int} (l:us.length<=31) (h :∀x∈fine,x∈x0 :: us) :∃i:Nat,i < 40/\(i:Int)∉fine:=by
 refine D3 λ b=>?_;have:=z6d (xs:=(U0 40).map λ i=>((i:Nat):Int)) (ys:=x0 :: us) (z18 40 λ i j _ _ e=>by omega) λ x c=>by obtain ⟨i,a,rfl⟩:=List.mem_map.mp c;exact h _ (D3 λ z=>b ⟨i,List.mem_range.mp a,z⟩)
 rw [A0,X2,T1] at this;omega
theorem sq_rw {K:c0} {H H':Hp} {r a:Addr} {xs:List V} (n:a≠r) (k:Rw r H H') (h:SqL K H a xs):SqL K H' a xs:=by
 rcases h with (z|⟨ob,z⟩)|z
 ·exact .inl (.inl (k.k _ _ n z))
 ·exact .inl (.inr ⟨ob,k.k _ _ n z⟩)
 ·exact .inr z
theorem Evs.rw {K:c0} {H H':Hp} {te hd:Addr} {wr:Int} {es:List Ev} {ys:List V} {rs:List Rc} (h:Evs K H te wr es ys rs) (n:te≠hd) (R:RowAt H hd) (k:Rw hd H H'):Evs K H' te wr es ys rs:=⟨sq_rw n k h.t,z01 (λ _ _ z=>EvAt.tups (z7k R k) z) h.a,h.S,h.v,h.n⟩
theorem row_ne {H:Hp} {r p:Addr} {o:HO} (R:RowAt H r) (h:H p=some o) (n :∀a b c:Int,o≠.lst [.int a,.int b,.int c]):p≠r:=λ z=>by obtain ⟨a,b,c,e,_⟩:=R;rw [z,e] at h;exact n a b c (T0 h).symm
def z3h (K:c0):Sp:=λ vs H Q _=>∃(te hd lu:Addr) (us ns:List Int) (wr:Int) (es:List Ev) (ys:List V) (nm:Str) (os:List (Int×Bool)),vs=[.ref te,.ref hd,.ref lu]/\Evs K H te wr es ys (dAll 0 [] es)/\TW nm wr es os us/\es.length<=60/\RowAt H hd/\te≠hd/\H lu=some (.lst (ns.map V.int))/\lu≠hd/\ns.length < 64/\(∀H',Rw hd H H'->Q .non H')/\
 ∀l r e x pt H',Rw hd H H'->H' l=some (.lst (ys.set e (.ref pt)))->r∈dAll 0 [] es->r.v=.str "read"->r.e=some e->H' pt=some (.tup [.str "end",.int r.h,.int x])->¬ LastI (dAll 0 [] es) r.b x->¬ BesI (dAll 0 [] es) r.b e x->Q (.ref l) H'
theorem z71 (T:TX (kx w) mg) (c0:Ca P w mg base "_law_take" ["row","many"] 1 z0x) (c1:Ca P w mg base "_law_deeds" ["events"] 1 (z31 (kx w))) (c2:Ca P w mg base "_law_last" ["events","begin"] 1 (z3i (kx w))) (c3:Ca P w mg base "_law_beside" ["events","begin","end"] 1 (z2f (kx w))):Fo P w mg base CX0 2 228 y0m ["events","row","used"] (z3h (kx w)):=by
 refine (z2k w.params).ok sc__law_bent (λ vs H Q E h=>?_) (λ l2 A l1 s H vs Q E hr h=>?_)
 ·obtain ⟨te,hd,lu,us,ns,wr,J,d,nm,os,rfl,_⟩:=h;rfl
 ·obtain ⟨te,hd,lu,us,ns,wr,J,d,nm,os,rfl,L,tw,k5,R,i5,el,j1,i8,q0,q1⟩:=h;refine q_of (z0c (QS.mk (z4a (i:=3) sc__law_bent.nd rfl (S0 rfl) (xs:=["deed"]) (g:=gName 0) (fr:=[]) rfl (z0r (pe_cal c1 (hr.mono (by decide)) rfl (z00 (pv 0) pa_nil))) (λ _ z=>absurd z B0) (z4v rfl) (λ _ z=>absurd z B0) (by decide +kernel) rfl (by decide +kernel) (λ _ _ _ _ _=>(pg_cn (N:=["deed"]) 0)) (λ _ _ _ _ _=>(pf_one (PW.pt (pw_and (z07 opEq (pe_ix (z0k (K:=KX w.params) rfl) (pv 0) pe_int (λ _ _=>rfl)) pe_str (nomark _)) (z1a (z07 z1v (pe_ix (z0k (K:=KX w.params) rfl) (pv 0) pe_int (λ _ _=>rfl)) pe_non (nomark _))))))) (λ _ _ _ _ _=>(pv 0))))
   (z0c (QS.mk (ps_if (z07 (zdl hr) (pv 3) (pe_lst pa_nil) (nomark _))
   (z06 (ps_ret pe_non))
   z0g))
   (z0c (QS.mk (ps_asg (pe_ix ix_seq (pv 3) (pe_cal c0 (hr.mono (by decide)) rfl (z00 (pv 1) (z00 (z0n z28 rfl (T.no (n_len _)) T5 (z00 (pv 3) pa_nil)) pa_nil))) (λ _ _=>rfl)) (pg_lst rfl (z0b (z0f (i:=4) sc__law_bent.nd rfl (S0 rfl)) (z0b (z0f (i:=5) sc__law_bent.nd rfl (S0 rfl)) (z0b (z0f (i:=6) sc__law_bent.nd rfl (S0 rfl)) (z0b (z0f (i:=7) sc__law_bent.nd rfl (S0 rfl)) (z0b (z0f (i:=8) sc__law_bent.nd rfl (S0 rfl)) z11))))))))
   (z0c (QS.mk (ps_set (i:=9) sc__law_bent.nd rfl (Q0 rfl) (pe_op opAdd (pe_lst (z00 (pe_cal c2 (hr.mono (by decide)) rfl (z00 (pv 0) (z00 (pv 7) pa_nil))) pa_nil)) (pe_cal c3 (hr.mono (by decide)) rfl (z00 (pv 0) (z00 (pv 7) (z00 (pv 8) pa_nil)))))))
   (z0c (QS.mk (z4a (i:=10) sc__law_bent.nd rfl (S0 rfl) (xs:=["one"]) (g:=gName 0) (fr:=[(9,"fine")]) rfl (z0r (pe_op opAdd (pe_op opAdd (z8v rfl rfl (T.no (n_list _)) rfl (T.no (z80 _)) boot_list pe_int) (pe_lst (z00 (pe_op op_pow pe_int pe_int) (z00 (pe_un un_neg (pe_op op_pow pe_int pe_int)) pa_nil)))) (z0n z6t rfl (T.no (z8y _)) boot_sorted (z00 (pv 2) pa_nil)))) (by intro p hp;obtain rfl:=List.mem_singleton.mp hp;first|exact ⟨rfl,.inl rfl⟩|exact ⟨rfl,.inr rfl⟩) (z6s (n:="fine") (by decide +kernel) (λ _=>by first|exact .inl rfl|exact .inr rfl)) (by intro p hp;obtain rfl:=List.mem_singleton.mp hp;exact ⟨by decide +kernel,by first|exact .inl rfl|exact .inr rfl⟩) (by decide +kernel) rfl (by decide +kernel) (λ _ _ _ _ _=>(pg_cn (N:=["one","fine"]) 0)) (λ _ _ _ _ _=>(pf_one (z07 (z5j (K:=KX w.params) rfl) (pv 0) (pv 1) (by with_unfolding_all rfl)))) (λ _ _ _ _ _=>(pv 0))))
   (z0c (QS.mk (ps_set (i:=11) sc__law_bent.nd rfl (S0 rfl) (z32 z6a rfl (T.no (n_list _)) boot_list (z00 (pv 0) pa_nil))))
   (z0c (QS.mk (ps_asg (pe_tup (z00 pe_str (z00 (pe_ix ix_seq (pe_ix ix_seq (pv 0) (pv 8) (λ _ _=>rfl)) pe_int (λ _ _=>rfl)) (z00 (pe_ix ix_seq (pv 10) (pe_cal c0 (hr.mono (by decide)) rfl (z00 (pv 1) (z00 (z0n z28 rfl (T.no (n_len _)) T5 (z00 (pv 10) pa_nil)) pa_nil))) (λ _ _=>rfl)) pa_nil)))) (pg_sub (pv 11) (pv 8) z1z)))
   (z42 (QS.mk (ps_ret (pv 11))))))))))) ?_
  have wf:=(DInv.nil.all tw.wf.1).1;have hu:=tw.rs.u;have k4:=tw.half.1;have ly:d.length=J.length:=z03 L.a;have l0:(dAll 0 [] J).length<=J.length:=D0 z35 (by simp);have ER:=tw.evr;generalize hrs:dAll 0 [] J=rs at *;refine z0a (za2 (K:=KX w.params) (λ a U W=>Same H W/\W a=some (.lst U)/\All2 (ActAt W) rs U) (λ R h=>⟨_,rfl,te,J,d,rfl,L.t,L.a,by omega,wf,L.v,λ l U W s e M=>h l U W ⟨s,e,hrs ▸ M⟩⟩) ?_ (λ i=>isRE (rs[i]?.getD r00)) (λ i y W=>ActAt W (rs[i]?.getD r00) y) (λ _ _ _ _ s z=>z.same s) ?_ ?_)
  ·rintro a U W ⟨_,e,M⟩;exact ⟨SqL.of e,D0 (m:=100) (by have:=z03 M;omega) (by decide)⟩
  ·rintro a U H1 ⟨s1,e1,M⟩ i D v H2 s2 hv KT KF h1 Z;obtain ⟨r,a6,p,rfl,ep⟩:=z09 M hv;rw [getD_some a6] at h1 Z;have d3:=s2 _ _ ep;refine ⟨[some (.ref p)],rfl,rfl,_,rfl,.inl ⟨p,_,0,r.v,rfl,rfl,SqL.of d3,z04 (j:=0) rfl,?_⟩⟩;rcases L.S.G r (d0 a6) with g|g
   ·rw [g.1];refine ⟨rfl,_,rfl,iteP (by decide +kernel) ?_⟩;refine ⟨_,rfl,.inl ⟨p,_,4,endV r.e,rfl,rfl,SqL.of d3,z04 (j:=4) rfl,rfl,_,rfl,?_⟩⟩;cases he:r.e with
    | none=>exact iteN (λ z=>by cases z) (Z (by unfold isRE;rw [he];exact Bool.and_false _) _ (Same.refl _))
    | some e=>exact iteP rfl ⟨_,rfl,h1 (by unfold isRE;rw [he,decide_eq_true g.1];rfl) _ _ (Same.refl _) ⟨p,rfl,d3⟩⟩
   ·rw [g.1];exact ⟨rfl,_,rfl,iteK (Z (by unfold isRE;rw [decide_eq_false (λ z=>z0h (z.symm.trans g.1)),L7]) _ (Same.refl _))⟩
  rintro a U H1 ⟨s1,e1,M⟩ l3 H3 ws s3 hl3 C;have lz:U.length=rs.length:=z03 M;have u4:=Same.upd (o:=.lst ws) hl3;have e4:upd H3 l3 (.lst ws) l3=some (.lst ws):=z02;have s4:=(s1.trans s3).trans u4;have C:=z01 (λ _ _ z=>ActAt.same u4 z) C;have n3:l3≠hd:=λ z=>by obtain ⟨_,_,_,e,_⟩:=R.same (s1.trans s3);rw [z,e] at hl3;cases hl3
  generalize upd H3 l3 (.lst ws)=H4 at e4 s4 C⊢;refine g_name ?_;refine sq_if ⟨_,rfl,w_0,λ lz f6=>⟨l3,lz,ws,rfl,rfl,SqL.of (Same.upd f6 _ _ e4),SqL.of z02,_,rfl,ite2 (λ _=>?_) λ b6=>t_nx ?_⟩⟩
  ·have O:=s4.trans (Same.upd (o:=.lst []) f6);exact q0 _ ⟨O.kept,R.same O⟩
  have b6:ws≠[]:=λ z=>b6 (decide_eq_true z);have u5:=Same.upd (o:=.lst []) f6;have O:=s4.trans u5;have e5:=u5 _ _ e4;have C:=z01 (λ _ _ z=>ActAt.same u5 z) C;have R5:=R.same O;have e2:=L.same O;have d7:=O _ _ el;generalize upd H4 lz (.lst [])=H5 at u5 O e5 C R5 e2 d7⊢;have lw:0 < ws.length:=List.length_pos_iff.mpr b6;have g8:ws.length<=63:=by rw [z03 C];refine D0 (E1 _ _) ?_;rw [X2];omega
  refine z0a ⟨_,rfl,_,rfl,_,rfl,.inl ⟨l3,ws,rfl,.inl (SqL.of e5),hd,_,rfl,R5,by omega,by omega,λ k H6 X j5 k7=>?_⟩⟩;obtain ⟨kn,rfl⟩ :∃kn:Nat,k=(kn:Int):=⟨k.toNat,(V7 j5).symm⟩
  obtain ⟨y,hy⟩ :∃y,ws[kn]? = some y:=⟨_,P0 (show kn < ws.length by omega)⟩
  obtain ⟨i,D,p,rfl,ep⟩:=z09 C hy;obtain ⟨h6,h0⟩:=List.mem_filter.mp (d0 D);obtain ⟨r,a6⟩ :∃r,rs[i]? = some r:=⟨_,P0 (show i < rs.length by have:=List.mem_range.mp h6;omega)⟩
  rw [getD_some a6] at ep h0;obtain ⟨rv,re⟩:=re_end h0;generalize r.e.getD 0=e at re;have hm:=d0 a6;have eb:=L.S.E r hm e re;have ea:=ER.a r hm;have ee:=ER.b r hm e re;have k8:e < J.length:=z14 ee;have np:p≠hd:=row_ne R5 ep λ a b c z=>by have:=congrArg M8 (HO.lst.inj z);simp at this
  have g7:=X.k _ _ np ep;have d9:=e2.rw i5 R5 X;have g4:=X.k _ _ j1 d7;have i0:Rw hd H H6:=⟨O.kept.trans X.k,X.r⟩
  refine .inl ⟨l3,ws,kn,.ref p,rfl,rfl,SqL.of (X.k _ _ n3 e5),z04 hy,p,_,rfl,SqL.of g7,rfl,_,_,rfl,_,_,rfl,_,_,rfl,_,_,rfl,_,_,rfl,rfl,?_⟩;rw [re];clear C M hy D h6 u5 e5 R5 e2 d7 e4 s4 ep g7 b6 lw g8;refine z0a ⟨_,rfl,_,rfl,te,r.b,wr,J,d,rs,rfl,d9,by omega,λ x0 la=>⟨w_1,λ l7 j3=>?_⟩⟩;have u7:=Same.upd (o:=.lst [.int x0]) j3;have e7:upd H6 l7 (.lst [.int x0]) l7=some (.lst [.int x0]):=z02;have b1:=d9.same u7;have s7:Rw hd H (upd H6 l7 (.lst [.int x0])):=i0.trans ⟨u7.kept,X.r.same u7⟩;have b9:=u7 _ _ g4;generalize upd H6 l7 (.lst [.int x0])=H7 at e7 b1 s7 b9⊢;refine ⟨_,rfl,_,rfl,_,rfl,te,r.b,e,wr,J,d,rs,rfl,b1,eb,by omega,⟨r.h,r.n,r.x,by rw [<-rv];exact ea⟩,λ l8 F H8 s8 e8 n8 i1=>?_⟩;refine .inr (.inr (.inl ⟨l7,l8,_,_,rfl,rfl,s8 _ _ e7,e8,D0 (m:=300) (by rw [A0];show 1 + F.length<=300;omega) (by decide),λ l9 j6=>g_name ?_⟩));have u9:=Same.upd (o:=.lst ([.int x0]++F.map V.int)) j6;have g6:upd H8 l9 (.lst ([.int x0]++F.map V.int)) l9=some (.lst ((x0 :: F).map V.int)):=z02;have a8:=s8.trans u9;have h9:=b1.same a8;have s9:Rw hd H (upd H8 l9 (.lst ([.int x0]++F.map V.int))):=s7.trans ⟨a8.kept,s7.r.same a8⟩;have h8:=a8 _ _ b9;generalize upd H8 l9 (.lst ([.int x0]++F.map V.int))=H9 at g6 h9 s9 h8⊢;clear e7 b1 s7 b9 e8 s8 u9 a8 d9 g4 i0 X;refine z0a (zbu ⟨40,rfl,by decide,λ a1 h1=>⟨_,_,rfl,rfl,p9,_,_,rfl,rfl,p9,_,rfl,w_2,λ a2 Z=>?_⟩⟩);have v1:=Same.upd (o:=.lst (rngV 40)) h1;have f1:upd H9 a1 (.lst (rngV 40)) a1=some (.lst (rngV 40)):=z02;generalize upd H9 a1 (.lst (rngV 40))=G1 at v1 f1 Z⊢;have v2:=Same.upd (o:=.lst [(λ i j:Int=>V.int (i ^ j.toNat)) 10 9,(λ i:Int=>V.int (-i)) (10 ^ Int.toNat 9)]) Z;have f2:upd G1 a2 (.lst [(λ i j:Int=>V.int (i ^ j.toNat)) 10 9,(λ i:Int=>V.int (-i)) (10 ^ Int.toNat 9)]) a2=some (.lst ([(1000000000:Int),-1000000000].map V.int)):=z02;have d1:=v2 _ _ f1;have c9:=v1.trans v2;generalize upd G1 a2 (.lst [(λ i j:Int=>V.int (i ^ j.toNat)) 10 9,(λ i:Int=>V.int (-i)) (10 ^ Int.toNat 9)])=G2 at f2 d1 c9⊢;refine .inr (.inr (.inl ⟨a1,a2,_,_,rfl,rfl,d1,f2,by decide +kernel,λ a3 h3=>?_⟩));have v3:=Same.upd (o:=.lst (rngV 40++[(1000000000:Int),-1000000000].map V.int)) h3;have f3:upd G2 a3 (.lst (rngV 40++[(1000000000:Int),-1000000000].map V.int)) a3=some (.lst (rngV 40++[(1000000000:Int),-1000000000].map V.int)):=z02;have b5:=c9.trans v3;generalize upd G2 a3 (.lst (rngV 40++[(1000000000:Int),-1000000000].map V.int))=G3 at f3 b5⊢;refine ⟨_,rfl,lu,ns,rfl,.inl (SqL.of (b5 _ _ h8)),i8,λ a4 B h4 pm _=>?_⟩;have v4:=Same.upd (o:=.lst (B.map V.int)) h4;have f4:upd G3 a4 (.lst (B.map V.int)) a4=some (.lst (B.map V.int)):=z02;have d5:=v4 _ _ f3;have f8:=b5.trans v4;generalize upd G3 a4 (.lst (B.map V.int))=G4 at f4 d5 f8⊢;have b7:=pm.length_eq;have e3:(rngV 40++[(1000000000:Int),-1000000000].map V.int).length=42:=by decide +kernel
  refine .inr (.inr (.inl ⟨a3,a4,_,_,rfl,rfl,d5,f4,by rw [e3,A0,b7];exact D0 (m:=200) (by omega) (by decide),λ a5 h5=>?_⟩));have v5:=Same.upd (o:=.lst (rngV 40++[(1000000000:Int),-1000000000].map V.int++B.map V.int)) h5;have f5:upd G4 a5 (.lst (rngV 40++[(1000000000:Int),-1000000000].map V.int++B.map V.int)) a5=some (.lst (rngV 40++[(1000000000:Int),-1000000000].map V.int++B.map V.int)):=z02;have a7:=f8.trans v5;generalize upd G4 a5 (.lst (rngV 40++[(1000000000:Int),-1000000000].map V.int++B.map V.int))=G5 at f5 a7⊢;obtain ⟨I,d8,i6⟩ :∃I:List Int,rngV 40++[(1000000000:Int),-1000000000].map V.int++B.map V.int=I.map V.int/\∀i:Nat,i < 40->I[i]? = some (i:Int):=by refine ⟨((U0 40).map λ i=>((i:Nat):Int))++[1000000000,-1000000000]++B,by rw [V0,V0];rfl,λ i D=>?_⟩;rw [List.append_assoc,Y0 (by rw [A0,X2];exact D),N1,List.getElem?_range D];rfl
  have k9:I.length=42 + ns.length:=by have:=congrArg M8 d8;rw [F0,e3,A0,A0,b7] at this;omega
  rw [d8] at f5;clear f1 d1 f2 f3 d5 f4 c9 b5 f8 v1 v2 v3 v4 h1 Z h3 h4 h5 d8 e3 pm b7;have c4:Rw hd H G5:=s9.trans ⟨a7.kept,s9.r.same a7⟩;have j9:=h9.same a7;have f9:=a7 _ _ g6;refine z17 (K:=KX w.params) (a:=a5) (xs:=I.map V.int) (H1:=G5) (λ i=>!inV (.int (I[i]?.getD 0)) ((x0 :: F).map V.int)) (λ i y _=>y=.int (I[i]?.getD 0)) (λ _ _ _ _ _ z=>z) (λ R h=>h) (SqL.of f5) (D0 (m:=200) (by rw [A0];omega) (by decide)) ?_ ?_
  ·intro i D v H2 s2 hv KT KF g1 g2;obtain ⟨mi,j0,rfl⟩ :∃mi,I[i]? = some mi/\.int mi=v:=by rw [N1] at hv;exact Option.map_eq_some_iff.mp hv
   rw [j0] at g1 g2;refine ⟨[some (.int mi)],rfl,rfl,_,rfl,_,rfl,l9,_,rfl,.inl (SqL.of (s2 _ _ f9)),rfl,z4o _,_,rfl,ite2 (λ z=>⟨_,rfl,g1 z _ _ (Same.refl _) rfl⟩) λ z=>g2 (Bool.eq_false_iff.mpr z) _ (Same.refl _)⟩
  intro Y e6 f g5 c5 g3;have lw:0 < f.length:=by
   obtain ⟨i,D,hn⟩:=ze5 (us:=us) (fine:=x0 :: F) (x0:=x0) (by omega) λ x hx=>by
    rcases List.mem_cons.mp hx with z|z
    ·rw [z];exact .head _
    ·obtain ⟨w,hw,wi,wx,_⟩:=(i1 x).mp z;refine .tail _ ?_;rw [<-hu];exact List.mem_map.mpr ⟨w,List.mem_filter.mpr ⟨hw,wi⟩,wx⟩
   rw [z03 g3];refine List.length_pos_iff.mpr (D6 (a:=i) (List.mem_filter.mpr ⟨List.mem_range.mpr (by rw [A0];omega),?_⟩));rw [i6 i D,z4d,Option.getD_some,decide_eq_false hn];rfl
  have g8:f.length<=200:=by rw [z03 g3];refine D0 (E1 _ _) ?_;rw [X2,A0];omega
  have k3:=Same.upd (o:=.lst f) c5;have g9:upd e6 Y (.lst f) Y=some (.lst f):=z02;have b4:=g5.trans k3;have a0:Rw hd H (upd e6 Y (.lst f)):=c4.trans ⟨b4.kept,c4.r.same b4⟩;have f7:=j9.same b4;have i3:Y≠hd:=λ z=>by obtain ⟨_,_,_,e,_⟩:=c4.r.same g5;rw [z,e] at c5;cases c5
  generalize upd e6 Y (.lst f)=H12 at g9 b4 a0 f7⊢;refine g_name ?_;refine z0a ⟨_,rfl,te,d,rfl,.inl f7.t,λ q b3=>g_name ?_⟩;have b0:=Same.upd (o:=.lst d) b3;have h7:upd H12 q (.lst d) q=some (.lst d):=z02;have e9:Rw hd H (upd H12 q (.lst d)):=a0.trans ⟨b0.kept,a0.r.same b0⟩;have b8:=f7.same b0;have c7:=b0 _ _ g9;have e0:q≠hd:=λ z=>by obtain ⟨_,_,_,e,_⟩:=a0.r;rw [z,e] at b3;cases b3
  generalize upd H12 q (.lst d)=H13 at h7 e9 b8 c7⊢;obtain ⟨ye,j4,j2⟩:=z38 b8.a ee;obtain ⟨pe,rfl,i4⟩:=j2;refine z0a ⟨_,rfl,_,rfl,.inl ⟨te,d,e,_,rfl,rfl,b8.t,z04 j4,.inr (.inl ⟨pe,_,1,.int r.h,rfl,rfl,i4,z04 (j:=1) rfl,?_⟩)⟩⟩;refine ⟨_,rfl,_,rfl,_,rfl,.inl ⟨Y,f,rfl,.inl (SqL.of c7),hd,_,rfl,e9.r,by omega,by omega,λ k c8 b2 k0 k1=>?_⟩⟩;obtain ⟨d6,rfl⟩ :∃kn:Nat,k=(kn:Int):=⟨k.toNat,(V7 k0).symm⟩
  obtain ⟨y2,f0⟩ :∃y,f[d6]? = some y:=⟨_,P0 (show d6 < f.length by omega)⟩
  obtain ⟨i2,i9,rfl⟩:=z09 g3 f0;have d4:=(List.mem_filter.mp (d0 i9)).2;generalize I[i2]?.getD 0=x at d4 f0;have hx:x∉x0 :: F:=λ z=>by rw [z4d,decide_eq_true z] at d4;cases d4
  refine .inl ⟨Y,f,d6,_,rfl,rfl,SqL.of (b2.k _ _ i3 c7),z04 f0,w_3,λ pt i7=>?_⟩;have j7:=b2.k _ _ e0 h7;have d2:=Same.upd (o:=.tup [.str "end",.int r.h,.int x]) i7;have g0:Rw hd H (upd c8 pt (.tup [.str "end",.int r.h,.int x])):=(e9.trans b2).trans ⟨d2.kept,b2.r.same d2⟩;have c6:=d2 _ _ j7;have a9:upd c8 pt (.tup [.str "end",.int r.h,.int x]) pt=some (.tup [.str "end",.int r.h,.int x]):=z02;generalize upd c8 pt (.tup [.str "end",.int r.h,.int x])=H15 at g0 c6 a9⊢;have nf:H q=none:=by
   cases hh:H q with
   | none=>rfl
   | some o=>have:=a0.k _ _ e0 hh;rw [b3] at this;cases this
  have ix:ixN d.length (e:Int)=some e:=by unfold ixN;rw [if_pos (by omega),if_pos (by omega),M5]
  refine ⟨_,rfl,_,rfl,q,d,e,e,rfl,rfl,c6,ix,?_⟩;have j8:pt≠q:=λ z=>by rw [z,c6] at a9;cases a9
  have k2:Rw hd H (upd H15 q (.lst (d.set e (.ref pt)))):=⟨λ b o n e=>by rw [upd_ne (λ z=>by rw [z,nf] at e;cases e)];exact g0.k b o n e,RowAt.up g0.r e0.symm⟩
  refine ⟨_,rfl,q1 q r e x pt _ k2 z02 hm rv re (by rw [upd_ne j8];exact a9) (λ z=>hx ?_) λ z=>hx (.tail _ ((i1 x).mpr z))⟩;rw [L.S.last1 z la];exact .head _
end
section
noncomputable def fixA (p:Nat) (v:V) (r:Rc):Rc:=if r.e=some p then { r with a:=v } else r
theorem fixA_h {p:Nat} {v:V} (r:Rc):(fixA p v r).h=r.h:=by unfold fixA;split<;>rfl
theorem fixA_e {p:Nat} {v:V} (r:Rc):(fixA p v r).e=r.e:=by unfold fixA;split<;>rfl
theorem fixA_x {p:Nat} {v:V} (r:Rc):(fixA p v r).x=r.x:=by unfold fixA;split<;>rfl
theorem fixA_v {p:Nat} {v:V} (r:Rc):(fixA p v r).v=r.v:=by unfold fixA;split<;>rfl
theorem fix_hs {p:Nat} {v:V} (rs:List Rc):(rs.map (fixA p v)).map Rc.h=rs.map Rc.h:=by rw [O3];exact S3 λ r _=>fixA_h r
theorem zav {p j:Nat} {v:V} (n:p≠j) (rs:List Rc) (e:Ev):dstep j (rs.map (fixA p v)) e=(dstep j rs e).map (fixA p v):=by
 cases e with
 | beg h nm vb x=>show rs.map _++[_]=(rs++[_]).map _;rw [V0];congr 1
 | fin h a=>
  unfold dstep;dsimp only;rw [fix_hs];cases lastI h (rs.map Rc.h) with
  | none=>rfl
  | some k=>
   dsimp only;apply D5;intro m;rw [A1,N1,N1,A1];cases rs[m]? with
   | none=>rfl
   | some r=>
    show some (if k=m then _ else _)=some (fixA p v (if k=m then _ else _));by_cases z:k=m
    ·rw [if_pos z,if_pos z];congr 1;unfold fixA;rw [if_neg (show ¬ (some j:Option Nat)=some p from λ y=>n (T0 y).symm)];split<;>rfl
    ·rw [if_neg z,if_neg z]
theorem zaa {p:Nat} {v:V} :∀(es:List Ev) (j:Nat) (rs:List Rc),p < j->dAll j (rs.map (fixA p v)) es=(dAll j rs es).map (fixA p v)
 | [],_,_,_=>rfl
 | e :: es,j,rs,h=>by show dAll (j + 1) (dstep j (rs.map _) e) es=(dAll (j + 1) (dstep j rs e) es).map _;rw [zav (L0 h),zaa es (j + 1) _ (by omega)]
theorem zd4 {p:Nat} {v:V} {rs:List Rc} (h :∀r∈rs,r.e≠some p):rs.map (fixA p v)=rs:=by
 conv=>rhs;rw [<-j06 rs]
 exact S3 λ r a=>by unfold fixA;rw [if_neg (h r a)];rfl
theorem z9i {v:V} :∀(es:List Ev) (i:Nat) (rs:List Rc) (p:Nat) (h:Int) (a:V),es[p]? = some (.fin h a)->PosI i rs->dAll i rs (es.set p (.fin h v))=(dAll i rs es).map (fixA (i + p) v)
 | e :: es,i,rs,0,h,a,he,ps=>by
  rw [Q2] at he;cases he;show dAll (i + 1) (dstep i rs (.fin h v)) es=(dAll (i + 1) (dstep i rs (.fin h a)) es).map (fixA i v);rw [<-zaa es (i + 1) _ (by omega)];congr 1;unfold dstep;dsimp only;have b :∀r∈rs,r.e≠some i:=λ r c z=>C3 _ (ps.e r c i z);cases lastI h (rs.map Rc.h) with
  | none=>exact (zd4 b).symm
  | some k=>
   dsimp only;apply D5;intro m;rw [A1,N1,A1];cases z:rs[m]? with
   | none=>rfl
   | some r=>
    show some (if k=m then _ else _)=some (fixA i v (if k=m then _ else _));by_cases y:k=m
    ·rw [if_pos y,if_pos y];unfold fixA;rw [if_pos rfl]
    ·rw [if_neg y,if_neg y];unfold fixA;rw [if_neg (b r (d0 z))]
 | e :: es,i,rs,p + 1,h,a,he,ps=>by rw [Z1] at he;show dAll (i + 1) (dstep i rs e) (es.set p _)=_;rw [z9i es (i + 1) (dstep i rs e) p h a he (ps.step e),show i + 1 + p=i + (p + 1) by omega];rfl
theorem fixA_b {p:Nat} {v:V} (r:Rc):(fixA p v r).b=r.b:=by unfold fixA;split<;>rfl
theorem fixA_w {p:Nat} {v:V} (r:Rc):isW (fixA p v r)=isW r:=by unfold isW;rw [fixA_v]
theorem za0 {α β:Type} {R:α->β->Prop} {x:α} {y:β} (r:R x y) :∀{xs:List α} {ys:List β} (i:Nat),All2 R xs ys->All2 R (xs.set i x) (ys.set i y)
 | _,_,_,.nil=>.nil
 | _,_,0,.cons _ s=>.cons r s
 | _,_,i + 1,.cons a s=>.cons a (za0 r i s)
theorem TW.set {nm:Str} {wr:Int} {es:List Ev} {os:List (Int×Bool)} {us:List Int} (h:TW nm wr es os us) :∀{e:Nat} {k a x:Int},es[e]? = some (.fin k (.int a))->TW nm wr (es.set e (.fin k (.int x))) os us:=by
 have left :∀{es:List Ev} {y:Ev} {e:Nat} {k a x:Int},(es++[y])[e]? = some (.fin k (.int a))->(es[e]? = some (.fin k (.int a))/\(es++[y]).set e (.fin k (.int x))=es.set e (.fin k (.int x))++[y])\/(y=.fin k (.int a)/\(es++[y]).set e (.fin k (.int x))=es++[.fin k (.int x)]):=λ {es y e k a x} c=>by
  rcases z3c c with z|⟨rfl,z⟩
  ·exact .inl ⟨z,List.set_append_left _ _ (z14 z)⟩
  ·refine .inr ⟨z.symm,?_⟩;rw [List.set_append_right _ _ (y0 _),z6];rfl
 induction h with
 | nil=>intro e k a x c;cases c
 | wri _ h0 h1 h2 ih=>
  intro e k a x c;rcases left (x:=x) c with ⟨z,d⟩|⟨z,_⟩
  ·rw [d];exact .wri (ih z) h0 h1 h2
  ·cases z
 | rd _ h0 ih=>
  intro e k a x c;rcases left (x:=x) c with ⟨z,d⟩|⟨z,_⟩
  ·rw [d];exact .rd (ih z) h0
  ·cases z
 | @fin es os us h b a0 hh h0 ht hf ih=>
  intro e k a x c;rcases left (x:=x) c with ⟨z,d⟩|⟨z,d⟩
  ·rw [d];exact .fin (ih z) h0 ht hf
  ·rw [d];cases z;exact .fin hh h0 (λ y=>by have:=ht y;cases this) (λ _=>⟨x,rfl⟩)
theorem zct {nm:Str} {wr:Int} {es:List Ev} {os:List (Int×Bool)} {us:List Int} (tw:TW nm wr es os us) {r:Rc} {e:Nat} {x:Int} (hr:r∈dAll 0 [] es) (rv:r.v=.str "read") (re:r.e=some e) (n1:¬ LastI (dAll 0 [] es) r.b x) (n2:¬ BesI (dAll 0 [] es) r.b e x) :
  TW nm wr (es.set e (.fin r.h (.int x))) os us/\¬ AllR RegR (dAll 0 [] (es.set e (.fin r.h (.int x))))/\¬ OcOk (dAll 0 [] (es.set e (.fin r.h (.int x)))) .non:=by
 have S:=tw.sq;have F:=S.R.b r hr e re;have K:r.a=.int (intV r.a):=by
  rcases S.G r hr with g|g
  ·exact g.2.2 e re
  ·exact absurd (rv.symm.trans g.1) z0h
 have m:=tw.set (x:=x) (F.trans (congrArg (λ v=>some (Ev.fin r.h v)) K));have n:=z9i (v:=.int x) es 0 [] e r.h r.a F PosI.nil;rw [L5] at n;have A:=m.sq;have O:=m.twg.nd;have L:=m.twg.n0;have U:=PosI.all (es.set e (.fin r.h (.int x))) PosI.nil;generalize hrs:dAll 0 [] (es.set e (.fin r.h (.int x)))=rs' at *;have W:fixA e (.int x) r={ r with a:=.int x }:=by unfold fixA;rw [if_pos re]
 have J:fixA e (.int x) r∈rs':=by rw [n];exact List.mem_map.mpr ⟨r,hr,rfl⟩
 have T :∀w∈dAll 0 [] es,isW w=true->w.b≠r.b:=S.noW (S.R.a r hr) (by rw [rv];exact z0h);have lt:=S.E r hr e re;have H :∀w∈rs',isW w=true->∃c∈dAll 0 [] es,isW c=true/\c.x=w.x/\c.b=w.b/\c.e=w.e:=λ w i f=>by rw [n] at i;obtain ⟨c,d,rfl⟩:=List.mem_map.mp i;rw [fixA_w] at f;exact ⟨c,d,f,(fixA_x c).symm,(fixA_b c).symm,(fixA_e c).symm⟩
 have B :∀c∈dAll 0 [] es,isW c=true->∃w∈rs',isW w=true/\c.x=w.x/\c.b=w.b/\c.e=w.e:=λ c d f=>⟨fixA e (.int x) c,by rw [n];exact List.mem_map.mpr ⟨c,d,rfl⟩,by rw [fixA_w];exact f,(fixA_x c).symm,(fixA_b c).symm,(fixA_e c).symm⟩
 have y:¬ RegR rs' (fixA e (.int x) r) e:=by
  rw [W];rintro (⟨w,i,f,wx,wb,wk⟩|la)
  ·obtain ⟨c,d,l,s,o,u⟩:=H w i f;exact n2 ((S.besE lt T).mpr ⟨c,d,l,by rw [s];exact wx,by rw [o];exact wb,λ k j=>wk k (by rw [<-u];exact j)⟩)
  ·refine n1 ?_;rcases la with ⟨z,h⟩|⟨w,i,f,wx,⟨k,j,kl⟩,h⟩
   ·refine .inl ⟨z,λ c d l k j=>?_⟩;obtain ⟨w,p,t,P,D,q⟩:=B c d l;exact h w p t k (by rw [<-q];exact j)
   ·obtain ⟨c,d,l,s,o,u⟩:=H w i f;refine .inr ⟨c,d,l,by rw [s];exact wx,⟨k,by rw [u];exact j,kl⟩,λ V N M ⟨k1,gk,gl⟩=>?_⟩;obtain ⟨Q,p,t,P,D,q⟩:=B V N M;rw [D,o];exact h Q p t ⟨k1,by rw [<-q];exact gk,gl⟩
 have I:(fixA e (.int x) r).v=.str "read":=by rw [fixA_v];exact rv
 have C:(fixA e (.int x) r).e=some e:=by rw [fixA_e];exact re
 exact ⟨m,λ h=>y (h _ J e I C),λ h=>col_of A U A.E O L J I C y h⟩
end
section
variable {P:Program} {w:Z0} {mg:Str->Option Value} {base:Heap}
theorem z7z {X:Cx}:OpR X (V2 .IsNot) (λ x y H Q=>∃b c,x=.bl b/\y=.bl c/\Q (.bl (!(b == c))) H):=by intro e s σ H x y v u Q I d a h;obtain ⟨b,c,rfl,rfl,q⟩:=h;cases d;cases a;refine wpAny_isNot_plain rfl (fin_bl I q ?_);cases b<;>cases c<;>rfl
theorem zc0 {H0 H H':Hp} {r:Addr} (s:Same H0 H) (n:H0 r=none) (k:Rw r H H'):Same H0 H':=λ b o e=>k.k b o (λ z=>by rw [z,n] at e;cases e) (s b o e)
theorem LamH.rw {H H':Hp} {r:Addr} (R:RowAt H r) (k:Rw r H H') (h:LamH H):LamH H':=by
 rcases h with z|⟨c',z,y⟩
 ·exact .inl (k.k _ _ (row_ne R z λ _ _ _ e=>by cases e) z)
 ·exact .inr ⟨c',k.k _ _ (row_ne R z λ _ _ _ e=>by cases e) z,k.k _ _ (row_ne R y λ _ _ _ e=>by cases e) y⟩
theorem zcs (ns:List Int) (a b:Option Int) :∃ms:List Int,cutV (ns.map V.int) a b=ms.map V.int/\ms.length<=ns.length:=by
 refine ⟨(ns.drop (HT.sIx (ns.map V.int).length 0 a)).take (HT.sIx (ns.map V.int).length (ns.map V.int).length b - HT.sIx (ns.map V.int).length 0 a),?_,?_⟩
 ·unfold cutV;rw [List.map_take,List.map_drop]
 ·rw [V3,V6];omega
theorem cut_48 (xs:List V):(cutV xs (some 1) (some 48)).length<=47:=by have a:HT.sIx xs.length 0 (some 1)=min 1 xs.length:=HT.sIx_nat xs.length 0 1;have b:HT.sIx xs.length xs.length (some 48)=min 48 xs.length:=HT.sIx_nat xs.length xs.length 48;unfold cutV;rw [a,b,V3,V6];omega
theorem zbw {P:Nat->Prop} :∀{is:List Nat} {ys:List V},All2 (λ _ y=>∃x:Int,y=.int x) is ys->∃ns:List Int,ys=ns.map V.int
 | [],_,.nil=>⟨[],rfl⟩
 | _ :: _,_,.cons ⟨x,rfl⟩ r=>by obtain ⟨ns,rfl⟩:=zbw (P:=P) r;exact ⟨x :: ns,rfl⟩
def sp_law (K:c0):Sp:=λ vs H Q _=>∃(sc:Addr) (ns:List Int),vs=[.ref sc]/\SqL K H sc (ns.map V.int)/\ns.length<=63/\H tbT=some (.tbl #[])/\∀H',Q (.bl true) H'
theorem ok_law (T:TX (kx w) mg) (c0:Ca P w mg base "_law_cell_at" ["script","k"] 1 (z1u (kx w))) (c1:Ca P w mg base "_law_stream" ["cell","way"] 1 z1b) (c2:Ca P w mg base "_law_take" ["row","many"] 1 z0x) (c3:Ca P w mg base "_law_name" ["row"] 2 (z3r (kx w))) (c4:Ca P w mg base "_law_run" ["cells","way","head","name"] 4 (z40 (kx w))) (c5:Ca P w mg base "is_regular" ["tale"] 6 (z2x (kx w))) (c6:Ca P w mg base "is_safe" ["tale"] 6 (z5q (kx w))) (c7:Ca P w mg base "turn_about" ["tale"] 6 (z2t (kx w))) (c8:Ca P w mg base "collision" ["tale"] 7 (z3b (kx w))) (c9:Ca P w mg base "_law_bent" ["events","row","used"] 2 (z3h (kx w))):Fo P w mg base CX0 8 233 fd_law ["script"] (sp_law (kx w)):=by
 refine (F_law w.params).ok sc_law (λ vs H Q E h=>?_) (λ g5 A g4 s H vs Q E l h=>?_)
 ·obtain ⟨sc,ns,rfl,_⟩:=h;rfl
 ·obtain ⟨sc,ns,rfl,sq,hn,hT,q⟩:=h;refine q_of (z0c (QS.mk (ps_set (i:=1) sc_law.nd rfl (S0 rfl) (pe_cal c0 (l.mono (by decide)) rfl (z00 (pv 0) (z00 pe_int pa_nil)))))
   (z0c (QS.mk (ps_set (i:=2) sc_law.nd rfl (S0 rfl) (pe_cal c1 (l.mono (by decide)) rfl (z00 (pe_op z6c (pv 1) pe_int) (z00 (pe_op op_mod (pv 1) pe_int) pa_nil)))))
   (z0c (QS.mk (ps_set (i:=3) sc_law.nd rfl (S0 rfl) (pe_cal c3 (l.mono (by decide)) rfl (z00 (pv 2) pa_nil))))
   (z0c (QS.mk (ps_set (i:=4) sc_law.nd rfl (S0 rfl) (pe_tup (z00 (pe_tup (z00 (pv 3) (z00 pe_str pa_nil))) pa_nil))))
   (z0c (QS.mk (ps_set (i:=5) sc_law.nd rfl (S0 rfl) (pe_cal c4 (l.mono (by decide)) rfl (z00 (z3j slSeq (pv 0) (z47 pe_int) (z47 pe_int)) (z00 (pe_op op_mod (pv 1) pe_int) (z00 (pv 2) (z00 (pv 3) pa_nil)))))))
   (z0c (QS.mk (ps_set (i:=6) sc_law.nd rfl (S0 rfl) (pe_tup (z00 (pv 4) (z00 (z32 z1r rfl (T.no (z81 _)) U9 (z00 (pv 5) pa_nil)) pa_nil)))))
   (z0c (QS.mk (ps_if (PW.pt (pw_or (z07 z7z (pe_cal c5 (l.mono (by decide)) rfl (z00 (pv 6) pa_nil)) pe_bl (nomark _)) (pw_or (z07 z7z (pe_cal c6 (l.mono (by decide)) rfl (z00 (pv 6) pa_nil)) pe_bl (nomark _)) (pw_or1 (z07 z1v (pe_cal c7 (l.mono (by decide)) rfl (z00 (pv 6) pa_nil)) pe_non (nomark _))))))
   (z06 (ps_ret pe_bl))
   z0g))
   (z0c (QS.mk (ps_if (z07 z1v (pe_cal c8 (l.mono (by decide)) rfl (z00 (pv 6) pa_nil)) pe_non (nomark _))
   (z06 (ps_ret pe_bl))
   z0g))
   (z0c (QS.mk (z4a (i:=7) sc_law.nd rfl (S0 rfl) (xs:=["event"]) (g:=gName 0) (fr:=[]) rfl (z0r (pv 5)) (λ _ z=>absurd z B0) (z4v rfl) (λ _ z=>absurd z B0) (by decide +kernel) rfl (by decide +kernel) (λ _ _ _ _ _=>(pg_cn (N:=["event"]) 0)) (λ _ _ _ _ _=>(pf_one (PW.pt (pw_and (z07 opEq (pe_ix (z0k (K:=KX w.params) rfl) (pv 0) pe_int (λ _ _=>rfl)) pe_str (nomark _)) (z1a (z07 opEq (pe_ix (z0k (K:=KX w.params) rfl) (pv 0) pe_int (λ _ _=>rfl)) pe_str (nomark _))))))) (λ _ _ _ _ _=>(pe_ix (z0k (K:=KX w.params) rfl) (pv 0) pe_int (λ _ _=>rfl)))))
   (z0c (QS.mk (ps_set (i:=8) sc_law.nd rfl (S0 rfl) pe_non))
   (z0c (QS.mk (ps_if (z07 opEq (pe_cal c2 (l.mono (by decide)) rfl (z00 (pv 2) (z00 pe_int pa_nil))) pe_int (nomark _))
   (z06 (ps_set (i:=8) sc_law.nd rfl (S0 rfl) (pe_cal c9 (l.mono (by decide)) rfl (z00 (pv 5) (z00 (pv 2) (z00 (pv 7) pa_nil))))))
   z0g))
   (z0c (QS.mk (ps_if (z07 op_isN (pv 8) pe_non (nomark _))
   (z06 (ps_ret pe_bl))
   z0g))
   (z42 (QS.mk (ps_ret (pe_and (z55 op_isB (pe_cal c5 (l.mono (by decide)) rfl (z00 (pe_tup (z00 (pv 4) (z00 (z32 z1r rfl (T.no (z81 _)) U9 (z00 (pv 8) pa_nil)) pa_nil))) pa_nil)) pe_bl (nomark _)) (pe_one (z0n z2q rfl (T.no (z20 _)) J9 (z00 (pe_cal c8 (l.mono (by decide)) rfl (z00 (pe_tup (z00 (pv 4) (z00 (z32 z1r rfl (T.no (z81 _)) U9 (z00 (pv 8) pa_nil)) pa_nil))) pa_nil)) (z00 (z97 (v:=.ty "tuple") rfl (T.no (z81 _)) U9 rfl) pa_nil)))))))))))))))))))) ?_
  have e8:LamH H:=.inl hT;refine z0a ⟨_,rfl,sc,ns,rfl,sq,λ U=>g_name ?_⟩;refine z0a ⟨_,rfl,_,_,rfl,rfl,⟨by decide,by decide⟩,_,rfl,_,_,rfl,rfl,(show (0:Int) < 2 by decide),_,_,rfl,λ hd tr hh b0 b1=>g_name ?_⟩;have s2:=Same.upd (o:=.lst [.int (U / 2),.int (U % 2),.int tr]) hh;have R2:RowAt (upd H hd (.lst [.int (U / 2),.int (U % 2),.int tr])) hd:=⟨_,_,_,z02,b0,b1⟩
  generalize upd H hd (.lst [.int (U / 2),.int (U % 2),.int tr])=H2 at s2 R2⊢;refine z0a ⟨_,rfl,hd,rfl,R2,λ t H3 k3=>g_name ?_⟩;have s3:=zc0 s2 hh k3;have R3:=k3.r;refine z0a ⟨_,rfl,w_2,λ I d5=>⟨w_1,λ pt b9=>g_name ?_⟩⟩;have u4:=Same.upd (o:=.tup [.str t,.str "register"]) d5;have v4:=Same.upd (o:=.tup [.ref I]) b9;have d:=v4 _ _ (z02 (H:=H3) (a:=I) (o:=.tup [.str t,.str "register"]));have f:upd (upd H3 I (.tup [.str t,.str "register"])) pt (.tup [.ref I]) pt=some (.tup [.ref I]):=z02;have w4:=u4.trans v4;have s4:=s3.trans w4;have R4:=R3.same w4;generalize upd (upd H3 I (.tup [.str t,.str "register"])) pt (.tup [.ref I])=H4 at d f s4 R4⊢;refine z0a ⟨_,rfl,1,rfl,48,rfl,.inl ⟨sc,_,rfl,s4.seq sq,λ l1 a4=>?_⟩⟩;obtain ⟨ms,f5,_⟩:=zcs ns (some 1) (some 48);have d7:=cut_48 (ns.map V.int);rw [f5] at d7⊢;rw [A0] at d7;have u5:=Same.upd (o:=.lst (ms.map V.int)) a4;have e5:upd H4 l1 (.lst (ms.map V.int)) l1=some (.lst (ms.map V.int)):=z02;have s5:=s4.trans u5;have R5:=R4.same u5;have d9:l1≠hd:=λ z=>by obtain ⟨_,_,_,e,_⟩:=R4;rw [z,e] at a4;cases a4
  have d:=u5 _ _ d;have f:=u5 _ _ f;generalize upd H4 l1 (.lst (ms.map V.int))=H5 at u5 e5 s5 R5 d f⊢;refine ⟨_,rfl,_,_,rfl,rfl,(show (0:Int) < 2 by decide),_,rfl,_,rfl,l1,hd,U % 2,t,ms,rfl,SqL.of e5,d9,by omega,R5,λ le C F fs wl bs us g3 m D H6 k6 B a7 u Z e3=>g_name ?_⟩;have s6:=zc0 s5 hh k6;have R6:=k6.r;have d:=k6.k _ _ (row_ne R5 d λ _ _ _ e=>by cases e) d;have f:=k6.k _ _ (row_ne R5 f λ _ _ _ e=>by cases e) f;have b4:le≠hd:=λ z=>by obtain ⟨_,_,_,e,_⟩:=R5;rw [z,e] at a7;cases a7
  refine z0a ⟨_,rfl,_,rfl,le,C,rfl,.inl ⟨SqL.of B,λ W d1=>⟨w_2,λ J b8=>g_name ?_⟩⟩⟩;have u7:=Same.upd (o:=.tup C) d1;have v7:=Same.upd (o:=.tup [.ref pt,.ref W]) b8;have w7:=u7.trans v7;have s7:=s6.trans w7;have d8:=v7 _ _ (z02 (H:=H6) (a:=W) (o:=.tup C));have d4:upd (upd H6 W (.tup C)) J (.tup [.ref pt,.ref W]) J=some (.tup [.ref pt,.ref W]):=z02;have B:=w7 _ _ B;have d:=w7 _ _ d;have f:=w7 _ _ f;have R7:=R6.same w7;have u:=z01 (λ _ _ z=>EvAt.tups (.of w7) z) u;generalize upd (upd H6 W (.tup C)) J (.tup [.ref pt,.ref W])=H7 at s7 d8 d4 B d f R7 u⊢;clear u7 v7 w7 d1 b8 u5 e5 s5 R5 d9 a4 u4 v4 w4 s4 R4 s3 R3 k3 s2 R2 d5 b9 k6 s6 R6 a7;have ta:TalR (kx w) H7 J t D F C:=⟨⟨pt,W,I,SqT.of d4,SqT.of f,SqT.of d,SqT.of d8⟩,u,⟨_,_,Z.tw⟩,by omega⟩
  have st:=Z.st;have S:=Z.tw.sq;have ps:=PosI.all F PosI.nil;have nd:=Z.tw.twg.nd;have n0:=Z.tw.twg.n0;have reg:=st.reg S ps nd n0;refine sq_if ⟨_,rfl,J,t,D,F,C,rfl,ta,λ b1 H8 s8 b5=>?_⟩;cases b5.mpr reg;refine ⟨_,_,rfl,rfl,_,rfl,iteN (by decide) ?_⟩;refine ⟨_,rfl,J,t,D,F,C,rfl,ta.same s8,λ b2 H9 s9 e1=>?_⟩;cases e1.mpr λ r l e rv re=>(reg r l e rv re).safe;refine ⟨_,_,rfl,rfl,_,rfl,iteN (by decide) ?_⟩;have b3:=s8.trans s9;refine ⟨_,rfl,J,t,D,F,C,rfl,ta.same b3,λ HA sA _=>?_,λ p i j H' _ _ fb=>absurd fb.1 (st.noBad S nd n0 i j)⟩;refine ⟨rfl,_,rfl,iteN (by decide) (t_nx ?_)⟩;have X:=b3.trans sA;have b7:=ta.same X;have a9:=LamH.same (s7.trans X) e8;have B:=X _ _ B;have d:=X _ _ d;have f:=X _ _ f;have RA:=R7.same X;have u:=z01 (λ _ _ z=>EvAt.tups (.of X) z) u;clear s8 s9 sA b3 b5 e1 ta X;refine sq_if ⟨_,rfl,J,t,D,F,C,rfl,b7,a9,λ o v HB sB d6 oc ov=>?_⟩;cases no_col st nd n0 oc;cases (show v=.non from ov);refine ⟨rfl,_,rfl,iteN (by decide) (t_nx ?_)⟩;have tb:=a9.tb;have kb :∀{b:Addr} {o:HO},(∀ps,o≠.tbl ps)->HA b=some o->HB b=some o:=λ n e=>sB _ _ (λ z=>by obtain ⟨ps,y⟩:=tb;rw [z,y] at e;exact n ps (T0 e).symm) e;have B:=kb (λ _ z=>by cases z) B;have d:=kb (λ _ z=>by cases z) d;have f:=kb (λ _ z=>by cases z) f;have RB:RowAt HB hd:=by obtain ⟨x,y,c,e,z⟩:=RA;exact ⟨x,y,c,kb (λ _ z=>by cases z) e,z⟩
  have u:=z01 (λ _ _ z=>EvAt.tups (SameB.tups sB tb) z) u;clear kb tb sB RA b7 a9 oc ov reg st;have ly:C.length=F.length:=z03 u;have d0 :∀{i:Nat} {h:Int} {n v x:V},F[i]? = some (.beg h n v x)->(v=.str "read")\/(v=.str "write"/\∃j:Int,x=.int j):=λ {i h n v x} he=>by
   obtain ⟨r,l,rfl⟩:=S.R.c i _ _ _ _ he;have:=S.R.a r l;rw [he] at this;cases this;rcases S.G r l with g|g
   ·exact .inl g.1
   ·exact .inr ⟨g.1,_,g.2.2.1⟩
  refine z0a (z17 (K:=KX w.params) (a:=le) (xs:=C) (H1:=HB) (λ i=>match F[i]? with|some (.beg _ _ v _)=>decide (v=.str "write")|_=>false) (λ i y _=>∃x:Int,y=.int x) (λ _ _ _ _ _ z=>z) (λ R h=>⟨_,rfl,h⟩) (SqL.of B) (D0 (m:=100) (by omega) (by decide)) ?_ ?_)
  ·intro i hi v H2 s2 hv KT KF g1 g2;obtain ⟨e,he,ev⟩:=z09 u hv;have ev:=EvAt.tups (.of s2) ev;rw [he] at g1 g2;cases e with
   | fin k a=>obtain ⟨p,rfl,sp⟩:=ev;exact ⟨[some (.ref p)],rfl,rfl,_,rfl,.inr (.inl ⟨p,_,0,.str "end",rfl,rfl,sp,z04 (j:=0) rfl,rfl,_,rfl,iteK (g2 rfl _ (Same.refl _))⟩)⟩
   | beg k n v x=>
    obtain ⟨p,rfl,sp⟩:=ev;refine ⟨[some (.ref p)],rfl,rfl,_,rfl,.inr (.inl ⟨p,_,0,.str "begin",rfl,rfl,sp,z04 (j:=0) rfl,rfl,_,rfl,iteP (by decide +kernel) ?_⟩)⟩;rcases d0 he with rfl|⟨rfl,j,rfl⟩
    ·exact ⟨_,rfl,.inr (.inl ⟨p,_,3,.str "read",rfl,rfl,sp,z04 (j:=3) rfl,rfl,_,rfl,iteK (g2 (decide_eq_false z0h) _ (Same.refl _))⟩)⟩
    ·exact ⟨_,rfl,.inr (.inl ⟨p,_,3,.str "write",rfl,rfl,sp,z04 (j:=3) rfl,rfl,_,rfl,iteP (by decide +kernel) ⟨_,rfl,.inr (.inl ⟨p,_,4,.int j,rfl,rfl,sp,z04 (j:=4) rfl,g1 (decide_eq_true rfl) _ _ (Same.refl _) ⟨j,rfl⟩⟩)⟩⟩)⟩
  intro lu HC f6 sC a5 a8;have e7:f6.length<=60:=by rw [z03 a8];refine D0 (E1 _ _) ?_;rw [X2];omega
  obtain ⟨nu,rfl⟩:=zbw (P:=λ _=>True) a8;rw [A0] at e7;have uD:=Same.upd (o:=.lst (nu.map V.int)) a5;have a1:upd HC lu (.lst (nu.map V.int)) lu=some (.lst (nu.map V.int)):=z02;have Y:=sC.trans uD;have d2:lu≠hd:=λ z=>by obtain ⟨_,_,_,e,_⟩:=RB.same sC;rw [z,e] at a5;cases a5
  have B:=Y _ _ B;have d:=Y _ _ d;have f:=Y _ _ f;have RD:=RB.same Y;have u:=z01 (λ _ _ z=>EvAt.tups (.of Y) z) u;have b6:=LamH.same Y d6;generalize upd HC lu (.lst (nu.map V.int))=HD at a1 B d f RD u b6⊢;refine g_name ?_;refine z0a (g_name ?_);clear sC a5 a8 uD Y RB d6;refine z78 (λ σ H'=>∃v,σ=[some (.ref sc),some (.int U),some (.ref hd),some (.str t),some (.ref pt),some (.ref le),some (.ref J),some (.ref lu),some v]/\LamH H'/\H' pt=some (.tup [.ref I])/\H' I=some (.tup [.str t,.str "register"])/\(v=.non\/∃M es' ys',v=.ref M/\H' M=some (.lst ys')/\All2 (EvAt (kx w) H') es' ys'/\es'.length<=60/\TW t D es' (osB bs) us/\¬ AllR RegR (dAll 0 [] es')/\¬ OcOk (dAll 0 [] es') .non)) ?_ λ go=>?_;rotate_left
  ·refine ⟨_,rfl,hd,2,rfl,RD,by decide,by decide,λ t2 HE kE _ _=>⟨rfl,_,rfl,?_⟩⟩;have tE:=z7k (K:=KX w.params) RD kE;have B:=kE.k _ _ b4 B;have a1:=kE.k _ _ d2 a1;have d:=kE.k _ _ (row_ne RD d λ _ _ _ e=>by cases e) d;have f:=kE.k _ _ (row_ne RD f λ _ _ _ e=>by cases e) f;have a6:=LamH.rw RD kE b6;have u:=z01 (λ _ _ z=>EvAt.tups tE z) u;have O:=kE.r;refine ite2 (λ _=>?_) λ _=>go _ _ ⟨.non,rfl,a6,f,d,.inl rfl⟩;have f8:Evs (kx w) HE le D F C (dAll 0 [] F):=⟨SqL.of B,u,S,λ e he=>?_,by omega⟩
   ·refine ⟨_,rfl,_,rfl,_,rfl,le,hd,lu,us,nu,D,F,C,t,osB bs,rfl,f8,Z.tw,e3,O,b4,a1,d2,by omega,λ HF L=>?_,λ M r e x pb HF L a2 l rv re e9 n1 n2=>?_⟩
    ·exact go _ _ ⟨.non,rfl,LamH.rw O L a6,L.k _ _ (row_ne O f λ _ _ _ e=>by cases e) f,L.k _ _ (row_ne O d λ _ _ _ e=>by cases e) d,.inl rfl⟩
    ·obtain ⟨a3,b1,b2⟩:=zct Z.tw l rv re n1 n2;exact go _ _ ⟨.ref M,rfl,LamH.rw O L a6,L.k _ _ (row_ne O f λ _ _ _ e=>by cases e) f,L.k _ _ (row_ne O d λ _ _ _ e=>by cases e) d,.inr ⟨M,_,_,rfl,a2,za0 ⟨pb,rfl,SqT.of e9⟩ e (z01 (λ _ _ z=>EvAt.tups (z7k O L) z) u),by rw [List.length_set];omega,a3,b1,b2⟩⟩
   ·cases e with
    | fin k a=>exact trivial
    | beg k n v x=>
     obtain ⟨i,hi⟩:=List.mem_iff_getElem?.mp he;rcases d0 hi with z|⟨z,_⟩
     ·exact ⟨_,z⟩
     ·exact ⟨_,z⟩
  rintro σ HG ⟨v,rfl,lmG,etG,e0G,hv⟩;rcases hv with rfl|⟨M,es',ys',rfl,a2,al',l60',a3,nr,nc⟩
  ·exact sq_if ⟨_,rfl,rfl,_,rfl,iteP rfl (q _)⟩
  refine sq_if ⟨_,rfl,rfl,_,rfl,iteN (λ z=>by cases z) (t_nx ?_)⟩;refine ⟨_,rfl,_,rfl,M,ys',rfl,.inl ⟨SqL.of a2,λ t1 f3=>⟨w_2,λ t2 f7=>?_⟩⟩⟩;have uI:=Same.upd (o:=.tup ys') f3;have vI:=Same.upd (o:=.tup [.ref pt,.ref t1]) f7;have wI:=uI.trans vI;have d3:TalR (kx w) (upd (upd HG t1 (.tup ys')) t2 (.tup [.ref pt,.ref t1])) t2 t D es' ys':=⟨⟨pt,t1,I,SqT.of z02,SqT.of (wI _ _ etG),SqT.of (wI _ _ e0G),SqT.of (vI _ _ z02)⟩,z01 (λ _ _ z=>EvAt.tups (.of wI) z) al',⟨_,_,a3⟩,by omega⟩
  generalize upd (upd HG t1 (.tup ys')) t2 (.tup [.ref pt,.ref t1])=HI at wI d3⊢;refine ⟨t2,t,D,es',ys',rfl,d3,λ b HJ sJ hb=>?_⟩;have bf:b=false:=Bool.eq_false_iff.mpr λ z=>nr (hb.mp z);subst bf;refine ⟨_,_,rfl,rfl,_,rfl,iteP rfl ?_⟩;have a0:=wI.trans sJ;have e2:=a0 _ _ etG;have f9:=a0 _ _ e0G;have e4:=z01 (λ _ _ z=>EvAt.tups (.of a0) z) al';refine ⟨_,rfl,_,rfl,M,ys',rfl,.inl ⟨SqL.of (a0 _ _ a2),λ t3 f4=>⟨w_2,λ t4 e6=>?_⟩⟩⟩;have uK:=Same.upd (o:=.tup ys') f4;have vK:=Same.upd (o:=.tup [.ref pt,.ref t3]) e6;have wK:=uK.trans vK;have f2:TalR (kx w) (upd (upd HJ t3 (.tup ys')) t4 (.tup [.ref pt,.ref t3])) t4 t D es' ys':=⟨⟨pt,t3,I,SqT.of z02,SqT.of (wK _ _ e2),SqT.of (wK _ _ f9),SqT.of (vK _ _ z02)⟩,z01 (λ _ _ z=>EvAt.tups (.of wK) z) e4,⟨_,_,a3⟩,by omega⟩
  have f1:=LamH.same (a0.trans wK) lmG;refine ⟨t4,t,D,es',ys',rfl,f2,f1,λ o v HL sL g0 oc ov=>?_⟩;have tg:TagOf HL v "tuple":=by
   cases o with
   | non=>exact absurd oc nc
   | lost n=>obtain ⟨p,rfl,e⟩:=ov;exact .inr (.inl ⟨⟨_,e⟩,rfl⟩)
   | pr k a b=>obtain ⟨p,rfl,e⟩:=ov;exact .inr (.inl ⟨⟨_,e⟩,rfl⟩)
  exact ⟨_,_,"tuple",rfl,tg,by decide,q _⟩
end
theorem ky_in {w:Z0} {h:Heap} (Y:(KY w.params).In h):(kx w).In h/\h.get? tbT=some (y7 #[]):=by
 have a:L8 tbT (kx w)=none:=by kernel_rfl
 refine ⟨λ b o e=>Y b o ?_,Y tbT _ ?_⟩
 ·have e:L8 b (kx w)=some o:=e;show L8 b ((tbT,_) :: KX w.params)=some o;rw [X4,beq_eq_false_iff_ne.mpr λ z=>by rw [z,a] at e;cases e];exact e
 ·show L8 tbT ((tbT,_) :: KX w.params)=some _;rw [X4,beq_self_eq_true]
theorem all_law {P:Program} {w:Z0} {mg:Str->Option Value} {base:Heap} (T:TX (kx w) mg) (B:BtMain base mg):Fo P w mg base CX0 8 233 fd_law ["script"] (sp_law (kx w)):=by have m:=@cal_mk P w (kx w) mg base;have z:=m T (z1d _) (z4h _) (z4u _) (z3u T );have f:=m T (z1h _) (z5i _) (z5x _) (z4j T );have a:=m T (z2o _) (z8a _) (z86 _) (z65 T );have j:=m T (z22 _) (z6e _) (z6v _) (z56 T a);have y:=m T (za9 _) (zdb _) (zdc _) (zd2 T );have A:=m T (z2m _) (z8d _) (z8k _) (z68 T a);have i:=m T (z1w _) (z6x _) (z6u _) (z5m T j);have x:=m T (z3n _) (zad _) (z9s _) (z84 T );have l:=m T (z1n _) (z5b _) (z54 _) (z4s T x);have k:=m T (z2n _) (z8c _) (z8f _) (z6g T l);have e:=m T (z1q _) (z5p _) (z62 _) (z50 T y k);have b:=m T (z4g _) (zap _) (zas _) (z8z T );have c:=m T (z1j _) (z61 _) (z64 _) (z4n T );have d:=m T (z0u _) (z29 _) (z2h _) (z24 T e);have h:=m T (z16 _) (z3t _) (z3w _) (z3a T );have g:=m T (z25 _) (z67 _) (z6n _) (z5c T );have D:=m T (z21 _) (z6z _) (z6j _) (z5n T d b c h g);have n:=m T (z4p _) (zaz _) (zag _) (za5 T d b c h g);have t:=m T (z26 _) (z69 _) (z70 _) (z5d T d b c);have s:=m T (z4l _) (zba _) (zal _) (z9q T );have p:=m T (z9n _) (zeg _) (zdm _) (zd6 T B e b c s);have v:=m T (z4i _) (zbq _) (zai _) (za4 T );have u:=m T (z4z _) (zaq _) (zbo _) (z9z T );have E:=m T (z1y _) (z6q _) (z6i _) (z5z T u v);have G:=m T (z2s _) (z8n _) (z83 _) (z72 T e b c p E);have o:=m T (z1x _) (z66 _) (z6h _) (z58 T );have F:=m T (z2l _) (z88 _) (z85 _) (z6l T );have C:=m T (z1m _) (z63 _) (z5k _) (z4b T );have r:=m T (z3g _) (z9h _) (z8w _) (z8g T a f i);have q:=m T (z2k _) (z8e _) (z8o _) (z71 T a o F C);exact ok_law T z f a A r D n t G q
end K25
open PySem PySem.W PyProof.Rows
set_option maxRecDepth 100000 in
set_option maxHeartbeats 0 in
theorem PySem.Challenge.cw_talejudge_k25_whole_runs_of_registers_holds : PySem.Challenge.rw_talejudge_k25_whole_runs_of_registers.Holds := by
 w_on;o_law
 refine holds_open (q:=K25.viewX) (loose:=K25.looseX) (Xt:=K25.XtX) (XP:=XL K25.viewX []) (Yf:=Hook.obs K25.HX) (Ya:=Hook.val K25.HX) (YP:=Hook.says K25.HX) (N:=200000) K25.leftX (Hook.of K25.HX) (Hook.keeps K25.HX) (λ s e=>xl_of s (Bool.and_eq_true_iff.mp e).1) XL.keeps (by rfl) (by rfl) (by rfl) (λ s e=>recFacts_of (Bool.and_eq_true_iff.mp e).2) (by rfl) (by assumption) (by decide +kernel) ⟨rfl,rfl,rfl,rfl,rfl,by decide +kernel⟩ ?hw ?hc
 case hw=>w_witness2
 case hc=>
  refine L2.walk_ofT (T:=K25.tbT) (c:=K25.cdT) (l:=PySem.Challenge.rw_talejudge_k25_whole_runs_of_registers) (n:=63) (k:=8) (x:="script") (K:=K25.KX) (CX:=λ _=>L2.CX0) (sp:=λ w=>K25.sp_law (K25.KX w.params)) rfl (by decide) rfl ⟨rfl,by decide,by decide,rfl⟩ (λ w h Y=>K25.ky_in (PySem.W.kIn_of Y)) (λ P=>by kernel_rfl) K25.ck_T ?F ?S ?C
  case F=>intro w m o h KX G j;have T:=L2.TX.mk' KX G;have b:=j.symm.trans (T.of (K25.g_law _));cases b;exact ⟨K25.fd_law,λ s u=>.of_eq rfl,λ p r t B=>K25.all_law T B⟩
  case S=>exact λ w H a i f g d=>⟨a,i,rfl,d,f,g,λ _=>rfl⟩
  case C=>exact λ _ _ _ _ _ z=>z
