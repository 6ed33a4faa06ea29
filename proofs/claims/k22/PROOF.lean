import PyProof.Rows.All
import Wide.All
import OpenK.AllK
import Wide.FinOn
import Lean
import PyProof.EqAt
import PyProof.EqKinds
import PyProof.TupleCall
import Open.Tops
import KE.KIntText
import PyProof.ZipIter
import PyProof.Draws
import KE.KDictSum
import KE.KSortedM
import OpenK.KRaise
import OpenK.KOwn
import PyProof.ExcBaseAll.ValueError
import KE.KTryMore
import PyProof.NsDelKeeps
import KE.KDictOf
import KE.KEqDict
import PyProof.DictWalks
import PyProof.TupleKey
import PyProof.MinMaxWalk
import KE.KSortTup
import PyProof.StrWalks
import KE.KRevIter
import KE.KListMore
import PyProof.StrLawsTight
import PyProof.StrLawsChain
import PySem.Challenge.RW_talejudge_k22_not_plain
set_option maxRecDepth 100000
set_option maxHeartbeats 0
namespace K22
open_shared pre for PySem.Challenge.pw_talejudge_k22_not_plain leaving 38
end K22
set_option maxHeartbeats 200000
-- CHANGE: your row's module here,as the last of these rows
set_option Elab.async false
set_option linter.all false
namespace L2
open PySem PySem.Spec PyProof.Rows
abbrev Key:=Sum Int Str
def keyIs:Key→Value→Bool
 | .inl k,v=>Value.isInt k v
 | .inr x,v=>Value.isStrOf x v
def keyH (w:World):Key→Int
 | .inl k=>hashInt k
 | .inr x=>hashStr w x
theorem keyIs_shape :∀{k:Key} {v:Value},keyIs k v=true→(∃i t,k=Sum.inl i∧v=Value.int i t)∨(∃x t,k=Sum.inr x∧v=Value.str x t)
 | .inl i,v,h=>by
  obtain ⟨t,e⟩:=Value.isInt_shape (k:=i) (v:=v) h
  exact .inl ⟨i,t,rfl,e⟩
 | .inr x,v,h=>by
  obtain ⟨t,e⟩:=Value.isStrOf_shape (x:=x) (v:=v) h
  exact .inr ⟨x,t,rfl,e⟩
theorem keyIs_int (i:Int) (t:Tok):keyIs (.inl i) (.int i t)=true:=by simp [keyIs,Value.isInt]
theorem keyIs_str (x:Str) (t:Tok):keyIs (.inr x) (.str x t)=true:=by simp [keyIs,Value.isStrOf]
theorem key_ll (a b:Int):decide ((Sum.inl a:Key)=Sum.inl b)=(a == b):=by
 by_cases e:a=b
 ·subst e;simp
 ·have h:¬ (Sum.inl a:Key)=Sum.inl b:=fun q=>e (Sum.inl.inj q)
  rw [decide_eq_false h]
  exact (beq_eq_false_iff_ne.mpr e).symm
theorem key_rr (a b:Str):decide ((Sum.inr a:Key)=Sum.inr b)=decide (a=b):=by
 by_cases e:a=b
 ·subst e;simp
 ·have h:¬ (Sum.inr a:Key)=Sum.inr b:=fun q=>e (Sum.inr.inj q)
  rw [decide_eq_false h,decide_eq_false e]
theorem key_lr (a:Int) (b:Str):decide ((Sum.inl a:Key)=Sum.inr b)=false:=decide_eq_false (fun q=>nomatch q)
theorem key_rl (a:Str) (b:Int):decide ((Sum.inr a:Key)=Sum.inl b)=false:=decide_eq_false (fun q=>nomatch q)
def mixKind (prog:Program) (w:World):PySem.KeyKind prog w Key where
 is:=keyIs
 hash:=keyH w
 inj:=fun v a b ha hb=>by
  rcases keyIs_shape ha with ⟨i,t,rfl,rfl⟩|⟨x,t,rfl,rfl⟩
  ·rcases keyIs_shape hb with ⟨j,u,rfl,e⟩|⟨y,u,rfl,e⟩
   ·injection e with e1 _;rw [e1]
   ·exact nomatch e
  ·rcases keyIs_shape hb with ⟨j,u,rfl,e⟩|⟨y,u,rfl,e⟩
   ·exact nomatch e
   ·injection e with e1 _;rw [e1]
 byValue:=fun k v h=>by
  rcases keyIs_shape h with ⟨i,t,rfl,rfl⟩|⟨x,t,rfl,rfl⟩<;>rfl
 pyHash:=fun hv h=>by
  rcases keyIs_shape hv with ⟨i,t,rfl,rfl⟩|⟨x,t,rfl,rfl⟩
  ·exact wpAny_pyHash_int h
  ·exact wpAny_pyHash_str h
 eqBool:=fun hu hv h=>by
  rcases keyIs_shape hu with ⟨i,t,rfl,rfl⟩|⟨x,t,rfl,rfl⟩
  ·rcases keyIs_shape hv with ⟨j,u,rfl,rfl⟩|⟨y,u,rfl,rfl⟩
   ·rw [key_ll] at h;exact wpAny_eqBool_int h
   ·rw [key_lr] at h;exact SeqAt.EqAt.int_str i t y u _ _ _ _ h
  ·rcases keyIs_shape hv with ⟨j,u,rfl,rfl⟩|⟨y,u,rfl,rfl⟩
   ·rw [key_rl] at h;exact SeqAt.EqAt.str_int x t j u _ _ _ _ h
   ·rw [key_rr] at h;exact wpAny_eqBool_str h
 «strs»:=fun k x t v h=>by
  rcases keyIs_shape h with ⟨i,u,rfl,e⟩|⟨y,u,rfl,e⟩
  ·exact nomatch e
  ·injection e with e1 _
   subst e1
   cases v<;>rfl
theorem mixKind_int (prog:Program) (w:World) (i:Int) (t:Tok):(mixKind prog w).is (.inl i) (.int i t)=true:=keyIs_int i t
theorem mixKind_str (prog:Program) (w:World) (x:Str) (t:Tok):(mixKind prog w).is (.inr x) (.str x t)=true:=keyIs_str x t
inductive V where
 | non|bl (b:Bool)|int (i:Int)|str (x:Str)|byt (b:Array UInt8)|flt (b:UInt64)|ref (a:Addr)|ty (n:String)
 deriving DecidableEq
def RelV:V→Value→Prop
 | .non,u=>u=Value.none
 | .bl b,u=>u=Value.bool b
 | .int i,u=>∃t,u=Value.int i t
 | .str x,u=>∃t,u=Value.str x t
 | .byt b,u=>∃t,u=Value.bytes b t
 | .flt b,u=>∃t,u=Value.float b t
 | .ref a,u=>u=Value.ref a
 | .ty n,u=>u=Value.type n
abbrev Vals:List V→List Value→Prop:=Paired RelV
theorem Vals.length {xs:List V} {us:List Value} (r:Vals xs us):xs.length=us.length:=Paired.length r
theorem Vals.get :∀{xs:List V} {us:List Value} {i:Nat} {x:V},Vals xs us→xs[i]? = some x→∃u,us[i]? = some u∧RelV x u
 | _,_,_,_,.nil,e=>by simp at e
 | _,_,0,_,.cons r _,e=>by simp at e;subst e;exact ⟨_,rfl,r⟩
 | _,_,i + 1,x,.cons _ t,e=>by
  obtain ⟨u,h1,h2⟩:=Vals.get (i:=i) (x:=x) t (by simpa using e)
  exact ⟨u,by simpa using h1,h2⟩
theorem Vals.set {x:V} {u:Value} (r:RelV x u) :∀{xs:List V} {us:List Value} (i:Nat),Vals xs us→Vals (xs.set i x) (us.set i u)
 | _,_,_,.nil=>.nil
 | _,_,0,.cons _ t=>.cons r t
 | _,_,i + 1,.cons q t=>.cons q (Vals.set r i t)
theorem Vals.append :∀{xs ys:List V} {us ws:List Value},Vals xs us→Vals ys ws→Vals (xs++ys) (us++ws)
 | _,_,_,_,.nil,s=>s
 | _,_,_,_,.cons r t,s=>.cons r (Vals.append t s)
theorem Vals.take :∀{xs:List V} {us:List Value} (n:Nat),Vals xs us→Vals (xs.take n) (us.take n)
 | _,_,0,_=>.nil
 | _,_,_ + 1,.nil=>.nil
 | _,_,n + 1,.cons r t=>.cons r (Vals.take n t)
theorem Vals.drop :∀{xs:List V} {us:List Value} (n:Nat),Vals xs us→Vals (xs.drop n) (us.drop n)
 | _,_,0,r=>r
 | _,_,_ + 1,.nil=>.nil
 | _,_,n + 1,.cons _ t=>Vals.drop n t
def RelO:Option V→Option Value→Prop
 | some v,some u=>RelV v u
 | none,none=>True
 | _,_=>False
def KV {κ:Type}:List (κ×V)→List (κ×Value)→Prop:=Paired fun (p:κ×V) (q:κ×Value)=>p.1=q.1∧RelV p.2 q.2
def kV:Key→V
 | .inl i=>.int i
 | .inr x=>.str x
inductive HO where
 | lst (xs:List V)
 | tup (xs:List V)
 | dK (kvs:List (Key×V))|dT (kvs:List (List Key×V))
 | set (S:Int→Bool) (n:Nat)
 | ins (C dx:Addr) (fs:List (Str×V))
 | own (x:Addr)
 | xd (fs:List (Str×V))
 | met (f x:Addr)
 | rng (lo hi:Int)
 | frz (o:Obj) (u:HO)
 | tbl (ps:Array Value)
 | ext (φ:Heap→Prop)
abbrev Hp:=Addr→Option HO
def upd (H:Hp) (a:Addr) (o:HO):Hp:=fun b=>if b=a then some o else H b
theorem upd_same {H:Hp} {a:Addr} {o:HO}:upd H a o a=some o:=by unfold upd;rw [if_pos rfl]
theorem upd_ne {H:Hp} {a b:Addr} {o:HO} (h:b≠a):upd H a o b=H b:=by unfold upd;rw [if_neg h]
theorem ne_of {H:Hp} {a b:Addr} {o u:HO} (h:H a=some o) (h':H b=some u) (d:o≠u):a≠b:=by
 intro e;subst e;rw [h] at h';exact d (Option.some.inj h')
theorem ne_of_none {H:Hp} {a b:Addr} {o:HO} (h:H a=some o) (h':H b=none):a≠b:=by
 intro e;subst e;rw [h] at h';cases h'
section
variable (P:Program) (w:World)
def IsTupN (h:Heap) (a:Addr) (items:Array Value):Prop:=IsTup h a items∧∃o,h.get? a=some o∧o.dict=none
theorem IsTupN.new (h:Heap) (items:Array Value):IsTupN (h.push { cls:=.type "tuple",data:=.seq items }) h.objs.size items:=⟨IsTup.new _ _,_,Heap.get?_push_size _ rfl,rfl⟩
def ObjOk (H:Hp) (h:Heap) (a:Addr):HO→Prop
 | .lst xs=>xs.length≤sizeLine∧∃(its:List Value) (n:Nat),Vals xs its∧h.get? a=some { cls:=.type "list",data:=.seq its.toArray n }
 | .tup xs=>xs.length≤sizeLine∧∃its:List Value,Vals xs its∧IsTupN h a its.toArray
 | .dK kvs=>kvs.length≤sizeLine∧(a == sysModules)=false∧∃vs,KV kvs vs∧h.DictOf (mixKind P w) a vs
 | .dT kvs=>kvs.length≤sizeLine∧(a == sysModules)=false∧∃xs:List (List Key×Addr×Value),
   Paired (fun (p:List Key×V) (q:List Key×Addr×Value)=>p.1=q.1∧H q.2.1=some (.tup (p.1.map kV))∧RelV p.2 q.2.2) kvs xs∧
   ∃o es ep,h.get? a=some o∧o.ExactDict∧o.data=.dict es ep∧es.toList=xs.map (entryOfKey (tupleKind (mixKind P w)))∧(xs.map (·.1)).Nodup
 | .set S n=>h.SetOf (intKind P w) a S n
 | .ins C dx fs=>H dx=some (.own a)∧fs.length≤1000∧dx≠a∧h.get? a=some (PySem.W.instObj C dx)∧
   ∃mA,h.Ns1 dx mA∧(∀f,RelO (fs.lookup f) (mA f))∧PySem.Within mA (fs.map (·.1))
 | .own _=>∃o,h.get? a=some o
 | .xd fs=>∃mA,h.Ns1 a mA∧∀f,RelO (fs.lookup f) (mA f)
 | .rng lo hi=>∃t u v,h.get? a=some { cls:=.type "range",data:=.fields #[.int lo t,.int hi u,.int 1 v] }
 | .frz o u=>h.get? a=some o∧ObjOk H h a u
 | .tbl ps=>h.get? a=some { cls:=.none,data:=.fields ps }
 | .met f x=>h.get? a=some (PySem.W.methodObj (.ref f) (.ref x))
 | .ext φ=>φ h∧(∃o,h.get? a=some o)∧∀h1 h2:Heap,φ h1→(∀o,h1.get? a=some o→h2.get? a=some o)→φ h2
def HOk (H:Hp) (h:Heap):Prop:=∀a o,H a=some o→ObjOk P w H h a o
end
section
variable {P:Program} {w:World} {H H':Hp} {h h':Heap} {a:Addr} {o:HO}
theorem ObjOk.lt (x:ObjOk P w H h a o):a < h.objs.size:=by
 cases o with
 | lst xs=>obtain ⟨_,_,_,_,e⟩:=x;exact Heap.lt_size e
 | tup xs=>obtain ⟨_,_,_,p⟩:=x;exact p.1.lt
 | dK kvs=>obtain ⟨_,_,_,_,o,_,_,e,_⟩:=x;exact Heap.lt_size e
 | dT kvs=>obtain ⟨_,_,_,_,o,_,_,e,_⟩:=x;exact Heap.lt_size e
 | set S n=>obtain ⟨o,_,_,_,e,_⟩:=x;exact Heap.lt_size e
 | ins C dx fs=>obtain ⟨_,_,_,e,_⟩:=x;exact Heap.lt_size e
 | own y=>obtain ⟨_,e⟩:=x;exact Heap.lt_size e
 | xd fs=>obtain ⟨_,⟨_,_,_,e,_⟩,_⟩:=x;exact Heap.lt_size e
 | rng lo hi=>obtain ⟨_,_,_,e⟩:=x;exact Heap.lt_size e
 | frz ob u=>obtain ⟨e,_⟩:=x;exact Heap.lt_size e
 | tbl ps=>exact Heap.lt_size (show h.get? a=some _ from x)
 | met f y=>exact Heap.lt_size (show h.get? a=some _ from x)
 | ext φ=>obtain ⟨_,⟨_,e⟩,_⟩:=x;exact Heap.lt_size e
theorem Paired.mapP {α β:Type} {F G:α→β→Prop} :∀{l₁:List α} {l₂:List β},Paired F l₁ l₂→(∀a b,F a b→G a b)→Paired G l₁ l₂
 | _,_,.nil,_=>.nil
 | _,_,.cons r t,f=>.cons (f _ _ r) (Paired.mapP t f)
theorem ObjOk.stay (x:ObjOk P w H h a o) (k :∀b u,(b=a∨H b=some (.own a))→h.get? b=some u→h'.get? b=some u)
  (ho :∀b,H b=some (.own a)→H' b=some (.own a)) (ht :∀b xs,H b=some (.tup xs)→H' b=some (.tup xs)):ObjOk P w H' h' a o:=by
 induction o with
 | lst xs=>obtain ⟨z,its,n,r,e⟩:=x;exact ⟨z,its,n,r,k _ _ (.inl rfl) e⟩
 | tup xs=>obtain ⟨z,its,r,⟨ob,e,c⟩,o2,e2,d2⟩:=x;exact ⟨z,its,r,⟨ob,k _ _ (.inl rfl) e,c⟩,o2,k _ _ (.inl rfl) e2,d2⟩
 | dK kvs=>obtain ⟨z,y,vs,r,ob,es,ep,e,c⟩:=x;exact ⟨z,y,vs,r,ob,es,ep,k _ _ (.inl rfl) e,c⟩
 | dT kvs=>
  obtain ⟨z,y,xs,r,ob,es,ep,e,c⟩:=x
  exact ⟨z,y,xs,Paired.mapP r fun p q z=>⟨z.1,ht _ _ z.2.1,z.2.2⟩,ob,es,ep,k _ _ (.inl rfl) e,c⟩
 | set S n=>obtain ⟨ob,es,ep,t,e,c⟩:=x;exact ⟨ob,es,ep,t,k _ _ (.inl rfl) e,c⟩
 | ins C dx fs=>
  obtain ⟨d,z,ne,e,mA,⟨od,es,ep,e2,c⟩,r⟩:=x
  exact ⟨ho _ d,z,ne,k _ _ (.inl rfl) e,mA,⟨od,es,ep,k _ _ (.inr d) e2,c⟩,r⟩
 | own y=>obtain ⟨ob,e⟩:=x;exact ⟨ob,k _ _ (.inl rfl) e⟩
 | xd fs=>obtain ⟨mA,⟨od,es,ep,e,c⟩,r⟩:=x;exact ⟨mA,⟨od,es,ep,k _ _ (.inl rfl) e,c⟩,r⟩
 | rng lo hi=>obtain ⟨t,u,v,e⟩:=x;exact ⟨t,u,v,k _ _ (.inl rfl) e⟩
 | frz ob u ih=>obtain ⟨e,q⟩:=x;exact ⟨k _ _ (.inl rfl) e,ih q⟩
 | tbl ps=>
  have e:h.get? a=some { cls:=.none,data:=.fields ps }:=x
  show h'.get? a=some { cls:=.none,data:=.fields ps }
  exact k a _ (.inl rfl) e
 | met f y=>
  have e:h.get? a=some (PySem.W.methodObj (.ref f) (.ref y)):=x
  show h'.get? a=some (PySem.W.methodObj (.ref f) (.ref y))
  exact k a _ (.inl rfl) e
 | ext φ=>obtain ⟨p,⟨o,e⟩,st⟩:=x;exact ⟨st _ _ p fun o q=>k _ _ (.inl rfl) q,⟨o,k _ _ (.inl rfl) e⟩,st⟩
theorem HOk.lt (x:HOk P w H h) (e:H a=some o):a < h.objs.size:=(x a o e).lt
theorem HOk.fresh (x:HOk P w H h) (e:h.objs.size≤a):H a=none:=by
 cases q:H a with
 | none=>rfl
 | some u=>exact absurd (Nat.lt_of_lt_of_le (x.lt q) e) (Nat.lt_irrefl _)
theorem HOk.kept (x:HOk P w H h) (k :∀b u,h.get? b=some u→h'.get? b=some u):HOk P w H h':=fun a o e=>
 (x a o e).stay (fun b u _ q=>k b u q) (fun _ q=>q) fun _ _ q=>q
theorem HOk.laid (x:HOk P w H h) (k :∀b u,h.get? b=some u→h'.get? b=some u) (hp:h.objs.size≤a) (new:ObjOk P w (upd H a o) h' a o):HOk P w (upd H a o) h':=fun b u e=>by
 have hn:=x.fresh hp
 by_cases hb:b=a
 ·subst hb;rw [upd_same] at e;cases e;exact new
 ·rw [upd_ne hb] at e
  exact (x b u e).stay (fun c v _ q=>k c v q) (fun c q=>by rw [upd_ne (ne_of_none q hn)];exact q) fun c xs q=>by rw [upd_ne (ne_of_none q hn)];exact q
end
def Rd (H:Hp) (a:Addr) (u:HO):Prop:=H a=some u∨∃o,H a=some (.frz o u)
theorem Rd.ok {P:Program} {w:World} {H:Hp} {h:Heap} {a:Addr} {u:HO} (r:Rd H a u) (x:HOk P w H h):ObjOk P w H h a u:=by
 rcases r with r|⟨o,r⟩
 ·exact x a u r
 ·obtain ⟨_,q⟩:=x a _ r
  exact q
def Mut:Option HO→Prop
 | some (.lst _)=>True
 | some (.dK _)=>True
 | some (.dT _)=>True
 | some (.set _ _)=>True
 | some (.ins _ _ _)=>True
 | some (.ext _)=>True
 | _=>False
section
variable {P:Program} {w:World} {H:Hp} {h h':Heap} {x e:Addr} {o':HO}
theorem HOk.write (ok:HOk P w H h) (mu:Mut (H x)) (he:e=x∨H e=some (.own x)) (k :∀b u,b≠e→h.get? b=some u→h'.get? b=some u) (heo :∃u,h'.get? e=some u)
  (new:ObjOk P w (upd H x o') h' x o'):HOk P w (upd H x o') h':=fun b u q=>by
 have nown :∀c y,H c=some (.own y)→c≠x:=fun c y r z=>by subst z;rw [r] at mu;exact mu
 have ntup :∀c xs,H c=some (.tup xs)→c≠x:=fun c xs r z=>by subst z;rw [r] at mu;exact mu
 by_cases hb:b=x
 ·subst hb;rw [upd_same] at q;cases q;exact new
 ·rw [upd_ne hb] at q
  by_cases hbe:b=e
  ·have q':H b=some (.own x):=by
    rcases he with z|z
    ·exact absurd (hbe.trans z) hb
    ·rw [hbe];exact z
   rw [q] at q';cases q'
   obtain ⟨v,hv⟩:=heo
   exact ⟨v,by rw [hbe];exact hv⟩
  ·refine (ok b u q).stay (fun c v hc r=>k c v ?_ r) (fun c r=>by rw [upd_ne (nown c b r)];exact r) fun c xs r=>by rw [upd_ne (ntup c xs r)];exact r
   rcases hc with rfl|hc
   ·exact hbe
   ·rintro rfl
    rcases he with z|z
    ·exact nown c b hc z
    ·rw [hc] at z;cases z;exact hb rfl
end
structure Un (fs ex:List Addr) (H H':Hp) (h h':Heap):Prop where
 keep :∀b o,h.get? b=some o→H b=none→b∉fs→b∉ex→h'.get? b=some o
 slot :∀b o,h.get? b=some o→H b=none→b∈fs→b∉ex→∃sl,h'.get? b=some { o with slots:=sl }
 free :∀b o,h.get? b=some o→H b=none→b∉ex→H' b=none
 there :∀b o,h.get? b=some o→b∉ex→∃o',h'.get? b=some o'
 tups :∀b xs,H b=some (.tup xs)→H' b=some (.tup xs)
 frzs :∀b o u,H b=some (.frz o u)→H' b=some (.frz o u)
 tbls :∀b ps,H b=some (.tbl ps)→∃more,H' b=some (.tbl (ps++more))
section
variable {fs fs' ex ex':List Addr} {H H1 H2:Hp} {h h1 h2 h':Heap} {a x e:Addr} {o:HO}
theorem Un.any (u:Un fs ex H H1 h h1) {b:Addr} {ob:Obj} (q:h.get? b=some ob) (n:H b=none) (hx:b∉ex) :∃sl,h1.get? b=some { ob with slots:=sl }:=by
 by_cases hb:b∈fs
 ·exact u.slot b ob q n hb hx
 ·exact ⟨ob.slots,u.keep b ob q n hb hx⟩
theorem Un.kept (k :∀b u,h.get? b=some u→h'.get? b=some u):Un fs ex H H h h':=
 ⟨fun b ob q _ _ _=>k b ob q,fun b ob q _ _ _=>⟨ob.slots,k b ob q⟩,fun _ _ _ n _=>n,fun b ob q _=>⟨ob,k b ob q⟩,fun _ _ q=>q,fun _ _ _ q=>q,fun _ ps q=>⟨#[],by rw [q];simp⟩⟩
theorem Un.refl:Un fs ex H H h h:=Un.kept fun _ _ q=>q
theorem Un.laid (k :∀b u,h.get? b=some u→h'.get? b=some u) (hp:h.objs.size≤a) (hn:H a=none):Un fs ex H (upd H a o) h h' where
 keep:=fun b u q _ _ _=>k b u q
 slot:=fun b u q _ _ _=>⟨u.slots,k b u q⟩
 free:=fun b u q n _=>by rw [upd_ne (Nat.ne_of_lt (Nat.lt_of_lt_of_le (Heap.lt_size q) hp))];exact n
 there:=fun b u q _=>⟨u,k b u q⟩
 tups:=fun b xs q=>by rw [upd_ne (ne_of_none q hn)];exact q
 frzs:=fun b u xs q=>by rw [upd_ne (ne_of_none q hn)];exact q
 tbls:=fun b ps q=>⟨#[],by rw [upd_ne (ne_of_none q hn),q];simp⟩
theorem Un.write (mu:Mut (H x)) (he:e=x∨H e=some (.own x)) (k :∀b u,b≠e→h.get? b=some u→h'.get? b=some u) (heo :∃u,h'.get? e=some u):Un fs ex H (upd H x o) h h':=by
 have hx :∀b,H b=none→b≠x:=fun b n z=>by subst z;rw [n] at mu;exact mu
 have hb :∀b,H b=none→b≠e:=fun b n z=>by
  subst z
  rcases he with r|r
  ·exact hx b n r
  ·rw [n] at r;cases r
 have hm :∀b u,H b=some u→¬ Mut (some u)→b≠x:=fun b u q nm z=>by subst z;rw [q] at mu;exact nm mu
 refine ⟨fun b u q n _ _=>k b u (hb b n) q,fun b u q n _ _=>⟨u.slots,k b u (hb b n) q⟩,fun b u q n _=>by rw [upd_ne (hx b n)];exact n,fun b u q _=>?_,
  fun b xs q=>by rw [upd_ne (hm b _ q fun z=>z)];exact q,fun b u xs q=>by rw [upd_ne (hm b _ q fun z=>z)];exact q,fun b ps q=>⟨#[],by rw [upd_ne (hm b _ q fun z=>z),q];simp⟩⟩
 by_cases hbe:b=e
 ·subst hbe;exact heo
 ·exact ⟨u,k b u hbe q⟩
end
def trk (h:Heap) (H:Hp):List Addr:=(List.range h.objs.size).filter fun a=>(H a).isSome
def hidT (h:Heap) (H:Hp):Heap:=PySem.W.hideAll h (trk h H)
theorem hidT_size (h:Heap) (H:Hp):(hidT h H).objs.size=h.objs.size:=PySem.W.hideAll_size _ _
theorem hidT_get {h:Heap} {H:Hp} {b:Addr} {o:Obj} (e:h.get? b=some o) (n:H b=none):(hidT h H).get? b=some o:=
 PySem.W.hideAll_get _ e fun hm=>by
  have q:(H b).isSome=true:=(List.mem_filter.mp hm).2
  rw [n] at q;simp at q
theorem of_hidT {h:Heap} {H:Hp} {b:Addr} {o:Obj} (e:(hidT h H).get? b=some o):h.get? b=some o∧H b=none:=by
 have e':h.get? b=some o:=PySem.W.of_hideAll (trk h H) e
 refine ⟨e',?_⟩
 cases q:H b with
 | none=>rfl
 | some x=>
  have hm:b∈trk h H:=List.mem_filter.mpr ⟨List.mem_range.mpr (Heap.lt_size e'),by simp [q]⟩
  have z:(hidT h H).get? b=none:=PySem.W.hideAll_none (trk h H) hm
  rw [z] at e;cases e
def allNews (g h:Heap) (L:Addr):List (Addr×Obj):=(List.range h.objs.size).filterMap fun a=>if a=L∨(g.get? a).isSome=true then none else (h.get? a).map fun o=>(a,o)
def rest (g h:Heap) (L d:Addr):List (Addr×Obj):=(allNews g h L).filter fun p=>decide (p.1≠d)
structure Mod (K:PySem.W.Frag) (mg:Str→Option Value) (base:Heap):Prop where
 kin:K.In base
 glob:base.Ns mainGlobals mg
 blt :∃mb,base.Ns builtinsNs mb∧∀x:Str,x≠"__name__"→mb x=bootBuiltins x
 nolimit:base.NoLimit
structure Cx where
 prog:Program
 w:World
 K:PySem.W.Frag
 mg:Str→Option Value
 base:Heap
 A:Around
 N:List Str
 s₀:Shared
 H₀:Hp
 env:Env
 outer:List Env
 stack:List Env
 ex:List Addr
 fn:Str→Bool
 calm:Bool
 pn:List (Addr×Obj)
 xe:Value→Shared→Prop
def frs (l:List Env):List Addr:=l.filterMap (·.frame)
abbrev Cx.fs (X:Cx):List Addr:=frs X.outer
def Vis (sc:Scope) (x:Str):Prop:=sc.names.lookup x=some .local∨sc.names.lookup x=some .cell∨sc.names.lookup x=some .free
def Loc (sc:Scope) (x:Str):Prop:=sc.names.lookup x=some .local∨sc.names.lookup x=some .cell
def Look (env:Env) (h:Heap) (m:Str→Option Value) (x:Str) (u:Value):Prop:=
 (env.kindOf x=some .local∧m x=some u)∨((env.kindOf x=some .cell∨env.kindOf x=some .free)∧∃c,env.cells.lookup x=some c∧h.IsCell c (some u))
structure Cx.Ok (X:Cx):Prop where
 mod:Mod X.K X.mg X.base
 kind:X.env.scope.kind=.function
 glob:X.env.globals=mainGlobals
 blt:X.env.builtins=builtinsNs
 above:X.s₀.heap.objs.size≤X.env.locals
 inj :∀x y c,X.env.cells.lookup x=some c→X.env.cells.lookup y=some c→x=y
 has :∀x,(X.env.kindOf x=some .cell∨X.env.kindOf x=some .free)→∃c,X.env.cells.lookup x=some c
 cab :∀x c,X.fn x=true→X.env.cells.lookup x=some c→X.s₀.heap.objs.size≤c
 hd:X.calm=true→X.A.handled=none
 frames:X.A.frames=some X.stack
 stk:X.stack=X.outer∨(X.stack=X.env :: X.outer∧X.env.frame=some X.env.locals)
 exf :∀b∈X.ex,b≠X.env.locals∧∀x c,X.env.cells.lookup x=some c→c≠b
 bs :∀b o,X.base.get? b=some o→X.s₀.heap.get? b=some o∧X.H₀ b=none
 bsz:X.base.objs.size≤X.s₀.heap.objs.size
 noex :∀b o,X.base.get? b=some o→b∉X.ex
 exfs :∀b∈X.ex,b∉X.fs
 funs:X.s₀.heap.FunFrames X.base X.outer
 frf :∀b∈X.fs,X.H₀ b=none
structure Inv (X:Cx) (pins:List (Addr×Obj)) (σ:List (Option V)) (H:Hp) (s:Shared):Prop where
 ok:X.Ok
 os:s.os=X.s₀.os
 bare:AllBare s.gens
 base:Un X.fs X.ex X.H₀ H X.s₀.heap s.heap
 loc :∃m,s.heap.Ns X.env.locals m∧∀(i:Nat) (x:Str) (v:V),X.N[i]? = some x→σ[i]? = some (some v)→Vis X.env.scope x→∃u,RelV v u∧Look X.env s.heap m x u
 cell :∀x c,X.env.cells.lookup x=some c→∃v,s.heap.IsCell c v
 free:H X.env.locals=none
 freeC :∀x c,X.env.cells.lookup x=some c→H c=none
 pin :∀p∈X.pn++pins,s.heap.get? p.1=some p.2∧H p.1=none∧p.1≠X.env.locals∧p.1∉X.fs∧∀v,p.2.data≠.cell v
 hok:HOk X.prog X.w H s.heap
 len:σ.length=X.N.length
section
variable {X:Cx} {pins:List (Addr×Obj)} {σ:List (Option V)} {H H':Hp} {s:Shared} {h':Heap}
theorem Cx.Ok.nofr (ok:X.Ok) {b:Addr} {o:Obj} (e:X.base.get? b=some o):b∉X.fs:=fun hb=>by
 have:=(ok.funs.mem hb).1
 rw [e] at this;cases this
theorem Inv.bs (I:Inv X pins σ H s) :∀b o,X.base.get? b=some o→s.heap.get? b=some o∧H b=none:=fun b o e=>
 ⟨I.base.keep b o (I.ok.bs b o e).1 (I.ok.bs b o e).2 (I.ok.nofr e) (I.ok.noex b o e),I.base.free b o (I.ok.bs b o e).1 (I.ok.bs b o e).2 (I.ok.noex b o e)⟩
theorem Inv.bk (I:Inv X pins σ H s) :∀b o,X.base.get? b=some o→s.heap.get? b=some o:=fun b o e=>(I.bs b o e).1
theorem Inv.mod (I:Inv X pins σ H s):Mod X.K X.mg X.base:=I.ok.mod
theorem Inv.kIn (I:Inv X pins σ H s):X.K.In s.heap:=I.ok.mod.kin.keeps I.bk
theorem Inv.lt (I:Inv X pins σ H s):X.env.locals < s.heap.objs.size:=let ⟨_,hn,_⟩:=I.loc;hn.lt
theorem Inv.sz (I:Inv X pins σ H s):X.s₀.heap.objs.size≤s.heap.objs.size:=Nat.le_trans I.ok.above (Nat.le_of_lt I.lt)
theorem Inv.nofs (I:Inv X pins σ H s) {a:Addr} (h:s.heap.objs.size≤a):a∉X.fs:=fun hb=>by
 obtain ⟨_,o,ho,_⟩:=I.ok.funs.mem hb
 exact absurd (Nat.lt_of_lt_of_le (Heap.lt_size ho) (Nat.le_trans I.sz h)) (Nat.lt_irrefl _)
theorem Inv.cne (I:Inv X pins σ H s) :∀x c,X.env.cells.lookup x=some c→c≠X.env.locals:=fun x c e z=>by
 obtain ⟨v,o,ho,hd⟩:=I.cell x c e
 obtain ⟨m,⟨o',es,ep,ho',hd',_⟩,_⟩:=I.loc
 rw [z,ho'] at ho;cases ho;rw [hd'] at hd;cases hd
theorem Inv.funs (I:Inv X pins σ H s):s.heap.FunFrames X.base X.outer:=by
 have all :∀(l:List Env),(∀b∈frs l,b∈X.fs)→X.s₀.heap.FunFrames X.base l→s.heap.FunFrames X.base l:=by
  intro l
  induction l with
  | nil=>intro _ _;trivial
  | cons env r ih=>
   intro hs hl
   obtain ⟨hk,⟨L,o,hf,hn,ho,hd⟩,hr⟩:=hl
   have hL:L∈X.fs:=hs L (by unfold frs;rw [List.filterMap_cons,hf];exact List.mem_cons_self)
   obtain ⟨sl,e⟩:=I.base.slot L o ho (I.ok.frf L hL) hL fun z=>I.ok.exfs L z hL
   exact ⟨hk,⟨L,_,hf,hn,e,hd⟩,ih (fun b hb=>hs b (by unfold frs;rw [List.filterMap_cons,hf];exact List.mem_cons_of_mem _ hb)) hr⟩
 exact all X.outer (fun _ hb=>hb) I.ok.funs
theorem Inv.stack (I:Inv X pins σ H s):s.heap.FunFrames X.base X.stack:=by
 rcases I.ok.stk with e|⟨e,hf⟩
 ·rw [e];exact I.funs
 ·rw [e]
  obtain ⟨m,hn,_⟩:=I.loc
  refine .cons (by rw [I.ok.kind];decide) hf hn ?_ I.funs
  exact Heap.get?_none_of_le (Nat.le_trans I.ok.bsz I.ok.above)
theorem Inv.stkSub (I:Inv X pins σ H s) :∀b∈frs X.stack,b∈X.env.locals :: X.fs:=fun b hb=>by
 rcases I.ok.stk with e|⟨e,hf⟩
 ·rw [e] at hb;exact List.mem_cons_of_mem _ hb
 ·rw [e] at hb
  unfold frs at hb
  rw [List.filterMap_cons,hf] at hb
  exact hb
theorem Inv.stkFree (I:Inv X pins σ H s) :∀b∈frs X.stack,H b=none:=fun b hb=>by
 rcases List.mem_cons.mp (I.stkSub b hb) with e|hb
 ·rw [e];exact I.free
 ·obtain ⟨_,o,ho,_⟩:=I.ok.funs.mem hb
  exact I.base.free b o ho (I.ok.frf b hb) fun z=>I.ok.exfs b z hb
theorem Inv.step {g':Array GenState} {t':Nat} {d':Drawn} {ch:List Addr} (I:Inv X pins σ H s)
  (hch :∀b∈ch,(b∈X.ex∨X.s₀.heap.objs.size≤b)∧b≠X.env.locals∧(∀x c,X.env.cells.lookup x=some c→c≠b)∧∀p∈X.pn++pins,p.1≠b)
  (keep :∀b o,b≠X.env.locals→b∉X.fs→b∉ch→s.heap.get? b=some o→H b=none→h'.get? b=some o)
  (slot :∀b o,b≠X.env.locals→b∈X.fs→b∉ch→s.heap.get? b=some o→H b=none→∃sl,h'.get? b=some { o with slots:=sl }) (free :∀b o,b∉ch→s.heap.get? b=some o→H b=none→H' b=none)
  (there :∀b o,b∉ch→s.heap.get? b=some o→∃o',h'.get? b=some o')
  (tups :∀b xs,H b=some (.tup xs)→H' b=some (.tup xs)) (frzs :∀b o u,H b=some (.frz o u)→H' b=some (.frz o u)) (tbls :∀b ps,H b=some (.tbl ps)→∃more,H' b=some (.tbl (ps++more)))
  (ns :∀m,s.heap.Ns X.env.locals m→h'.Ns X.env.locals m) (hok:HOk X.prog X.w H' h') (hg:AllBare g') :
  Inv X pins σ H' { s with heap:=h',gens:=g',drawn:=d',toks:=t' }:=by
 have neL :∀b o,X.s₀.heap.get? b=some o→b≠X.env.locals:=fun b o e=>Nat.ne_of_lt (Nat.lt_of_lt_of_le (Heap.lt_size e) I.ok.above)
 have neC :∀b o,X.s₀.heap.get? b=some o→b∉X.ex→b∉ch:=fun b o e hx hb=>by
  rcases (hch b hb).1 with z|z
  ·exact hx z
  ·exact absurd (Nat.lt_of_lt_of_le (Heap.lt_size e) z) (Nat.lt_irrefl _)
 have cellK :∀x c,X.env.cells.lookup x=some c→∀v,s.heap.IsCell c v→h'.IsCell c v:=fun x c e v ⟨o,ho,hd⟩=>by
  have nch:c∉ch:=fun z=>(hch c z).2.2.1 x c e rfl
  by_cases hc:c∈X.fs
  ·obtain ⟨sl,q⟩:=slot c o (I.cne x c e) hc nch ho (I.freeC x c e)
   exact ⟨_,q,hd⟩
  ·exact ⟨o,keep c o (I.cne x c e) hc nch ho (I.freeC x c e),hd⟩
 refine ⟨I.ok,I.os,hg,⟨fun b o e n hb hx=>?_,fun b o e n hb hx=>?_,fun b o e n hx=>?_,fun b o e hx=>?_,fun b xs e=>tups b xs (I.base.tups b xs e),fun b o xs e=>frzs b o xs (I.base.frzs b o xs e),fun b ps e=>?_⟩,?_,fun x c e=>?_,?_,fun x c e=>?_,fun p hp=>?_,hok,I.len⟩
 ·exact keep b o (neL b o e) hb (neC b o e hx) (I.base.keep b o e n hb hx) (I.base.free b o e n hx)
 ·obtain ⟨sl,e1⟩:=I.base.slot b o e n hb hx
  obtain ⟨sl',e2⟩:=slot b _ (neL b o e) hb (neC b o e hx) e1 (I.base.free b o e n hx)
  exact ⟨sl',e2⟩
 ·obtain ⟨o',e1⟩:=I.base.there b o e hx
  exact free b o' (neC b o e hx) e1 (I.base.free b o e n hx)
 ·obtain ⟨o',e1⟩:=I.base.there b o e hx
  exact there b o' (neC b o e hx) e1
 ·obtain ⟨m1,e1⟩:=I.base.tbls b ps e
  obtain ⟨m2,e2⟩:=tbls b _ e1
  exact ⟨m1++m2,by rw [e2,Array.append_assoc]⟩
 ·obtain ⟨m,hn,hl⟩:=I.loc
  refine ⟨m,ns m hn,fun i x v e1 e2 e3=>?_⟩
  obtain ⟨u,r,l⟩:=hl i x v e1 e2 e3
  refine ⟨u,r,?_⟩
  rcases l with l|⟨k,c,e,z⟩
  ·exact .inl l
  ·exact .inr ⟨k,c,e,cellK x c e _ z⟩
 ·obtain ⟨v,z⟩:=I.cell x c e
  exact ⟨v,cellK x c e v z⟩
 ·obtain ⟨m,⟨o,_,_,ho,_⟩,_⟩:=I.loc
  exact free _ o (fun z=>(hch _ z).2.1 rfl) ho I.free
 ·obtain ⟨v,o,ho,hd⟩:=I.cell x c e
  exact free c o (fun z=>(hch c z).2.2.1 x c e rfl) ho (I.freeC x c e)
 ·obtain ⟨e,n,ne,nf,d⟩:=I.pin p hp
  have nch:p.1∉ch:=fun z=>(hch p.1 z).2.2.2 p hp rfl
  exact ⟨keep p.1 p.2 ne nf nch e n,free p.1 p.2 nch e n,ne,nf,d⟩
theorem Inv.un {t':Nat} (I:Inv X pins σ H s) (u:Un X.fs [] H H' s.heap h') (hok:HOk X.prog X.w H' h'):Inv X pins σ H' { s with heap:=h',toks:=t' }:=by
 obtain ⟨m,⟨o,es,ep,ho,r⟩,_⟩:=id I.loc
 obtain ⟨sl,hL⟩:=u.any ho I.free (by simp)
 exact I.step (g':=s.gens) (d':=s.drawn) (ch:=[]) (fun _ z=>nomatch z) (fun b o _ hb _ e n=>u.keep b o e n hb (by simp)) (fun b o _ hb _ e n=>u.slot b o e n hb (by simp)) (fun b o _ e n=>u.free b o e n (by simp)) (fun b o _ e=>u.there b o e (by simp)) u.tups u.frzs u.tbls (fun m' hm=>by
  obtain ⟨o',es',ep',ho',r'⟩:=hm
  rw [ho] at ho';cases ho'
  exact ⟨_,es',ep',hL,r'⟩) hok I.bare
theorem Inv.call {g':Array GenState} {t':Nat} {d':Drawn} {ch:List Addr} (I:Inv X pins σ H s) (u:Un (frs X.stack) ch H H' s.heap h') (hok:HOk X.prog X.w H' h') (hg:AllBare g')
  (hch :∀b∈ch,(b∈X.ex∨X.s₀.heap.objs.size≤b)∧b≠X.env.locals∧(∀x c,X.env.cells.lookup x=some c→c≠b)∧∀p∈X.pn++pins,p.1≠b) :
  Inv X pins σ H' { s with heap:=h',gens:=g',drawn:=d',toks:=t' }:=by
 obtain ⟨m,⟨o,es,ep,ho,r⟩,_⟩:=id I.loc
 obtain ⟨sl,hL⟩:=u.any ho I.free fun z=>(hch _ z).2.1 rfl
 exact I.step (ch:=ch) hch (fun b o hL hb hc e n=>u.keep b o e n (fun z=>(List.mem_cons.mp (I.stkSub b z)).elim hL hb) hc) (fun b o _ _ hc e n=>u.any e n hc) (fun b o hc e n=>u.free b o e n hc) (fun b o hc e=>u.there b o e hc) u.tups u.frzs u.tbls (fun m' hm=>by
  obtain ⟨o',es',ep',ho',r'⟩:=hm
  rw [ho] at ho';cases ho'
  exact ⟨_,es',ep',hL,r'⟩) hok hg
theorem Inv.turned {t':Nat} {it:Addr} (I:Inv X pins σ H s) (k :∀b o,b≠it→s.heap.get? b=some o→h'.get? b=some o) (hn:H it=none) (hL:it≠X.env.locals)
  (h1:it∈X.ex∨X.s₀.heap.objs.size≤it) (h2 :∀x c,X.env.cells.lookup x=some c→c≠it) (h3 :∀p∈X.pn++pins,p.1≠it):Inv X pins σ H { s with heap:=h',toks:=t' }:=by
 have nit :∀b u,H b=some u→b≠it:=fun b u e z=>by rw [z,hn] at e;cases e
 refine I.step (g':=s.gens) (d':=s.drawn) (ch:=[it]) (fun b hb=>?_) (fun b o _ _ hc e _=>k b o (fun z=>hc (by simp [z])) e) (fun b o _ _ hc e _=>⟨o.slots,k b o (fun z=>hc (by simp [z])) e⟩) (fun _ _ _ _ n=>n)
  (fun b o hc e=>⟨o,k b o (fun z=>hc (by simp [z])) e⟩) (fun _ _ e=>e) (fun _ _ _ e=>e) (fun b ps e=>⟨#[],by rw [e];simp⟩) (fun m hm=>?_) (fun b u e=>?_) I.bare
 ·have e:b=it:=by simpa using hb
  subst e
  exact ⟨h1,hL,h2,h3⟩
 ·obtain ⟨o,es,ep,ho,r⟩:=hm
  exact ⟨o,es,ep,k _ o (Ne.symm hL) ho,r⟩
 ·refine (I.hok b u e).stay (fun c v hc q=>k c v ?_ q) (fun _ q=>q) fun _ _ q=>q
  rcases hc with z|z
  ·rw [z];exact nit b u e
  ·exact nit c _ z
theorem Inv.tok (I:Inv X pins σ H s) (t:Nat):Inv X pins σ H { s with toks:=t }:=I.un (h':=s.heap) (t':=t) Un.refl I.hok
theorem Inv.kept {t':Nat} (I:Inv X pins σ H s) (k :∀b u,s.heap.get? b=some u→h'.get? b=some u):Inv X pins σ H { s with heap:=h',toks:=t' }:=I.un (Un.kept k) (I.hok.kept k)
theorem Inv.laid {a:Addr} {o:HO} {t':Nat} (I:Inv X pins σ H s) (k :∀b u,s.heap.get? b=some u→h'.get? b=some u) (hp:s.heap.objs.size≤a) (new:ObjOk X.prog X.w (upd H a o) h' a o) :
  Inv X pins σ (upd H a o) { s with heap:=h',toks:=t' }:=I.un (Un.laid k hp (I.hok.fresh hp)) (I.hok.laid k hp new)
theorem Inv.write {x e:Addr} {o:HO} {t':Nat} (I:Inv X pins σ H s) (mu:Mut (H x)) (he:e=x∨H e=some (.own x)) (k :∀b u,b≠e→s.heap.get? b=some u→h'.get? b=some u) (heo :∃u,h'.get? e=some u)
  (new:ObjOk X.prog X.w (upd H x o) h' x o):Inv X pins σ (upd H x o) { s with heap:=h',toks:=t' }:=I.un (Un.write mu he k heo) (I.hok.write mu he k heo new)
theorem Inv.weak {σ':List (Option V)} (I:Inv X pins σ H s) (hl:σ'.length=σ.length) (w :∀(i:Nat) v,σ'[i]? = some (some v)→σ[i]? = some (some v)):Inv X pins σ' H s:=
 ⟨I.ok,I.os,I.bare,I.base,let ⟨m,hn,hl'⟩:=I.loc;⟨m,hn,fun i x v e1 e2 e3=>hl' i x v e1 (w i v e2) e3⟩,I.cell,I.free,I.freeC,I.pin,I.hok,hl.trans I.len⟩
theorem Inv.pins_of {pins':List (Addr×Obj)} (I:Inv X pins σ H s) (h :∀p∈pins',s.heap.get? p.1=some p.2∧H p.1=none∧p.1≠X.env.locals∧p.1∉X.fs∧∀v,p.2.data≠.cell v):Inv X pins' σ H s:=
 ⟨I.ok,I.os,I.bare,I.base,I.loc,I.cell,I.free,I.freeC,fun p hp=>(List.mem_append.mp hp).elim (fun z=>I.pin p (List.mem_append_left _ z)) (h p),I.hok,I.len⟩
theorem nodup_ix {N:List Str} (hN:N.Nodup) {i j:Nat} {x:Str} (a:N[i]? = some x) (b:N[j]? = some x):i=j:=by
 obtain ⟨h1,e1⟩:=List.getElem?_eq_some_iff.mp a
 obtain ⟨h2,e2⟩:=List.getElem?_eq_some_iff.mp b
 exact (List.getElem_inj hN).mp (e1.trans e2.symm)
theorem store_ok2 {M:Model} {A:Around} {E:Value→Shared→Prop} {i:Nat} {x:Str} {v:V} {u:Value} {Q:Unit→Shared→Prop} (I:Inv X pins σ H s) (hN:X.N.Nodup) (hi:X.N[i]? = some x) (hx:Loc X.env.scope x) (r:RelV v u)
  (h :∀s',Inv X pins (σ.set i (some v)) H s'→(∃a,Heap.SameBut a s.heap s'.heap∧(a=X.env.locals∨X.env.cells.lookup x=some a))→Q () s') (hf:X.fn x=true∨X.env.scope.names.lookup x=some .local:=by first|exact .inl rfl|exact .inr rfl|assumption):wpAny M A (storeName X.env x u) Q E s:=by
 obtain ⟨m,hn,hl⟩:=id I.loc
 have hcls:(X.env.scope.kind == .class || (X.env.scope.kind == .module && X.env.locals != X.env.globals))=false:=by rw [I.ok.kind];rfl
 have hiσ:i < σ.length:=by rw [I.len];exact (List.getElem?_eq_some_iff.mp hi).1
 have cne:=I.cne
 have tracked :∀{a:Addr} {h':Heap},(∃o,s.heap.get? a=some o∧H a=none)→Heap.SameBut a s.heap h'→HOk X.prog X.w H h':=fun {a h'} ha hs b ob e=>by
  obtain ⟨_,_,hfree⟩:=ha
  refine (I.hok b ob e).stay (fun c w' hc q=>(hs.2 c ?_).trans q) (fun _ q=>q) fun _ _ q=>q
  rintro rfl
  rcases hc with rfl|hc
  ·rw [hfree] at e;cases e
  ·rw [hfree] at hc;cases hc
 rcases hx with hk|hk
 ·refine wpAny_storeName_local hk hn (fun h' hn' hs=>?_) hcls
  obtain ⟨oL,_,_,hoL,_⟩:=id hn
  refine h _ ⟨I.ok,I.os,I.bare,⟨fun b o e n hb hx=>?_,fun b o e n hb hx=>?_,I.base.free,fun b o e hx=>?_,I.base.tups,I.base.frzs,I.base.tbls⟩,⟨_,hn',fun j y v' e1 e2 e3=>?_⟩,fun y c e=>?_,I.free,I.freeC,fun p hp=>?_,tracked ⟨oL,hoL,I.free⟩ hs,by simpa using I.len⟩ ⟨_,hs,.inl rfl⟩
  ·exact (hs.2 b (Nat.ne_of_lt (Nat.lt_of_lt_of_le (Heap.lt_size e) I.ok.above))).trans (I.base.keep b o e n hb hx)
  ·obtain ⟨sl,e1⟩:=I.base.slot b o e n hb hx
   exact ⟨sl,(hs.2 b (Nat.ne_of_lt (Nat.lt_of_lt_of_le (Heap.lt_size e) I.ok.above))).trans e1⟩
  ·obtain ⟨o',e1⟩:=I.base.there b o e hx
   exact ⟨o',(hs.2 b (Nat.ne_of_lt (Nat.lt_of_lt_of_le (Heap.lt_size e) I.ok.above))).trans e1⟩
  ·by_cases hj:j=i
   ·subst hj
    rw [hi] at e1;cases e1
    rw [List.getElem?_set_self hiσ] at e2
    cases e2
    exact ⟨u,r,.inl ⟨hk,by simp⟩⟩
   ·rw [List.getElem?_set_ne (Ne.symm hj)] at e2
    obtain ⟨u',r',q⟩:=hl j y v' e1 e2 e3
    refine ⟨u',r',?_⟩
    rcases q with ⟨k,e⟩|⟨k,c,e,z⟩
    ·refine .inl ⟨k,?_⟩
     have:y≠x:=fun e=>hj (nodup_ix hN e1 (e ▸ hi))
     simp [this,e]
    ·exact .inr ⟨k,c,e,z.sameBut hs (cne y c e)⟩
  ·obtain ⟨w',z⟩:=I.cell y c e
   exact ⟨w',z.sameBut hs (cne y c e)⟩
  ·obtain ⟨e,n,ne,nf,d⟩:=I.pin p hp
   exact ⟨(hs.2 p.1 ne).trans e,n,ne,nf,d⟩
 ·have hfn:X.fn x=true:=by
   rcases hf with z|z
   ·exact z
   ·rw [z] at hk;cases hk
  obtain ⟨c,hc⟩:=I.ok.has x (.inl hk)
  obtain ⟨w',z⟩:=I.cell x c hc
  refine wpAny_storeName_cell I.ok.kind hk hc z (fun h' hc' hs=>?_)
  obtain ⟨oc,hoc,hocd⟩:=id z
  refine h { s with heap:=h' } ⟨I.ok,I.os,I.bare,⟨fun b o e n hb hx=>?_,fun b o e n hb hx=>?_,I.base.free,fun b o e hx=>?_,I.base.tups,I.base.frzs,I.base.tbls⟩,⟨m,hn.sameBut hs (Ne.symm (cne x c hc)),fun j y v' e1 e2 e3=>?_⟩,fun y c' e=>?_,I.free,I.freeC,fun p hp=>?_,tracked ⟨oc,hoc,I.freeC x c hc⟩ hs,by simpa using I.len⟩ ⟨c,hs,.inr hc⟩
  ·exact (hs.2 b (Nat.ne_of_lt (Nat.lt_of_lt_of_le (Heap.lt_size e) (I.ok.cab x c hfn hc)))).trans (I.base.keep b o e n hb hx)
  ·obtain ⟨sl,e1⟩:=I.base.slot b o e n hb hx
   exact ⟨sl,(hs.2 b (Nat.ne_of_lt (Nat.lt_of_lt_of_le (Heap.lt_size e) (I.ok.cab x c hfn hc)))).trans e1⟩
  ·obtain ⟨o',e1⟩:=I.base.there b o e hx
   exact ⟨o',(hs.2 b (Nat.ne_of_lt (Nat.lt_of_lt_of_le (Heap.lt_size e) (I.ok.cab x c hfn hc)))).trans e1⟩
  ·by_cases hj:j=i
   ·subst hj
    rw [hi] at e1;cases e1
    rw [List.getElem?_set_self hiσ] at e2
    cases e2
    exact ⟨u,r,.inr ⟨.inl hk,c,hc,hc'⟩⟩
   ·rw [List.getElem?_set_ne (Ne.symm hj)] at e2
    obtain ⟨u',r',q⟩:=hl j y v' e1 e2 e3
    refine ⟨u',r',?_⟩
    rcases q with q|⟨k,c',e,z'⟩
    ·exact .inl q
    ·refine .inr ⟨k,c',e,z'.sameBut hs ?_⟩
     rintro rfl
     exact hj (nodup_ix hN e1 (I.ok.inj _ _ _ e hc ▸ hi))
  ·by_cases hcc:c'=c
   ·subst hcc;exact ⟨_,hc'⟩
   ·obtain ⟨w2,z2⟩:=I.cell y c' e
    exact ⟨w2,z2.sameBut hs hcc⟩
  ·obtain ⟨e,n,ne,nf,d⟩:=I.pin p hp
   refine ⟨(hs.2 p.1 ?_).trans e,n,ne,nf,d⟩
   intro q
   rw [q,hoc] at e
   have q':oc=p.2:=Option.some.inj e
   exact d w' (by rw [←q'];exact hocd)
theorem store_ok {M:Model} {A:Around} {E:Value→Shared→Prop} {i:Nat} {x:Str} {v:V} {u:Value} {Q:Unit→Shared→Prop} (I:Inv X pins σ H s) (hN:X.N.Nodup) (hi:X.N[i]? = some x) (hx:Loc X.env.scope x) (r:RelV v u)
  (h :∀s',Inv X pins (σ.set i (some v)) H s'→Q () s') (hf:X.fn x=true∨X.env.scope.names.lookup x=some .local:=by first|exact .inl rfl|exact .inr rfl|assumption):wpAny M A (storeName X.env x u) Q E s:=
 store_ok2 I hN hi hx r (fun s' I' _=>h s' I') hf
theorem Inv.call' {s':Shared} {ch:List Addr} (I:Inv X pins σ H s) (ho:s'.os=s.os) (u:Un (frs X.stack) ch H H' s.heap s'.heap) (hok:HOk X.prog X.w H' s'.heap) (hg:AllBare s'.gens)
  (hch :∀b∈ch,(b∈X.ex∨X.s₀.heap.objs.size≤b)∧b≠X.env.locals∧(∀x c,X.env.cells.lookup x=some c→c≠b)∧∀p∈X.pn++pins,p.1≠b):Inv X pins σ H' s':=by
 obtain ⟨h',g',d',t',o'⟩:=s'
 have e:o'=s.os:=ho
 subst e
 exact I.call (g':=g') (t':=t') (d':=d') u hok hg hch
end
abbrev XK:=Value→Option Addr→Hp→Prop
abbrev St:=List (Option V)
abbrev VK:=V→Hp→Prop
abbrev TE:=St→Hp→VK→Prop
abbrev TT:=St→Hp→(Bool→Hp→Prop)→Prop
abbrev TA:=St→Hp→(List V→Hp→Prop)→Prop
structure Ends where
 nx:St→Hp→Prop
 rt:VK
 bk:St→Hp→Prop:=fun _ _=>False
 ct:St→Hp→Prop:=fun _ _=>False
abbrev TS:=Ends→St→Hp→Prop
def EP (X:Cx) (pins:List (Addr×Obj)) (σ:St) (Q:VK) (u:Value) (s':Shared):Prop:=∃v H',Inv X pins σ H' s'∧RelV v u∧Q v H'
def TP (X:Cx) (pins:List (Addr×Obj)) (σ:St) (Q:Bool→Hp→Prop) (b:Bool) (s':Shared):Prop:=∃H',Inv X pins σ H' s'∧Q b H'
def AP (X:Cx) (pins:List (Addr×Obj)) (σ:St) (Q:List V→Hp→Prop) (us:List Value) (s':Shared):Prop:=∃vs H',Inv X pins σ H' s'∧Vals vs us∧Q vs H'
def SP (X:Cx) (pins:List (Addr×Obj)) (D:Ends) (f:Flow) (s':Shared):Prop:=
 match f with
 | .next=>∃σ' H',Inv X pins σ' H' s'∧D.nx σ' H'
 | .brk=>∃σ' H',Inv X pins σ' H' s'∧D.bk σ' H'
 | .cont=>∃σ' H',Inv X pins σ' H' s'∧D.ct σ' H'
 | .ret u=>∃v σ' H',Inv X pins σ' H' s'∧RelV v u∧D.rt v H'
def PE (X:Cx) (e:Expr) (t:TE):Prop:=
 ∀(pins:List (Addr×Obj)) (s:Shared) (σ:St) (H:Hp) (Q:VK),Inv X pins σ H s→t σ H Q→wpAny (model X.prog X.w) X.A (eval e X.env) (EP X pins σ Q) X.xe s
def PT (X:Cx) (e:Expr) (t:TT):Prop:=
 ∀(pins:List (Addr×Obj)) (s:Shared) (σ:St) (H:Hp) (Q:Bool→Hp→Prop),Inv X pins σ H s→t σ H Q→wpAny (model X.prog X.w) X.A (isTrue e X.env (eval e X.env)) (TP X pins σ Q) X.xe s
def PW (X:Cx) (e:Expr) (t:TT):Prop:=
 ∀(whole:Sem Value) (pins:List (Addr×Obj)) (s:Shared) (σ:St) (H:Hp) (Q:Bool→Hp→Prop),Inv X pins σ H s→t σ H Q→wpAny (model X.prog X.w) X.A (isTrue e X.env whole) (TP X pins σ Q) X.xe s
theorem PW.pt {X:Cx} {e:Expr} {t:TT} (h:PW X e t):PT X e t:=h _
def PA (X:Cx) (es:List Expr) (t:TA):Prop:=
 ∀(pos:Pos) (pins:List (Addr×Obj)) (s:Shared) (σ:St) (H:Hp) (Q:List V→Hp→Prop),Inv X pins σ H s→t σ H Q→wpAny (model X.prog X.w) X.A (spliced (backTo pos (starEach es X.env))) (AP X pins σ Q) X.xe s
def PS (X:Cx) (st:Stmt) (t:TS):Prop:=
 ∀(pins:List (Addr×Obj)) (s:Shared) (σ:St) (H:Hp) (D:Ends),Inv X pins σ H s→t D σ H→wpAny (model X.prog X.w) X.A (exec st X.env) (SP X pins D) X.xe s
def PSs (X:Cx) (st:List Stmt) (t:TS):Prop:=
 ∀(pins:List (Addr×Obj)) (s:Shared) (σ:St) (H:Hp) (D:Ends),Inv X pins σ H s→t D σ H→wpAny (model X.prog X.w) X.A (execs st X.env) (SP X pins D) X.xe s
theorem thn {α:Type} {t:Sem α} {Q Q':α→Shared→Prop} {M:Model} {A:Around} {E:Value→Shared→Prop} {s:Shared} (h:wpAny M A t Q E s) (hQ :∀a s,Q a s→Q' a s):wpAny M A t Q' E s:=wpAny_mono h hQ fun _ _ x=>x
section
variable {X:Cx}
def tVar (i:Nat):TE:=fun σ H Q=>∃v,σ[i]? = some (some v)∧Q v H
def tC (v:V):TE:=fun _ H Q=>Q v H
theorem pe_var {i:Nat} {x:Str} {pos:Pos} (hN:X.N[i]? = some x) (hv:Vis X.env.scope x) (hd:(x == ("__debug__" : Str))=false:=by decide) (hcd:(x == ("__classdict__" : Str))=false:=by decide):PE X (.Name x pos) (tVar i):=by
 intro pins s σ H Q I h
 obtain ⟨v,e,h⟩:=h
 obtain ⟨m,hn,hl⟩:=I.loc
 obtain ⟨u,r,l⟩:=hl i x v hN e hv
 have fin:EP X pins σ Q u s:=⟨v,H,I,r,h⟩
 rcases l with ⟨hk,hm⟩|⟨hk,c,hc,hcell⟩
 ·exact wpAny_Name (wpAny_loadName_local I.ok.kind hk hn hm fin) hd
 ·rcases hk with hk|hk
  ·exact wpAny_Name (wpAny_loadName_cell I.ok.kind hk hc hcell fin) hd
  ·exact wpAny_Name (wpAny_loadName_free I.ok.kind hk hc hcell fin hcd) hd
theorem pe_int {i j pos}:PE X (.Constant (.int i) j pos) (tC (.int i)):=fun _ _ _ H _ I h=>wpAny_Constant_int ⟨.int i,H,I.tok _,⟨_,rfl⟩,h⟩
theorem pe_bl {b j pos}:PE X (.Constant (.bool b) j pos) (tC (.bl b)):=fun _ _ _ H _ I h=>Constant_bool ⟨.bl b,H,I,rfl,h⟩
theorem pe_non {j pos}:PE X (.Constant .none j pos) (tC .non):=fun _ _ _ H _ I h=>Constant_none ⟨.non,H,I,rfl,h⟩
theorem pe_str {x j pos}:PE X (.Constant (.str x) j pos) (tC (.str x)):=fun _ _ _ H _ I h=>Calls.Constant_str ⟨.str x,H,I.tok _,⟨_,rfl⟩,h⟩
def Gl (X:Cx) (x:Str):Prop:=X.env.kindOf x=some .globalImplicit
theorem ld_glob {E:Value→Shared→Prop} {pins:List (Addr×Obj)} {s:Shared} {σ:St} {H:Hp} {x:Str} {u:Value} {pos:Pos} {Q:Value→Shared→Prop} (I:Inv X pins σ H s) (hg:Gl X x) (hm:X.mg x=some u) (h:Q u s)
  (hd:(x == ("__debug__" : Str))=false:=by decide):wpAny (model X.prog X.w) X.A (eval (.Name x pos) X.env) Q E s:=
 Calls.Name_function_global I.ok.kind hg (Calls.loadGlobal_global (by rw [I.ok.glob];exact I.mod.glob.keeps I.bk) hm h) hd
theorem ld_blt {E:Value→Shared→Prop} {pins:List (Addr×Obj)} {s:Shared} {σ:St} {H:Hp} {x:Str} {u:Value} {pos:Pos} {Q:Value→Shared→Prop} (I:Inv X pins σ H s) (hg:Gl X x) (hm:X.mg x=none) (hv:bootBuiltins x=some u) (h:Q u s)
  (hn:x≠"__name__":=by decide) (hd:(x == ("__debug__" : Str))=false:=by decide):wpAny (model X.prog X.w) X.A (eval (.Name x pos) X.env) Q E s:=by
 obtain ⟨mb,h1,h2⟩:=I.mod.blt
 exact Calls.Name_function_global I.ok.kind hg (Calls.loadGlobal_builtin (by rw [I.ok.glob];exact I.mod.glob.keeps I.bk) hm (by rw [I.ok.blt];exact h1.keeps I.bk) ((h2 x hn).trans hv) h) hd
theorem pe_glob {x:Str} {v:V} {u:Value} {pos:Pos} (hg:Gl X x) (hm:X.mg x=some u) (r:RelV v u) (hd:(x == ("__debug__" : Str))=false:=by decide):PE X (.Name x pos) (tC v):=
 fun _ _ _ H _ I h=>ld_glob I hg hm ⟨v,H,I,r,h⟩ hd
theorem pe_bltn {x:Str} {v:V} {u:Value} {pos:Pos} (hg:Gl X x) (hm:X.mg x=none) (hv:bootBuiltins x=some u) (r:RelV v u) (hn:x≠"__name__":=by decide) (hd:(x == ("__debug__" : Str))=false:=by decide):PE X (.Name x pos) (tC v):=
 fun _ _ _ H _ I h=>ld_blt I hg hm hv ⟨v,H,I,r,h⟩ hn hd
def t2I (ta tb:TE) (k:Int→Int→Hp→Prop):St→Hp→Prop:=fun σ H=>ta σ H fun x H1=>tb σ H1 fun y H2=>∃i j,x=.int i∧y=.int j∧k i j H2
def tAdd (ta tb:TE):TE:=fun σ H Q=>t2I ta tb (fun i j H2=>Q (.int (i + j)) H2) σ H
def tSub (ta tb:TE):TE:=fun σ H Q=>t2I ta tb (fun i j H2=>Q (.int (i - j)) H2) σ H
def tMul (ta tb:TE):TE:=fun σ H Q=>t2I ta tb (fun i j H2=>(-(2 ^ 64) < i∧i < 2 ^ 64)∧Q (.int (i * j)) H2) σ H
variable {a b:Expr} {ta tb:TE} {pos:Pos}
def PC (X:Cx) (op:CmpOp) (a b:Expr) (t:TE):Prop:=
 ∀(pins:List (Addr×Obj)) (s:Shared) (σ:St) (H:Hp) (Q:VK),Inv X pins σ H s→t σ H Q→
  wpAny (model X.prog X.w) X.A (eval a X.env) (fun v s₁=>wpAny (model X.prog X.w) X.A (eval b X.env) (fun u s₂=>wpAny (model X.prog X.w) X.A (compareOp op v u) (EP X pins σ Q) X.xe s₂) X.xe s₁) X.xe s
def tCmp (p:Int→Int→Bool) (ta tb:TE):TE:=fun σ H Q=>t2I ta tb (fun i j H2=>Q (.bl (p i j)) H2) σ H
abbrev tLt:TE→TE→TE:=tCmp fun i j=>decide (i < j)
abbrev tLe:TE→TE→TE:=tCmp fun i j=>decide (i≤j)
abbrev tGt:TE→TE→TE:=tCmp fun i j=>decide (j < i)
abbrev tGe:TE→TE→TE:=tCmp fun i j=>decide (j≤i)
abbrev tEqI:TE→TE→TE:=tCmp fun i j=>decide (i=j)
abbrev tNeI:TE→TE→TE:=tCmp fun i j=>!decide (i=j)
def tIsN (ta:TE):TE:=fun σ H Q=>ta σ H fun x H1=>Q (.bl (decide (x=.non))) H1
def tNotN (ta:TE):TE:=fun σ H Q=>ta σ H fun x H1=>Q (.bl (!decide (x=.non))) H1
def tB (t:TE):TT:=fun σ H Q=>t σ H fun x H1=>∃c,x=.bl c∧Q c H1
theorem pt_cmp {op:CmpOp} {t:TE} (h:PC X op a b t) (h1:behindInMarks op b=false:=by first|exact nobehind _ (by decide) (by decide)|rfl):PT X (.Compare a [op] [b] pos) (tB t):=by
 intro pins s σ H Q I hw
 refine wpAny_isTrue_Compare1 (thn (h pins s σ H _ I hw) fun v s1 h1=>thn h1 fun u s2 h2=>thn h2 fun c s3 ⟨x,H1,I1,r1,q1⟩=>?_) h1
 obtain ⟨d,rfl,q⟩:=q1
 cases r1
 exact wpAny_truthy_bool ⟨H1,I1,q⟩
theorem pt_val {e:Expr} {t:TE} (h:PE X e t) (he :∀whole,isTrue e X.env whole=(do let v ←whole;standAt e.pos;holding [v] (truthy v)):=by intro _;rfl):PT X e (tB t):=by
 intro pins s σ H Q I hw
 refine isTrue_plain (thn (h pins s σ H _ I hw) fun v s1 ⟨x,H1,I1,r1,q1⟩=>?_) (he _)
 obtain ⟨d,rfl,q⟩:=q1
 cases r1
 exact wpAny_truthy_bool ⟨H1,I1,q⟩
variable {tA tB':TT} {rest:List Expr}
def tAnd (t u:TT):TT:=fun σ H Q=>t σ H fun c H1=>if c=true then u σ H1 Q else Q false H1
def tOr (t u:TT):TT:=fun σ H Q=>t σ H fun c H1=>if c=true then Q true H1 else u σ H1 Q
def tNot (t:TT):TT:=fun σ H Q=>t σ H fun c H1=>Q (!c) H1
theorem pw_and1 (ha:PT X a tA):PW X (.BoolOp .And [a] pos) tA:=by
 intro wh pins s σ H Q I h
 refine isTrue_and (thn (ha pins s σ H Q I h) fun c s1 e=>?_)
 cases c with
 | true=>exact isTrue_and_nil e
 | false=>exact e
theorem pw_or1 (ha:PT X a tA):PW X (.BoolOp .Or [a] pos) tA:=by
 intro wh pins s σ H Q I h
 refine isTrue_or (thn (ha pins s σ H Q I h) fun c s1 e=>?_)
 cases c with
 | false=>exact isTrue_or_nil e
 | true=>exact e
theorem pw_and (ha:PT X a tA) (hb:PW X (.BoolOp .And (b :: rest) pos) tB'):PW X (.BoolOp .And (a :: b :: rest) pos) (tAnd tA tB'):=by
 intro wh pins s σ H Q I h
 refine isTrue_and (thn (ha pins s σ H _ I h) fun c s1 ⟨H1,I1,q1⟩=>?_)
 cases c with
 | true=>exact hb wh pins s1 σ H1 Q I1 q1
 | false=>exact ⟨H1,I1,q1⟩
theorem pw_or (ha:PT X a tA) (hb:PW X (.BoolOp .Or (b :: rest) pos) tB'):PW X (.BoolOp .Or (a :: b :: rest) pos) (tOr tA tB'):=by
 intro wh pins s σ H Q I h
 refine isTrue_or (thn (ha pins s σ H _ I h) fun c s1 ⟨H1,I1,q1⟩=>?_)
 cases c with
 | true=>exact ⟨H1,I1,q1⟩
 | false=>exact hb wh pins s1 σ H1 Q I1 q1
theorem pt_not (ha:PT X a tA):PT X (.UnaryOp .Not a pos) (tNot tA):=by
 intro pins s σ H Q I h
 exact isTrue_not (ha pins s σ H (fun c H1=>Q (!c) H1) I h)
def tAndV (ta tb:TE):TE:=fun σ H Q=>ta σ H fun x H1=>∃c,x=.bl c∧if c=true then tb σ H1 Q else Q (.bl false) H1
def tOrV (ta tb:TE):TE:=fun σ H Q=>ta σ H fun x H1=>∃c,x=.bl c∧if c=true then Q (.bl true) H1 else tb σ H1 Q
def tNotV (ta:TE):TE:=fun σ H Q=>ta σ H fun x H1=>∃c,x=.bl c∧Q (.bl (!c)) H1
theorem pe_one {op} {t:TE} (h:PE X a t):PE X (.BoolOp op [a] pos) t:=fun pins s σ H Q I hw=>BoolOp_one (h pins s σ H Q I hw)
theorem pe_and (ha:PE X a ta) (hb:PE X (.BoolOp .And (b :: rest) pos) tb):PE X (.BoolOp .And (a :: b :: rest) pos) (tAndV ta tb):=by
 intro pins s σ H Q I h
 refine BoolOp_and (thn (ha pins s σ H _ I h) fun v s1 ⟨x,H1,I1,r1,q1⟩=>?_)
 obtain ⟨c,rfl,q1⟩:=q1
 cases r1
 refine wpAny_truthy_bool ?_
 cases c with
 | true=>exact hb pins s1 σ H1 Q I1 q1
 | false=>exact ⟨.bl false,H1,I1,rfl,q1⟩
theorem pe_or (ha:PE X a ta) (hb:PE X (.BoolOp .Or (b :: rest) pos) tb):PE X (.BoolOp .Or (a :: b :: rest) pos) (tOrV ta tb):=by
 intro pins s σ H Q I h
 refine BoolOp_or (thn (ha pins s σ H _ I h) fun v s1 ⟨x,H1,I1,r1,q1⟩=>?_)
 obtain ⟨c,rfl,q1⟩:=q1
 cases r1
 refine wpAny_truthy_bool ?_
 cases c with
 | false=>exact hb pins s1 σ H1 Q I1 q1
 | true=>exact ⟨.bl true,H1,I1,rfl,q1⟩
theorem pe_not (ha:PE X a ta):PE X (.UnaryOp .Not a pos) (tNotV ta):=by
 intro pins s σ H Q I h
 refine UnaryOp_ (thn (ha pins s σ H _ I h) fun v s1 ⟨x,H1,I1,r1,q1⟩=>?_)
 obtain ⟨c,rfl,q1⟩:=q1
 cases r1
 exact not_of (wpAny_truthy_bool ⟨.bl (!c),H1,I1,rfl,q1⟩)
def tIf (t:TT) (ta tb:TE):TE:=fun σ H Q=>t σ H fun c H1=>if c=true then ta σ H1 Q else tb σ H1 Q
end
def SqL (K:PySem.W.Frag) (H:Hp) (a:Addr) (xs:List V):Prop:=
 Rd H a (.lst xs)∨
  ∃(o:Obj) (its:Array Value) (n:Nat),K.lookup a=some o∧o.cls=.type "list"∧o.dict=none∧o.data=.seq its n∧its.size≤sizeLine∧Vals xs its.toList
def SqT (K:PySem.W.Frag) (H:Hp) (a:Addr) (xs:List V):Prop:=
 Rd H a (.tup xs)∨
  ∃(o:Obj) (its:Array Value) (n:Nat),K.lookup a=some o∧o.cls=.type "tuple"∧o.data=.seq its n∧its.size≤sizeLine∧Vals xs its.toList
def absV:Value→Option V
 | .none=>some .non
 | .bool b=>some (.bl b)
 | .int i _=>some (.int i)
 | .str x _=>some (.str x)
 | .bytes b _=>some (.byt b)
 | .float b _=>some (.flt b)
 | .ref a=>some (.ref a)
 | .type n=>some (.ty n)
 | _=>none
theorem RelV.abs {x:V} {u:Value} (r:RelV x u):absV u=some x:=by
 cases x with
 | non=>cases r;rfl
 | bl _=>cases r;rfl
 | int _=>obtain ⟨t,rfl⟩:=r;rfl
 | str _=>obtain ⟨t,rfl⟩:=r;rfl
 | byt _=>obtain ⟨t,rfl⟩:=r;rfl
 | flt _=>obtain ⟨t,rfl⟩:=r;rfl
 | ref _=>cases r;rfl
 | ty _=>cases r;rfl
theorem RelV.inj {x y:V} {u:Value} (r:RelV x u) (q:RelV y u):x=y:=Option.some.inj (r.abs.symm.trans q.abs)
theorem Vals.inj :∀{xs ys:List V} {us:List Value},Vals xs us→Vals ys us→xs=ys
 | _,_,_,.nil,.nil=>rfl
 | _,_,_,.cons r t,.cons r' t'=>by rw [r.inj r',Vals.inj t t']
section
variable {X:Cx} {pins:List (Addr×Obj)} {σ:St} {H:Hp} {s:Shared} {a:Addr} {xs ys:List V}
theorem SqL.of {K:PySem.W.Frag} (h:H a=some (.lst xs)):SqL K H a xs:=.inl (.inl h)
theorem SqT.of {K:PySem.W.Frag} (h:H a=some (.tup xs)):SqT K H a xs:=.inl (.inl h)
theorem Inv.list (I:Inv X pins σ H s) (h:SqL X.K H a xs) :∃its:List Value,Vals xs its∧PlainL s.heap a its.toArray∧xs.length≤sizeLine:=by
 rcases h with h|⟨o,its,n,hk,hc,hd,hs,hz,r⟩
 ·obtain ⟨z,its,n,r,e⟩:=h.ok I.hok
  exact ⟨its,r,⟨_,n,e,rfl,rfl,rfl⟩,z⟩
 ·refine ⟨its.toList,r,⟨o,n,I.kIn a o hk,hc,hd,by simpa using hs⟩,?_⟩
  have e:=r.length
  simp only [Array.length_toList] at e
  omega
theorem Inv.tuple (I:Inv X pins σ H s) (h:SqT X.K H a xs) :∃its:List Value,Vals xs its∧IsTup s.heap a its.toArray∧xs.length≤sizeLine:=by
 rcases h with h|⟨o,its,n,hk,hc,hs,hz,r⟩
 ·obtain ⟨z,its,r,p⟩:=h.ok I.hok
  exact ⟨its,r,p.1,z⟩
 ·refine ⟨its.toList,r,⟨o,I.kIn a o hk,hc,n,by simpa using hs⟩,?_⟩
  have e:=r.length
  simp only [Array.length_toList] at e
  omega
theorem Inv.list_inj (I:Inv X pins σ H s) (h:SqL X.K H a xs) (h':SqL X.K H a ys):xs=ys:=by
 obtain ⟨its,r,⟨o,n,e,_,_,d⟩,_⟩:=I.list h
 obtain ⟨its',r',⟨o',n',e',_,_,d'⟩,_⟩:=I.list h'
 rw [e] at e';cases e'
 rw [d] at d'
 injection d' with d1 _
 have:its=its':=by simpa using congrArg Array.toList d1
 subst this
 exact r.inj r'
theorem Inv.tuple_inj (I:Inv X pins σ H s) (h:SqT X.K H a xs) (h':SqT X.K H a ys):xs=ys:=by
 obtain ⟨its,r,⟨o,e,_,n,d⟩,_⟩:=I.tuple h
 obtain ⟨its',r',⟨o',e',_,n',d'⟩,_⟩:=I.tuple h'
 rw [e] at e';cases e'
 rw [d] at d'
 injection d' with d1 _
 have:its=its':=by simpa using congrArg Array.toList d1
 subst this
 exact r.inj r'
end
abbrev Cx.wish (X:Cx) (E:Value→Shared→Prop):Cx:={ X with xe:=E }
abbrev Cx.nox (X:Cx):Cx:=X.wish fun _ _=>False
theorem Cx.Ok.wish {X:Cx} (ok:X.Ok) (E:Value→Shared→Prop):(X.wish E).Ok:=
 ⟨ok.mod,ok.kind,ok.glob,ok.blt,ok.above,ok.inj,ok.has,ok.cab,ok.hd,ok.frames,ok.stk,ok.exf,ok.bs,ok.bsz,ok.noex,ok.exfs,ok.funs,ok.frf⟩
theorem Cx.Ok.unwish {X:Cx} {E:Value→Shared→Prop} (ok:(X.wish E).Ok):X.Ok:=
 ⟨ok.mod,ok.kind,ok.glob,ok.blt,ok.above,ok.inj,ok.has,ok.cab,ok.hd,ok.frames,ok.stk,ok.exf,ok.bs,ok.bsz,ok.noex,ok.exfs,ok.funs,ok.frf⟩
section
variable {X:Cx} {pins:List (Addr×Obj)} {σ:St} {H:Hp} {s:Shared} {E:Value→Shared→Prop}
theorem Inv.wish (I:Inv X pins σ H s) (E:Value→Shared→Prop):Inv (X.wish E) pins σ H s:=⟨I.ok.wish E,I.os,I.bare,I.base,I.loc,I.cell,I.free,I.freeC,I.pin,I.hok,I.len⟩
theorem Inv.unwish (I:Inv (X.wish E) pins σ H s):Inv X pins σ H s:=⟨I.ok.unwish,I.os,I.bare,I.base,I.loc,I.cell,I.free,I.freeC,I.pin,I.hok,I.len⟩
theorem SP.unwish {D:Ends} {f:Flow} {s':Shared} (h:SP (X.wish E) pins D f s'):SP X pins D f s':=by
 cases f with
 | next=>obtain ⟨σ',H',I,q⟩:=h;exact ⟨σ',H',I.unwish,q⟩
 | brk=>obtain ⟨σ',H',I,q⟩:=h;exact ⟨σ',H',I.unwish,q⟩
 | cont=>obtain ⟨σ',H',I,q⟩:=h;exact ⟨σ',H',I.unwish,q⟩
 | ret u=>obtain ⟨v,σ',H',I,r,q⟩:=h;exact ⟨v,σ',H',I.unwish,r,q⟩
theorem PSs.nox {st:List Stmt} {t:TS} (h:PSs X.nox st t):PSs X st t:=fun pins s σ H D I hw=>
 wpAny_mono (h pins s σ H D (I.wish _) hw) (fun _ _ q=>q.unwish) fun _ _ z=>False.elim z
end
section
variable {X:Cx} {st:Stmt} {rest:List Stmt} {t u:TS} {e:Expr} {te:TE} {pos:Pos}
def tNext:TS:=fun D σ H=>D.nx σ H
def tSeq (t u:TS):TS:=fun D σ H=>t { D with nx:=u D } σ H
theorem pss_nil:PSs X [] tNext:=fun _ _ σ H _ I h=>wpAny_execs_nil ⟨σ,H,I,h⟩
theorem pss_cons (h1:PS X st t) (h2:PSs X rest u):PSs X (st :: rest) (tSeq t u):=by
 intro pins s σ H D I h
 refine wpAny_execs_cons (thn (h1 pins s σ H { D with nx:=u D } I h) fun f s1 q=>?_)
 cases f with
 | next=>
  obtain ⟨σ',H',I',q⟩:=q
  exact h2 pins s1 σ' H' D I' q
 | ret v=>exact q
 | brk=>exact q
 | cont=>exact q
theorem pss_one (h1:PS X st t):PSs X [st] t:=by
 intro pins s σ H D I h
 refine wpAny_execs_cons (thn (h1 pins s σ H D I h) fun f s1 q=>?_)
 cases f with
 | next=>exact wpAny_execs_nil q
 | ret v=>exact q
 | brk=>exact q
 | cont=>exact q
def tBreak:TS:=fun D σ H=>D.bk σ H
def tCont:TS:=fun D σ H=>D.ct σ H
theorem Inv.quiet {pins:List (Addr×Obj)} {σ:St} {H:Hp} {s:Shared} (I:Inv X pins σ H s):interactive X.env=false:=by simp [interactive,I.ok.kind]
def tDrop (te:TE):TS:=fun D σ H=>te σ H fun _ H1=>D.nx σ H1
theorem ps_expr (he:PE X e te) (hs:swapsWith e none pos.line X.env=pure false:=by rfl):PS X (.Expr e pos) (tDrop te):=by
 intro pins s σ H D I h
 exact wpAny_Expr_any (thn (he pins s σ H _ I h) fun v s1 ⟨x,H1,I1,r1,q1⟩=>⟨σ,H1,I1,q1⟩) I.quiet hs
def tRet (te:TE):TS:=fun D σ H=>te σ H D.rt
theorem ps_ret (he:PE X e te):PS X (.Return (some e) pos) (tRet te):=by
 intro pins s σ H D I h
 exact wpAny_Return_some (thn (he pins s σ H _ I h) fun v s1 ⟨x,H1,I1,r1,q1⟩=>⟨x,σ,H1,I1,r1,q1⟩)
def tRetN:TS:=fun D _ H=>D.rt .non H
def tIfS (c:TT) (t u:TS):TS:=fun D σ H=>c σ H fun b H1=>if b=true then t D σ H1 else u D σ H1
theorem ps_if {c:Expr} {a b:List Stmt} {tc:TT} (hc:PT X c tc) (ha:PSs X a t) (hb:PSs X b u):PS X (.If c a b pos) (tIfS tc t u):=by
 intro pins s σ H D I h
 refine wpAny_If (thn (hc pins s σ H _ I h) fun d s1 ⟨H1,I1,q1⟩=>?_)
 cases d with
 | true=>exact ha pins s1 σ H1 D I1 q1
 | false=>exact hb pins s1 σ H1 D I1 q1
def tNever:TS:=fun _ _ _=>False
theorem ps_never:PS X st tNever:=fun _ _ _ _ _ _ h=>h.elim
end
abbrev TG:=V→St→Hp→(St→Hp→Prop)→Prop
abbrev TGs:=List V→St→Hp→(St→Hp→Prop)→Prop
def PG (X:Cx) (target:Expr) (t:TG):Prop:=
 ∀(pins:List (Addr×Obj)) (s:Shared) (σ:St) (H:Hp) (v:V) (u:Value) (Q:St→Hp→Prop),Inv X pins σ H s→RelV v u→t v σ H Q→
  wpAny (model X.prog X.w) X.A (assign target X.env u) (fun _ s'=>∃σ' H',Inv X pins σ' H' s'∧Q σ' H') X.xe s
def PGs (X:Cx) (ts:List Expr) (t:TGs):Prop:=
 ∀(pins:List (Addr×Obj)) (s:Shared) (σ:St) (H:Hp) (vs:List V) (us:List Value) (Q:St→Hp→Prop),Inv X pins σ H s→Vals vs us→t vs σ H Q→
  wpAny (model X.prog X.w) X.A (assignInOrder ((assignEach ts X.env).map (·.2)) us) (fun _ s'=>∃σ' H',Inv X pins σ' H' s'∧Q σ' H') X.xe s
abbrev TSet:=V→V→V→Hp→(Hp→Prop)→Prop
def PSet (X:Cx) (t:TSet):Prop:=
 ∀(pins:List (Addr×Obj)) (s:Shared) (σ:St) (H:Hp) (o i v:V) (ov iv u:Value) (Q:Hp→Prop),Inv X pins σ H s→RelV o ov→RelV i iv→RelV v u→t o i v H Q→
  wpAny (model X.prog X.w) X.A (setItem ov iv u) (fun _ s'=>∃H',Inv X pins σ H' s'∧Q H') X.xe s
abbrev TIp:=V→V→Hp→VK→Prop
def PIp (X:Cx) (op:Operator) (t:TIp):Prop:=
 ∀(pins:List (Addr×Obj)) (s:Shared) (σ:St) (H:Hp) (x y:V) (v u:Value) (Q:VK),Inv X pins σ H s→RelV x v→RelV y u→t x y H Q→
  wpAny (model X.prog X.w) X.A (inplaceOp op v u) (EP X pins σ Q) X.xe s
section
variable {X:Cx} {pos:Pos}
def gName (i:Nat):TG:=fun v σ H Q=>Q (σ.set i (some v)) H
theorem pg_name {i:Nat} {x:Str} (hN:X.N.Nodup) (hi:X.N[i]? = some x) (hx:Loc X.env.scope x) (hf:X.fn x=true∨X.env.scope.names.lookup x=some .local:=by first|exact .inl rfl|exact .inr rfl|assumption):PG X (.Name x pos) (gName i):=by
 intro pins s σ H v u Q I r h
 exact wpAny_assign_Name (store_ok I hN hi hx r (fun s' I'=>⟨_,H,I',h⟩) hf)
def gNil:TGs:=fun vs σ H Q=>vs=[]∧Q σ H
def gCons (t:TG) (u:TGs):TGs:=fun vs σ H Q=>∃v r,vs=v :: r∧t v σ H fun σ' H'=>u r σ' H' Q
theorem pgs_nil:PGs X [] gNil:=by
 intro pins s σ H vs us Q I r h
 obtain ⟨e,h⟩:=h
 subst e
 cases r
 exact assignInOrder_nil ⟨σ,H,I,h⟩
theorem pgs_cons {e:Expr} {es:List Expr} {t:TG} {u:TGs} (h1:PG X e t) (h2:PGs X es u)
  (hs:(assignEach (e :: es) X.env).map (·.2)=assign e X.env :: (assignEach es X.env).map (·.2):=by rfl):PGs X (e :: es) (gCons t u):=by
 intro pins s σ H vs us Q I r h
 obtain ⟨v,vr,e1,h⟩:=h
 subst e1
 cases r with
 | cons r rr=>
  rw [hs]
  refine assignInOrder_cons (thn (h1 pins s σ H _ _ _ I r h) fun _ s1 ⟨σ1,H1,I1,q1⟩=>?_)
  exact h2 pins s1 σ1 H1 _ _ Q I1 rr q1
def gTup (K:PySem.W.Frag) (n:Nat) (t:TGs):TG:=fun v σ H Q=>∃a xs,v=.ref a∧SqT K H a xs∧xs.length=n∧t xs σ H Q
theorem pg_tup {es:List Expr} {k:Nat} {t:TGs} {n:Nat} (hc:X.calm=true) (h:PGs X es t)
  (hn:(assignEach es X.env).length=n:=by rfl) (hst:(assignEach es X.env).findIdx? (·.1)=none:=by rfl):PG X (.Tuple es k pos) (gTup X.K n t):=by
 intro pins s σ H v u Q I r hw
 obtain ⟨a,xs,e1,hq,hl,hw⟩:=hw
 subst e1
 cases r
 obtain ⟨its,rv,ht,hz⟩:=I.tuple hq
 refine assign_Tuple_tuple (I.ok.hd hc) ht (by simp [hn,←hl,rv.length]) hst fun h' hx=>?_
 have I1:Inv X pins σ H { s with heap:=h' }:=I.kept (t':=s.toks) fun b o e=>hx b o (Nat.ne_of_lt (Heap.lt_size e)) e
 exact h pins _ σ H xs _ Q I1 (by simpa using rv) hw
def gSub (to ti:TE) (t:TSet):TG:=fun v σ H Q=>to σ H fun o H1=>ti σ H1 fun i H2=>t o i v H2 fun H3=>Q σ H3
theorem pg_sub {o i:Expr} {to ti:TE} {t:TSet} (ho:PE X o to) (hi:PE X i ti) (hs:PSet X t)
  (ha :∀v,assign (.Subscript o i pos) X.env v=(do
   let ov ←holding [v] (eval o X.env)
   let iv ←holding [v,ov] (eval i X.env)
   standAt pos
   holding [v,ov,iv] (setItem ov iv v)
   release [v,ov,iv] []):=by intro _;rfl):PG X (.Subscript o i pos) (gSub to ti t):=by
 intro pins s σ H v u Q I r h
 rw [ha]
 refine wpAny_bind (wpAny_holding (thn (ho pins s σ H _ I h) fun ov s1 ⟨x,H1,I1,r1,q1⟩=>?_))
 refine wpAny_bind (wpAny_holding (thn (hi pins s1 σ H1 _ I1 q1) fun iv s2 ⟨y,H2,I2,r2,q2⟩=>?_))
 refine wpAny_bind (wpAny_standAt (wpAny_bind (wpAny_holding (thn (hs pins s2 σ H2 x y v ov iv u _ I2 r1 r2 r q2) fun _ s3 ⟨H3,I3,q3⟩=>?_))))
 exact wpAny_release ⟨σ,H3,I3,q3⟩
def tAsg (te:TE) (g:TG):TS:=fun D σ H=>te σ H fun x H1=>g x σ H1 D.nx
theorem ps_asg {tg e:Expr} {te:TE} {g:TG} (he:PE X e te) (hg:PG X tg g) (hs:swapsWithSole [tg] e pos.line X.env=pure false:=by rfl) (hw:swappedStores [tg] e X.env=pure none:=by rfl)
  (h1:(assignEach [tg] X.env).map (·.2)=[assign tg X.env]:=by rfl):PS X (.Assign [tg] e pos) (tAsg te g):=by
 intro pins s σ H D I h
 refine wpAny_Assign_stores (thn (he pins s σ H _ I h) fun v s1 ⟨x,H1,I1,r1,q1⟩=>?_) hs hw
 rw [h1]
 exact thn (hg pins s1 σ H1 x v _ I1 r1 q1) fun _ s2 q=>q
theorem ps_set {i:Nat} {x:Str} {e:Expr} {te:TE} {pos':Pos} (hN:X.N.Nodup) (hi:X.N[i]? = some x) (hx:Loc X.env.scope x) (he:PE X e te) (hs:swapsWith e (some (.Name x pos')) pos.line X.env=pure false:=by rfl) (hf:X.fn x=true∨X.env.scope.names.lookup x=some .local:=by first|exact .inl rfl|exact .inr rfl|assumption) :
  PS X (.Assign [.Name x pos'] e pos) (tAsg te (gName i)):=by
 intro pins s σ H D I h
 refine wpAny_Assign_Name (thn (he pins s σ H _ I h) fun v s1 ⟨y,H1,I1,r1,q1⟩=>?_) hs
 exact store_ok I1 hN hi hx r1 (fun s2 I2=>⟨_,H1,I2,q1⟩) hf
def tPar (i j:Nat) (ta:TA):TS:=fun D σ H=>ta σ H fun vs H1=>∃v w,vs=[v,w]∧D.nx ((σ.set i (some v)).set j (some w)) H1
def tAug (i:Nat) (te:TE) (ti:TIp):TS:=fun D σ H=>∃x,σ[i]? = some (some x)∧te σ H fun y H1=>ti x y H1 fun z H2=>D.nx (σ.set i (some z)) H2
def tAugS (to ti te:TE) (tget:V→V→Hp→VK→Prop) (tip:TIp) (tset:TSet):TS:=fun D σ H=>to σ H fun o H1=>ti σ H1 fun i H2=>tget o i H2 fun x H3=>te σ H3 fun y H4=>tip x y H4 fun z H5=>tset o i z H5 fun H6=>D.nx σ H6
def PGet (X:Cx) (t:V→V→Hp→VK→Prop):Prop:=
 ∀(pins:List (Addr×Obj)) (s:Shared) (σ:St) (H:Hp) (o i:V) (ov iv:Value) (Q:VK),Inv X pins σ H s→RelV o ov→RelV i iv→t o i H Q→
  wpAny (model X.prog X.w) X.A (getItem ov iv) (EP X pins σ Q) X.xe s
def ipI (f:Int→Int→Int):TIp:=fun x y H Q=>∃i j,x=.int i∧y=.int j∧Q (.int (f i j)) H
end
section
variable {X:Cx} {pos:Pos}
def tWhile (c:TT) (tb:TS):TS:=fun D σ H=>∃W:Nat→St→Hp→Prop,(∃m,W m σ H)∧∀m σ H,W m σ H→
 c σ H fun b H1=>if b=true then∃N:St→Hp→Prop,(∀σ' H',N σ' H'→∃m',m' < m∧W m' σ' H')∧tb { D with nx:=N,ct:=N,bk:=D.nx } σ H1 else D.nx σ H1
theorem ps_while {c:Expr} {body:List Stmt} {tc:TT} {tb:TS} (hp:PassesOwn (model X.prog X.w) X.A X.env X.xe) (hc:PT X c tc) (hb:PSs X body tb):PS X (.While c body [] pos) (tWhile tc tb):=by
 intro pins s σ H D I h
 obtain ⟨W,⟨m0,w0⟩,turn⟩:=h
 refine wpAny_While (codeAny_whileLoop (fun n s'=>∃σ' H',Inv X pins σ' H' s'∧W n σ' H') ?_ m0 ⟨σ,H,I,w0⟩)
 rintro n s1 ⟨σ1,H1,I1,w1⟩
 refine wpAny_passesOwn hp (thn (hc pins s1 σ1 H1 _ I1 (turn n σ1 H1 w1)) fun b s2 ⟨H2,I2,q2⟩=>?_)
 cases b with
 | true=>
  obtain ⟨N,hN,q2⟩:=q2
  rw [if_pos rfl]
  refine wpAny_passesOwn hp (thn (hb pins s2 σ1 H2 _ I2 q2) fun f s3 q3=>?_)
  cases f with
  | next=>
   obtain ⟨σ3,H3,I3,n3⟩:=q3
   obtain ⟨m',hm,w3⟩:=hN σ3 H3 n3
   exact ⟨m',hm,σ3,H3,I3,w3⟩
  | cont=>
   obtain ⟨σ3,H3,I3,n3⟩:=q3
   obtain ⟨m',hm,w3⟩:=hN σ3 H3 n3
   exact ⟨m',hm,σ3,H3,I3,w3⟩
  | brk=>exact q3
  | ret v=>exact q3
 | false=>
  rw [if_neg Bool.false_ne_true]
  exact wpAny_execs_nil ⟨σ1,H2,I2,q2⟩
end
structure It where
 go:Nat→Hp→Prop
 yld:Nat→Hp→V→Hp→Prop
 stop:Nat→Hp→Prop
def FpOk (X:Cx) (pins:List (Addr×Obj)) (H:Hp) (b:Addr):Prop:=
 H b=none∧b≠X.env.locals∧b∉X.fs∧(b∈X.ex∨X.s₀.heap.objs.size≤b)∧(∀x c,X.env.cells.lookup x=some c→c≠b)∧∀p∈X.pn++pins,p.1≠b
theorem Inv.fpOk {X:Cx} {pins:List (Addr×Obj)} {σ:St} {H H':Hp} {s:Shared} {b:Addr} (I:Inv X pins σ H s) (hb:s.heap.objs.size≤b) (hn:H' b=none):FpOk X pins H' b:=by
 refine ⟨hn,Nat.ne_of_gt (Nat.lt_of_lt_of_le I.lt hb),I.nofs hb,.inr (Nat.le_trans I.sz hb),fun x c e z=>?_,fun p hp z=>?_⟩
 ·obtain ⟨v,q⟩:=I.cell x c e
  exact absurd (Nat.lt_of_lt_of_le q.lt (by rw [z];exact hb)) (Nat.lt_irrefl _)
 ·exact absurd (Nat.lt_of_lt_of_le (Heap.lt_size (I.pin p hp).1) (by rw [z];exact hb)) (Nat.lt_irrefl _)
structure Turn (P:Program) (w:World) (K:PySem.W.Frag) (tg:Expr) (J:It) (fp:List Addr) (it:Addr) (tn:Nat→Heap→Prop):Prop where
 mem:it∈fp
 obj :∀i h,tn i h→∀b∈fp,∃o,h.get? b=some o∧∀v,o.data≠.cell v
 keep :∀i h h',tn i h→(∀b∈fp,∀o,h.get? b=some o→h'.get? b=some o)→tn i h'
 item :∀(X:Cx),X.prog=P→X.w=w→X.K=K→X.calm=true→∀(i:Nat) (pins:List (Addr×Obj)) (s:Shared) (σ:St) (H:Hp) (E:Value→Shared→Prop),Inv X pins σ H s→(∀b∈fp,FpOk X pins H b)→tn i s.heap→J.go i H→
  wpAny (model P w) X.A (pyNext (.ref it)) (fun r s1=>∃u,r=some u∧
   wpAny (model P w) X.A (letOwnedTupleGo tg (.ref it) u) (fun _ s2=>∃x H',Inv X pins σ H' s2∧RelV x u∧J.yld i H x H'∧tn (i + 1) s2.heap∧∀b∈fp,H' b=none) E s1) E s
 done :∀(X:Cx),X.prog=P→X.w=w→X.K=K→X.calm=true→∀(i:Nat) (pins:List (Addr×Obj)) (s:Shared) (σ:St) (H:Hp) (E:Value→Shared→Prop),Inv X pins σ H s→(∀b∈fp,FpOk X pins H b)→tn i s.heap→J.stop i H→
  wpAny (model P w) X.A (pyNext (.ref it)) (fun r s1=>r=none∧Inv X pins σ H s1) E s
 self :∀(A:Around) (i:Nat) (s:Shared) (Q:Value→Shared→Prop) (E:Value→Shared→Prop),tn i s.heap→Q (.ref it) s→wpAny (model P w) A (pyIter (.ref it)) Q E s
abbrev TI:=St→Hp→(It→Hp→Prop)→Prop
def PIE (X:Cx) (pins:List (Addr×Obj)) (σ:St) (tg:Expr) (R:It→Hp→Prop) (itv:Value) (s2:Shared):Prop:=
 ∃(it:Addr) (fp:List Addr) (tn:Nat→Heap→Prop) (J:It) (H':Hp),itv=.ref it∧Inv X pins σ H' s2∧Turn X.prog X.w X.K tg J fp it tn∧tn 0 s2.heap∧(∀b∈fp,FpOk X pins H' b)∧R J H'
def PI (X:Cx) (tg iter:Expr) (wi:TI):Prop:=
 ∀(pins:List (Addr×Obj)) (s:Shared) (σ:St) (H:Hp) (R:It→Hp→Prop),Inv X pins σ H s→wi σ H R→
  wpAny (model X.prog X.w) X.A (eval iter X.env) (fun v s1=>wpAny (model X.prog X.w) X.A (pyIter v) (PIE X pins σ tg R) X.xe s1) X.xe s
theorem go_of {M:Model} {A:Around} {E:Value→Shared→Prop} {s:Shared} {tg:Expr} {it:Addr} {u:Value} {o:Obj} {n:String} {vs:Array Value} {Q:Unit→Shared→Prop} (ho:s.heap.get? it=some o) (hc:o.cls=.type n) (hd:o.data=.fields vs)
    (hn:["enumerate","zip","dict_itemiterator","dict_reverseitemiterator","odict_iterator","itertools.zip_longest","itertools.pairwise"].contains n=false) (hQ:Q () s):wpAny M A (letOwnedTupleGo tg (.ref it) u) Q E s:=by
  unfold letOwnedTupleGo
  cases tg<;>first
    | exact wpAny_pure hQ
    | (cases u<;>first
        | exact wpAny_pure hQ
        | (refine wpAny_bind (wpAny_load ho ?_)
           rw [hc,hd]
           show wpAny M A (if (["enumerate","zip","dict_itemiterator","dict_reverseitemiterator","odict_iterator","itertools.zip_longest","itertools.pairwise"].contains n && vs[0]? == some (rawInt _))=true then _ else _) Q E s
           rw [if_neg (by intro h;rw [hn,Bool.false_and] at h;cases h)]
           exact wpAny_pure hQ))
def Itl (K:PySem.W.Frag) (a:Addr):It:=
 ⟨fun i H=>∃xs x,SqL K H a xs∧xs[i]? = some x,fun i H x H'=>H'=H∧∀xs,SqL K H a xs→xs[i]? = some x,fun i H=>∃xs,SqL K H a xs∧xs.length≤i⟩
def Itt (K:PySem.W.Frag) (a:Addr):It:=
 ⟨fun i H=>∃xs x,SqT K H a xs∧xs[i]? = some x,fun i H x H'=>H'=H∧∀xs,SqT K H a xs→xs[i]? = some x,fun i H=>∃xs,SqT K H a xs∧xs.length≤i⟩
def Itr (lo:Int) (n:Nat):It:=⟨fun i _=>i < n,fun i H x H'=>H'=H∧x=.int (lo + i),fun i _=>n≤i⟩
theorem turn_list {P:Program} {w:World} {K:PySem.W.Frag} {tg:Expr} (a it:Addr):Turn P w K tg (Itl K a) [it] it (fun i h=>h.IsListIter it a i) where
 mem:=by simp
 obj:=fun i h st b hb=>by
  have e:b=it:=by simpa using hb
  subst e
  obtain ⟨o,e,c,d⟩:=st
  exact ⟨o,e,fun v z=>by rw [d] at z;cases z⟩
 keep:=fun i h h' st k=>st.at fun o e=>k it (by simp) o e
 item:=by
  intro X hP hw hK hc i pins s σ H E I hf st hg
  subst hP hw hK
  obtain ⟨xs,x,hq,hx⟩:=hg
  obtain ⟨its,rv,p,hz⟩:=I.list hq
  obtain ⟨u,hu,ru⟩:=rv.get hx
  obtain ⟨f0,f1,f2,f3,f4,f5⟩:=hf it (by simp)
  refine wpAny_pyNext_list_item st p.isList (x:=u) (by simpa using hu) fun h' st' sb=>?_
  have I1:Inv X pins σ H { s with heap:=h' }:=I.turned (t':=s.toks) (fun b o hb e=>(sb.2 b hb).trans e) f0 f1 f3 f4 f5
  obtain ⟨o,e,c,d⟩:=id st'
  exact ⟨u,rfl,go_of (s:={ s with heap:=h' }) e c d (by decide) ⟨x,H,I1,ru,⟨rfl,fun ys hy=>by rw [I.list_inj hy hq];exact hx⟩,st',fun b hb=>(hf b hb).1⟩⟩
 done:=by
  intro X hP hw hK hc i pins s σ H E I hf st hg
  subst hP hw hK
  obtain ⟨xs,hq,hx⟩:=hg
  obtain ⟨its,rv,p,hz⟩:=I.list hq
  obtain ⟨f0,f1,f2,f3,f4,f5⟩:=hf it (by simp)
  have hl:=rv.length
  exact wpAny_pyNext_list_end (I.ok.hd hc) st p.isList (by simp;omega) fun h' eb=>⟨rfl,I.turned (t':=s.toks) (fun b o hb e=>eb b o hb e) f0 f1 f3 f4 f5⟩
 self:=fun _ _ _ _ _ st h=>wpAny_pyIter_listiter st h
theorem turn_tuple {P:Program} {w:World} {K:PySem.W.Frag} {tg:Expr} (a it:Addr):Turn P w K tg (Itt K a) [it] it (fun i h=>h.IsTupleIter it a i) where
 mem:=by simp
 obj:=fun i h st b hb=>by
  have e:b=it:=by simpa using hb
  subst e
  obtain ⟨o,e,c,d⟩:=st
  exact ⟨o,e,fun v z=>by rw [d] at z;cases z⟩
 keep:=fun i h h' st k=>st.at fun o e=>k it (by simp) o e
 item:=by
  intro X hP hw hK hc i pins s σ H E I hf st hg
  subst hP hw hK
  obtain ⟨xs,x,hq,hx⟩:=hg
  obtain ⟨its,rv,p,hz⟩:=I.tuple hq
  obtain ⟨u,hu,ru⟩:=rv.get hx
  obtain ⟨f0,f1,f2,f3,f4,f5⟩:=hf it (by simp)
  refine wpAny_pyNext_tuple_item st (show s.heap.IsTuple a its.toArray from p) (x:=u) (by simpa using hu) fun h' st' sb=>?_
  have I1:Inv X pins σ H { s with heap:=h' }:=I.turned (t':=s.toks) (fun b o hb e=>(sb.2 b hb).trans e) f0 f1 f3 f4 f5
  obtain ⟨o,e,c,d⟩:=id st'
  exact ⟨u,rfl,go_of (s:={ s with heap:=h' }) e c d (by decide) ⟨x,H,I1,ru,⟨rfl,fun ys hy=>by rw [I.tuple_inj hy hq];exact hx⟩,st',fun b hb=>(hf b hb).1⟩⟩
 done:=by
  intro X hP hw hK hc i pins s σ H E I hf st hg
  subst hP hw hK
  obtain ⟨xs,hq,hx⟩:=hg
  obtain ⟨its,rv,p,hz⟩:=I.tuple hq
  obtain ⟨f0,f1,f2,f3,f4,f5⟩:=hf it (by simp)
  have hl:=rv.length
  exact wpAny_pyNext_tuple_end (I.ok.hd hc) st (show s.heap.IsTuple a its.toArray from p) (by simp;omega) fun h' eb=>⟨rfl,I.turned (t':=s.toks) (fun b o hb e=>eb b o hb e) f0 f1 f3 f4 f5⟩
 self:=fun _ _ _ _ _ st h=>wpAny_pyIter_tupleiter st h
theorem turn_range {P:Program} {w:World} {K:PySem.W.Frag} {tg:Expr} (it:Addr) (lo:Int) (n:Nat):Turn P w K tg (Itr lo n) [it] it (fun i h=>IsRangeIter h it (lo + (i:Nat) * 1) ((n:Int) - (i:Nat)) 1) where
 mem:=by simp
 obj:=fun i h st b hb=>by
  have e:b=it:=by simpa using hb
  subst e
  exact ⟨_,st,fun v z=>by
   have z':Data.fields _=Data.cell v:=z
   cases z'⟩
 keep:=fun i h h' st k=>k it (by simp) _ st
 item:=by
  intro X hP hw hK hc i pins s σ H E I hf st hg
  subst hP hw hK
  obtain ⟨f0,f1,f2,f3,f4,f5⟩:=hf it (by simp)
  have W:=Walks.range (prog:=X.prog) (w:=X.w) (I.ok.hd hc) it lo 1 n
  refine W.item i s _ _ hg st fun v h' tk hv st' kk=>?_
  obtain ⟨t,rfl⟩:=hv
  have I1:Inv X pins σ H { s with heap:=h',toks:=tk }:=I.turned (fun b o hb e=>kk b o (by simpa using hb) e) f0 f1 f3 f4 f5
  refine ⟨_,rfl,go_of (s:={ s with heap:=h',toks:=tk }) (n:="range_iterator") st' rfl rfl (by decide) ⟨.int (lo + i),H,I1,⟨t,?_⟩,⟨rfl,rfl⟩,st',fun b hb=>(hf b hb).1⟩⟩
  rw [Int.mul_one]
 done:=by
  intro X hP hw hK hc i pins s σ H E I hf st hg
  subst hP hw hK
  obtain ⟨f0,f1,f2,f3,f4,f5⟩:=hf it (by simp)
  exact wpAny_pyNext_range_end (I.ok.hd hc) st (by have:n≤i:=hg;omega) fun h' eb=>⟨rfl,I.turned (t':=s.toks) (fun b o hb e=>eb b o hb e) f0 f1 f3 f4 f5⟩
 self:=fun _ _ _ _ _ st h=>wpAny_pyIter_rangeiter st h
section
variable {X:Cx} {tg:Expr}
def iList (K:PySem.W.Frag) (tl:TE):TI:=fun σ H R=>tl σ H fun x H1=>∃a,x=.ref a∧(∃xs,SqL K H1 a xs)∧R (Itl K a) H1
def iTup (K:PySem.W.Frag) (tl:TE):TI:=fun σ H R=>tl σ H fun x H1=>∃a,x=.ref a∧(∃xs,SqT K H1 a xs)∧R (Itt K a) H1
theorem pi_list {l:Expr} {tl:TE} (hl:PE X l tl):PI X tg l (iList X.K tl):=by
 intro pins s σ H R I h
 refine thn (hl pins s σ H _ I h) fun v s1 ⟨x,H1,I1,r1,q1⟩=>?_
 obtain ⟨a,e,⟨xs,hq⟩,q⟩:=q1
 subst e
 cases r1
 obtain ⟨its,rv,p,hz⟩:=I1.list hq
 refine wpAny_pyIter_list p.isList ?_
 refine ⟨s1.heap.objs.size,[s1.heap.objs.size],_,_,H1,rfl,I1.kept (t':=s1.toks) fun b o e=>Heap.get?_push_of_some _ e,turn_list a _,⟨_,Heap.get?_push_size _ rfl,rfl,rfl⟩,fun b hb=>?_,q⟩
 have e:b=s1.heap.objs.size:=by simpa using hb
 subst e
 exact I1.fpOk (Nat.le_refl _) (I1.hok.fresh (Nat.le_refl _))
theorem pi_tup {l:Expr} {tl:TE} (hl:PE X l tl):PI X tg l (iTup X.K tl):=by
 intro pins s σ H R I h
 refine thn (hl pins s σ H _ I h) fun v s1 ⟨x,H1,I1,r1,q1⟩=>?_
 obtain ⟨a,e,⟨xs,hq⟩,q⟩:=q1
 subst e
 cases r1
 obtain ⟨its,rv,p,hz⟩:=I1.tuple hq
 refine wpAny_pyIter_tuple (show s1.heap.IsTuple a its.toArray from p) ?_
 refine ⟨s1.heap.objs.size,[s1.heap.objs.size],_,_,H1,rfl,I1.kept (t':=s1.toks) fun b o e=>Heap.get?_push_of_some _ e,turn_tuple a _,⟨_,Heap.get?_push_size _ rfl,rfl,rfl⟩,fun b hb=>?_,q⟩
 have e:b=s1.heap.objs.size:=by simpa using hb
 subst e
 exact I1.fpOk (Nat.le_refl _) (I1.hok.fresh (Nat.le_refl _))
theorem range_it {pins:List (Addr×Obj)} {σ:St} {H:Hp} {s:Shared} {R:It→Hp→Prop} {E:Value→Shared→Prop} {lo hi:Int} {t u v:Tok} {tk:Nat} (I:Inv X pins σ H s) (h1:-(2 ^ 62)≤lo) (h2:lo < 2 ^ 62) (h3:-(2 ^ 62)≤hi) (h4:hi < 2 ^ 62)
  (q:R (Itr lo (hi - lo).toNat) H):wpAny (model X.prog X.w) X.A (pyIter (.ref s.heap.objs.size)) (PIE X pins σ tg R) E { s with heap:=s.heap.push { cls:=.type "range",data:=.fields #[.int lo t,.int hi u,.int 1 v] },toks:=tk }:=by
 refine wpAny_pyIter_range (IsRange.new ..) (small_one h1 h2 h3 h4) ?_
 have I1:Inv X pins σ H { s with heap:=s.heap.push { cls:=.type "range",data:=.fields #[.int lo t,.int hi u,.int 1 v] },toks:=tk }:=I.kept fun b o e=>Heap.get?_push_of_some _ e
 refine ⟨(s.heap.push { cls:=.type "range",data:=.fields #[.int lo t,.int hi u,.int 1 v] }).objs.size,[(s.heap.push { cls:=.type "range",data:=.fields #[.int lo t,.int hi u,.int 1 v] }).objs.size],_,_,H,rfl,
  I1.kept (t':=tk) fun b o e=>Heap.get?_push_of_some _ e,turn_range _ lo (hi - lo).toNat,?_,fun b hb=>?_,q⟩
 ·have e1:lo + ((0:Nat):Int) * 1=lo:=by simp
  have e2:(((hi - lo).toNat:Nat):Int) - ((0:Nat):Int)=Builtin.Range.rangeSize lo hi 1:=by rw [rangeSize_one];split<;>omega
  show IsRangeIter _ _ (lo + ((0:Nat):Int) * 1) ((((hi - lo).toNat:Nat):Int) - ((0:Nat):Int)) 1
  rw [e1,e2]
  exact Heap.get?_push_size _ rfl
 ·have e:b=(s.heap.push { cls:=.type "range",data:=.fields #[.int lo t,.int hi u,.int 1 v] }).objs.size:=by simpa using hb
  subst e
  exact I1.fpOk (Nat.le_refl _) (I1.hok.fresh (Nat.le_refl _))
def iRng1 (ta:TA):TI:=fun σ H R=>ta σ H fun vs H1=>∃j:Int,vs=[.int j]∧-(2 ^ 62)≤j∧j < 2 ^ 62∧R (Itr 0 j.toNat) H1
def iRng2 (ta:TA):TI:=fun σ H R=>ta σ H fun vs H1=>∃i j:Int,vs=[.int i,.int j]∧(-(2 ^ 62)≤i∧i < 2 ^ 62∧-(2 ^ 62)≤j∧j < 2 ^ 62)∧R (Itr i (j - i).toNat) H1
theorem pi_range1 {a:Expr} {ta:TA} {p pos:Pos} (hg:Gl X "range") (hm:X.mg "range" = none) (ha:PA X [a] ta) (hs:starEach [a] X.env=[(false,eval a X.env)]:=by rfl):PI X tg (.Call (.Name "range" p) [a] [] pos) (iRng1 ta):=by
 intro pins s σ H R I h
 refine Call_ (ld_blt I hg hm boot_range (PyProof.Rows.callWith_type1 (thn (ha pos pins s σ H _ I h) fun us s1 ⟨vs,H1,I1,r1,q1⟩=>?_) hs rfl))
 obtain ⟨j,e,q1,q2,q⟩:=q1
 subst e
 cases r1 with
 | cons r rr=>
  cases rr
  obtain ⟨t,rfl⟩:=r
  exact call_range_1 (range_it I1 (by omega) (by omega) q1 q2 (by simpa using q))
theorem pi_range2 {a b:Expr} {ta:TA} {p pos:Pos} (hg:Gl X "range") (hm:X.mg "range" = none) (ha:PA X [a,b] ta) (hs:starEach [a,b] X.env=[(false,eval a X.env),(false,eval b X.env)]:=by rfl) (hs2:starEach [b] X.env=[(false,eval b X.env)]:=by rfl) :
  PI X tg (.Call (.Name "range" p) [a,b] [] pos) (iRng2 ta):=by
 intro pins s σ H R I h
 refine Call_ (ld_blt I hg hm boot_range (PyProof.Rows.callWith_type1 (thn (ha pos pins s σ H _ I h) fun us s1 ⟨vs,H1,I1,r1,q1⟩=>?_) (by rw [hs,hs2]) (by rw [hs2];rfl)))
 obtain ⟨i,j,e,⟨q1,q2,q3,q4⟩,q⟩:=q1
 subst e
 cases r1 with
 | cons r rr=>
  cases rr with
  | cons r' rr=>
   cases rr
   obtain ⟨t,rfl⟩:=r
   obtain ⟨t',rfl⟩:=r'
   exact call_range_2 (range_it I1 q1 q2 q3 q4 q)
def tFor (wi:TI) (g:TG) (tb:TS):TS:=fun D σ H=>wi σ H fun J H1=>∃W:Nat→Nat→St→Hp→Prop,(∃m,W 0 m σ H1)∧∀i m σ H,W i m σ H→
 (J.stop i H∧D.nx σ H)∨(J.go i H∧∃N:St→Hp→Prop,(∀σ' H',N σ' H'→∃m',m' < m∧W (i + 1) m' σ' H')∧∀x H',J.yld i H x H'→g x σ H' fun σ2 H2=>tb { D with nx:=N,ct:=N,bk:=D.nx } σ2 H2)
def pinsAt (fp:List Addr) (h:Heap):List (Addr×Obj):=fp.filterMap fun b=>(h.get? b).map fun o=>(b,o)
theorem mem_pinsAt {fp:List Addr} {h:Heap} {b:Addr} {o:Obj} (hb:b∈fp) (e:h.get? b=some o):(b,o)∈pinsAt fp h:=List.mem_filterMap.mpr ⟨b,hb,by rw [e];rfl⟩
theorem of_pinsAt {fp:List Addr} {h:Heap} {p:Addr×Obj} (hp:p∈pinsAt fp h):p.1∈fp∧h.get? p.1=some p.2:=by
 obtain ⟨b,hb,e⟩:=List.mem_filterMap.mp hp
 cases q:h.get? b with
 | none=>rw [q] at e;cases e
 | some o=>
  rw [q] at e
  have e':(b,o)=p:=Option.some.inj e
  subst e'
  exact ⟨hb,q⟩
theorem Inv.pinned {pins:List (Addr×Obj)} {σ:St} {H:Hp} {s:Shared} {fp:List Addr} (I:Inv X pins σ H s) (hf :∀b∈fp,FpOk X pins H b) (ho :∀b∈fp,∃o,s.heap.get? b=some o∧∀v,o.data≠.cell v):Inv X (pins++pinsAt fp s.heap) σ H s:=
 I.pins_of fun p hp=>(List.mem_append.mp hp).elim (fun z=>I.pin p (List.mem_append_right _ z)) fun z=>by
  obtain ⟨hb,e⟩:=of_pinsAt z
  obtain ⟨f0,f1,f2,_⟩:=hf p.1 hb
  obtain ⟨o,e',d⟩:=ho p.1 hb
  rw [e] at e';cases e'
  exact ⟨e,f0,f1,f2,d⟩
theorem Inv.unpinned {pins pl:List (Addr×Obj)} {σ:St} {H:Hp} {s:Shared} (I:Inv X (pins++pl) σ H s):Inv X pins σ H s:=I.pins_of fun p hp=>I.pin p (List.mem_append_right _ (List.mem_append_left _ hp))
theorem ps_for {iter:Expr} {body:List Stmt} {wi:TI} {g:TG} {tb:TS} {pos:Pos} (hp:PassesOwn (model X.prog X.w) X.A X.env X.xe) (hc:X.calm=true) (hi:PI X tg iter wi) (hg:PG X tg g) (hb:PSs X body tb)
  (hs :∀x,foldedSetIterable iter X.env x=pure x:=by intro _;rfl):PS X (.For tg iter body [] pos) (tFor wi g tb):=by
 intro pins s σ H D I h
 refine wpAny_For (thn (hi pins s σ H _ I h) fun v s1 h1=>thn h1 fun itv s2 h2=>?_) hs
 obtain ⟨it,fp,tn,J,H2,e,I2,T,st2,f2,W,⟨m0,w0⟩,turn⟩:=h2
 subst e
 -- what stays true of the iterator's objects through the loop
 have stat :∀{H':Hp},(∀b∈fp,H' b=none)→∀b∈fp,FpOk X pins H' b:=fun hn b hb=>⟨hn b hb,(f2 b hb).2⟩
 refine codeAny_forLoop_any (fun n s'=>∃i σ' H',Inv X pins σ' H' s'∧tn i s'.heap∧(∀b∈fp,H' b=none)∧W i n σ' H') ?_ m0 ⟨0,σ,H2,I2,st2,fun b hb=>(f2 b hb).1,w0⟩
 rintro n s3 ⟨i,σ3,H3,I3,st3,fr3,w3⟩
 rcases turn i n σ3 H3 w3 with ⟨stop,qn⟩|⟨go,N,hN,step⟩
 ·refine wpAny_passesOwn hp (thn (T.done X rfl rfl rfl hc i pins s3 σ3 H3 X.xe I3 (stat fr3) st3 stop) fun r s4 ⟨hr,I4⟩=>?_)
  subst hr
  exact wpAny_execs_nil ⟨σ3,H3,I4,qn⟩
 ·refine wpAny_passesOwn hp (thn (T.item X rfl rfl rfl hc i pins s3 σ3 H3 X.xe I3 (stat fr3) st3 go) fun r s4 ⟨u,hr,h4⟩=>?_)
  subst hr
  refine wpAny_passesOwn hp (thn h4 fun _ s5 ⟨x,H5,I5,r5,y5,st5,fr5⟩=>?_)
  have I5':=I5.pinned (stat fr5) (T.obj _ _ st5)
  refine wpAny_passesOwn hp (thn (hg _ s5 σ3 H5 x u _ I5' r5 (step x H5 y5)) fun _ s6 ⟨σ6,H6,I6,q6⟩=>?_)
  refine wpAny_passesOwn hp (thn (hb _ s6 σ6 H6 _ I6 q6) fun f s7 q7=>?_)
  have again :∀{σ7:St} {H7:Hp},Inv X (pins++pinsAt fp s5.heap) σ7 H7 s7→N σ7 H7→∃m,m < n∧∃i σ' H',Inv X pins σ' H' s7∧tn i s7.heap∧(∀b∈fp,H' b=none)∧W i m σ' H':=fun {σ7 H7} I7 n7=>by
   obtain ⟨m',hm,w7⟩:=hN σ7 H7 n7
   refine ⟨m',hm,i + 1,σ7,H7,I7.unpinned,T.keep _ _ _ st5 fun b hb o e=>(I7.pin (b,o) (List.mem_append_right _ (List.mem_append_right _ (mem_pinsAt hb e)))).1,fun b hb=>?_,w7⟩
   obtain ⟨o,e,d⟩:=T.obj _ _ st5 b hb
   exact (I7.pin (b,o) (List.mem_append_right _ (List.mem_append_right _ (mem_pinsAt hb e)))).2.1
  cases f with
  | next=>obtain ⟨σ7,H7,I7,n7⟩:=q7;exact again I7 n7
  | cont=>obtain ⟨σ7,H7,I7,n7⟩:=q7;exact again I7 n7
  | brk=>obtain ⟨σ7,H7,I7,q7⟩:=q7;exact ⟨σ7,H7,I7.unpinned,q7⟩
  | ret v=>obtain ⟨x7,σ7,H7,I7,r7,q7⟩:=q7;exact ⟨x7,σ7,H7,I7.unpinned,r7,q7⟩
end
theorem for_list {K:PySem.W.Frag} {a:Addr} {xs:List V} {g:TG} {tb:TS} {D:Ends} {σ:St} {H:Hp} (Pv:Nat→St→Hp→Prop) (h0:Pv 0 σ H) (hl :∀i σ H,i≤xs.length→Pv i σ H→SqL K H a xs)
  (hs :∀i x σ H,xs[i]? = some x→Pv i σ H→g x σ H fun σ2 H2=>tb { D with nx:=Pv (i + 1),ct:=Pv (i + 1),bk:=D.nx } σ2 H2) (hd :∀σ H,Pv xs.length σ H→D.nx σ H) :
  ∃W:Nat→Nat→St→Hp→Prop,(∃m,W 0 m σ H)∧∀i m σ H,W i m σ H→
   ((Itl K a).stop i H∧D.nx σ H)∨((Itl K a).go i H∧∃N:St→Hp→Prop,(∀σ' H',N σ' H'→∃m',m' < m∧W (i + 1) m' σ' H')∧∀x H',(Itl K a).yld i H x H'→g x σ H' fun σ2 H2=>tb { D with nx:=N,ct:=N,bk:=D.nx } σ2 H2):=by
 refine ⟨fun i m σ H=>m=xs.length - i∧i≤xs.length∧Pv i σ H,⟨xs.length,by simp,Nat.zero_le _,h0⟩,?_⟩
 rintro i m σ H ⟨rfl,hi,p⟩
 have q:=hl i σ H hi p
 by_cases hlt:i < xs.length
 ·refine .inr ⟨⟨xs,xs[i],q,by simp [hlt]⟩,Pv (i + 1),fun σ' H' p'=>⟨xs.length - (i + 1),by omega,rfl,hlt,p'⟩,fun x H' y=>?_⟩
  obtain ⟨e,y⟩:=y
  subst e
  exact hs i x σ _ (y xs q) p
 ·have e:i=xs.length:=by omega
  subst e
  exact .inl ⟨⟨xs,q,Nat.le_refl _⟩,hd σ H p⟩
theorem for_range {lo:Int} {n:Nat} {g:TG} {tb:TS} {D:Ends} {σ:St} {H:Hp} (Pv:Nat→St→Hp→Prop) (h0:Pv 0 σ H)
  (hs :∀i σ H,i < n→Pv i σ H→g (.int (lo + i)) σ H fun σ2 H2=>tb { D with nx:=Pv (i + 1),ct:=Pv (i + 1),bk:=D.nx } σ2 H2) (hd :∀σ H,Pv n σ H→D.nx σ H) :
  ∃W:Nat→Nat→St→Hp→Prop,(∃m,W 0 m σ H)∧∀i m σ H,W i m σ H→
   ((Itr lo n).stop i H∧D.nx σ H)∨((Itr lo n).go i H∧∃N:St→Hp→Prop,(∀σ' H',N σ' H'→∃m',m' < m∧W (i + 1) m' σ' H')∧∀x H',(Itr lo n).yld i H x H'→g x σ H' fun σ2 H2=>tb { D with nx:=N,ct:=N,bk:=D.nx } σ2 H2):=by
 refine ⟨fun i m σ H=>m=n - i∧i≤n∧Pv i σ H,⟨n,by simp,Nat.zero_le _,h0⟩,?_⟩
 rintro i m σ H ⟨rfl,hi,p⟩
 by_cases hlt:i < n
 ·refine .inr ⟨hlt,Pv (i + 1),fun σ' H' p'=>⟨n - (i + 1),by omega,rfl,hlt,p'⟩,fun x H' y=>?_⟩
  obtain ⟨e,y⟩:=y
  subst e y
  exact hs i σ _ hlt p
 ·have e:i=n:=by omega
  subst e
  exact .inl ⟨Nat.le_refl _,hd σ H p⟩
abbrev R2:=V→V→Hp→VK→Prop
def OpR (X:Cx) (f:Value→Value→Sem Value) (r:R2):Prop:=
 ∀(pins:List (Addr×Obj)) (s:Shared) (σ:St) (H:Hp) (x y:V) (v u:Value) (Q:VK),Inv X pins σ H s→RelV x v→RelV y u→r x y H Q→
  wpAny (model X.prog X.w) X.A (f v u) (EP X pins σ Q) X.xe s
def UnR (X:Cx) (f:Value→Sem Value) (r:V→Hp→VK→Prop):Prop:=
 ∀(pins:List (Addr×Obj)) (s:Shared) (σ:St) (H:Hp) (x:V) (v:Value) (Q:VK),Inv X pins σ H s→RelV x v→r x H Q→
  wpAny (model X.prog X.w) X.A (f v) (EP X pins σ Q) X.xe s
def CallR (X:Cx) (f:Value) (r:List V→Hp→VK→Prop):Prop:=
 ∀(pins:List (Addr×Obj)) (s:Shared) (σ:St) (H:Hp) (xs:List V) (us:List Value) (Q:VK),Inv X pins σ H s→Vals xs us→r xs H Q→
  wpAny (model X.prog X.w) X.A (call f us) (EP X pins σ Q) X.xe s
def TruR (X:Cx) (r:V→Hp→(Bool→Hp→Prop)→Prop):Prop:=
 ∀(pins:List (Addr×Obj)) (s:Shared) (σ:St) (H:Hp) (x:V) (v:Value) (Q:Bool→Hp→Prop),Inv X pins σ H s→RelV x v→r x H Q→
  wpAny (model X.prog X.w) X.A (truthy v) (TP X pins σ Q) X.xe s
def tOp (r:R2) (ta tb:TE):TE:=fun σ H Q=>ta σ H fun x H1=>tb σ H1 fun y H2=>r x y H2 Q
def tUn (r:V→Hp→VK→Prop) (ta:TE):TE:=fun σ H Q=>ta σ H fun x H1=>r x H1 Q
def rI (C:Int→Int→Prop) (g:Int→Int→V):R2:=fun x y H Q=>∃i j,x=.int i∧y=.int j∧C i j∧Q (g i j) H
def rI0 (g:Int→Int→V):R2:=fun x y H Q=>∃i j,x=.int i∧y=.int j∧Q (g i j) H
def rU (g:Int→V):V→Hp→VK→Prop:=fun x H Q=>∃i,x=.int i∧Q (g i) H
section
variable {X:Cx} {a b c:Expr} {ta tb tc:TE} {pos:Pos}
theorem binT (ha:PE X a ta) (hb:PE X b tb) {pins:List (Addr×Obj)} {s:Shared} {σ:St} {H:Hp} {R:V→V→Hp→Prop} (I:Inv X pins σ H s)
  (h:ta σ H fun x H1=>tb σ H1 fun y H2=>R x y H2) {Q:Value→Shared→Prop} {f:Value→Value→Sem Value}
  (hf :∀v u s2 x y H2,Inv X pins σ H2 s2→RelV x v→RelV y u→R x y H2→wpAny (model X.prog X.w) X.A (f v u) Q X.xe s2) :
  wpAny (model X.prog X.w) X.A (eval a X.env) (fun v s₁=>wpAny (model X.prog X.w) X.A (eval b X.env) (fun u s₂=>wpAny (model X.prog X.w) X.A (f v u) Q X.xe s₂) X.xe s₁) X.xe s:=by
 refine thn (ha pins s σ H _ I h) fun v s1 ⟨x,H1,I1,r1,q1⟩=>?_
 refine thn (hb pins s1 σ H1 _ I1 q1) fun u s2 ⟨y,H2,I2,r2,q2⟩=>?_
 exact hf v u s2 x y H2 I2 r1 r2 q2
theorem pe_op {op:Operator} {r:R2} (ho:OpR X (binaryOp op) r) (ha:PE X a ta) (hb:PE X b tb):PE X (.BinOp a op b pos) (tOp r ta tb):=by
 intro pins s σ H Q I h
 exact wpAny_BinOp (binT ha hb I h fun v u s2 x y H2 I2 rx ry q=>ho pins s2 σ H2 x y v u Q I2 rx ry q)
theorem pe_un {op:UnaryOp} {r:V→Hp→VK→Prop} (ho:UnR X (unaryOp op) r) (ha:PE X a ta):PE X (.UnaryOp op a pos) (tUn r ta):=by
 intro pins s σ H Q I h
 exact UnaryOp_ (thn (ha pins s σ H _ I h) fun v s1 ⟨x,H1,I1,r1,q1⟩=>ho pins s1 σ H1 x v Q I1 r1 q1)
theorem opI {f:Value→Value→Sem Value} {C:Int→Int→Prop} {g:Int→Int→Int}
  (rule :∀(i j:Int) (t u:Tok) (s:Shared) (Q:Value→Shared→Prop) (E:Value→Shared→Prop),C i j→Q (.int (g i j) s.toks) { s with toks:=s.toks + 1 }→wpAny (model X.prog X.w) X.A (f (.int i t) (.int j u)) Q E s) :
  OpR X f (rI C fun i j=>.int (g i j)):=by
 intro pins s σ H x y v u Q I rx ry h
 obtain ⟨i,j,rfl,rfl,hc,q⟩:=h
 obtain ⟨t,rfl⟩:=rx
 obtain ⟨t',rfl⟩:=ry
 exact rule i j t t' s _ _ hc ⟨.int (g i j),H,I.tok _,⟨_,rfl⟩,q⟩
theorem opI0 {f:Value→Value→Sem Value} {g:Int→Int→Int}
  (rule :∀(i j:Int) (t u:Tok) (s:Shared) (Q:Value→Shared→Prop) (E:Value→Shared→Prop),Q (.int (g i j) s.toks) { s with toks:=s.toks + 1 }→wpAny (model X.prog X.w) X.A (f (.int i t) (.int j u)) Q E s) :
  OpR X f (rI0 fun i j=>.int (g i j)):=by
 intro pins s σ H x y v u Q I rx ry h
 obtain ⟨i,j,rfl,rfl,q⟩:=h
 obtain ⟨t,rfl⟩:=rx
 obtain ⟨t',rfl⟩:=ry
 exact rule i j t t' s _ _ ⟨.int (g i j),H,I.tok _,⟨_,rfl⟩,q⟩
theorem opB0 {f:Value→Value→Sem Value} {g:Int→Int→Bool}
  (rule :∀(i j:Int) (t u:Tok) (s:Shared) (Q:Value→Shared→Prop) (E:Value→Shared→Prop),Q (.bool (g i j)) s→wpAny (model X.prog X.w) X.A (f (.int i t) (.int j u)) Q E s) :
  OpR X f (rI0 fun i j=>.bl (g i j)):=by
 intro pins s σ H x y v u Q I rx ry h
 obtain ⟨i,j,rfl,rfl,q⟩:=h
 obtain ⟨t,rfl⟩:=rx
 obtain ⟨t',rfl⟩:=ry
 exact rule i j t t' s _ _ ⟨.bl (g i j),H,I,rfl,q⟩
def CDiv (i j:Int):Prop:=0 < j∧j < 1073741824
def CDivN (i j:Int):Prop:=j≠0∧j.natAbs < 1073741824
def CPow (i j:Int):Prop:=0≤j∧j≤1000000∧i.natAbs < 2 ^ 64
def CMul (i j:Int):Prop:=(-(2 ^ 64) < i∧i < 2 ^ 64)∨(-(2 ^ 64) < j∧j < 2 ^ 64)
theorem CMul.ok {i j:Int} (h:CMul i j):IntMulOk i j:=by
 rcases h with ⟨h1,h2⟩|⟨h1,h2⟩
 ·exact .of_left (intBits_le_64 h1 h2)
 ·exact .of_right (intBits_le_64 h1 h2)
theorem op_add:OpR X (binaryOp .Add) (rI0 fun i j=>.int (i + j)):=opI0 fun _ _ _ _ _ _ _ q=>add_int q
theorem op_sub:OpR X (binaryOp .Sub) (rI0 fun i j=>.int (i - j)):=opI0 fun _ _ _ _ _ _ _ q=>sub_int q
theorem op_mul:OpR X (binaryOp .Mult) (rI CMul fun i j=>.int (i * j)):=opI fun _ _ _ _ _ _ _ hc q=>mul_int q hc.ok
theorem op_mod:OpR X (binaryOp .Mod) (rI (fun _ j=>0 < j) fun i j=>.int (i % j)):=opI fun i j _ _ _ _ _ hc q=>by
 have h1:(0:Int) < j:=hc
 exact mod_int' (by omega) (by rw [Int.fmod_eq_emod_of_nonneg i (by omega)];exact q)
theorem op_pow:OpR X (binaryOp .Pow) (rI CPow fun i j=>.int (i ^ j.toNat)):=opI fun _ _ _ _ _ _ _ hc q=>pow_int_small hc.1 hc.2.1 hc.2.2 q
theorem unI {f:Value→Sem Value} {g:Int→Int}
  (rule :∀(i:Int) (t:Tok) (s:Shared) (Q:Value→Shared→Prop) (E:Value→Shared→Prop),Q (.int (g i) s.toks) { s with toks:=s.toks + 1 }→wpAny (model X.prog X.w) X.A (f (.int i t)) Q E s) :
  UnR X f (rU fun i=>.int (g i)):=by
 intro pins s σ H x v Q I rx h
 obtain ⟨i,rfl,q⟩:=h
 obtain ⟨t,rfl⟩:=rx
 exact rule i t s _ _ ⟨.int (g i),H,I.tok _,⟨_,rfl⟩,q⟩
theorem un_neg:UnR X (unaryOp .USub) (rU fun i=>.int (-i)):=unI fun _ _ _ _ _ q=>neg_int q
end
def scal:V→V→Bool
 | .non,.non=>true | .non,.int _=>true | .int _,.non=>true | .non,.bl _=>true | .bl _,.non=>true | .non,.str _=>true | .str _,.non=>true
 | .int _,.int _=>true | .bl _,.bl _=>true | .str _,.str _=>true | .byt _,.byt _=>true
 | .int _,.str _=>true | .str _,.int _=>true | .bl _,.str _=>true | .str _,.bl _=>true
 | _,_=>false
def rEq:R2:=fun x y H Q=>scal x y=true∧Q (.bl (decide (x=y))) H
def rNe:R2:=fun x y H Q=>scal x y=true∧Q (.bl (!decide (x=y))) H
theorem dec_int {i j:Int}:decide (V.int i=V.int j)=(i == j):=by
 rw [Bool.eq_iff_iff]
 simp
theorem dec_bl {i j:Bool}:decide (V.bl i=V.bl j)=(i == j):=by
 rw [Bool.eq_iff_iff]
 simp
theorem dec_str {i j:Str}:decide (V.str i=V.str j)=(i == j):=by
 rw [Bool.eq_iff_iff]
 simp
theorem dec_byt {i j:Array UInt8}:decide (V.byt i=V.byt j)=(i.toList == j.toList):=by
 rw [Bool.eq_iff_iff]
 cases i
 cases j
 simp
section
variable {X:Cx} {a b c:Expr} {ta tb tc:TE} {pos:Pos}
theorem fin_bl {pins:List (Addr×Obj)} {σ:St} {H:Hp} {s:Shared} {Q:VK} {k k':Bool} (I:Inv X pins σ H s) (q:Q (.bl k) H) (e:k=k'):EP X pins σ Q (.bool k') s:=by
 subst e
 exact ⟨.bl k,H,I,rfl,q⟩
theorem op_eq:OpR X (compareOp .Eq) rEq:=by
 intro pins s σ H x y v u Q I rx ry h
 obtain ⟨hs,q⟩:=h
 cases x with
 | non=>
  cases rx
  cases y with
  | non=>cases ry;exact PySem.EqNone.eq_none_none (fin_bl I q (by simp))
  | bl j=>cases ry;exact PySem.EqNone.eq_none_bool (fin_bl I q (by simp))
  | int j=>obtain ⟨t',rfl⟩:=ry;exact PySem.EqNone.eq_none_int (fin_bl I q (by simp))
  | str j=>obtain ⟨t',rfl⟩:=ry;exact PySem.EqNone.eq_none_str (fin_bl I q (by simp))
  | _=>exact absurd (show false=true from hs) Bool.false_ne_true
 | bl i=>
  cases rx
  cases y with
  | non=>cases ry;exact PySem.EqNone.eq_bool_none (fin_bl I q (by simp))
  | bl j=>cases ry;exact eq_bool (fin_bl I q dec_bl)
  | str j=>obtain ⟨t',rfl⟩:=ry;exact PySem.EqMixed.eq_bool_str (fin_bl I q (by simp))
  | _=>exact absurd (show false=true from hs) Bool.false_ne_true
 | int i=>
  obtain ⟨t,rfl⟩:=rx
  cases y with
  | non=>cases ry;exact PySem.EqNone.eq_int_none (fin_bl I q (by simp))
  | int j=>obtain ⟨t',rfl⟩:=ry;exact eq_int (fin_bl I q dec_int)
  | str j=>obtain ⟨t',rfl⟩:=ry;exact PySem.EqMixed.eq_int_str (fin_bl I q (by simp))
  | _=>exact absurd (show false=true from hs) Bool.false_ne_true
 | str i=>
  obtain ⟨t,rfl⟩:=rx
  cases y with
  | non=>cases ry;exact PySem.EqNone.eq_str_none (fin_bl I q (by simp))
  | bl j=>cases ry;exact PySem.EqMixed.eq_str_bool (fin_bl I q (by simp))
  | int j=>obtain ⟨t',rfl⟩:=ry;exact PySem.EqMixed.eq_str_int (fin_bl I q (by simp))
  | str j=>obtain ⟨t',rfl⟩:=ry;exact eq_str (fin_bl I q dec_str)
  | _=>exact absurd (show false=true from hs) Bool.false_ne_true
 | byt i=>
  obtain ⟨t,rfl⟩:=rx
  cases y with
  | byt j=>obtain ⟨t',rfl⟩:=ry;exact PySem.W.eq_bytes (fin_bl I q dec_byt)
  | _=>exact absurd (show false=true from hs) Bool.false_ne_true
 | _=>cases y<;>exact absurd (show false=true from hs) Bool.false_ne_true
theorem op_ne:OpR X (compareOp .NotEq) rNe:=by
 intro pins s σ H x y v u Q I rx ry h
 obtain ⟨hs,q⟩:=h
 cases x with
 | non=>
  cases rx
  cases y with
  | non=>cases ry;exact PySem.EqNone.ne_none_none (fin_bl I q (by simp))
  | bl j=>cases ry;exact PySem.EqNone.ne_none_bool (fin_bl I q (by simp))
  | int j=>obtain ⟨t',rfl⟩:=ry;exact PySem.EqNone.ne_none_int (fin_bl I q (by simp))
  | str j=>obtain ⟨t',rfl⟩:=ry;exact PySem.EqNone.ne_none_str (fin_bl I q (by simp))
  | _=>exact absurd (show false=true from hs) Bool.false_ne_true
 | bl i=>
  cases rx
  cases y with
  | non=>cases ry;exact PySem.EqNone.ne_bool_none (fin_bl I q (by simp))
  | bl j=>cases ry;exact ne_bool (fin_bl I q (congrArg not dec_bl))
  | str j=>obtain ⟨t',rfl⟩:=ry;exact PySem.EqMixed.ne_bool_str (fin_bl I q (by simp))
  | _=>exact absurd (show false=true from hs) Bool.false_ne_true
 | int i=>
  obtain ⟨t,rfl⟩:=rx
  cases y with
  | non=>cases ry;exact PySem.EqNone.ne_int_none (fin_bl I q (by simp))
  | int j=>obtain ⟨t',rfl⟩:=ry;exact ne_int (fin_bl I q (congrArg not dec_int))
  | str j=>obtain ⟨t',rfl⟩:=ry;exact PySem.EqMixed.ne_int_str (fin_bl I q (by simp))
  | _=>exact absurd (show false=true from hs) Bool.false_ne_true
 | str i=>
  obtain ⟨t,rfl⟩:=rx
  cases y with
  | non=>cases ry;exact PySem.EqNone.ne_str_none (fin_bl I q (by simp))
  | bl j=>cases ry;exact PySem.EqMixed.ne_str_bool (fin_bl I q (by simp))
  | int j=>obtain ⟨t',rfl⟩:=ry;exact PySem.EqMixed.ne_str_int (fin_bl I q (by simp))
  | str j=>obtain ⟨t',rfl⟩:=ry;exact ne_str (fin_bl I q (congrArg not dec_str))
  | _=>exact absurd (show false=true from hs) Bool.false_ne_true
 | byt i=>
  obtain ⟨t,rfl⟩:=rx
  cases y with
  | byt j=>obtain ⟨t',rfl⟩:=ry;exact PySem.W.ne_bytes (fin_bl I q (congrArg not dec_byt))
  | _=>exact absurd (show false=true from hs) Bool.false_ne_true
 | _=>cases y<;>exact absurd (show false=true from hs) Bool.false_ne_true
theorem op_lt:OpR X (compareOp .Lt) (rI0 fun i j=>.bl (decide (i < j))):=opB0 fun _ _ _ _ _ _ _ q=>lt_int q
theorem op_gt:OpR X (compareOp .Gt) (rI0 fun i j=>.bl (decide (j < i))):=opB0 fun _ _ _ _ _ _ _ q=>gt_int q
theorem op_isN:OpR X (compareOp .Is) (fun x y H Q=>y=.non∧Q (.bl (decide (x=.non))) H):=by
 intro pins s σ H x y v u Q I rx ry h
 obtain ⟨rfl,q⟩:=h
 cases ry
 refine is_none_gen (fin_bl I q ?_)
 cases x<;>first
  | (cases rx;rfl)
  | (obtain ⟨t,rfl⟩:=rx;rfl)
theorem op_notN:OpR X (compareOp .IsNot) (fun x y H Q=>y=.non∧Q (.bl (!decide (x=.non))) H):=by
 intro pins s σ H x y v u Q I rx ry h
 obtain ⟨rfl,q⟩:=h
 cases ry
 refine isnot_none_gen (fin_bl I q ?_)
 cases x<;>first
  | (cases rx;rfl)
  | (obtain ⟨t,rfl⟩:=rx;rfl)
def isObj:HO→Bool
 | .lst _=>true
 | .ins _ _ _=>true
 | _=>false
theorem OpR.or {f:Value→Value→Sem Value} {r r':R2} (h:OpR X f r) (h':OpR X f r'):OpR X f (fun x y H Q=>r x y H Q∨r' x y H Q):=by
 intro pins s σ H x y v u Q I rx ry q
 rcases q with q|q
 ·exact h pins s σ H x y v u Q I rx ry q
 ·exact h' pins s σ H x y v u Q I rx ry q
theorem nomark (b:Expr) {op:CmpOp} (h:op≠.In:=by decide) (h2:op≠.NotIn:=by decide):behindInMarks op b=false:=by
 have e1:(op == CmpOp.In)=false:=by cases op<;>first|rfl|exact absurd rfl h
 have e2:(op == CmpOp.NotIn)=false:=by cases op<;>first|rfl|exact absurd rfl h2
 cases b<;>simp [behindInMarks,e1,e2]
theorem pe_cmpR {op:CmpOp} {r:R2} (ho:OpR X (compareOp op) r) (ha:PE X a ta) (hb:PE X b tb) (hm:behindInMarks op b=false):PE X (.Compare a [op] [b] pos) (tOp r ta tb):=by
 intro pins s σ H Q I h
 exact wpAny_Compare1 (binT ha hb I h fun v u s2 x y H2 I2 rx ry q=>ho pins s2 σ H2 x y v u Q I2 rx ry q) hm
def tTest (t:TE):TT:=fun σ H Q=>t σ H fun x H'=>∃k,x=.bl k∧Q k H'
theorem pt_cmpR {op:CmpOp} {r:R2} (ho:OpR X (compareOp op) r) (ha:PE X a ta) (hb:PE X b tb) (hm:behindInMarks op b=false):PT X (.Compare a [op] [b] pos) (tTest (tOp r ta tb)):=by
 intro pins s σ H Q I h
 refine wpAny_isTrue_Compare1 (thn (ha pins s σ H _ I h) fun v s1 ⟨x,H1,I1,r1,q1⟩=>thn (hb pins s1 σ H1 _ I1 q1) fun u s2 ⟨y,H2,I2,r2,q2⟩=>
  thn (ho pins s2 σ H2 x y v u _ I2 r1 r2 q2) fun c s3 ⟨z,H3,I3,r3,k,e,q3⟩=>?_) hm
 subst e
 cases r3
 exact wpAny_truthy_bool ⟨H3,I3,q3⟩
def tChain (r r':R2) (ta tb tc:TE):TE:=fun σ H Q=>ta σ H fun x H1=>tb σ H1 fun y H2=>r x y H2 fun z H3=>∃k,z=.bl k∧
 (if k=true then tc σ H3 fun w' H4=>r' y w' H4 Q else Q (.bl false) H3)
def TruV (K:PySem.W.Frag) (x:V) (H:Hp) (k:Bool):Prop:=
 match x with
 | .non=>k=false
 | .bl b=>k=b
 | .int i=>k=(i != 0)
 | .str y=>y.length≤sizeLine∧k=((y.length:Int) != 0)
 | .byt y=>y.size≤sizeLine∧k=((y.size:Int) != 0)
 | .ref p=>(∃xs,SqL K H p xs∧k = !xs.isEmpty)∨(∃xs,SqT K H p xs∧k = !xs.isEmpty)∨∃kvs,H p=some (.dK kvs)∧k = !kvs.isEmpty
 | _=>False
theorem line63:(sizeLine:Nat) < 2 ^ 63:=by rw [sizeLine_eq];decide
theorem op_add_str:OpR X (binaryOp .Add) (fun x y H Q=>∃i j,x=.str i∧y=.str j∧i.length + j.length≤sizeLine∧Q (.str (i++j)) H):=by
 intro pins s σ H x y v u Q I rx ry h
 obtain ⟨i,j,rfl,rfl,hz,q⟩:=h
 obtain ⟨t,rfl⟩:=rx
 obtain ⟨t',rfl⟩:=ry
 exact add_str (fun t' tk=>⟨.str (i++j),H,I.tok _,⟨_,rfl⟩,q⟩) hz
def PlainIxT (b:Expr):Prop:=∀o i,subscripted b false o i=operate [o,i] (getItem o i)
theorem vals1 {x:V} {us:List Value} (r:Vals [x] us) :∃u,us=[u]∧RelV x u:=by
 cases r with
 | cons r1 r2=>cases r2;exact ⟨_,rfl,r1⟩
theorem vals2 {x y:V} {us:List Value} (r:Vals [x,y] us) :∃u w',us=[u,w']∧RelV x u∧RelV y w':=by
 cases r with
 | cons r1 r2=>
  cases r2 with
  | cons r3 r4=>cases r4;exact ⟨_,_,rfl,r1,r3⟩
theorem call_max2 (hc:X.calm=true):CallR X (.builtin "max") (fun xs H Q=>∃i j,xs=[.int i,.int j]∧Q (.int (if j > i then j else i)) H):=by
 intro pins s σ H xs us Q I r h
 obtain ⟨i,j,rfl,q⟩:=h
 obtain ⟨u,w',rfl,⟨t,rfl⟩,⟨t',rfl⟩⟩:=vals2 r
 refine max_two_ints (I.ok.hd hc) fun h' tk k=>⟨_,H,I.kept k,?_,q⟩
 by_cases hj:j > i
 ·rw [if_pos hj,if_pos hj];exact ⟨_,rfl⟩
 ·rw [if_neg hj,if_neg hj];exact ⟨_,rfl⟩
theorem call_int1:CallR X (.type "int") (fun xs H Q=>(∃i,xs=[.int i]∧Q (.int i) H)∨∃k,xs=[.bl k]∧Q (.int (if k then 1 else 0)) H):=by
 intro pins s σ H xs us Q I r h
 rcases h with ⟨i,rfl,q⟩|⟨k,rfl,q⟩
 ·obtain ⟨u,rfl,t,rfl⟩:=vals1 r
  exact call_int_int ⟨.int i,H,I,⟨_,rfl⟩,q⟩
 ·obtain ⟨u,rfl,r1⟩:=vals1 r
  cases r1
  exact call_int_bool ⟨.int (if k then 1 else 0),H,I.tok _,⟨_,rfl⟩,q⟩
def LenV (K:PySem.W.Frag) (x:V) (H:Hp) (n:Nat):Prop:=
 match x with
 | .str y=>y.length≤sizeLine∧n=y.length
 | .byt y=>y.size≤sizeLine∧n=y.size
 | .ref p=>(∃xs,SqL K H p xs∧n=xs.length)∨∃xs,SqT K H p xs∧n=xs.length
 | _=>False
end
structure ObjM (h:Heap) (x dx C:Addr) (mA:Str→Option Value):Prop where
 obj:h.get? x=some (PySem.W.instObj C dx)
 ns:h.Ns1 dx mA
 ne:dx≠x
theorem lookIn_ns {h:Heap} {dx:Addr} {mA:Str→Option Value} (n:h.Ns1 dx mA) :∃od,h.get? dx=some od∧∀name,PySem.W.lookIn name od=some (mA name):=by
 obtain ⟨o,es,ep,ho,hd,hk,_,hm⟩:=n
 refine ⟨o,ho,fun name=>?_⟩
 have e:=hm name
 unfold nsFind findBy at e
 rw [←Array.find?_toList] at e
 unfold PySem.W.lookIn
 rw [hd]
 dsimp only
 split
 ·rename_i y q
  rw [q] at e
  exact congrArg some e
 ·rename_i q
  rw [q] at e
  have a:es.toList.any (·.refKey)=false:=by
   rw [List.any_eq_false]
   intro y hy
   obtain ⟨z,t,hkey⟩:=hk y (Array.mem_toList_iff.mp hy)
   simp [DictEntry.refKey,hkey]
  have a':¬ es.toList.any (·.refKey)=true:=by rw [a];exact Bool.false_ne_true
  rw [if_neg a']
  exact congrArg some e
theorem ObjM.look {h:Heap} {x dx C:Addr} {mA:Str→Option Value} (I:ObjM h x dx C mA) :∃od,PySem.W.InstAt h x (PySem.W.instObj C dx) C (some od)∧∀name,PySem.W.lookIn name od=some (mA name):=
 let ⟨od,ho,hl⟩:=lookIn_ns I.ns
 ⟨od,⟨I.obj,rfl,rfl,ho⟩,hl⟩
def putF (f:Str) (v:V):List (Str×V)→List (Str×V)
 | []=>[(f,v)]
 | (g,x) :: r=>if g=f then (g,v) :: r else (g,x) :: putF f v r
theorem RelO.some_of {v:V} {o:Option Value} (r:RelO (some v) o) :∃u,o=some u∧RelV v u:=by
 cases o with
 | none=>exact (show False from r).elim
 | some u=>exact ⟨u,rfl,r⟩
section
variable {P:Program} {w:World} {H H':Hp} {h h':Heap} {a C dx:Addr} {fs fs':List (Str×V)}
theorem ins_get (hok:HOk P w H h) (e:H a=some (.ins C dx fs)) :∃mA,ObjM h a dx C mA∧(∀f,RelO (fs.lookup f) (mA f))∧PySem.Within mA (fs.map (·.1))∧fs.length≤1000∧H dx=some (.own a):=by
 obtain ⟨d,z,ne,ob,mA,n,r,q⟩:=(show ObjOk P w H h a (.ins C dx fs) from hok a _ e)
 exact ⟨mA,⟨ob,n,ne⟩,r,q,z,d⟩
end
structure Cls (K:PySem.W.Frag) (C:Addr):Prop where
 pg:PySem.W.plainGet K C Str.empty=true
 hd:PySem.W.hasDictIn K C=true
 po:PySem.W.plainOver K C=true
 sa:PySem.W.findIn K (.ref C) "__setattr__" = some (some (.builtin "object.__setattr__"))
theorem Cls.get {K:PySem.W.Frag} {C:Addr} (c:Cls K C) (f:Str):PySem.W.plainGet K C f=true:=c.pg
def NoAttr (K:PySem.W.Frag) (C:Addr) (f:Str):Prop:=PySem.W.findIn K (.ref C) f=some none
structure Con (K:PySem.W.Frag) (C:Addr) (f:Str) (v:V) (u:Value):Prop where
 at_:PySem.W.findIn K (.ref C) f=some (some u)
 rel:RelV v u
 get:PySem.W.specialIn K u "__get__" = some none
 cp:PySem.W.copiedNames.contains f=false
structure Meth (K:PySem.W.Frag) (C:Addr) (m:Str) (f:Addr):Prop where
 at_:PySem.W.findIn K (.ref C) m=some (some (.ref f))
 fn:PySem.W.isFn K (.ref f)=true
 kp:PySem.W.keepIn K (.ref f)=true
def tFld (K:PySem.W.Frag) (ta:TE) (f:Str):TE:=fun σ H Q=>ta σ H fun x H1=>∃a C dx fs v,x=.ref a∧H1 a=some (.ins C dx fs)∧Cls K C∧NoAttr K C f∧fs.lookup f=some v∧Q v H1
def tCon (K:PySem.W.Frag) (ta:TE) (f:Str):TE:=fun σ H Q=>ta σ H fun x H1=>∃a C dx fs v u,x=.ref a∧H1 a=some (.ins C dx fs)∧Cls K C∧Con K C f v u∧fs.lookup f=none∧Q v H1
def sFld (K:PySem.W.Frag) (ta tv:TE) (f:Str):TS:=fun D σ H=>tv σ H fun y H1=>ta σ H1 fun x H2=>∃a C dx fs,x=.ref a∧H2 a=some (.ins C dx fs)∧Cls K C∧NoAttr K C f∧fs.length < 1000∧
 D.nx σ (upd H2 a (.ins C dx (putF f y fs)))
def InOp (X:Cx) (op:Operator) (rd:V→V→Hp→VK→Prop):Prop:=
 ∀(pins:List (Addr×Obj)) (s:Shared) (σ:St) (H:Hp) (x y:V) (u v:Value) (Q:VK),Inv X pins σ H s→RelV x u→RelV y v→rd x y H Q→wpAny (model X.prog X.w) X.A (inplaceOp op u v) (EP X pins σ Q) X.xe s
def sFldAug (K:PySem.W.Frag) (ta tv:TE) (rd:V→V→Hp→VK→Prop) (f:Str):TS:=fun D σ H=>ta σ H fun x H1=>∃a C dx fs v,x=.ref a∧H1 a=some (.ins C dx fs)∧Cls K C∧NoAttr K C f∧fs.lookup f=some v∧
 tv σ H1 fun y H2=>rd v y H2 fun z H3=>∃dx' fs',H3 a=some (.ins C dx' fs')∧fs'.length < 1000∧D.nx σ (upd H3 a (.ins C dx' (putF f z fs')))
section
variable {X:Cx} {o e value:Expr} {f:Str} {pos pos' tpos:Pos} {ta tv:TE}
def rAdd:V→V→Hp→VK→Prop:=fun x y H Q=>∃i j,x=.int i∧y=.int j∧Q (.int (i + j)) H
def rSub:V→V→Hp→VK→Prop:=fun x y H Q=>∃i j,x=.int i∧y=.int j∧Q (.int (i - j)) H
end
section
variable {X:Cx} {pins:List (Addr×Obj)} {σ:St} {H:Hp} {s:Shared} {A:Around} {E:Value→Shared→Prop} {Q:Value→Shared→Prop} {c:Value} {b:Bool}
inductive TyOf (K:PySem.W.Frag) (H:Hp):V→Value→Prop where
 | non:TyOf K H .non (.type "NoneType")
 | bl (x:Bool):TyOf K H (.bl x) (.type "bool")
 | int (i:Int):TyOf K H (.int i) (.type "int")
 | str (x:Str):TyOf K H (.str x) (.type "str")
 | flt (x:UInt64):TyOf K H (.flt x) (.type "float")
 | lst {a:Addr} {xs:List V} (e:H a=some (.lst xs)):TyOf K H (.ref a) (.type "list")
 | frz {a:Addr} {o:Obj} {xs:List V} (e:H a=some (.frz o (.lst xs))):TyOf K H (.ref a) (.type "list")
 | tup {a:Addr} {xs:List V} (e:H a=some (.tup xs)):TyOf K H (.ref a) (.type "tuple")
 | dK {a:Addr} {kvs:List (Key×V)} (e:H a=some (.dK kvs)):TyOf K H (.ref a) (.type "dict")
 | dT {a:Addr} {kvs:List (List Key×V)} (e:H a=some (.dT kvs)):TyOf K H (.ref a) (.type "dict")
 | ins {a C dx:Addr} {fs:List (Str×V)} (e:H a=some (.ins C dx fs)) (cl:Cls K C) (ha:PySem.W.findIn K (.ref C) "__class__" = some (some (.builtin "object.__class__")))
   (hn:PySem.W.specialIn K (.builtin "object.__class__") "__get__" = some (some (.builtin "getset_descriptor.__get__"))) (htk:PySem.W.takesIn K (.builtin "object.__class__")=some true)
   (hm:PySem.W.mroIn K C (.type "object")=some true):TyOf K H (.ref a) (.ref C)
theorem isinst_ok {x:V} {u t:Value} (I:Inv X pins σ H s) (rx:RelV x u) (ty:TyOf X.K H x t) (e:PySem.W.kitOne X.K t c=some b) (h :∀tk,Q (.bool b) { s with toks:=tk }) :
  wpAny (model X.prog X.w) A (call (.builtin "isinstance") [u,c]) Q E s:=by
 cases ty with
 | non=>cases (show u=Value.none from rx);exact PySem.W.kia_one PySem.W.kitx_none I.kIn True.intro e (fun z=>nomatch z) h
 | bl y=>cases (show u=Value.bool y from rx);exact PySem.W.kia_one PySem.W.kitx_bool I.kIn True.intro e (fun z=>nomatch z) h
 | int i=>obtain ⟨t,q⟩:=(show∃t,u=Value.int i t from rx);cases q;exact PySem.W.kia_one PySem.W.kitx_int I.kIn True.intro e (fun z=>nomatch z) h
 | str y=>obtain ⟨t,q⟩:=(show∃t,u=Value.str y t from rx);cases q;exact PySem.W.kia_one PySem.W.kitx_str I.kIn True.intro e (fun z=>nomatch z) h
 | flt y=>obtain ⟨t,q⟩:=(show∃t,u=Value.float y t from rx);cases q;exact PySem.W.kia_one PySem.W.kitx_float I.kIn True.intro e (fun z=>nomatch z) h
 | @lst a xs ea=>
  cases (show u=Value.ref a from rx)
  obtain ⟨_,_,n,_,h1⟩:=(show ObjOk X.prog X.w H s.heap a (.lst xs) from I.hok a _ ea)
  exact PySem.W.kia_one PySem.W.kitx_list I.kIn ⟨_,h1,rfl⟩ e (fun z=>nomatch z) h
 | @frz a ob xs ea=>
  cases (show u=Value.ref a from rx)
  obtain ⟨_,_,_,n,_,h1⟩:=(show ObjOk X.prog X.w H s.heap a (.frz ob (.lst xs)) from I.hok a _ ea)
  exact PySem.W.kia_one PySem.W.kitx_list I.kIn ⟨_,h1,rfl⟩ e (fun z=>nomatch z) h
 | @tup a xs ea=>
  cases (show u=Value.ref a from rx)
  obtain ⟨_,_,_,p,_⟩:=(show ObjOk X.prog X.w H s.heap a (.tup xs) from I.hok a _ ea)
  obtain ⟨o,h1,h2,_⟩:=p
  exact PySem.W.kia_one PySem.W.kitx_tuple I.kIn ⟨o,h1,h2⟩ e (fun z=>nomatch z) h
 | @dK a kvs ea=>
  cases (show u=Value.ref a from rx)
  obtain ⟨_,_,vs,_,p⟩:=(show ObjOk X.prog X.w H s.heap a (.dK kvs) from I.hok a _ ea)
  obtain ⟨o,es,ep,h1,h2,_⟩:=p
  exact PySem.W.kia_one PySem.W.kitx_dict I.kIn ⟨o,h1,h2.1⟩ e (fun z=>nomatch z) h
 | @dT a kvs ea=>
  cases (show u=Value.ref a from rx)
  obtain ⟨_,_,xs,_,o,es,ep,h1,h2,_⟩:=(show ObjOk X.prog X.w H s.heap a (.dT kvs) from I.hok a _ ea)
  exact PySem.W.kia_one PySem.W.kitx_dict I.kIn ⟨o,h1,h2.1⟩ e (fun z=>nomatch z) h
 | @ins a C dx fs ea cl ha hn htk hm=>
  cases (show u=Value.ref a from rx)
  obtain ⟨mA,O,_⟩:=ins_get I.hok ea
  obtain ⟨od,J,_⟩:=O.look
  exact PySem.W.kia_one (PySem.W.kitx_own (cl.get _) cl.hd ha hn htk hm) I.kIn J e (fun z=>nomatch z) h
end
structure Room (k:Nat) (A:Around):Prop where
 hd:A.handled=none
 dp:A.depth + 3 * k + 5 < recursionLimit
 un:A.units + 16 * k + 200 < cLine
theorem Room.mono {j k:Nat} {A:Around} (r:Room k A) (h:j≤k):Room j A:=⟨r.hd,by have:=r.dp;omega,by have:=r.un;omega⟩
theorem Room.deeper {k:Nat} {A:Around} (r:Room (k + 1) A) (env:Env):Room k (A.deeper env):=
 ⟨r.hd,by have:=r.dp;show A.depth + 1 + 3 * k + 5 < _;omega,by have:=r.un;show A.units + 3 + 16 * k + 200 < _;omega⟩
theorem Room.depth {k:Nat} {A:Around} (r:Room k A):A.depth < recursionLimit:=by have:=r.dp;omega
theorem Room.units {k:Nat} {A:Around} (r:Room k A):A.units + 64 < cLine:=by have:=r.un;omega
def tNil:TA:=fun _ H Q=>Q [] H
def tCons (ta:TE) (tr:TA):TA:=fun σ H Q=>ta σ H fun x H1=>tr σ H1 fun xs H2=>Q (x :: xs) H2
section
variable {X:Cx} {e:Expr} {es:List Expr} {te:TE} {t:TA} {pos:Pos}
theorem pa_nil:PA X [] tNil:=fun _ _ _ _ H Q I h=>Calls.spliced_nil ⟨[],H,I,.nil,h⟩
theorem pa_cons (ha:PE X e te) (hr:PA X es t) (hs:starEach (e :: es) X.env=(false,eval e X.env) :: starEach es X.env:=by rfl):PA X (e :: es) (tCons te t):=by
 intro pos pins s σ H Q I h
 rw [hs]
 show wpAny _ _ (spliced ((false,eval e X.env) :: backTo pos (starEach es X.env))) _ _ s
 refine Calls.spliced_cons (thn (ha pins s σ H _ I h) fun u s1 ⟨x,H1,I1,r1,q1⟩=>?_)
 exact thn (hr pos pins s1 σ H1 _ I1 q1) fun us s2 ⟨xs,H2,I2,r2,q2⟩=>⟨x :: xs,H2,I2,.cons r1 r2,q2⟩
def tTup (t:TA):TE:=fun σ H Q=>t σ H fun xs H1=>xs.length≤sizeLine∧∀p,H1 p=none→Q (.ref p) (upd H1 p (.tup xs))
def tLst (t:TA):TE:=fun σ H Q=>t σ H fun xs H1=>xs.length≤sizeLine∧∀p,H1 p=none→Q (.ref p) (upd H1 p (.lst xs))
theorem pe_tup {x1} (h:PA X es t):PE X (.Tuple es x1 pos) (tTup t):=by
 intro pins s σ H Q I hq
 refine wpAny_Tuple_spliced (thn (h pos pins s σ H _ I hq) fun us s1 ⟨xs,H1,I1,r,z,q⟩=>⟨by rw [←r.length];exact z,?_⟩)
 have hf:H1 s1.heap.objs.size=none:=I1.hok.fresh (Nat.le_refl _)
 refine ⟨.ref s1.heap.objs.size,upd H1 s1.heap.objs.size (.tup xs),I1.laid (t':=s1.toks) (fun b u e=>Heap.get?_push_of_some _ e) (Nat.le_refl _) ?_,rfl,q _ hf⟩
 exact ⟨z,us,r,IsTupN.new _ _⟩
theorem pe_lst (h:PA X es t):PE X (.List es pos) (tLst t):=by
 intro pins s σ H Q I hq
 refine wpAny_List_spliced (thn (h pos pins s σ H _ I hq) fun us s1 ⟨xs,H1,I1,r,z,q⟩=>⟨by rw [←r.length];exact z,?_⟩)
 have hf:H1 s1.heap.objs.size=none:=I1.hok.fresh (Nat.le_refl _)
 refine ⟨.ref s1.heap.objs.size,upd H1 s1.heap.objs.size (.lst xs),I1.laid (t':=s1.toks) (fun b u e=>Heap.get?_push_of_some _ e) (Nat.le_refl _) ?_,rfl,q _ hf⟩
 exact ⟨z,us,0,r,Heap.get?_push_size _ rfl⟩
end
abbrev Sp:=List V→Hp→VK→XK→Prop
abbrev CXT:=List Env→Hp→Shared→XK→Value→Shared→Prop
structure Env0 (P:Program) (w:World) (K:PySem.W.Frag) (mg:Str→Option Value) (base:Heap) (A:Around) (outer:List Env) (s:Shared) (H:Hp):Prop where
 frames:A.frames=some outer
 mod:Mod K mg base
 bs :∀b o,base.get? b=some o→s.heap.get? b=some o∧H b=none
 bsz:base.objs.size≤s.heap.objs.size
 funs:s.heap.FunFrames base outer
 frf :∀b∈frs outer,H b=none
 hok:HOk P w H s.heap
 bare:AllBare s.gens
def CE (outer:List Env) (P:Program) (w:World) (H:Hp) (s:Shared) (Q:VK) (u:Value) (s':Shared):Prop:=
 ∃v H',s'.os=s.os∧AllBare s'.gens∧Un (frs outer) [] H H' s.heap s'.heap∧HOk P w H' s'.heap∧RelV v u∧Q v H'
def CR (CX:CXT) (outer:List Env) (P:Program) (w:World) (H:Hp) (s:Shared) (Q:VK) (E:XK) (r:Result) (s':Shared):Prop:=
 match r with
 | .ok (.ret u)=>CE outer P w H s Q u s'
 | .ok _=>False
 | .error e=>CX outer H s E e s'
structure FnOk (P:Program) (w:World) (K:PySem.W.Frag) (mg:Str→Option Value) (base:Heap) (CX:CXT) (k:Nat) (f:Addr) (fd:FuncData) (ps:List Str) (sp:Sp):Prop where
 len :∀vs H Q E,sp vs H Q E→vs.length=ps.length
 run :∀(A:Around) (outer:List Env) (s:Shared) (H:Hp) (args:Args) (us:List Value) (vs:List V) (Q:VK) (E:XK),Room k A→Env0 P w K mg base A outer s H→BindsTo s fd args (ps.zip us)→Vals vs us→sp vs H Q E→
  codeAny (model P w) A (.call (.ref f) args) (CR CX outer P w H s Q E) s
section
variable {X:Cx} {pins:List (Addr×Obj)} {σ:St} {H:Hp} {s s':Shared}
theorem Inv.env0 (I:Inv X pins σ H s):Env0 X.prog X.w X.K X.mg X.base X.A X.stack s H:=
 ⟨I.ok.frames,I.ok.mod,I.bs,Nat.le_trans I.ok.bsz I.sz,I.stack,I.stkFree,I.hok,I.bare⟩
theorem Inv.after {Q:VK} {u:Value} (I:Inv X pins σ H s) (h:CE X.stack X.prog X.w H s Q u s'):EP X pins σ Q u s':=by
 obtain ⟨v,H',os,bare,un,hok,r,q⟩:=h
 obtain ⟨hh,g,d,t,os'⟩:=s'
 obtain rfl:os'=s.os:=os
 exact ⟨v,H',I.call (h':=hh) (g':=g) (d':=d) (t':=t) (ch:=[]) un hok bare (fun b z=>absurd z (by simp)),r,q⟩
end
def tCall (sp:Sp) (dvs:List V) (E:XK) (t:TA):TE:=fun σ H Q=>t σ H fun vs H1=>sp (vs++dvs) H1 Q E
def tMeth (C:Addr) (m:Str) (sp:Sp) (dvs:List V) (E:XK) (ta:TE) (t:TA):TE:=fun σ H Q=>ta σ H fun x H1=>∃a dx fs,x=.ref a∧H1 a=some (.ins C dx fs)∧fs.lookup m=none∧
 t σ H1 fun vs H2=>sp (x :: (vs++dvs)) H2 Q E
def tMake (C:Addr) (sp:Sp) (dvs:List V) (E:XK) (t:TA):TE:=fun σ H Q=>t σ H fun vs H1=>∀x dx,H1 x=none→H1 dx=none→dx≠x→
 sp (.ref x :: (vs++dvs)) (upd (upd H1 dx (.own x)) x (.ins C dx [])) (fun v H2=>v=.non∧Q (.ref x) H2) E
def Binds (K:PySem.W.Frag) (fd:FuncData) (ps:List Str) (ds:List Value):Prop:=
 ∀(s:Shared) (us:List Value),K.In s.heap→(us++ds).length=ps.length→BindsTo s fd ⟨us,[]⟩ (ps.zip (us++ds))
theorem Binds.all {K:PySem.W.Frag} {fd:FuncData} {ps:List Str} (h :∀us:List Value,us.length=ps.length→bindArgs fd ⟨us,[]⟩=pure (ps.zip us)):Binds K fd ps []:=fun s us _ hl=>by
 rw [List.append_nil] at hl⊢
 exact .of_eq (h us hl)
def Passes (CX:CXT) (X:Cx) (E:XK):Prop:=∀(pins:List (Addr×Obj)) (σ:St) (H:Hp) (s:Shared) (e:Value) (s':Shared),Inv X pins σ H s→CX X.stack H s E e s'→X.xe e s'
section
variable {X:Cx} {CX:CXT} {k:Nat} {f C:Addr} {fd:FuncData} {ps:List Str} {sp:Sp} {dvs:List V} {ds:List Value} {E:XK} {x m:Str} {p pos apos:Pos} {e o:Expr} {es:List Expr} {ta:TE} {t:TA}
theorem run_fn {pins:List (Addr×Obj)} {σ:St} {H:Hp} {s:Shared} {Q:VK} {us:List Value} {vs:List V} (F:FnOk X.prog X.w X.K X.mg X.base CX k f fd ps sp) (hr:Room k X.A) (hb:Binds X.K fd ps ds) (hd:Vals dvs ds) (hx:Passes CX X E)
  (I:Inv X pins σ H s) (r:Vals vs us) (h:sp (vs++dvs) H Q E):wpAny (model X.prog X.w) X.A (call (.ref f) us) (EP X pins σ Q) X.xe s:=by
 have r2:Vals (vs++dvs) (us++ds):=r.append hd
 have hl:(us++ds).length=ps.length:=by rw [←r2.length];exact F.len _ _ _ _ h
 refine wpAny_call (codeAny_mono (F.run X.A X.stack s H ⟨us,[]⟩ (us++ds) (vs++dvs) Q E hr I.env0 (hb s us I.kIn hl) r2 h) fun r s' hq=>?_)
 cases r with
 | error e=>exact hx pins σ H s e s' I hq
 | ok fl=>
  cases fl with
  | ret u=>exact I.after hq
  | next=>exact False.elim hq
  | brk=>exact False.elim hq
  | cont=>exact False.elim hq
theorem pe_call (F:FnOk X.prog X.w X.K X.mg X.base CX k f fd ps sp) (hr:Room k X.A) (hg:Gl X x) (hm:X.mg x=some (.ref f)) (hk:PySem.W.keepIn X.K (.ref f)=true) (hb:Binds X.K fd ps ds) (hd:Vals dvs ds) (hx:Passes CX X E)
  (ha:PA X (e :: es) t) (hdb:(x == ("__debug__" : Str))=false:=by decide) (he:starEach (e :: es) X.env=(false,eval e X.env) :: starEach es X.env:=by rfl) (hpl:(backTo pos (starEach es X.env)).any (·.1)=false:=by rfl) :
  PE X (.Call (.Name x p) (e :: es) [] pos) (tCall sp dvs E t):=by
 intro pins s σ H Q I h
 refine wpAny_Call_Name_kw (ld_glob I hg hm ?_ hdb)
 refine PySem.W.callWith_K (h₀:=X.base) I.ok.mod.kin hk (thn (ha pos pins s σ H _ I h) fun us s1 ⟨vs,H1,I1,r,q⟩=>⟨I1.kIn,?_⟩) he hpl
 exact run_fn F hr hb hd hx I1 r q
structure Mk (K:PySem.W.Frag) (C f:Addr):Prop where
 makes:PySem.W.makesIn K C=true
 init:PySem.W.findIn K (.ref C) "__init__" = some (some (.ref f))
 fn:PySem.W.isFn K (.ref f)=true
 kp:PySem.W.keepIn K (.ref C)=true
end
def PK (X:Cx) (kws:List Keyword) (t:TA):Prop:=
 ∀(pos:Pos) (pins:List (Addr×Obj)) (s:Shared) (σ:St) (H:Hp) (Q:List V→Hp→Prop),Inv X pins σ H s→t σ H Q→wpAny (model X.prog X.w) X.A (evalAll ((backToKw pos (keywordEach kws X.env)).map (·.2))) (AP X pins σ Q) X.xe s
section
variable {X:Cx} {CX:CXT} {k:Nat} {f C:Addr} {fd:FuncData} {ps ks:List Str} {sp:Sp} {E:XK} {x m:Str} {p pos apos kpos:Pos} {e o:Expr} {es:List Expr} {kws:List Keyword} {te ta:TE} {t tk:TA} {nm:Option Str}
structure KBinds (K:PySem.W.Frag) (fd:FuncData) (ps ks:List Str) (g:List Value→List Value→List Value) (gV:List V→List V→List V):Prop where
 to :∀(s:Shared) (us ws:List Value),K.In s.heap→(g us ws).length=ps.length→BindsTo s fd ⟨us,ks.zip ws⟩ (ps.zip (g us ws))
 rel :∀{vs:List V} {us:List Value} {zs:List V} {ws:List Value},Vals vs us→Vals zs ws→Vals (gV vs zs) (g us ws)
def tCallK (sp:Sp) (gV:List V→List V→List V) (E:XK) (t tk:TA):TE:=fun σ H Q=>t σ H fun vs H1=>tk σ H1 fun zs H2=>sp (gV vs zs) H2 Q E
variable {g:List Value→List Value→List Value} {gV:List V→List V→List V}
end
structure FnScope (N P:List Str) (sc:Scope):Prop where
 kind:sc.kind=.function
 co:sc.isCoroutine=false
 gen:sc.isGenerator=false
 nd:N.Nodup
 pre:N.take P.length=P
 par :∀x∈P,sc.names.lookup x=some .local∨sc.names.lookup x=some .cell
 nofree :∀y∈sc.names,y.2≠.free
theorem bindL_out {kindOf:Str→Option NameKind} {x:Str} :∀{binds:List (Str×Value)} {m:Str→Option Value},(∀v,(x,v)∉binds)→bindL kindOf binds m x=m x
 | [],_,_=>rfl
 | (n,v) :: r,m,h=>by
  unfold bindL
  rw [bindL_out fun w hw=>h w (List.mem_cons_of_mem _ hw)]
  split
  ·have:x≠n:=by rintro rfl;exact h v List.mem_cons_self
   simp [this]
  ·rfl
theorem bindC_out {kindOf:Str→Option NameKind} {x:Str} :∀{binds:List (Str×Value)} {m:Str→Option Value},(∀v,(x,v)∉binds)→bindC kindOf binds m x=m x
 | [],_,_=>rfl
 | (n,v) :: r,m,h=>by
  unfold bindC
  rw [bindC_out fun w hw=>h w (List.mem_cons_of_mem _ hw)]
  split
  ·rfl
  ·have:x≠n:=by rintro rfl;exact h v List.mem_cons_self
   simp [this]
theorem bindL_get {kindOf:Str→Option NameKind} {x:Str} {v:Value} :∀{P:List Str} {vs:List Value} {i:Nat} {m:Str→Option Value},P.Nodup→P[i]? = some x→vs[i]? = some v→kindOf x=some .local→
  bindL kindOf (P.zip vs) m x=some v
 | [],_,_,_,_,h,_,_=>by simp at h
 | _ :: _,[],_,_,_,_,h,_=>by simp at h
 | p :: P,w :: vs,0,m,nd,h1,h2,hk=>by
  simp at h1 h2;subst h1;subst h2
  show bindL kindOf ((p,w) :: P.zip vs) m p=_
  unfold bindL
  rw [bindL_out fun v hv=>(List.nodup_cons.mp nd).1 (List.of_mem_zip hv).1,if_pos hk]
  simp
 | p :: P,w :: vs,i + 1,m,nd,h1,h2,hk=>by
  show bindL kindOf ((p,w) :: P.zip vs) m x=_
  unfold bindL
  exact bindL_get (i:=i) (List.nodup_cons.mp nd).2 (by simpa using h1) (by simpa using h2) hk
theorem bindC_get {kindOf:Str→Option NameKind} {x:Str} {v:Value} :∀{P:List Str} {vs:List Value} {i:Nat} {m:Str→Option Value},P.Nodup→P[i]? = some x→vs[i]? = some v→kindOf x≠some .local→
  bindC kindOf (P.zip vs) m x=some v
 | [],_,_,_,_,h,_,_=>by simp at h
 | _ :: _,[],_,_,_,_,h,_=>by simp at h
 | p :: P,w :: vs,0,m,nd,h1,h2,hk=>by
  simp at h1 h2;subst h1;subst h2
  show bindC kindOf ((p,w) :: P.zip vs) m p=_
  unfold bindC
  rw [bindC_out fun v hv=>(List.nodup_cons.mp nd).1 (List.of_mem_zip hv).1,if_neg hk]
  simp
 | p :: P,w :: vs,i + 1,m,nd,h1,h2,hk=>by
  show bindC kindOf ((p,w) :: P.zip vs) m x=_
  unfold bindC
  exact bindC_get (i:=i) (List.nodup_cons.mp nd).2 (by simpa using h1) (by simpa using h2) hk
def start (N:List Str) (vs:List V):St:=vs.map some++List.replicate (N.length - vs.length) none
def cxOf (CX:CXT) (P:Program) (w:World) (K:PySem.W.Frag) (mg:Str→Option Value) (base:Heap) (N:List Str) (qual:Str) (scope:Scope) (f:Addr) (cd:Value) (A:Around) (outer:List Env) (s:Shared) (H:Hp) (E:XK):Cx where
 prog:=P
 w:=w
 K:=K
 mg:=mg
 base:=base
 A:=A.deeper (envOfC qual scope s.heap.objs.size f cd)
 N:=N
 s₀:=s
 H₀:=H
 env:=envOfC qual scope s.heap.objs.size f cd
 outer:=outer
 stack:=envOfC qual scope s.heap.objs.size f cd :: outer
 ex:=[]
 calm:=true
 fn:=fun _=>true
 pn:=[]
 xe:=fun e s'=>wpAny (model P w) (A.deeper (envOfC qual scope s.heap.objs.size f cd)) («leaving» (envOfC qual scope s.heap.objs.size f cd) e) (fun _ s''=>CX outer H s E e s'') (fun e' s''=>CX outer H s E e' s'') s'
theorem cell_has {sc:Scope} {n:Nat} {x:Str} (h:sc.names.lookup x=some .cell) :∃c,(cellsFrom n sc.names []).lookup x=some c:=by
 have q:=PySem.W.cellsFrom_some sc.names n [] (.inl h)
 exact Option.isSome_iff_exists.mp q
theorem inv_start {CX:CXT} {P:Program} {w:World} {K:PySem.W.Frag} {mg:Str→Option Value} {base:Heap} {N ps:List Str} {qual:Str} {scope:Scope} {f:Addr} {cd:Value} {A:Around} {outer:List Env} {s s1:Shared} {H:Hp} {E:XK} {us:List Value} {vs:List V}
  (S:FnScope N ps scope) (hd:A.handled=none) (e0:Env0 P w K mg base A outer s H) (hl:vs.length=ps.length) (r:Vals vs us)
  (x:InCallC s s.heap.objs.size (bindL (envOfC qual scope s.heap.objs.size f cd).kindOf (ps.zip us) fun _=>none) (cellsFrom (s.heap.objs.size + 1) scope.names []) (bindC (envOfC qual scope s.heap.objs.size f cd).kindOf (ps.zip us) fun _=>none) s1) :
  Inv (cxOf CX P w K mg base N qual scope f cd A outer s H E) [] (start N vs) H s1:=by
 have hpl:ps.length≤N.length:=by have:=congrArg List.length S.pre;rw [List.length_take] at this;omega
 obtain ⟨h1,tk,rfl,hk⟩:=x.done
 have noA :∀b:Addr,b∉(cxOf CX P w K mg base N qual scope f cd A outer s H E).ex:=fun b z=>absurd (show b∈([]:List Addr) from z) (by simp)
 refine ⟨⟨e0.mod,S.kind,rfl,rfl,Nat.le_refl _,fun y z c h1 h2=>?_,fun y hy=>?_,fun y c _ h=>?_,fun _=>hd,Around.frames_deeper e0.frames,.inr ⟨rfl,rfl⟩,fun b z=>absurd z (noA b),e0.bs,e0.bsz,fun b _ _=>noA b,fun b z=>absurd z (noA b),e0.funs,e0.frf⟩,
  rfl,e0.bare,Un.kept hk,⟨_,x.toInCall.ns,fun i y v h1 h2 h3=>?_⟩,fun y c h=>⟨_,x.cell y c h⟩,e0.hok.fresh (Nat.le_refl _),fun y c h=>?_,fun p hp=>absurd (show p∈([]:List (Addr×Obj)) from hp) (by simp),e0.hok.kept hk,?_⟩
 ·exact name_of_addr x.apart (PySem.mem_of_lookup h1) (PySem.mem_of_lookup h2)
 ·have hy:scope.names.lookup y=some .cell∨scope.names.lookup y=some .free:=hy
  rcases hy with hy|hy
  ·exact cell_has hy
  ·exact absurd rfl (S.nofree _ (PySem.mem_of_lookup hy))
 ·exact Nat.le_of_lt (x.above y c (PySem.mem_of_lookup h))
 ·have hi:i < vs.length:=by
   unfold start at h2
   by_cases hi:i < vs.length
   ·exact hi
   ·rw [List.getElem?_append_right (by simpa using hi)] at h2
    rw [List.getElem?_replicate] at h2
    split at h2<;>cases h2
  have ha:vs[i]? = some v:=by
   unfold start at h2
   rw [List.getElem?_append_left (by simpa using hi),List.getElem?_map] at h2
   cases e:vs[i]? with
   | none=>rw [e] at h2;cases h2
   | some a=>rw [e] at h2;cases h2;rfl
  obtain ⟨u,hu,rv⟩:=r.get ha
  have hp:ps[i]? = some y:=by
   rw [←S.pre,List.getElem?_take_of_lt (by omega)];exact h1
  have ndP:ps.Nodup:=by rw [←S.pre];exact S.nd.sublist (List.take_sublist _ _)
  refine ⟨u,rv,?_⟩
  rcases S.par y (List.mem_of_getElem? hp) with k|k
  ·exact .inl ⟨k,bindL_get ndP hp hu k⟩
  ·obtain ⟨c,e⟩:=cell_has (n:=s.heap.objs.size + 1) k
   refine .inr ⟨.inl k,c,e,?_⟩
   have q:=x.cell y c e
   rw [bindC_get ndP hp hu (by show scope.names.lookup y≠_;rw [k];decide)] at q
   exact q
 ·exact e0.hok.fresh (Nat.le_of_lt (x.above y c (PySem.mem_of_lookup h)))
 ·unfold start
  show _=N.length
  rw [List.length_append,List.length_map,List.length_replicate]
  omega
theorem fn_of {CX:CXT} {P:Program} {w:World} {K:PySem.W.Frag} {mg:Str→Option Value} {base:Heap} {k:Nat} {f:Addr} {name qual:Str} {params:Arguments} {body:List Stmt} {scope:Scope} {dV kV doc pm cdv ct oc:Value} {an od:Option Addr}
  {osl:Array (Option Value)} {N ps:List Str} {sp:Sp} (lk:K.lookup f=some ⟨oc,od,.func (PySem.W.fnOf name qual params body scope dV kV doc pm an cdv ct),osl⟩) (hcd:PySem.W.codeIn K cdv qual=true) (S:FnScope N ps scope)
  (len :∀vs H Q E,sp vs H Q E→vs.length=ps.length)
  (hbody :∀(A:Around) (outer:List Env) (s:Shared) (H:Hp) (vs:List V) (Q:VK) (E:XK),Room k (A.deeper (envOfC qual scope s.heap.objs.size f cdv))→sp vs H Q E→
   ∃t,PSs (cxOf CX P w K mg base N qual scope f cdv A outer s H E) body t∧t { nx:=fun _ H'=>Q .non H',rt:=Q } (start N vs) H) :
  FnOk P w K mg base CX (k + 1) f (PySem.W.fnOf name qual params body scope dV kV doc pm an cdv ct) ps sp:=by
 refine ⟨len,fun A outer s H args us vs Q E hr e0 hb r hsp=>?_⟩
 have hl:=len _ _ _ _ hsp
 have KX:K.In s.heap:=e0.mod.kin.keeps fun b o e=>(e0.bs b o e).1
 have lim:s.heap.NoLimit:=e0.mod.nolimit.keeps fun b o e=>(e0.bs b o e).1
 have hkind :∀y∈ps.zip us,scope.names.lookup y.1=some .local∨(scope.names.lookup y.1=some .cell∧((cellsFrom (s.heap.objs.size + 1) scope.names []).lookup y.1).isSome=true):=fun ⟨n,v⟩ hy=>by
  rcases S.par n (List.of_mem_zip hy).1 with q|q
  ·exact .inl q
  ·exact .inr ⟨q,PySem.W.cellsFrom_some _ _ _ (.inl q)⟩
 refine codeAny_call_function hr.depth (KX _ _ lk) rfl S.co S.gen rfl (PySem.W.codeRec_of KX hcd) (hb _ _ _ _ ?_)
 refine wpAny_newFunctionEnv_cells S.kind hkind fun env he s1 x=>?_
 subst he
 refine ⟨lim.keeps x.toInCall.keep,codeAny_func ?_⟩
 obtain ⟨t,ht,hq⟩:=hbody A outer s H vs Q E (hr.deeper _) hsp
 have I:Inv (cxOf CX P w K mg base N qual scope f cdv A outer s H E) [] (start N vs) H s1:=inv_start S hr.hd e0 hl r x
 refine wpAny_mono (ht [] s1 (start N vs) H _ I hq) (fun fl s' hs=>?_) fun e s' hs=>hs
 have fin :∀{σ':St} {H':Hp} {v:V} {u:Value},Inv (cxOf CX P w K mg base N qual scope f cdv A outer s H E) [] σ' H' s'→RelV v u→Q v H'→CE outer P w H s Q u s':=
  fun {σ' H' v u} J rv q=>⟨v,H',J.os,J.bare,J.base,J.hok,rv,q⟩
 cases fl with
 | ret u=>
  obtain ⟨v,σ',H',J,rv,q⟩:=hs
  exact fin J rv q
 | next=>
  obtain ⟨σ',H',J,q⟩:=hs
  exact fin (v:=V.non) (u:=Value.none) J rfl q
 | brk=>
  obtain ⟨_,_,_,q⟩:=hs
  exact False.elim q
 | cont=>
  obtain ⟨_,_,_,q⟩:=hs
  exact False.elim q
section
variable {X:Cx} {x:Str} {p pos:Pos} {e:Expr} {es:List Expr} {t:TA} {id T:String} {r:List V→Hp→VK→Prop}
def tCB (r:List V→Hp→VK→Prop) (t:TA):TE:=fun σ H Q=>t σ H fun vs H1=>r vs H1 Q
theorem pe_callB (hc:CallR X (.builtin id) r) (hg:Gl X x) (hm:X.mg x=none) (hv:bootBuiltins x=some (.builtin id)) (ha:PA X (e :: es) t) (hn:x≠"__name__":=by decide) (hdb:(x == ("__debug__" : Str))=false:=by decide)
  (he:starEach (e :: es) X.env=(false,eval e X.env) :: starEach es X.env:=by rfl) (hpl:(backTo pos (starEach es X.env)).any (·.1)=false:=by rfl):PE X (.Call (.Name x p) (e :: es) [] pos) (tCB r t):=by
 intro pins s σ H Q I h
 refine wpAny_Call_Name_kw (ld_blt I hg hm hv ?_ hn hdb)
 exact PyProof.Rows.callWith_builtin1 (thn (ha pos pins s σ H _ I h) fun us s1 ⟨vs,H1,I1,r1,q1⟩=>hc pins s1 σ H1 vs us Q I1 r1 q1) he hpl
theorem pe_callTy (hc:CallR X (.type T) r) (hg:Gl X x) (hm:X.mg x=none) (hv:bootBuiltins x=some (.type T)) (ha:PA X (e :: es) t) (hn:x≠"__name__":=by decide) (hdb:(x == ("__debug__" : Str))=false:=by decide)
  (he:starEach (e :: es) X.env=(false,eval e X.env) :: starEach es X.env:=by rfl) (hpl:(backTo pos (starEach es X.env)).any (·.1)=false:=by rfl):PE X (.Call (.Name x p) (e :: es) [] pos) (tCB r t):=by
 intro pins s σ H Q I h
 refine wpAny_Call_Name_kw (ld_blt I hg hm hv ?_ hn hdb)
 exact PyProof.Rows.callWith_type1 (thn (ha pos pins s σ H _ I h) fun us s1 ⟨vs,H1,I1,r1,q1⟩=>hc pins s1 σ H1 vs us Q I1 r1 q1) he hpl
end
end L2
namespace HT
open PySem PyProof.Rows
def lexLt:List Int→List Int→Bool
 | [],[]=>false
 | [],_ :: _=>true
 | _ :: _,[]=>false
 | x :: xs,y :: ys=>if x=y then lexLt xs ys else decide (x < y)
section
variable {prog:Program} {w:World} {A:Around} {E:Value→Shared→Prop} {s:Shared}
theorem cat_tup {t b:Addr} {vs ws:List Value} {Q:Value→Shared→Prop} (ht:IsTup s.heap t vs.toArray) (hb:IsTup s.heap b ws.toArray) (hv:vs≠[])
  (h1:ws=[]→Q (.ref t) s) (h2:ws≠[]→Q (.ref s.heap.objs.size) { s with heap:=s.heap.push { cls:=.type "tuple",data:=.seq (vs++ws).toArray } })
  (hsz:vs.length + ws.length≤sizeLine):wpAny (model prog w) A (binaryOp .Add (.ref t) (.ref b)) Q E s:=by
 obtain ⟨⟨cls,dd,data,sl⟩,ho,hc,n,hd⟩:=id ht
 obtain ⟨⟨cls2,dd2,data2,sl2⟩,ho2,hc2,n2,hd2⟩:=id hb
 simp only at hc hd hc2 hd2
 subst hc hd hc2 hd2
 have e:vs.toArray++ws.toArray=(vs++ws).toArray:=by simp
 by_cases hw:ws=[]
 ·exact concat_meets ⟨_,ho,rfl⟩ ⟨_,ho2,rfl⟩ noFill_tuple_add seq_tuple_add PySem.F.slot_tuple_add PySem.F.entry_tuple_add (PySem.F.args_tuple_add_2 _ _)
   (tuple_addW1 t b vs.toArray ws.toArray n n2 dd dd2 sl sl2 (by simpa using hv) (by simp [hw])) ⟨ho,ho2,h1 hw⟩
 ·refine concat_meets ⟨_,ho,rfl⟩ ⟨_,ho2,rfl⟩ noFill_tuple_add seq_tuple_add PySem.F.slot_tuple_add PySem.F.entry_tuple_add (PySem.F.args_tuple_add_2 _ _)
   (tuple_addW2 t b vs.toArray ws.toArray n n2 dd dd2 sl sl2 (by simpa using hv) (by simpa using hw) (by rw [List.size_toArray,List.size_toArray];exact hsz)) ⟨ho,ho2,?_⟩
  rw [e]
  exact h2 hw
def sIx (n d:Nat):Option Int→Nat
 | none=>d
 | some v=>if v < 0 then (v + (n:Int)).toNat else min v.toNat n
theorem sIx_none (n d:Nat):sIx n d none=d:=rfl
theorem sIx_nat (n d k:Nat):sIx n d (some (k:Int))=min k n:=by
 show (if (k:Int) < 0 then ((k:Int) + (n:Int)).toNat else min (k:Int).toNat n)=min k n
 rw [if_neg (by omega),Int.toNat_natCast]
theorem sIx_le (n d:Nat) (hd:d≤n) (o:Option Int):sIx n d o≤n:=by
 cases o with
 | none=>exact hd
 | some v=>
  show (if v < 0 then (v + (n:Int)).toNat else min v.toNat n)≤n
  by_cases hv:v < 0
  ·rw [if_pos hv];omega
  ·rw [if_neg hv];exact Nat.min_le_right _ _
theorem clip_eq (v:Int) (n d:Nat):(if v < 0 then max (v + (n:Int)) 0 else min v (n:Int))=((sIx n d (some v):Nat):Int):=by
 show (if v < 0 then max (v + (n:Int)) 0 else min v (n:Int))=(((if v < 0 then (v + (n:Int)).toNat else min v.toNat n):Nat):Int)
 by_cases hv:v < 0
 ·simp only [if_pos hv];omega
 ·simp only [if_neg hv];omega
theorem adjust_gen (lo hi:Option Int) (n:Nat):Builtin.Slice.sliceAdjust lo hi 1 (n:Int)=(((sIx n 0 lo:Nat):Int),((sIx n n hi:Nat):Int)):=by
 have h1:¬ ((1:Int) < 0):=by omega
 unfold Builtin.Slice.sliceAdjust
 simp only [h1,if_false]
 refine Prod.ext ?_ ?_
 ·cases lo with
  | none=>rfl
  | some v=>exact clip_eq v n 0
 ·cases hi with
  | none=>rfl
  | some v=>exact clip_eq v n n
theorem places_gen (i j:Nat):Builtin.Slice.slicePlaces (i:Int) (j:Int) 1=j - i:=by
 unfold Builtin.Slice.slicePlaces
 have h1:(1:Int) > 0:=by omega
 simp only [h1,if_true,Int.ediv_one]
 split<;>omega
theorem slicePart_ {v:Value} {o:Option Int} {Q:Option Int→Shared→Prop} (p:IsPart v o) (h:Q o s):wpAny (model prog w) A (Builtin.Slice.slicePartIndex v) Q E s:=by
 cases p with
 | none=>exact slicePart_none h
 | int i t=>exact slicePart_int h
theorem sliceApplied_gen {sl:Addr} {vl vu:Value} {lo hi:Option Int} {n:Nat} {Q:Int×Int×Nat→Shared→Prop} (hs:s.heap.IsSliceOf sl vl vu .none) (pl:IsPart vl lo) (pu:IsPart vu hi)
  (h:Q (((sIx n 0 lo:Nat):Int),1,sIx n n hi - sIx n 0 lo) s):wpAny (model prog w) A (Builtin.Slice.sliceApplied (.ref sl) (pure (n:Int))) Q E s:=by
 obtain ⟨os,hos,hcs,hds⟩:=id hs
 unfold Builtin.Slice.sliceApplied Builtin.Slice.sliceFields
 refine wpAny_bind (wpAny_bind (wpAny_field hos hds (x:=vl) rfl (wpAny_bind (wpAny_field hos hds (x:=vu) rfl (wpAny_bind (wpAny_field hos hds (x:=.none) rfl (wpAny_pure ?_)))))))
 refine wpAny_bind (slicePart_none ?_)
 show wpAny _ _ (if ((1:Int) == 0)=true then _ else _) _ _ s
 rw [if_neg (by decide)]
 refine wpAny_bind (slicePart_ pl (wpAny_bind (slicePart_ pu (wpAny_bind (wpAny_pure ?_)))))
 show wpAny _ _ (match Builtin.Slice.sliceAdjust lo hi 1 (n:Int) with|(lo,hi)=>pure (lo,(1:Int),Builtin.Slice.slicePlaces lo hi 1)) _ _ s
 rw [adjust_gen lo hi n]
 show wpAny _ _ (pure (((sIx n 0 lo:Nat):Int),(1:Int),Builtin.Slice.slicePlaces ((sIx n 0 lo:Nat):Int) ((sIx n n hi:Nat):Int) 1)) _ _ s
 rw [places_gen]
 exact wpAny_pure h
theorem pick_gen (xs:Array Value) (i k:Nat):((List.range k).filterMap fun (m:Nat)=>xs[((i:Int) + (m:Int) * 1).toNat]?).toArray=((xs.toList.drop i).take k).toArray:=by
 have e:(fun (m:Nat)=>xs[((i:Int) + (m:Int) * 1).toNat]?)=fun m=>xs[i + m]?:=by
  funext m
  have:((i:Int) + (m:Int) * 1).toNat=i + m:=by omega
  rw [this]
 rw [e]
 have:=pick_run xs i k
 rw [List.filterMap_map] at this
 have e2:((fun x=>xs[x]?) ∘ fun x=>i + x)=fun m=>xs[i + m]?:=rfl
 rw [e2] at this
 rw [this]
theorem getItem_tuple_cut {t sl:Addr} {items:Array Value} {vl vu:Value} {lo hi:Option Int} {Q:Value→Shared→Prop} (ht:IsTup s.heap t items) (hs:s.heap.IsSliceOf sl vl vu .none) (pl:IsPart vl lo) (pu:IsPart vu hi)
  (hw:¬ (sIx items.size 0 lo=0∧sIx items.size items.size hi=items.size))
  (h:Q (.ref s.heap.objs.size) { s with heap:=s.heap.push { cls:=.type "tuple",data:=.seq ((items.toList.drop (sIx items.size 0 lo)).take (sIx items.size items.size hi - sIx items.size 0 lo)).toArray } })
  (hsz:items.size≤sizeLine):wpAny (model prog w) A (getItem (.ref t) (.ref sl)) Q E s:=by
 have htake:sizeOk (.seq ((items.toList.drop (sIx items.size 0 lo)).take (sIx items.size items.size hi - sIx items.size 0 lo)).toArray):=by
  show ((items.toList.drop (sIx items.size 0 lo)).take (sIx items.size items.size hi - sIx items.size 0 lo)).toArray.size≤sizeLine
  rw [List.size_toArray,List.length_take,List.length_drop,Array.length_toList]
  omega
 have hj:sIx items.size items.size hi≤items.size:=sIx_le _ _ (Nat.le_refl _) hi
 obtain ⟨os,hos,hcs,hds⟩:=id hs
 have hTs:s.TypeIs (.ref sl) "slice":=⟨os,hos,hcs⟩
 unfold getItem
 try with_reducible refine wpAny_holding ?_
 first|refine wpAny_bind (wpAny_pure ?_)|skip
 refine wpAny_bind (wpAny_sequenceKey ht.typeIs (by decide) ?_)
 refine wpAny_bind (wpAny_callSpecial?_slot (name:=Str.ofString "__getitem__") ht.typeIs PyProof.Rows.slot_tuple_getitem
  (wpAny_call_entry PyProof.Rows.slot_tuple_getitem ht.typeIs entry_tuple_getitem ?_ (args_tuple_getitem _ _)))
 show wpAny _ _ (Builtin.Tuple.tupleItemsOf (.ref t) >>= _) _ _ s
 refine wpAny_bind (tupleItemsOf_ ht ?_)
 refine wpAny_bind (wpAny_typeOf hTs ?_)
 rw [if_pos (by decide)]
 refine wpAny_bind (sliceApplied_gen hs pl pu ?_)
 have hno:¬ ((((sIx items.size 0 lo:Nat):Int) == 0 && (1:Int) == 1 && (sIx items.size items.size hi - sIx items.size 0 lo) == items.size)=true):=by
  intro q
  rw [Bool.and_eq_true,Bool.and_eq_true] at q
  have q1:((sIx items.size 0 lo:Nat):Int)=0:=eq_of_beq q.1.1
  have q2:sIx items.size items.size hi - sIx items.size 0 lo=items.size:=eq_of_beq q.2
  exact hw ⟨by omega,by omega⟩
 show wpAny _ _ (if (((sIx items.size 0 lo:Nat):Int) == 0 && (1:Int) == 1 && (sIx items.size items.size hi - sIx items.size 0 lo) == items.size)=true then _ else _) _ _ s
 rw [if_neg hno,pick_gen]
 first
  | exact wpAny_bind (m:=Builtin.Tuple.tupleExact _) (wpAny_newObj_type (wpAny_pure ⟨_,rfl,wpAny_pure h⟩) htake)
  | exact wpAny_bind (m:=Builtin.Tuple.tupleExact _) (wpAny_newObj_type (wpAny_bind (wpAny_pure (wpAny_pure ⟨_,rfl,wpAny_pure h⟩))) htake)
  | exact wpAny_bind (wpAny_bind (m:=Builtin.Tuple.tupleExact _) (wpAny_newObj_type (wpAny_pure (wpAny_pure ⟨_,rfl,wpAny_pure h⟩)) htake))
  | exact wpAny_bind (wpAny_bind (m:=Builtin.Tuple.tupleExact _) (wpAny_newObj_type (wpAny_pure ⟨_,rfl,wpAny_pure h⟩) htake))
end
end HT
namespace L2
open PySem PySem.Spec PyProof.Rows
abbrev TO:=St→Hp→(Option Int→Hp→Prop)→Prop
def PO (X:Cx) (e:Option Expr) (t:TO):Prop:=
 ∀(pins:List (Addr×Obj)) (s:Shared) (σ:St) (H:Hp) (Q:Option Int→Hp→Prop),Inv X pins σ H s→t σ H Q→
  wpAny (model X.prog X.w) X.A (evalPart e X.env) (fun u s'=>∃o H',Inv X pins σ H' s'∧IsPart u o∧Q o H') X.xe s
def tNoPart:TO:=fun _ H Q=>Q none H
def tPart (t:TE):TO:=fun σ H Q=>t σ H fun x H1=>∃i,x=.int i∧Q (some i) H1
theorem intsAre_of {ns:List Int} :∀{us:List Value},Vals (ns.map V.int) us→IntsAre us ns:=by
 induction ns with
 | nil=>intro us r;rw [List.map_nil] at r;cases r;exact .nil
 | cons n ns ih=>
  intro us r
  rw [List.map_cons] at r
  cases r with
  | cons r1 r2=>
   obtain ⟨t,e⟩:=r1
   subst e
   exact .cons n t (ih r2)
section
variable {X:Cx} {e:Expr} {te:TE} {lo hi:Option Expr} {tl th:TO} {pos p2:Pos}
theorem po_none:PO X none tNoPart:=by
 intro pins s σ H Q I h
 rw [evalPart_none]
 exact wpAny_pure ⟨none,H,I,.none,h⟩
theorem po_some (h:PE X e te):PO X (some e) (tPart te):=by
 intro pins s σ H Q I hw
 rw [evalPart_some]
 refine thn (h pins s σ H _ I hw) fun u s1 ⟨x,H1,I1,r1,q1⟩=>?_
 obtain ⟨i,rfl,q⟩:=q1
 obtain ⟨t,rfl⟩:=r1
 exact ⟨some i,H1,I1,.int i t,q⟩
def SlR (X:Cx) (r:V→Option Int→Option Int→Hp→VK→Prop):Prop:=
 ∀(pins:List (Addr×Obj)) (s:Shared) (σ:St) (H:Hp) (x:V) (v vl vu:Value) (lo hi:Option Int) (sl:Addr) (Q:VK),Inv X pins σ H s→RelV x v→s.heap.IsSliceOf sl vl vu .none→IsPart vl lo→IsPart vu hi→r x lo hi H Q→
  ∃T id,typeLookup (.type T) "__getitem__" = pure (some (.builtin id))∧s.TypeIs v T∧wpAny (model X.prog X.w) X.A (getItem v (.ref sl)) (EP X pins σ Q) X.xe s
theorem SlR.or {r r':V→Option Int→Option Int→Hp→VK→Prop} (h:SlR X r) (h':SlR X r'):SlR X (fun x lo hi H Q=>r x lo hi H Q∨r' x lo hi H Q):=by
 intro pins s σ H x v vl vu lo hi sl Q I rx hs pl pu q
 rcases q with q|q
 ·exact h pins s σ H x v vl vu lo hi sl Q I rx hs pl pu q
 ·exact h' pins s σ H x v vl vu lo hi sl Q I rx hs pl pu q
def tSl (r:V→Option Int→Option Int→Hp→VK→Prop) (te:TE) (tl th:TO):TE:=fun σ H Q=>te σ H fun x H1=>tl σ H1 fun l H2=>th σ H2 fun u H3=>r x l u H3 Q
theorem pe_slice {r:V→Option Int→Option Int→Hp→VK→Prop} (hr:SlR X r) (he:PE X e te) (hl:PO X lo tl) (hu:PO X hi th):PE X (.Subscript e (.Slice lo hi none p2) pos) (tSl r te tl th):=by
 intro pins s σ H Q I h
 refine Subscript_ (thn (he pins s σ H _ I h) fun v s1 ⟨x,H1,I1,r1,q1⟩=>?_)
 refine wpAny_Slice (thn (hl pins s1 σ H1 _ I1 q1) fun vl s2 ⟨l,H2,I2,pl,q2⟩=>thn (hu pins s2 σ H2 _ I2 q2) fun vu s3 ⟨u,H3,I3,pu,q3⟩=>?_)
 rw [evalPart_none]
 refine wpAny_pure ?_
 have I4:Inv X pins σ H3 { s3 with heap:=s3.heap.push { cls:=.type "slice",data:=.fields #[vl,vu,.none] } }:=I3.kept (t':=s3.toks) fun b ob q=>Heap.get?_push_of_some _ q
 obtain ⟨T,id,hT,ht,hg⟩:=hr pins { s3 with heap:=s3.heap.push { cls:=.type "slice",data:=.fields #[vl,vu,.none] } } σ H3 x v vl vu l u s3.heap.objs.size Q I4 r1 (Heap.IsSliceOf.new ..) pl pu q3
 show wpAny (model X.prog X.w) X.A (subscriptTail e (.Slice lo hi none p2) v (.ref s3.heap.objs.size)) (EP X pins σ Q) X.xe { s3 with heap:=s3.heap.push { cls:=.type "slice",data:=.fields #[vl,vu,.none] } }
 exact tail_any (ops:=[.ref s3.heap.objs.size,v]) ht hT hg (by with_unfolding_all rfl)
def cutV (xs:List V) (lo hi:Option Int):List V:=(xs.drop (HT.sIx xs.length 0 lo)).take (HT.sIx xs.length xs.length hi - HT.sIx xs.length 0 lo)
theorem cutV_length (xs:List V) (lo hi:Option Int):(cutV xs lo hi).length≤xs.length:=by
 unfold cutV
 rw [List.length_take,List.length_drop]
 omega
def rSlT (K:PySem.W.Frag):V→Option Int→Option Int→Hp→VK→Prop:=fun x lo hi H Q=>∃a xs,x=.ref a∧SqT K H a xs∧
 ¬ (HT.sIx xs.length 0 lo=0∧HT.sIx xs.length xs.length hi=xs.length)∧∀p,H p=none→Q (.ref p) (upd H p (.tup (cutV xs lo hi)))
theorem sl_tup:SlR X (rSlT X.K):=by
 intro pins s σ H x v vl vu lo hi sl Q I rx hs pl pu h
 obtain ⟨a,xs,rfl,hx,hw,q⟩:=h
 cases rx
 obtain ⟨its,r,ht,hz⟩:=I.tuple hx
 have hlen:its.toArray.size=xs.length:=by rw [List.size_toArray];exact r.length.symm
 refine ⟨"tuple",_,PyProof.Rows.slot_tuple_getitem.lookup,ht.typeIs,?_⟩
 refine HT.getItem_tuple_cut ht hs pl pu (by rw [hlen];exact hw) ?_ (by rw [hlen];exact hz)
 rw [hlen]
 refine ⟨.ref s.heap.objs.size,_,I.laid (t':=s.toks) (o:=.tup (cutV xs lo hi)) (fun b ob q=>Heap.get?_push_of_some _ q) (Nat.le_refl _) ?_,rfl,q _ (I.hok.fresh (Nat.le_refl _))⟩
 exact ⟨Nat.le_trans (cutV_length xs lo hi) hz,_,(r.drop (HT.sIx xs.length 0 lo)).take (HT.sIx xs.length xs.length hi - HT.sIx xs.length 0 lo),IsTupN.new _ _⟩
def rLtT (K:PySem.W.Frag):R2:=fun x y H Q=>∃a b ns ms,x=.ref a∧y=.ref b∧SqT K H a (ns.map V.int)∧SqT K H b (ms.map V.int)∧Q (.bl (HT.lexLt ns ms)) H
def rCatT (K:PySem.W.Frag):R2:=fun x y H Q=>∃a b xs ys,x=.ref a∧y=.ref b∧SqT K H a xs∧SqT K H b ys∧xs≠[]∧xs.length + ys.length≤sizeLine∧
 (ys=[]→Q (.ref a) H)∧(ys≠[]→∀p,H p=none→Q (.ref p) (upd H p (.tup (xs++ys))))
theorem Vals.nil_iff {xs:List V} {us:List Value} (r:Vals xs us):us=[]↔xs=[]:=by
 cases r with
 | nil=>simp
 | cons _ _=>simp
theorem op_catT:OpR X (binaryOp .Add) (rCatT X.K):=by
 intro pins s σ H x y v u Q I rx ry h
 obtain ⟨a,b,xs,ys,rfl,rfl,ha,hb,hx,hz,q1,q2⟩:=h
 cases rx
 cases ry
 obtain ⟨its,r1,p1,_⟩:=I.tuple ha
 obtain ⟨its2,r2,p2,_⟩:=I.tuple hb
 refine HT.cat_tup p1 p2 (fun z=>hx (r1.nil_iff.mp z)) (fun z=>⟨.ref a,H,I,rfl,q1 (r2.nil_iff.mp z)⟩) (fun z=>?_) (by rw [←r1.length,←r2.length];exact hz)
 refine ⟨.ref s.heap.objs.size,_,I.laid (t':=s.toks) (o:=.tup (xs++ys)) (fun b ob q=>Heap.get?_push_of_some _ q) (Nat.le_refl _) ?_,rfl,q2 (fun w=>z (r2.nil_iff.mpr w)) _ (I.hok.fresh (Nat.le_refl _))⟩
 exact ⟨by rw [List.length_append];exact hz,_,r1.append r2,IsTupN.new _ _⟩
end
def ixN (n:Nat) (i:Int):Option Nat:=if 0≤i then (if i < n then some i.toNat else none) else if -(n:Int)≤i then some (i + n).toNat else none
def atI {α:Type} (xs:List α) (i:Int):Option α:=(ixN xs.length i).bind fun j=>xs[j]?
theorem ixN_seq {n:Nat} {i:Int} {j:Nat} (h:ixN n i=some j):seqIndex? i n=some j∧j < n∧-(n:Int)≤i∧i < n:=by
 unfold ixN at h
 by_cases h0:0≤i
 ·rw [if_pos h0] at h
  by_cases h1:i < n
  ·rw [if_pos h1] at h
   have e:i.toNat=j:=Option.some.inj h
   exact ⟨by rw [seqIndex_of h0 h1,e],by omega,by omega,h1⟩
  ·rw [if_neg h1] at h;cases h
 ·rw [if_neg h0] at h
  by_cases h1:-(n:Int)≤i
  ·rw [if_pos h1] at h
   have e:(i + n).toNat=j:=Option.some.inj h
   exact ⟨by rw [seqIndex_neg (by omega) h1,e],by omega,h1,by omega⟩
  ·rw [if_neg h1] at h;cases h
theorem atI_get {α:Type} {xs:List α} {i:Int} {v:α} (h:atI xs i=some v) :∃j,seqIndex? i xs.length=some j∧xs[j]? = some v∧j < xs.length∧-(xs.length:Int)≤i∧i < xs.length:=by
 unfold atI at h
 cases e:ixN xs.length i with
 | none=>rw [e] at h;cases h
 | some j=>
  rw [e] at h
  obtain ⟨h1,h2,h3,h4⟩:=ixN_seq e
  exact ⟨j,h1,h,h2,h3,h4⟩
theorem atI_nat {α:Type} {xs:List α} {j:Nat} {v:α} (h:xs[j]? = some v):atI xs (j:Int)=some v:=by
 have hj:j < xs.length:=(List.getElem?_eq_some_iff.mp h).1
 have e:ixN xs.length (j:Int)=some j:=by
  unfold ixN
  rw [if_pos (by omega),if_pos (by omega)];simp
 unfold atI;rw [e];exact h
def PlainIx (b:Expr):Prop:=∀o i,subscripted b false o i=operate [o,i] (getItem o i)
def IxR (X:Cx) (r:R2):Prop:=
 ∀(value slice:Expr) (pins:List (Addr×Obj)) (s:Shared) (σ:St) (H:Hp) (x y:V) (v u:Value) (Q:VK),Inv X pins σ H s→RelV x v→RelV y u→r x y H Q→
  subscripted slice false v u=operate [v,u] (getItem v u)→wpAny (model X.prog X.w) X.A (subscriptTail value slice v u) (EP X pins σ Q) X.xe s
def MtR (X:Cx) (id:String) (r:V→List V→Hp→VK→Prop):Prop:=
 ∀(pins:List (Addr×Obj)) (s:Shared) (σ:St) (H:Hp) (x:V) (xs:List V) (v:Value) (us:List Value) (Q:VK),Inv X pins σ H s→RelV x v→Vals xs us→r x xs H Q→
  wpAny (model X.prog X.w) X.A (call (.builtin id) (v :: us)) (EP X pins σ Q) X.xe s
section
variable {X:Cx} {a b:Expr} {ta tb:TE} {pos:Pos}
theorem IxR.or {r r':R2} (h:IxR X r) (h':IxR X r'):IxR X (fun x y H Q=>r x y H Q∨r' x y H Q):=by
 intro value slice pins s σ H x y v u Q I rx ry q hs
 rcases q with q|q
 ·exact h value slice pins s σ H x y v u Q I rx ry q hs
 ·exact h' value slice pins s σ H x y v u Q I rx ry q hs
theorem pe_ix {r:R2} (hr:IxR X r) (ha:PE X a ta) (hb:PE X b tb) (hs:PlainIx b):PE X (.Subscript a b pos) (tOp r ta tb):=by
 intro pins s σ H Q I h
 exact Subscript_ (binT ha hb I h fun v u s2 x y H2 I2 rx ry q=>hr a b pins s2 σ H2 x y v u Q I2 rx ry q (hs _ _))
def rIxL (K:PySem.W.Frag):R2:=fun x y H Q=>∃p xs i v,x=.ref p∧y=.int i∧SqL K H p xs∧atI xs i=some v∧Q v H
def rIxT (K:PySem.W.Frag):R2:=fun x y H Q=>∃p xs i v,x=.ref p∧y=.int i∧SqT K H p xs∧atI xs i=some v∧Q v H
def rIxS:R2:=fun x y H Q=>∃z i c,x=.str z∧y=.int i∧z.length≤sizeLine∧atI z.cps.toList i=some c∧Q (.str ⟨#[c]⟩) H
theorem ix_list:IxR X (rIxL X.K):=by
 intro value slice pins s σ H x y v u Q I rx ry h hs
 obtain ⟨p,xs,i,z,rfl,rfl,hq,he,q⟩:=h
 cases rx
 obtain ⟨t,rfl⟩:=ry
 obtain ⟨its,r,pl,hz⟩:=I.list hq
 obtain ⟨j,h1,h2,h3,h4,h5⟩:=atI_get he
 obtain ⟨w,ew,rw'⟩:=r.get h2
 have hl:=r.length
 have hn:=line63
 have fin:EP X pins σ Q w s:=⟨z,H,I,rw',q⟩
 by_cases h0:0≤i
 ·have hj:i.toNat=j:=by
   rw [seqIndex_of h0 h5] at h1
   exact Option.some.inj h1
  exact item_listR pl.isList h0 (by omega) (by rw [hj];simpa using ew) fin hs
 ·have hj:(i + (its.toArray.size:Int)).toNat=j:=by
   rw [seqIndex_neg (by omega) h4] at h1
   rw [List.size_toArray,←hl]
   exact Option.some.inj h1
  exact subscriptTail_builtinR (x:=w) pl.isList.typeIs slot_list_getitem.lookup
   (wpAny_getItem_list_neg (Q:=fun r s'=>r=w∧EP X pins σ Q r s') pl.isList (by omega) (by rw [List.size_toArray]<;>omega) (by omega) (by rw [hj];simpa using ew) ⟨rfl,fin⟩) hs
theorem ix_tup:IxR X (rIxT X.K):=by
 intro value slice pins s σ H x y v u Q I rx ry h hs
 obtain ⟨p,xs,i,z,rfl,rfl,hq,he,q⟩:=h
 cases rx
 obtain ⟨t,rfl⟩:=ry
 obtain ⟨its,r,pl,hz⟩:=I.tuple hq
 obtain ⟨j,h1,h2,h3,h4,h5⟩:=atI_get he
 obtain ⟨w,ew,rw'⟩:=r.get h2
 have hl:=r.length
 have hn:=line63
 have fin:EP X pins σ Q w s:=⟨z,H,I,rw',q⟩
 exact subscriptTail_builtinR (x:=w) pl.typeIs slot_tuple_getitem.lookup
  (getItem_tuple (j:=j) (Q:=fun r s'=>r=w∧EP X pins σ Q r s') pl (by omega) (by omega) (by rw [List.size_toArray,←hl];exact h1) (by simpa using ew) ⟨rfl,fin⟩) hs
theorem ix_str:IxR X rIxS:=by
 intro value slice pins s σ H x y v u Q I rx ry h hs
 obtain ⟨z,i,c,rfl,rfl,hz,he,q⟩:=h
 obtain ⟨t,rfl⟩:=rx
 obtain ⟨t',rfl⟩:=ry
 obtain ⟨j,h1,h2,h3,h4,h5⟩:=atI_get he
 have hl:z.cps.toList.length=z.length:=by simp [Str.length]
 rw [hl] at h1 h4 h5
 have hn:=line63
 exact tail_any (typeIs_str s z t) slot_str_getitem.lookup (getItem_str (c:=c) (by
  have e1:decide (i < -(2 ^ 63:Int))=false:=decide_eq_false (by omega)
  have e2:decide (i ≥ 2 ^ 63)=false:=decide_eq_false (by omega)
  rw [e1,e2,Bool.or_false]) (by rw [h1];simpa using h2) ⟨.str ⟨#[c]⟩,H,I.tok _,⟨_,rfl⟩,q⟩) hs
def rIx (K:PySem.W.Frag):R2:=fun x y H Q=>rIxL K x y H Q∨rIxT K x y H Q∨rIxS x y H Q
theorem ix_seq:IxR X (rIx X.K):=ix_list.or (ix_tup.or ix_str)
theorem mapSeq_set (its:List Value) (n j:Nat) (u:Value):Obj.mapSeq (·.setIfInBounds j u) { cls:=.type "list",data:=.seq its.toArray n }={ cls:=.type "list",data:=.seq (its.set j u).toArray n }:=by
 simp [Obj.mapSeq]
theorem Inv.lst {pins:List (Addr×Obj)} {σ:St} {H:Hp} {s:Shared} {p:Addr} {xs:List V} (I:Inv X pins σ H s) (h:H p=some (.lst xs)) :
  ∃(its:List Value) (n:Nat),Vals xs its∧s.heap.get? p=some { cls:=.type "list",data:=.seq its.toArray n }∧xs.length≤sizeLine:=by
 obtain ⟨z,its,n,r,e⟩:=I.hok p _ h
 exact ⟨its,n,r,e,z⟩
theorem Inv.lstUpd {pins:List (Addr×Obj)} {σ:St} {H:Hp} {s:Shared} {p:Addr} {xs ys:List V} {its its':List Value} {n n':Nat} {f:Obj→Obj} (I:Inv X pins σ H s) (h:H p=some (.lst xs))
  (ho:s.heap.get? p=some { cls:=.type "list",data:=.seq its.toArray n }) (hf:f { cls:=.type "list",data:=.seq its.toArray n }={ cls:=.type "list",data:=.seq its'.toArray n' }) (r:Vals ys its') (hz:ys.length≤sizeLine) (t:Nat) :
  Inv X pins σ (upd H p (.lst ys)) { s with heap:=s.heap.update p f,toks:=t }:=by
 have e:(s.heap.update p f).get? p=some { cls:=.type "list",data:=.seq its'.toArray n' }:=by
  rw [Heap.get?_update_self f ho (by rw [hf]<;>rfl),hf]
 refine I.write (x:=p) (e:=p) (by rw [h];trivial) (.inl rfl) (fun b u hb q=>(Heap.get?_update_other _ _ (Ne.symm hb)).trans q) ⟨_,e⟩ ?_
 exact ⟨hz,its',n',r,e⟩
def rSetL:V→V→V→Hp→(Hp→Prop)→Prop:=fun o i v H Q=>∃p xs k j,o=.ref p∧i=.int k∧H p=some (.lst xs)∧ixN xs.length k=some j∧Q (upd H p (.lst (xs.set j v)))
theorem set_list:PSet X rSetL:=by
 intro pins s σ H o i v ov iv u Q I ro ri rv h
 obtain ⟨p,xs,k,j,rfl,rfl,hp,hj,q⟩:=h
 cases ro
 obtain ⟨t,rfl⟩:=ri
 obtain ⟨its,n,r,ho,hz⟩:=I.lst hp
 obtain ⟨h1,h2,h3,h4⟩:=ixN_seq hj
 have hl:=r.length
 have hn:=line63
 have I':Inv X pins σ (upd H p (.lst (xs.set j v))) { s with heap:=s.heap.update p (Obj.mapSeq (·.setIfInBounds j u)) }:=
  I.lstUpd hp ho (mapSeq_set its n j u) (r.set rv j) (by rw [List.length_set];exact hz) s.toks
 by_cases h0:0≤k
 ·have hk:k.toNat=j:=by
   rw [seqIndex_of h0 h4] at h1
   exact Option.some.inj h1
  exact PySem.W.ki_setAt ho h0 (by omega) (by rw [List.size_toArray,←hl];exact h4) (by rw [hk];exact ⟨_,I',q⟩)
 ·have hk:(k + (its.toArray.size:Int)).toNat=j:=by
   rw [seqIndex_neg (by omega) h3] at h1
   rw [List.size_toArray,←hl]
   exact Option.some.inj h1
  exact PySem.W.ki_setBack ho (by omega) (by rw [List.size_toArray,←hl];exact h3) (by omega) (by rw [hk];exact ⟨_,I',q⟩)
theorem slice_bounds (lo hi:Option Int) (n:Nat):(sliceBounds lo hi none n).1=((HT.sIx n 0 lo:Nat):Int)∧(sliceBounds lo hi none n).2.1=((HT.sIx n n hi:Nat):Int)∧(sliceBounds lo hi none n).2.2=1:=by
 refine ⟨?_,?_,rfl⟩
 ·cases lo with
  | none=>simp [sliceBounds,HT.sIx]
  | some i=>
   simp only [sliceBounds,HT.sIx,Option.getD_none,show (1:Int) > 0 by decide,if_true]
   by_cases h:i < 0
   ·simp only [h,if_true]<;>omega
   ·simp only [h,if_false]<;>omega
 ·cases hi with
  | none=>simp [sliceBounds,HT.sIx]
  | some i=>
   simp only [sliceBounds,HT.sIx,Option.getD_none,show (1:Int) > 0 by decide,if_true]
   by_cases h:i < 0
   ·simp only [h,if_true]<;>omega
   ·simp only [h,if_false]<;>omega
theorem slicePick_cut (its:List Value) (lo hi:Option Int):slicePick its.toArray lo hi none=((its.drop (HT.sIx its.length 0 lo)).take (HT.sIx its.length its.length hi - HT.sIx its.length 0 lo)).toArray:=by
 obtain ⟨h1,h2,h3⟩:=slice_bounds lo hi its.toArray.size
 unfold slicePick
 rw [h1,h2,h3]
 simp only [sliceRange_one,pick_run,List.size_toArray]<;>rfl
def rSlL (K:PySem.W.Frag):V→Option Int→Option Int→Hp→VK→Prop:=fun x lo hi H Q=>∃a xs,x=.ref a∧SqL K H a xs∧∀p,H p=none→Q (.ref p) (upd H p (.lst (cutV xs lo hi)))
theorem sl_list:SlR X (rSlL X.K):=by
 intro pins s σ H x v vl vu lo hi sl Q I rx hs pl pu h
 obtain ⟨a,xs,rfl,hx,q⟩:=h
 cases rx
 obtain ⟨its,r,ht,hz⟩:=I.list hx
 have hlen:=r.length
 refine ⟨"list",_,slot_list_getitem.lookup,ht.isList.typeIs,?_⟩
 refine wpAny_getItem_list_slice ht.isList hs pl pu .none (by simp) ?_ (by rw [List.size_toArray]<;>omega)
 rw [slicePick_cut,←hlen]
 refine ⟨.ref s.heap.objs.size,_,I.laid (t':=s.toks) (o:=.lst (cutV xs lo hi)) (fun b ob q=>Heap.get?_push_of_some _ q) (Nat.le_refl _) ?_,rfl,q _ (I.hok.fresh (Nat.le_refl _))⟩
 exact ⟨Nat.le_trans (cutV_length xs lo hi) hz,_,0,(r.drop (HT.sIx xs.length 0 lo)).take (HT.sIx xs.length xs.length hi - HT.sIx xs.length 0 lo),Heap.get?_push_size _ rfl⟩
def flatV:V→Bool
 | .non=>true
 | .bl _=>true
 | .int _=>true
 | .str _=>true
 | _=>false
def eqV:V→V→Bool
 | .non,.non=>true
 | .bl a,.bl b=>a == b
 | .bl a,.int b=>(if a then 1 else 0) == b
 | .int a,.bl b=>a == (if b then 1 else 0)
 | .int a,.int b=>a == b
 | .str a,.str b=>a == b
 | _,_=>false
theorem eqAt_V {A:Around} {s:Shared} {y x:V} {u v:Value} (ry:RelV y u) (rx:RelV x v) (fy:flatV y=true) (fx:flatV x=true):SeqAt.EqAt A s u v (eqV y x):=by
 cases y with
 | non=>
  cases ry
  cases x with
  | non=>cases rx;exact SeqAt.EqAt.same _
  | bl b=>cases rx;exact SeqAt.EqAt.none_bool b
  | int b=>obtain ⟨t,rfl⟩:=rx;exact SeqAt.EqAt.none_int b t
  | str b=>obtain ⟨t,rfl⟩:=rx;exact SeqAt.EqAt.none_str b t
  | _=>exact absurd (show false=true from fx) Bool.false_ne_true
 | bl a=>
  cases ry
  cases x with
  | non=>cases rx;exact SeqAt.EqAt.bool_none a
  | bl b=>cases rx;exact SeqAt.EqAt.bool_bool a b
  | int b=>obtain ⟨t,rfl⟩:=rx;exact SeqAt.EqAt.bool_int a b t
  | str b=>obtain ⟨t,rfl⟩:=rx;exact SeqAt.EqAt.bool_str a b t
  | _=>exact absurd (show false=true from fx) Bool.false_ne_true
 | int a=>
  obtain ⟨t',rfl⟩:=ry
  cases x with
  | non=>cases rx;exact SeqAt.EqAt.int_none a t'
  | bl b=>cases rx;exact SeqAt.EqAt.int_bool a t' b
  | int b=>obtain ⟨t,rfl⟩:=rx;exact SeqAt.EqAt.int_int a t' b t
  | str b=>obtain ⟨t,rfl⟩:=rx;exact SeqAt.EqAt.int_str a t' b t
  | _=>exact absurd (show false=true from fx) Bool.false_ne_true
 | str a=>
  obtain ⟨t',rfl⟩:=ry
  cases x with
  | non=>cases rx;exact SeqAt.EqAt.str_none a t'
  | bl b=>cases rx;exact SeqAt.EqAt.str_bool a t' b
  | int b=>obtain ⟨t,rfl⟩:=rx;exact SeqAt.EqAt.str_int a t' b t
  | str b=>obtain ⟨t,rfl⟩:=rx;exact SeqAt.EqAt.str_str a t' b t
  | _=>exact absurd (show false=true from fx) Bool.false_ne_true
 | _=>exact absurd (show false=true from fy) Bool.false_ne_true
def eqU (x:V) (u:Value):Bool:=match u with
 | .none=>eqV .non x
 | .bool b=>eqV (.bl b) x
 | .int i _=>eqV (.int i) x
 | .str z _=>eqV (.str z) x
 | _=>false
theorem eqU_of {x y:V} {u:Value} (r:RelV y u) (f:flatV y=true):eqU x u=eqV y x:=by
 cases y with
 | non=>cases r;rfl
 | bl b=>cases r;rfl
 | int i=>obtain ⟨t,rfl⟩:=r;rfl
 | str z=>obtain ⟨t,rfl⟩:=r;rfl
 | _=>exact absurd (show false=true from f) Bool.false_ne_true
theorem any_eqU {x:V} :∀{xs:List V} {us:List Value},Vals xs us→xs.all flatV=true→us.any (eqU x)=xs.any fun y=>eqV y x
 | _,_,.nil,_=>rfl
 | y :: xs,u :: us,.cons r t,f=>by
  rw [List.all_cons,Bool.and_eq_true] at f
  rw [List.any_cons,List.any_cons,eqU_of r f.1,any_eqU t f.2]
theorem mem_eqAt {A:Around} {s:Shared} {x:V} {v:Value} (rx:RelV x v) (fx:flatV x=true) :∀{xs:List V} {us:List Value},Vals xs us→xs.all flatV=true→∀u∈us,SeqAt.EqAt A s u v (eqU x u)
 | _,_,.nil,_=>fun u hu=>by cases hu
 | y :: xs,u :: us,.cons r t,f=>fun u' hu=>by
  rw [List.all_cons,Bool.and_eq_true] at f
  rcases List.mem_cons.mp hu with rfl|hu
  ·rw [eqU_of r f.1];exact eqAt_V r rx f.1 fx
  ·exact mem_eqAt rx fx t f.2 u' hu
def inV (x:V) (xs:List V):Bool:=xs.any fun y=>eqV y x
def rIn (K:PySem.W.Frag) (neg:Bool):R2:=fun x y H Q=>∃p xs,y=.ref p∧(SqL K H p xs∨SqT K H p xs)∧flatV x=true∧xs.all flatV=true∧Q (.bl (if neg then !inV x xs else inV x xs)) H
theorem op_in_seq:OpR X (compareOp .In) (rIn X.K false):=by
 intro pins s σ H x y v u Q I rx ry h
 obtain ⟨p,xs,rfl,hq,fx,fs,q⟩:=h
 cases ry
 rcases hq with hq|hq
 ·obtain ⟨its,r,pl,hz⟩:=I.list hq
  refine SeqAt.in_listAt (eqU x) pl.isList (fun w hw=>mem_eqAt rx fx r fs w (by simpa using hw)) ⟨.bl _,H,I,rfl,?_⟩
  rw [show its.toArray.any (eqU x)=its.any (eqU x) by simp,any_eqU r fs]
  exact q
 ·obtain ⟨its,r,pl,hz⟩:=I.tuple hq
  refine SeqAt.in_tupleAt (eqU x) pl (fun w hw=>mem_eqAt rx fx r fs w (by simpa using hw)) ⟨.bl _,H,I,rfl,?_⟩
  rw [show its.toArray.any (eqU x)=its.any (eqU x) by simp,any_eqU r fs]
  exact q
theorem op_notIn_seq:OpR X (compareOp .NotIn) (rIn X.K true):=by
 intro pins s σ H x y v u Q I rx ry h
 obtain ⟨p,xs,rfl,hq,fx,fs,q⟩:=h
 cases ry
 rcases hq with hq|hq
 ·obtain ⟨its,r,pl,hz⟩:=I.list hq
  refine SeqAt.notIn_listAt (eqU x) pl.isList (fun w hw=>mem_eqAt rx fx r fs w (by simpa using hw)) ⟨.bl _,H,I,rfl,?_⟩
  rw [show its.toArray.any (eqU x)=its.any (eqU x) by simp,any_eqU r fs]
  exact q
 ·obtain ⟨its,r,pl,hz⟩:=I.tuple hq
  refine SeqAt.notIn_tupleAt (eqU x) pl (fun w hw=>mem_eqAt rx fx r fs w (by simpa using hw)) ⟨.bl _,H,I,rfl,?_⟩
  rw [show its.toArray.any (eqU x)=its.any (eqU x) by simp,any_eqU r fs]
  exact q
theorem call_len_seq:CallR X (.builtin "len") (fun xs H Q=>∃p ys,xs=[.ref p]∧(SqL X.K H p ys∨SqT X.K H p ys)∧Q (.int ys.length) H):=by
 intro pins s σ H xs us Q I r h
 obtain ⟨p,ys,rfl,hq,q⟩:=h
 obtain ⟨u,rfl,rx⟩:=vals1 r
 cases rx
 have hn:=line63
 rcases hq with hq|hq
 ·obtain ⟨its,r',pl,hz⟩:=I.list hq
  have hlen:=r'.length
  exact Calls.call_len_list pl.isList (by simp only [List.size_toArray]<;>omega) ⟨.int ys.length,H,I.tok _,⟨s.toks + 1,by rw [List.size_toArray,hlen]⟩,q⟩
 ·obtain ⟨its,r',pl,hz⟩:=I.tuple hq
  have hlen:=r'.length
  exact len_tuple pl (by simp only [List.size_toArray]<;>omega) ⟨.int ys.length,H,I.tok _,⟨s.toks + 1,by rw [List.size_toArray,hlen]⟩,q⟩
theorem call_len_str:CallR X (.builtin "len") (fun xs H Q=>∃z,xs=[.str z]∧z.length≤sizeLine∧Q (.int z.length) H):=by
 intro pins s σ H xs us Q I r h
 obtain ⟨z,rfl,hz,q⟩:=h
 obtain ⟨u,rfl,t,rfl⟩:=vals1 r
 have hn:=line63
 exact len_str (by omega) ⟨.int z.length,H,I.tok _,⟨_,rfl⟩,q⟩
theorem CallR.or {f:Value} {r r':List V→Hp→VK→Prop} (h:CallR X f r) (h':CallR X f r'):CallR X f (fun xs H Q=>r xs H Q∨r' xs H Q):=by
 intro pins s σ H xs us Q I rs q
 rcases q with q|q
 ·exact h pins s σ H xs us Q I rs q
 ·exact h' pins s σ H xs us Q I rs q
theorem call_list_of:CallR X (.type "list") (fun xs H Q=>∃p ys,xs=[.ref p]∧(SqL X.K H p ys∨SqT X.K H p ys)∧∀l,H l=none→Q (.ref l) (upd H l (.lst ys))):=by
 intro pins s σ H xs us Q I r h
 obtain ⟨p,ys,rfl,hq,q⟩:=h
 obtain ⟨u,rfl,rx⟩:=vals1 r
 cases rx
 have fin :∀(its:List Value),Vals ys its→ys.length≤sizeLine→∀(h':Heap) (c':Nat),(∀b o',s.heap.get? b=some o'→h'.get? b=some o')→
   h'.get? s.heap.objs.size=some { cls:=.type "list",dict:=none,data:=.seq its.toArray c',slots:=#[] }→EP X pins σ Q (.ref s.heap.objs.size) { s with heap:=h' }:=fun its r' hz h' c' kp e=>
  ⟨.ref s.heap.objs.size,_,I.laid (t':=s.toks) kp (Nat.le_refl _) (show ObjOk X.prog X.w _ h' _ (.lst ys) from ⟨hz,its,c',r',e⟩),rfl,q _ (I.hok.fresh (Nat.le_refl _))⟩
 rcases hq with hq|hq
 ·obtain ⟨its,r',pl,hz⟩:=I.list hq
  have hlen:=r'.length
  obtain ⟨o,ho,hc,n,hd⟩:=pl.isList
  exact call_list_seq p (.inl rfl) ho hc hd (fun h' c' kp e=>fin its r' hz h' c' kp e) (by simp only [List.size_toArray]<;>omega)
 ·obtain ⟨its,r',pl,hz⟩:=I.tuple hq
  have hlen:=r'.length
  obtain ⟨o,ho,hc,n,hd⟩:=pl
  exact call_list_seq p (.inr rfl) ho hc hd (fun h' c' kp e=>fin its r' hz h' c' kp e) (by simp only [List.size_toArray]<;>omega)
theorem call_tuple_of:CallR X (.type "tuple") (fun xs H Q=>∃p ys,xs=[.ref p]∧((SqL X.K H p ys∧∀l,H l=none→Q (.ref l) (upd H l (.tup ys)))∨(SqT X.K H p ys∧Q (.ref p) H))):=by
 intro pins s σ H xs us Q I r h
 obtain ⟨p,ys,rfl,h⟩:=h
 obtain ⟨u,rfl,rx⟩:=vals1 r
 cases rx
 rcases h with ⟨hq,q⟩|⟨hq,q⟩
 ·obtain ⟨its,r',pl,hz⟩:=I.list hq
  have hlen:=r'.length
  refine call_tuple_list pl.isList (fun h' kp=>?_) (by simp only [List.size_toArray]<;>omega)
  have I1:Inv X pins σ H { s with heap:=h' }:=I.kept (t':=s.toks) kp
  have I2:Inv X pins σ (upd H h'.objs.size (.tup ys)) { s with heap:=h'.push { cls:=.type "tuple",data:=.seq its.toArray } }:=
   I1.laid (t':=s.toks) (fun b o e=>Heap.get?_push_of_some _ e) (Nat.le_refl _) (show ObjOk X.prog X.w _ _ _ (.tup ys) from ⟨hz,its,r',IsTupN.new _ _⟩)
  exact ⟨.ref h'.objs.size,_,I2,rfl,q _ (I1.hok.fresh (Nat.le_refl _))⟩
 ·obtain ⟨its,r',pl,hz⟩:=I.tuple hq
  exact call_tuple_same pl ⟨.ref p,H,I,rfl,q⟩
def tyV (K:PySem.W.Frag) (T:String) (x:V) (H:Hp):Prop:=match x with
 | .str _=>T = "str"
 | .int _=>T = "int"
 | .ref p=>(T = "list"∧∃xs,SqL K H p xs)∨(T = "tuple"∧∃o,K.lookup p=some o∧o.cls=.type "tuple"∧o.dict=none)∨
   (T = "dict"∧((∃kvs,H p=some (.dK kvs))∨∃kvs,H p=some (.dT kvs)))∨(T = "set"∧∃S n,H p=some (.set S n))
 | _=>False
theorem tyV_is {pins:List (Addr×Obj)} {σ:St} {H:Hp} {s:Shared} {T:String} {x:V} {v:Value} (I:Inv X pins σ H s) (r:RelV x v) (ty:tyV X.K T x H) :
  s.TypeIs v T∧∀a,v=.ref a→∃ob,s.heap.get? a=some ob∧ob.dict=none:=by
 cases x with
 | str z=>
  obtain ⟨t,rfl⟩:=r
  cases (show T = "str" from ty)
  exact ⟨typeIs_str s z t,fun _ e=>nomatch e⟩
 | int i=>
  obtain ⟨t,rfl⟩:=r
  cases (show T = "int" from ty)
  exact ⟨typeIs_int s i t,fun _ e=>nomatch e⟩
 | ref p=>
  cases r
  rcases ty with ⟨rfl,xs,hq⟩|⟨rfl,o,hk,hc,hd⟩|⟨rfl,hk⟩|⟨rfl,S,n,hk⟩
  ·obtain ⟨its,_,pl,_⟩:=I.list hq
   refine ⟨pl.isList.typeIs,fun a e=>?_⟩
   cases e
   obtain ⟨o,n,e,c,hd,_⟩:=pl
   exact ⟨o,e,hd⟩
  ·refine ⟨⟨o,I.kIn p o hk,hc⟩,fun a e=>?_⟩
   cases e
   exact ⟨o,I.kIn _ o hk,hd⟩
  ·have z :∃o,s.heap.get? p=some o∧o.ExactDict:=by
    rcases hk with ⟨kvs,hk⟩|⟨kvs,hk⟩
    ·obtain ⟨_,_,_,_,o,_,_,e,ex,_⟩:=I.hok p _ hk
     exact ⟨o,e,ex⟩
    ·obtain ⟨_,_,_,_,o,_,_,e,ex,_⟩:=I.hok p _ hk
     exact ⟨o,e,ex⟩
   obtain ⟨o,e,ex⟩:=z
   refine ⟨⟨o,e,ex.1⟩,fun a e2=>?_⟩
   cases e2
   exact ⟨o,e,ex.2.1⟩
  ·obtain ⟨o,_,_,_,e,ex,_⟩:=I.hok p _ hk
   refine ⟨⟨o,e,ex.1⟩,fun a e2=>?_⟩
   cases e2
   exact ⟨o,e,ex.2.1⟩
 | _=>exact False.elim ty
def tBM0 (K:PySem.W.Frag) (T:String) (r:V→List V→Hp→VK→Prop) (to:TE):TE:=fun σ H Q=>to σ H fun x H1=>tyV K T x H1∧r x [] H1 Q
def tBM (K:PySem.W.Frag) (T:String) (r:V→List V→Hp→VK→Prop) (to:TE) (t:TA):TE:=fun σ H Q=>to σ H fun x H1=>tyV K T x H1∧t σ H1 fun xs H2=>r x xs H2 Q
variable {o e:Expr} {es:List Expr} {to:TE} {t:TA} {name:Str} {apos cpos:Pos} {T id:String} {r:V→List V→Hp→VK→Prop}
theorem pe_bm (pa:PlainAttrs T) (slot:Slot T name id) (hty:typeOf (.builtin id)=pure (.type "method_descriptor")) (hm:MtR X id r) (ho:PE X o to) (ha:PA X (e :: es) t)
  (hbase:attributeBase o name X.env (eval o X.env)=eval o X.env:=by rfl)
  (hfew:((backTo cpos (starEach (e :: es) X.env)).all (fun x=>!x.1) && (backToKw cpos (keywordEach [] X.env)).all (fun x=>x.1.isSome)
   && decide ((e :: es).length + ([]:List Keyword).length + (if ([]:List Keyword).isEmpty then 0 else 1) < 30))=true:=by rfl)
  (hline:(apos.endLine == cpos.line)=true:=by rfl) (hs:starEach (e :: es) X.env=(false,eval e X.env) :: starEach es X.env:=by rfl) (hplain:(backTo cpos (starEach es X.env)).any (·.1)=false:=by rfl) :
  PE X (.Call (.Attribute o name apos) (e :: es) [] cpos) (tBM X.K T r to t):=by
 intro pins s σ H Q I h
 refine wpAny_Call_method_late hbase hfew hline rfl (thn (ho pins s σ H _ I h) fun v s1 ⟨x,H1,I1,r1,ty,q1⟩=>?_)
 obtain ⟨h1,h2⟩:=tyV_is I1 r1 ty
 refine ⟨T,id,pa,slot,hty,h1,h2,?_⟩
 have hA:=ha cpos pins s1 σ H1 _ I1 q1
 rw [hs] at hA⊢
 refine Calls.callWith_builtin (by show (false || (backTo cpos (starEach es X.env)).any (·.1))=false;rw [hplain]<;>rfl) (Calls.evalArgs_plain ?_)
 exact thn hA fun us s2 ⟨vs,H2,I2,r2,q2⟩=>hm pins s2 σ H2 x vs v us Q I2 r1 r2 q2
end
def MtM (X:Cx) (id:String) (r:V→List V→Hp→VK→Prop):Prop:=
 ∀(pins:List (Addr×Obj)) (s:Shared) (σ:St) (H:Hp) (x:V) (xs:List V) (v:Value) (us:List Value) (Q:VK),Inv X pins σ H s→RelV x v→Vals xs us→r x xs H Q→
  wpAny (model X.prog X.w) X.A (call (.builtin id) (v :: us)) (EP X pins σ Q) X.xe s
theorem Vals.one :∀{x:V} {us:List Value},Vals [x] us→∃u,us=[u]∧RelV x u
 | _,_,.cons r .nil=>⟨_,rfl,r⟩
section
variable {X:Cx} {pins:List (Addr×Obj)} {σ:St} {H:Hp} {s:Shared} {l b:Addr} {xs ys zs:List V}
theorem Inv.lset {its its':List Value} {n:Nat} {f:Array Value→Array Value} {t':Nat} (I:Inv X pins σ H s) (hH:H l=some (.lst xs))
  (e:s.heap.get? l=some { cls:=.type "list",data:=.seq its.toArray n }) (hf:f its.toArray=its'.toArray) (hv:Vals ys its') (hz:ys.length≤sizeLine) :
  Inv X pins σ (upd H l (.lst ys)) { s with heap:=s.heap.update l (Obj.mapSeq f),toks:=t' }:=by
 have q:=PySem.IsL.update e f
 rw [hf] at q
 refine I.write (x:=l) (e:=l) (by rw [hH];exact trivial) (.inl rfl) (fun b' u hb hu=>(Heap.get?_update_other s.heap (Obj.mapSeq f) (Ne.symm hb)).trans hu) ⟨_,q⟩ ?_
 exact ⟨hz,its',_,hv,q⟩
theorem Inv.lnew {its:List Value} {t':Nat} (I:Inv X pins σ H s) (hv:Vals ys its) (hz:ys.length≤sizeLine) :
  Inv X pins σ (upd H s.heap.objs.size (.lst ys)) { s with heap:=s.heap.push { cls:=.type "list",data:=.seq its.toArray },toks:=t' }:=
 I.laid (fun _ _ q=>Heap.get?_push_of_some _ q) (Nat.le_refl _) ⟨hz,its,0,hv,Heap.get?_push_size _ rfl⟩
theorem Inv.fresh (I:Inv X pins σ H s):H s.heap.objs.size=none:=I.hok.fresh (Nat.le_refl _)
theorem Inv.lstM (I:Inv X pins σ H s) (hH:H l=some (.lst xs)):xs.length≤sizeLine∧∃(its:List Value) (n:Nat),Vals xs its∧xs.length=its.length∧s.heap.get? l=some { cls:=.type "list",data:=.seq its.toArray n }:=by
 obtain ⟨z,its,n,r,e⟩:=I.hok l _ hH
 exact ⟨z,its,n,r,r.length,e⟩
end
section
variable {X:Cx}
def rAppend:V→List V→Hp→VK→Prop:=fun x vs H Q=>∃l xs y,x=.ref l∧vs=[y]∧H l=some (.lst xs)∧xs.length < sizeLine∧Q .non (upd H l (.lst (xs++[y])))
theorem mt_append:MtM X "list.append" rAppend:=by
 intro pins s σ H x vs v us Q I rx rv h
 obtain ⟨l,xs,y,rfl,rfl,hH,hz,q⟩:=h
 cases rx
 obtain ⟨u,rfl,ru⟩:=rv.one
 obtain ⟨z,its,n,r,hl,e⟩:=I.lstM hH
 refine call_meets F.slot_list_append ⟨_,e,rfl⟩ F.entry_list_append (F.args_list_append_2 _ _) (PySem.list_append l its.toArray n u (by rw [List.size_toArray];omega)) ⟨e,?_⟩
 refine ⟨.non,_,I.lset (its':=its++[u]) hH e (by simp) (r.append (.cons ru .nil)) ?_,rfl,q⟩
 rw [List.length_append,List.length_singleton]
 omega
def rExtend:V→List V→Hp→VK→Prop:=fun x vs H Q=>∃l b xs zs,x=.ref l∧vs=[.ref b]∧H l=some (.lst xs)∧H b=some (.lst zs)∧xs.length + zs.length≤sizeLine∧Q .non (upd H l (.lst (xs++zs)))
def rPop:V→List V→Hp→VK→Prop:=fun x vs H Q=>∃l xs y,x=.ref l∧vs=[]∧H l=some (.lst xs)∧xs[xs.length - 1]? = some y∧Q y (upd H l (.lst xs.dropLast))
def rPopAt:V→List V→Hp→VK→Prop:=fun x vs H Q=>∃l xs i k y,x=.ref l∧vs=[.int i]∧H l=some (.lst xs)∧-(2 ^ 63)≤i∧i < 2 ^ 63∧seqIndex? i xs.length=some k∧xs[k]? = some y∧Q y (upd H l (.lst (xs.eraseIdx k)))
def rReverse:V→List V→Hp→VK→Prop:=fun x vs H Q=>∃l xs,x=.ref l∧vs=[]∧H l=some (.lst xs)∧Q .non (upd H l (.lst xs.reverse))
def rClear:V→List V→Hp→VK→Prop:=fun x vs H Q=>∃l xs,x=.ref l∧vs=[]∧H l=some (.lst xs)∧Q .non (upd H l (.lst []))
def rCat:R2:=fun x y H Q=>∃l b xs zs,x=.ref l∧y=.ref b∧H l=some (.lst xs)∧H b=some (.lst zs)∧xs.length + zs.length≤sizeLine∧∀p,H p=none→Q (.ref p) (upd H p (.lst (xs++zs)))
theorem op_cat:OpR X (binaryOp .Add) rCat:=by
 intro pins s σ H x y v u Q I rx ry h
 obtain ⟨l,b,xs,zs,rfl,rfl,hH,hB,hz,q⟩:=h
 cases rx
 cases ry
 obtain ⟨z,its,n,r,hl,e⟩:=I.lstM hH
 obtain ⟨z2,its2,n2,r2,hl2,e2⟩:=I.lstM hB
 refine PySem.P.add_list e e2 ?_ (by rw [List.size_toArray,List.size_toArray];omega)
 have ea:its.toArray++its2.toArray=(its++its2).toArray:=by simp
 rw [ea]
 exact ⟨.ref _,_,I.lnew (t':=s.toks) (r.append r2) (by rw [List.length_append];omega),rfl,q _ I.fresh⟩
def rRep:R2:=fun x y H Q=>∃l k xs,x=.ref l∧y=.int k∧H l=some (.lst xs)∧-(2 ^ 63)≤k∧k < 2 ^ 63∧xs.length * k.toNat≤sizeLine∧
 ∀p,H p=none→Q (.ref p) (upd H p (.lst (List.replicate k.toNat xs).flatten))
end
section
variable {prog:Program} {w:World} {A:Around} {E:Value→Shared→Prop} {s:Shared}
set_option maxRecDepth 100000 in
end
section
variable {κ:Type} [DecidableEq κ]
def valV (kvs:List (κ×V)) (k:κ):Option V:=(kvs.find? fun kv=>decide (kv.1=k)).map (·.2)
def putK (kvs:List (κ×V)) (k:κ) (v:V):List (κ×V):=
 if (kvs.any fun kv=>decide (kv.1=k))=true then kvs.map (fun kv=>if kv.1=k then (kv.1,v) else kv) else kvs++[(k,v)]
def dropK (kvs:List (κ×V)) (k:κ):List (κ×V):=kvs.filter fun kv=>decide (kv.1≠k)
theorem valV_pos {p:κ×V} {r:List (κ×V)} {k:κ} (e:p.1=k):valV (p :: r) k=some p.2:=by simp [valV,List.find?_cons,e]
theorem valV_neg {p:κ×V} {r:List (κ×V)} {k:κ} (e:¬ p.1=k):valV (p :: r) k=valV r k:=by simp [valV,List.find?_cons,e]
theorem valV_any (k:κ) :∀kvs:List (κ×V),(kvs.any fun kv=>decide (kv.1=k))=(valV kvs k).isSome
 | []=>rfl
 | p :: r=>by
  rw [List.any_cons]
  by_cases e:p.1=k
  ·simp only [valV_pos e,decide_eq_true e,Bool.true_or,Option.isSome_some]
  ·rw [valV_neg e,decide_eq_false e,Bool.false_or];exact valV_any k r
theorem valV_map (k j:κ) (y:V) :∀kvs:List (κ×V),valV (kvs.map fun kv=>if kv.1=k then (kv.1,y) else kv) j=(valV kvs j).map fun x=>if j=k then y else x
 | []=>rfl
 | p :: r=>by
  have ih:=valV_map k j y r
  rw [List.map_cons]
  by_cases h:p.1=k
  ·rw [if_pos h]
   by_cases e:p.1=j
   ·rw [valV_pos (p:=(p.1,y)) e,valV_pos e,Option.map_some,if_pos (e.symm.trans h)]
   ·rw [valV_neg (p:=(p.1,y)) e,valV_neg e,ih]
  ·rw [if_neg h]
   by_cases e:p.1=j
   ·rw [valV_pos (p:=p) e,valV_pos e,Option.map_some,if_neg (fun z=>h (e.trans z))]
   ·rw [valV_neg (p:=p) e,valV_neg e,ih]
theorem valV_snoc (k j:κ) (y:V) :∀kvs:List (κ×V),valV kvs k=none→valV (kvs++[(k,y)]) j=if j=k then some y else valV kvs j
 | [],_=>by
  by_cases e:k=j
  ·rw [if_pos e.symm];exact valV_pos (p:=(k,y)) e
  ·rw [if_neg (fun z=>e z.symm)];exact valV_neg (p:=(k,y)) e
 | p :: r,hn=>by
  rw [List.cons_append]
  have hk:¬ p.1=k:=fun z=>by rw [valV_pos z] at hn;cases hn
  rw [valV_neg hk] at hn
  have ih:=valV_snoc k j y r hn
  by_cases e:p.1=j
  ·rw [valV_pos e,valV_pos e,if_neg (fun z=>hk (e.trans z))]
  ·rw [valV_neg e,valV_neg e,ih]
theorem valV_put (kvs:List (κ×V)) (k j:κ) (y:V):valV (putK kvs k y) j=if j=k then some y else valV kvs j:=by
 unfold putK
 by_cases a:(kvs.any fun kv=>decide (kv.1=k))=true
 ·rw [if_pos a,valV_map]
  rw [valV_any] at a
  by_cases e:j=k
  ·obtain ⟨x,hx⟩:=Option.isSome_iff_exists.mp a
   rw [if_pos e,e,hx,Option.map_some,if_pos rfl]
  ·rw [if_neg e]
   cases valV kvs j with
   | none=>rfl
   | some x=>rw [Option.map_some,if_neg e]
 ·rw [if_neg a]
  refine valV_snoc k j y kvs ?_
  rw [valV_any] at a
  cases q:valV kvs k with
  | none=>rfl
  | some x=>rw [q] at a;exact (a rfl).elim
theorem length_putK (kvs:List (κ×V)) (k:κ) (v:V):(putK kvs k v).length≤kvs.length + 1:=by
 unfold putK
 split
 ·rw [List.length_map];omega
 ·rw [List.length_append,List.length_cons,List.length_nil];omega
theorem RelO.isSome_eq {o:Option V} {u:Option Value} (r:RelO o u):o.isSome=u.isSome:=by
 cases o with
 | none=>cases u with
  | none=>rfl
  | some _=>exact (show False from r).elim
 | some _=>cases u with
  | none=>exact (show False from r).elim
  | some _=>rfl
theorem RelO.getD {o:Option V} {u:Option Value} {d:V} {d':Value} (r:RelO o u) (rd:RelV d d'):RelV (o.getD d) (u.getD d'):=by
 cases o with
 | none=>cases u with
  | none=>exact rd
  | some _=>exact (show False from r).elim
 | some _=>cases u with
  | none=>exact (show False from r).elim
  | some _=>exact r
theorem KV.val {kvs:List (κ×V)} {vs:List (κ×Value)} (r:KV kvs vs) (k:κ):RelO (valV kvs k) (valueAt vs k):=by
 unfold KV at r
 induction r with
 | nil=>exact True.intro
 | @cons p q ps qs h t ih=>
  obtain ⟨h1,h2⟩:=h
  by_cases e:p.1=k
  ·have e':q.1=k:=h1.symm.trans e
   have b:valueAt (q :: qs) k=some q.2:=by simp [valueAt,List.find?_cons,e']
   rw [valV_pos e,b];exact h2
  ·have e':¬ q.1=k:=fun z=>e (h1.trans z)
   have b:valueAt (q :: qs) k=valueAt qs k:=by simp [valueAt,List.find?_cons,e']
   rw [valV_neg e,b];exact ih
theorem KV.any {kvs:List (κ×V)} {vs:List (κ×Value)} (r:KV kvs vs) (k:κ):(kvs.any fun kv=>decide (kv.1=k))=vs.any fun kv=>decide (kv.1=k):=by
 unfold KV at r
 induction r with
 | nil=>rfl
 | cons h t ih=>rw [List.any_cons,List.any_cons,ih,h.1]
theorem KV.repl {kvs:List (κ×V)} {vs:List (κ×Value)} (r:KV kvs vs) (k:κ) {y:V} {u:Value} (ry:RelV y u) :
  KV (kvs.map fun kv=>if kv.1=k then (kv.1,y) else kv) (vs.map fun kv=>if kv.1=k then (kv.1,u) else kv):=by
 unfold KV at r⊢
 induction r with
 | nil=>exact .nil
 | @cons p q ps qs h t ih=>
  rw [List.map_cons,List.map_cons]
  refine .cons ?_ ih
  obtain ⟨h1,h2⟩:=h
  by_cases e:p.1=k
  ·rw [if_pos e,if_pos (h1.symm.trans e)];exact ⟨h1,ry⟩
  ·rw [if_neg e,if_neg (fun z=>e (h1.trans z))];exact ⟨h1,h2⟩
theorem KV.put {kvs:List (κ×V)} {vs:List (κ×Value)} (r:KV kvs vs) (k:κ) {y:V} {u:Value} (ry:RelV y u):KV (putK kvs k y) (stored vs k u):=by
 unfold putK stored
 rw [r.any k]
 by_cases e:(vs.any fun kv=>decide (kv.1=k))=true
 ·rw [if_pos e,if_pos e];exact r.repl k ry
 ·rw [if_neg e,if_neg e];exact Paired.snoc r ⟨rfl,ry⟩
theorem KV.drop {kvs:List (κ×V)} {vs:List (κ×Value)} (r:KV kvs vs) (k:κ):KV (dropK kvs k) (without vs k):=by
 unfold KV at r⊢
 unfold dropK without
 induction r with
 | nil=>exact .nil
 | @cons p q ps qs h t ih=>
  obtain ⟨h1,h2⟩:=h
  rw [List.filter_cons,List.filter_cons]
  by_cases e:p.1=k
  ·have a:¬ decide (p.1≠k)=true:=by simp [e]
   have b:¬ decide (q.1≠k)=true:=by simp [h1.symm.trans e]
   rw [if_neg a,if_neg b];exact ih
  ·have e':¬ q.1=k:=fun z=>e (h1.trans z)
   have a:decide (p.1≠k)=true:=by simp [e]
   have b:decide (q.1≠k)=true:=by simp [e']
   rw [if_pos a,if_pos b];exact .cons ⟨h1,h2⟩ ih
theorem KV.length {kvs:List (κ×V)} {vs:List (κ×Value)} (r:KV kvs vs):kvs.length=vs.length:=Paired.length r
theorem dropK_le (kvs:List (κ×V)) (k:κ):(dropK kvs k).length≤kvs.length:=List.length_filter_le _ _
end
theorem kV_is {P:Program} {w:World} {k:Key} {u:Value} (r:RelV (kV k) u):(mixKind P w).is k u=true:=by
 cases k with
 | inl i=>obtain ⟨t,e⟩:=(show∃t,u=Value.int i t from r);subst e;exact mixKind_int P w i t
 | inr x=>obtain ⟨t,e⟩:=(show∃t,u=Value.str x t from r);subst e;exact mixKind_str P w x t
theorem items_are {P:Program} {w:World} :∀{ks:List Key} {us:List Value},Vals (ks.map kV) us→ItemsAre (mixKind P w) ks us
 | [],_,r=>by rw [List.map_nil] at r;cases r;exact .nil
 | k :: ks,_,r=>by
  rw [List.map_cons] at r
  cases r with
  | cons h t=>exact .cons (kV_is h) (items_are t)
abbrev KT (H:Hp):List (List Key×V)→List (List Key×Addr×Value)→Prop:=Paired fun p q=>p.1=q.1∧H q.2.1=some (.tup (p.1.map kV))∧RelV p.2 q.2.2
theorem KT.val {H:Hp} {kvs:List (List Key×V)} {xs:List (List Key×Addr×Value)} (r:KT H kvs xs) (k:List Key):RelO (valV kvs k) ((atKey xs k).map (·.2)):=by
 induction r with
 | nil=>exact True.intro
 | @cons p q ps qs h t ih=>
  obtain ⟨h1,_,h2⟩:=h
  by_cases e:p.1=k
  ·have e':q.1=k:=h1.symm.trans e
   have b:atKey (q :: qs) k=some q.2:=by simp [atKey,List.find?_cons,e']
   rw [valV_pos e,b];exact h2
  ·have e':¬ q.1=k:=fun z=>e (h1.trans z)
   have b:atKey (q :: qs) k=atKey qs k:=by simp [atKey,List.find?_cons,e']
   rw [valV_neg e,b];exact ih
theorem KT.repl {H:Hp} {kvs:List (List Key×V)} {xs:List (List Key×Addr×Value)} (r:KT H kvs xs) (k:List Key) {y:V} {u:Value} (ry:RelV y u) :
  KT H (kvs.map fun kv=>if kv.1=k then (kv.1,y) else kv) (xs.map (putAt k u)):=by
 induction r with
 | nil=>exact .nil
 | @cons p q ps qs h t ih=>
  rw [List.map_cons,List.map_cons]
  refine .cons ?_ ih
  obtain ⟨h1,h2,h3⟩:=h
  unfold putAt
  by_cases e:p.1=k
  ·rw [if_pos e,if_pos (h1.symm.trans e)];exact ⟨h1,h2,ry⟩
  ·rw [if_neg e,if_neg (fun z=>e (h1.trans z))];exact ⟨h1,h2,h3⟩
theorem KT.put {H:Hp} {kvs:List (List Key×V)} {xs:List (List Key×Addr×Value)} (r:KT H kvs xs) (k:List Key) {b:Addr} {y:V} {u:Value} (hb:H b=some (.tup (k.map kV))) (ry:RelV y u) :
  KT H (putK kvs k y) (storedH xs k b u):=by
 have e:(kvs.any fun kv=>decide (kv.1=k))=(atKey xs k).isSome:=by
  rw [valV_any,(r.val k).isSome_eq,Option.isSome_map]
 unfold putK storedH
 rw [e]
 by_cases q:(atKey xs k).isSome=true
 ·rw [if_pos q,if_pos q];exact r.repl k ry
 ·rw [if_neg q,if_neg q];exact Paired.snoc r ⟨rfl,hb,ry⟩
theorem KT.keeps {H H':Hp} {kvs:List (List Key×V)} {xs:List (List Key×Addr×Value)} (r:KT H kvs xs) (ht :∀b ys,H b=some (.tup ys)→H' b=some (.tup ys)):KT H' kvs xs:=
 Paired.mapP r fun _ _ z=>⟨z.1,ht _ _ z.2.1,z.2.2⟩
section
variable {P:Program} {w:World} {H:Hp} {h:Heap} {a:Addr}
theorem rd_of {u:HO} (ok:HOk P w H h) (e:Rd H a u):ObjOk P w H h a u:=e.ok ok
theorem dk_rd {kvs:List (Key×V)} (ok:HOk P w H h) (e:Rd H a (.dK kvs)):kvs.length≤sizeLine∧(a == sysModules)=false∧∃vs,KV kvs vs∧h.DictOf (mixKind P w) a vs:=
 show ObjOk P w H h a (.dK kvs) from rd_of ok e
theorem dk_of {kvs:List (Key×V)} (ok:HOk P w H h) (e:H a=some (.dK kvs)):kvs.length≤sizeLine∧(a == sysModules)=false∧∃vs,KV kvs vs∧h.DictOf (mixKind P w) a vs:=dk_rd ok (.inl e)
theorem key_of {ks:List Key} (ok:HOk P w H h) (e:H a=some (.tup (ks.map kV))):(tupleKind (mixKind P w)).is h ks a:=by
 obtain ⟨_,its,r,⟨o,h1,h2,n,h3⟩,_⟩:=(show ObjOk P w H h a (.tup (ks.map kV)) from ok a _ e)
 exact ⟨o,its.toArray,n,h1,h2,h3,by simpa using items_are r⟩
theorem dt_rd {kvs:List (List Key×V)} (ok:HOk P w H h) (e:Rd H a (.dT kvs)):kvs.length≤sizeLine∧(a == sysModules)=false∧
  ∃xs,KT H kvs xs∧h.DictOfH (tupleKind (mixKind P w)) a xs:=by
 obtain ⟨z,y,xs,r,o,es,ep,h1,h2,h3,h4,h5⟩:=(show ObjOk P w H h a (.dT kvs) from rd_of ok e)
 refine ⟨z,y,xs,r,o,es,ep,h1,h2,h3,h4,fun x hx=>?_,h5⟩
 have all :∀{l:List (List Key×V)} {m:List (List Key×Addr×Value)},KT H l m→∀x∈m,(tupleKind (mixKind P w)).is h x.1 x.2.1:=by
  intro l m q
  induction q with
  | nil=>intro x hx;exact nomatch hx
  | @cons p q ps qs hq t ih=>
   intro x hx
   rcases List.mem_cons.mp hx with e|hx
   ·subst e
    exact key_of ok (by rw [←hq.1];exact hq.2.1)
   ·exact ih x hx
 exact all r x hx
theorem dt_of {kvs:List (List Key×V)} (ok:HOk P w H h) (e:H a=some (.dT kvs)):kvs.length≤sizeLine∧(a == sysModules)=false∧
  ∃xs,KT H kvs xs∧h.DictOfH (tupleKind (mixKind P w)) a xs:=dt_rd ok (.inl e)
end
def DGet (H:Hp) (a:Addr) (y:V) (r:Option V):Prop:=
 (∃kvs k,Rd H a (.dK kvs)∧y=kV k∧r=valV kvs k)∨∃kvs k b,Rd H a (.dT kvs)∧y=.ref b∧H b=some (.tup (k.map kV))∧r=valV kvs k
def DPut (H:Hp) (a:Addr) (y v:V) (H':Hp):Prop:=
 (∃kvs k,H a=some (.dK kvs)∧y=kV k∧kvs.length < sizeLine∧H'=upd H a (.dK (putK kvs k v)))∨
 ∃kvs k b,H a=some (.dT kvs)∧y=.ref b∧H b=some (.tup (k.map kV))∧kvs.length < sizeLine∧H'=upd H a (.dT (putK kvs k v))
theorem DGet.k {H:Hp} {a:Addr} {kvs:List (Key×V)} {k:Key} (e:H a=some (.dK kvs)):DGet H a (kV k) (valV kvs k):=.inl ⟨kvs,k,.inl e,rfl,rfl⟩
theorem DPut.k {H:Hp} {a:Addr} {kvs:List (Key×V)} {k:Key} {v:V} (e:H a=some (.dK kvs)) (hl:kvs.length < sizeLine):DPut H a (kV k) v (upd H a (.dK (putK kvs k v))):=.inl ⟨kvs,k,e,rfl,hl,rfl⟩
section
variable {X:Cx} {pins:List (Addr×Obj)} {σ:St} {H:Hp} {s:Shared} {a:Addr} {y v:V} {u r:Value} {o:Option V} {A:Around} {E:Value→Shared→Prop}
theorem Inv.big (I:Inv X pins σ H s):sysModules < s.heap.objs.size:=by
 have h:mainGlobals < s.heap.objs.size:=(I.mod.glob.keeps I.bk).lt
 exact Nat.lt_trans (by decide) h
theorem d_getItem {Q:Value→Shared→Prop} (hu:A.units + 1 < cLine) (I:Inv X pins σ H s) (g:DGet H a y (some v)) (ry:RelV y u) (h :∀w' s',Inv X pins σ H s'→RelV v w'→Q w' s') :
  wpAny (model X.prog X.w) A (getItem (.ref a) u) Q E s:=by
 rcases g with ⟨kvs,k,e,ey,l⟩|⟨kvs,k,b,e,ey,eb,l⟩
 ·subst ey
  obtain ⟨z,hd,vs,rel,dd⟩:=dk_rd I.hok e
  obtain ⟨w',hw,rw'⟩:=RelO.some_of (v:=v) (o:=valueAt vs k) (by rw [l];exact rel.val k)
  exact wpAny_getItem_of (kV_is ry) dd.mapOf hw (h w' _ (I.tok _) rw')
 ·subst ey
  cases (show u=Value.ref b from ry)
  obtain ⟨z,hd,xs,rel,dd⟩:=dt_rd I.hok e
  obtain ⟨w',hw,rw'⟩:=RelO.some_of (v:=v) (o:=(atKey xs k).map (·.2)) (by rw [l];exact rel.val k)
  obtain ⟨p,hp,hp2⟩:=Option.map_eq_some_iff.mp hw
  refine wpAny_getItem_heap (tupleKind_room_in1 hu) (key_of I.hok eb) dd hp ?_
  rw [hp2]
  exact h w' _ (I.tok _) rw'
theorem d_in {Q:Value→Shared→Prop} (hu:A.units + 1 < cLine) (I:Inv X pins σ H s) (g:DGet H a y o) (ry:RelV y u) (h :∀s',Inv X pins σ H s'→Q (.bool o.isSome) s') :
  wpAny (model X.prog X.w) A (compareOp .In u (.ref a)) Q E s:=by
 rcases g with ⟨kvs,k,e,ey,l⟩|⟨kvs,k,b,e,ey,eb,l⟩
 ·subst ey
  obtain ⟨z,hd,vs,rel,dd⟩:=dk_rd I.hok e
  refine wpAny_in_of (kV_is ry) hd dd.mapOf ?_
  rw [←(rel.val k).isSome_eq,←l]
  exact h _ (I.tok _)
 ·subst ey
  cases (show u=Value.ref b from ry)
  obtain ⟨z,hd,xs,rel,dd⟩:=dt_rd I.hok e
  refine wpAny_in_heap (tupleKind_room_in1 hu) (key_of I.hok eb) hd dd ?_
  have q:=(rel.val k).isSome_eq
  rw [Option.isSome_map] at q
  rw [←q,←l]
  exact h _ (I.tok _)
theorem d_write {h':Heap} {t':Nat} {ob:HO} (I:Inv X pins σ H s) (mu:Mut (H a)) (hs:Heap.SameBut a s.heap h') (he :∃q,h'.get? a=some q) (new:ObjOk X.prog X.w (upd H a ob) h' a ob) :
  Inv X pins σ (upd H a ob) { s with heap:=h',toks:=t' }:=
 I.write (x:=a) (e:=a) mu (.inl rfl) (fun b q hb z=>(hs.2 b hb).trans z) he new
theorem dk_new {P:Program} {w:World} {H':Hp} {h':Heap} {kvs:List (Key×V)} {vs:List (Key×Value)} (z:kvs.length≤sizeLine) (hd:(a == sysModules)=false) (rel:KV kvs vs) (dd:h'.DictOf (mixKind P w) a vs) :
  ObjOk P w H' h' a (.dK kvs):=⟨z,hd,vs,rel,dd⟩
theorem d_setItem {H':Hp} {Q:Unit→Shared→Prop} (hu:A.units + 1 < cLine) (I:Inv X pins σ H s) (g:DPut H a y v H') (ry:RelV y u) (rv:RelV v r) (h :∀s',Inv X pins σ H' s'→Q () s') :
  wpAny (model X.prog X.w) A (setItem (.ref a) u r) Q E s:=by
 rcases g with ⟨kvs,k,e,ey,l,eH⟩|⟨kvs,k,b,e,ey,eb,l,eH⟩
 ·subst ey eH
  obtain ⟨z,hd,vs,rel,dd⟩:=dk_of I.hok e
  have hz:vs.length≤sizeLine:=by rw [←rel.length];exact z
  have hl:(putK kvs k v).length≤sizeLine:=by have:=length_putK kvs k v;omega
  refine wpAny_setItem_pairs (hsz:=hz) (kV_is ry) dd fun h' dd' hs=>h _ ?_
  have he :∃q,h'.get? a=some q:=let ⟨q,_,_,hq,_⟩:=dd';⟨q,hq⟩
  exact d_write I (by rw [e];exact True.intro) hs he (dk_new hl hd (rel.put k rv) dd')
 ·subst ey eH
  cases (show u=Value.ref b from ry)
  obtain ⟨z,hd,xs,rel,dd⟩:=dt_of I.hok e
  have hz:xs.length≤sizeLine:=by rw [←Paired.length rel];exact z
  have hl:(putK kvs k v).length≤sizeLine:=by have:=length_putK kvs k v;omega
  refine wpAny_setItem_heap (hsz:=hz) (tupleKind_room_in1 hu) (key_of I.hok eb) dd fun h' dd' hs=>h _ ?_
  obtain ⟨q,es,ep,hq,h2,h3,h4,_,h5⟩:=dd'
  refine d_write I (by rw [e];exact True.intro) hs ⟨q,hq⟩ ⟨hl,hd,_,(rel.put k eb rv).keeps fun c ys ec=>?_,q,es,ep,hq,h2,h3,h4,h5⟩
  rw [upd_ne (ne_of ec e (fun z=>nomatch z))]
  exact ec
end
section
variable {X:Cx} {pins:List (Addr×Obj)} {σ:St} {H:Hp} {s:Shared} {a:Addr} {kvs:List (Key×V)} {k:Key} {u:Value} {A:Around} {E:Value→Shared→Prop}
theorem d_pop {v:V} {more:List Value} {Q:Value→Shared→Prop} (I:Inv X pins σ H s) (e:H a=some (.dK kvs)) (ry:RelV (kV k) u) (l:valV kvs k=some v) (hm:more=[]∨∃x,more=[x])
  (h :∀w' s',Inv X pins σ (upd H a (.dK (dropK kvs k))) s'→RelV v w'→Q w' s'):wpAny (model X.prog X.w) A (call (.builtin "dict.pop") (.ref a :: u :: more)) Q E s:=by
 obtain ⟨z,hd,vs,rel,dd⟩:=dk_of I.hok e
 obtain ⟨w',hw,rw'⟩:=RelO.some_of (v:=v) (o:=valueAt vs k) (by rw [←l];exact rel.val k)
 have hp:(keyPart u).isSome=true:=by
  cases k with
  | inl i=>obtain ⟨t,q⟩:=(show∃t,u=Value.int i t from ry);subst q;rfl
  | inr x=>obtain ⟨t,q⟩:=(show∃t,u=Value.str x t from ry);subst q;rfl
 have ha:argsOk "dict.pop" ⟨.ref a :: u :: more,[]⟩:=by
  rcases hm with q|⟨x,q⟩
  ·subst q;exact PySem.F.args_dict_pop_2 _ _
  ·subst q;exact PySem.F.args_dict_pop_3 _ _ _
 refine call_meetsIn PySem.F.slot_dict_pop dd.typeIs PySem.F.entry_dict_pop ha (meets_dict_pop_there (mixKind X.prog X.w) a (kV_is ry) more hm hp)
  ⟨vs,w',dd,by rw [←rel.length];exact z,hw,fun h' dd' hs=>h w' _ ?_ rw'⟩
 have he :∃q,h'.get? a=some q:=let ⟨q,_,_,hq,_⟩:=dd';⟨q,hq⟩
 exact d_write I (by rw [e];exact True.intro) hs he (dk_new (Nat.le_trans (dropK_le kvs k) z) hd (rel.drop k) dd')
end
def NoSl (i:Expr):Prop:=∀ov iv,subscripted i false ov iv=operate [ov,iv] (getItem ov iv)
theorem subD_of {prog:Program} {w:World} {A:Around} {E:Value→Shared→Prop} {s:Shared} {env:Env} {value slice:Expr} {pos:Pos} {T id:String} {Q:Value→Shared→Prop}
  (hl:typeLookup (.type T) "__getitem__" = pure (some (.builtin id))) (hs:NoSl slice)
  (h:wpAny (model prog w) A (eval value env) (fun o s₁=>wpAny (model prog w) A (eval slice env) (fun i s₂=>s₂.TypeIs o T∧wpAny (model prog w) A (getItem o i) Q E s₂) E s₁) E s) :
  wpAny (model prog w) A (eval (.Subscript value slice pos) env) Q E s:=by
 refine Subscript_ (wpAny_mono h (fun o s₁ h₁=>wpAny_mono h₁ (fun i s₂ h₂=>?_) fun _ _ x=>x) fun _ _ x=>x)
 obtain ⟨hT,h₂⟩:=h₂
 unfold subscriptTail
 refine wpAny_bind ?_
 rw [getitemInPython_of_ne hT.not_modules]
 refine wpAny_bind (wpAny_specialOf hT hl ?_)
 have fin:wpAny (model prog w) A (subscripted slice false o i) (fun r s₃=>wpAny (model prog w) A (letTemporaryGo value o r >>= fun _=>pure r) Q E s₃) E s₂:=by
  rw [hs o i]
  exact wpAny_operating (wpAny_mono h₂ (fun r s₃ h₃=>wpAny_bind (wpAny_letTemporaryGo (wpAny_pure h₃))) fun _ _ x=>x)
 first
  | exact wpAny_pure (wpAny_bind fin)
  | exact wpAny_bind (wpAny_pure (wpAny_bind fin))
  | exact wpAny_bind fin
theorem dict_typeIs {X:Cx} {pins:List (Addr×Obj)} {σ:St} {H:Hp} {s:Shared} {a:Addr} {y:V} {o:Option V} (I:Inv X pins σ H s) (g:DGet H a y o):s.TypeIs (.ref a) "dict":=by
 rcases g with ⟨kvs,k,e,_,_⟩|⟨kvs,k,b,e,_,_,_⟩
 ·obtain ⟨_,_,vs,_,dd⟩:=dk_rd I.hok e
  exact dd.typeIs
 ·obtain ⟨_,_,xs,_,dd⟩:=dt_rd I.hok e
  exact dd.typeIs
def tDGet (td ty:TE):TE:=fun σ H Q=>td σ H fun x H1=>ty σ H1 fun y H2=>∃a v,x=.ref a∧DGet H2 a y (some v)∧Q v H2
def tDIn (ty td:TE):TE:=fun σ H Q=>ty σ H fun y H1=>td σ H1 fun x H2=>∃a o,x=.ref a∧DGet H2 a y o∧Q (.bl o.isSome) H2
def tDNotIn (ty td:TE):TE:=fun σ H Q=>ty σ H fun y H1=>td σ H1 fun x H2=>∃a o,x=.ref a∧DGet H2 a y o∧Q (.bl (!o.isSome)) H2
def sDPut (td ty tv:TE):TS:=fun D σ H=>tv σ H fun v H1=>td σ H1 fun x H2=>ty σ H2 fun y H3=>∃a H4,x=.ref a∧DPut H3 a y v H4∧D.nx σ H4
def sDAug (td ty tv:TE) (rd:V→V→Hp→VK→Prop):TS:=fun D σ H=>td σ H fun x H1=>ty σ H1 fun y H2=>∃a v,x=.ref a∧DGet H2 a y (some v)∧
 tv σ H2 fun y2 H3=>rd v y2 H3 fun z H4=>∃H5,DPut H4 a y z H5∧D.nx σ H5
def sDDel (td ty:TE):TS:=fun D σ H=>td σ H fun x H1=>ty σ H1 fun y H2=>∃a kvs k,x=.ref a∧H2 a=some (.dK kvs)∧y=kV k∧(valV kvs k).isSome=true∧D.nx σ (upd H2 a (.dK (dropK kvs k)))
section
variable {X:Cx} {o i e value:Expr} {pos pos' tpos:Pos} {td ty tv:TE}
theorem pe_dget (hu:X.A.units + 1 < cLine) (ho:PE X o td) (hi:PE X i ty) (hs:NoSl i):PE X (.Subscript o i pos) (tDGet td ty):=by
 intro pins s σ H Q I h
 refine subD_of PySem.F.slot_dict_getitem.lookup hs (thn (ho pins s σ H _ I h) fun u s1 ⟨x,H1,I1,rx,q1⟩=>thn (hi pins s1 σ H1 _ I1 q1) fun iv s2 ⟨y,H2,I2,ry,a,v,ex,g,q2⟩=>?_)
 subst ex
 obtain rfl:u=Value.ref a:=rx
 exact ⟨dict_typeIs I2 g,d_getItem hu I2 g ry fun w' s3 I3 rw'=>⟨v,H2,I3,rw',q2⟩⟩
theorem pc_din (hu:X.A.units + 1 < cLine) (hi:PE X i ty) (ho:PE X o td):PC X .In i o (tDIn ty td):=by
 intro pins s σ H Q I h
 refine thn (hi pins s σ H _ I h) fun iv s1 ⟨y,H1,I1,ry,q1⟩=>thn (ho pins s1 σ H1 _ I1 q1) fun u s2 ⟨x,H2,I2,rx,a,ov,ex,g,q2⟩=>?_
 subst ex
 obtain rfl:u=Value.ref a:=rx
 exact d_in hu I2 g ry fun s3 I3=>⟨.bl ov.isSome,H2,I3,rfl,q2⟩
theorem ps_dput (hu:X.A.units + 1 < cLine) (ho:PE X o td) (hi:PE X i ty) (hv:PE X value tv) (hs:swapsWith value (some (.Subscript o i pos')) pos.line X.env=pure false) :
  PS X (.Assign [.Subscript o i pos'] value pos) (sDPut td ty tv):=by
 intro pins s σ H D I h
 refine wpAny_Assign_Subscript (thn (hv pins s σ H _ I h) fun r s1 ⟨v,H1,I1,rv,q1⟩=>thn (ho pins s1 σ H1 _ I1 q1) fun u s2 ⟨x,H2,I2,rx,q2⟩=>thn (hi pins s2 σ H2 _ I2 q2) fun iv s3 ⟨y,H3,I3,ry,a,H4,ex,g,q3⟩=>?_) hs
 subst ex
 obtain rfl:u=Value.ref a:=rx
 exact d_setItem hu I3 g ry rv fun s4 I4=>⟨σ,H4,I4,q3⟩
end
theorem dk_empty {P:Program} {w:World} {H:Hp} (h:Heap) (hb:sysModules < h.objs.size):ObjOk P w H (h.push { cls:=.type "dict",data:=.dict #[] }) h.objs.size (.dK []):=
 ⟨Nat.zero_le _,beq_eq_false_iff_ne.mpr (Ne.symm (Nat.ne_of_lt hb)),[],.nil,Heap.DictOf.new h⟩
def tDNewK:TE:=fun _ H Q=>∀p,H p=none→Q (.ref p) (upd H p (.dK []))
def tDNewT:TE:=fun _ H Q=>∀p,H p=none→Q (.ref p) (upd H p (.dT []))
section
variable {X:Cx} {pos:Pos}
theorem pe_dnewK:PE X (.Dict [] [] pos) tDNewK:=fun pins s σ H Q I h=>
 wpAny_Dict_empty ⟨.ref s.heap.objs.size,_,I.laid (a:=s.heap.objs.size) (o:=.dK []) (t':=s.toks) (fun _ _ q=>Heap.get?_push_of_some _ q) (Nat.le_refl _) (dk_empty s.heap I.big),rfl,h _ (I.hok.fresh (Nat.le_refl _))⟩
end
def tPairs:List (TE×TE)→St→Hp→(List (V×V)→Hp→Prop)→Prop
 | [],_,H,Q=>Q [] H
 | (tk,tv) :: r,σ,H,Q=>tk σ H fun x H1=>tv σ H1 fun y H2=>tPairs r σ H2 fun ps H3=>Q ((x,y) :: ps) H3
abbrev VV:List (V×V)→List (Value×Value)→Prop:=Paired fun p q=>RelV p.1 q.1∧RelV p.2 q.2
def PPs (X:Cx) (pos:Pos) (keys:List (Option Expr)) (values:List Expr) (trs:List (TE×TE)):Prop:=
 ∀(pins:List (Addr×Obj)) (s:Shared) (σ:St) (H:Hp) (Q:List (V×V)→Hp→Prop),Inv X pins σ H s→tPairs trs σ H Q→
  wpAny (model X.prog X.w) X.A (evalPairs (pairTrees keys values X.env pos)) (fun vs s'=>∃ps H',Inv X pins σ H' s'∧VV ps vs∧Q ps H') X.xe s
theorem pps_nil {X:Cx} {pos:Pos}:PPs X pos [] [] []:=fun pins s σ H Q I h=>pairTrees_nil_walk ⟨[],H,I,.nil,h⟩
theorem pps_cons {X:Cx} {pos:Pos} {k v:Expr} {ks:List (Option Expr)} {vs:List Expr} {tk tv:TE} {trs:List (TE×TE)} (hk:PE X k tk) (hv:PE X v tv) (hr:PPs X pos ks vs trs) :
  PPs X pos (some k :: ks) (v :: vs) ((tk,tv) :: trs):=fun pins s σ H Q I h=>
 pairTrees_cons_walk (thn (hk pins s σ H _ I h) fun u s1 ⟨x,H1,I1,rx,q1⟩=>thn (hv pins s1 σ H1 _ I1 q1) fun w2 s2 ⟨y,H2,I2,ry,q2⟩=>
  thn (hr pins s2 σ H2 _ I2 q2) fun ws s3 ⟨ps,H3,I3,rel,q3⟩=>⟨(x,y) :: ps,H3,I3,.cons ⟨rx,ry⟩ rel,q3⟩)
def mergeK (kvs more:List (Key×V)):List (Key×V):=more.foldl (fun acc kv=>putK acc kv.1 kv.2) kvs
theorem KV.merge :∀{more:List (Key×V)} {rs:List (Key×Value)} {kvs:List (Key×V)} {vs:List (Key×Value)},KV more rs→KV kvs vs→KV (mergeK kvs more) (merged vs rs):=by
 intro more rs kvs vs r
 unfold KV at r
 induction r generalizing kvs vs with
 | nil=>intro q;exact q
 | @cons p q ps qs h t ih=>
  intro r0
  have e:KV (putK kvs p.1 p.2) (stored vs q.1 q.2):=by
   have:=r0.put p.1 h.2
   rw [←h.1];exact this
  exact ih e
theorem length_mergeK :∀(more kvs:List (Key×V)),(mergeK kvs more).length≤kvs.length + more.length
 | [],kvs=>by show kvs.length≤kvs.length + 0;omega
 | p :: r,kvs=>by
  have h1:=length_mergeK r (putK kvs p.1 p.2)
  have h2:=length_putK kvs p.1 p.2
  show (mergeK (putK kvs p.1 p.2) r).length≤_
  rw [List.length_cons];omega
theorem carries_of {P:Program} {w:World} :∀{kvs:List (Key×V)} {ws:List (Value×Value)},VV (kvs.map fun kv=>(kV kv.1,kv.2)) ws→∃rs,Carries (mixKind P w) ws rs∧KV kvs rs
 | [],_,r=>by rw [List.map_nil] at r;cases r;exact ⟨[],True.intro,.nil⟩
 | p :: kvs,_,r=>by
  rw [List.map_cons] at r
  cases r with
  | @cons a b as bs h t=>
   obtain ⟨rs,c,q⟩:=carries_of (P:=P) (w:=w) t
   obtain ⟨b1,b2⟩:=b
   exact ⟨(p.1,b2) :: rs,⟨kV_is h.1,rfl,c⟩,.cons ⟨rfl,h.2⟩ q⟩
def tDisp (trs:List (TE×TE)):TE:=fun σ H Q=>∀p,H p=none→tPairs trs σ (upd H p (.dK [])) fun ps H2=>H2 p=some (.dK [])∧∃kvs:List (Key×V),ps=kvs.map (fun kv=>(kV kv.1,kv.2))∧kvs.length≤15∧Q (.ref p) (upd H2 p (.dK (mergeK [] kvs)))
theorem pe_disp {X:Cx} {pos:Pos} {keys:List (Option Expr)} {values:List Expr} {trs:List (TE×TE)} (h:PPs X pos keys values trs) (hall:keys.all (·.isSome)=true) (hl:keys.length=values.length) (h0:keys≠[])
  (h15:keys.length≤15):PE X (.Dict keys values pos) (tDisp trs):=by
 intro pins s σ H Q I q
 have hn:=I.hok.fresh (Nat.le_refl s.heap.objs.size)
 have I1:=I.laid (a:=s.heap.objs.size) (o:=.dK []) (h':=s.heap.push { cls:=.type "dict",data:=.dict #[] }) (t':=s.toks) (fun _ _ q=>Heap.get?_push_of_some _ q) (Nat.le_refl _) (dk_empty s.heap I.big)
 refine wpAny_Dict_walk (knd:=mixKind X.prog X.w) hall hl h0 h15 (thn (h pins _ σ _ _ I1 (q _ hn)) fun ws s2 ⟨ps,H2,I2,rel,e,kvs,ep,lk,q2⟩=>?_)
 subst ep
 obtain ⟨rs,c,rk⟩:=carries_of (P:=X.prog) (w:=X.w) rel
 obtain ⟨z,hd,vs0,r0,dd⟩:=dk_of I2.hok e
 cases r0
 refine ⟨rs,c,dd,fun h' dd' hs=>⟨.ref s.heap.objs.size,_,?_,rfl,q2⟩⟩
 have hz:(mergeK [] kvs).length≤sizeLine:=by
  have h1:=length_mergeK kvs []
  rw [List.length_nil] at h1
  rw [sizeLine_eq];omega
 have he :∃q,h'.get? s.heap.objs.size=some q:=let ⟨q,_,_,hq,_⟩:=dd';⟨q,hq⟩
 exact d_write I2 (by rw [e];exact True.intro) hs he (dk_new hz hd (rk.merge .nil) dd')
structure M1 (X:Cx) (o:Expr) (m:Str) (apos:Pos) (e:Expr) (cpos:Pos):Prop where
 base:attributeBase o m X.env (eval o X.env)=eval o X.env
 few:((backTo cpos (starEach [e] X.env)).all (fun x=>!x.1) && (backToKw cpos (keywordEach [] X.env)).all (fun x=>x.1.isSome)
  && decide (([e]:List Expr).length + ([]:List Keyword).length + (if ([]:List Keyword).isEmpty then 0 else 1) < 30))=true
 line:(apos.endLine == cpos.line)=true
 trees:backTo cpos (starEach [e] X.env)=[(false,eval e X.env)]
structure M2 (X:Cx) (o:Expr) (m:Str) (apos:Pos) (e f:Expr) (cpos:Pos):Prop where
 base:attributeBase o m X.env (eval o X.env)=eval o X.env
 few:((backTo cpos (starEach [e,f] X.env)).all (fun x=>!x.1) && (backToKw cpos (keywordEach [] X.env)).all (fun x=>x.1.isSome)
  && decide (([e,f]:List Expr).length + ([]:List Keyword).length + (if ([]:List Keyword).isEmpty then 0 else 1) < 30))=true
 line:(apos.endLine == cpos.line)=true
 trees:backTo cpos (starEach [e,f] X.env)=[(false,eval e X.env),(false,eval f X.env)]
def IsD (H:Hp) (a:Addr):Prop:=(∃kvs,Rd H a (.dK kvs))∨∃kvs,Rd H a (.dT kvs)
theorem isD_at {X:Cx} {pins:List (Addr×Obj)} {σ:St} {H:Hp} {s:Shared} {a:Addr} (I:Inv X pins σ H s) (d:IsD H a) :
  s.TypeIs (.ref a) "dict"∧(∀b,Value.ref a=.ref b→∃ob,s.heap.get? b=some ob∧ob.dict=none)∧(a == sysModules)=false:=by
 rcases d with ⟨kvs,e⟩|⟨kvs,e⟩
 ·obtain ⟨_,hd,vs,_,dd⟩:=dk_rd I.hok e
  refine ⟨dd.typeIs,fun b q=>?_,hd⟩
  cases q
  obtain ⟨ob,_,_,h1,h2,_⟩:=dd
  exact ⟨ob,h1,h2.2.1⟩
 ·obtain ⟨_,hd,xs,_,dd⟩:=dt_rd I.hok e
  refine ⟨dd.typeIs,fun b q=>?_,hd⟩
  cases q
  obtain ⟨ob,_,_,h1,h2,_⟩:=dd
  exact ⟨ob,h1,h2.2.1⟩
section
variable {X:Cx} {pins:List (Addr×Obj)} {σ:St} {H:Hp} {s:Shared} {a:Addr} {y d:V} {u r:Value} {o:Option V} {A:Around} {E:Value→Shared→Prop}
theorem d_get1 {Q:Value→Shared→Prop} (hu:A.units + 1 < cLine) (I:Inv X pins σ H s) (g:DGet H a y o) (ry:RelV y u) (h :∀w' s',Inv X pins σ H s'→RelV (o.getD .non) w'→Q w' s') :
  wpAny (model X.prog X.w) A (call (.builtin "dict.get") [.ref a,u]) Q E s:=by
 rcases g with ⟨kvs,k,e,ey,l⟩|⟨kvs,k,b,e,ey,eb,l⟩
 ·subst ey
  obtain ⟨z,hd,vs,rel,dd⟩:=dk_rd I.hok e
  refine call_meetsIn PySem.F.slot_dict_get dd.typeIs PySem.F.entry_dict_get (PySem.F.args_dict_get_2 _ _) (meets_dict_get (mixKind X.prog X.w) a (kV_is ry) hd) ⟨_,dd.mapOf,h _ _ (I.tok _) ?_⟩
  rw [l]
  exact (rel.val k).getD rfl
 ·subst ey
  cases (show u=Value.ref b from ry)
  obtain ⟨z,hd,xs,rel,dd⟩:=dt_rd I.hok e
  refine call_meetsIn PySem.F.slot_dict_get dd.typeIs PySem.F.entry_dict_get (PySem.F.args_dict_get_2 _ _) (meetsH_dict_get (tupleKind (mixKind X.prog X.w)) a b hd) ⟨tupleKind_room_in1 hu,k,xs,key_of I.hok eb,dd,h _ _ (I.tok _) ?_⟩
  rw [l]
  exact (rel.val k).getD rfl
end
def tDGet1 (td ty:TE):TE:=fun σ H Q=>td σ H fun x H1=>∃a,x=.ref a∧IsD H1 a∧ty σ H1 fun y H2=>∃o,DGet H2 a y o∧Q (o.getD .non) H2
def tDGet2 (td ty tx:TE):TE:=fun σ H Q=>td σ H fun x H1=>∃a,x=.ref a∧IsD H1 a∧ty σ H1 fun y H2=>tx σ H2 fun z H3=>∃o,DGet H3 a y o∧Q (o.getD z) H3
def tDPop1 (td ty:TE):TE:=fun σ H Q=>td σ H fun x H1=>∃a,x=.ref a∧IsD H1 a∧ty σ H1 fun y H2=>∃kvs k v,H2 a=some (.dK kvs)∧y=kV k∧valV kvs k=some v∧Q v (upd H2 a (.dK (dropK kvs k)))
def tDPop2 (td ty tx:TE):TE:=fun σ H Q=>td σ H fun x H1=>∃a,x=.ref a∧IsD H1 a∧ty σ H1 fun y H2=>tx σ H2 fun z H3=>∃kvs k,H3 a=some (.dK kvs)∧y=kV k∧
 (∀v,valV kvs k=some v→Q v (upd H3 a (.dK (dropK kvs k))))∧(valV kvs k=none→Q z H3)
section
variable {X:Cx} {o e f:Expr} {apos cpos:Pos} {td ty tx:TE}
theorem pe_dget1 (hu:X.A.units + 1 < cLine) (ho:PE X o td) (he:PE X e ty) (m:M1 X o "get" apos e cpos):PE X (.Call (.Attribute o "get" apos) [e] [] cpos) (tDGet1 td ty):=by
 intro pins s σ H Q I h
 refine wpAny_Call_method m.base m.few m.line PySem.F.plainAttrs_dict PySem.F.slot_dict_get PySem.F.type_dict_get (thn (ho pins s σ H _ I h) fun u s1 ⟨x,H1,I1,rx,a,ex,d,q1⟩=>?_)
 subst ex
 obtain rfl:u=Value.ref a:=rx
 obtain ⟨t1,t2,_⟩:=isD_at I1 d
 refine ⟨t1,t2,?_⟩
 rw [m.trees]
 refine Calls.callWith_builtin rfl (Calls.evalArgs_plain (Calls.spliced_cons (thn (he pins s1 σ H1 _ I1 q1) fun iv s2 ⟨y,H2,I2,ry,ov,g,q2⟩=>Calls.spliced_nil ?_)))
 exact d_get1 hu I2 g ry fun w' s3 I3 rw'=>⟨_,H2,I3,rw',q2⟩
theorem pe_dpop1 (ho:PE X o td) (he:PE X e ty) (m:M1 X o "pop" apos e cpos):PE X (.Call (.Attribute o "pop" apos) [e] [] cpos) (tDPop1 td ty):=by
 intro pins s σ H Q I h
 refine wpAny_Call_method m.base m.few m.line PySem.F.plainAttrs_dict PySem.F.slot_dict_pop PySem.F.type_dict_pop (thn (ho pins s σ H _ I h) fun u s1 ⟨x,H1,I1,rx,a,ex,d,q1⟩=>?_)
 subst ex
 obtain rfl:u=Value.ref a:=rx
 obtain ⟨t1,t2,_⟩:=isD_at I1 d
 refine ⟨t1,t2,?_⟩
 rw [m.trees]
 refine Calls.callWith_builtin rfl (Calls.evalArgs_plain (Calls.spliced_cons (thn (he pins s1 σ H1 _ I1 q1) fun iv s2 ⟨y,H2,I2,ry,kvs,k,v,ea,ey,l,q2⟩=>Calls.spliced_nil ?_)))
 subst ey
 exact d_pop I2 ea ry l (.inl rfl) fun w' s3 I3 rw'=>⟨v,_,I3,rw',q2⟩
end
end L2
namespace Att
open PySem PySem.W PySem.Calls PyProof.Rows
theorem ints_of_wellAll {P:Params} {h:Heap} :∀(ns:List Int) (vs:List Value),WellAll P h vs (ns.map WData.int)→IntsAre vs ns:=by
 intro ns
 induction ns with
 | nil=>
  intro vs w
  rw [List.map_nil] at w
  cases w
  exact .nil
 | cons n ns ih=>
  intro vs w
  rw [List.map_cons] at w
  cases w with
  | cons a b=>
   cases a
   exact .cons _ _ (ih _ b)
theorem script_of {l:OpenLaw} {n:Nat} (hn:l.most=some n) {P:Params} {h:Heap} {args:List WData} {vals:List Value}
  (hpre:l.row.toRowW.claim.pre args=true) (hwl:WellAll P h vals args) :
  ∃a vs ns,vals=[Value.ref a]∧args=[WData.list (ns.map WData.int)]∧h.get? a=some { cls:=.type "list",data:=.seq vs.toArray }∧IntsAre vs ns∧ns.length≤n:=by
 have hsh:WShape.hasAll [] args [.list .int]=true:=(pre_splitW hpre).1
 have hc:l.pre.holds [] { args:=args }=true:=(pre_splitW hpre).2
 obtain ⟨d,r,rfl,h1,h2⟩:=hasAllW_cons hsh
 obtain rfl:=hasAllW_nil h2
 obtain ⟨xs,rfl,h3⟩:=hasW_list h1
 obtain ⟨ns,rfl⟩:=items_int h3
 have hlen:ns.length≤n:=by
  unfold OpenLaw.pre at hc
  have h4:(WTm.not (.lt (.lit (.int (n:Int))) (.len (.arg 0)))).holds [] { args:=[.list (ns.map .int)] }=true:=by
   have h4:=(holds_andW hc).1
   rw [hn] at h4
   exact h4
  have h5:=condW_of h4 (w_not (w_lt w_lit (w_len_list (w_arg rfl))))
  rw [List.length_map] at h5
  refine Nat.le_of_not_lt fun q=>?_
  have q':(n:Int) < ((ns.length:Nat):Int):=by omega
  first
   | (rw [decide_eq_true q'] at h5;exact absurd h5 (by decide))
   | (simp at h5;omega)
 cases hwl with
 | cons w1 w2=>
  cases w2
  cases w1 with
  | list ho hall=>exact ⟨_,_,ns,rfl,rfl,ho,ints_of_wellAll ns _ hall,hlen⟩
theorem post_true (l:OpenLaw) (args:List WData):l.row.toRowW.claim.post args (.bool true) args=true:=
 postW_of (r:=l.row.toRowW) (X:=(true == true))
  (show WShape.has [] (.bool true) .bool=true by first|rfl|decide|simp [WShape.has,WShape.arms,WShape.armsAll])
  (show (WTm.eq .res (.lit (.bool true))).value [] { args:=args,res:=some (.bool true),after:=args }=some (.bool (true == true)) from w_eq_bool (w_res rfl) w_lit) rfl
theorem attach_call {l:OpenLaw} {n:Nat} {q:Program} {loose:List Str} {XP:(Str→Option Value)→Heap→Prop} {YP:World→Heap→Prop} {d:DefRec}
  (hn:l.most=some n) (hdf:d.params.defaults=[])
  (call :∀(w:World) (s₀ s₁:Shared) (mg mb:Str→Option Value) (fa:Addr) (o:Obj) (pm cd doc:Value) (a:Addr) (vs:List Value) (ns:List Int),
   Ground q loose [] XP w s₀ mg mb s₁.heap→YP w s₁.heap→
   s₁.heap.get? fa=some o→o.data=.func (docDef d.name d.params d.body d.scope pm cd doc)→s₁.heap.CodeRec cd d.name→mg d.name=some (.ref fa)→
   s₁.heap.get? a=some { cls:=.type "list",data:=.seq vs.toArray }→IntsAre vs ns→ns.length≤n→s₁.gens = #[]→
   codeAny (model l.prog w) callerA (.call (.ref fa) ⟨[.ref a],[]⟩) (fun r s'=>r=.ok (.ret (.bool true))∧OldK s₁.heap s'.heap∧s'.os=s₁.os∧AllBare s'.gens) s₁) :
  WalkO q loose XP YP l.row.toRowW d [] (fun f vs=>PySem.call f vs):=by
 intro w s₀ s₁ mg mb G Y fa o pm cd doc dV kV ho hd hcd hD hmg hg args vals as hpre hlay hrd hwl hlo
 obtain rfl:dV=.none:=Dflts.none hD hdf
 obtain rfl:kV=.none:=Dflts.noKw hD
 obtain ⟨a,vs,ns,rfl,rfl,hobj,hints,hlen⟩:=script_of hn hpre hwl
 refine enter_call (codeAny_mono (call w s₀ s₁ mg mb fa o pm cd doc a vs ns G Y ho (fd_plain hd) hcd hmg hobj hints hlen hg) fun r s' hq=>?_)
 obtain ⟨rfl,h2,h3,h4⟩:=hq
 exact ⟨.inl ⟨.bool true,.bool true,[],rfl,fun _=>rfl,.bool true,post_true l _,fun _=>⟨List.Pairwise.nil,fun _ hm=>(nomatch hm)⟩⟩,h2,h3,h4⟩
section
variable {prog:Program} {w:World} {A:Around} {E:Value→Shared→Prop} {s:Shared} {K:Frag}
def noObjs (h:Heap):Heap:={ h with objs:=#[] }
def ledger (h:Heap) (L d:Addr):List (Addr×Obj):=(List.range h.objs.size).filterMap fun a=>if a=L∨a=d then none else (h.get? a).map fun o=>(a,o)
end
end Att
namespace L2
open PySem PySem.Spec PyProof.Rows
theorem vals_ints :∀{vs:List Value} {ns:List Int},IntsAre vs ns→Vals (ns.map V.int) vs
 | _,_,.nil=>.nil
 | _,_,.cons n t h=>.cons ⟨t,rfl⟩ (vals_ints h)
def Only (H:Hp):Prop:=∀b,H b=none∨∃o xs,H b=some (.frz o (.lst xs))
theorem law_call {P:Program} {w:World} {K:PySem.W.Frag} {mg mb:Str→Option Value} {CX:CXT} {k:Nat} {fa a:Addr} {fd:FuncData} {x:Str} {sp:Sp} {s₁:Shared} {vs:List Value} {ns:List Int}
  (KX:K.In s₁.heap) (hns:s₁.heap.Ns mainGlobals mg) (hb:s₁.heap.Ns builtinsNs mb) (hbb :∀x:Str,x≠"__name__"→mb x=bootBuiltins x) (hlim:s₁.heap.NoLimit) (hg:s₁.gens = #[])
  (ha:s₁.heap.get? a=some { cls:=.type "list",data:=.seq vs.toArray }) (hi:IntsAre vs ns) (hl:ns.length≤sizeLine) (hr:Room k callerA)
  (F :∀base:Heap,K.In base→base.Ns mainGlobals mg→FnOk P w K mg base CX k fa fd [x] sp) (hbind :∀(s:Shared) (u:Value),BindsTo s fd ⟨[u],[]⟩ [(x,u)])
  (hsp :∀H:Hp,Only H→SqL K H a (ns.map V.int)→sp [.ref a] H (fun v _=>v=.bl true) fun _ _ _=>False)
  (hCX :∀H e s',CX [] H s₁ (fun _ _ _=>False) e s'→False) :
  codeAny (model P w) callerA (.call (.ref fa) ⟨[.ref a],[]⟩) (fun r s'=>r=.ok (.ret (.bool true))∧OldK s₁.heap s'.heap∧s'.os=s₁.os∧AllBare s'.gens) s₁:=by
 have rv:=vals_ints hi
 have lenV:=hi.length
 -- from an abstract heap in which nothing but the script may be tracked
 have core :∀H:Hp,Only H→SqL K H a (ns.map V.int)→HOk P w H s₁.heap→(∀b,H b≠none→b=a)→(H a≠none→K.lookup a=none)→
   codeAny (model P w) callerA (.call (.ref fa) ⟨[.ref a],[]⟩) (fun r s'=>r=.ok (.ret (.bool true))∧OldK s₁.heap s'.heap∧s'.os=s₁.os∧AllBare s'.gens) s₁:=by
  intro H hO hS hok hA hK
  have base_of :∀{b:Addr} {o:Obj},s₁.heap.get? b=some o→H b=none→(hidT s₁.heap H).get? b=some o:=fun e n=>hidT_get e n
  have noA :∀{b:Addr} {o:Obj} {es:Array DictEntry} {ep:Nat},s₁.heap.get? b=some o→o.data=.dict es ep→H b=none:=fun {b o es ep} e d=>by
   cases q:H b with
   | none=>rfl
   | some u=>
    have e':b=a:=hA b (by rw [q];simp)
    subst e'
    rw [ha] at e;cases e
    have d':Data.seq vs.toArray _=Data.dict es ep:=d
    cases d'
  have nsK :∀{b:Addr} {m:Str→Option Value},s₁.heap.Ns b m→(hidT s₁.heap H).Ns b m:=fun {b m} ⟨o,es,ep,e,d,r⟩=>⟨o,es,ep,base_of e (noA e d),d,r⟩
  have hKb:K.In (hidT s₁.heap H):=fun b o e=>base_of (KX b o e) (by
   cases q:H b with
   | none=>rfl
   | some u=>
    have e':b=a:=hA b (by rw [q];simp)
    subst e'
    rw [hK (by rw [q];simp)] at e;cases e)
  have hM:Mod K mg (hidT s₁.heap H):=⟨hKb,nsK hns,⟨mb,nsK hb,hbb⟩,let ⟨mc,h1,h2⟩:=hlim;⟨mc,nsK h1,h2⟩⟩
  have e0:Env0 P w K mg (hidT s₁.heap H) callerA [] s₁ H:=⟨rfl,hM,fun b o e=>of_hidT e,Nat.le_of_eq (hidT_size _ _),trivial,fun b hb=>absurd (show b∈([]:List Addr) from hb) (by simp),hok,.of_eq hg⟩
  refine codeAny_mono ((F _ hKb (nsK hns)).run callerA [] s₁ H ⟨[.ref a],[]⟩ [.ref a] [.ref a] _ _ hr e0 (hbind s₁ (.ref a)) (.cons rfl .nil) (hsp H hO hS)) fun r s' h=>?_
  cases r with
  | error e=>exact (hCX H e s' h).elim
  | ok fl=>
   cases fl with
   | next=>exact False.elim h
   | brk=>exact False.elim h
   | cont=>exact False.elim h
   | ret u=>
    obtain ⟨v,H',os,bare,un,hok',r',q⟩:=h
    have q':v=.bl true:=q
    subst q'
    obtain rfl:u=Value.bool true:=r'
    refine ⟨rfl,OldK.of_keep fun b o e=>?_,os,bare⟩
    cases q:H b with
    | none=>exact un.keep b o e q (by intro z;exact absurd (show b∈([]:List Addr) from z) (by simp)) (by simp)
    | some u=>
     rcases hO b with z|⟨ob,xs,z⟩
     ·rw [q] at z;cases z
     ·have z2:=un.frzs b ob _ z
      obtain ⟨e1,_⟩:=hok b _ z
      obtain ⟨e2,_⟩:=hok' b _ z2
      rw [e] at e1;cases e1
      exact e2
 cases hk:K.lookup a with
 | some o=>
  -- the script is one of the module's own objects
  have e:=KX a o hk
  rw [ha] at e
  cases e
  refine core (fun _=>none) (fun _=>.inl rfl) (.inr ⟨_,vs.toArray,_,hk,rfl,rfl,rfl,by rw [List.size_toArray,lenV];exact hl,by simpa using rv⟩) (fun b u z=>by have z':(none:Option HO)=some u:=z;cases z') (fun b z=>absurd rfl z) fun z=>absurd rfl z
 | none=>
  refine core (fun b=>if b=a then some (.frz { cls:=.type "list",data:=.seq vs.toArray } (.lst (ns.map V.int))) else none) (fun b=>?_) (.inl (.inr ⟨{ cls:=.type "list",data:=.seq vs.toArray },if_pos rfl⟩)) (fun b u z=>?_) (fun b z=>?_) fun _=>hk
  ·by_cases hb:b=a
   ·exact .inr ⟨_,_,if_pos hb⟩
   ·exact .inl (if_neg hb)
  ·by_cases hb:b=a
   ·have z':=(if_pos hb).symm.trans z
    cases z'
    subst hb
    exact ⟨ha,by rw [List.length_map];exact hl,vs,_,rv,ha⟩
   ·have z':=(if_neg hb).symm.trans z
    cases z'
  ·by_cases hb:b=a
   ·exact hb
   ·exact absurd (if_neg hb) z
abbrev KOf {K:PySem.W.Frag} {h:Heap} (_:K.In h):PySem.W.Frag:=K
theorem walk_of {l:PySem.W.OpenLaw} {n k:Nat} {q:Program} {loose:List Str} {XP:(Str→Option Value)→Heap→Prop} {YP:World→Heap→Prop} {d:DefRec} {K:Params→PySem.W.Frag} {CX:World→CXT} {sp:World→Sp} {x:Str}
  (hn:l.most=some n) (hn2:n≤sizeLine) (hdf:d.params.defaults=[]) (hr:Room k callerA)
  (hY :∀(w:World) (h:Heap),YP w h→(K w.params).In h)
  (F :∀(w:World) (mg:Str→Option Value) (fa:Addr) (h:Heap),(K w.params).In h→h.Ns mainGlobals mg→mg d.name=some (.ref fa)→
   ∃fd:FuncData,(∀(s:Shared) (u:Value),BindsTo s fd ⟨[u],[]⟩ [(x,u)])∧
    ∀base:Heap,(K w.params).In base→base.Ns mainGlobals mg→FnOk l.prog w (K w.params) mg base (CX w) k fa fd [x] (sp w))
  (hsp :∀(w:World) (H:Hp) (a:Addr) (ns:List Int),ns.length≤n→Only H→SqL (K w.params) H a (ns.map V.int)→sp w [.ref a] H (fun v _=>v=.bl true) fun _ _ _=>False)
  (hCX :∀(w:World) (H:Hp) (s:Shared) (e:Value) (s':Shared),CX w [] H s (fun _ _ _=>False) e s'→False) :
  PySem.W.WalkO q loose XP YP l.row.toRowW d [] (fun f vs=>PySem.call f vs):=by
 refine Att.attach_call hn hdf fun w s₀ s₁ mg mb fa o pm cd doc a vs ns G Y ho hd hcd hmg hobj hints hlen hg=>?_
 have KX:=hY w _ Y
 obtain ⟨fd,hb,hF⟩:=F w mg fa _ KX G.T.g hmg
 exact law_call KX G.T.g G.T.b G.T.builtins G.T.nolimit hg hobj hints (Nat.le_trans hlen hn2) hr hF hb (fun H hO hS=>hsp w H a ns hlen hO hS) fun H e s'=>hCX w H s₁ e s'
def inClass (s:Stmt) (j:Nat):Stmt:=match s with
 | .ClassDef _ _ _ body _ _ _ _ _ _ _=>body.getD j (.Pass ⟨0,0,0,0⟩)
 | _=>.Pass ⟨0,0,0,0⟩
def defArgs (s:Stmt):Arguments:=match s with
 | .FunctionDef _ a _ _ _ _ _ _ _ _=>a
 | _=>{ posonlyargs:=[],args:=[],vararg:=none,kwonlyargs:=[],kw_defaults:=[],kwarg:=none,defaults:=[] }
def defBody (s:Stmt):List Stmt:=match s with
 | .FunctionDef _ _ b _ _ _ _ _ _ _=>b
 | _=>[]
def defScope (s:Stmt):Scope:=match s with
 | .FunctionDef _ _ _ _ _ _ sc _ _ _=>sc
 | _=>{ kind:=.function,names:=[],isGenerator:=false,isCoroutine:=false }
abbrev CX0:CXT:=fun _ _ _ _ _ _=>False
abbrev E0:XK:=fun _ _ _=>False
theorem pass0 {X:Cx}:Passes CX0 X E0:=fun _ _ _ _ _ _ _ h=>h.elim
structure Fun (K:PySem.W.Frag) (x qual:Str) (st:Stmt) (f:Addr) (fd:FuncData):Prop where
 ex :∃(oc:Value) (od:Option Addr) (kV doc pm:Value) (an:Option Addr) (cdv ct:Value) (osl:Array (Option Value)),
  fd=PySem.W.fnOf x qual (defArgs st) (defBody st) (defScope st) .none kV doc pm an cdv ct∧K.lookup f=some ⟨oc,od,.func fd,osl⟩∧PySem.W.codeIn K cdv qual=true
 kp:PySem.W.keepIn K (.ref f)=true
section
variable {P:Program} {w:World} {K:PySem.W.Frag} {mg:Str→Option Value} {base:Heap}
theorem Fun.ok {x qual:Str} {st:Stmt} {f:Addr} {fd:FuncData} {N ps:List Str} {k:Nat} {sp:Sp} (F:Fun K x qual st f fd) (S:FnScope N ps (defScope st)) (len :∀vs H Q E,sp vs H Q E→vs.length=ps.length)
  (hbody :∀(cdv:Value) (A:Around) (outer:List Env) (s:Shared) (H:Hp) (vs:List V) (Q:VK) (E:XK),Room k (A.deeper (envOfC qual (defScope st) s.heap.objs.size f cdv))→sp vs H Q E→
   ∃t,PSs (cxOf CX0 P w K mg base N qual (defScope st) f cdv A outer s H E).nox (defBody st) t∧t { nx:=fun _ H'=>Q .non H',rt:=Q } (start N vs) H):FnOk P w K mg base CX0 (k + 1) f fd ps sp:=by
 obtain ⟨oc,od,kV,doc,pm,an,cdv,ct,osl,rfl,lk,hcd⟩:=F.ex
 refine fn_of lk hcd S len fun A outer s H vs Q E hr hsp=>?_
 obtain ⟨t,h,q⟩:=hbody cdv A outer s H vs Q E hr hsp
 exact ⟨t,h.nox,q⟩
theorem Fun.binds {x qual:Str} {st:Stmt} {f:Addr} {fd:FuncData} {ps:List Str} (F:Fun K x qual st f fd)
  (h :∀(kV doc pm:Value) (an:Option Addr) (cdv ct:Value) (us:List Value),us.length=ps.length→bindArgs (PySem.W.fnOf x qual (defArgs st) (defBody st) (defScope st) .none kV doc pm an cdv ct) ⟨us,[]⟩=pure (ps.zip us)):Binds K fd ps []:=by
 obtain ⟨oc,od,kV,doc,pm,an,cdv,ct,osl,rfl,lk,hcd⟩:=F.ex
 exact .all (h kV doc pm an cdv ct)
theorem fun_mk {x qual:Str} {st:Stmt} {f:Addr} {oc:Value} {od an:Option Addr} {osl:Array (Option Value)} {kV doc pm cdv ct:Value} (l:K.lookup f=some ⟨oc,od,.func (PySem.W.fnOf x qual (defArgs st) (defBody st) (defScope st) .none kV doc pm an cdv ct),osl⟩)
  (c:PySem.W.codeIn K cdv qual=true) (k:PySem.W.keepIn K (.ref f)=true):Fun K x qual st f (PySem.W.fnOf x qual (defArgs st) (defBody st) (defScope st) .none kV doc pm an cdv ct):=⟨⟨oc,od,kV,doc,pm,an,cdv,ct,osl,rfl,l,c⟩,k⟩
end
theorem hu_of {A:Around} {k:Nat} (hr:Room k A):A.units + 1 < cLine:=Nat.lt_of_le_of_lt (Nat.add_le_add_left (by decide:1≤64) _) hr.units
section
variable {X:Cx}
theorem pv (i:Nat) {x:Str} {pos:Pos} (hN:X.N[i]? = some x:=by rfl) (hv:Vis X.env.scope x:=by first|exact Or.inl rfl|exact Or.inr (Or.inl rfl)|exact Or.inr (Or.inr rfl)) (hd:(x == ("__debug__" : Str))=false:=by decide)
  (hcd:(x == ("__classdict__" : Str))=false:=by decide):PE X (.Name x pos) (tVar i):=pe_var hN hv hd hcd
end
theorem iteF {A B:Prop} (h:B):if false=true then A else B:=by
 rw [if_neg Bool.false_ne_true]
 exact h
theorem iteT {A B:Prop} (h:A):if true=true then A else B:=by
 rw [if_pos rfl]
 exact h
theorem ite2 {c A B:Prop} [Decidable c] (h1:c→A) (h2:¬ c→B):if c then A else B:=by
 by_cases h:c
 ·rw [if_pos h]
  exact h1 h
 ·rw [if_neg h]
  exact h2 h
def Same (H H':Hp):Prop:=∀b o,H b=some o→H' b=some o
theorem Same.refl (H:Hp):Same H H:=fun _ _ h=>h
theorem Same.trans {H H1 H2:Hp} (a:Same H H1) (b:Same H1 H2):Same H H2:=fun c o h=>b c o (a c o h)
theorem Same.free {H H':Hp} (e:Same H H') {l:Addr} (h:H' l=Option.none):H l=Option.none:=by
 cases q:H l with
 | none=>rfl
 | some o=>
  rw [e l o q] at h
  cases h
theorem Same.seq {K:PySem.W.Frag} {H H':Hp} {a:Addr} {xs:List V} (e:Same H H') (h:SqL K H a xs):SqL K H' a xs:=by
 rcases h with (h|⟨o,h⟩)|h
 ·exact .inl (.inl (e _ _ h))
 ·exact .inl (.inr ⟨o,e _ _ h⟩)
 ·exact .inr h
section
variable {κ:Type} [DecidableEq κ]
theorem dropK_pos {p:κ×V} {r:List (κ×V)} {k:κ} (e:p.1=k):dropK (p :: r) k=dropK r k:=by
 unfold dropK
 rw [List.filter_cons,if_neg (by simp [e])]
theorem dropK_neg {p:κ×V} {r:List (κ×V)} {k:κ} (e:¬ p.1=k):dropK (p :: r) k=p :: dropK r k:=by
 unfold dropK
 rw [List.filter_cons,if_pos (by simp [e])]
end
end L2
set_option maxHeartbeats 4000000
namespace L2
open PySem PySem.Spec PyProof.Rows
section
variable {prog:Program} {w:World} {A:Around} {R:Result→Shared→Prop} {s:Shared}
theorem comp_loop {elt target iter:Expr} {ifs:List Expr} {scope:Scope} {pos:Pos} {it acc:Value} {env:Env} (J:Nat→Shared→Prop)
  (turn :∀n s,J n s→wpAny (model prog w) A (pyNext it) (fun r s₁=>match r with
   | none=>R (.ok .next) s₁
   | some v=>wpAny (model prog w) A (letOwnedTupleGo target it v) (fun _ s₂=>wpAny (model prog w) A (assign target env v) (fun _ s₃=>
     wpAny (model prog w) A (forIn ifs true fun c r=>if r=true then do let ok ←isTrue c env (eval c env);pure (ForInStep.yield ok) else pure (ForInStep.yield r)) (fun ok s₄=>
      if ok=true then wpAny (model prog w) A (eval elt env) (fun x s₅=>wpAny (model prog w) A (call (.builtin "list.append") [acc,x]) (fun _ s₆=>∃m,m < n∧J m s₆) (fun _ _=>False) s₅) (fun _ _=>False) s₄
      else∃m,m < n∧J m s₄) (fun _ _=>False) s₃) (fun _ _=>False) s₂) (fun _ _=>False) s₁) (fun _ _=>False) s)
  (n:Nat) (h:J n s):codeAny (model prog w) A (.compLoop (.ListComp elt [⟨target,iter,ifs,0⟩] scope pos) 0 it acc env) R s:=by
 refine codeAny_loop rfl J (fun n s hJ=>?_) n h
 show wpAny _ A ((compTurn (.ListComp elt [⟨target,iter,ifs,0⟩] scope pos) 0 it acc env).onRaise (fun x=>do noteFrame x env;theTreesLotGoes x)) _ _ s
 refine wpAny_noted ?_
 rw [compTurn_list]
 refine wpAny_bind (wpAny_standAt (wpAny_bind (wpAny_mono (turn n s hJ) (fun r s₁ h₁=>?_) fun _ _ f=>f.elim)))
 cases r with
 | none=>exact wpAny_pure h₁
 | some v=>
  refine wpAny_bind (wpAny_mono h₁ (fun _ s₂ h₂=>wpAny_bind (wpAny_mono h₂ (fun _ s₃ h₃=>wpAny_bind (wpAny_mono h₃ (fun ok s₄ h₄=>?_) fun _ _ f=>f.elim)) fun _ _ f=>f.elim)) fun _ _ f=>f.elim)
  cases ok with
  | false=>exact wpAny_pure ⟨rfl,h₄⟩
  | true=>exact wpAny_bind (wpAny_bind (wpAny_mono h₄ (fun x s₅ h₅=>wpAny_bind (wpAny_mono h₅ (fun _ s₆ h₆=>wpAny_pure (wpAny_pure ⟨rfl,h₆⟩)) fun _ _ f=>f.elim)) fun _ _ f=>f.elim))
end
theorem closure_fold {env:Env} :∀(names:List (Str×NameKind)) (acc:List (Str×Addr)),(∀y∈names,y.2=NameKind.free→∃c,env.cells.lookup y.1=some c)→(∀y c,acc.lookup y=some c→env.cells.lookup y=some c)→
  ∃cl,(forIn names acc fun (x:Str×NameKind) (r:List (Str×Addr))=>(match x with
    | (name,kind)=>if (kind == NameKind.free)=true then do let c ←cellOf env name;pure (ForInStep.yield ((name,c) :: r)) else pure (ForInStep.yield r):Sem (ForInStep (List (Str×Addr)))))=pure cl∧
   (∀y c,cl.lookup y=some c→env.cells.lookup y=some c)∧(∀y,((y,NameKind.free)∈names∨∃c,acc.lookup y=some c)→∃c,cl.lookup y=some c)
 | [],acc,_,ha=>⟨acc,by rw [List.forIn_nil],ha,fun y h=>h.elim (fun z=>nomatch z) id⟩
 | (n,k) :: r,acc,hf,ha=>by
  rw [List.forIn_cons]
  dsimp only
  by_cases hk:k=NameKind.free
  ·subst hk
   obtain ⟨c,hc⟩:=hf (n,.free) List.mem_cons_self rfl
   have e:cellOf env n=pure c:=by unfold cellOf;rw [hc]
   rw [if_pos (by rfl),e]
   obtain ⟨cl,h1,h2,h3⟩:=closure_fold r ((n,c) :: acc) (fun y hy=>hf y (List.mem_cons_of_mem _ hy)) (fun y d hd=>by
    rw [List.lookup_cons] at hd
    by_cases hy:(y == n)=true
    ·rw [hy] at hd
     have:=eq_of_beq hy
     subst this
     cases hd
     exact hc
    ·rw [Bool.not_eq_true] at hy
     rw [hy] at hd
     exact ha y d hd)
   refine ⟨cl,h1,h2,fun y hy=>h3 y ?_⟩
   rcases hy with hy|⟨d,hd⟩
   ·rcases List.mem_cons.mp hy with z|z
    ·cases z
     exact .inr ⟨c,by rw [List.lookup_cons];simp⟩
    ·exact .inl z
   ·refine .inr ?_
    rw [List.lookup_cons]
    by_cases hy:(y == n)=true
    ·rw [hy];exact ⟨c,rfl⟩
    ·rw [Bool.not_eq_true] at hy
     rw [hy];exact ⟨d,hd⟩
  ·rw [if_neg (by simpa using hk)]
   obtain ⟨cl,h1,h2,h3⟩:=closure_fold r acc (fun y hy=>hf y (List.mem_cons_of_mem _ hy)) ha
   refine ⟨cl,h1,h2,fun y hy=>h3 y ?_⟩
   rcases hy with hy|hy
   ·rcases List.mem_cons.mp hy with z|z
    ·cases z;exact absurd rfl hk
    ·exact .inl z
   ·exact .inr hy
theorem closure_ok {scope:Scope} {env:Env} (hf :∀y∈scope.names,y.2=NameKind.free→∃c,env.cells.lookup y.1=some c) :
  ∃cl,closureFor scope env=pure cl∧(∀y c,cl.lookup y=some c→env.cells.lookup y=some c)∧(∀y,(y,NameKind.free)∈scope.names→∃c,cl.lookup y=some c):=by
 obtain ⟨cl,h1,h2,h3⟩:=closure_fold (env:=env) scope.names [] hf (fun _ _ z=>nomatch z)
 refine ⟨cl,?_,h2,fun y hy=>h3 y (.inl hy)⟩
 simp only [closureFor]
 rw [h1]
 rfl
theorem mem_of_lookup {κ:Type} {y:Str} {k:κ} :∀{l:List (Str×κ)},l.lookup y=some k→(y,k)∈l
 | (n,c) :: r,h=>by
  rw [List.lookup_cons] at h
  by_cases hy:(y == n)=true
  ·rw [hy] at h;cases h;rw [eq_of_beq hy];exact List.mem_cons_self
  ·rw [Bool.not_eq_true] at hy;rw [hy] at h;exact List.mem_cons_of_mem _ (mem_of_lookup h)
theorem relabel_free {scope:Scope} {env:Env} (hcell :∀y∈scope.names,y.2≠NameKind.cell) {y:Str} {k:NameKind} (h:(relabel scope env).names.lookup y=some k) (hk:k=.cell∨k=.free):(y,NameKind.free)∈scope.names:=by
 have m:=mem_of_lookup h
 unfold relabel at m
 obtain ⟨⟨n,c⟩,hm,e⟩:=List.mem_map.mp m
 dsimp only at e
 by_cases hc:(c == NameKind.free)=true
 ·have:=eq_of_beq hc
  subst this
  split at e<;>(injection e with e1 e2;subst e1;exact hm)
 ·rw [if_neg (by simp [hc])] at e
  injection e with e1 e2
  subst e1 e2
  rcases hk with rfl|rfl
  ·exact absurd rfl (hcell _ hm)
  ·exact absurd rfl hc
abbrev cxComp (X:Cx) (scope:Scope) (cl:List (Str×Addr)) (N:List Str) (C:Addr) (s₂:Shared) (H₂:Hp) (fp:List Addr):Cx:=
 { X with N:=N,s₀:=s₂,H₀:=H₂,env:=compEnvC scope cl C X.env,outer:=X.stack,stack:=X.stack,ex:=fp,fn:=fun _=>false,pn:=[],xe:=fun _ _=>False }
def PF (X:Cx) (ifs:List Expr) (t:TT):Prop:=
 ∀(pins:List (Addr×Obj)) (s:Shared) (σ:St) (H:Hp) (Q:Bool→Hp→Prop),Inv X pins σ H s→t σ H Q→
  wpAny (model X.prog X.w) X.A (forIn ifs true fun c r=>if r=true then do let ok ←isTrue c X.env (eval c X.env);pure (ForInStep.yield ok) else pure (ForInStep.yield r)) (TP X pins σ Q) X.xe s
theorem pf_nil {X:Cx}:PF X [] (fun _ H Q=>Q true H):=fun _ _ _ H _ I h=>wpAny_tests_nil ⟨H,I,h⟩
theorem pf_one {X:Cx} {c:Expr} {t:TT} (h:PT X c t):PF X [c] t:=fun pins s σ H Q I q=>wpAny_tests_one (h pins s σ H Q I q)
def cSt (σ:St) (fr:List (Nat×Str)) (v:Option V):St:=v :: fr.map fun p=>(σ[p.1]?).join
def tComp (wi:TI) (fr:List (Nat×Str)) (tc:TT) (te:TE):TE:=fun σ H Q=>wi σ H fun J H1=>∃W:Nat→Nat→List V→Hp→Prop,(∃m,W 0 m [] H1)∧∀i m ys H,W i m ys H→
 (J.stop i H∧ys.length≤sizeLine∧∀p,H p=none→Q (.ref p) (upd H p (.lst ys)))∨
 (J.go i H∧ys.length≤sizeLine∧∀v H',J.yld i H v H'→tc (cSt σ fr (some v)) H' fun b H2=>if b=true then te (cSt σ fr (some v)) H2 fun y H3=>∃m',m' < m∧W (i + 1) m' (ys++[y]) H3 else∃m',m' < m∧W (i + 1) m' ys H2)
theorem Vals.snoc {xs:List V} {us:List Value} {x:V} {u:Value} (r:Vals xs us) (q:RelV x u):Vals (xs++[x]) (us++[u]):=Vals.append r (.cons q .nil)
def TagOf (H:Hp) (x:V) (T:String):Prop:=match x with
 | .non=>T = "NoneType"
 | .bl _=>T = "bool"
 | .int _=>T = "int"
 | .str _=>T = "str"
 | .ref a=>((∃xs,H a=some (.lst xs))∧T = "list")∨((∃xs,H a=some (.tup xs))∧T = "tuple")∨((∃kvs,H a=some (.dK kvs))∧T = "dict")
 | _=>False
def instB (T C:String):Bool:=T == C || (T == "bool" && C == "int")
theorem TagOf.ty {K:PySem.W.Frag} {H:Hp} {x:V} {T:String} (h:TagOf H x T):TyOf K H x (.type T):=by
 cases x with
 | non=>cases (show T = "NoneType" from h);exact .non
 | bl b=>cases (show T = "bool" from h);exact .bl b
 | int i=>cases (show T = "int" from h);exact .int i
 | str z=>cases (show T = "str" from h);exact .str z
 | ref a=>
  rcases h with ⟨⟨xs,e⟩,rfl⟩|⟨⟨xs,e⟩,rfl⟩|⟨⟨xs,e⟩,rfl⟩
  ·exact .lst e
  ·exact .tup e
  ·exact .dK e
 | _=>exact h.elim
theorem TagOf.one {H:Hp} {x:V} {T:String} (h:TagOf H x T):T = "NoneType"∨T = "bool"∨T = "int"∨T = "str"∨T = "list"∨T = "tuple"∨T = "dict":=by
 cases x with
 | non=>exact .inl h
 | bl b=>exact .inr (.inl h)
 | int i=>exact .inr (.inr (.inl h))
 | str z=>exact .inr (.inr (.inr (.inl h)))
 | ref a=>
  rcases h with ⟨_,rfl⟩|⟨_,rfl⟩|⟨_,rfl⟩<;>simp
 | _=>exact h.elim
def isiC:List String:=["int","str","bool","tuple","list"]
theorem kit_of (K:PySem.W.Frag) {T C:String} (h:T = "NoneType"∨T = "bool"∨T = "int"∨T = "str"∨T = "list"∨T = "tuple"∨T = "dict") (hC:C∈isiC):PySem.W.kitOne K (.type T) (.type C)=some (instB T C):=by
 have hC:C = "int"∨C = "str"∨C = "bool"∨C = "tuple"∨C = "list":=by simpa [isiC] using hC
 rcases h with rfl|rfl|rfl|rfl|rfl|rfl|rfl<;>rcases hC with rfl|rfl|rfl|rfl|rfl<;>kernel_rfl
section
variable {X:Cx}
theorem call_isinst:CallR X (.builtin "isinstance") (fun xs H Q=>∃x C T,xs=[x,.ty C]∧TagOf H x T∧C∈isiC∧Q (.bl (instB T C)) H):=by
 intro pins s σ H xs us Q I r h
 obtain ⟨x,C,T,rfl,ht,hC,q⟩:=h
 obtain ⟨u,w',rfl,rx,ry⟩:=vals2 r
 cases (show w'=Value.type C from ry)
 exact isinst_ok I rx ht.ty (kit_of X.K ht.one hC) fun tk=>⟨.bl _,H,I.tok tk,rfl,q⟩
theorem all_range {ys:List V} {its:List Value} (rv:Vals ys its) (hb :∀y∈ys,∃b,y=V.bl b):((List.range its.length).all fun i=>decide (ys[i]? = some (V.bl true)))=ys.all fun y=>decide (y=V.bl true):=by
 have hl:=rv.length
 rw [Bool.eq_iff_iff,List.all_eq_true,List.all_eq_true]
 constructor
 ·intro h y hy
  obtain ⟨i,hi,rfl⟩:=List.getElem_of_mem hy
  have:=h i (List.mem_range.mpr (by omega))
  simpa [hi] using this
 ·intro h i hi
  have hi':i < ys.length:=by have:=List.mem_range.mp hi;omega
  have:=h ys[i] (List.getElem_mem hi')
  simpa [hi'] using this
theorem call_allL (hc:X.calm=true):CallR X (.builtin "all") (fun xs H Q=>∃p ys,xs=[.ref p]∧SqL X.K H p ys∧(∀y∈ys,∃b,y=V.bl b)∧Q (.bl (ys.all fun y=>decide (y=V.bl true))) H):=by
 intro pins s σ H xs us Q I r h
 obtain ⟨p,ys,rfl,hq,hb,q⟩:=h
 obtain ⟨u,rfl,rx⟩:=vals1 r
 cases rx
 obtain ⟨its,rv,pl,hz⟩:=I.list hq
 have hne:p≠s.heap.objs.size:=by
  obtain ⟨o,e,_⟩:=pl.isList
  exact Nat.ne_of_lt (Heap.lt_size e)
 refine call_all_walk (wpAny_pyIter_list pl.isList ?_)
 refine ⟨s.heap.objs.size,_,_,_,_,_,fun i=>decide (ys[i]? = some (V.bl true)),rfl,Walks.list (show X.A.in1.handled=none from I.ok.hd hc) s.heap.objs.size p hne its.toArray,⟨⟨_,Heap.get?_push_size _ rfl,rfl,rfl⟩,pl.isList.at fun o e=>Heap.get?_push_of_some _ e⟩,?_,?_⟩
 ·intro i v s' Q' E' hv hQ'
  have hv:its[i]? = some v:=by simpa using hv
  obtain ⟨hi,e⟩:=List.getElem?_eq_some_iff.mp hv
  have hi':i < ys.length:=by rw [rv.length];exact hi
  obtain ⟨b,eb⟩:=hb ys[i] (List.getElem_mem hi')
  obtain ⟨u,e1,e2⟩:=rv.get (i:=i) (x:=ys[i]) (by simp [hi'])
  rw [hv] at e1
  cases e1
  rw [eb] at e2
  cases (show v=Value.bool b from e2)
  have:decide (ys[i]? = some (V.bl true))=b:=by
   rw [List.getElem?_eq_getElem hi',eb]
   cases b<;>simp
  exact wpAny_truthy_bool (this ▸ hQ')
 ·intro h' tk hk
  have e:=all_range rv hb
  rw [←List.size_toArray] at e
  refine ⟨.bl _,H,I.kept (t':=tk) fun b o z=>hk b o ?_ (Heap.get?_push_of_some _ z),rfl,e.symm ▸ q⟩
  intro hb'
  rw [List.mem_singleton.mp hb'] at z
  exact absurd (Heap.lt_size z) (Nat.lt_irrefl _)
def CDivB (i j:Int):Prop:=0 < j∧j < 2 ^ 64
theorem op_fdivB:OpR X (binaryOp .FloorDiv) (rI CDivB fun i j=>.int (i / j)):=opI fun i j _ _ _ _ _ hc q=>by
 obtain ⟨h0,h1⟩:=hc
 refine floordiv_int (by omega) ?_ (.inl (PyProof.noPylong_of_log2 ?_))
 ·rw [Int.fdiv_eq_ediv_of_nonneg _ (by omega)]
  exact q
 ·have:j.natAbs.log2 < 64:=(Nat.log2_lt (by omega)).mpr (by omega)
  omega
structure KDict (K:PySem.W.Frag) (P:Params) (a:Addr) (kvs:List (Str×V)):Prop where
 ex :∃es n,K.lookup a=some ⟨.type "dict",none,.dict es n,#[]⟩∧Paired (fun (p:Str×V) (e:DictEntry)=>(∃t,e.key=.str p.1 t)∧e.hash=PyData.keyHash P p.1∧RelV p.2 e.val) kvs es.toList
 lo:(a == sysModules)=false
structure KDictT (K:PySem.W.Frag) (P:Params) (a:Addr) (kvs:List ((Str×Str)×V)):Prop where
 ex :∃es n,K.lookup a=some ⟨.type "dict",none,.dict es n,#[]⟩∧Paired (fun (p:(Str×Str)×V) (e:DictEntry)=>(∃(b:Addr) (t t':Tok) (m:Nat),e.key=.ref b∧K.lookup b=some ⟨.type "tuple",none,.seq #[.str p.1.1 t,.str p.1.2 t'] m,#[]⟩)∧
  e.hash=reduceHash (Builtin.Tuple.tupleHashOf [PyData.keyHash P p.1.1,PyData.keyHash P p.1.2])∧RelV p.2 e.val) kvs es.toList
 nd:(kvs.map (·.1)).Nodup
 lo:(a == sysModules)=false
end
structure Cal (P:Program) (w:World) (K:PySem.W.Frag) (mg:Str→Option Value) (base:Heap) (x:Str) (ps:List Str) (k:Nat) (sp:Sp):Prop where
 ex :∃f fd,FnOk P w K mg base CX0 k f fd ps sp∧mg x=some (.ref f)∧PySem.W.keepIn K (.ref f)=true∧Binds K fd ps []
section
variable {X:Cx} {x:Str} {ps:List Str} {k:Nat} {sp:Sp} {e:Expr} {es:List Expr} {t:TA} {p pos:Pos}
theorem pe_cal (c:Cal X.prog X.w X.K X.mg X.base x ps k sp) (hr:Room k X.A) (hg:Gl X x) (ha:PA X (e :: es) t) (hn:x≠"__name__":=by decide) (hdb:(x == ("__debug__" : Str))=false:=by decide)
  (he:starEach (e :: es) X.env=(false,eval e X.env) :: starEach es X.env:=by rfl) (hpl:(backTo pos (starEach es X.env)).any (·.1)=false:=by rfl):PE X (.Call (.Name x p) (e :: es) [] pos) (tCall sp [] E0 t):=by
 obtain ⟨f,fd,F,hm,hk,hb⟩:=c.ex
 exact pe_call F hr hg hm hk hb .nil pass0 ha hdb he hpl
end
structure TX (K:PySem.W.Frag) (mg:Str→Option Value):Prop where
 of :∀{n:Str} {v:Value},PySem.W.nsIn K mainGlobals n=some (some v)→mg n=some v
 no :∀{n:Str},PySem.W.nsIn K mainGlobals n=some none→mg n=none
theorem TX.mk' {K:PySem.W.Frag} {mg:Str→Option Value} {h:Heap} (X:K.In h) (G:h.Ns mainGlobals mg):TX K mg:=⟨fun e=>PySem.W.mg_of X G e,fun e=>PySem.W.mg_none_of X G e⟩
section
variable {X:Cx}
def rAdd4 (K:PySem.W.Frag):R2:=fun x y H Q=>(∃i j,x=.int i∧y=.int j∧Q (.int (i + j)) H)∨(∃i j,x=.str i∧y=.str j∧i.length + j.length≤sizeLine∧Q (.str (i++j)) H)∨rCat x y H Q∨rCatT K x y H Q
theorem opAdd:OpR X (binaryOp .Add) (rAdd4 X.K):=op_add.or (op_add_str.or (op_cat.or op_catT))
theorem opEq:OpR X (compareOp .Eq) rEq:=op_eq
theorem opNe:OpR X (compareOp .NotEq) rNe:=op_ne
theorem callLen:CallR X (.builtin "len") (fun xs H Q=>(∃p ys,xs=[.ref p]∧(SqL X.K H p ys∨SqT X.K H p ys)∧Q (.int ys.length) H)∨∃z,xs=[.str z]∧z.length≤sizeLine∧Q (.int z.length) H):=call_len_seq.or call_len_str
end
def wholeIn (x:V) (g:Int):Bool:=match x with
 | .int i=>decide (-g≤i) && decide (i≤g)
 | _=>false
def tupOf (H:Hp) (x:V):Option (List V):=match x with
 | .ref a=>(match H a with|some (.tup xs)=>some xs|_=>none)
 | _=>none
def Flat (H:Hp) (x:V):Prop:=∀xs,tupOf H x=some xs→xs.length≤1000∧∀y∈xs,∃T,TagOf H y T
theorem free_none {names:List (Str×NameKind)} {Q:Str×NameKind→Prop} (h:(names.all fun y=>y.2 != NameKind.free)=true) :∀y∈names,y.2=NameKind.free→Q y:=fun y hy e=>by
 have:=List.all_eq_true.mp h y hy
 rw [e] at this
 exact absurd this (by decide)
theorem Same.upd {H:Hp} {p:Addr} {o:HO} (h:H p=none):Same H (upd H p o):=fun b u e=>by
 rw [upd_ne (ne_of_none e h)]
 exact e
theorem Same.seqT {K:PySem.W.Frag} {H H':Hp} {a:Addr} {xs:List V} (e:Same H H') (h:SqT K H a xs):SqT K H' a xs:=by
 rcases h with (h|⟨o,h⟩)|h
 ·exact .inl (.inl (e _ _ h))
 ·exact .inl (.inr ⟨o,e _ _ h⟩)
 ·exact .inr h
end L2
namespace L2
open PySem PySem.Spec PyProof.Rows
open Builtin.Str (occurrences partsBetween strKind)
section
variable {X:Cx}
def rSplit:V→List V→Hp→VK→Prop:=fun x vs H Q=>∃z y,x=.str z∧vs=[.str y]∧(y.length == 0)=false∧z.length≤sizeLine∧(partsBetween z (occurrences z y 0 z.length (z.length + 1)) y.length).length≤sizeLine∧
 ∀p,H p=none→Q (.ref p) (upd H p (.lst ((Txt.split z y).map V.str)))
def rUpper:V→List V→Hp→VK→Prop:=fun x vs H Q=>∃z,x=.str z∧vs=[]∧z.length≤5592405∧((Txt.upper z).length≤3 * z.length→Q (.str (Txt.upper z)) H)
theorem isPart_of {vl:Value} {lo:Option Int} (p:IsPart vl lo) :∃l:Option (Int×Tok),vl=partValue l∧l.map (·.1)=lo:=by
 cases p with
 | none=>exact ⟨none,rfl,rfl⟩
 | int i t=>exact ⟨some (i,t),rfl,rfl⟩
end
end L2
namespace L2
open PySem PySem.Spec PyProof.Rows
section
variable {X:Cx}
def rSlS:V→Option Int→Option Int→Hp→VK→Prop:=fun x lo hi H Q=>∃z,x=.str z∧z.length≤sizeLine∧Q (.str (Txt.slice z lo hi)) H
theorem sl_str:SlR X rSlS:=by
 intro pins s σ H x v vl vu lo hi sl Q I rx hs pl pu h
 obtain ⟨z,rfl,hz,q⟩:=h
 obtain ⟨t,rfl⟩:=rx
 obtain ⟨l,rfl,el⟩:=isPart_of pl
 obtain ⟨u,rfl,eu⟩:=isPart_of pu
 subst el eu
 refine ⟨"str",_,F.slot_str_getitem.lookup,typeIs_str _ _ _,wpAny_getItem_str_slice (l:=l) (u:=u) (st:=none) hs rfl
  (post_val_or_str ⟨Nat.le_trans (Txt.slice_le z _ _) hz,fun t' k=>⟨.str (Txt.slice z _ _),H,I.tok k,⟨t',rfl⟩,q⟩⟩)⟩
theorem slSeq:SlR X (fun x lo hi H Q=>rSlL X.K x lo hi H Q∨rSlT X.K x lo hi H Q∨rSlS x lo hi H Q):=sl_list.or (sl_tup.or sl_str)
theorem call_intT:CallR X (.type "int") (fun xs H Q=>∃z n,xs=[.str z]∧PySem.intText? z=some n∧z.length≤640∧Q (.int n) H):=by
 intro pins s σ H xs us Q I r h
 obtain ⟨z,n,rfl,hn,hl,q⟩:=h
 obtain ⟨u,rfl,t,rfl⟩:=vals1 r
 exact PySem.W.KIN.call_text hn hl ⟨.int n,H,I.tok _,⟨_,rfl⟩,q⟩
theorem call_int:CallR X (.type "int") (fun xs H Q=>((∃i,xs=[.int i]∧Q (.int i) H)∨∃k,xs=[.bl k]∧Q (.int (if k then 1 else 0)) H)∨∃z n,xs=[.str z]∧PySem.intText? z=some n∧z.length≤640∧Q (.int n) H):=call_int1.or call_intT
end
def Itr3 (lo c:Int) (n:Nat):It:=⟨fun i _=>i < n,fun i H x H'=>H'=H∧x=.int (lo + i * c),fun i _=>n≤i⟩
section
variable {X:Cx} {tg:Expr}
def iRng3 (ta:TA):TI:=fun σ H R=>ta σ H fun vs H1=>∃i j c:Int,vs=[.int i,.int j,.int c]∧c≠0∧Builtin.divisionGoesByPylong (j - i) c=false∧Builtin.Range.small i j c=true∧0≤Builtin.Range.rangeSize i j c∧R (Itr3 i c (Builtin.Range.rangeSize i j c).toNat) H1
end
def RowAt (H:Hp) (r:Addr):Prop:=∃a b c:Int,H r=some (.lst [.int a,.int b,.int c])∧0≤c∧c < 536870909
def Kept (r:Addr) (H H':Hp):Prop:=∀b o,b≠r→H b=some o→H' b=some o
theorem Kept.refl {r:Addr} {H:Hp}:Kept r H H:=fun _ _ _ h=>h
theorem Kept.trans {r:Addr} {H H1 H2:Hp} (a:Kept r H H1) (b:Kept r H1 H2):Kept r H H2:=fun c o n h=>b c o n (a c o n h)
theorem Same.kept {r:Addr} {H H':Hp} (s:Same H H'):Kept r H H':=fun b o _ h=>s b o h
theorem Kept.set {r:Addr} {H:Hp} {o:HO}:Kept r H (upd H r o):=fun b u n h=>by rw [upd_ne n];exact h
structure Rw (r:Addr) (H H':Hp):Prop where
 k:Kept r H H'
 r:RowAt H' r
theorem Rw.trans {r:Addr} {H H1 H2:Hp} (a:Rw r H H1) (b:Rw r H1 H2):Rw r H H2:=⟨a.k.trans b.k,b.r⟩
theorem RowAt.same {r:Addr} {H H':Hp} (h:RowAt H r) (s:Same H H'):RowAt H' r:=by
 obtain ⟨a,b,c,e,h⟩:=h
 exact ⟨a,b,c,s _ _ e,h⟩
theorem Rw.same {r:Addr} {H H1 H2:Hp} (a:Rw r H H1) (s:Same H1 H2):Rw r H H2:=⟨a.k.trans s.kept,a.r.same s⟩
theorem RowAt.rw {r:Addr} {H:Hp} (h:RowAt H r):Rw r H H:=⟨.refl,h⟩
theorem RowAt.fresh {r p:Addr} {H:Hp} (h:RowAt H r) (e:H p=none):p≠r:=by
 obtain ⟨a,b,c,e2,_⟩:=h
 intro z
 subst z
 rw [e] at e2
 cases e2
def Off (r:Addr) (H:Hp) (x:V):Prop:=∃T,TagOf H x T∧x≠.ref r
def Good (r:Addr) (H:Hp) (x:V):Prop:=Off r H x∧∀xs,tupOf H x=some xs→xs.length≤1000∧∀y∈xs,Off r H y
def GE (r:Addr) (te:TE) (σ:St) (H0:Hp):Prop:=∀H,Same H0 H→∀Q:VK,(∀x H',Same H H'→Good r H' x→Q x H')→te σ H Q
def GA (r:Addr) (n:Nat) (ta:TA) (σ:St) (H0:Hp):Prop:=∀H,Same H0 H→∀Q:List V→Hp→Prop,(∀xs H',Same H H'→xs.length=n→(∀y∈xs,Good r H' y)→Q xs H')→ta σ H Q
theorem atI_of {α:Type} {xs:List α} {t:Int} (h0:0≤t) (h1:t < xs.length) :∃v,atI xs t=some v∧v∈xs:=by
 have hl:t.toNat < xs.length:=by omega
 refine ⟨xs[t.toNat],?_,List.getElem_mem hl⟩
 have:=atI_nat (xs:=xs) (j:=t.toNat) (v:=xs[t.toNat]) (by simp [hl])
 rw [Int.toNat_of_nonneg h0] at this
 exact this
theorem seq_if {c:TT} {t u rest:TS} {D:Ends} {σ:St} {H:Hp} (R:Hp→Prop) (hr :∀H1,R H1→rest D σ H1) (h:(∀H1,R H1→rest D σ H1)→tIfS c t u { D with nx:=rest D } σ H):tSeq (tIfS c t u) rest D σ H:=h hr
section
variable {r:Addr} {σ:St} {H0:Hp} {K:PySem.W.Frag}
theorem g_name {i:Nat} {v:V} {σ:St} {H:Hp} {Q:St→Hp→Prop} (h:Q (σ.set i (some v)) H):gName i v σ H Q:=h
theorem t_nx {nx ct bk:St→Hp→Prop} {rt:VK} {σ:St} {H:Hp} (h:nx σ H):Ends.nx { nx:=nx,rt:=rt,bk:=bk,ct:=ct } σ H:=h
end
end L2
namespace L2
open PySem
section
variable {prog:Program} {w:World} {A:Around} {E:Value→Shared→Prop} {s:Shared}
theorem tupOn {it t:Addr} {i:Nat} {its:Array Value} {x:Value} {Q:Value→Shared→Prop} (a:s.heap.IsTupleIter it t i) (b:s.heap.IsTuple t its) (c:its[i]? = some x)
  (q :∀h',h'.IsTupleIter it t (i + 1)→Heap.SameBut it s.heap h'→Q x { s with heap:=h' }):wpAny (model prog w) A (Builtin.SmallTypes.nextOf (.ref it)) Q E s:=by
 obtain ⟨o,o1,o2,o3⟩:=id a
 obtain ⟨p,p1,_,n,p2⟩:=b
 unfold Builtin.SmallTypes.nextOf
 refine wpAny_bind (wpAny_callSpecial?_slot (name:=Str.ofString "__next__") a.typeIs F.slot_tuple_iterator_next (wpAny_call_entry F.slot_tuple_iterator_next a.typeIs F.entry_tuple_iterator_next (show wpAny _ _ (field (.ref it) 0 >>= _) _ _ s from wpAny_bind (wpAny_field o1 o3 (x:=.ref t) rfl ?_)) (F.args_tuple_iterator_next_1 _)))
 show wpAny _ _ (if (Value.ref t == Value.none)=true then _ else (field (.ref it) 1 >>= _)) _ _ s
 rw [if_neg (by exact Bool.false_ne_true)]
 refine wpAny_bind (wpAny_field o1 o3 (x:=.int i 0) rfl (show wpAny _ _ (seqItems? (.ref t) >>= _) _ _ s from wpAny_bind (wpAny_seqItems p1 p2 ?_)))
 simp only [Int.toNat_natCast,c]
 refine wpAny_bind (wpAny_setField o1 o3 (by simp) (wpAny_pure ⟨x,rfl,wpAny_pure (q _ ⟨_,Heap.get?_update_self _ o1 (Obj.isFreed_of_fields (Obj.data_mapFields o3 _)),(Obj.cls_mapFields ..).trans o2,?_⟩ (Heap.SameBut.update ..))⟩))
 rw [Obj.data_mapFields o3]
 simp [rawInt]
theorem tupOff {it t:Addr} {i:Nat} {its:Array Value} {Q:Value→Shared→Prop} (hh:A.handled=none) (a:s.heap.IsTupleIter it t i) (b:s.heap.IsTuple t its) (c:its[i]? = none)
  (q :∀h' e,Heap.ExtBut it s.heap h'→(∃o,h'.get? e=some o∧o.cls=.type "StopIteration")→E (.ref e) { s with heap:=h' }):wpAny (model prog w) A (Builtin.SmallTypes.nextOf (.ref it)) Q E s:=by
 obtain ⟨o,o1,o2,o3⟩:=id a
 obtain ⟨p,p1,_,n,p2⟩:=b
 unfold Builtin.SmallTypes.nextOf
 refine wpAny_bind (wpAny_callSpecial?_slot (name:=Str.ofString "__next__") a.typeIs F.slot_tuple_iterator_next (wpAny_call_entry F.slot_tuple_iterator_next a.typeIs F.entry_tuple_iterator_next (show wpAny _ _ (field (.ref it) 0 >>= _) _ _ s from wpAny_bind (wpAny_field o1 o3 (x:=.ref t) rfl ?_)) (F.args_tuple_iterator_next_1 _)))
 show wpAny _ _ (if (Value.ref t == Value.none)=true then _ else (field (.ref it) 1 >>= _)) _ _ s
 rw [if_neg (by exact Bool.false_ne_true)]
 refine wpAny_bind (wpAny_field o1 o3 (x:=.int i 0) rfl (show wpAny _ _ (seqItems? (.ref t) >>= _) _ _ s from wpAny_bind (wpAny_seqItems p1 p2 ?_)))
 simp only [Int.toNat_natCast,c]
 refine wpAny_bind (wpAny_rule (wpAny_bind (wpAny_setField o1 o3 (by simp) (show wpAny _ _ (newExc (.type "StopIteration") [] >>= _) _ _ _ from wpAny_bind ?_))))
 simp only [newExc,newTuple]
 refine wpAny_bind (wpAny_newObj_type (wpAny_bind (m:=firstArgMember _ _) (wpAny_of_eq (a:=Value.none) (by first|rfl|(simp only [firstArgMember];rfl)) (wpAny_newObj_type ?_ (by size_fits)))) (by size_fits))
 simp only [raiseNew]
 refine wpAny_bind (wpAny_handled ?_)
 first|rw [show A.in1.handled=none from hh]|rw [hh]
 exact wpAny_bind (wpAny_pure (wpAny_throw (q _ _ (((Heap.SameBut.update ..).extBut.push _).push _) ⟨_,Heap.get?_push_size _ rfl,rfl⟩)))
structure ZApart (z T U i j a b:Addr):Prop where
 dis:[z,T,U,i,j].Nodup
 fa:a∉[z,T,U,i,j]
 fb:b∉[z,T,U,i,j]
structure ZAt (h:Heap) (z T U i j a b:Addr) (n:Nat) (f:Value):Prop where
 z:IsZip h z T U f
 t:IsPair h T (.ref i) (.ref j)
 u :∃p q,IsPair h U p q
 i:h.IsTupleIter i a n
 j:h.IsTupleIter j b n
def zObs (n a b:Addr):List Obj:=[{ cls:=.type "tuple_iterator",data:=.fields #[.ref a,.int 0 0] },{ cls:=.type "tuple_iterator",data:=.fields #[.ref b,.int 0 0] },{ cls:=.type "tuple",data:=.seq #[.ref n,.ref (n + 1)] },
 { cls:=.type "tuple",data:=.seq #[.none,.none] },{ cls:=.type "zip",data:=.fields #[.none,.bool false,.bool false,.ref (n + 2),.ref (n + 3)] }]
def zHeap (h:Heap) (a b:Addr):Heap:=(zObs h.objs.size a b).foldl Heap.push h
end
end L2
namespace L2
open PySem PySem.Spec PyProof.Rows
inductive Dt where
 | non|bl (b:Bool)|int (i:Int)|str (z:Str)|tup (ds:List Dt)
mutual
def IsDt (K:PySem.W.Frag) (H:Hp):Dt→V→Prop
 | .non,v=>v=.non
 | .bl b,v=>v=.bl b
 | .int i,v=>v=.int i
 | .str z,v=>v=.str z
 | .tup ds,v=>∃a xs,v=.ref a∧SqT K H a xs∧IsDts K H ds xs
def IsDts (K:PySem.W.Frag) (H:Hp):List Dt→List V→Prop
 | [],xs=>xs=[]
 | d :: ds,xs=>∃x r,xs=x :: r∧IsDt K H d x∧IsDts K H ds r
end
mutual
theorem IsDt.same' {K:PySem.W.Frag} {H H':Hp} (s:Same H H') :∀(d:Dt) (v:V),IsDt K H d v→IsDt K H' d v
 | .non,v,h=>h
 | .bl b,v,h=>h
 | .int i,v,h=>h
 | .str z,v,h=>h
 | .tup ds,v,h=>by
  obtain ⟨a,xs,rfl,e,r⟩:=h
  exact ⟨a,xs,rfl,s.seqT e,IsDts.same' s ds xs r⟩
theorem IsDts.same' {K:PySem.W.Frag} {H H':Hp} (s:Same H H') :∀(d:List Dt) (v:List V),IsDts K H d v→IsDts K H' d v
 | [],xs,h=>h
 | d :: ds,xs,h=>by
  obtain ⟨x,r,rfl,a,b⟩:=h
  exact ⟨x,r,rfl,IsDt.same' s d x a,IsDts.same' s ds r b⟩
end
mutual
def Dt.deep:Dt→Nat
 | .tup ds=>Dt.deeps ds + 1
 | _=>0
def Dt.deeps:List Dt→Nat
 | []=>0
 | d :: ds=>max d.deep (Dt.deeps ds)
def Dt.plain:Dt→Bool
 | .int _=>true
 | .str _=>true
 | .tup ds=>Dt.plains ds
 | _=>false
def Dt.plains:List Dt→Bool
 | []=>true
 | d :: ds=>d.plain && Dt.plains ds
end
def tagD:Dt→String
 | .non=>"NoneType"
 | .bl _=>"bool"
 | .int _=>"int"
 | .str _=>"str"
 | .tup _=>"tuple"
section
variable {X:Cx}
theorem Inv.turnedL {pins:List (Addr×Obj)} {σ:St} {H:Hp} {s:Shared} {h':Heap} {t':Nat} {fp:List Addr} (I:Inv X pins σ H s) (k :∀b o,b∉fp→s.heap.get? b=some o→h'.get? b=some o) (hf :∀b∈fp,FpOk X pins H b) :
  Inv X pins σ H { s with heap:=h',toks:=t' }:=by
 have nit :∀b u,H b=some u→b∉fp:=fun b u e z=>by
  have:=(hf b z).1
  rw [this] at e
  cases e
 refine I.step (g':=s.gens) (d':=s.drawn) (ch:=fp) (fun b hb=>⟨(hf b hb).2.2.2.1,(hf b hb).2.1,(hf b hb).2.2.2.2.1,(hf b hb).2.2.2.2.2⟩) (fun b o _ _ hc e _=>k b o hc e) (fun b o _ _ hc e _=>⟨o.slots,k b o hc e⟩) (fun _ _ _ _ n=>n)
  (fun b o hc e=>⟨o,k b o hc e⟩) (fun _ _ e=>e) (fun _ _ _ e=>e) (fun b ps e=>⟨#[],by rw [e];simp⟩) (fun m hm=>?_) (fun b u e=>?_) I.bare
 ·obtain ⟨o,es,ep,ho,r⟩:=hm
  exact ⟨o,es,ep,k _ o (fun z=>(hf _ z).2.1 rfl) ho,r⟩
 ·refine (I.hok b u e).stay (fun c v hc q=>k c v ?_ q) (fun _ q=>q) fun _ _ q=>q
  rcases hc with z|z
  ·rw [z];exact nit b u e
  ·exact nit c _ z
theorem Inv.turnedLaid {pins:List (Addr×Obj)} {σ:St} {H:Hp} {s:Shared} {h':Heap} {t':Nat} {fp:List Addr} {a:Addr} {o:HO} (I:Inv X pins σ H s) (k :∀b o,b∉fp→s.heap.get? b=some o→h'.get? b=some o) (hf :∀b∈fp,FpOk X pins H b)
  (hp:s.heap.objs.size≤a) (new:ObjOk X.prog X.w (upd H a o) h' a o):Inv X pins σ (upd H a o) { s with heap:=h',toks:=t' }:=by
 have hn:H a=none:=I.hok.fresh hp
 have nit :∀b u,H b=some u→b∉fp:=fun b u e z=>by
  have:=(hf b z).1
  rw [this] at e
  cases e
 have old :∀b u,H b=some u→upd H a o b=some u:=fun b u e=>by rw [upd_ne (ne_of_none e hn)];exact e
 refine I.step (g':=s.gens) (d':=s.drawn) (ch:=fp) (fun b hb=>⟨(hf b hb).2.2.2.1,(hf b hb).2.1,(hf b hb).2.2.2.2.1,(hf b hb).2.2.2.2.2⟩) (fun b o _ _ hc e _=>k b o hc e) (fun b o _ _ hc e _=>⟨o.slots,k b o hc e⟩)
  (fun b u _ e n=>by rw [upd_ne (fun z=>by subst z;exact absurd (Heap.lt_size e) (Nat.not_lt.mpr hp))];exact n)
  (fun b o hc e=>⟨o,k b o hc e⟩) (fun _ _ e=>old _ _ e) (fun _ _ _ e=>old _ _ e) (fun b ps e=>⟨#[],by rw [old _ _ e];simp⟩) (fun m hm=>?_) (fun b u e=>?_) I.bare
 ·obtain ⟨o,es,ep,ho,r⟩:=hm
  exact ⟨o,es,ep,k _ o (fun z=>(hf _ z).2.1 rfl) ho,r⟩
 ·by_cases hb:b=a
  ·subst hb
   rw [upd_same] at e
   cases e
   exact new
  ·rw [upd_ne hb] at e
   refine (I.hok b u e).stay (fun c v hc q=>k c v ?_ q) (fun c q=>old _ _ q) fun c xs q=>old _ _ q
   rcases hc with z|z
   ·rw [z];exact nit b u e
   ·exact nit c _ z
end
def Itz (K:PySem.W.Frag) (a b:Addr):It:=
  ⟨fun i H=>∃xs ys x y,SqT K H a xs∧SqT K H b ys∧xs[i]? = some x∧ys[i]? = some y,
   fun i H v H'=>∃p,H p=none∧v=.ref p∧∀xs ys,SqT K H a xs→SqT K H b ys→∃x y,xs[i]? = some x∧ys[i]? = some y∧H'=upd H p (.tup [x,y]),
   fun i H=>∃xs ys,SqT K H a xs∧SqT K H b ys∧(xs.length≤i∨ys.length≤i)⟩
section
variable {X:Cx}
def iZip (K:PySem.W.Frag) (ta:TA):TI:=fun σ H R=>ta σ H fun vs H1=>∃a b xs ys,vs=[.ref a,.ref b]∧SqT K H1 a xs∧SqT K H1 b ys∧R (Itz K a b) H1
def eqVs (xs ys:List V):Bool:=((List.range (min xs.length ys.length)).all fun j=>match xs[j]?,ys[j]? with|some x,some y=>eqV x y|_,_=>false) && xs.length == ys.length
def rEqT (K:PySem.W.Frag):R2:=fun x y H Q=>∃a b xs ys,x=.ref a∧y=.ref b∧SqT K H a xs∧SqT K H b ys∧xs.all flatV=true∧ys.all flatV=true∧Q (.bl (eqVs xs ys)) H
end
section
variable {X:Cx} {pos p2:Pos}
def gSlice (to:TE) (tl th:TO):TG:=fun v σ H Q=>to σ H fun o H1=>tl σ H1 fun lo H2=>th σ H2 fun hi H3=>∃(l b:Addr) (xs ys:List V) (a c:Nat),o=.ref l∧v=.ref b∧H3 l=some (.lst xs)∧H3 b=some (.lst ys)∧l≠b∧
 sliceBounds lo hi none xs.length=((a:Int),(c:Int),1)∧a≤c∧c≤xs.length∧xs.length + ys.length≤sizeLine∧Q σ (upd H3 l (.lst (xs.take a++ys++xs.drop c)))
end
section
variable {X:Cx}
def rCatS (K:PySem.W.Frag):R2:=fun x y H Q=>∃a b xs ys,x=.ref a∧y=.ref b∧SqT K H a xs∧SqT K H b ys∧ys≠[]∧xs.length + ys.length≤sizeLine∧∀p H',Same H H'→SqT K H' p (xs++ys)→Q (.ref p) H'
theorem pe_append {o e:Expr} {es:List Expr} {to:TE} {t:TA} {apos cpos:Pos} (ho:PE X o to) (ha:PA X (e :: es) t)
  (hbase:attributeBase o "append" X.env (eval o X.env)=eval o X.env:=by rfl)
  (hfew:((backTo cpos (starEach (e :: es) X.env)).all (fun x=>!x.1) && (backToKw cpos (keywordEach [] X.env)).all (fun x=>x.1.isSome)
   && decide ((e :: es).length + ([]:List Keyword).length + (if ([]:List Keyword).isEmpty then 0 else 1) < 30))=true:=by rfl)
  (hline:(apos.endLine == cpos.line)=true:=by rfl) (hs:starEach (e :: es) X.env=(false,eval e X.env) :: starEach es X.env:=by rfl) (hplain:(backTo cpos (starEach es X.env)).any (·.1)=false:=by rfl) :
  PE X (.Call (.Attribute o "append" apos) (e :: es) [] cpos) (tBM X.K "list" rAppend to t):=pe_bm PySem.F.plainAttrs_list PySem.F.slot_list_append PySem.F.type_list_append mt_append ho ha hbase hfew hline hs hplain
end
def KeptL (L:List Addr) (H H':Hp):Prop:=∀b o,b∉L→H b=some o→H' b=some o
mutual
theorem IsDt.mono' {K:PySem.W.Frag} {H H':Hp} (s :∀a xs,SqT K H a xs→SqT K H' a xs) :∀(d:Dt) (v:V),IsDt K H d v→IsDt K H' d v
 | .non,v,h=>h
 | .bl b,v,h=>h
 | .int i,v,h=>h
 | .str z,v,h=>h
 | .tup ds,v,h=>by
  obtain ⟨a,xs,rfl,e,r⟩:=h
  exact ⟨a,xs,rfl,s _ _ e,IsDts.mono' s ds xs r⟩
theorem IsDts.mono' {K:PySem.W.Frag} {H H':Hp} (s :∀a xs,SqT K H a xs→SqT K H' a xs) :∀(d:List Dt) (v:List V),IsDts K H d v→IsDts K H' d v
 | [],xs,h=>h
 | d :: ds,xs,h=>by
  obtain ⟨x,r,rfl,a,b⟩:=h
  exact ⟨x,r,rfl,IsDt.mono' s d x a,IsDts.mono' s ds r b⟩
end
theorem SqT.wrote {K:PySem.W.Frag} {H:Hp} {l a:Addr} {o:HO} {zs xs:List V} (e:H l=some (.lst zs)) (h:SqT K H a xs):SqT K (upd H l o) a xs:=by
 rcases h with (h|⟨ob,h⟩)|h
 ·exact .inl (.inl (by rw [upd_ne (ne_of h e (by intro z;cases z))];exact h))
 ·exact .inl (.inr ⟨ob,by rw [upd_ne (ne_of h e (by intro z;cases z))];exact h⟩)
 ·exact .inr h
section
variable {X:Cx}
def srt (ns:List Int) (H:Hp) (Q:VK):Prop:=∀(l:Addr) (ns':List Int),H l=none→ns'.Perm ns→ns'.Pairwise (·≤·)→Q (.ref l) (upd H l (.lst (ns'.map V.int)))
end
theorem iteP {c A B:Prop} [Decidable c] (hc:c) (h:A):if c then A else B:=by rw [if_pos hc];exact h
theorem iteN {c A B:Prop} [Decidable c] (hc:¬ c) (h:B):if c then A else B:=by rw [if_neg hc];exact h
theorem free_one {names:List (Str×NameKind)} {n:Str} {Q:Str×NameKind→Prop} (h:(names.all fun y=>y.2 != NameKind.free || y.1 == n)=true) (q :∀k,Q (n,k)) :∀y∈names,y.2=NameKind.free→Q y:=fun y hy e=>by
 have:=List.all_eq_true.mp h y hy
 rw [e] at this
 have:(y.1 == n)=true:=by simpa using this
 obtain ⟨a,b⟩:=y
 rw [beq_iff_eq] at this
 have:a=n:=this
 subst this
 exact q b
section
variable {X:Cx}
def rEqNil (K:PySem.W.Frag):R2:=fun x y H Q=>∃a b xs,x=.ref a∧y=.ref b∧SqL K H a xs∧SqL K H b []∧Q (.bl (decide (xs=[]))) H
end
theorem ObjOk.there {P:Program} {w:World} {H:Hp} {h:Heap} {a:Addr} {o:HO} (x:ObjOk P w H h a o) :∃ob,h.get? a=some ob:=by
 cases o with
 | lst xs=>obtain ⟨_,_,_,_,e⟩:=x;exact ⟨_,e⟩
 | tup xs=>obtain ⟨_,_,_,⟨o,e,_⟩,_⟩:=x;exact ⟨_,e⟩
 | dK kvs=>obtain ⟨_,_,_,_,o,_,_,e,_⟩:=x;exact ⟨_,e⟩
 | dT kvs=>obtain ⟨_,_,_,_,o,_,_,e,_⟩:=x;exact ⟨_,e⟩
 | set S n=>obtain ⟨o,_,_,_,e,_⟩:=x;exact ⟨_,e⟩
 | ins C dx fs=>obtain ⟨_,_,_,e,_⟩:=x;exact ⟨_,e⟩
 | own y=>exact x
 | xd fs=>obtain ⟨_,⟨o,_,_,e,_⟩,_⟩:=x;exact ⟨_,e⟩
 | rng lo hi=>obtain ⟨_,_,_,e⟩:=x;exact ⟨_,e⟩
 | frz ob u=>obtain ⟨e,_⟩:=x;exact ⟨_,e⟩
 | tbl ps=>exact ⟨_,show h.get? a=some _ from x⟩
 | met f y=>exact ⟨_,show h.get? a=some _ from x⟩
 | ext φ=>exact x.2.1
def CXE (P:Program) (w:World) (base:Heap):CXT:=fun outer H s E e s'=>∃(ea:Addr) (cls a0:Value) (B:Heap) (H':Hp),e=.ref ea∧s'.os=s.os∧AllBare s'.gens∧Un (frs outer) [] H H' s.heap s'.heap∧HOk P w H' s'.heap∧H' ea=none∧
 base.StaysIn B∧Heap.FlyingW B outer ea cls a0 s'.heap∧(∀b o,s'.heap.get? b=some o→b∉frs outer→((∃u,H' b=some u)∨∃u,s.heap.get? b=some u)→B.get? b=some o)∧E cls none H'
theorem frs_cons {env:Env} {l:List Env} {L:Addr} (h:env.frame=some L):frs (env :: l)=L :: frs l:=by
 unfold frs
 rw [List.filterMap_cons,h]
section
variable {P:Program} {w:World} {K:PySem.W.Frag} {mg:Str→Option Value} {base:Heap} {N:List Str} {qual:Str} {scope:Scope} {f:Addr} {cd:Value} {A:Around} {outer:List Env} {s:Shared} {H:Hp} {E:XK}
theorem passE:Passes (CXE P w base) (cxOf (CXE P w base) P w K mg base N qual scope f cd A outer s H E) E:=by
 intro pins σ H1 s1 e s' I c
 obtain ⟨ea,cls,a0,B,H',rfl,os,bare,un,hok,hn,hB,fl,keep,hE⟩:=c
 have hfs:frs (envOfC qual scope s.heap.objs.size f cd :: outer)=s.heap.objs.size :: frs outer:=frs_cons rfl
 have kp :∀b o,s'.heap.get? b=some o→b∉s.heap.objs.size :: frs outer→((∃u,H' b=some u)∨∃u,s1.heap.get? b=some u)→B.get? b=some o:=fun b o e hb hi=>keep b o e (by rw [show frs (cxOf (CXE P w base) P w K mg base N qual scope f cd A outer s H E).stack=_ from hfs];exact hb) hi
 have un':Un (s.heap.objs.size :: frs outer) [] H1 H' s1.heap s'.heap:=hfs ▸ un
 have ub:Un (frs outer) [] H H1 s.heap s1.heap:=I.base
 have oldL :∀b o,s.heap.get? b=some o→b≠s.heap.objs.size:=fun b o e=>Nat.ne_of_lt (Heap.lt_size e)
 have frn :∀b∈s.heap.objs.size :: frs outer,H' b=none:=fun b hb=>by
  rcases List.mem_cons.mp hb with rfl|hb
  ·obtain ⟨m,hn,_⟩:=I.loc
   obtain ⟨o,_,_,ho,_⟩:=hn
   exact un'.free _ o ho I.free (by simp)
  ·obtain ⟨_,o,ho,_⟩:=I.ok.funs.mem hb
   obtain ⟨o',ho'⟩:=ub.there b o ho (by simp)
   exact un'.free b o' ho' (ub.free b o ho (I.ok.frf b hb) (by simp)) (by simp)
 show wpAny (model P w) _ («leaving» _ _) _ _ s'
 refine wpAny_leaves_onW I.ok.frames rfl fl fun h'' fl2 up=>?_
 have stay :∀b o,s'.heap.get? b=some o→b∉s.heap.objs.size :: frs outer→((∃u,H' b=some u)∨∃u,s1.heap.get? b=some u)→h''.get? b=some o:=fun b o e hb hi=>fl2.1 b o (kp b o e hb hi)
 have slot :∀b o,b∈frs outer→s'.heap.get? b=some o→∃sl,h''.get? b=some { o with slots:=sl }:=fun b o hb e=>by
  obtain ⟨_,o',ho',hd⟩:=fl.2.2.1.mem (show b∈(envOfC qual scope s.heap.objs.size f cd :: outer).filterMap (·.frame) from by
   show b∈frs (envOfC qual scope s.heap.objs.size f cd :: outer)
   rw [hfs];exact List.mem_cons_of_mem _ hb)
  rw [e] at ho'
  cases ho'
  exact up b o e hd
 have there :∀b o,s.heap.get? b=some o→∃o1 o2,s1.heap.get? b=some o1∧s'.heap.get? b=some o2:=fun b o e=>by
  obtain ⟨o1,e1⟩:=ub.there b o e (by simp)
  obtain ⟨o2,e2⟩:=un'.there b o1 e1 (by simp)
  exact ⟨o1,o2,e1,e2⟩
 refine ⟨ea,cls,a0,B,H',rfl,os.trans I.os,bare,⟨fun b o e n hb _=>?_,fun b o e n hb _=>?_,fun b o e n _=>?_,fun b o e _=>?_,fun b xs e=>un'.tups b xs (ub.tups b xs e),fun b o u e=>un'.frzs b o u (ub.frzs b o u e),fun b ps e=>?_⟩,fun b u e=>?_,hn,hB,fl2,fun b o e hb hi=>?_,hE⟩
 ·have e1:=ub.keep b o e n hb (by simp)
  have hb':b∉s.heap.objs.size :: frs outer:=fun z=>(List.mem_cons.mp z).elim (oldL b o e) hb
  exact stay b o (un'.keep b o e1 (ub.free b o e n (by simp)) hb' (by simp)) hb' (.inr ⟨o,e1⟩)
 ·obtain ⟨sl,e1⟩:=ub.slot b o e n hb (by simp)
  obtain ⟨sl2,e2⟩:=un'.slot b _ e1 (ub.free b o e n (by simp)) (List.mem_cons_of_mem _ hb) (by simp)
  obtain ⟨sl3,e3⟩:=slot b _ hb e2
  exact ⟨sl3,e3⟩
 ·obtain ⟨o1,o2,e1,e2⟩:=there b o e
  exact un'.free b o1 e1 (ub.free b o e n (by simp)) (by simp)
 ·obtain ⟨o1,o2,e1,e2⟩:=there b o e
  by_cases hb:b∈frs outer
  ·obtain ⟨sl,e3⟩:=slot b o2 hb e2
   exact ⟨_,e3⟩
  ·exact ⟨o2,stay b o2 e2 (fun z=>(List.mem_cons.mp z).elim (oldL b o e) hb) (.inr ⟨o1,e1⟩)⟩
 ·obtain ⟨m1,e1⟩:=ub.tbls b ps e
  obtain ⟨m2,e2⟩:=un'.tbls b _ e1
  exact ⟨m1++m2,by rw [e2,Array.append_assoc]⟩
 ·refine (hok b u e).stay (fun c v hc q=>stay c v q ?_ (.inl ?_)) (fun _ q=>q) fun _ _ q=>q
  ·intro z
   have:=frn c z
   rcases hc with rfl|hc
   ·rw [e] at this;cases this
   ·rw [hc] at this;cases this
  ·rcases hc with rfl|hc
   ·exact ⟨u,e⟩
   ·exact ⟨_,hc⟩
 ·have key :∀o',s'.heap.get? b=some o'→b∉s.heap.objs.size :: frs outer→((∃u,H' b=some u)∨∃u,s1.heap.get? b=some u)→B.get? b=some o:=fun o' e' hb' hi'=>by
   have g:=kp b o' e' hb' hi'
   have:=fl2.1 b o' g
   rw [show ({ s' with heap:=h'' }:Shared).heap.get? b=h''.get? b from rfl,this] at e
   cases e
   exact g
  rcases hi with ⟨u,hu⟩|⟨u,hu⟩
  ·obtain ⟨o',e'⟩:=(hok b u hu).there
   refine key o' e' (fun z=>?_) (.inl ⟨u,hu⟩)
   rw [frn b z] at hu
   cases hu
  ·obtain ⟨o1,o2,e1,e2⟩:=there b u hu
   exact key o2 e2 (fun z=>(List.mem_cons.mp z).elim (oldL b u hu) hb) (.inr ⟨o1,e1⟩)
theorem raiseE {pins:List (Addr×Obj)} {σ:St} {H1:Hp} {s1:Shared} {h':Heap} {ea C:Addr} {args:List Value} (I:Inv (cxOf (CXE P w base) P w K mg base N qual scope f cd A outer s H E) pins σ H1 s1) (hx:Heap.MadeExcOf s1.heap h' ea (.ref C) args) (hE:E (.ref C) none H1) :
  (cxOf (CXE P w base) P w K mg base N qual scope f cd A outer s H E).xe (.ref ea) { s1 with heap:=h' }:=by
 have hfs:frs (envOfC qual scope s.heap.objs.size f cd :: outer)=s.heap.objs.size :: frs outer:=frs_cons rfl
 have ub:Un (frs outer) [] H H1 s.heap s1.heap:=I.base
 have oldL :∀b o,s.heap.get? b=some o→b≠s.heap.objs.size:=fun b o e=>Nat.ne_of_lt (Heap.lt_size e)
 have fu:s1.heap.FunFrames base (envOfC qual scope s.heap.objs.size f cd :: outer):=I.stack
 have hin :∀env∈(envOfC qual scope s.heap.objs.size f cd :: outer),∀a,env.frame=some a→a∈s.heap.objs.size :: frs outer:=fun env he a ha=>by
  rw [←hfs]
  exact List.mem_filterMap.mpr ⟨env,he,ha⟩
 have frn :∀b∈s.heap.objs.size :: frs outer,H1 b=none:=fun b hb=>by
  have:=I.stkFree b (by rw [show frs (cxOf (CXE P w base) P w K mg base N qual scope f cd A outer s H E).stack=_ from hfs];exact hb)
  exact this
 have bst:base.StaysIn (PySem.W.hideAll s1.heap (s.heap.objs.size :: frs outer)):=fun b o e=>PySem.W.hideAll_get _ (I.bk b o e) fun hm=>by
  have:=(fu.mem (show b∈(envOfC qual scope s.heap.objs.size f cd :: outer).filterMap (·.frame) from (show b∈frs (envOfC qual scope s.heap.objs.size f cd :: outer) from by rw [hfs];exact hm))).1
  rw [e] at this
  cases this
 show wpAny (model P w) _ («leaving» _ _) _ _ _
 refine wpAny_leaves_madeW (s:={ s1 with heap:=h' }) I.ok.frames rfl (fun b o q=>PySem.W.of_hideAll _ q) (PySem.W.funFrames_hide fu hin) hx fun h'' t fl2 _ _ up=>?_
 have stay :∀b o,s1.heap.get? b=some o→b∉s.heap.objs.size :: frs outer→h''.get? b=some o:=fun b o e hb=>fl2.1 b o (PySem.W.hideAll_get _ e hb)
 have slot :∀b o,b∈frs outer→s1.heap.get? b=some o→∃sl,h''.get? b=some { o with slots:=sl }:=fun b o hb e=>by
  obtain ⟨_,o',ho',hd⟩:=fu.mem (show b∈(envOfC qual scope s.heap.objs.size f cd :: outer).filterMap (·.frame) from by
   show b∈frs (envOfC qual scope s.heap.objs.size f cd :: outer)
   rw [hfs];exact List.mem_cons_of_mem _ hb)
  rw [e] at ho'
  cases ho'
  exact up b o (hx.keeps b o e) hd
 have hen:H1 ea=none:=by
  cases q:H1 ea with
  | none=>rfl
  | some u=>
   obtain ⟨o,e⟩:=(I.hok ea u q).there
   rw [hx.new] at e
   cases e
 refine ⟨ea,.ref C,.ref t,_,H1,rfl,I.os,I.bare,⟨fun b o e n hb _=>?_,fun b o e n hb _=>?_,fun b o e n _=>ub.free b o e n (by simp),fun b o e _=>?_,ub.tups,ub.frzs,ub.tbls⟩,fun b u e=>?_,hen,bst,fl2,fun b o e hb hi=>?_,hE⟩
 ·exact stay b o (ub.keep b o e n hb (by simp)) fun z=>(List.mem_cons.mp z).elim (oldL b o e) hb
 ·obtain ⟨sl,e1⟩:=ub.slot b o e n hb (by simp)
  obtain ⟨sl2,e2⟩:=slot b _ hb e1
  exact ⟨sl2,e2⟩
 ·obtain ⟨o1,e1⟩:=ub.there b o e (by simp)
  by_cases hb:b∈frs outer
  ·obtain ⟨sl,e2⟩:=slot b o1 hb e1
   exact ⟨_,e2⟩
  ·exact ⟨o1,stay b o1 e1 fun z=>(List.mem_cons.mp z).elim (oldL b o e) hb⟩
 ·refine (I.hok b u e).stay (fun c v hc q=>stay c v q fun z=>?_) (fun _ q=>q) fun _ _ q=>q
  have:=frn c z
  rcases hc with rfl|hc
  ·rw [e] at this;cases this
  ·rw [hc] at this;cases this
 ·have key :∀o',s1.heap.get? b=some o'→b∉s.heap.objs.size :: frs outer→(PySem.W.hideAll s1.heap (s.heap.objs.size :: frs outer)).get? b=some o:=fun o' e' hb'=>by
   have g:=PySem.W.hideAll_get _ e' hb'
   have:=fl2.1 b o' g
   rw [show ({ s1 with heap:=h'' }:Shared).heap.get? b=h''.get? b from rfl,this] at e
   cases e
   exact g
  rcases hi with ⟨u,hu⟩|⟨u,hu⟩
  ·obtain ⟨o',e'⟩:=(I.hok b u hu).there
   refine key o' e' fun z=>?_
   rw [frn b z] at hu
   cases hu
  ·obtain ⟨o1,e1⟩:=ub.there b u hu (by simp)
   exact key o1 e1 fun z=>(List.mem_cons.mp z).elim (oldL b u hu) hb
end
theorem own_in {K:PySem.W.Frag} {h₀:Heap} {mg:Str→Option Value} {x:Str} {C:Addr} {bmB:List Value} {newId:String} (X:K.In h₀) (hm:mg x=some (.ref C)) (q:PySem.W.excIn K C bmB newId=true):OwnCls x C bmB newId mg h₀:=by
 refine ⟨hm,?_⟩
 unfold PySem.W.excIn at q
 split at q
 ·rename_i dd cd sl ho
  split at q
  ·rename_i C' bm k0 k1 k2 k3 n k5 hm' hs
   simp only [Bool.and_eq_true,beq_iff_eq,Bool.not_eq_true'] at q
   obtain ⟨⟨⟨⟨⟨rfl,rfl⟩,hdel⟩,ht⟩,hok⟩,hni⟩:=q
   obtain ⟨nm,bs,mro,ns,qn,hd,sn,sub,ab,col,del⟩:=cd
   obtain ⟨l⟩:=sl
   dsimp only at hm' hdel hok hni hs
   subst hm' hdel hs
   exact ⟨bm,ns,nm,qn,bs,hd,sn,sub,ab,col,dd,k0,k1,k2,k3,k5,_,X _ _ ho,.of_isNs (PySem.W.isNs_of_in X hok),PySem.W.nsMap_none_of_in X hok hni,PySem.W.tail_of_in X ht⟩
  ·cases q
 ·cases q
def tRaise (C:Addr) (E:XK) (t:TA):TS:=fun _ σ H=>t σ H fun vs H1=>vs.length≤sizeLine∧E (.ref C) none H1
section
variable {P:Program} {w:World} {K:PySem.W.Frag} {mg:Str→Option Value} {base:Heap} {N:List Str} {qual:Str} {scope:Scope} {f:Addr} {cd:Value} {A:Around} {outer:List Env} {s:Shared} {H:Hp} {E:XK}
theorem ps_raiseE {x:Str} {C:Addr} {B newId initId:String} {bm:List Value} {e0:Expr} {es:List Expr} {np cpos pos:Pos} {t:TA} (FB:ExcBaseFacts B newId initId bm) (hm:mg x=some (.ref C)) (hK:PySem.W.excIn K C bm newId=true)
  (hg:Gl (cxOf (CXE P w base) P w K mg base N qual scope f cd A outer s H E) x) (ha:PA (cxOf (CXE P w base) P w K mg base N qual scope f cd A outer s H E) (e0 :: es) t)
  (hdb:(x == ("__debug__" : Str))=false:=by decide)
  (he:starEach (e0 :: es) (envOfC qual scope s.heap.objs.size f cd)=(false,eval e0 (envOfC qual scope s.heap.objs.size f cd)) :: starEach es (envOfC qual scope s.heap.objs.size f cd):=by rfl)
  (hpl:(backTo cpos (starEach es (envOfC qual scope s.heap.objs.size f cd))).any (·.1)=false:=by rfl) :
  PS (cxOf (CXE P w base) P w K mg base N qual scope f cd A outer s H E) (.Raise (some (.Call (.Name x np) (e0 :: es) [] cpos)) none pos) (tRaise C E t):=by
 intro pins s1 σ H1 D I h
 have O:OwnCls x C bm newId mg base:=own_in I.ok.mod.kin hm hK
 obtain ⟨tl,N',nm,q,bs,hdct,sn,sub,ab,col,dd,k0,k1,k2,k3,k5,mN,hC,hN,hni,T⟩:=O.obj
 have ha':=ha cpos pins s1 σ H1 _ I h
 refine wpAny_Raise_call_subT (C:=C) (nm:=nm) (q:=q) (N:=N') (bs:=bs) (bm:=tl) (hdct:=hdct) (sn:=sn) (sub:=sub) (ab:=ab) (col:=col) (dd:=dd) (k0:=k0) (k1:=k1) (k2:=k2) (k3:=k3) (k5:=k5)
  FB (mN:=mN) (T.hasType FB.hasBase) (I.ok.hd rfl) (by show (backTo cpos (starEach (e0 :: es) (envOfC qual scope s.heap.objs.size f cd))).any (·.1)=false;rw [he];show (false || (backTo cpos (starEach es (envOfC qual scope s.heap.objs.size f cd))).any (·.1))=false;rw [hpl];rfl) hni (ld_glob I hg O.bound ⟨rfl,?_⟩ hdb)
 have e1:starEach (e0 :: es) (cxOf (CXE P w base) P w K mg base N qual scope f cd A outer s H E).env=(false,eval e0 (envOfC qual scope s.heap.objs.size f cd)) :: starEach es (envOfC qual scope s.heap.objs.size f cd):=he
 rw [e1] at ha'⊢
 exact Calls.evalArgs_plain (wpAny_mono ha' (fun us s2 ⟨vs,H2,I2,r,hl,hE⟩=>⟨rfl,by rw [←r.length];exact hl,I2.bk _ _ hC,hN.keeps I2.bk,T.keeps I2.bk,fun h' ea hm=>raiseE I2 hm hE⟩) fun _ _ y=>y)
theorem Fun.okE {x qual:Str} {st:Stmt} {f:Addr} {fd:FuncData} {N ps:List Str} {k:Nat} {sp:Sp} (F:Fun K x qual st f fd) (S:FnScope N ps (defScope st)) (len :∀vs H Q E,sp vs H Q E→vs.length=ps.length)
  (hbody :∀(cdv:Value) (A:Around) (outer:List Env) (s:Shared) (H:Hp) (vs:List V) (Q:VK) (E:XK),Room k (A.deeper (envOfC qual (defScope st) s.heap.objs.size f cdv))→sp vs H Q E→
   ∃t,PSs (cxOf (CXE P w base) P w K mg base N qual (defScope st) f cdv A outer s H E) (defBody st) t∧t { nx:=fun _ H'=>Q .non H',rt:=Q } (start N vs) H):FnOk P w K mg base (CXE P w base) (k + 1) f fd ps sp:=by
 obtain ⟨oc,od,kV,doc,pm,an,cdv,ct,osl,rfl,lk,hcd⟩:=F.ex
 exact fn_of lk hcd S len fun A outer s H vs Q E hr hsp=>hbody cdv A outer s H vs Q E hr hsp
end
structure CalE (P:Program) (w:World) (K:PySem.W.Frag) (mg:Str→Option Value) (base:Heap) (x:Str) (ps:List Str) (k:Nat) (sp:Sp):Prop where
 ex :∃f fd,FnOk P w K mg base (CXE P w base) k f fd ps sp∧mg x=some (.ref f)∧PySem.W.keepIn K (.ref f)=true∧Binds K fd ps []
section
variable {X:Cx} {x:Str} {ps:List Str} {k:Nat} {sp:Sp} {e:Expr} {es:List Expr} {t:TA} {p pos:Pos}
theorem pe_calE {E:XK} (hx:Passes (CXE X.prog X.w X.base) X E) (c:CalE X.prog X.w X.K X.mg X.base x ps k sp) (hr:Room k X.A) (hg:Gl X x) (ha:PA X (e :: es) t) (hn:x≠"__name__":=by decide) (hdb:(x == ("__debug__" : Str))=false:=by decide)
  (he:starEach (e :: es) X.env=(false,eval e X.env) :: starEach es X.env:=by rfl) (hpl:(backTo pos (starEach es X.env)).any (·.1)=false:=by rfl):PE X (.Call (.Name x p) (e :: es) [] pos) (tCall sp [] E t):=by
 obtain ⟨f,fd,F,hm,hk,hb⟩:=c.ex
 exact pe_call F hr hg hm hk hb .nil hx ha hdb he hpl
end
def ExcO (ea:Addr) (cls:Value):HO:=.ext fun h=>∃o,h.get? ea=some o∧o.cls=cls
theorem excO_ok {P:Program} {w:World} {H:Hp} {h:Heap} {ea:Addr} {cls:Value} {o:Obj} (e:h.get? ea=some o) (c:o.cls=cls):ObjOk P w H h ea (ExcO ea cls):=
 ⟨⟨o,e,c⟩,⟨o,e⟩,fun _ _ ⟨o,e,c⟩ k=>⟨o,k o e,c⟩⟩
theorem Un.track {fs ex:List Addr} {H H1:Hp} {h h1:Heap} {a:Addr} {o:HO} (u:Un fs ex H H1 h h1) (hn:h.get? a=none) (hf:H1 a=none):Un fs ex H (upd H1 a o) h h1 where
 keep:=u.keep
 slot:=u.slot
 free:=fun b ob q n hx=>by
  have:b≠a:=fun z=>by subst z;rw [hn] at q;cases q
  rw [upd_ne this]
  exact u.free b ob q n hx
 there:=u.there
 tups:=fun b xs q=>by
  have q':=u.tups b xs q
  rw [upd_ne (ne_of_none q' hf)]
  exact q'
 frzs:=fun b ob x q=>by
  have q':=u.frzs b ob x q
  rw [upd_ne (ne_of_none q' hf)]
  exact q'
 tbls:=fun b ps q=>by
  obtain ⟨m,q'⟩:=u.tbls b ps q
  exact ⟨m,by rw [upd_ne (ne_of_none q' hf)];exact q'⟩
theorem HOk.track {P:Program} {w:World} {H:Hp} {h:Heap} {a:Addr} {o:HO} (x:HOk P w H h) (hf:H a=none) (new:ObjOk P w (upd H a o) h a o):HOk P w (upd H a o) h:=fun b u e=>by
 by_cases hb:b=a
 ·subst hb
  rw [upd_same] at e
  cases e
  exact new
 ·rw [upd_ne hb] at e
  exact (x b u e).stay (fun _ _ _ q=>q) (fun c q=>by rw [upd_ne (ne_of_none q hf)];exact q) fun c xs q=>by rw [upd_ne (ne_of_none q hf)];exact q
section
variable {P:Program} {w:World} {base B:Heap} {outer:List Env} {H H':Hp} {h h1 h6:Heap} {ea:Addr} {cls a0:Value}
theorem fly_un (fu:h.FunFrames base outer) (frf :∀b∈frs outer,H b=none) (un:Un (frs outer) [] H H' h h1) (hok:HOk P w H' h1) (fl:Heap.FlyingW B outer ea cls a0 h1)
  (keep :∀b o,h1.get? b=some o→b∉frs outer→((∃u,H' b=some u)∨∃u,h.get? b=some u)→B.get? b=some o)
  (fl6:Heap.FlyingW B outer ea cls a0 h6) (up:h1.UpToSlots h6):Un (frs outer) [] H H' h h6∧HOk P w H' h6∧h.get? ea=none:=by
 have stay :∀b o,h1.get? b=some o→b∉frs outer→((∃u,H' b=some u)∨∃u,h.get? b=some u)→h6.get? b=some o:=fun b o e hb hi=>fl6.1 b o (keep b o e hb hi)
 have slot :∀b o,b∈frs outer→h1.get? b=some o→∃sl,h6.get? b=some { o with slots:=sl }:=fun b o hb e=>by
  obtain ⟨_,o',ho',hd⟩:=fl.2.2.1.mem hb
  rw [e] at ho'
  cases ho'
  exact up b o e hd
 have frn :∀b∈frs outer,H' b=none:=fun b hb=>by
  obtain ⟨_,o,ho,_⟩:=fu.mem hb
  exact un.free b o ho (frf b hb) (by simp)
 refine ⟨⟨fun b o e n hb _=>?_,fun b o e n hb _=>?_,un.free,fun b o e _=>?_,un.tups,un.frzs,un.tbls⟩,fun b u e=>?_,?_⟩
 ·exact stay b o (un.keep b o e n hb (by simp)) hb (.inr ⟨o,e⟩)
 ·obtain ⟨sl,e1⟩:=un.slot b o e n hb (by simp)
  obtain ⟨sl2,e2⟩:=slot b _ hb e1
  exact ⟨sl2,e2⟩
 ·obtain ⟨o1,e1⟩:=un.there b o e (by simp)
  by_cases hb:b∈frs outer
  ·obtain ⟨sl,e2⟩:=slot b o1 hb e1
   exact ⟨_,e2⟩
  ·exact ⟨o1,stay b o1 e1 hb (.inr ⟨o,e⟩)⟩
 ·refine (hok b u e).stay (fun c v hc q=>stay c v q (fun z=>?_) (.inl ?_)) (fun _ q=>q) fun _ _ q=>q
  ·have:=frn c z
   rcases hc with rfl|hc
   ·rw [e] at this;cases this
   ·rw [hc] at this;cases this
  ·rcases hc with rfl|hc
   ·exact ⟨u,e⟩
   ·exact ⟨_,hc⟩
 ·cases q:h.get? ea with
  | none=>rfl
  | some o=>
   by_cases hb:ea∈frs outer
   ·obtain ⟨_,o',ho',hd⟩:=fl6.2.2.1.mem hb
    obtain ⟨_,_,_,oe,vs,_,_,_,he,_,hdd,_⟩:=fl6
    rw [he] at ho'
    cases ho'
    exact absurd hdd (hd vs)
   ·obtain ⟨o1,e1⟩:=un.there ea o q (by simp)
    have:=keep ea o1 e1 hb (.inr ⟨o,q⟩)
    rw [fl6.2.1] at this
    cases this
end
def Cx.tryX (X:Cx) (pn:List (Addr×Obj)) (E:St→XK):Cx:=
 ({ X with pn:=pn }:Cx).wish fun e s'=>∃pins σ1 H1 s1,Inv { X with pn:=pn } pins σ1 H1 s1∧CXE X.prog X.w X.base X.stack H1 s1 (E σ1) e s'
abbrev Cx.exc (X:Cx) (ea:Addr):Cx:={ X with A:=X.A.mark (some (.ref ea)),calm:=false,xe:=fun _ _=>False }
section
variable {X:Cx} {pins pn:List (Addr×Obj)} {σ:St} {H:Hp} {s:Shared} {ea:Addr} {E:St→XK}
theorem Inv.toPn (I:Inv X pins σ H s):Inv { X with pn:=X.pn++pins } [] σ H s:=
 ⟨⟨I.ok.mod,I.ok.kind,I.ok.glob,I.ok.blt,I.ok.above,I.ok.inj,I.ok.has,I.ok.cab,I.ok.hd,I.ok.frames,I.ok.stk,I.ok.exf,I.ok.bs,I.ok.bsz,I.ok.noex,I.ok.exfs,I.ok.funs,I.ok.frf⟩,I.os,I.bare,I.base,I.loc,I.cell,I.free,I.freeC,fun p hp=>I.pin p (by simpa using hp),I.hok,I.len⟩
theorem Inv.ofPn {pins':List (Addr×Obj)} (I:Inv { X with pn:=X.pn++pins } pins' σ H s):Inv X pins σ H s:=
 ⟨⟨I.ok.mod,I.ok.kind,I.ok.glob,I.ok.blt,I.ok.above,I.ok.inj,I.ok.has,I.ok.cab,I.ok.hd,I.ok.frames,I.ok.stk,I.ok.exf,I.ok.bs,I.ok.bsz,I.ok.noex,I.ok.exfs,I.ok.funs,I.ok.frf⟩,I.os,I.bare,I.base,I.loc,I.cell,I.free,I.freeC,fun p hp=>I.pin p (List.mem_append_left _ hp),I.hok,I.len⟩
theorem Inv.toExc (I:Inv X pins σ H s) (ea:Addr):Inv (X.exc ea) pins σ H s:=
 ⟨⟨I.ok.mod,I.ok.kind,I.ok.glob,I.ok.blt,I.ok.above,I.ok.inj,I.ok.has,I.ok.cab,fun z=>(nomatch z),I.ok.frames,I.ok.stk,I.ok.exf,I.ok.bs,I.ok.bsz,I.ok.noex,I.ok.exfs,I.ok.funs,I.ok.frf⟩,I.os,I.bare,I.base,I.loc,I.cell,I.free,I.freeC,I.pin,I.hok,I.len⟩
theorem Inv.ofExc (I:Inv (X.exc ea) pins σ H s) (hd:X.calm=true→X.A.handled=none):Inv X pins σ H s:=
 ⟨⟨I.ok.mod,I.ok.kind,I.ok.glob,I.ok.blt,I.ok.above,I.ok.inj,I.ok.has,I.ok.cab,hd,I.ok.frames,I.ok.stk,I.ok.exf,I.ok.bs,I.ok.bsz,I.ok.noex,I.ok.exfs,I.ok.funs,I.ok.frf⟩,I.os,I.bare,I.base,I.loc,I.cell,I.free,I.freeC,I.pin,I.hok,I.len⟩
theorem passX :∀(pins:List (Addr×Obj)) (σ:St) (H:Hp) (s:Shared) (e:Value) (s':Shared),Inv (X.tryX pn E) pins σ H s→CXE (X.tryX pn E).prog (X.tryX pn E).w (X.tryX pn E).base (X.tryX pn E).stack H s (E σ) e s'→(X.tryX pn E).xe e s':=
 fun pins σ H s e s' I c=>⟨pins,σ,H,s,I.unwish,c⟩
theorem SP.ofTry {D:Ends} {f:Flow} {s':Shared} (h:SP (X.tryX (X.pn++pins) E) [] D f s'):SP X pins D f s':=by
 cases f with
 | next=>obtain ⟨σ',H',I,q⟩:=h;exact ⟨σ',H',I.unwish.ofPn,q⟩
 | brk=>obtain ⟨σ',H',I,q⟩:=h;exact ⟨σ',H',I.unwish.ofPn,q⟩
 | cont=>obtain ⟨σ',H',I,q⟩:=h;exact ⟨σ',H',I.unwish.ofPn,q⟩
 | ret u=>obtain ⟨v,σ',H',I,r,q⟩:=h;exact ⟨v,σ',H',I.unwish.ofPn,r,q⟩
theorem SP.ofExc {D:Ends} {f:Flow} {s':Shared} (h:SP (X.exc ea) pins D f s') (hd:X.calm=true→X.A.handled=none):SP X pins D f s':=by
 cases f with
 | next=>obtain ⟨σ',H',I,q⟩:=h;exact ⟨σ',H',I.ofExc hd,q⟩
 | brk=>obtain ⟨σ',H',I,q⟩:=h;exact ⟨σ',H',I.ofExc hd,q⟩
 | cont=>obtain ⟨σ',H',I,q⟩:=h;exact ⟨σ',H',I.ofExc hd,q⟩
 | ret u=>obtain ⟨v,σ',H',I,r,q⟩:=h;exact ⟨v,σ',H',I.ofExc hd,r,q⟩
theorem unbind_ok {M:Model} {A:Around} {E:Value→Shared→Prop} {i:Nat} {x:Str} {pos:Pos} {Q:Unit→Shared→Prop} (I:Inv X pins σ H s) (hN:X.N.Nodup) (hi:X.N[i]? = some x) (hk:X.env.kindOf x=some .local)
  (h :∀s',Inv X pins (σ.set i none) H s'→Q () s'):wpAny M A (do bindName X.env x .none;unbindBehindTheSuite X.env x pos) Q E s:=by
 obtain ⟨m,hn,hl⟩:=id I.loc
 have hcls:(X.env.scope.kind == .class || (X.env.scope.kind == .module && X.env.locals != X.env.globals))=false:=by rw [I.ok.kind];rfl
 have hiσ:i < σ.length:=by rw [I.len];exact (List.getElem?_eq_some_iff.mp hi).1
 have cne:=I.cne
 refine wpAny_nameGoes_keeps hk hn hcls fun h' v hn' hs=>?_
 refine h _ ⟨I.ok,I.os,I.bare,⟨fun b o e n hb hx=>?_,fun b o e n hb hx=>?_,I.base.free,fun b o e hx=>?_,I.base.tups,I.base.frzs,I.base.tbls⟩,⟨_,hn',fun j y v' e1 e2 e3=>?_⟩,fun y c e=>?_,I.free,I.freeC,fun p hp=>?_,fun b ob e=>?_,by simpa using I.len⟩
 ·exact (hs.2 b (Nat.ne_of_lt (Nat.lt_of_lt_of_le (Heap.lt_size e) I.ok.above))).trans (I.base.keep b o e n hb hx)
 ·obtain ⟨sl,e1⟩:=I.base.slot b o e n hb hx
  exact ⟨sl,(hs.2 b (Nat.ne_of_lt (Nat.lt_of_lt_of_le (Heap.lt_size e) I.ok.above))).trans e1⟩
 ·obtain ⟨o',e1⟩:=I.base.there b o e hx
  exact ⟨o',(hs.2 b (Nat.ne_of_lt (Nat.lt_of_lt_of_le (Heap.lt_size e) I.ok.above))).trans e1⟩
 ·by_cases hj:j=i
  ·subst hj
   rw [List.getElem?_set_self hiσ] at e2
   cases e2
  ·rw [List.getElem?_set_ne (Ne.symm hj)] at e2
   obtain ⟨u',r',q⟩:=hl j y v' e1 e2 e3
   refine ⟨u',r',?_⟩
   rcases q with ⟨k,e⟩|⟨k,c,e,z⟩
   ·refine .inl ⟨k,?_⟩
    have:y≠x:=fun e=>hj (nodup_ix hN e1 (e ▸ hi))
    simp [this,e]
   ·exact .inr ⟨k,c,e,z.sameBut hs (cne y c e)⟩
 ·obtain ⟨w',z⟩:=I.cell y c e
  exact ⟨w',z.sameBut hs (cne y c e)⟩
 ·obtain ⟨e,n,ne,nf,d⟩:=I.pin p hp
  exact ⟨(hs.2 p.1 ne).trans e,n,ne,nf,d⟩
 ·refine (I.hok b ob e).stay (fun c w' hc q=>(hs.2 c ?_).trans q) (fun _ q=>q) fun _ _ q=>q
  rintro rfl
  have hfree:=I.free
  rcases hc with rfl|hc
  ·rw [hfree] at e;cases e
  ·rw [hfree] at hc;cases hc
end
def tTry (K:PySem.W.Frag) (c:Value) (tb:(St→XK)→TS) (th:TS):TS:=fun D σ H=>tb (fun σ1 cls _ H1=>PySem.W.exmOne K cls c=some true∧th D σ1 H1) D σ H
def tTryAs (K:PySem.W.Frag) (c:Value) (i:Nat) (tb:(St→XK)→TS) (th:TS):TS:=fun D σ H=>tb (fun σ1 cls _ H1=>PySem.W.exmOne K cls c=some true∧
 ∀ea,H1 ea=none→th { nx:=fun σ2 H2=>D.nx (σ2.set i none) H2,rt:=D.rt,bk:=fun σ2 H2=>D.bk (σ2.set i none) H2,ct:=fun σ2 H2=>D.ct (σ2.set i none) H2 } (σ1.set i (some (.ref ea))) (upd H1 ea (ExcO ea cls))) D σ H
section
variable {X:Cx} {x n:Str} {c:Value} {i:Nat} {body suite:List Stmt} {b0:Stmt} {np hpos pos:Pos} {tb:(St→XK)→TS} {th:TS}
theorem ps_tryAs (hst:X.stack=X.env :: X.outer) (hf:X.env.frame=some X.env.locals) (hg:Gl X x) (hm:X.mg x=some c) (hN:X.N.Nodup) (hi:X.N[i]? = some n) (hk:X.env.scope.names.lookup n=some .local) (hb :∀pn E,PSs (X.tryX pn E) body (tb E))
  (hh :∀ea,PSs (X.exc ea) (b0 :: suite) th) (hdb:(x == ("__debug__" : Str))=false:=by decide) :
  PS X (.Try body [.ExceptHandler (some (.Name x np)) (some n) (b0 :: suite) hpos] [] [] pos) (tTryAs X.K c i tb th):=by
 intro pins s σ H D I h
 refine wpAny_Try_except (wpAny_mono (hb (X.pn++pins) _ [] s σ H D (I.toPn.wish _) h) (fun f s1 q=>?_) fun e s1 q=>?_)
 ·cases f with
  | next=>exact wpAny_execs_nil (SP.ofTry q)
  | brk=>exact SP.ofTry q
  | cont=>exact SP.ofTry q
  | ret u=>exact SP.ofTry q
 ·obtain ⟨pins1,σ1,H1,s0,I1,ea,cls,a0,B,H',rfl,os,bare,un,hok,hn,hB,fl,keep,hE,hth⟩:=q
  have I2:Inv X pins σ1 H1 s0:=I1.ofPn
  have fr:X.A.frames=some (X.env :: X.outer):=hst ▸ I2.ok.frames
  refine wpAny_looks_onW fr hf (hst ▸ fl) fun h4 held4 up4=>?_
  refine wpAny_landsW held4 fun h5 fl5 up5=>?_
  rw [←hst] at fl5
  obtain ⟨un5,hok5,hnew⟩:=fly_un I2.stack I2.stkFree un hok fl keep fl5 (up4.trans up5)
  have I5:Inv X pins σ1 H' { s1 with heap:=h5 }:=I2.call' (ch:=[]) os un5 hok5 bare fun b z=>absurd z (by simp)
  obtain ⟨ob,hob,hobc⟩:=fl5.there
  refine wpAny_handleBy_cons (codeAny_handlers_test (ld_glob (I5.toExc ea) hg hm ?_ hdb)) (by intro q;cases q)
  have LT:PySem.W.Looks (model X.prog X.w) h5 (typeOf (.ref ea)) cls:=by subst hobc;exact (PySem.W.Looks.ld hob).andThen .now
  refine (PySem.W.exm_one (I5.toExc ea).kIn LT hE).here ?_
  refine codeAny_handlers_suite_as ?_
  refine lands_againW fl5 fun h6 fl6 up6=>?_
  obtain ⟨un6,hok6,_⟩:=fly_un I2.stack I2.stkFree un hok fl keep fl6 ((up4.trans up5).trans up6)
  obtain ⟨ob6,hob6,hobc6⟩:=fl6.there
  have I6:Inv X pins σ1 (upd H' ea (ExcO ea cls)) { s1 with heap:=h6 }:=I2.call' (ch:=[]) os (un6.track hnew hn) (hok6.track hn (excO_ok hob6 hobc6)) bare fun b z=>absurd z (by simp)
  refine store_ok (X:=X.exc ea) (v:=.ref ea) (I6.toExc ea) hN hi (.inl hk) rfl (fun s7 I7=>?_) (.inr hk)
  refine wpAny_mono (hh ea pins _ _ _ _ I7 (hth ea hn)) (fun f s8 q=>?_) fun _ _ z=>False.elim z
  have q':=SP.ofExc q I2.ok.hd
  cases f with
  | next=>obtain ⟨σ',H',J,z⟩:=q';exact unbind_ok J hN hi hk fun s9 J9=>⟨_,H',J9,z⟩
  | brk=>obtain ⟨σ',H',J,z⟩:=q';exact unbind_ok J hN hi hk fun s9 J9=>⟨_,H',J9,z⟩
  | cont=>obtain ⟨σ',H',J,z⟩:=q';exact unbind_ok J hN hi hk fun s9 J9=>⟨_,H',J9,z⟩
  | ret u=>obtain ⟨v,σ',H',J,r,z⟩:=q';exact unbind_ok J hN hi hk fun s9 J9=>⟨v,_,H',J9,r,z⟩
end
section
variable {X:Cx} {x:Str} {ps:List Str} {k:Nat} {sp:Sp} {e:Expr} {es:List Expr} {t:TA} {p pos:Pos} {E:St→XK}
theorem pe_calX (hx :∀(pins:List (Addr×Obj)) (σ:St) (H:Hp) (s:Shared) (e:Value) (s':Shared),Inv X pins σ H s→CXE X.prog X.w X.base X.stack H s (E σ) e s'→X.xe e s') (c:CalE X.prog X.w X.K X.mg X.base x ps k sp) (hr:Room k X.A) (hg:Gl X x) (ha:PA X (e :: es) t)
  (hdb:(x == ("__debug__" : Str))=false:=by decide) (he:starEach (e :: es) X.env=(false,eval e X.env) :: starEach es X.env:=by rfl) (hpl:(backTo pos (starEach es X.env)).any (·.1)=false:=by rfl) :
  PE X (.Call (.Name x p) (e :: es) [] pos) (fun σ H Q=>t σ H fun vs H1=>sp vs H1 Q (E σ)):=by
 intro pins s σ H Q I h
 obtain ⟨f,fd,F,hm,hk,hb⟩:=c.ex
 refine wpAny_Call_Name_kw (ld_glob I hg hm ?_ hdb)
 refine PySem.W.callWith_K (h₀:=X.base) I.ok.mod.kin hk (thn (ha pos pins s σ H _ I h) fun us s1 ⟨vs,H1,I1,r,q⟩=>⟨I1.kIn,?_⟩) he hpl
 have hl:us.length=ps.length:=by rw [←r.length];exact F.len _ _ _ _ q
 have hb1:=hb s1 us I1.kIn (by rw [List.append_nil];exact hl)
 rw [List.append_nil] at hb1
 refine wpAny_call (codeAny_mono (F.run X.A X.stack s1 H1 ⟨us,[]⟩ us vs Q (E σ) hr I1.env0 hb1 r q) fun r s' hq=>?_)
 cases r with
 | error e=>exact hx pins σ H1 s1 e s' I1 hq
 | ok fl=>
  cases fl with
  | ret u=>exact I1.after hq
  | next=>exact False.elim hq
  | brk=>exact False.elim hq
  | cont=>exact False.elim hq
end
end L2
set_option maxHeartbeats 400000
namespace L2
open PySem PySem.Spec PyProof.Rows PySem.W PySem.Calls PySem.Builtin PySem.Builtin.ObjectAttr PySem.Builtin.Getset_descriptor
section
variable {prog:Program} {w:World} {A:Around} {E:Value→Shared→Prop} {h:Heap} {g:Array GenState} {d:Drawn} {t:Nat} {os:OsState} {K:PySem.W.Frag} {a C:Addr} {o:Obj}
theorem exc_cget {R:Result→Shared→Prop} {tp:Value} (X:K.In h) (L0:Looks (model prog w) h (typeOf (.ref a)) (.ref C)) (hm:mroIn K C (.type "object")=some true) (hq:R (.ok (.ret (.ref C))) ⟨h,g,d,t,os⟩) :
  codeAny (model prog w) A (.call (.builtin "getset_descriptor.__get__") ⟨[.builtin "object.__class__",.ref a,tp],[]⟩) R ⟨h,g,d,t,os⟩:=by
 have L1:=looks_mroIn (M:=model prog w) X hm
 refine codeAny_call_builtin KF.slot_gs.plain KF.entry_gs (KF.slot_gs.check _ _ _ _ _ _ _ _ KF.type_class (KF.args_gs _ _ _) ?_)
 unfold Builtin.«getset_descriptor.__get__» descrGet
 rw [dga_obj]
 refine wpAny_bind (wpAny_pure ?_)
 unfold descrGetter descrCheckInstance descrNameAndClass isInstance
 simp only [KF.owner_class]
 repeat lk
 refine ⟨Code.quiet_builtin _ (by decide +kernel),codeAny_builtin KF.entry_class ?_⟩
 unfold Builtin.«object.__class__» shownTypeOf
 repeat lk
 exact hq
theorem exc_entry {tk:Tok} {Q:Fin→Shared→Prop} (X:K.In h) (hx:h.get? a=some o) (hc:o.cls=.ref C) (ha:findIn K (.ref C) "__class__" = some (some (.builtin "object.__class__"))) (hm:mroIn K C (.type "object")=some true)
  (hq:Q (.done (.ret (.ref C))) ⟨h,g,d,t,os⟩):wpAny (model prog w) A (Builtin.«object.__getattribute__» ⟨[.ref a,.str "__class__" tk],[]⟩) Q E ⟨h,g,d,t,os⟩:=by
 have LT:Looks (model prog w) h (typeOf (.ref a)) (.ref C):=hc ▸ (Looks.ld hx).andThen .now
 have L1:=looks_findIn (M:=model prog w) X ha
 have hT5:(⟨h,g,d,t,os⟩:Shared).TypeIs (.builtin "object.__class__") "getset_descriptor":=KF.type_class
 have f5:=KF.type_class
 have f6:=F.slot_gs_get.lookup
 have f7:=F.slot_gs_set.lookup
 repeat (any_goals (first|assumption|(with_reducible refine wpAny_loadPart_at hx ?_;rw [hc])|with_reducible refine L1.at ?_|wp_step))
 refine exc_cget X LT hm ?_
 repeat (any_goals (first|assumption|wp_step))
end
end L2
namespace L2
open PySem PySem.Spec PyProof.Rows PySem.W
section
variable {prog:Program} {w:World} {A:Around} {E:Value→Shared→Prop} {h:Heap} {g:Array GenState} {d:Drawn} {t:Nat} {os:OsState} {K:PySem.W.Frag} {a C:Addr} {o:Obj}
theorem exc_check {M:Model} {nameV:Value} {Q:Unit→Shared→Prop} (X:K.In h) (hx:h.get? a=some o) (hc:o.cls=.ref C) (hm:mroIn K C (.type "BaseException")=some true) (hq:Q () ⟨h,g,d,t,os⟩) :
  wpAny M A (checkBuiltinCall "BaseException.__getattribute__" ⟨[.ref a,nameV],[]⟩) Q E ⟨h,g,d,t,os⟩:=by
 have hk:builtinKind "BaseException.__getattribute__" = some .slot:=by decide +kernel
 have hsplit:splitId "BaseException.__getattribute__" = some ("BaseException","__getattribute__"):=by decide +kernel
 have L1:=looks_mroIn (M:=M) X hm
 have ha:=F.args_bexc_ga (.ref a) nameV
 simp only [checkBuiltinCall,hk,hsplit]
 refine wpAny_bind ?_
 ·unfold isInstance
  repeat (first|(with_reducible refine wpAny_loadPart_at hx ?_;rw [hc])|with_reducible refine L1.at ?_|wp_step)
  exact hq
theorem exc_call {tk:Tok} {R:Result→Shared→Prop} (X:K.In h) (hx:h.get? a=some o) (hc:o.cls=.ref C) (ha:findIn K (.ref C) "__class__" = some (some (.builtin "object.__class__"))) (hm:mroIn K C (.type "object")=some true)
  (hb:mroIn K C (.type "BaseException")=some true) (hq:R (.ok (.ret (.ref C))) ⟨h,g,d,t,os⟩):codeAny (model prog w) A (.call (.builtin "BaseException.__getattribute__") ⟨[.ref a,.str "__class__" tk],[]⟩) R ⟨h,g,d,t,os⟩:=
 codeAny_call_builtin F.excAttr_ValueError.ga.plain F.entry_bexc_ga (exc_check X hx hc hb (exc_entry X hx hc ha hm hq))
theorem exc_by {tk:Tok} {fill expr:Bool} {Q:Value→Shared→Prop} (X:K.In h) (hx:h.get? a=some o) (hc:o.cls=.ref C) (ha:findIn K (.ref C) "__class__" = some (some (.builtin "object.__class__"))) (hm:mroIn K C (.type "object")=some true)
  (hb:mroIn K C (.type "BaseException")=some true) (hg:findIn K (.ref C) "__getattribute__" = some (some (.builtin "BaseException.__getattribute__"))) (hn:findIn K (.ref C) "__getattr__" = some none) (hq:Q (.ref C) ⟨h,g,d,t,os⟩) :
  wpAny (model prog w) A (getAttrBy (.ref a) (.str "__class__" tk) fill expr) Q E ⟨h,g,d,t,os⟩:=by
 have f3:=F.excAttr_ValueError.ga.bind (.ref a)
 have hx0:(expr && onTheHeap (Value.builtin "BaseException.__getattribute__"))=false:=by cases expr<;>rfl
 have hx2:(Value.builtin "BaseException.__getattribute__" == Value.builtin "object.__getattribute__")=false:=by decide +kernel
 have hx1:(onTheHeap (Value.ref C) && Value.builtin "BaseException.__getattribute__" == Value.builtin "object.__getattribute__")=false:=by rw [hx2];rfl
 have L1:=looks_findIn (M:=model prog w) X hg
 have L2':=looks_findIn (M:=model prog w) X hn
 repeat (any_goals (first|assumption|(with_reducible refine wpAny_loadPart_at hx ?_;rw [hc])|with_reducible refine L1.at ?_|with_reducible refine L2'.at ?_|wp_step))
 refine exc_call X hx hc ha hm hb ?_
 repeat (any_goals (first|assumption|wp_step))
theorem exc_cls {Q:Option Value→Shared→Prop} (X:K.In h) (hx:h.get? a=some o) (hc:o.cls=.ref C) (ha:findIn K (.ref C) "__class__" = some (some (.builtin "object.__class__"))) (hm:mroIn K C (.type "object")=some true)
  (hb:mroIn K C (.type "BaseException")=some true) (hg:findIn K (.ref C) "__getattribute__" = some (some (.builtin "BaseException.__getattribute__"))) (hn:findIn K (.ref C) "__getattr__" = some none) (hq:Q (some (.ref C)) ⟨h,g,d,t + 1,os⟩) :
  wpAny (model prog w) A (getAttr? (.ref a) "__class__") Q E ⟨h,g,d,t,os⟩:=by
 unfold getAttr? getAttrBy?
 refine wpAny_bind (wpAny_mkText (wpAny_bind (wpAny_attempt (exc_by X hx hc ha hm hb hg hn (wpAny_pure hq)))))
end
def excCls (K:PySem.W.Frag) (C:Addr):Bool:=(clsIn K C).isSome && (findIn K (.ref C) "__class__" == some (some (.builtin "object.__class__")) && (mroIn K C (.type "object") == some true && (mroIn K C (.type "BaseException") == some true &&
 (findIn K (.ref C) "__getattribute__" == some (some (.builtin "BaseException.__getattribute__")) && findIn K (.ref C) "__getattr__" == some none))))
theorem kitx_exc {K:PySem.W.Frag} {a C:Addr} (e:excCls K C=true):KitX K (.ref a) (.ref C) (fun h=>∃o,h.get? a=some o∧o.cls=.ref C):=by
 unfold excCls at e
 simp only [Bool.and_eq_true,beq_iff_eq] at e
 obtain ⟨e0,ha,hm,hb,hg,hn⟩:=e
 refine ⟨fun M h _ ⟨o,hx,hc⟩=>hc ▸ (Looks.ld hx).andThen .now,fun M h X _=>?_,fun h tp dd its n sl X htp=>?_,fun {prog w A E Q s} X ⟨o,hx,hc⟩ k=>?_⟩
 ·unfold clsIn at e0
  split at e0
  ·rename_i c' d' cd' sl' ho
   intro A' Q' E' s' k q
   unfold isType loadHead
   exact wpAny_bind (wpAny_loadPart (k _ _ (X _ _ ho)) (wpAny_pure q))
  ·cases e0
 ·refine Bool.eq_false_iff.mpr fun q=>?_
  have e:C=tp:=Value.ref.inj (beq_iff_eq.mp q)
  subst e
  unfold clsIn at e0
  split at e0
  ·rename_i c' d' cd' sl' ho
   have z:=(X _ _ ho).symm.trans htp
   cases z
  ·cases e0
 ·obtain ⟨h,g,d,t,os⟩:=s
  exact exc_cls X hx hc ha hm hb hg hn k
theorem refs_eq :∀{cs:List Addr} {its:List Value},Vals (cs.map V.ref) its→its=cs.map Value.ref
 | [],_,.nil=>rfl
 | c :: cs,_,.cons r t=>by
  rw [refs_eq t]
  cases (show _=Value.ref c from r)
  rfl
section
variable {X:Cx}
theorem call_isinstX (K:PySem.W.Frag) (eK:X.K=K:=by rfl):CallR X (.builtin "isinstance") (fun xs H Q=>∃ea C v u b,xs=[.ref ea,v]∧H ea=some (ExcO ea (.ref C))∧excCls K C=true∧RelV v u∧(∀u',RelV v u'→u'=u)∧kitOne K (.ref C) u=some b∧Q (.bl b) H):=by
 subst eK
 intro pins s σ H xs us Q I r h
 obtain ⟨ea,C,v,u,b,rfl,hO,hC,hv,hu,hk,q⟩:=h
 obtain ⟨u0,u1,rfl,rx,ry⟩:=vals2 r
 cases (show u0=Value.ref ea from rx)
 cases hu _ ry
 obtain ⟨p,_⟩:=I.hok ea _ hO
 exact kia_one (kitx_exc hC) I.kIn p hk (fun z=>nomatch z) fun tk=>⟨.bl b,H,I.tok tk,rfl,q⟩
theorem call_isinstXT (K:PySem.W.Frag) (eK:X.K=K:=by rfl):CallR X (.builtin "isinstance") (fun xs H Q=>∃(ea C p:Addr) (cs:List Addr) (b:Bool),xs=[.ref ea,.ref p]∧H ea=some (ExcO ea (.ref C))∧excCls K C=true∧H p=some (.tup (cs.map V.ref))∧kitAny K (.ref C) (cs.map Value.ref)=some b∧Q (.bl b) H):=by
 subst eK
 intro pins s σ H xs us Q I r h
 obtain ⟨ea,C,p,cs,b,rfl,hO,hC,hp,hk,q⟩:=h
 obtain ⟨u0,u1,rfl,rx,ry⟩:=vals2 r
 cases (show u0=Value.ref ea from rx)
 cases (show u1=Value.ref p from ry)
 obtain ⟨po,_⟩:=I.hok ea _ hO
 obtain ⟨_,its,rv,⟨ob,hob,c1,n,c2⟩,_⟩:=I.hok p _ hp
 have e:its=cs.map Value.ref:=refs_eq rv
 subst e
 obtain ⟨oc,od,oda,osl⟩:=ob
 dsimp only at c1 c2
 subst c1 c2
 exact kia_tup (kitx_exc hC) I.kIn po hob hk (fun z=>nomatch z) fun tk=>⟨.bl b,H,I.tok tk,rfl,q⟩
end
end L2
namespace L2
open PySem PySem.Spec PyProof.Rows
def tStrs (xs:List Str):TA:=fun _ H Q=>Q (xs.map V.str) H
def cStr (p:Str×Nat×Pos):Expr:=.Constant (.str p.1) p.2.1 p.2.2
end L2
set_option maxHeartbeats 4000000
namespace L2
open PySem PySem.Spec PyProof.Rows
def cStG (σ:St) (fr:List (Nat×Str)) (us:List (Option V)):St:=us++fr.map fun p=>(σ[p.1]?).join
def tCompG (wi:TI) (n:Nat) (fr:List (Nat×Str)) (g:TG) (tc:TT) (te:TE):TE:=fun σ H Q=>wi σ H fun J H1=>∃W:Nat→Nat→List V→Hp→Prop,(∃m,W 0 m [] H1)∧∀i m ys H,W i m ys H→
 (J.stop i H∧ys.length≤sizeLine∧∀p,H p=none→Q (.ref p) (upd H p (.lst ys)))∨
 (J.go i H∧ys.length≤sizeLine∧∀v H',J.yld i H v H'→g v (cStG σ fr (List.replicate n none)) H' fun σ6 H6=>∃us,us.length=n∧σ6=cStG σ fr us∧tc (cStG σ fr us) H6 fun b H2=>if b=true then te (cStG σ fr us) H2 fun y H3=>∃m',m' < m∧W (i + 1) m' (ys++[y]) H3 else∃m',m' < m∧W (i + 1) m' ys H2)
section
variable {X:Cx}
theorem pg_cname {scope:Scope} {cl:List (Str×Addr)} {N:List Str} {C:Addr} {s₂:Shared} {H₂:Hp} {fp:List Addr} {x:Str} {px:Pos} (i:Nat) (hN:N.Nodup) (hi:N[i]? = some x) (hx:scope.names.lookup x=some .local):PG (cxComp X scope cl N C s₂ H₂ fp) (.Name x px) (gName i):=
 pg_name hN hi (.inl (lookup_relabel_local hx)) (.inr (lookup_relabel_local hx))
theorem comp_gen {xs:List Str} {tg:Expr} {g:TG} {pos:Pos} {elt iter:Expr} {ifs:List Expr} {scope:Scope} {fr:List (Nat×Str)} {wi:TI} {tc:TT} {te:TE} {use:Option (Value→Sem Unit)} {QQ:Value→Shared→Prop} {pins:List (Addr×Obj)} {s:Shared} {σ:St} {H:Hp} {Q:VK} {pp:Pos} (hcalm:X.calm=true) (hi:PI X tg iter wi)
  (hfr :∀p∈fr,X.N[p.1]? = some p.2∧(X.env.kindOf p.2=some .cell∨X.env.kindOf p.2=some .free))
  (hfree :∀y∈scope.names,y.2=NameKind.free→X.env.kindOf y.1=some .cell∨X.env.kindOf y.1=some .free)
  (hfs :∀p∈fr,(p.2,NameKind.free)∈scope.names∧((relabel scope X.env).names.lookup p.2=some .cell∨(relabel scope X.env).names.lookup p.2=some .free))
  (hcell :∀y∈scope.names,y.2≠NameKind.cell) (hkind:scope.kind=.function) (hnames :∀y∈scope.names,y.2=NameKind.local→scope.names.lookup y.1=some .local)
  (hg :∀cl C s₂ H₂ fp,PG (cxComp X scope cl (xs++fr.map (·.2)) C s₂ H₂ fp) tg g)
  (ht :∀cl C s₂ H₂ fp,PF (cxComp X scope cl (xs++fr.map (·.2)) C s₂ H₂ fp) ifs tc) (he :∀cl C s₂ H₂ fp,PE (cxComp X scope cl (xs++fr.map (·.2)) C s₂ H₂ fp) elt te)
  (hs :∀x,foldedSetIterable iter X.env x=pure x) (I:Inv X pins σ H s) (h:tCompG wi xs.length fr g tc te σ H Q)
  (hend :∀(D:Addr) (s4:Shared) (H4:Hp),Inv X pins σ H4 s4→(∃m,s4.heap.Ns (D + 1) m)→H4 (D + 1)=none→D + 1≠X.env.locals→X.s₀.heap.objs.size≤D + 1→(D + 1∉X.fs∧(∀x c,X.env.cells.lookup x=some c→c≠D + 1)∧∀p∈X.pn++pins,p.1≠D + 1)→Q (.ref D) H4→compPost (model X.prog X.w) X.A X.xe use QQ (.ref D) (D + 1) (.ok .next) s4) :
  wpAny (model X.prog X.w) X.A (comprehension (.ListComp elt [⟨tg,iter,ifs,0⟩] scope pos) scope X.env pp (newList []) false (firstIter [⟨tg,iter,ifs,0⟩] X.env) use) QQ X.xe s:=by
 obtain ⟨cl,hcl,hc1,hc2⟩:=closure_ok (scope:=scope) (env:=X.env) fun y hy hk=>I.ok.has y.1 (hfree y hy hk)
 refine wpAny_comprehension_free (use:=use) rfl hs hcl hkind hnames (thn (hi pins s σ H _ I h) fun xv s₁ h₁=>thn h₁ fun itv s₂ h₂=>?_)
 obtain ⟨it,fp,tn,J,H2,e,I2,T,st2,f2,W,⟨m0,w0⟩,turn⟩:=h₂
 subst e
 -- the list that is filled,the block's names
 refine wpAny_newObj_type (wpAny_newFunctionEnv hcell (by intro y hy;simp at hy) (fun h₁ hns₁ hsb₁=>?_) hkind)
 dsimp only at hns₁ hsb₁⊢
 generalize hD:s₂.heap.objs.size=D at hns₁ hsb₁⊢
 generalize hG:s₂.heap.push { cls:=.type "list",dict:=none,data:=.seq ([]:List Value).toArray }=G at hns₁ hsb₁⊢
 have hC:G.objs.size=D + 1:=by rw [←hG,Heap.size_push,hD]
 generalize hCC:G.objs.size=C at hns₁ hsb₁ hC⊢
 subst hC
 have fpD :∀b∈fp,b < D:=fun b hb=>by
  obtain ⟨o,e,_⟩:=T.obj _ _ st2 b hb
  rw [←hD];exact Heap.lt_size e
 have old :∀b o,s₂.heap.get? b=some o→h₁.get? b=some o:=fun b o e=>hsb₁.extBut b o (Nat.ne_of_lt (Nat.lt_succ_of_lt (by rw [←hD];exact Heap.lt_size e))) (Heap.get?_push_of_some _ (hG ▸ Heap.get?_push_of_some _ e))
 have hGD:G.get? D=some { cls:=.type "list",dict:=none,data:=.seq ([]:List Value).toArray }:=by
  rw [←hG,←hD]
  exact Heap.get?_push_size _ rfl
 have hacc:h₁.PlainList D #[]:=⟨0,hsb₁.extBut _ _ (Nat.ne_of_lt (Nat.lt_succ_self D)) (Heap.get?_push_of_some _ hGD)⟩
 have clD :∀y c,cl.lookup y=some c→c < D:=fun y c e=>by
  obtain ⟨v,q⟩:=I2.cell y c (hc1 y c e)
  rw [←hD];exact q.lt
 have stkD :∀b∈frs X.stack,b < D:=fun b hb=>by
  rcases List.mem_cons.mp (I2.stkSub b hb) with e|hb
  ·rw [e,←hD];exact I2.lt
  ·rw [←hD]
   exact Nat.lt_of_not_le fun z=>I2.nofs z hb
 have fpS :∀b∈fp,b∉frs X.stack:=fun b hb hb'=>by
  rcases List.mem_cons.mp (I2.stkSub b hb') with e|z
  ·exact (f2 b hb).2.1 e
  ·exact (f2 b hb).2.2.1 z
 generalize hX':cxComp X scope cl (xs++fr.map (·.2)) (D + 1) s₂ H2 fp=X'
 have ok':X'.Ok:=by
  subst hX'
  refine ⟨I2.ok.mod,hkind,I2.ok.glob,I2.ok.blt,(by show s₂.heap.objs.size≤D + 1;omega),fun y z c e1 e2=>I2.ok.inj y z c (hc1 _ _ e1) (hc1 _ _ e2),fun y hy=>?_,(fun _ _ z=>Bool.noConfusion z),I2.ok.hd,I2.ok.frames,.inl rfl,fun b hb=>⟨?_,fun y c e=>?_⟩,fun b o e=>I2.bs b o e,?_,fun b o e hb=>?_,fpS,I2.env0.funs,I2.stkFree⟩
  ·rcases hy with hy|hy
   ·exact hc2 y (relabel_free hcell hy (.inl rfl))
   ·exact hc2 y (relabel_free hcell hy (.inr rfl))
  ·exact Nat.ne_of_lt (Nat.lt_succ_of_lt (fpD b hb))
  ·exact (f2 b hb).2.2.2.2.1 y c (hc1 y c e)
  ·exact Nat.le_trans I2.ok.bsz I2.sz
  ·rcases (f2 b hb).2.2.2.1 with z|z
   ·exact I2.ok.noex b o e z
   ·exact absurd (Nat.lt_of_lt_of_le (Heap.lt_size (I2.ok.bs b o e).1) z) (Nat.lt_irrefl _)
 have hL':X'.env.locals=D + 1:=by subst hX';rfl
 have hcells':X'.env.cells=cl:=by subst hX';rfl
 have hfs':X'.fs=frs X.stack:=by subst hX';rfl
 have hpn':X'.pn=[]:=by subst hX';rfl
 have hs0':X'.s₀=s₂:=by subst hX';rfl
 have hH0':X'.H₀=H2:=by subst hX';rfl
 have hex':X'.ex=fp:=by subst hX';rfl
 have hN':X'.N=xs++fr.map (·.2):=by subst hX';rfl
 have hA':X'.A=X.A:=by subst hX';rfl
 have hPr:X'.prog=X.prog∧X'.w=X.w∧X'.K=X.K∧X'.calm=true:=by subst hX';exact ⟨rfl,rfl,rfl,hcalm⟩
 have hxe':X'.xe=fun _ _=>False:=by subst hX';rfl
 have henv':X'.env=compEnvC scope cl (D + 1) X.env:=by subst hX';rfl
 have ht':PF X' ifs tc:=hX' ▸ ht cl (D + 1) s₂ H2 fp
 have he':PE X' elt te:=hX' ▸ he cl (D + 1) s₂ H2 fp
 have hg':PG X' tg g:=hX' ▸ hg cl (D + 1) s₂ H2 fp
 have fresh :∀b,D≤b→H2 b=none:=fun b hb=>I2.hok.fresh (by rw [hD];exact hb)
 have start :∀t,Inv X' [] (cStG σ fr (List.replicate xs.length none)) H2 { s₂ with heap:=h₁,toks:=t }:=fun t=>by
  refine ⟨ok',by rw [hs0'],I2.bare,?_,⟨_,by rw [hL'];exact hns₁,fun i y v e1 e2 e3=>?_⟩,fun y c e=>?_,by rw [hL'];exact fresh _ (Nat.le_succ _),fun y c e=>?_,fun p hp=>?_,?_,?_⟩
  ·rw [hfs',hex',hH0',hs0']
   exact Un.kept old
  ·rw [hN'] at e1
   by_cases hin:i < xs.length
   ·exfalso
    unfold cStG at e2
    rw [List.getElem?_append_left (by rw [List.length_replicate];exact hin),List.getElem?_replicate,if_pos hin] at e2
    cases e2
   ·have hin:xs.length≤i:=Nat.le_of_not_lt hin
    rw [List.getElem?_append_right hin,List.getElem?_map] at e1
    unfold cStG at e2
    rw [List.getElem?_append_right (by rw [List.length_replicate];exact hin),List.length_replicate,List.getElem?_map] at e2
    generalize i - xs.length=i at e1 e2
    cases ej:fr[i]? with
    | none=>rw [ej] at e1;cases e1
    | some p=>
     rw [ej] at e1
     obtain rfl:p.2=y:=Option.some.inj e1
     have e2':(σ[p.1]?).join=some v:=by
      rw [ej] at e2
      exact Option.some.inj e2
     have e2'':σ[p.1]? = some (some v):=by
      cases q:σ[p.1]? with
      | none=>rw [q] at e2';cases e2'
      | some z=>rw [q] at e2';exact congrArg some e2'
     have hp:=List.mem_of_getElem? ej
     obtain ⟨m,hn,hl⟩:=I2.loc
     obtain ⟨u,r,l⟩:=hl p.1 p.2 v (hfr p hp).1 e2'' (by rcases (hfr p hp).2 with z|z;exact .inr (.inl z);exact .inr (.inr z))
     refine ⟨u,r,.inr ⟨?_,?_⟩⟩
     ·rw [henv'];exact (hfs p hp).2
     ·rcases l with ⟨z,_⟩|⟨_,c,ec,q⟩
      ·exfalso
       rcases (hfr p hp).2 with z'|z'<;>(rw [z] at z';cases z')
      ·obtain ⟨c',ec'⟩:=hc2 p.2 (hfs p hp).1
       have:=hc1 _ _ ec'
       rw [ec] at this
       cases this
       obtain ⟨o,ho,hd⟩:=q
       exact ⟨c,by rw [hcells'];exact ec',o,old _ _ ho,hd⟩
  ·rw [hcells'] at e
   obtain ⟨v,o,ho,hd⟩:=I2.cell y c (hc1 y c e)
   exact ⟨v,o,old _ _ ho,hd⟩
  ·rw [hcells'] at e
   exact I2.freeC y c (hc1 y c e)
  ·rw [hpn'] at hp;exact nomatch hp
  ·rw [hPr.1,hPr.2.1]
   exact I2.hok.kept old
  ·rw [hN'];unfold cStG;simp
 have FP :∀{pins':List (Addr×Obj)} {H':Hp},(∀b∈fp,H' b=none)→(∀p∈pins',p.1=D)→∀b∈fp,FpOk X' pins' H' b:=fun hn hp b hb=>by
  refine ⟨hn b hb,?_,?_,.inl (by rw [hex'];exact hb),fun y c e=>?_,fun p hp'=>?_⟩
  ·rw [hL'];exact Nat.ne_of_lt (Nat.lt_succ_of_lt (fpD b hb))
  ·rw [hfs'];exact fpS b hb
  ·rw [hcells'] at e;exact (f2 b hb).2.2.2.2.1 y c (hc1 y c e)
  ·rw [hpn'] at hp'
   rw [hp p hp']
   exact Nat.ne_of_gt (fpD b hb)
 -- the turns
 have loop :∀s₃:Shared,s₃={ s₂ with heap:=h₁,toks:=s₂.toks + ([]:List (Str×Value)).length }→
   codeAny (model X.prog X.w) X.A (.compLoop (.ListComp elt [⟨tg,iter,ifs,0⟩] scope pos) 0 (.ref it) (.ref D) (compEnvC scope cl (D + 1) X.env))
    (compPost (model X.prog X.w) X.A X.xe use QQ (.ref D) (D + 1)) s₃:=by
  rintro s₃ rfl
  rw [←henv',←hPr.1,←hPr.2.1,←hA']
  refine comp_loop (fun k s'=>∃i ys its H',Inv X' [] (cStG σ fr (List.replicate xs.length none)) H' s'∧tn i s'.heap∧(∀b∈fp,H' b=none)∧s'.heap.PlainList D its.toArray∧Vals ys its∧H' D=none∧W i k ys H') ?_ m0
   ⟨0,[],[],H2,start _,T.keep _ _ _ st2 fun b hb o e=>old b o e,fun b hb=>(f2 b hb).1,hacc,.nil,fresh _ (Nat.le_refl _),w0⟩
  rintro n s3 ⟨i,ys,its,H3,I3,st3,fr3,ac3,rv3,hD3,w3⟩
  obtain ⟨na,ac3'⟩:=id ac3
  have I3':Inv X' [(D,{ cls:=.type "list",data:=.seq its.toArray na })] (cStG σ fr (List.replicate xs.length none)) H3 s3:=I3.pins_of fun p hp=>by
   rw [List.mem_singleton] at hp
   subst hp
   refine ⟨ac3',hD3,by rw [hL'];exact Nat.ne_of_lt (Nat.lt_succ_self D),by rw [hfs'];exact fun z=>Nat.lt_irrefl _ (stkD D z),fun v z=>nomatch z⟩
  have hT:=T
  rw [←hPr.1,←hPr.2.1,←hPr.2.2.1] at hT
  rcases turn i n ys H3 w3 with ⟨stop,hlen,qn⟩|⟨go,hlen,step⟩
  ·refine thn (hT.done X' rfl rfl rfl hPr.2.2.2 i _ s3 _ H3 _ I3' (FP fr3 (by intro p hp;rw [List.mem_singleton.mp hp])) st3 stop) fun r s4 ⟨hr,I4⟩=>?_
   subst hr
   obtain ⟨m4,hn4,_⟩:=id I4.loc
   obtain ⟨h',hh'⟩ :∃h',h'=s4.heap:=⟨_,rfl⟩
   have hs':Heap.SameBut (D + 1) s4.heap h':=by rw [hh'];exact ⟨rfl,fun _ _=>rfl⟩
   have hneD:D≠D + 1:=Nat.ne_of_lt (Nat.lt_succ_self D)
   have ac4:=(I4.pin (D,_) (List.mem_append_right _ List.mem_cons_self))
   have ac5:h'.get? D=some { cls:=.type "list",data:=.seq its.toArray na }:=(hs'.2 D hneD).trans ac4.1
   have un:Un (frs X.stack) fp H2 H3 s₂.heap s4.heap:=by
    have:=I4.base
    rw [hfs',hex',hH0',hs0'] at this
    exact this
   have kp :∀b o,b≠D + 1→s4.heap.get? b=some o→h'.get? b=some o:=fun b o hb e=>(hs'.2 b hb).trans e
   have neC :∀b o,s₂.heap.get? b=some o→b≠D + 1∧b≠D:=fun b o e=>by
    have:=Heap.lt_size e
    rw [hD] at this
    exact ⟨Nat.ne_of_lt (Nat.lt_succ_of_lt this),Nat.ne_of_lt this⟩
   have un':Un (frs X.stack) fp H2 (upd H3 D (.lst ys)) s₂.heap h':=by
    refine ⟨fun b o e n hb hx=>kp b o (neC b o e).1 (un.keep b o e n hb hx),fun b o e n hb hx=>?_,fun b o e n hx=>by rw [upd_ne (neC b o e).2];exact un.free b o e n hx,fun b o e hx=>?_,fun b xs e=>?_,fun b o u e=>?_,fun b ps e=>?_⟩
    ·obtain ⟨sl,z⟩:=un.slot b o e n hb hx
     exact ⟨sl,kp _ _ (neC b o e).1 z⟩
    ·obtain ⟨o',z⟩:=un.there b o e hx
     exact ⟨o',kp _ _ (neC b o e).1 z⟩
    ·rw [upd_ne (ne_of_none e (fresh D (Nat.le_refl _)))];exact un.tups b xs e
    ·rw [upd_ne (ne_of_none e (fresh D (Nat.le_refl _)))];exact un.frzs b o u e
    ·rw [upd_ne (ne_of_none e (fresh D (Nat.le_refl _)))];exact un.tbls b ps e
   have hfreeC:H3 (D + 1)=none:=by have:=I4.free;rw [hL'] at this;exact this
   have hok':HOk X.prog X.w (upd H3 D (.lst ys)) h':=fun b u e=>by
    by_cases hb:b=D
    ·subst hb
     rw [upd_same] at e
     cases e
     exact ⟨hlen,its,na,rv3,ac5⟩
    ·rw [upd_ne hb] at e
     have z:=I4.hok b u e
     rw [hPr.1,hPr.2.1] at z
     refine z.stay (fun c v hc q=>kp c v ?_ q) (fun c q=>by rw [upd_ne (ne_of_none q hD3)];exact q) fun c xs q=>by rw [upd_ne (ne_of_none q hD3)];exact q
     rintro rfl
     rcases hc with rfl|hc
     ·rw [hfreeC] at e;cases e
     ·rw [hfreeC] at hc;cases hc
   subst hh'
   have I5:Inv X pins σ (upd H3 D (.lst ys)) s4:=I2.call' (s':=s4) (ch:=fp) (by have:=I4.os;rw [hs0'] at this;exact this) un' hok' I4.bare (fun b hb=>⟨(f2 b hb).2.2.2.1,(f2 b hb).2.1,(f2 b hb).2.2.2.2.1,(f2 b hb).2.2.2.2.2⟩)
   show compPost (model X'.prog X'.w) X'.A X.xe use QQ (.ref D) (D + 1) (.ok .next) s4
   rw [hPr.1,hPr.2.1,hA']
   refine hend D s4 _ I5 ⟨m4,hL' ▸ hn4⟩ ?_ ?_ ?_ ?_ (qn D hD3)
   ·rw [upd_ne (Nat.ne_of_gt (Nat.lt_succ_self D))];exact hfreeC
   ·exact Nat.ne_of_gt (Nat.lt_succ_of_lt (by rw [←hD];exact I2.lt))
   ·exact Nat.le_trans I2.sz (by rw [hD];exact Nat.le_succ D)
   ·refine ⟨fun z=>I2.nofs (by rw [hD];exact Nat.le_succ D) z,fun y c e=>?_,fun p hp=>?_⟩
    ·obtain ⟨v,q⟩:=I2.cell y c e
     exact Nat.ne_of_lt (Nat.lt_succ_of_lt (by rw [←hD];exact q.lt))
    ·exact Nat.ne_of_lt (Nat.lt_succ_of_lt (by rw [←hD];exact Heap.lt_size (I2.pin p hp).1))
  ·refine thn (hT.item X' rfl rfl rfl hPr.2.2.2 i _ s3 _ H3 _ I3' (FP fr3 (by intro p hp;rw [List.mem_singleton.mp hp])) st3 go) fun r s4 ⟨u,hr,h4⟩=>?_
   subst hr
   refine thn h4 fun _ s5 ⟨v,H5,I5,r5,y5,st5,fr5⟩=>?_
   have I5':=I5.pinned (FP fr5 (by intro p hp;rw [List.mem_singleton.mp hp])) (T.obj _ _ st5)
   have g5:=hg' _ s5 (cStG σ fr (List.replicate xs.length none)) H5 v u _ I5' r5 (step v H5 y5)
   rw [hxe'] at g5
   refine thn g5 fun _ s6 ⟨σ6,H6,I6,us,hus,e6,q6⟩=>?_
   subst e6
   have t6:=ht' _ s6 _ H6 _ I6 q6
   rw [hxe'] at t6
   refine thn t6 fun ok s7 ⟨H7,I7,q7⟩=>?_
   have back :∀{H8:Hp} {s8:Shared} {ys':List V} {its':List Value} {pl:List (Addr×Obj)},Inv X' (pl++pinsAt fp s5.heap) (cStG σ fr us) H8 s8→s8.heap.PlainList D its'.toArray→Vals ys' its'→H8 D=none→(∃m',m' < n∧W (i + 1) m' ys' H8)→
     ∃m,m < n∧∃i ys its H',Inv X' [] (cStG σ fr (List.replicate xs.length none)) H' s8∧tn i s8.heap∧(∀b∈fp,H' b=none)∧s8.heap.PlainList D its.toArray∧Vals ys its∧H' D=none∧W i m ys H':=fun {H8 s8 ys' its' pl} I8 ac8 rv8 hD8 ⟨m',hm,w8⟩=>by
    refine ⟨m',hm,i + 1,ys',its',H8,(I8.pins_of (pins':=[]) (fun p hp=>absurd hp List.not_mem_nil)).weak (by unfold cStG;simp [hus]) ?_,T.keep _ _ _ st5 fun b hb o e=>(I8.pin (b,o) (List.mem_append_right _ (List.mem_append_right _ (mem_pinsAt hb e)))).1,fun b hb=>?_,ac8,rv8,hD8,w8⟩
    ·intro j z e
     unfold cStG at e⊢
     by_cases hj:j < xs.length
     ·rw [List.getElem?_append_left (by rw [List.length_replicate];exact hj),List.getElem?_replicate,if_pos hj] at e
      cases e
     ·have hj:xs.length≤j:=Nat.le_of_not_lt hj
      rw [List.getElem?_append_right (by rw [List.length_replicate];exact hj),List.length_replicate] at e
      rw [List.getElem?_append_right (by rw [hus];exact hj),hus]
      exact e
    ·obtain ⟨o,e,d⟩:=T.obj _ _ st5 b hb
     exact (I8.pin (b,o) (List.mem_append_right _ (List.mem_append_right _ (mem_pinsAt hb e)))).2.1
   have accOf :∀{H8:Hp} {s8:Shared} {σ8:St},Inv X' ([(D,{ cls:=.type "list",data:=.seq its.toArray na })]++pinsAt fp s5.heap) σ8 H8 s8→s8.heap.PlainList D its.toArray∧H8 D=none:=fun I8=>
    have z:=I8.pin (D,_) (List.mem_append_right _ (List.mem_append_left _ List.mem_cons_self))
    ⟨⟨na,z.1⟩,z.2.1⟩
   cases ok with
   | false=>
    rw [if_neg Bool.false_ne_true] at q7⊢
    exact back I7 (accOf I7).1 rv3 (accOf I7).2 q7
   | true=>
    rw [if_pos rfl] at q7⊢
    have t7:=he' _ s7 _ H7 _ I7 q7
    rw [hxe'] at t7
    refine thn t7 fun y s8 ⟨vy,H8,I8,r8,q8⟩=>?_
    obtain ⟨ac8,hD8⟩:=accOf I8
    refine wpAny_list_append_plain (hsz:=by have:=rv3.length;rw [List.size_toArray,←this];exact hlen) ac8 fun h9 ac9 hs9=>?_
    have I9:Inv X' ([]++pinsAt fp s5.heap) (cStG σ fr us) H8 s8:=I8.pins_of fun p hp=>(I8.pin p (List.mem_append_right _ (List.mem_append_right _ hp)))
    have I10:Inv X' ([]++pinsAt fp s5.heap) (cStG σ fr us) H8 { s8 with heap:=h9 }:=by
     refine I9.turned (t':=s8.toks) (it:=D) (fun b o hb e=>(hs9.2 b hb).trans e) hD8 (by rw [hL'];exact Nat.ne_of_lt (Nat.lt_succ_self D)) (.inr (by rw [hs0',hD];exact Nat.le_refl _)) (fun y' c e=>?_) fun p hp=>?_
     ·rw [hcells'] at e;exact Nat.ne_of_lt (clD y' c e)
     ·rw [hpn'] at hp
      exact Nat.ne_of_lt (fpD _ (of_pinsAt hp).1)
    have e9:its.toArray.push y=(its++[y]).toArray:=by simp
    rw [e9] at ac9
    exact back I10 ac9 (rv3.snoc r8) hD8 q8
 exact codeAny_compStart_list (loop _ rfl) (T.self _ 0 _ _ _ (T.keep _ _ _ st2 fun b hb o e=>old b o e) (loop _ rfl))
theorem pe_compG {xs:List Str} {tg:Expr} {g:TG} {pos:Pos} {elt iter:Expr} {ifs:List Expr} {scope:Scope} {fr:List (Nat×Str)} {wi:TI} {tc:TT} {te:TE} (hcalm:X.calm=true) (hi:PI X tg iter wi)
  (hfr :∀p∈fr,X.N[p.1]? = some p.2∧(X.env.kindOf p.2=some .cell∨X.env.kindOf p.2=some .free))
  (hfree :∀y∈scope.names,y.2=NameKind.free→X.env.kindOf y.1=some .cell∨X.env.kindOf y.1=some .free)
  (hfs :∀p∈fr,(p.2,NameKind.free)∈scope.names∧((relabel scope X.env).names.lookup p.2=some .cell∨(relabel scope X.env).names.lookup p.2=some .free))
  (hcell :∀y∈scope.names,y.2≠NameKind.cell) (hkind:scope.kind=.function) (hnames :∀y∈scope.names,y.2=NameKind.local→scope.names.lookup y.1=some .local)
  (hg :∀cl C s₂ H₂ fp,PG (cxComp X scope cl (xs++fr.map (·.2)) C s₂ H₂ fp) tg g)
  (ht :∀cl C s₂ H₂ fp,PF (cxComp X scope cl (xs++fr.map (·.2)) C s₂ H₂ fp) ifs tc) (he :∀cl C s₂ H₂ fp,PE (cxComp X scope cl (xs++fr.map (·.2)) C s₂ H₂ fp) elt te)
  (hs :∀x,foldedSetIterable iter X.env x=pure x:=by intro _;rfl):PE X (.ListComp elt [⟨tg,iter,ifs,0⟩] scope pos) (tCompG wi xs.length fr g tc te):=by
 intro pins s σ H Q I h
 rw [eval_ListComp]
 refine comp_gen hcalm hi hfr hfree hfs hcell hkind hnames hg ht he hs I h fun D s4 H4 I4 hn hf hl hz ⟨hb,hc,hp⟩ q=>?_
 obtain ⟨m,hn⟩:=hn
 exact ⟨m,hn,fun h' hs'=>⟨.ref D,H4,I4.turned (t':=s4.toks) (it:=D + 1) (fun b o hb e=>(hs'.2 b hb).trans e) hf hl (.inr hz) hc hp,rfl,q⟩⟩
theorem ps_setG {xs:List Str} {tg:Expr} {g:TG} {pos:Pos} {elt iter:Expr} {ifs:List Expr} {scope:Scope} {fr:List (Nat×Str)} {wi:TI} {tc:TT} {te:TE} {i:Nat} {y:Str} {py spos:Pos} (hNy:X.N.Nodup) (hiy:X.N[i]? = some y) (hy:Loc X.env.scope y) (hcalm:X.calm=true) (hi:PI X tg iter wi)
  (hfr :∀p∈fr,X.N[p.1]? = some p.2∧(X.env.kindOf p.2=some .cell∨X.env.kindOf p.2=some .free))
  (hfree :∀y∈scope.names,y.2=NameKind.free→X.env.kindOf y.1=some .cell∨X.env.kindOf y.1=some .free)
  (hfs :∀p∈fr,(p.2,NameKind.free)∈scope.names∧((relabel scope X.env).names.lookup p.2=some .cell∨(relabel scope X.env).names.lookup p.2=some .free))
  (hcell :∀y∈scope.names,y.2≠NameKind.cell) (hkind:scope.kind=.function) (hnames :∀y∈scope.names,y.2=NameKind.local→scope.names.lookup y.1=some .local)
  (hg :∀cl C s₂ H₂ fp,PG (cxComp X scope cl (xs++fr.map (·.2)) C s₂ H₂ fp) tg g)
  (ht :∀cl C s₂ H₂ fp,PF (cxComp X scope cl (xs++fr.map (·.2)) C s₂ H₂ fp) ifs tc) (he :∀cl C s₂ H₂ fp,PE (cxComp X scope cl (xs++fr.map (·.2)) C s₂ H₂ fp) elt te)
  (hs :∀x,foldedSetIterable iter X.env x=pure x:=by intro _;rfl) (hw:swapsWith (.ListComp elt [⟨tg,iter,ifs,0⟩] scope pos) (some (.Name y py)) spos.line X.env=pure true:=by rfl) (hf:X.fn y=true∨X.env.scope.names.lookup y=some .local:=by first|exact .inl rfl|exact .inr rfl|assumption) :
  PS X (.Assign [.Name y py] (.ListComp elt [⟨tg,iter,ifs,0⟩] scope pos) spos) (tAsg (tCompG wi xs.length fr g tc te) (gName i)):=by
 intro pins s σ H D I h
 rw [exec_Assign_Name_used y py _ spos hw]
 refine wpAny_bind (wpAny_standAt (wpAny_bind ?_))
 show wpAny _ _ (do let _ ←comprehension (.ListComp elt [⟨tg,iter,ifs,0⟩] scope pos) scope X.env (firstIterPos [⟨tg,iter,ifs,0⟩] pos) (newList []) (firstAsync [⟨tg,iter,ifs,0⟩]) (firstIter [⟨tg,iter,ifs,0⟩] X.env) (some (assign (.Name y py) X.env));pure ()) _ _ _
 refine wpAny_bind (comp_gen hcalm hi hfr hfree hfs hcell hkind hnames hg ht he hs I h fun A s4 H4 I4 hn hz hl hsz ⟨hb,hc,hp⟩ q=>?_)
 obtain ⟨m,hn⟩:=hn
 obtain ⟨o,es,ep,ho,hd,hk,hm⟩:=hn
 have I5:Inv X ((A + 1,o) :: pins) σ H4 s4:=I4.pins_of fun p hp'=>by
  rcases List.mem_cons.mp hp' with rfl|hp'
  ·exact ⟨ho,hz,hl,hb,fun v z=>by rw [hd] at z;cases z⟩
  ·exact I4.pin p (List.mem_append_right _ hp')
 refine thn (pg_name (pos:=py) hNy hiy hy hf _ s4 σ H4 (.ref A) (.ref A) D.nx I5 rfl q) fun _ s5 ⟨σ5,H5,I6,q6⟩=>?_
 have po:=I6.pin (A + 1,o) (List.mem_append_right _ List.mem_cons_self)
 have I7:Inv X pins σ5 H5 s5:=I6.pins_of fun p hp'=>I6.pin p (List.mem_append_right _ (List.mem_cons_of_mem _ hp'))
 refine ⟨m,⟨o,es,ep,po.1,hd,hk,hm⟩,fun h' hs'=>?_⟩
 exact wpAny_pure (wpAny_pure ⟨σ5,H5,I7.turned (t':=s5.toks) (it:=A + 1) (fun b o hb e=>(hs'.2 b hb).trans e) po.2.1 hl (.inr hsz) hc hp,q6⟩)
end
end L2
set_option maxHeartbeats 400000
namespace L2
open PySem PySem.Spec PyProof.Rows
theorem seq_any {t rest:TS} {D:Ends} {σ:St} {H:Hp} (R:St→Hp→Prop) (hr :∀σ1 H1,R σ1 H1→rest D σ1 H1) (h:(∀σ1 H1,R σ1 H1→rest D σ1 H1)→t { D with nx:=rest D } σ H):tSeq t rest D σ H:=h hr
theorem seq_asg {te:TE} {g:TG} {rest:TS} {D:Ends} {σ:St} {H:Hp} (h:te σ H fun x H1=>g x σ H1 (rest D)):tSeq (tAsg te g) rest D σ H:=h
structure Runs (J:It) (H1:Hp) (n:Nat) (Item:Nat→V→Hp→Prop):Prop where
 go :∀i,i < n→∀H,Same H1 H→J.go i H
 stop :∀H,Same H1 H→J.stop n H
 item :∀i,i < n→∀H v H',Same H1 H→J.yld i H v H'→Same H H'∧Item i v H'
theorem range_filter_succ (p:Nat→Bool) (n:Nat):(List.range (n + 1)).filter p=(List.range n).filter p++(if p n=true then [n] else []):=by
 rw [List.range_succ,List.filter_append,List.filter_cons]
 cases p n<;>rfl
inductive All2 {α β:Type} (R:α→β→Prop):List α→List β→Prop
 | nil:All2 R [] []
 | cons {a:α} {b:β} {xs:List α} {ys:List β}:R a b→All2 R xs ys→All2 R (a :: xs) (b :: ys)
theorem forall2_snoc {α β:Type} {R:α→β→Prop} :∀{xs:List α} {ys:List β} {x:α} {y:β},All2 R xs ys→R x y→All2 R (xs++[x]) (ys++[y])
 | [],_,x,y,.nil,h=>.cons h .nil
 | _ :: _,_,x,y,.cons a r,h=>.cons a (forall2_snoc r h)
theorem forall2_mono {α β:Type} {R S:α→β→Prop} (h :∀a b,R a b→S a b) :∀{xs:List α} {ys:List β},All2 R xs ys→All2 S xs ys
 | [],_,.nil=>.nil
 | _ :: _,_,.cons a r=>.cons (h _ _ a) (forall2_mono h r)
theorem forall2_len {α β:Type} {R:α→β→Prop} :∀{xs:List α} {ys:List β},All2 R xs ys→ys.length=xs.length
 | [],_,.nil=>rfl
 | _ :: _,_,.cons _ r=>congrArg (· + 1) (forall2_len r)
theorem forall2_fun {α β:Type} {f:α→β} :∀{xs:List α} {ys:List β},All2 (fun x y=>y=f x) xs ys→ys=xs.map f
 | [],_,.nil=>rfl
 | _ :: _,_,.cons a r=>by rw [List.map_cons,forall2_fun r,a]
theorem filter_range_map {α β:Type} (p:α→Bool) (f:α→β) (d:α) :∀xs:List α,((List.range xs.length).filter fun i=>p (xs[i]?.getD d)).map (fun i=>f (xs[i]?.getD d))=(xs.filter p).map f:=by
 intro xs
 have h:(List.range xs.length).map (fun i=>xs[i]?.getD d)=xs:=by
  apply List.ext_getElem
  ·simp
  ·intro i h1 h2
   simp only [List.getElem_map,List.getElem_range,List.getElem?_eq_getElem h2,Option.getD_some]
 have e:(xs.filter p).map f=((((List.range xs.length).map (fun i=>xs[i]?.getD d))).filter p).map f:=by rw [h]
 rw [e,List.filter_map,List.map_map]
 rfl
section
variable {X:Cx}
def rSetD:TSet:=fun x y v H Q=>∃a H',x=.ref a∧DPut H a y v H'∧Q H'
end
structure QE (X:Cx) (e:Expr) (t:TE):Prop where
 run:PE X e t
structure QA (X:Cx) (es:List Expr) (t:TA):Prop where
 run:PA X es t
structure QPs (X:Cx) (pos:Pos) (ks:List (Option Expr)) (vs:List Expr) (t:List (TE×TE)):Prop where
 run:PPs X pos ks vs t
structure QS (X:Cx) (st:Stmt) (t:TS):Prop where
 run:PS X st t
structure QSs (X:Cx) (sts:List Stmt) (t:TS):Prop where
 run:PSs X sts t
section
variable {X:Cx} {pos:Pos}
theorem q_of {sts:List Stmt} {t:TS} {G:TS→Prop} (q:QSs X sts t) (g:G t) :∃t,PSs X sts t∧G t:=⟨t,q.run,g⟩
theorem qss_one {st:Stmt} {t:TS} (h:QS X st t):QSs X [st] t:=⟨pss_one h.run⟩
theorem qss_cons {st:Stmt} {rest:List Stmt} {t u:TS} (h:QS X st t) (r:QSs X rest u):QSs X (st :: rest) (tSeq t u):=⟨pss_cons h.run r.run⟩
theorem qs_set {i:Nat} {x:Str} {e:Expr} {te:TE} {pos':Pos} (hN:X.N.Nodup) (hi:X.N[i]? = some x) (hx:Loc X.env.scope x) (he:QE X e te) (hs:swapsWith e (some (.Name x pos')) pos.line X.env=pure false:=by rfl) (hf:X.fn x=true∨X.env.scope.names.lookup x=some .local:=by first|exact .inl rfl|exact .inr rfl|assumption) :
  QS X (.Assign [.Name x pos'] e pos) (tAsg te (gName i)):=⟨ps_set hN hi hx he.run hs hf⟩
theorem qe_lst {es:List Expr} {t:TA} (h:QA X es t):QE X (.List es pos) (tLst t):=⟨pe_lst h.run⟩
theorem qe_tup {es:List Expr} {t:TA} {x1} (h:QA X es t):QE X (.Tuple es x1 pos) (tTup t):=⟨pe_tup h.run⟩
theorem qa_nil:QA X [] tNil:=⟨pa_nil⟩
theorem qa_cons {e:Expr} {es:List Expr} {te:TE} {t:TA} (ha:QE X e te) (hr:QA X es t) (hs:starEach (e :: es) X.env=(false,eval e X.env) :: starEach es X.env:=by rfl):QA X (e :: es) (tCons te t):=⟨pa_cons ha.run hr.run hs⟩
theorem qe_op {a b:Expr} {ta tb:TE} {op:Operator} {r:R2} (ho:OpR X (binaryOp op) r) (ha:QE X a ta) (hb:QE X b tb):QE X (.BinOp a op b pos) (tOp r ta tb):=⟨pe_op ho ha.run hb.run⟩
theorem qe_ix {a b:Expr} {ta tb:TE} {r:R2} (hr:IxR X r) (ha:QE X a ta) (hb:QE X b tb) (hs:PlainIx b):QE X (.Subscript a b pos) (tOp r ta tb):=⟨pe_ix hr ha.run hb.run hs⟩
end
theorem ix_seqK {X:Cx} {K:PySem.W.Frag} (h:X.K=K):IxR X (rIx K):=h ▸ ix_seq
theorem all2_get {α β:Type} {R:α→β→Prop} :∀{xs:List α} {ys:List β} {i:Nat} {y:β},All2 R xs ys→ys[i]? = some y→∃x,xs[i]? = some x∧R x y
 | _,_,i,y,.nil,e=>by simp at e
 | _,_,0,y,.cons a _,e=>by
  rw [List.getElem?_cons_zero] at e
  cases e
  exact ⟨_,List.getElem?_cons_zero,a⟩
 | _,_,i + 1,y,.cons _ r,e=>by
  rw [List.getElem?_cons_succ] at e
  obtain ⟨x,h1,h2⟩:=all2_get r e
  exact ⟨x,by rw [List.getElem?_cons_succ];exact h1,h2⟩
end L2
set_option maxHeartbeats 4000000
namespace L2
open PySem PySem.Spec PyProof.Rows
section
variable {prog:Program} {w:World} {A:Around} {E:Value→Shared→Prop} {s:Shared}
theorem draws_tuple (hh:A.handled=none) (it t:Addr) (ne:t≠it) (items:Array Value):Draws prog w A it [it,t] items.size (fun i v=>items[i]? = some v) (fun i h=>h.IsTupleIter it t i∧h.IsTuple t items) where
 live:=fun i h st=>st.1.elim fun o z=>⟨o,z.1⟩
 frame:=fun i h h' st k=>⟨st.1.elim fun o z=>⟨o,k it (by simp) o z.1,z.2⟩,st.2.elim fun o z=>⟨o,k t (by simp) o z.1,z.2⟩⟩
 item:=fun i s Q E hi st q=>tupOn st.1 st.2 (Array.getElem?_eq_getElem hi) fun h' it' sb=>q _ h' s.toks (Array.getElem?_eq_getElem hi) ⟨it',st.2.elim fun o z=>⟨o,(sb.2 t ne).trans z.1,z.2⟩⟩ sb
 done:=fun s Q E st q=>tupOff hh st.1 st.2 (by simp) fun h' e x y=>q h' e x y
theorem enumNew (a:Addr) (xs:Array Value):Meets (Builtin.«enumerate.__new__» ⟨[.type "enumerate",.ref a],[]⟩) (fun _ R s=>s.heap.IsTuple a xs∧R (.ok (.ret (.ref (s.heap.objs.size + 1))))
  { s with heap:=(s.heap.push { cls:=.type "tuple_iterator",data:=.fields #[.ref a,.int 0 0] }).push { cls:=.type "enumerate",data:=.fields #[.none,.bool false,.ref s.heap.objs.size,rawInt 0,.none,.none] } }):=
 .of_wp fun prog w A R s h=>by
  obtain ⟨hp,g,d,tk,os⟩:=s
  obtain ⟨ha,h⟩:=h
  have sub:=sub_enumerate
  have h1:Heap.IsTuple (Shared.heap ⟨hp,g,d,tk,os⟩) a xs:=ha
  wp_walk using wpAny_pyIter_tuple h1
  intro Γ p hΓ
  show wpAny (model prog w) A.in1 (pure _) _ _ _
  refine wpAny_pure ?_
  generalize List.drop 1 ((Γ.code,p) :: Γ.below)=L
  split
  ·rename_i c _ _ _ _
   cases c == Value.type "enumerate" with
   | true=>
    wp_walk using wpAny_pyIter_tuple h1
    refine ⟨_,rfl,?_⟩
    simpa [Heap.size_push,Builtin.SmallTypes.ownedTupleFields] using h
   | false=>
    wp_walk using wpAny_pyIter_tuple h1
    refine ⟨_,rfl,?_⟩
    simpa [Heap.size_push,Builtin.SmallTypes.ownedTupleFields] using h
  ·wp_walk using wpAny_pyIter_tuple h1
   refine ⟨_,rfl,?_⟩
   simpa [Heap.size_push,Builtin.SmallTypes.ownedTupleFields] using h
theorem enumMade {a:Addr} {xs:Array Value} {Q:Value→Shared→Prop} (ha:s.heap.IsTuple a xs)
  (q :∀h',IsEnum h' (s.heap.objs.size + 1) s.heap.objs.size 0 .none→h'.IsTupleIter s.heap.objs.size a 0→h'.objs.size=s.heap.objs.size + 2→(∀c o,s.heap.get? c=some o→h'.get? c=some o)→Q (.ref (s.heap.objs.size + 1)) { s with heap:=h' }) :
  wpAny (model prog w) A (call (.type "enumerate") [.ref a]) Q E s:=by
 refine callType_new F.called_enumerate (by decide) (F.typeCall_enumerate_1 _) (F.newCall_enumerate_1 _) (fun obj=>F.args_object_init_2 obj _) F.entry_enumerate_new (enumNew a xs) ⟨ha,?_⟩
 generalize hn:s.heap.objs.size=n at q⊢
 generalize h0:s.heap.push { cls:=.type "tuple_iterator",data:=.fields #[.ref a,.int 0 0] }=k0
 have z0:k0.objs.size=n + 1:=by rw [←h0,Heap.size_push,hn]
 have g0:k0.get? n=some { cls:=.type "tuple_iterator",data:=.fields #[.ref a,.int 0 0] }:=by rw [←h0,←hn];exact Heap.get?_push_size _ rfl
 have g1:(k0.push { cls:=.type "enumerate",data:=.fields #[.none,.bool false,.ref n,rawInt 0,.none,.none] }).get? (n + 1)=some { cls:=.type "enumerate",data:=.fields #[.none,.bool false,.ref n,rawInt 0,.none,.none] }:=by rw [←z0];exact Heap.get?_push_size _ rfl
 exact ⟨⟨_,g1,rfl⟩,q _ g1 ⟨_,Heap.get?_push_of_some _ g0,rfl,rfl⟩ (by rw [Heap.size_push,z0]) fun c o e=>Heap.get?_push_of_some _ (by rw [←h0];exact Heap.get?_push_of_some _ e)⟩
end
def IteL (K:PySem.W.Frag) (a:Addr):It:=
  ⟨fun i H=>∃xs x,SqL K H a xs∧xs[i]? = some x,
   fun i H v H'=>∃p,H p=none∧v=.ref p∧∀xs,SqL K H a xs→∃x,xs[i]? = some x∧H'=upd H p (.tup [.int i,x]),
   fun i H=>∃xs,SqL K H a xs∧xs.length=i⟩
theorem turn_enumL {P:Program} {w:World} {K:PySem.W.Frag} {elts:List Expr} {x1:Nat} {pos:Pos} {e it a:Addr} (ne:e≠it) (nae:a≠e) (nai:a≠it):Turn P w K (.Tuple elts x1 pos) (IteL K a) [e,it] e (fun n h=>(∃old,IsEnum h e it (n:Nat) old)∧h.IsListIter it a n) where
 mem:=by simp
 obj:=fun n h st c hc=>by
  simp only [List.mem_cons,List.not_mem_nil,or_false] at hc
  rcases hc with rfl|rfl
  ·obtain ⟨⟨old,z⟩,_⟩:=st
   exact ⟨_,z,fun v z=>by cases (show Data.fields _=Data.cell v from z)⟩
  ·obtain ⟨_,o,e,_,d⟩:=st
   exact ⟨o,e,fun v z=>by rw [d] at z;cases z⟩
 keep:=fun n h h' st k=>by
  obtain ⟨⟨old,z⟩,o,e1,e2⟩:=st
  exact ⟨⟨old,k e (by simp) _ z⟩,o,k it (by simp) _ e1,e2⟩
 item:=by
  intro X hP hw hK hc n pins s σ H E I hf st hg
  subst hP hw hK
  obtain ⟨xs,x,sa,hx⟩:=hg
  obtain ⟨ia,ra,pa,_⟩:=I.list sa
  have pa:s.heap.IsList a ia.toArray:=pa.isList
  obtain ⟨u,hu,ru⟩:=ra.get hx
  have D:=Draws.list (prog:=X.prog) (w:=X.w) (A:=X.A.in1) (I.ok.hd hc) it a nai ia.toArray
  have hlt:n < ia.toArray.size:=by
   have:=(List.getElem?_eq_some_iff.mp hu).1
   simpa using this
  obtain ⟨⟨old,se⟩,si⟩:=st
  refine wpAny_pyNext_enum_itemD D se ⟨si,pa⟩ hlt ne (by simp [ne,nae.symm]) fun y h' t hy out si' tT hz kk=>?_
  have hy:ia[n]? = some y:=by simpa using hy
  rw [hu] at hy
  cases hy
  have lte:e < s.heap.objs.size:=Heap.lt_size se
  have lti:it < s.heap.objs.size:=by obtain ⟨o,z,_⟩:=si;exact Heap.lt_size z
  have nTe:s.heap.objs.size≠e:=Nat.ne_of_gt lte
  have nT:s.heap.objs.size∉[e,it]:=by simp only [List.mem_cons,List.not_mem_nil,or_false,not_or];exact ⟨nTe,Nat.ne_of_gt lti⟩
  refine ⟨_,rfl,wpAny_letOwnedTupleGo_enum out fun h2 se2 sb=>?_⟩
  have k2 :∀b o,b∉[e,it]→s.heap.get? b=some o→h2.get? b=some o:=fun b o hb z=>by
   simp only [List.mem_cons,List.not_mem_nil,or_false,not_or] at hb
   exact (sb.2 b hb.1).trans (kk b o hb.1 hb.2 z)
  have tT2:=(sb.2 _ nTe).trans tT
  have st2:=si'.1.elim fun o z=>(⟨o,(sb.2 it ne.symm).trans z.1,z.2⟩:h2.IsListIter it a (n + 1))
  have fr:H s.heap.objs.size=none:=I.hok.fresh (Nat.le_refl _)
  refine ⟨.ref s.heap.objs.size,upd H s.heap.objs.size (.tup [.int n,x]),I.turnedLaid (t':=t + 1) k2 hf (Nat.le_refl _) ⟨show (2:Nat)≤sizeLine by decide,[.int n t,u],.cons ⟨t,rfl⟩ (.cons ru .nil),⟨_,tT2,rfl,_,rfl⟩,_,tT2,rfl⟩,rfl,⟨_,fr,rfl,fun xs' sa'=>⟨x,?_,rfl⟩⟩,⟨⟨_,se2⟩,st2⟩,fun c hc=>?_⟩
  ·rw [I.list_inj sa' sa];exact hx
  ·rw [upd_ne (fun (z:c=s.heap.objs.size)=>nT (z ▸ hc))]
   exact (hf c hc).1
 done:=by
  intro X hP hw hK hc n pins s σ H E I hf st hg
  subst hP hw hK
  obtain ⟨xs,sa,rfl⟩:=hg
  obtain ⟨ia,ra,pa,_⟩:=I.list sa
  have pa:s.heap.IsList a ia.toArray:=pa.isList
  have D:=Draws.list (prog:=X.prog) (w:=X.w) (A:=X.A.in1) (I.ok.hd hc) it a nai ia.toArray
  have W:=WalksT.enumerateD D e ne (by simp [ne,nae.symm]) (by simp)
  have la:ia.toArray.size=xs.length:=by simpa using ra.length.symm
  exact W.done s _ E (by rw [la];exact ⟨st.1,st.2,pa⟩) fun h' tk kk=>⟨rfl,I.turnedL (t':=tk) (fun c o hc e=>kk c o hc e) hf⟩
 self:=fun _ _ _ _ _ st h=>st.1.elim fun old z=>wpAny_pyIter_enum z h
def ieL (K:PySem.W.Frag) (ta:TA):TI:=fun σ H R=>ta σ H fun vs H1=>∃a xs,vs=[.ref a]∧SqL K H1 a xs∧R (IteL K a) H1
theorem pi_enumL {X:Cx} {elts:List Expr} {x1:Nat} {tpos:Pos} {e:Expr} {ta:TA} {p pos:Pos} (hg:Gl X "enumerate") (hm:X.mg "enumerate" = none) (ha:PA X [e] ta) (hs:starEach [e] X.env=[(false,eval e X.env)]:=by rfl) :
  PI X (.Tuple elts x1 tpos) (.Call (.Name "enumerate" p) [e] [] pos) (ieL X.K ta):=by
 intro pins s σ H R I h
 refine Call_ (ld_blt I hg hm boot_enumerate (PyProof.Rows.callWith_type1 (thn (ha pos pins s σ H _ I h) fun us s1 ⟨vs,H1,I1,r1,q1⟩=>?_) (by rw [hs];rfl) rfl))
 obtain ⟨a,xs,ev,sa,q⟩:=q1
 subst ev
 obtain ⟨u,rfl,ru⟩:=vals1 r1
 cases (show u=Value.ref a from ru)
 obtain ⟨ia,ra,pa,_⟩:=I1.list sa
 have pa:s1.heap.IsList a ia.toArray:=pa.isList
 have la:a < s1.heap.objs.size:=by obtain ⟨o,e,_⟩:=id pa;exact Heap.lt_size e
 refine call_enumerate_list pa fun h' st1 st2 _ kk=>?_
 refine wpAny_pyIter_enum st1 ?_
 refine ⟨_,_,_,_,H1,rfl,I1.kept (t':=s1.toks) kk,turn_enumL (Nat.ne_of_gt (Nat.lt_succ_self _)) (Nat.ne_of_lt (Nat.lt_succ_of_lt la)) (Nat.ne_of_lt la),⟨⟨_,st1⟩,st2⟩,fun c hc=>?_,q⟩
 have hc':s1.heap.objs.size≤c:=by
  simp only [List.mem_cons,List.not_mem_nil,or_false] at hc
  rcases hc with rfl|rfl
  ·exact Nat.le_add_right _ _
  ·exact Nat.le_refl _
 exact I1.fpOk hc' (I1.hok.fresh hc')
def IteT (K:PySem.W.Frag) (a:Addr):It:=
  ⟨fun i H=>∃xs x,SqT K H a xs∧xs[i]? = some x,
   fun i H v H'=>∃p,H p=none∧v=.ref p∧∀xs,SqT K H a xs→∃x,xs[i]? = some x∧H'=upd H p (.tup [.int i,x]),
   fun i H=>∃xs,SqT K H a xs∧xs.length=i⟩
theorem turn_enumT {P:Program} {w:World} {K:PySem.W.Frag} {elts:List Expr} {x1:Nat} {pos:Pos} {e it a:Addr} (ne:e≠it) (nae:a≠e) (nai:a≠it):Turn P w K (.Tuple elts x1 pos) (IteT K a) [e,it] e (fun n h=>(∃old,IsEnum h e it (n:Nat) old)∧h.IsTupleIter it a n) where
 mem:=by simp
 obj:=fun n h st c hc=>by
  simp only [List.mem_cons,List.not_mem_nil,or_false] at hc
  rcases hc with rfl|rfl
  ·obtain ⟨⟨old,z⟩,_⟩:=st
   exact ⟨_,z,fun v z=>by cases (show Data.fields _=Data.cell v from z)⟩
  ·obtain ⟨_,o,e,_,d⟩:=st
   exact ⟨o,e,fun v z=>by rw [d] at z;cases z⟩
 keep:=fun n h h' st k=>by
  obtain ⟨⟨old,z⟩,o,e1,e2⟩:=st
  exact ⟨⟨old,k e (by simp) _ z⟩,o,k it (by simp) _ e1,e2⟩
 item:=by
  intro X hP hw hK hc n pins s σ H E I hf st hg
  subst hP hw hK
  obtain ⟨xs,x,sa,hx⟩:=hg
  obtain ⟨ia,ra,pa,_⟩:=I.tuple sa
  have pa:s.heap.IsTuple a ia.toArray:=pa
  obtain ⟨u,hu,ru⟩:=ra.get hx
  have D:=draws_tuple (prog:=X.prog) (w:=X.w) (A:=X.A.in1) (I.ok.hd hc) it a nai ia.toArray
  have hlt:n < ia.toArray.size:=by
   have:=(List.getElem?_eq_some_iff.mp hu).1
   simpa using this
  obtain ⟨⟨old,se⟩,si⟩:=st
  refine wpAny_pyNext_enum_itemD D se ⟨si,pa⟩ hlt ne (by simp [ne,nae.symm]) fun y h' t hy out si' tT hz kk=>?_
  have hy:ia[n]? = some y:=by simpa using hy
  rw [hu] at hy
  cases hy
  have lte:e < s.heap.objs.size:=Heap.lt_size se
  have lti:it < s.heap.objs.size:=by obtain ⟨o,z,_⟩:=si;exact Heap.lt_size z
  have nTe:s.heap.objs.size≠e:=Nat.ne_of_gt lte
  have nT:s.heap.objs.size∉[e,it]:=by simp only [List.mem_cons,List.not_mem_nil,or_false,not_or];exact ⟨nTe,Nat.ne_of_gt lti⟩
  refine ⟨_,rfl,wpAny_letOwnedTupleGo_enum out fun h2 se2 sb=>?_⟩
  have k2 :∀b o,b∉[e,it]→s.heap.get? b=some o→h2.get? b=some o:=fun b o hb z=>by
   simp only [List.mem_cons,List.not_mem_nil,or_false,not_or] at hb
   exact (sb.2 b hb.1).trans (kk b o hb.1 hb.2 z)
  have tT2:=(sb.2 _ nTe).trans tT
  have st2:=si'.1.elim fun o z=>(⟨o,(sb.2 it ne.symm).trans z.1,z.2⟩:h2.IsTupleIter it a (n + 1))
  have fr:H s.heap.objs.size=none:=I.hok.fresh (Nat.le_refl _)
  refine ⟨.ref s.heap.objs.size,upd H s.heap.objs.size (.tup [.int n,x]),I.turnedLaid (t':=t + 1) k2 hf (Nat.le_refl _) ⟨show (2:Nat)≤sizeLine by decide,[.int n t,u],.cons ⟨t,rfl⟩ (.cons ru .nil),⟨_,tT2,rfl,_,rfl⟩,_,tT2,rfl⟩,rfl,⟨_,fr,rfl,fun xs' sa'=>⟨x,?_,rfl⟩⟩,⟨⟨_,se2⟩,st2⟩,fun c hc=>?_⟩
  ·rw [I.tuple_inj sa' sa];exact hx
  ·rw [upd_ne (fun (z:c=s.heap.objs.size)=>nT (z ▸ hc))]
   exact (hf c hc).1
 done:=by
  intro X hP hw hK hc n pins s σ H E I hf st hg
  subst hP hw hK
  obtain ⟨xs,sa,rfl⟩:=hg
  obtain ⟨ia,ra,pa,_⟩:=I.tuple sa
  have pa:s.heap.IsTuple a ia.toArray:=pa
  have D:=draws_tuple (prog:=X.prog) (w:=X.w) (A:=X.A.in1) (I.ok.hd hc) it a nai ia.toArray
  have W:=WalksT.enumerateD D e ne (by simp [ne,nae.symm]) (by simp)
  have la:ia.toArray.size=xs.length:=by simpa using ra.length.symm
  exact W.done s _ E (by rw [la];exact ⟨st.1,st.2,pa⟩) fun h' tk kk=>⟨rfl,I.turnedL (t':=tk) (fun c o hc e=>kk c o hc e) hf⟩
 self:=fun _ _ _ _ _ st h=>st.1.elim fun old z=>wpAny_pyIter_enum z h
def ieT (K:PySem.W.Frag) (ta:TA):TI:=fun σ H R=>ta σ H fun vs H1=>∃a xs,vs=[.ref a]∧SqT K H1 a xs∧R (IteT K a) H1
theorem pi_enumT {X:Cx} {elts:List Expr} {x1:Nat} {tpos:Pos} {e:Expr} {ta:TA} {p pos:Pos} (hg:Gl X "enumerate") (hm:X.mg "enumerate" = none) (ha:PA X [e] ta) (hs:starEach [e] X.env=[(false,eval e X.env)]:=by rfl) :
  PI X (.Tuple elts x1 tpos) (.Call (.Name "enumerate" p) [e] [] pos) (ieT X.K ta):=by
 intro pins s σ H R I h
 refine Call_ (ld_blt I hg hm boot_enumerate (PyProof.Rows.callWith_type1 (thn (ha pos pins s σ H _ I h) fun us s1 ⟨vs,H1,I1,r1,q1⟩=>?_) (by rw [hs];rfl) rfl))
 obtain ⟨a,xs,ev,sa,q⟩:=q1
 subst ev
 obtain ⟨u,rfl,ru⟩:=vals1 r1
 cases (show u=Value.ref a from ru)
 obtain ⟨ia,ra,pa,_⟩:=I1.tuple sa
 have pa:s1.heap.IsTuple a ia.toArray:=pa
 have la:a < s1.heap.objs.size:=by obtain ⟨o,e,_⟩:=id pa;exact Heap.lt_size e
 refine enumMade pa fun h' st1 st2 _ kk=>?_
 refine wpAny_pyIter_enum st1 ?_
 refine ⟨_,_,_,_,H1,rfl,I1.kept (t':=s1.toks) kk,turn_enumT (Nat.ne_of_gt (Nat.lt_succ_self _)) (Nat.ne_of_lt (Nat.lt_succ_of_lt la)) (Nat.ne_of_lt la),⟨⟨_,st1⟩,st2⟩,fun c hc=>?_,q⟩
 have hc':s1.heap.objs.size≤c:=by
  simp only [List.mem_cons,List.not_mem_nil,or_false] at hc
  rcases hc with rfl|rfl
  ·exact Nat.le_add_right _ _
  ·exact Nat.le_refl _
 exact I1.fpOk hc' (I1.hok.fresh hc')
theorem for_enumT {K:PySem.W.Frag} {a:Addr} {xs:List V} {g:TG} {tb:TS} {D:Ends} {σ:St} {H:Hp} (Pv:Nat→St→Hp→Prop) (h0:Pv 0 σ H) (hl :∀i σ H,Pv i σ H→SqT K H a xs)
  (hs :∀i x σ H p,xs[i]? = some x→Pv i σ H→H p=none→g (.ref p) σ (upd H p (.tup [.int i,x])) fun σ2 H2=>tb { D with nx:=Pv (i + 1),ct:=Pv (i + 1),bk:=D.nx } σ2 H2) (hd :∀σ H,Pv xs.length σ H→D.nx σ H) :
  ∃W:Nat→Nat→St→Hp→Prop,(∃m,W 0 m σ H)∧∀i m σ H,W i m σ H→
   ((IteT K a).stop i H∧D.nx σ H)∨((IteT K a).go i H∧∃N:St→Hp→Prop,(∀σ' H',N σ' H'→∃m',m' < m∧W (i + 1) m' σ' H')∧∀x H',(IteT K a).yld i H x H'→g x σ H' fun σ2 H2=>tb { D with nx:=N,ct:=N,bk:=D.nx } σ2 H2):=by
 refine ⟨fun i m σ H=>m=xs.length - i∧i≤xs.length∧Pv i σ H,⟨xs.length,by simp,Nat.zero_le _,h0⟩,?_⟩
 rintro i m σ H ⟨rfl,hi,p⟩
 have qa:=hl i σ H p
 by_cases hlt:i < xs.length
 ·refine .inr ⟨⟨xs,xs[i],qa,by simp [hlt]⟩,Pv (i + 1),fun σ' H' p'=>⟨xs.length - (i + 1),by omega,rfl,hlt,p'⟩,fun v H' y=>?_⟩
  obtain ⟨t,ht,rfl,yy⟩:=y
  obtain ⟨x',ex,rfl⟩:=yy xs qa
  exact hs i x' σ H t ex p ht
 ·have e:i=xs.length:=by omega
  subst e
  exact .inl ⟨⟨xs,qa,rfl⟩,hd σ H p⟩
end L2
set_option maxHeartbeats 400000
namespace L2
open PySem PySem.Spec PyProof.Rows
mutual
def IsPd (K:PySem.W.Frag) (H:Hp):PyData→V→Prop
 | .none,v=>v=.non
 | .bool b,v=>v=.bl b
 | .int i,v=>v=.int i
 | .str z,v=>v=.str z
 | .list ds,v=>∃a xs,v=.ref a∧SqL K H a xs∧IsPds K H ds xs
 | .tuple ds,v=>∃a xs,v=.ref a∧SqT K H a xs∧IsPds K H ds xs
 | .dict _,_=>False
def IsPds (K:PySem.W.Frag) (H:Hp):List PyData→List V→Prop
 | [],xs=>xs=[]
 | d :: ds,xs=>∃x r,xs=x :: r∧IsPd K H d x∧IsPds K H ds r
end
mutual
theorem IsPd.mono' {K:PySem.W.Frag} {H H':Hp} (s :∀a xs,SqT K H a xs→SqT K H' a xs) (t :∀a xs,SqL K H a xs→SqL K H' a xs) :∀(d:PyData) (v:V),IsPd K H d v→IsPd K H' d v
 | .none,v,h=>h
 | .bool _,v,h=>h
 | .int _,v,h=>h
 | .str _,v,h=>h
 | .list ds,v,h=>by
  obtain ⟨a,xs,rfl,e,r⟩:=h
  exact ⟨a,xs,rfl,t _ _ e,IsPds.mono' s t ds xs r⟩
 | .tuple ds,v,h=>by
  obtain ⟨a,xs,rfl,e,r⟩:=h
  exact ⟨a,xs,rfl,s _ _ e,IsPds.mono' s t ds xs r⟩
 | .dict _,v,h=>h.elim
theorem IsPds.mono' {K:PySem.W.Frag} {H H':Hp} (s :∀a xs,SqT K H a xs→SqT K H' a xs) (t :∀a xs,SqL K H a xs→SqL K H' a xs) :∀(ds:List PyData) (xs:List V),IsPds K H ds xs→IsPds K H' ds xs
 | [],xs,h=>h
 | d :: ds,xs,h=>by
  obtain ⟨x,r,rfl,a,b⟩:=h
  exact ⟨x,r,rfl,IsPd.mono' s t d x a,IsPds.mono' s t ds r b⟩
end
section
variable {X:Cx} {pins:List (Addr×Obj)} {σ:St} {H:Hp} {s:Shared}
mutual
theorem pd_reads (I:Inv X pins σ H s) :∀(d:PyData) (v:V) (u:Value),IsPd X.K H d v→RelV v u→∃as,Reads s.heap u d as
 | .none,v,u,h,r=>by
  cases (show v=.non from h)
  cases (show u=.none from r)
  exact ⟨_,.none⟩
 | .bool b,v,u,h,r=>by
  cases (show v=.bl b from h)
  cases (show u=.bool b from r)
  exact ⟨_,.bool b⟩
 | .int i,v,u,h,r=>by
  cases (show v=.int i from h)
  obtain ⟨t,rfl⟩:=r
  exact ⟨_,.int i t⟩
 | .str z,v,u,h,r=>by
  cases (show v=.str z from h)
  obtain ⟨t,rfl⟩:=r
  exact ⟨_,.str z t⟩
 | .list ds,v,u,h,r=>by
  obtain ⟨a,xs,rfl,e,hr⟩:=h
  cases (show u=.ref a from r)
  obtain ⟨its,rv,pl,_⟩:=I.list e
  obtain ⟨o,e1,e2,n,e3⟩:=pl.isList
  obtain ⟨as,ra⟩:=pds_reads I ds xs its hr rv
  exact ⟨_,.list e1 e2 e3 ra⟩
 | .tuple ds,v,u,h,r=>by
  obtain ⟨a,xs,rfl,e,hr⟩:=h
  cases (show u=.ref a from r)
  obtain ⟨its,rv,pl,_⟩:=I.tuple e
  obtain ⟨o,e1,e2,n,e3⟩:=pl
  obtain ⟨as,ra⟩:=pds_reads I ds xs its hr rv
  exact ⟨_,.tuple e1 e2 e3 ra⟩
 | .dict _,v,u,h,r=>h.elim
theorem pds_reads (I:Inv X pins σ H s) :∀(ds:List PyData) (xs:List V) (us:List Value),IsPds X.K H ds xs→Vals xs us→∃as,ReadsAll s.heap us ds as
 | [],xs,us,h,r=>by
  cases (show xs=[] from h)
  cases r
  exact ⟨_,.nil⟩
 | d :: ds,xs,us,h,r=>by
  obtain ⟨x,t,rfl,a,b⟩:=h
  cases r with
  | cons r1 r2=>
   obtain ⟨as,ra⟩:=pd_reads I d x _ a r1
   obtain ⟨bs,rb⟩:=pds_reads I ds t _ b r2
   exact ⟨_,.cons ra rb⟩
end
end
mutual
def plainP:PyData→Bool
 | .none=>true
 | .bool _=>false
 | .int _=>true
 | .str z=>(PyData.str z).canLay0
 | .list ds=>plainPs ds
 | .tuple ds=>plainPs ds
 | .dict _=>false
def plainPs:List PyData→Bool
 | []=>true
 | d :: ds=>plainP d && plainPs ds
end
mutual
theorem plain_lay :∀d:PyData,plainP d=true→d.canLay0=true
 | .none,_=>rfl
 | .bool _,h=>by cases h
 | .int _,_=>rfl
 | .str _,h=>h
 | .list ds,h=>plains_lay ds h
 | .tuple ds,h=>plains_lay ds h
 | .dict _,h=>by cases h
theorem plains_lay :∀ds:List PyData,plainPs ds=true→PyData.canLayAll0 ds=true
 | [],_=>rfl
 | d :: ds,h=>by
  have h:(plainP d && plainPs ds)=true:=h
  rw [Bool.and_eq_true] at h
  show (d.canLay0 && PyData.canLayAll0 ds)=true
  rw [plain_lay d h.1,plains_lay ds h.2]
  rfl
end
mutual
theorem eqv_iff :∀d e:PyData,plainP d=true→plainP e=true→(d.eqv e=true↔d=e)
 | .none,e,_,he=>by
  cases e with
  | none=>exact ⟨fun _=>rfl,fun _=>rfl⟩
  | bool b=>cases he
  | dict _=>cases he
  | _=>exact ⟨fun z=>(by cases z),fun z=>(by cases z)⟩
 | .bool _,e,hd,_=>by cases hd
 | .int i,e,_,he=>by
  cases e with
  | int j=>exact ⟨fun z=>congrArg _ (eq_of_beq (show (i == j)=true from z)),fun z=>by cases z;exact beq_self_eq_true i⟩
  | bool b=>cases he
  | dict _=>cases he
  | _=>exact ⟨fun z=>(by cases z),fun z=>(by cases z)⟩
 | .str i,e,_,he=>by
  cases e with
  | str j=>exact ⟨fun z=>congrArg _ (eq_of_beq (show (i == j)=true from z)),fun z=>by cases z;exact beq_self_eq_true i⟩
  | bool b=>cases he
  | dict _=>cases he
  | _=>exact ⟨fun z=>(by cases z),fun z=>(by cases z)⟩
 | .list ds,e,hd,he=>by
  cases e with
  | list es=>exact ⟨fun z=>congrArg _ ((eqvs_iff ds es hd he).mp z),fun z=>(eqvs_iff ds es hd he).mpr (by cases z;rfl)⟩
  | bool b=>cases he
  | dict _=>cases he
  | _=>exact ⟨fun z=>(by cases z),fun z=>(by cases z)⟩
 | .tuple ds,e,hd,he=>by
  cases e with
  | tuple es=>exact ⟨fun z=>congrArg _ ((eqvs_iff ds es hd he).mp z),fun z=>(eqvs_iff ds es hd he).mpr (by cases z;rfl)⟩
  | bool b=>cases he
  | dict _=>cases he
  | _=>exact ⟨fun z=>(by cases z),fun z=>(by cases z)⟩
 | .dict _,e,hd,_=>by cases hd
theorem eqvs_iff :∀ds es:List PyData,plainPs ds=true→plainPs es=true→(PyData.eqvAll ds es=true↔ds=es)
 | [],[],_,_=>⟨fun _=>rfl,fun _=>rfl⟩
 | [],e :: es,_,_=>⟨fun z=>(by cases z),fun z=>(by cases z)⟩
 | d :: ds,[],_,_=>⟨fun z=>(by cases z),fun z=>(by cases z)⟩
 | d :: ds,e :: es,hd,he=>by
  have hd:(plainP d && plainPs ds)=true:=hd
  have he:(plainP e && plainPs es)=true:=he
  rw [Bool.and_eq_true] at hd he
  show (d.eqv e && PyData.eqvAll ds es)=true↔_
  rw [Bool.and_eq_true,eqv_iff d e hd.1 he.1,eqvs_iff ds es hd.2 he.2]
  exact ⟨fun z=>by rw [z.1,z.2],fun z=>by cases z;exact ⟨rfl,rfl⟩⟩
end
section
variable {X:Cx}
def rEqP (K:PySem.W.Frag):R2:=fun x y H Q=>∃d e,IsPd K H d x∧IsPd K H e y∧plainP d=true∧plainP e=true∧d.depth≤60∧Q (.bl (d.eqv e)) H
def rNeP (K:PySem.W.Frag):R2:=fun x y H Q=>∃d e,IsPd K H d x∧IsPd K H e y∧plainP d=true∧plainP e=true∧d.depth≤60∧Q (.bl (!d.eqv e)) H
theorem room60 {A:Around} {k m n:Nat} (hr:Room k A) (h:m≤60):A.units + min m n < cLine:=Nat.lt_of_le_of_lt (Nat.add_le_add_left (Nat.le_trans (Nat.min_le_left _ _) (Nat.le_trans h (by decide:60≤64))) _) hr.units
theorem room61 {A:Around} {k m n:Nat} (hr:Room k A) (h:n≤60):A.units + 1 + min m n < cLine:=by
 have h1:=hr.units
 have h2:=Nat.min_le_right m n
 omega
theorem op_neP {k:Nat} (hr:Room k X.A):OpR X (compareOp .NotEq) (rNeP X.K):=by
 intro pins s σ H x y v u Q I rx ry h
 obtain ⟨d,e,hd,he,pd,pe,dp,q⟩:=h
 obtain ⟨as,ra⟩:=pd_reads I d x v hd rx
 obtain ⟨bs,rb⟩:=pd_reads I e y u he ry
 exact SeqAt.compareNe_reads ra rb (plain_lay _ pd) (plain_lay _ pe) (room60 hr dp) ⟨.bl _,H,I,rfl,q⟩
def rInP (K:PySem.W.Frag) (neg:Bool):R2:=fun x y H Q=>∃d ds,IsPd K H d x∧(IsPd K H (.list ds) y∨IsPd K H (.tuple ds) y)∧plainP d=true∧plainPs ds=true∧d.depth≤60∧Q (.bl (if neg then !(ds.any fun e=>e.eqv d) else ds.any fun e=>e.eqv d)) H
theorem op_notInP {k:Nat} (hr:Room k X.A):OpR X (compareOp .NotIn) (rInP X.K true):=by
 intro pins s σ H x y v u Q I rx ry h
 obtain ⟨d,ds,hd,hs,pd,ps,dp,q⟩:=h
 obtain ⟨as,ra⟩:=pd_reads I d x v hd rx
 rcases hs with hs|hs
 ·obtain ⟨bs,rb⟩:=pd_reads I _ y u hs ry
  exact SeqAt.notIn_list_reads rb ra (plains_lay _ ps) (plain_lay _ pd) (room61 hr dp) ⟨.bl _,H,I,rfl,q⟩
 ·obtain ⟨bs,rb⟩:=pd_reads I _ y u hs ry
  exact SeqAt.notIn_tuple_reads rb ra (plains_lay _ ps) (plain_lay _ pd) (room61 hr dp) ⟨.bl _,H,I,rfl,q⟩
end
end L2
set_option maxHeartbeats 1000000
namespace L2
open PySem PySem.Spec PyProof.Rows
section
variable {prog:Program} {w:World} {A:Around} {E:Value→Shared→Prop} {s:Shared}
def PairOf (prog:Program) (w:World) (h:Heap) (p:Key×Value) (u:Value):Prop:=∃a kv,u=.ref a∧h.IsTuple a #[kv,p.2]∧(mixKind prog w).is p.1 kv=true
end
section
variable {X:Cx}
def rDictOf (K:PySem.W.Frag):List V→Hp→VK→Prop:=fun xs H Q=>∃a ys kvs,xs=[.ref a]∧(H a=some (.lst ys)∨H a=some (.tup ys))∧All2 (fun (p:Key×V) y=>∃b,y=.ref b∧SqT K H b [kV p.1,p.2]) kvs ys∧∀p,H p=none→Q (.ref p) (upd H p (.dK (mergeK [] kvs)))
end
section
variable {X:Cx}
def rNeD0:R2:=fun x y H Q=>∃a b kvs,x=.ref a∧y=.ref b∧H a=some (.dK kvs)∧H b=some (.dK [])∧Q (.bl (decide (kvs≠[]))) H
end
end L2
set_option maxHeartbeats 400000
namespace L2
open PySem PySem.Spec PyProof.Rows
structure RunsR (S:Hp→Hp→Prop) (J:It) (H1:Hp) (n:Nat) (Item:Nat→V→Hp→Prop):Prop where
 go :∀i,i < n→∀H,S H1 H→J.go i H
 stop :∀H,S H1 H→J.stop n H
 item :∀i,i < n→∀H v H',S H1 H→J.yld i H v H'→S H H'∧Item i v H'
theorem compG_rel {S:Hp→Hp→Prop} {J:It} {H1:Hp} {n m:Nat} {Item:Nat→V→Hp→Prop} {fr:List (Nat×Str)} {g:TG} {tc:TT} {te:TE} {σ:St} {Q:VK} (s0:S H1 H1) (st :∀a b c,S a b→S b c→S a c) (p:Nat→Bool) (R:Nat→V→Hp→Prop) (hR :∀i y H H',S H H'→R i y H→R i y H') (r:RunsR S J H1 n Item) (hn:n≤sizeLine)
  (body :∀i,i < n→∀v H,S H1 H→Item i v H→∀(KT:VK) (KF:Hp→Prop),(p i=true→∀y H',S H H'→R i y H'→KT y H')→(p i=false→∀H',S H H'→KF H')→
   g v (cStG σ fr (List.replicate m none)) H fun σ6 H6=>∃us,us.length=m∧σ6=cStG σ fr us∧tc (cStG σ fr us) H6 fun b H2=>if b=true then te (cStG σ fr us) H2 KT else KF H2)
  (hQ :∀l H' ys,S H1 H'→H' l=none→All2 (fun i y=>R i y H') ((List.range n).filter p) ys→Q (.ref l) (upd H' l (.lst ys))) :
  ∃W:Nat→Nat→List V→Hp→Prop,(∃m,W 0 m [] H1)∧∀i k ys H,W i k ys H→
   (J.stop i H∧ys.length≤sizeLine∧∀p,H p=none→Q (.ref p) (upd H p (.lst ys)))∨
   (J.go i H∧ys.length≤sizeLine∧∀v H',J.yld i H v H'→g v (cStG σ fr (List.replicate m none)) H' fun σ6 H6=>∃us,us.length=m∧σ6=cStG σ fr us∧tc (cStG σ fr us) H6 fun b H2=>if b=true then te (cStG σ fr us) H2 fun y H3=>∃m',m' < k∧W (i + 1) m' (ys++[y]) H3 else∃m',m' < k∧W (i + 1) m' ys H2):=by
 refine ⟨fun i k ys H'=>k=n - i∧i≤n∧S H1 H'∧All2 (fun i y=>R i y H') ((List.range i).filter p) ys,⟨n,by simp,Nat.zero_le _,s0,.nil⟩,?_⟩
 rintro i k ys H' ⟨rfl,hi,sm,fa⟩
 have hl2:ys.length≤sizeLine:=by
  rw [forall2_len fa]
  have:=List.length_filter_le p (List.range i)
  rw [List.length_range] at this
  omega
 by_cases hlt:i < n
 ·refine .inr ⟨r.go i hlt H' sm,hl2,fun v H2 y=>?_⟩
  obtain ⟨s2,it⟩:=r.item i hlt H' v H2 sm y
  refine body i hlt v H2 (st _ _ _ sm s2) it _ _ (fun hp y H3 s3 ry=>⟨n - (i + 1),by omega,rfl,hlt,st _ _ _ (st _ _ _ sm s2) s3,?_⟩) (fun hp H3 s3=>⟨n - (i + 1),by omega,rfl,hlt,st _ _ _ (st _ _ _ sm s2) s3,?_⟩)
  ·rw [range_filter_succ,if_pos hp]
   exact forall2_snoc (forall2_mono (fun a b z=>hR a b _ _ (st _ _ _ s2 s3) z) fa) ry
  ·rw [range_filter_succ,if_neg (by rw [hp];decide),List.append_nil]
   exact forall2_mono (fun a b z=>hR a b _ _ (st _ _ _ s2 s3) z) fa
 ·have e:i=n:=by omega
  subst e
  exact .inl ⟨r.stop H' sm,hl2,fun l hl=>hQ l H' ys sm hl fa⟩
theorem runsR_list {S:Hp→Hp→Prop} {K:PySem.W.Frag} {a:Addr} {xs:List V} {H1:Hp} (hs :∀H,S H1 H→S H H) (hq :∀H,S H1 H→SqL K H a xs):RunsR S (Itl K a) H1 xs.length (fun i v _=>xs[i]? = some v):=
 ⟨fun i hi H s=>⟨xs,xs[i],hq H s,by simp [hi]⟩,fun H s=>⟨xs,hq H s,Nat.le_refl _⟩,fun i hi H v H' s y=>by
  obtain ⟨e,y⟩:=y
  subst e
  exact ⟨hs _ s,y xs (hq _ s)⟩⟩
theorem runsR_tup {S:Hp→Hp→Prop} {K:PySem.W.Frag} {a:Addr} {xs:List V} {H1:Hp} (hs :∀H,S H1 H→S H H) (hq :∀H,S H1 H→SqT K H a xs):RunsR S (Itt K a) H1 xs.length (fun i v _=>xs[i]? = some v):=
 ⟨fun i hi H s=>⟨xs,xs[i],hq H s,by simp [hi]⟩,fun H s=>⟨xs,hq H s,Nat.le_refl _⟩,fun i hi H v H' s y=>by
  obtain ⟨e,y⟩:=y
  subst e
  exact ⟨hs _ s,y xs (hq _ s)⟩⟩
theorem runsR_rng {S:Hp→Hp→Prop} {n:Nat} {H1:Hp} (hs :∀H,S H1 H→S H H):RunsR S (Itr 0 n) H1 n (fun i v _=>v=.int (i:Nat)):=
 ⟨fun i hi H s=>hi,fun H s=>Nat.le_refl _,fun i hi H v H' s y=>by
  obtain ⟨e,y⟩:=y
  subst e
  exact ⟨hs _ s,by rw [y,Int.zero_add]⟩⟩
def Ris (xs:Array Nat):Prop:=xs.toList.Pairwise (· < ·)
theorem Ris.lt {xs:Array Nat} (r:Ris xs) {i k:Nat} (h:i < k) (hk:k < xs.size):xs[i]'(Nat.lt_trans h hk) < xs[k]:=by
 have:=(List.pairwise_iff_getElem.mp r) i k (by simpa using Nat.lt_trans h hk) (by simpa using hk) h
 simpa using this
theorem getD_in {xs:Array Nat} {i d:Nat} (h:i < xs.size):xs.getD i d=xs[i]:=by simp [Array.getD,h]
theorem below_go {xs:Array Nat} {j:Nat} (r:Ris xs) :∀(f lo hi:Nat),lo≤hi→hi≤xs.size→hi - lo≤f→(∀i (h:i < xs.size),i < lo→xs[i] < j)→(∀i (h:i < xs.size),hi≤i→j≤xs[i])→
  SetTable.below.go xs j f lo hi≤xs.size∧(∀i (h:i < xs.size),i < SetTable.below.go xs j f lo hi→xs[i] < j)∧(∀i (h:i < xs.size),SetTable.below.go xs j f lo hi≤i→j≤xs[i])
 | 0,lo,hi,h1,h2,h3,ha,hb=>by
  have:lo=hi:=by omega
  subst this
  exact ⟨h2,ha,hb⟩
 | f + 1,lo,hi,h1,h2,h3,ha,hb=>by
  unfold SetTable.below.go
  by_cases z:lo < hi
  ·rw [if_pos z]
   have hm:(lo + hi) / 2 < xs.size:=by omega
   dsimp only
   rw [getD_in hm]
   by_cases y:xs[(lo + hi) / 2] < j
   ·rw [if_pos y]
    refine below_go r f _ _ (by omega) h2 (by omega) (fun i h hi'=>?_) hb
    by_cases e:i=(lo + hi) / 2
    ·subst e;exact y
    ·exact Nat.lt_trans (r.lt (by omega) hm) y
   ·rw [if_neg y]
    refine below_go r f _ _ (by omega) (by omega) (by omega) ha fun i h hi'=>?_
    by_cases e:i=(lo + hi) / 2
    ·subst e;omega
    ·exact Nat.le_trans (Nat.not_lt.mp y) (Nat.le_of_lt (r.lt (by omega) h))
  ·rw [if_neg z]
   have:lo=hi:=by omega
   subst this
   exact ⟨h2,ha,hb⟩
theorem below_spec {xs:Array Nat} (r:Ris xs) (j:Nat):SetTable.below xs j≤xs.size∧(∀i (h:i < xs.size),i < SetTable.below xs j→xs[i] < j)∧(∀i (h:i < xs.size),SetTable.below xs j≤i→j≤xs[i]):=
 below_go r _ _ _ (Nat.zero_le _) (Nat.le_refl _) (Nat.le_refl _) (fun i h z=>absurd z (Nat.not_lt_zero _)) (fun i h z=>absurd h (Nat.not_lt.mpr z))
theorem insertAt_toList {α:Type} (xs:Array α) (p:Nat) (x:α) (hp:p≤xs.size):(SetTable.insertAt xs p x).toList=xs.toList.take p++x :: xs.toList.drop p:=by
 unfold SetTable.insertAt
 simp [List.take_of_length_le]
theorem Ris.insert {xs:Array Nat} (r:Ris xs) {j:Nat} (h:¬ xs[SetTable.below xs j]? = some j):Ris (SetTable.insertAt xs (SetTable.below xs j) j):=by
 obtain ⟨h1,h2,h3⟩:=below_spec r j
 unfold Ris
 rw [insertAt_toList _ _ _ h1]
 refine List.pairwise_append.mpr ⟨r.sublist (List.take_sublist _ _),List.pairwise_cons.mpr ⟨fun y hy=>?_,r.sublist (List.drop_sublist _ _)⟩,fun a ha b hb=>?_⟩
 ·obtain ⟨i,hi,e⟩:=List.mem_drop_iff_getElem.mp hy
  have hi':SetTable.below xs j + i < xs.size:=by simpa [Nat.add_comm] using hi
  have e':xs[SetTable.below xs j + i]=y:=by simpa using e
  have le:=h3 _ hi' (by omega)
  rw [e'] at le
  rcases Nat.lt_or_eq_of_le le with z|z
  ·exact z
  ·exfalso
   have hb:SetTable.below xs j < xs.size:=by omega
   have ge:=h3 _ hb (Nat.le_refl _)
   have:xs[SetTable.below xs j]=j:=by
    by_cases i0:i=0
    ·subst i0;exact e'.trans z.symm
    ·have:=r.lt (show SetTable.below xs j < SetTable.below xs j + i by omega) hi'
     rw [e'] at this
     omega
   exact h (by rw [Array.getElem?_eq_getElem hb,this])
 ·obtain ⟨i,hi,e⟩:=List.mem_take_iff_getElem.mp ha
  have hi2:i < xs.size:=by have:=hi;simp at this;omega
  have hi3:i < SetTable.below xs j:=by have:=hi;simp at this;omega
  have lt:=h2 i hi2 hi3
  have e':xs[i]=a:=by simpa using e
  rw [e'] at lt
  rcases List.mem_cons.mp hb with z|z
  ·rw [z];exact lt
  ·obtain ⟨k,hk,e2⟩:=List.mem_drop_iff_getElem.mp z
   have hk':SetTable.below xs j + k < xs.size:=by simpa [Nat.add_comm] using hk
   have e2':xs[SetTable.below xs j + k]=b:=by simpa using e2
   have:=h3 _ hk' (by omega)
   rw [e2'] at this
   omega
theorem ris_range (n:Nat):Ris (Array.range n):=by
 unfold Ris
 rw [Array.toList_range]
 exact List.pairwise_lt_range
def Untaken (t:SetTable) (j:Nat):Prop:=¬ t.place[SetTable.below t.place j]? = some j
theorem untaken_of {t:SetTable} {j:Nat} (h :∀i,t.slot j≠.live i):Untaken t j:=fun e=>by
 refine h (SetTable.below t.place j) ?_
 unfold SetTable.slot
 dsimp only
 rw [if_pos (by rw [e];exact beq_self_eq_true _)]
theorem probe_free {t:SetTable} {hs:Nat→Int} {h:Int} :∀(f:Nat) (p:SetTable.Probe) (j:Nat) (d:Option Nat),(∀k,p.dummy=some k→Untaken t k)→SetTable.probe.go t hs h f p=some (.empty j d)→Untaken t j∧∀k,d=some k→Untaken t k
 | 0,p,j,d,hd,e=>by cases e
 | f + 1,p,j,d,hd,e=>by
  unfold SetTable.probe.go at e
  cases q:t.slot p.j with
  | empty=>
   rw [q] at e
   cases e
   exact ⟨untaken_of (fun i z=>by rw [q] at z;cases z),hd⟩
  | dummy=>
   rw [q] at e
   refine probe_free f _ j d (fun k z=>?_) e
   unfold SetTable.advance at z
   dsimp only at z
   split at z<;>(cases z;exact untaken_of fun i z=>by rw [q] at z;cases z)
  | live i=>
   rw [q] at e
   dsimp only at e
   split at e
   ·cases e
   ·refine probe_free f _ j d (fun k z=>?_) e
    unfold SetTable.advance at z
    dsimp only at z
    split at z<;>exact hd k z
theorem freeSlot_un {t:SetTable} {h:Int} {s:Nat} {b:Bool} (e:t.freeSlot h=some (s,b)):Untaken t s:=by
 unfold SetTable.freeSlot at e
 cases q:t.probe (fun _=>h + 1) h (t.probeStart h) with
 | none=>rw [q] at e;cases e
 | some m=>
  rw [q] at e
  cases m with
  | candidate a b c=>cases e
  | empty j d=>
   have:=probe_free _ _ j d (fun k z=>by cases z) q
   cases e
   cases d with
   | none=>exact this.1
   | some k=>exact this.2 k rfl
def Tidy (l:Bool) (t:SetTable):Prop:=t.led=l∧Ris t.place
theorem Tidy.standIn {l:Bool} {t:SetTable} (h:Tidy l t) (n:Nat):Tidy l (t.standIn n):=⟨h.1,ris_range n⟩
theorem Tidy.layNew {l:Bool} {t:SetTable} (h:Tidy l t) (es:Array (Int×Value)) (k:Int) (x:Value):Tidy l (layNew t es k x).2.1:=by
 unfold PySem.layNew
 cases q:t.freeSlot k with
 | none=>exact h.standIn _
 | some s=>
  obtain ⟨s,b⟩:=s
  dsimp only
  have ht:Tidy l (t.put s).1:=⟨h.1,Ris.insert h.2 (freeSlot_un q)⟩
  unfold SetTable.orStandIn
  split
  ·exact ht
  ·exact ht.standIn _
theorem Tidy.relayAll {l:Bool} {t:SetTable} (h:Tidy l t) (es:Array (Int×Value)) (n:Nat):Tidy l (relayAll t es n).2.1:=by
 unfold PySem.relayAll
 cases q:t.relaid (es.map (·.1)) n with
 | none=>exact h.standIn _
 | some p=>
  obtain ⟨t',o⟩:=p
  dsimp only
  split
  ·unfold SetTable.relaid SetTable.laid at q
   cases q2:SetTable.layClean (SetTable.sizeAbove n - 1) (es.map (·.1)) with
   | none=>rw [q2] at q;cases q
   | some ow=>
    rw [q2] at q
    cases q
    refine ⟨h.1,?_⟩
    show (List.map _ _).Pairwise _
    rw [List.pairwise_map]
    refine List.Pairwise.filterMap _ (fun a b hab c hc d hd=>?_) (List.pairwise_lt_range)
    obtain ⟨c',_,e1⟩:=Option.map_eq_some_iff.mp hc
    obtain ⟨d',_,e2⟩:=Option.map_eq_some_iff.mp hd
    rw [←e1,←e2]
    exact hab
  ·exact h.standIn _
end L2
set_option maxHeartbeats 1000000
namespace L2
open PySem PySem.Spec PyProof.Rows
def intOf:Value→Int
 | .int i _=>i
 | _=>0
theorem ints_are {vs:List Value} {ns:List Int} (h:IntsAre vs ns):ns=vs.map intOf∧∀v∈vs,∃i t,v=.int i t:=by
 induction h with
 | nil=>exact ⟨rfl,fun v hv=>by cases hv⟩
 | cons n t r ih=>
  refine ⟨by rw [ih.1];rfl,fun v hv=>?_⟩
  rcases List.mem_cons.mp hv with e|hv
  ·exact ⟨n,t,e⟩
  ·exact ih.2 v hv
theorem are_ints :∀vs:List Value,(∀v∈vs,∃i t,v=.int i t)→IntsAre vs (vs.map intOf)
 | [],_=>.nil
 | v :: vs,h=>by
  obtain ⟨i,t,e⟩:=h v (.head _)
  subst e
  exact .cons i t (are_ints vs fun v hv=>h v (.tail _ hv))
theorem ints_perm {vs vs':List Value} {ns:List Int} (h:IntsAre vs ns) (p:vs'.Perm vs) :∃ns',IntsAre vs' ns'∧ns'.Perm ns:=by
 obtain ⟨e,k⟩:=ints_are h
 refine ⟨vs'.map intOf,are_ints vs' fun v hv=>k v (p.mem_iff.mp hv),?_⟩
 rw [e]
 exact p.map _
theorem ints_len {vs:List Value} {ns:List Int} (h:IntsAre vs ns):ns.length=vs.length:=by rw [(ints_are h).1,List.length_map]
theorem ints_snoc {vs:List Value} {ns:List Int} (h:IntsAre vs ns) (n:Int) (t:Tok):IntsAre (vs++[.int n t]) (ns++[n]):=by
 induction h with
 | nil=>exact .cons n t .nil
 | cons m u r ih=>exact .cons m u ih
section
variable {prog:Program} {w:World} {A:Around} {E:Value→Shared→Prop} {s:Shared}
def SetAt (prog:Program) (w:World) (l:Bool) (h:Heap) (a:Addr) (ns:List Int):Prop:=
 ∃es ep t,h.get? a=some { cls:=.type "set",dict:=none,data:=.set es ep t,slots:=#[] }∧ElemsOf (intKind prog w) es.toList∧IntsAre (es.toList.map (·.2)) ns∧ns.Nodup∧es.size < scanBound∧t.fits es.size=true∧Tidy l t
theorem setAt_put {l:Bool} {h:Heap} {a:Addr} {es0 es:Array (Int×Value)} {ep:Nat} {t0 t:SetTable} {ns:List Int} (ho:h.get? a=some { cls:=.type "set",dict:=none,data:=.set es0 ep t0,slots:=#[] })
  (hel:ElemsOf (intKind prog w) es.toList) (hi:IntsAre (es.toList.map (·.2)) ns) (nd:ns.Nodup) (hb:es.size < scanBound) (hf:t.fits es.size=true) (ht:Tidy l t) :
  (h.update a (Obj.putSet es t)).get? a=some { cls:=.type "set",dict:=none,data:=.set es (ep + 1) t,slots:=#[] }∧SetAt prog w l (h.update a (Obj.putSet es t)) a ns:=by
 have g:(h.update a (Obj.putSet es t)).get? a=some { cls:=.type "set",dict:=none,data:=.set es (ep + 1) t,slots:=#[] }:=Heap.get?_update_self (Obj.putSet es t) ho rfl
 exact ⟨g,es,ep + 1,t,g,hel,hi,nd,hb,hf,ht⟩
theorem find_not {es:List (Int×Value)} {ns:List Int} {v:Int} (hi:IntsAre (es.map (·.2)) ns) (h:es.findIdx? (fun e=>(intKind prog w).is v e.2)=none):¬ v∈ns:=fun hv=>by
 obtain ⟨e,k⟩:=ints_are hi
 rw [e] at hv
 obtain ⟨y,hy,e2⟩:=List.mem_map.mp hv
 obtain ⟨p,hp,e3⟩:=List.mem_map.mp hy
 obtain ⟨i,t,e4⟩:=k y hy
 have:=List.findIdx?_eq_none_iff.mp h p hp
 have e5:v=i:=by rw [←e2,e4];rfl
 have:(intKind prog w).is v p.2=false:=by simpa using this
 rw [e3,e4,e5,intKind_is] at this
 cases this
theorem find_in {es:List (Int×Value)} {ns:List Int} {v:Int} {j:Nat} (hi:IntsAre (es.map (·.2)) ns) (h:es.findIdx? (fun e=>(intKind prog w).is v e.2)=some j):v∈ns:=by
 obtain ⟨hj,hp,_⟩:=List.findIdx?_eq_some_iff_getElem.mp h
 obtain ⟨t,e⟩:=Value.isInt_shape (show Value.isInt v es[j].2=true from hp)
 rw [(ints_are hi).1]
 exact List.mem_map.mpr ⟨es[j].2,List.mem_map.mpr ⟨es[j],List.getElem_mem hj,rfl⟩,by rw [e];rfl⟩
theorem nodup_snoc {ns:List Int} {v:Int} (h:ns.Nodup) (n:¬ v∈ns):(ns++[v]).Nodup:=by
 refine List.nodup_append.mpr ⟨h,by simp,fun a ha b hb e=>?_⟩
 rw [List.mem_singleton.mp hb] at e
 exact n (e ▸ ha)
def addI (ns:List Int) (v:Int):List Int:=if v∈ns then ns else ns++[v]
theorem set_add {l:Bool} {a:Addr} {v:Int} {tk:Tok} {ns:List Int} {Q:Bool→Shared→Prop} (hS:SetAt prog w l s.heap a ns) (hroom:ns.length + 1 < scanBound)
  (h :∀b h' ns',Heap.SameBut a s.heap h'→SetAt prog w l h' a ns'→ns'.Perm (addI ns v)→Q b { s with heap:=h' }):wpAny (model prog w) A (setAddHashed a (.int v tk) ((intKind prog w).hash v)) Q E s:=by
 obtain ⟨es,ep,t,ho,hel,hi,nd,hb,hf,ht⟩:=hS
 have hsz:es.size=ns.length:=by rw [ints_len hi,List.length_map,Array.length_toList]
 have hk:(intKind prog w).is v (.int v tk)=true:=intKind_is prog w v tk
 unfold setAddHashed setAddHashedIn
 refine wpAny_holding (wpAny_bind (wpAny_setState_of ho rfl hf ?_));dsimp only
 rw [byScan_of rfl hb hel];simp only [↓reduceIte];unfold setAddByScan
 refine wpAny_bind (wpAny_bind (wpAny_rule (wpAny_bind (wpAny_setScan_of hk ho rfl hf hel ?_))))
 cases hr:List.findIdx? (fun e=>(intKind prog w).is v e.2) es.toList with
 | some j=>
  refine wpAny_pure (wpAny_pure ?_)
  have:=h false s.heap ns (Heap.SameBut.refl a s.heap) ⟨es,ep,t,ho,hel,hi,nd,hb,hf,ht⟩ (by unfold addI;rw [if_pos (find_in hi hr)])
  exact this
 | none=>
  dsimp only
  have hp:=layNew_perm t es ((intKind prog w).hash v) (.int v tk)
  have hfi:=layNew_fits t es ((intKind prog w).hash v) (.int v tk)
  have hti:=ht.layNew es ((intKind prog w).hash v) (.int v tk)
  generalize layNew t es ((intKind prog w).hash v) (.int v tk)=L at hp hfi hti⊢
  obtain ⟨es1,t1,wd,gave⟩:=L
  dsimp only at hp hfi hti⊢;rw [Array.toList_push] at hp
  have hel1:ElemsOf (intKind prog w) es1.toList:=(hel.push hk rfl).perm hp
  have hi1 :∃ns1,IntsAre (es1.toList.map (·.2)) ns1∧ns1.Perm (ns++[v]):=ints_perm (ints_snoc hi v tk) (by have:=hp.map (fun e:Int×Value=>e.2);rwa [List.map_append] at this)
  obtain ⟨ns1,hi1,pn⟩:=hi1
  have nin:=find_not hi hr
  have nd1:ns1.Nodup:=pn.nodup_iff.mpr (nodup_snoc nd nin)
  have ea:addI ns v=ns++[v]:=if_neg nin
  have hb1:es1.size < scanBound:=by rw [←Array.length_toList,hp.length_eq,List.length_append,Array.length_toList,hsz];exact hroom
  have gw :∀(b:Bool) {s₁:Shared} {Q':Unit→Shared→Prop},Q' () s₁→wpAny (model prog w) A (match b with|true=>rule "set.scan.the-table-gave-way" | false=>pure ()) Q' E s₁:=fun b s₁ Q' q=>by cases b with|false=>exact wpAny_pure q|true=>exact wpAny_rule q
  have last:wpAny (model prog w) A (do
    storeSet a es1 t1
    if (!wd && t1.tooFull)=true then do
      (match (relayAll t1 es1 (SetTable.grown es1.size)).2.2 with|true=>rule "set.scan.the-table-gave-way" | false=>pure ())
      storeSet a (relayAll t1 es1 (SetTable.grown es1.size)).1 (relayAll t1 es1 (SetTable.grown es1.size)).2.1
      pure (some true)
     else pure (some true)) (fun r s'=>∃b,r=some b∧Q b s') E s:=by
   obtain ⟨g1,S1⟩:=setAt_put (prog:=prog) (w:=w) ho hel1 hi1 nd1 hb1 hfi hti
   have sb:=Heap.SameBut.update s.heap a (Obj.putSet es1 t1)
   refine wpAny_bind (wpAny_storeSet_of ho rfl ?_ (fits_of_scanBound hb1))
   split
   ·have hp2:=relayAll_perm t1 es1 (SetTable.grown es1.size)
    have hf2:=relayAll_fits t1 es1 (SetTable.grown es1.size)
    have ht2:=hti.relayAll es1 (SetTable.grown es1.size)
    generalize relayAll t1 es1 (SetTable.grown es1.size)=L2 at hp2 hf2 ht2⊢
    obtain ⟨es2,t2,g2⟩:=L2
    dsimp only at hp2 hf2 ht2⊢
    obtain ⟨ns2,hi2,pn2⟩:=ints_perm hi1 (hp2.map (fun e:Int×Value=>e.2))
    have hb2:es2.size < scanBound:=by rw [←Array.length_toList,hp2.length_eq,Array.length_toList];exact hb1
    refine wpAny_bind (gw g2 (wpAny_bind (wpAny_storeSet_of g1 rfl ?_ (fits_of_scanBound hb2))))
    obtain ⟨_,S2⟩:=setAt_put (prog:=prog) (w:=w) g1 (hel1.perm hp2) hi2 (pn2.nodup_iff.mpr nd1) hb2 hf2 ht2
    exact wpAny_pure ⟨true,rfl,h true _ ns2 (sb.trans (Heap.SameBut.update _ a _)) S2 (by rw [ea];exact pn2.trans pn)⟩
   ·exact wpAny_pure ⟨true,rfl,h true _ ns1 sb S1 (by rw [ea];exact pn)⟩
  refine wpAny_bind (gw gave ?_)
  have fin:=wpAny_mono last (Q':=fun r s'=>wpAny (model prog w) A (match r with|some added=>pure added|none=>setAddHashedIn a (.int v tk) ((intKind prog w).hash v) 99999) Q E s') (E':=E) (fun r s' x=>by obtain ⟨b,e,q⟩:=x;subst e;exact wpAny_pure q) (fun e s' x=>x)
  by_cases z:t1.plain=true
  ·rw [if_pos z];exact wpAny_bind (wpAny_of_eq (show hashByValue 8 (Value.int v tk)=pure true from rfl) fin)
  ·rw [if_neg z];exact wpAny_bind (wpAny_pure fin)
end
theorem addI_perm {ns ms:List Int} (p:ns.Perm ms) (v:Int):(addI ns v).Perm (addI ms v):=by
 unfold addI
 by_cases z:v∈ns
 ·rw [if_pos z,if_pos (p.mem_iff.mp z)];exact p
 ·rw [if_neg z,if_neg (fun y=>z (p.mem_iff.mpr y))];exact p.append_right [v]
theorem addI_fold_perm :∀(vs:List Int) {ns ms:List Int},ns.Perm ms→(vs.foldl addI ns).Perm (vs.foldl addI ms)
 | [],_,_,p=>p
 | v :: vs,_,_,p=>addI_fold_perm vs (addI_perm p v)
theorem addI_len (ns:List Int) (v:Int):(addI ns v).length≤ns.length + 1:=by
 unfold addI
 split
 ·exact Nat.le_succ _
 ·rw [List.length_append];exact Nat.le_refl _
section
variable {prog:Program} {w:World} {A:Around} {E:Value→Shared→Prop} {s:Shared}
theorem SetAt.at' {l:Bool} {h h':Heap} {a:Addr} {ns:List Int} (k :∀o,h.get? a=some o→h'.get? a=some o) (x:SetAt prog w l h a ns):SetAt prog w l h' a ns:=by
 obtain ⟨es,ep,t,e,r⟩:=x
 exact ⟨es,ep,t,k _ e,r⟩
theorem quiet_sul (a:Args):(Code.builtin "set.update.loop" a).quiet=true:=plainId_quiet (by decide +kernel) _
def set0 (w:World):Obj:={ cls:=.type "set",dict:=none,data:=.set #[] 0 (.fresh 0 0 (!w.params.followText "set-order")) }
theorem set_new (a:Value) {Q₁:Value→Shared→Prop} (h:Q₁ (.ref s.heap.objs.size) { s with heap:=s.heap.push (set0 w) }):codeAny (model prog w) A (.call (.builtin "set.__new__") ⟨[.type "set",a],[]⟩) (wants Q₁ E) s:=by
 refine codeAny_call_builtin F.plain_set_new F.entry_set_new (wpAny_of_eq (F.newCall_set_1 a) ?_)
 show wpAny _ _ (Builtin.Frozenset.newClass "set" ⟨[.type "set",a],[]⟩ >>= _) _ _ _
 refine wpAny_bind (wpAny_bind (show wpAny _ _ (pure true) _ _ _ from wpAny_pure ?_))
 show wpAny _ _ (isSubtype (.type "set") (.type "set") >>= _) _ _ _
 refine wpAny_bind (wpAny_of_eq sub_set_self ?_)
 refine wpAny_pure ?_
 show wpAny _ _ (newSet (.type "set") >>= _) _ _ _
 unfold newSet setsByText
 refine wpAny_bind (wpAny_bind (wpAny_bind (wpAny_askSetting (wpAny_pure ?_))))
 exact wpAny_bind (wpAny_alloc (wpAny_pure (wpAny_pure h)))
theorem set0_at {h:Heap} {a:Addr} (e:h.get? a=some (set0 w)):SetAt prog w (!w.params.followText "set-order") h a []:=
 ⟨#[],0,_,e,fun x hx=>by simp at hx,.nil,List.nodup_nil,by decide,by rfl,rfl,List.Pairwise.nil⟩
end
section
variable {prog:Program} {w:World} {A:Around} {E:Value→Shared→Prop} {s:Shared}
abbrev setO (es:Array (Int×Value)) (ep:Nat) (t:SetTable):Obj:={ cls:=.type "set",dict:=none,data:=.set es ep t,slots:=#[] }
abbrev setItO (first:Value) (i:Nat) (S:Addr) (n ep:Nat):Obj:={ cls:=.type "set_iterator",data:=.fields #[first,.int i 0,.ref S,.int n 0,.int ep 0] }
end
section
variable {prog:Program} {w:World} {A:Around} {E:Value→Shared→Prop}
def slotAt (t:SetTable):Nat→Nat
 | 0=>0
 | i + 1=>t.place.getD i 0 + 1
def atV (es:Array (Int×Value)) (k:Nat):Value:=((es[k]?).map (·.2)).getD .none
end
section
variable {X:Cx}
def tSSet (K:PySem.W.Frag) (te:TE):TE:=fun σ H Q=>te σ H fun x H1=>∃(a:Addr) (ns:List Int),x=.ref a∧SqT K H1 a (ns.map V.int)∧ns.length < 64∧srt (ns.foldl addI []) H1 Q
theorem addI_fold_len :∀(vs ns:List Int),(vs.foldl addI ns).length≤ns.length + vs.length
 | [],ns=>Nat.le_refl _
 | v :: vs,ns=>by
  have h1:=addI_fold_len vs (addI ns v)
  have h2:=addI_len ns v
  show (vs.foldl addI (addI ns v)).length≤_
  rw [List.length_cons]
  omega
end
end L2
set_option maxHeartbeats 400000
namespace HT
open PySem PySem.Spec PyProof.Rows L2
variable {prog:Program} {w:World} {A:Around} {E:Value→Shared→Prop} {s:Shared}
end HT
namespace L2
open PySem PySem.Spec PyProof.Rows
section
variable {X:Cx}
def rCatQ (K:PySem.W.Frag):R2:=fun x y H Q=>∃a b xs ys,x=.ref a∧y=.ref b∧SqL K H a xs∧SqL K H b ys∧xs.length + ys.length≤sizeLine∧∀p,H p=none→Q (.ref p) (upd H p (.lst (xs++ys)))
def rSlW (K:PySem.W.Frag):V→Option Int→Option Int→Hp→VK→Prop:=fun x lo hi H Q=>∃a xs,x=.ref a∧SqT K H a xs∧(HT.sIx xs.length 0 lo=0∧HT.sIx xs.length xs.length hi=xs.length)∧Q (.ref a) H
end
theorem free_in {names:List (Str×NameKind)} {ns:List Str} {Q:Str×NameKind→Prop} (h:(names.all fun y=>y.2 != NameKind.free || ns.contains y.1)=true) (q :∀n,n∈ns→∀k,Q (n,k)) :∀y∈names,y.2=NameKind.free→Q y:=fun y hy e=>by
 have z:=List.all_eq_true.mp h y hy;rw [e] at z
 have z:ns.contains y.1=true:=by simpa using z
 obtain ⟨a,b⟩:=y
 exact q a (by simpa using z) b
theorem tcompR_rng {S:Hp→Hp→Prop} {ta:TA} {te:TE} {tc:TT} {g:TG} {m n:Nat} {fr:List (Nat×Str)} {σ:St} {H H1:Hp} {Q:VK} (p:Nat→Bool) (R:Nat→V→Hp→Prop) (s0:S H1 H1) (st :∀a b c,S a b→S b c→S a c) (hs :∀H,S H1 H→S H H) (hR :∀i y H H',S H H'→R i y H→R i y H')
  (hta :∀T:List V→Hp→Prop,T [.int (n:Nat)] H1→ta σ H T) (hn:n≤sizeLine)
  (body :∀i,i < n→∀H,S H1 H→∀(KT:VK) (KF:Hp→Prop),(p i=true→∀y H',S H H'→R i y H'→KT y H')→(p i=false→∀H',S H H'→KF H')→
   g (.int (i:Nat)) (cStG σ fr (List.replicate m none)) H fun σ6 H6=>∃us,us.length=m∧σ6=cStG σ fr us∧tc (cStG σ fr us) H6 fun b H2=>if b=true then te (cStG σ fr us) H2 KT else KF H2)
  (hQ :∀l H' ys,S H1 H'→H' l=none→All2 (fun i y=>R i y H') ((List.range n).filter p) ys→Q (.ref l) (upd H' l (.lst ys))):tCompG (iRng1 ta) m fr g tc te σ H Q:=by
 have b:(n:Int) < 2 ^ 62:=Int.lt_of_le_of_lt (Int.ofNat_le.mpr hn) (by decide)
 refine hta _ ⟨n,rfl,by omega,b,?_⟩
 exact compG_rel s0 st p R hR (runsR_rng hs) hn (fun i hi v H s it KT KF h1 h2=>by subst it;exact body i hi H s KT KF h1 h2) hQ
def rIndex:V→List V→Hp→VK→Prop:=fun x vs H Q=>∃(l:Addr) (ss:List Str) (z:Str) (j:Nat),x=.ref l∧vs=[.str z]∧H l=some (.lst (ss.map V.str))∧ss.length≤1000∧ss[j]? = some z∧(∀m,m < j→ss[m]?≠some z)∧Q (.int (j:Nat)) H
section
variable {X:Cx}
theorem strs_of {ss:List Str} :∀{us:List Value},Vals (ss.map V.str) us→∀(j:Nat) (u:Value),us[j]? = some u→∃y t,ss[j]? = some y∧u=Value.str y t:=by
 induction ss with
 | nil=>intro us r j u e;rw [List.map_nil] at r;cases r;simp at e
 | cons n ss ih=>
  intro us r j u e
  rw [List.map_cons] at r
  cases r with
  | cons r1 r2=>
   obtain ⟨t,rfl⟩:=r1
   cases j with
   | zero=>rw [List.getElem?_cons_zero] at e;cases e;exact ⟨n,t,rfl,rfl⟩
   | succ j=>rw [List.getElem?_cons_succ] at e;exact ih r2 j u e
theorem mt_index:MtM X "list.index" rIndex:=by
 intro pins s σ H x vs v us Q I rx rv h
 obtain ⟨l,ss,z,j,rfl,rfl,hH,hl,hj,hm,q⟩:=h
 cases rx
 obtain ⟨u,rfl,ru⟩:=rv.one
 obtain ⟨t,rfl⟩:=ru
 obtain ⟨z2,its,n,r,hl2,e⟩:=I.lstM hH
 have lt:j < its.length:=by rw [←r.length,List.length_map];exact (List.getElem?_eq_some_iff.mp hj).1
 let ev:Value→Bool:=fun y=>match y with | .str a _=>a == z|_=>false
 have at_ :∀m (hm:m < its.toArray.size),∃y t',ss[m]? = some y∧its.toArray[m]=Value.str y t':=fun m hm=>strs_of r m _ ((List.getElem?_eq_getElem (show m < its.length by simpa using hm)).trans (by simp))
 refine call_meets F.slot_list_index ⟨_,e,rfl⟩ F.entry_list_index (F.args_list_index_2 _ _) (SeqAt.list_indexAt l its.toArray n none #[] (.str z t) ev j (by simpa using lt) ?_ ?_ ?_) ⟨e,fun y hy=>?_,?_⟩
 ·have:=(List.getElem?_eq_some_iff.mp hj).1
  have:(j:Int) < 1000:=by omega
  exact Int.lt_trans this (by decide)
 ·obtain ⟨y,t',h1,h2⟩:=at_ j (by simpa using lt)
  rw [h2]
  rw [hj] at h1
  cases h1
  exact beq_self_eq_true z
 ·intro m hm' hlt
  obtain ⟨y,t',h1,h2⟩:=at_ m hm'
  rw [h2]
  refine beq_eq_false_iff_ne.mpr fun e=>hm m hlt ?_
  rw [h1,e]
 ·obtain ⟨m,hm',e2⟩:=Array.mem_iff_getElem.mp hy
  obtain ⟨y',t',h1,h2⟩:=at_ m hm'
  rw [h2] at e2
  subst e2
  exact SeqAt.EqAt.str_str y' t' z t
 ·exact ⟨.int (j:Nat),H,I.tok _,⟨_,rfl⟩,q⟩
theorem pe_index {o e:Expr} {es:List Expr} {to:TE} {t:TA} {apos cpos:Pos} (ho:PE X o to) (ha:PA X (e :: es) t)
  (hbase:attributeBase o "index" X.env (eval o X.env)=eval o X.env:=by rfl)
  (hfew:((backTo cpos (starEach (e :: es) X.env)).all (fun x=>!x.1) && (backToKw cpos (keywordEach [] X.env)).all (fun x=>x.1.isSome) && decide ((e :: es).length + ([]:List Keyword).length + (if ([]:List Keyword).isEmpty then 0 else 1) < 30))=true:=by rfl)
  (hline:(apos.endLine == cpos.line)=true:=by rfl) (hs:starEach (e :: es) X.env=(false,eval e X.env) :: starEach es X.env:=by rfl) (hplain:(backTo cpos (starEach es X.env)).any (·.1)=false:=by rfl) :
  PE X (.Call (.Attribute o "index" apos) (e :: es) [] cpos) (tBM X.K "list" rIndex to t):=pe_bm PySem.F.plainAttrs_list PySem.F.slot_list_index PySem.F.type_list_index mt_index ho ha hbase hfew hline hs hplain
end
def pickV (xs:List V) (lo hi st:Option Int):List V:=(sliceRange (sliceBounds lo hi st xs.length).1 (sliceBounds lo hi st xs.length).2.1 (sliceBounds lo hi st xs.length).2.2).filterMap fun i=>xs[i]?
def tSl3 (K:PySem.W.Frag) (te:TE) (tl th ts:TO):TE:=fun σ H Q=>te σ H fun x H1=>tl σ H1 fun l H2=>th σ H2 fun u H3=>ts σ H3 fun k H4=>∃a xs,x=.ref a∧SqL K H4 a xs∧k≠some 0∧(pickV xs l u k).length≤sizeLine∧∀p,H4 p=none→Q (.ref p) (upd H4 p (.lst (pickV xs l u k)))
def rEqC (K:PySem.W.Frag):R2:=fun x y H Q=>∃d e,IsPd K H d x∧IsPd K H e y∧d.canLay0=true∧e.canLay0=true∧d.depth≤60∧Q (.bl (d.eqv e)) H
def rNeC (K:PySem.W.Frag):R2:=fun x y H Q=>∃d e,IsPd K H d x∧IsPd K H e y∧d.canLay0=true∧e.canLay0=true∧d.depth≤60∧Q (.bl (!d.eqv e)) H
def rCatA (K:PySem.W.Frag):R2:=fun x y H Q=>∃a b xs ys,x=.ref a∧y=.ref b∧SqT K H a xs∧SqT K H b ys∧xs.length + ys.length≤sizeLine∧∀p H',Same H H'→SqT K H' p (xs++ys)→Q (.ref p) H'
theorem qs_if {X:Cx} {pos:Pos} {c:Expr} {a b:List Stmt} {t:TT} {ta tb:TS} (hc:PT X c t) (ha:QSs X a ta) (hb:QSs X b tb):QS X (.If c a b pos) (tIfS t ta tb):=⟨ps_if hc ha.run hb.run⟩
section
variable {X:Cx}
def rExtendT (K:PySem.W.Frag):V→List V→Hp→VK→Prop:=fun x vs H Q=>∃l b xs zs,x=.ref l∧vs=[.ref b]∧H l=some (.lst xs)∧SqT K H b zs∧xs.length + zs.length≤sizeLine∧Q .non (upd H l (.lst (xs++zs)))
end
theorem runsR_enumL {K:PySem.W.Frag} {a:Addr} {xs:List V} {H1:Hp} (hq:SqL K H1 a xs):RunsR Same (IteL K a) H1 xs.length (fun i v H=>∃x p,xs[i]? = some x∧v=.ref p∧H p=some (.tup [.int (i:Nat),x])):=by
 refine ⟨fun i hi H s=>⟨xs,xs[i],s.seq hq,by simp [hi]⟩,fun H s=>⟨xs,s.seq hq,rfl⟩,fun i hi H v H' s y=>?_⟩
 obtain ⟨p,hp,rfl,f⟩:=y
 obtain ⟨x,hx,rfl⟩:=f xs (s.seq hq)
 exact ⟨Same.upd hp,x,p,hx,rfl,upd_same⟩
end L2
set_option maxHeartbeats 1000000
namespace L2
open PySem PySem.Spec PyProof.Rows
section
variable {prog:Program} {w:World} {A:Around} {E:Value→Shared→Prop} {s:Shared}
theorem sul_list {b:Bool} {S it l:Addr} {items:Array Value} (nsi:S≠it) (nsl:S≠l) (nil':it≠l) :∀(ms:List Int) (i:Nat) (ns:List Int) (A:Around) (R:Result→Shared→Prop) (s:Shared),A.handled=none→s.heap.IsListIter it l i→s.heap.IsList l items→
  IntsAre (items.toList.drop i) ms→SetAt prog w b s.heap S ns→ns.length + ms.length < scanBound→
  (∀h' tk ns',SetAt prog w b h' S ns'→ns'.Perm (ms.foldl addI ns)→(∀c o,c≠S→c≠it→s.heap.get? c=some o→h'.get? c=some o)→R (.ok (.ret .none)) { s with heap:=h',toks:=tk })→
  codeAny (model prog w) A (Code.builtin "set.update.loop" { pos:=[.ref S,.ref it],kw:=[] }) R s
 | [],i,ns,A,R,s,hh,si,sl,al,dd,hz,q=>by
  have hn:items[i]? = none:=by
   cases hd:items.toList.drop i with
   | nil=>
    have:=List.drop_eq_nil_iff.mp hd
    rw [Array.length_toList] at this
    exact Array.getElem?_eq_none this
   | cons u us=>rw [hd] at al;cases al
  refine codeAny_builtin F.entry_set_update_loop ?_
  show wpAny _ _ (pyNext (.ref it) >>= _) _ _ s
  refine wpAny_bind (wpAny_pyNext_list_end (show (A.under _).handled=none from hh) si sl hn fun h' eb=>?_)
  exact wpAny_pure (q h' s.toks ns (dd.at' fun o e=>eb S o nsi e) (List.Perm.refl _) fun c o _ hc e=>eb c o hc e)
 | m :: ms,i,ns,A,R,s,hh,si,sl,al,dd,hz,q=>by
  cases hd:items.toList.drop i with
  | nil=>rw [hd] at al;cases al
  | cons u us=>
   rw [hd] at al
   cases al with
   | cons _ tk al=>
    have hi:items.toList[i]? = some (.int m tk):=by
     have:=congrArg (fun l=>l[0]?) hd
     simpa using this
    have hu:items[i]? = some (.int m tk):=by simpa using hi
    have hd1:items.toList.drop (i + 1)=us:=by
     have:=congrArg List.tail hd
     simpa using this
    refine codeAny_builtin F.entry_set_update_loop ?_
    show wpAny _ _ (pyNext (.ref it) >>= _) _ _ s
    refine wpAny_bind (wpAny_pyNext_list_item si sl hu fun h1 si1 sb1=>?_)
    have sl1:h1.IsList l items:=by
     obtain ⟨o,e1,e2⟩:=sl
     exact ⟨o,(sb1.2 l (Ne.symm nil')).trans e1,e2⟩
    have dd1:SetAt prog w b h1 S ns:=dd.at' fun o e=>(sb1.2 S nsi).trans e
    rw [List.length_cons] at hz
    refine wpAny_bind (wpAny_holding (show wpAny _ _ (setAdd S (.int m tk)) _ _ _ from ?_))
    unfold setAdd
    refine wpAny_holding (wpAny_bind ((intKind prog w).pyHash (k:=m) (intKind_is prog w m tk) ?_))
    refine set_add (s:={ s with heap:=h1,toks:=s.toks + 1 }) dd1 (Nat.lt_of_le_of_lt (by omega) hz) fun c h2 ns2 sb2 dd2 p2=>?_
    refine wpAny_pure ⟨quiet_sul _,?_⟩
    have si2:h2.IsListIter it l (i + 1):=by
     obtain ⟨o,e1,e2⟩:=si1
     exact ⟨o,(sb2.2 it (Ne.symm nsi)).trans e1,e2⟩
    have sl2:h2.IsList l items:=by
     obtain ⟨o,e1,e2⟩:=sl1
     exact ⟨o,(sb2.2 l (Ne.symm nsl)).trans e1,e2⟩
    have l2:ns2.length≤ns.length + 1:=by rw [p2.length_eq];exact addI_len ns m
    refine sul_list nsi nsl nil' ms (i + 1) ns2 A R { s with heap:=h2,toks:=s.toks + 1 } hh si2 sl2 (by rw [hd1];exact al) dd2 (by omega) fun h' tk' ns' dd' pp kk=>q h' tk' ns' dd' (pp.trans (addI_fold_perm ms p2)) fun c o hc1 hc2 e=>kk c o hc1 hc2 ((sb2.2 c hc1).trans ((sb1.2 c hc2).trans e))
theorem lst_no_set:isSubtype (.type "list") (.type "set")=pure false:=by rw [isSubtype_type];kernel_rfl
theorem lst_no_fset:isSubtype (.type "list") (.type "frozenset")=pure false:=by rw [isSubtype_type];kernel_rfl
theorem call_set_ofL {l:Addr} {items:Array Value} {ns:List Int} {Q:Value→Shared→Prop} (hh:A.handled=none) (ht:s.heap.IsList l items) (hi:IntsAre items.toList ns) (hb:ns.length < scanBound)
  (h :∀h' tk ns',SetAt prog w (!w.params.followText "set-order") h' s.heap.objs.size ns'→ns'.Perm (ns.foldl addI [])→(∀b o,s.heap.get? b=some o→h'.get? b=some o)→Q (.ref s.heap.objs.size) { s with heap:=h',toks:=tk }) :
  wpAny (model prog w) A (call (.type "set") [.ref l]) Q E s:=by
 obtain ⟨c,tl,hmro⟩:=F.called_set.mro;have hmade:=F.called_set.made;have hsub:=F.called_set.sub
 refine wpAny_call (codeAny_of_tree (show wpAny _ _ (callAny (.type "set") _) _ _ _ from wpAny_pure ⟨Code.quiet_builtin _ (by decide +kernel),codeAny_builtin F.entry_type_call ?_⟩))
 rw [Around.under_plain (weight_type_call_type "set" [.ref l] []) rfl];have h1:=F.called_set.notType;have h2:=F.called_set.canCreate;have hct:=F.typeCall_set_1 (.ref l)
 (repeat (any_goals (first|assumption|wp_step)));refine codeAny_mono (set_new (.ref l) (E:=E) (Q₁:=fun obj s₁=>obj=.ref s.heap.objs.size∧s₁={ s with heap:=s.heap.push (set0 w) }) ⟨rfl,rfl⟩) fun r s₁ hr=>?_
 cases r with
 | error e=>exact hr
 | ok fl=>
  cases fl with
  | next=>exact hr.elim
  | brk=>exact hr.elim
  | cont=>exact hr.elim
  | ret obj=>
   obtain ⟨rfl,rfl⟩:=hr
   have hS:(s.heap.push (set0 w)).get? s.heap.objs.size=some (set0 w):=Heap.get?_push_size _ rfl
   have hT:Shared.TypeIs { s with heap:=s.heap.push (set0 w) } (.ref s.heap.objs.size) "set":=⟨_,hS,rfl⟩
   have hli:=F.called_set.init.lookup;have hbi:=F.called_set.init.bind (.ref s.heap.objs.size)
   (repeat (any_goals (first|assumption|wp_step)))
   have inner:codeAny (model prog w) A.in1 (.call (.builtin "set.__init__") ⟨[.ref s.heap.objs.size,.ref l],[]⟩) (wants (fun r s₂=>r=.none∧Q (.ref s.heap.objs.size) s₂) E) { s with heap:=s.heap.push (set0 w) }:=by
    refine codeAny_call_builtin F.called_set.init.plain F.entry_set_init (check_set_init_1 hT ?_)
    obtain ⟨o,ho,hc,n,hd⟩:=ht
    obtain ⟨oc,od,oda,osl⟩:=o
    dsimp only at hc hd;subst hc hd
    have ho1:(s.heap.push (set0 w)).get? l=some { cls:=.type "list",dict:=od,data:=.seq items n,slots:=osl }:=Heap.get?_push_of_some _ ho
    have hts:=lst_no_set;have htf:=lst_no_fset;have hne:(Value.type "list" == Value.type "dict")=false:=by decide
    have hS':(s.heap.push (set0 w)).get? s.heap.objs.size=some { cls:=.type "set",dict:=none,data:=.set #[] 0 (.fresh 0 0 (!w.params.followText "set-order")),slots:=#[] }:=hS
    have ht1:(s.heap.push (set0 w)).IsList l items:=⟨_,ho1,rfl,n,rfl⟩
    have ll:l < s.heap.objs.size:=Heap.lt_size ho
    unfold Builtin.«set.__init__» noKeywords Builtin.Frozenset.updateFrom
    generalize hPI:pyIter=PI
    wp_walk
    subst hPI
    refine wpAny_pyIter_list ht1 (wpAny_bind (wpAny_runValue ?_))
    have k2 :∀b o,s.heap.get? b=some o→((s.heap.push (set0 w)).push { cls:=.type "list_iterator",data:=.fields #[.ref l,.int 0 0] }).get? b=some o:=fun b o e=>Heap.get?_push_of_some _ (Heap.get?_push_of_some _ e)
    have ls:(s.heap.push (set0 w)).objs.size=s.heap.objs.size + 1:=Heap.size_push _ _
    refine sul_list (S:=s.heap.objs.size) (it:=(s.heap.push (set0 w)).objs.size) (l:=l) (items:=items) (by rw [ls];exact Nat.ne_of_lt (Nat.lt_succ_self _)) (Nat.ne_of_gt ll) (by rw [ls];exact Nat.ne_of_gt (Nat.lt_succ_of_lt ll)) ns 0 [] _ _ _ (by simp [hh]) ⟨_,Heap.get?_push_size _ rfl,rfl,rfl⟩ ⟨_,k2 _ _ ho,rfl,n,rfl⟩ (by rw [List.drop_zero];exact hi) (set0_at (Heap.get?_push_of_some _ hS)) (by simpa using hb) fun h' tk ns' dd pp kk=>?_
    refine wpAny_pure (wpAny_pure ⟨rfl,h h' tk ns' dd pp fun b o e=>kk b o (Nat.ne_of_lt (Heap.lt_size e)) (by rw [ls];exact Nat.ne_of_lt (Nat.lt_succ_of_lt (Heap.lt_size e))) (k2 b o e)⟩)
   refine codeAny_mono inner fun r₂ s₂ hr₂=>?_
   cases r₂ with
   | error e=>exact hr₂
   | ok f2=>
    cases f2 with
    | next=>exact hr₂.elim
    | brk=>exact hr₂.elim
    | cont=>exact hr₂.elim
    | ret r=>obtain ⟨rfl,hq⟩:=hr₂;exact wpAny_pure (wpAny_pure hq)
end
section
variable {X:Cx}
def tLSet (K:PySem.W.Frag) (te:TE):TE:=fun σ H Q=>te σ H fun x H1=>∃(a:Addr) (ns:List Int),x=.ref a∧SqL K H1 a (ns.map V.int)∧ns.length < 100∧Q (.int ((ns.foldl addI []).length:Nat)) H1
theorem pe_lenSet {e:Expr} {te:TE} {p1 p2 c1 c2:Pos} (hcalm:X.calm=true) (g1:Gl X "len") (m1:X.mg "len" = none) (g2:Gl X "set") (m2:X.mg "set" = none) (b1:bootBuiltins "len" = some (.builtin "len")) (b2:bootBuiltins "set" = some (.type "set")) (ha:PE X e te)
  (he:starEach [e] X.env=[(false,eval e X.env)]:=by rfl):PE X (.Call (.Name "len" p1) [.Call (.Name "set" p2) [e] [] c2] [] c1) (tLSet X.K te):=by
 intro pins s σ H Q I h
 have hh:X.A.handled=none:=I.ok.hd hcalm
 refine wpAny_Call_Name_kw (ld_blt I g1 m1 b1 ?_ (by decide) (by decide))
 refine PyProof.Rows.callWith_builtin1 ?_ rfl rfl
 refine (show wpAny _ _ (spliced ((false,eval (.Call (.Name "set" p2) [e] [] c2) X.env) :: [])) _ _ s from Calls.spliced_cons ?_)
 refine wpAny_Call_Name_kw (ld_blt I g2 m2 b2 ?_ (by decide) (by decide))
 refine PyProof.Rows.callWith_type1 ?_ he rfl
 rw [he]
 refine (show wpAny _ _ (spliced ((false,eval e X.env) :: [])) _ _ s from Calls.spliced_cons (thn (ha pins s σ H _ I h) fun u s1 ⟨x,H1,I1,r1,a,ns,ex,sq,hl,q⟩=>?_))
 subst ex
 cases r1
 refine Calls.spliced_nil ?_
 obtain ⟨its,rv,pl,hz⟩:=I1.list sq
 refine call_set_ofL hh pl.isList (by simpa using intsAre_of rv) (Nat.lt_trans hl (by decide)) fun h2 tk ns2 S2 pm k2=>Calls.spliced_nil ?_
 obtain ⟨es,ep,t,ho,_,im,nd,hb,hf,_⟩:=S2
 have ln:es.size=(ns.foldl addI []).length:=by
  rw [←pm.length_eq,ints_len im,List.length_map,Array.length_toList]
 have lf:(ns.foldl addI []).length < 100:=by
  have:=addI_fold_len ns []
  rw [List.length_nil,Nat.zero_add] at this
  omega
 refine call_len_set (s:={ s1 with heap:=h2,toks:=tk }) ho ⟨rfl,rfl,rfl⟩ rfl hf (by omega) ?_
 rw [ln]
 exact ⟨.int ((ns.foldl addI []).length:Nat),H1,(I1.kept (t':=tk + 1 + 1) k2),⟨_,rfl⟩,q⟩
end
section
variable {X:Cx} {pos:Pos}
def gLst (K:PySem.W.Frag) (n:Nat) (t:TGs):TG:=fun v σ H Q=>∃a xs,v=.ref a∧SqL K H a xs∧xs.length=n∧t xs σ H Q
end
theorem tcompF_L {K:PySem.W.Frag} {a:Addr} {xs:List V} {tl te:TE} {tc:TT} {g:TG} {m:Nat} {fr:List (Nat×Str)} {σ:L2.St} {H H1:Hp} {Q:VK} (p:Nat→Bool) (R:Nat→V→Hp→Prop) (hR :∀i y H H',Same H H'→R i y H→R i y H') (htl :∀R:VK,R (.ref a) H1→tl σ H R) (hq:SqL K H1 a xs) (hn:xs.length≤sizeLine)
  (body :∀i,i < xs.length→∀v H,Same H1 H→xs[i]? = some v→∀(KT:VK) (KF:Hp→Prop),(p i=true→∀y H',Same H H'→R i y H'→KT y H')→(p i=false→∀H',Same H H'→KF H')→
   g v (cStG σ fr (List.replicate m none)) H fun σ6 H6=>∃us,us.length=m∧σ6=cStG σ fr us∧tc (cStG σ fr us) H6 fun b H2=>if b=true then te (cStG σ fr us) H2 KT else KF H2)
  (hQ :∀l H' ys,Same H1 H'→H' l=none→All2 (fun i y=>R i y H') ((List.range xs.length).filter p) ys→Q (.ref l) (upd H' l (.lst ys))):tCompG (iList K tl) m fr g tc te σ H Q:=
 htl _ ⟨a,rfl,⟨xs,hq⟩,compG_rel (Same.refl _) (fun _ _ _ a b=>a.trans b) p R hR (runsR_list (S:=Same) (fun _ _=>Same.refl _) fun H s=>s.seq hq) hn body hQ⟩
theorem tcompE_L1 {K:PySem.W.Frag} {a:Addr} {xs:List V} {ta:TA} {te:TE} {tc:TT} {g:TG} {m:Nat} {fr:List (Nat×Str)} {σ:L2.St} {H H1:Hp} {Q:VK} (p:Nat→Bool) (R:Nat→V→Hp→Prop) (hR :∀i y H H',Same H H'→R i y H→R i y H') (hta :∀T:List V→Hp→Prop,T [.ref a] H1→ta σ H T) (hq:SqL K H1 a xs) (hn:xs.length≤sizeLine)
  (body :∀i,i < xs.length→∀v H,Same H1 H→(∃x p,xs[i]? = some x∧v=.ref p∧H p=some (.tup [.int (i:Nat),x]))→∀(KT:VK) (KF:Hp→Prop),(p i=true→∀y H',Same H H'→R i y H'→KT y H')→(p i=false→∀H',Same H H'→KF H')→
   g v (cStG σ fr (List.replicate m none)) H fun σ6 H6=>∃us,us.length=m∧σ6=cStG σ fr us∧tc (cStG σ fr us) H6 fun b H2=>if b=true then te (cStG σ fr us) H2 KT else KF H2)
  (hQ :∀l H' ys,Same H1 H'→H' l=none→All2 (fun i y=>R i y H') ((List.range xs.length).filter p) ys→Q (.ref l) (upd H' l (.lst ys))):tCompG (ieL K ta) m fr g tc te σ H Q:=
 hta _ ⟨a,xs,rfl,hq,compG_rel (Same.refl _) (fun _ _ _ a b=>a.trans b) p R hR (runsR_enumL hq) hn body hQ⟩
theorem tcompP_L {K:PySem.W.Frag} {tl te:TE} {tc:TT} {g:TG} {m:Nat} {fr:List (Nat×Str)} {σ:L2.St} {H:Hp} {Q:VK} (Pr:Addr→List V→Hp→Prop) (htl :∀R:VK,(∀a xs H1,Pr a xs H1→R (.ref a) H1)→tl σ H R) (hq :∀a xs H1,Pr a xs H1→SqL K H1 a xs∧xs.length≤sizeLine)
  (p:Nat→Bool) (R:Nat→V→Hp→Prop) (hR :∀i y H H',Same H H'→R i y H→R i y H')
  (body :∀a xs H1,Pr a xs H1→∀i,i < xs.length→∀v H,Same H1 H→xs[i]? = some v→∀(KT:VK) (KF:Hp→Prop),(p i=true→∀y H',Same H H'→R i y H'→KT y H')→(p i=false→∀H',Same H H'→KF H')→
   g v (cStG σ fr (List.replicate m none)) H fun σ6 H6=>∃us,us.length=m∧σ6=cStG σ fr us∧tc (cStG σ fr us) H6 fun b H2=>if b=true then te (cStG σ fr us) H2 KT else KF H2)
  (hQ :∀a xs H1,Pr a xs H1→∀l H' ys,Same H1 H'→H' l=none→All2 (fun i y=>R i y H') ((List.range xs.length).filter p) ys→Q (.ref l) (upd H' l (.lst ys))):tCompG (iList K tl) m fr g tc te σ H Q:=
 htl _ fun a xs H1 pr=>⟨a,rfl,⟨xs,(hq a xs H1 pr).1⟩,compG_rel (Same.refl _) (fun _ _ _ a b=>a.trans b) p R hR (runsR_list (S:=Same) (fun _ _=>Same.refl _) fun H s=>s.seq (hq a xs H1 pr).1) (hq a xs H1 pr).2 (body a xs H1 pr) (hQ a xs H1 pr)⟩
theorem tcompF_Tp {K:PySem.W.Frag} {a:Addr} {xs:List V} {tl te:TE} {tc:TT} {g:TG} {m:Nat} {fr:List (Nat×Str)} {σ:L2.St} {H H1:Hp} {Q:VK} (p:Nat→Bool) (R:Nat→V→Hp→Prop) (hR :∀i y H H',Same H H'→R i y H→R i y H') (htl :∀R:VK,R (.ref a) H1→tl σ H R) (hq:SqT K H1 a xs) (hn:xs.length≤sizeLine)
  (body :∀i,i < xs.length→∀v H,Same H1 H→xs[i]? = some v→∀(KT:VK) (KF:Hp→Prop),(p i=true→∀y H',Same H H'→R i y H'→KT y H')→(p i=false→∀H',Same H H'→KF H')→
   g v (cStG σ fr (List.replicate m none)) H fun σ6 H6=>∃us,us.length=m∧σ6=cStG σ fr us∧tc (cStG σ fr us) H6 fun b H2=>if b=true then te (cStG σ fr us) H2 KT else KF H2)
  (hQ :∀l H' ys,Same H1 H'→H' l=none→All2 (fun i y=>R i y H') ((List.range xs.length).filter p) ys→Q (.ref l) (upd H' l (.lst ys))):tCompG (iTup K tl) m fr g tc te σ H Q:=
 htl _ ⟨a,rfl,⟨xs,hq⟩,compG_rel (Same.refl _) (fun _ _ _ a b=>a.trans b) p R hR (runsR_tup (S:=Same) (fun _ _=>Same.refl _) fun H s=>s.seqT hq) hn body hQ⟩
theorem e_cb1 {f:List V→Hp→VK→Prop} {te:TE} {σ:L2.St} {H:Hp} {Q:VK} (h:te σ H fun x H1=>f [x] H1 Q):tCB f (tCons te tNil) σ H Q:=h
theorem t_test {r:R2} {ta tb:TE} {σ:L2.St} {H:Hp} {Q:Bool→Hp→Prop} (h:ta σ H fun x H1=>tb σ H1 fun y H2=>r x y H2 fun x H3=>∃c,x=.bl c∧Q c H3):tTest (tOp r ta tb) σ H Q:=h
theorem t_lset {K:PySem.W.Frag} {te:TE} {σ:L2.St} {H:Hp} {Q:VK} (h:te σ H fun x H1=>∃(a:Addr) (ns:List Int),x=.ref a∧SqL K H1 a (ns.map V.int)∧ns.length < 100∧Q (.int ((ns.foldl addI []).length:Nat)) H1):tLSet K te σ H Q:=h
theorem t_or {t u:TT} {σ:L2.St} {H:Hp} {Q:Bool→Hp→Prop} (h:t σ H fun c H1=>if c=true then Q true H1 else u σ H1 Q):tOr t u σ H Q:=h
theorem sq_if {c:TT} {a b rest:TS} {D:Ends} {σ:L2.St} {H:Hp} (h:c σ H fun k H1=>if k=true then a { D with nx:=rest D } σ H1 else b { D with nx:=rest D } σ H1):tSeq (tIfS c a b) rest D σ H:=h
theorem sq_ret {te:TE} {D:Ends} {σ:L2.St} {H:Hp} (h:te σ H D.rt):tRet te D σ H:=h
section
variable {X:Cx} {pins:List (Addr×Obj)} {σ:St} {H:Hp} {s:Shared} {a:Addr} {u v:HO}
theorem Inv.retold (I:Inv X pins σ H s) (e:H a=some u) (nt :∀xs,u≠.tup xs) (nb :∀ps,u≠.tbl ps) (no :∀c,u≠.own c) (nf :∀o w,X.H₀ a≠some (.frz o w)) (ok:ObjOk X.prog X.w (upd H a v) s.heap a v):Inv X pins σ (upd H a v) s:=by
 have ne :∀{b:Addr},H b=none→b≠a:=fun n z=>by rw [z,e] at n;cases n
 refine ⟨I.ok,I.os,I.bare,⟨I.base.keep,I.base.slot,fun b o q n hx=>?_,I.base.there,fun b xs q=>?_,fun b o w q=>?_,fun b ps q=>?_⟩,I.loc,I.cell,?_,fun x c q=>?_,fun p hp=>?_,fun b o q=>?_,I.len⟩
 ·have z:=I.base.free b o q n hx
  rw [upd_ne (ne z)];exact z
 ·have z:=I.base.tups b xs q
  rw [upd_ne (fun y=>by rw [y,e] at z;exact nt xs (Option.some.inj z))];exact z
 ·have z:=I.base.frzs b o w q
  rw [upd_ne (fun y=>by rw [y] at q;exact nf o w q)];exact z
 ·obtain ⟨more,z⟩:=I.base.tbls b ps q
  exact ⟨more,by rw [upd_ne (fun y=>by rw [y,e] at z;exact nb _ (Option.some.inj z))];exact z⟩
 ·rw [upd_ne (ne I.free)];exact I.free
 ·rw [upd_ne (ne (I.freeC x c q))];exact I.freeC x c q
 ·obtain ⟨h1,h2,h3⟩:=I.pin p hp
  exact ⟨h1,by rw [upd_ne (ne h2)];exact h2,h3⟩
 ·by_cases z:b=a
  ·subst z
   rw [upd_same] at q
   cases q
   exact ok
  ·rw [upd_ne z] at q
   refine (I.hok b o q).stay (fun _ _ _ y=>y) (fun c y=>?_) fun c xs y=>?_
   ·rw [upd_ne (fun x=>by rw [x,e] at y;exact no b (Option.some.inj y))];exact y
   ·rw [upd_ne (fun x=>by rw [x,e] at y;exact nt xs (Option.some.inj y))];exact y
theorem Inv.noFrz {kvs:List (Key×V)} (I:Inv X pins σ H s) (e:H a=some (.dK kvs)) :∀o w,X.H₀ a≠some (.frz o w):=fun o w q=>by
 have z:=I.base.frzs a o w q
 rw [e] at z
 cases z
theorem Inv.freeze {kvs:List (Key×V)} {ob:Obj} (I:Inv X pins σ H s) (e:H a=some (.dK kvs)) (ho:s.heap.get? a=some ob):Inv X pins σ (upd H a (.frz ob (.dK kvs))) s:=
 I.retold e (fun _ z=>by cases z) (fun _ z=>by cases z) (fun _ z=>by cases z) (I.noFrz e) ⟨ho,(show ObjOk X.prog X.w H s.heap a (.dK kvs) from I.hok a _ e)⟩
theorem Inv.thaw {kvs:List (Key×V)} {ob:Obj} (I:Inv X pins σ H s) (nf :∀o w,X.H₀ a≠some (.frz o w)) (e:H a=some (.frz ob (.dK kvs))):Inv X pins σ (upd H a (.dK kvs)) s:=
 I.retold e (fun _ z=>by cases z) (fun _ z=>by cases z) (fun _ z=>by cases z) nf (show ObjOk X.prog X.w H s.heap a (.frz ob (.dK kvs)) from I.hok a _ e).2
end
theorem paired_at {α β:Type} {F:α→β→Prop} :∀{l:List α} {m:List β} {i:Nat} {x:α},Paired F l m→l[i]? = some x→∃y,m[i]? = some y∧F x y
 | _,_,i,x,.nil,e=>by simp at e
 | _,_,0,x,.cons a _,e=>by
  rw [List.getElem?_cons_zero] at e
  cases e
  exact ⟨_,List.getElem?_cons_zero,a⟩
 | _,_,i + 1,x,.cons _ r,e=>by
  rw [List.getElem?_cons_succ] at e
  obtain ⟨y,h1,h2⟩:=paired_at r e
  exact ⟨y,by rw [List.getElem?_cons_succ];exact h1,h2⟩
def Itv (a:Addr) (ob:Obj) (kvs:List (Key×V)):It:=
 ⟨fun i H=>H a=some (.frz ob (.dK kvs))∧i < kvs.length,fun i H x H'=>H'=H∧∃k,kvs[i]? = some (k,x),fun i H=>H a=some (.frz ob (.dK kvs))∧kvs.length≤i⟩
theorem frz_at {X:Cx} {pins:List (Addr×Obj)} {σ:St} {H:Hp} {s:Shared} {a:Addr} {ob:Obj} {kvs:List (Key×V)} {es:Array DictEntry} {ep:Nat} (I:Inv X pins σ H s) (hob:ob.data=.dict es ep) (e:H a=some (.frz ob (.dK kvs))) :
  ∃vs,KV kvs vs∧vs.length=kvs.length∧s.heap.DictAt (mixKind X.prog X.w) a vs ep:=by
 obtain ⟨ho,_,_,vs,rel,dd⟩:=(show ObjOk X.prog X.w H s.heap a (.frz ob (.dK kvs)) from I.hok a _ e)
 obtain ⟨ep',da⟩:=dd.dictAt
 refine ⟨vs,rel,rel.length.symm,?_⟩
 obtain ⟨o,es',h1,h2,h3,h4⟩:=id da
 rw [ho] at h1
 cases h1
 rw [hob] at h3
 cases h3
 exact da
theorem turn_vals {P:Program} {w:World} {K:PySem.W.Frag} {tg:Expr} {a it:Addr} {ob:Obj} {kvs:List (Key×V)} {es:Array DictEntry} {ep:Nat} (hob:ob.data=.dict es ep):Turn P w K tg (Itv a ob kvs) [it] it (fun i h=>h.IsValIter it a i kvs.length ep) where
 mem:=by simp
 obj:=fun i h st b hb=>by
  obtain rfl:b=it:=by simpa using hb
  obtain ⟨o,e,c,d⟩:=st
  exact ⟨o,e,fun v z=>by rw [d] at z;cases z⟩
 keep:=fun i h h' st k=>by
  obtain ⟨o,e,r⟩:=st
  exact ⟨o,k it (by simp) o e,r⟩
 item:=by
  intro X hP hw hK hc i pins s σ H E I hf st hg
  subst hP hw hK
  obtain ⟨ea,hi⟩:=hg
  obtain ⟨vs,rel,lv,da⟩:=frz_at I hob ea
  obtain ⟨f0,f1,f2,f3,f4,f5⟩:=hf it (by simp)
  have hk:kvs[i]? = some kvs[i]:=List.getElem?_eq_getElem hi
  obtain ⟨⟨k',u⟩,hu,ek,ru⟩:=paired_at rel hk
  rw [←lv] at st
  refine wpAny_pyNext_values_item st da hu fun h' st' sb=>?_
  have I1:Inv X pins σ H { s with heap:=h' }:=I.turned (t':=s.toks) (fun b o hb e=>(sb.2 b hb).trans e) f0 f1 f3 f4 f5
  obtain ⟨o,e,c,d⟩:=id st'
  rw [lv] at st'
  exact ⟨u,rfl,go_of (s:={ s with heap:=h' }) e c d (by decide) ⟨kvs[i].2,H,I1,ru,⟨rfl,kvs[i].1,hk⟩,st',fun b hb=>(hf b hb).1⟩⟩
 done:=by
  intro X hP hw hK hc i pins s σ H E I hf st hg
  subst hP hw hK
  obtain ⟨ea,hi⟩:=hg
  obtain ⟨vs,rel,lv,da⟩:=frz_at I hob ea
  obtain ⟨f0,f1,f2,f3,f4,f5⟩:=hf it (by simp)
  rw [←lv] at st
  exact wpAny_pyNext_values_end (I.ok.hd hc) st da (by rw [List.getElem?_eq_none];omega) fun h' eb=>⟨rfl,I.turned (t':=s.toks) (fun b o hb e=>eb b o hb e) f0 f1 f3 f4 f5⟩
 self:=fun _ _ _ _ _ st h=>wpAny_pyIter_valiter st h
def iVals (td:TE):TI:=fun σ H R=>td σ H fun x H1=>∃a kvs,x=.ref a∧H1 a=some (.dK kvs)∧∀ob,R (Itv a ob kvs) (upd H1 a (.frz ob (.dK kvs)))
section
variable {X:Cx}
theorem pi_vals {tg o:Expr} {to:TE} {apos cpos:Pos} (ho:PE X o to) (hbase:attributeBase o "values" X.env (eval o X.env)=eval o X.env:=by rfl) (hline:(apos.endLine == cpos.line)=true:=by rfl):PI X tg (.Call (.Attribute o "values" apos) [] [] cpos) (iVals to):=by
 intro pins s σ H R I h
 refine wpAny_Call_method0_late hbase hline (thn (ho pins s σ H _ I h) fun v s1 ⟨x,H1,I1,r1,a,kvs,ex,ea,q⟩=>?_)
 subst ex
 cases r1
 obtain ⟨t1,t2,hd⟩:=isD_at I1 (.inl ⟨_,.inl ea⟩)
 obtain ⟨_,_,vs,rel,dd⟩:=dk_of I1.hok ea
 obtain ⟨ep,da⟩:=dd.dictAt
 obtain ⟨ob,es,ho,hcl,hob,_⟩:=id da
 refine ⟨"dict","dict.values",PySem.F.plainAttrs_dict,PySem.F.slot_dict_values,PySem.F.type_dict_values,t1,t2,Calls.callWith_builtin rfl (PySem.evalArgs_none ?_)⟩
 refine call_meetsIn PySem.F.slot_dict_values t1 PySem.F.entry_dict_values (PySem.F.args_dict_values_1 _) (meets_dict_values (mixKind X.prog X.w) a hd) ⟨⟨_,dd⟩,?_⟩
 have k1 :∀b o,s1.heap.get? b=some o→(s1.heap.push { cls:=.type "dict_values",data:=.fields #[.ref a] }).get? b=some o:=fun b o e=>Heap.get?_push_of_some _ e
 have I2:Inv X pins σ (upd H1 a (.frz ob (.dK kvs))) { s1 with heap:=s1.heap.push { cls:=.type "dict_values",data:=.fields #[.ref a] } }:=(I1.freeze ea ho).kept (t':=s1.toks) k1
 have da2:(s1.heap.push { cls:=.type "dict_values",data:=.fields #[.ref a] }).DictAt (mixKind X.prog X.w) a vs ep:=by
  obtain ⟨o,es,h1,r⟩:=da
  exact ⟨o,es,k1 _ _ h1,r⟩
 refine wpAny_pyIter_values (s:={ s1 with heap:=s1.heap.push { cls:=.type "dict_values",data:=.fields #[.ref a] } }) ⟨_,Heap.get?_push_size _ rfl,rfl,rfl⟩ da2 ?_
 have lv:vs.length=kvs.length:=rel.length.symm
 generalize hh2:s1.heap.push { cls:=.type "dict_values",data:=.fields #[.ref a] }=h2 at I2 da2
 refine ⟨h2.objs.size,[h2.objs.size],_,_,_,rfl,I2.kept (t':=s1.toks) fun b o e=>Heap.get?_push_of_some _ e,turn_vals hob,⟨_,Heap.get?_push_size _ rfl,rfl,by rw [lv];rfl⟩,fun b hb=>?_,q ob⟩
 obtain rfl:b=h2.objs.size:=by simpa using hb
 exact I2.fpOk (Nat.le_refl _) (I2.hok.fresh (Nat.le_refl _))
def tThaw (t:TE):TE:=fun σ H Q=>∃a kvs,H a=some (.dK kvs)∧t σ H fun v H4=>(∃ob,H4 a=some (.frz ob (.dK kvs)))∧Q v (upd H4 a (.dK kvs))
theorem pe_thaw {e:Expr} {t:TE} (h:PE X e t):PE X e (tThaw t):=by
 intro pins s σ H Q I ⟨a,kvs,ea,q⟩
 refine thn (h pins s σ H _ I q) fun u s1 ⟨v,H4,I4,r4,⟨ob,e4⟩,q4⟩=>?_
 exact ⟨v,_,I4.thaw (I.noFrz ea) e4,r4,q4⟩
def sThaw (t:TS):TS:=fun D σ H=>∃a kvs,H a=some (.dK kvs)∧t { D with nx:=fun σ' H4=>(∃ob,H4 a=some (.frz ob (.dK kvs)))∧D.nx σ' (upd H4 a (.dK kvs)) } σ H
theorem ps_thaw {st:Stmt} {t:TS} (h:PS X st t):PS X st (sThaw t):=by
 intro pins s σ H D I ⟨a,kvs,ea,q⟩
 refine thn (h pins s σ H _ I q) fun f s1 z=>?_
 cases f with
 | next=>
  obtain ⟨σ',H4,I4,⟨ob,e4⟩,q4⟩:=z
  exact ⟨σ',_,I4.thaw (I.noFrz ea) e4,q4⟩
 | brk=>exact z
 | cont=>exact z
 | ret u=>exact z
end
theorem runsR_vals {S:Hp→Hp→Prop} {a:Addr} {ob:Obj} {kvs:List (Key×V)} {H1:Hp} (hs :∀H,S H1 H→S H H) (hq :∀H,S H1 H→H a=some (.frz ob (.dK kvs))):RunsR S (Itv a ob kvs) H1 kvs.length (fun i v _=>∃k,kvs[i]? = some (k,v)):=
 ⟨fun i hi H s=>⟨hq H s,hi⟩,fun H s=>⟨hq H s,Nat.le_refl _⟩,fun i hi H v H' s y=>by
  obtain ⟨e,y⟩:=y
  subst e
  exact ⟨hs _ s,y⟩⟩
theorem seqT_retold {K:PySem.W.Frag} {H:Hp} {l c:Addr} {o:HO} {kvs:List (Key×V)} {xs:List V} (e:H l=some (.dK kvs)) (h:SqT K H c xs):SqT K (upd H l o) c xs:=by
 rcases h with (h|⟨ob,h⟩)|h
 ·exact .inl (.inl (by rw [upd_ne (ne_of h e (by intro z;cases z))];exact h))
 ·exact .inl (.inr ⟨ob,by rw [upd_ne (ne_of h e (by intro z;cases z))];exact h⟩)
 ·exact .inr h
theorem tcompV {K:PySem.W.Frag} {a:Addr} {kvs:List (Key×V)} {td te:TE} {tc:TT} {g:TG} {m:Nat} {fr:List (Nat×Str)} {σ:L2.St} {H:Hp} {Q:VK} (p:Nat→Bool) (R:Nat→V→Prop) (htd :∀R:VK,R (.ref a) H→td σ H R) (ea:H a=some (.dK kvs)) (hn:kvs.length≤sizeLine)
  (body :∀i k v,kvs[i]? = some (k,v)→∀H1,(∀c xs,SqT K H c xs→SqT K H1 c xs)→∀(KT:VK) (KF:Hp→Prop),(p i=true→∀y H',Same H1 H'→R i y→KT y H')→(p i=false→∀H',Same H1 H'→KF H')→
   g v (cStG σ fr (List.replicate m none)) H1 fun σ6 H6=>∃us,us.length=m∧σ6=cStG σ fr us∧tc (cStG σ fr us) H6 fun b H2=>if b=true then te (cStG σ fr us) H2 KT else KF H2)
  (hQ :∀l H' ys,Same H H'→H l=none→H' l=some (.lst ys)→All2 R ((List.range kvs.length).filter p) ys→Q (.ref l) H'):tThaw (tCompG (iVals td) m fr g tc te) σ H Q:=by
 refine ⟨a,kvs,ea,htd _ ⟨a,kvs,rfl,ea,fun ob=>?_⟩⟩
 have f0 :∀{H':Hp},Same (upd H a (.frz ob (.dK kvs))) H'→H' a=some (.frz ob (.dK kvs)):=fun s=>s _ _ upd_same
 refine compG_rel (S:=Same) (H1:=upd H a (.frz ob (.dK kvs))) (Q:=fun v H4=>(∃ob,H4 a=some (.frz ob (.dK kvs)))∧Q v (upd H4 a (.dK kvs))) (fr:=fr) (g:=g) (tc:=tc) (te:=te) (σ:=σ) (m:=m) (Same.refl _) (fun _ _ _ a b=>a.trans b) p (fun i y _=>R i y) (fun _ _ _ _ _ z=>z) (runsR_vals (S:=Same) (fun _ _=>Same.refl _) fun H s=>f0 s) hn (fun i hi v H1 s1 it KT KF h1 h2=>?_) fun l H' ys s' hl fa=>?_
 ·obtain ⟨k,hk⟩:=it
  exact body i k v hk H1 (fun c xs z=>s1.seqT (seqT_retold ea z)) KT KF h1 h2
 ·have nla:l≠a:=fun z=>by rw [z,f0 s'] at hl;cases hl
  refine ⟨⟨ob,by rw [upd_ne nla.symm];exact f0 s'⟩,hQ l _ ys (fun b o e=>?_) ?_ (by rw [upd_ne nla];exact upd_same) fa⟩
  ·by_cases z:b=a
   ·rw [z] at e⊢
    rw [ea] at e
    cases e
    exact upd_same
   ·have e2:H' b=some o:=s' b o (by rw [upd_ne z];exact e)
    rw [upd_ne z,upd_ne (fun y=>by rw [y,hl] at e2;cases e2)]
    exact e2
  ·cases hx:H l with
   | none=>rfl
   | some o=>
    have:=s' l o (by rw [upd_ne nla];exact hx)
    rw [hl] at this
    cases this
theorem seq_thaw {te:TE} {i:Nat} {rest:TS} {D:Ends} {σ:L2.St} {H:Hp} (h:tThaw te σ H fun x H1=>rest D (σ.set i (some x)) H1):tSeq (sThaw (tAsg te (gName i))) rest D σ H:=h
def TupI (h:Heap) (v:Value) (x:Int×Int):Prop:=∃(p:Addr) (o:Obj) (n:Nat) (t u:Tok),v=.ref p∧h.get? p=some o∧o.cls=.type "tuple"∧o.data=.seq #[.int x.1 t,.int x.2 u] n
def gtI (x y:Int×Int):Bool:=if x.1=y.1 then decide (y.2 < x.2) else decide (y.1 < x.1)
section
variable {prog:Program} {w:World} {A:Around} {E:Value→Shared→Prop} {s:Shared}
theorem tup_gt {v z:Value} {x y:Int×Int} {Q:Value→Shared→Prop} (hx:TupI s.heap v x) (hy:TupI s.heap z y) (hu:A.units < cLine) (h:Q (.bool (gtI x y)) s):wpAny (model prog w) A (richCompare .Gt v z) Q E s:=by
 obtain ⟨p,o,n,t,u,rfl,ho,hc,hd⟩:=hx
 obtain ⟨p2,o2,n2,t2,u2,rfl,ho2,hc2,hd2⟩:=hy
 refine wpAny_richCompare_same_room (op:=.Gt) (T:="tuple") ⟨o,ho,hc⟩ ⟨o2,ho2,hc2⟩ F.slot_tuple_gt (wpAny_call_entry F.slot_tuple_gt ⟨o,ho,hc⟩ F.entry_tuple_gt ?_ (F.args_tuple_gt_2 _ _)) hu
 refine (show wpAny _ _ (isInstance (.ref p2) (.type "tuple") >>= _) _ _ s from wpAny_bind (wpAny_isInstance (T:="tuple") ⟨o2,ho2,hc2⟩ isSubtype_tuple_tuple ?_))
 simp only [Bool.not_true,Bool.false_eq_true,if_false]
 refine wpAny_bind (wpAny_tupleItemsOf ho hd (wpAny_bind (wpAny_tupleItemsOf ho2 hd2 (wpAny_bind ?_))))
 simp only [List.zip_cons_cons,List.zip_nil_left,List.forIn_cons,List.forIn_nil]
 refine wpAny_bind (wpAny_bind ((intKind prog w).eqBool (a:=x.1) (b:=y.1) (intKind_is prog w _ _) (intKind_is prog w _ _) ?_))
 have gt :∀{i j:Int} {a b:Tok} {R:Value→Shared→Prop},R (.bool (decide (j < i))) s→wpAny (model prog w) A.in1 (richCompare .Gt (.int i a) (.int j b)) R E s:=fun q=>(show wpAny _ _ (compareOp .Gt _ _) _ _ _ from gt_int q)
 by_cases e1:x.1=y.1
 ·rw [decide_eq_true e1]
  simp only [Bool.not_true,Bool.false_eq_true,if_false]
  refine wpAny_pure (wpAny_bind (wpAny_bind ((intKind prog w).eqBool (a:=x.2) (b:=y.2) (intKind_is prog w _ _) (intKind_is prog w _ _) ?_)))
  unfold gtI at h
  rw [if_pos e1] at h
  by_cases e2:x.2=y.2
  ·rw [decide_eq_true e2]
   simp only [Bool.not_true,Bool.false_eq_true,if_false]
   rw [decide_eq_false (by omega)] at h
   exact wpAny_pure (wpAny_pure (wpAny_pure ⟨_,rfl,(fun z=>nomatch z),h⟩))
  ·rw [decide_eq_false e2]
   simp only [Bool.not_false,if_true]
   exact wpAny_bind (wpAny_rule (wpAny_bind (gt (wpAny_bind (wpAny_pure (wpAny_pure (wpAny_pure (wpAny_pure ⟨_,rfl,(fun z=>nomatch z),h⟩))))))))
 ·rw [decide_eq_false e1]
  simp only [Bool.not_false,if_true]
  unfold gtI at h
  rw [if_neg e1] at h
  exact wpAny_bind (wpAny_rule (wpAny_bind (gt (wpAny_bind (wpAny_pure (wpAny_pure (wpAny_pure (wpAny_pure ⟨_,rfl,(fun z=>nomatch z),h⟩))))))))
theorem TupI.kept {h h':Heap} {v:Value} {x:Int×Int} {c:Addr} {oc:Obj} (q:TupI h v x) (e:h.get? c=some oc) (nc:oc.cls≠.type "tuple") (k :∀b o,b≠c→h.get? b=some o→h'.get? b=some o):TupI h' v x:=by
 obtain ⟨p,o,n,t,u,rfl,ho,hc,hd⟩:=q
 exact ⟨p,o,n,t,u,rfl,k p o (fun z=>by rw [z,e] at ho;cases ho;exact nc hc) ho,hc,hd⟩
def bestI (m:Value×(Int×Int)):List (Value×(Int×Int))→Value×(Int×Int)
 | []=>m
 | x :: r=>bestI (if gtI x.2 m.2=true then x else m) r
theorem max_loopT {I l S:Addr} {its:Array Value} (nl:l≠I) (ns:S≠I) (nsl:l≠S) :∀(xs:List (Value×(Int×Int))) (k c:Nat) (m:Value×(Int×Int)) (A:Around) (R:Result→Shared→Prop) (s:Shared),A.handled=none→A.units + 1 < cLine→s.heap.IsListIter I l k→s.heap.IsList l its→its.toList.drop k=xs.map (·.1)→
  s.heap.get? S=some { cls:=.type "list",dict:=none,data:=.seq #[m.1,m.1] c,slots:=#[] }→TupI s.heap m.1 m.2→(∀x∈xs,TupI s.heap x.1 x.2)→
  (∀h' tk,(∀b o,b≠I→b≠S→s.heap.get? b=some o→h'.get? b=some o)→R (.ok (.ret (bestI m xs).1)) { s with heap:=h',toks:=tk })→
  codeAny (model prog w) A (.builtin "max.loop" ⟨[.ref I,.none,.ref S],[]⟩) R s
 | [],k,c,m,A,R,s,hh,hu,hI,hl,hd,hS,hm,hx,q=>by
  have hn:its[k]? = none:=by
   have:=List.drop_eq_nil_iff.mp hd
   rw [Array.length_toList] at this
   exact Array.getElem?_eq_none this
  refine codeAny_builtin F.entry_max_loop ?_
  rw [Around.under_plainId F.plain_max_loop _]
  refine (show wpAny _ A.in1 (seqItems? (.ref S) >>= _) _ _ s from wpAny_bind (wpAny_seqItems hS rfl ?_))
  refine (show wpAny _ A.in1 (tryCatch (pyNext (.ref I)) _ >>= _) _ _ s from wpAny_bind (wpAny_tryCatch (wpAny_pyNext_list_end (show A.in1.handled=none from hh) hI hl hn fun h' eb=>?_)))
  have hS':=eb S _ ns hS
  refine (show wpAny _ A.in1 (updateSeq S (fun _=>#[]) >>= _) _ _ _ from wpAny_bind (wpAny_updateSeq hS' rfl (wpAny_bind (wpAny_letGo (wpAny_pure ?_)))))
  exact q _ _ fun b o n1 n2 e=>(Heap.get?_update_other _ _ (Ne.symm n2)).trans (eb b o n1 e)
 | x :: xs,k,c,m,A,R,s,hh,hu,hI,hl,hd,hS,hm,hx,q=>by
  have hk:its.toList[k]? = some x.1:=by
   have:=congrArg (fun z=>z[0]?) hd
   simpa using this
  have hk:its[k]? = some x.1:=by simpa using hk
  have hd1:its.toList.drop (k + 1)=xs.map (·.1):=by
   have:=congrArg List.tail hd
   simpa using this
  have hname:(toString "max"++toString ".loop" : String) = "max.loop":=by decide
  obtain ⟨oI,eI,cI,_⟩:=id hI
  have nI:oI.cls≠.type "tuple":=by rw [cI];decide
  refine codeAny_builtin F.entry_max_loop ?_
  rw [Around.under_plainId F.plain_max_loop _]
  refine (show wpAny _ A.in1 (seqItems? (.ref S) >>= _) _ _ s from wpAny_bind (wpAny_seqItems hS rfl ?_))
  refine (show wpAny _ A.in1 (tryCatch (pyNext (.ref I)) _ >>= _) _ _ s from wpAny_bind (wpAny_tryCatch (wpAny_pyNext_list_item hI hl hk fun h' I' sb=>?_)))
  have k1 :∀b o,b≠I→s.heap.get? b=some o→h'.get? b=some o:=fun b o n e=>(sb.2 b n).trans e
  have hS':=k1 S _ ns hS
  have hl':h'.IsList l its:=hl.elim fun o z=>⟨o,k1 l o nl z.1,z.2⟩
  have hm':TupI h' m.1 m.2:=hm.kept eI nI k1
  have hx' :∀y∈x :: xs,TupI h' y.1 y.2:=fun y hy=>(hx y hy).kept eI nI k1
  refine (show wpAny _ A.in1 (tryCatch (holding [x.1,x.1] (richCompare .Gt x.1 m.1 >>= _)) _ >>= _) _ _ _ from wpAny_bind (wpAny_tryCatch (wpAny_holding (wpAny_bind (tup_gt (s:={ s with heap:=h' }) (hx' x (.head _)) hm' (by simpa using hu) (wpAny_bind (wpAny_holding (wpAny_truthy_bool (wpAny_bind (wpAny_letGo (wpAny_pure ?_)))))))))))
  have eb:bestI m (x :: xs)=bestI (if gtI x.2 m.2=true then x else m) xs:=rfl
  cases hg:gtI x.2 m.2 with
  | true=>
   rw [hg,if_pos rfl] at eb
   simp only [if_true]
   refine wpAny_bind (wpAny_updateSeq hS' rfl (wpAny_bind (wpAny_letGo ?_)))
   rw [hname]
   have k2 :∀b o,b≠S→h'.get? b=some o→(h'.update S (Obj.mapSeq fun _=>#[x.1,x.1])).get? b=some o:=fun b o n e=>(Heap.get?_update_other _ _ (Ne.symm n)).trans e
   refine wpAny_pure ⟨plainId_quiet F.plain_max_loop _,max_loopT nl ns nsl xs (k + 1) _ x A R { s with heap:=h'.update S (Obj.mapSeq fun _=>#[x.1,x.1]) } hh hu (I'.elim fun o z=>⟨o,k2 I o (Ne.symm ns) z.1,z.2⟩) (hl'.elim fun o z=>⟨o,k2 l o nsl z.1,z.2⟩) hd1 (Heap.get?_update_self _ hS' rfl) ((hx' x (.head _)).kept hS' (show Value.type "list"≠.type "tuple" by decide) k2) (fun y hy=>(hx' y (.tail _ hy)).kept hS' (show Value.type "list"≠.type "tuple" by decide) k2) fun h'' tk kk=>?_⟩
   rw [←eb]
   exact q h'' tk fun b o n1 n2 e=>kk b o n1 n2 (k2 b o n2 (k1 b o n1 e))
  | false=>
   rw [hg,if_neg (by decide)] at eb
   simp only [Bool.false_eq_true,if_false]
   refine wpAny_bind (wpAny_letGo ?_)
   rw [hname]
   refine wpAny_pure ⟨plainId_quiet F.plain_max_loop _,max_loopT nl ns nsl xs (k + 1) c m A R { s with heap:=h' } hh hu I' hl' hd1 hS' hm' (fun y hy=>hx' y (.tail _ hy)) fun h'' tk kk=>?_⟩
   rw [←eb]
   exact q h'' tk fun b o n1 n2 e=>kk b o n1 n2 (k1 b o n1 e)
theorem max_callT {l:Addr} {its:Array Value} {m:Value×(Int×Int)} {xs:List (Value×(Int×Int))} {Q:Value→Shared→Prop} (hh:A.handled=none) (hu:A.units + 1 < cLine) (hl:s.heap.IsList l its) (hi:its.toList=(m :: xs).map (·.1)) (ht :∀x∈m :: xs,TupI s.heap x.1 x.2)
  (q :∀h' tk,(∀b o,s.heap.get? b=some o→h'.get? b=some o)→Q (bestI m xs).1 { s with heap:=h',toks:=tk }):wpAny (model prog w) A (call (.builtin "max") [.ref l]) Q E s:=by
 have hname:(toString "max"++toString ".loop" : String) = "max.loop":=by decide
 refine call_function_tree F.kind_max F.plain_max F.entry_max (F.args_max1 _) ?_
 refine (show wpAny _ A.in1 (Builtin.Builtins.bindParams "max" ["key","default"] 0 ⟨[],[]⟩ >>= _) _ _ s from wpAny_bind (wpAny_of_eq (show Builtin.Builtins.bindParams "max" ["key","default"] 0 ⟨[],[]⟩=pure [none,none] from rfl) (wpAny_bind (wpAny_pure ?_))))
 refine wpAny_bind (wpAny_pyIter_list hl ?_)
 refine wpAny_bind (wpAny_newObj_type ?_)
 rw [hname]
 dsimp only
 generalize hI0:s.heap.push { cls:=.type "list_iterator",data:=.fields #[.ref l,.int 0 0] }=h1
 have e1:h1.get? s.heap.objs.size=some { cls:=.type "list_iterator",data:=.fields #[.ref l,.int 0 0] }:=by rw [←hI0];exact Heap.get?_push_size _ rfl
 have z1:h1.objs.size=s.heap.objs.size + 1:=by rw [←hI0];exact Heap.size_push _ _
 have k1 :∀b o,s.heap.get? b=some o→h1.get? b=some o:=fun b o e=>by rw [←hI0];exact Heap.get?_push_of_some _ e
 generalize hS0:h1.push { cls:=.type "list",data:=.seq #[] }=h2
 have eS:h2.get? h1.objs.size=some { cls:=.type "list",data:=.seq #[] }:=by rw [←hS0];exact Heap.get?_push_size _ rfl
 have k2 :∀b o,h1.get? b=some o→h2.get? b=some o:=fun b o e=>by rw [←hS0];exact Heap.get?_push_of_some _ e
 have ll:l < s.heap.objs.size:=hl.elim fun o z=>Heap.lt_size z.1
 generalize hI:s.heap.objs.size=I at e1 z1 ll
 generalize hSS:h1.objs.size=S at eS z1
 have nsi:S≠I:=by omega
 have nl:l≠I:=Nat.ne_of_lt ll
 have nls:l≠S:=Nat.ne_of_lt (by rw [z1];exact Nat.lt_succ_of_lt ll)
 have ht2 :∀x∈m :: xs,TupI h2 x.1 x.2:=fun x hx=>by
  obtain ⟨p,o,n,t,u,e,ho,r⟩:=ht x hx
  exact ⟨p,o,n,t,u,e,k2 _ _ (k1 _ _ ho),r⟩
 refine wpAny_pure ⟨plainId_quiet F.plain_max_loop _,codeAny_builtin F.entry_max_loop ?_⟩
 rw [Around.under_plainId F.plain_max_loop _]
 refine (show wpAny _ A.in1 (seqItems? (.ref S) >>= _) _ _ _ from wpAny_bind (wpAny_seqItems eS rfl ?_))
 have hk:its[0]? = some m.1:=by
  have:=congrArg (fun z=>z[0]?) hi
  simpa using this
 refine (show wpAny _ A.in1 (tryCatch (pyNext (.ref I)) _ >>= _) _ _ _ from wpAny_bind (wpAny_tryCatch (wpAny_pyNext_list_item (l:=l) ⟨_,k2 _ _ e1,rfl,rfl⟩ (hl.elim fun o z=>⟨o,k2 _ _ (k1 _ _ z.1),z.2⟩) hk fun h3 I3 sb=>?_)))
 have k3 :∀b o,b≠I→h2.get? b=some o→h3.get? b=some o:=fun b o n e=>(sb.2 b n).trans e
 have eS3:=k3 S _ nsi eS
 refine (show wpAny _ A.in1 (updateSeq S (fun _=>#[m.1,m.1]) >>= _) _ _ _ from wpAny_bind (wpAny_updateSeq eS3 rfl ?_))
 rw [hname]
 have k4 :∀b o,b≠S→h3.get? b=some o→(h3.update S (Obj.mapSeq fun _=>#[m.1,m.1])).get? b=some o:=fun b o n e=>(Heap.get?_update_other _ _ (Ne.symm n)).trans e
 have ht4 :∀x∈m :: xs,TupI (h3.update S (Obj.mapSeq fun _=>#[m.1,m.1])) x.1 x.2:=fun x hx=>((ht2 x hx).kept (k2 _ _ e1) (show Value.type "list_iterator"≠.type "tuple" by decide) k3).kept eS3 (show Value.type "list"≠.type "tuple" by decide) k4
 refine wpAny_pure ⟨plainId_quiet F.plain_max_loop _,max_loopT nl nsi nls xs 1 _ m A _ { s with heap:=h3.update S (Obj.mapSeq fun _=>#[m.1,m.1]) } hh hu (I3.elim fun o z=>⟨o,k4 I o (Ne.symm nsi) z.1,z.2⟩) (hl.elim fun o z=>⟨o,k4 l o nls (k3 _ _ nl (k2 _ _ (k1 _ _ z.1))),z.2⟩) ?_ (Heap.get?_update_self _ eS3 rfl) (ht4 m (.head _)) (fun x hx=>ht4 x (.tail _ hx)) fun h' tk kk=>?_⟩
 ·rw [hi];rfl
 ·refine q h' tk fun b o e=>?_
  have lb:b < I:=by rw [←hI];exact Heap.lt_size e
  have n1:b≠I:=Nat.ne_of_lt lb
  have n2:b≠S:=Nat.ne_of_lt (by rw [z1];exact Nat.lt_succ_of_lt lb)
  exact kk b o n1 n2 (k4 _ _ n2 (k3 _ _ n1 (k2 _ _ (k1 _ _ e))))
end
section
variable {X:Cx}
theorem gtI_iff {x y:Int×Int}:gtI x y=true↔y.1 < x.1∨(x.1=y.1∧y.2 < x.2):=by
 unfold gtI
 by_cases e:x.1=y.1
 ·rw [if_pos e,decide_eq_true_iff];omega
 ·rw [if_neg e,decide_eq_true_iff];omega
theorem bestI_in :∀(xs:List (Value×(Int×Int))) (m:Value×(Int×Int)),bestI m xs∈m :: xs∧∀x∈m :: xs,gtI x.2 (bestI m xs).2=false
 | [],m=>⟨.head _,fun x hx=>by rw [List.mem_singleton.mp hx];exact Bool.eq_false_iff.mpr fun z=>by have:m.2.1 < m.2.1∨(m.2.1=m.2.1∧m.2.2 < m.2.2):=gtI_iff.mp z;omega⟩
 | y :: xs,m=>by
  show bestI (if gtI y.2 m.2=true then y else m) xs∈m :: y :: xs∧∀x∈m :: y :: xs,gtI x.2 (bestI (if gtI y.2 m.2=true then y else m) xs).2=false
  by_cases z:gtI y.2 m.2=true
  ·rw [if_pos z]
   obtain ⟨h1,h2⟩:=bestI_in xs y
   refine ⟨.tail _ h1,fun x hx=>?_⟩
   rcases List.mem_cons.mp hx with e|hx
   ·have a:=h2 y (.head _)
    rw [e]
    refine Bool.eq_false_iff.mpr fun b=>Bool.eq_false_iff.mp a ?_
    have b:=gtI_iff.mp b
    have c:=gtI_iff.mp z
    exact gtI_iff.mpr (by omega)
   ·exact h2 x hx
  ·rw [if_neg z]
   obtain ⟨h1,h2⟩:=bestI_in xs m
   refine ⟨?_,fun x hx=>?_⟩
   ·rcases List.mem_cons.mp h1 with e|e
    ·rw [e];exact .head _
    ·exact .tail _ (.tail _ e)
   ·rcases List.mem_cons.mp hx with e|hx
    ·rw [e];exact h2 m (.head _)
    ·rcases List.mem_cons.mp hx with e|hx
     ·have a:=h2 m (.head _)
      rw [e]
      refine Bool.eq_false_iff.mpr fun b=>Bool.eq_false_iff.mp a ?_
      have b:=gtI_iff.mp b
      have c:¬ _:=fun c=>z (gtI_iff.mpr c)
      exact gtI_iff.mpr (by omega)
     ·exact h2 x (.tail _ hx)
theorem call_maxT (hcalm:X.calm=true) {k:Nat} (hr:Room k X.A):CallR X (.builtin "max") (fun xs H Q=>∃(l:Addr) (m:Addr×(Int×Int)) (r:List (Addr×(Int×Int))),xs=[.ref l]∧SqL X.K H l ((m :: r).map fun x=>V.ref x.1)∧(∀x∈m :: r,SqT X.K H x.1 [.int x.2.1,.int x.2.2])∧
  ∀b,(b∈m :: r)→(∀x∈m :: r,gtI x.2 b.2=false)→Q (.ref b.1) H):=by
 intro pins s σ H xs us Q I rv h
 obtain ⟨l,m,r,rfl,sq,st,q⟩:=h
 obtain ⟨u,rfl,rx⟩:=vals1 rv
 cases rx
 obtain ⟨its,ri,pl,hz⟩:=I.list sq
 have hi:its.toArray.toList=(((Value.ref m.1,m.2) :: r.map fun x=>(Value.ref x.1,x.2)):List (Value×(Int×Int))).map (·.1):=by
  have go :∀(ys:List (Addr×(Int×Int))) (us:List Value),Vals (ys.map fun x=>V.ref x.1) us→us=(ys.map fun x=>(Value.ref x.1,x.2)).map (·.1):=by
   intro ys
   induction ys with
   | nil=>intro us h;cases h;rfl
   | cons y ys ih=>
    intro us h
    cases h with
    | cons a b=>
     cases (show _=Value.ref y.1 from a)
     rw [List.map_cons,List.map_cons,←ih _ b]
  simpa using go (m :: r) its ri
 have ht :∀x∈(((Value.ref m.1,m.2) :: r.map fun x=>(Value.ref x.1,x.2)):List (Value×(Int×Int))),TupI s.heap x.1 x.2:=fun x hx=>by
  obtain ⟨y,hy,rfl⟩ :∃y∈m :: r,x=(Value.ref y.1,y.2):=by
   rcases List.mem_cons.mp hx with e|hx
   ·exact ⟨m,.head _,e⟩
   ·obtain ⟨y,hy,e⟩:=List.mem_map.mp hx
    exact ⟨y,.tail _ hy,e.symm⟩
  obtain ⟨js,rj,⟨o,ho,hc,n,hd⟩,_⟩:=I.tuple (st y hy)
  obtain ⟨u1,u2,rfl,r1,r2⟩:=vals2 rj
  obtain ⟨t1,rfl⟩:=r1
  obtain ⟨t2,rfl⟩:=r2
  exact ⟨y.1,o,n,t1,t2,rfl,ho,hc,hd⟩
 refine max_callT (I.ok.hd hcalm) (hu_of hr) pl.isList hi ht fun h' tk k=>?_
 obtain ⟨b1,b2⟩:=bestI_in (r.map fun x=>(Value.ref x.1,x.2)) (Value.ref m.1,m.2)
 obtain ⟨y,hy,ey⟩ :∃y∈m :: r,bestI (Value.ref m.1,m.2) (r.map fun x=>(Value.ref x.1,x.2))=(Value.ref y.1,y.2):=by
  rcases List.mem_cons.mp b1 with e|hx
  ·exact ⟨m,.head _,e⟩
  ·obtain ⟨y,hy,e⟩:=List.mem_map.mp hx
   exact ⟨y,.tail _ hy,e.symm⟩
 rw [ey] at b2⊢
 refine ⟨.ref y.1,H,I.kept (t':=tk) k,rfl,q y hy fun x hx=>?_⟩
 rcases List.mem_cons.mp hx with e|hx
 ·rw [e];exact b2 _ (.head _)
 ·exact b2 (Value.ref x.1,x.2) (.tail _ (List.mem_map.mpr ⟨x,hx,rfl⟩))
end
def kasRun {α:Type} (c:Nat→Nat→Bool) (n:Nat):PySem.W.KasT α→Option α
 | .ret a=>some a
 | .ask i j k=>if i < n∧j < n∧i≠j then kasRun c n (k (c i j)) else none
theorem kasRun_wp {α:Type} {c:Nat→Nat→Bool} {n:Nat} {cmp:Nat→Nat→(Bool→Shared→Prop)→Shared→Prop} {s:Shared} {Q:α→Shared→Prop} (hc :∀i j C,i < n→j < n→i≠j→C (c i j) s→cmp i j C s) :∀(t:PySem.W.KasT α) (a:α),kasRun c n t=some a→Q a s→t.kasWp cmp Q s
 | .ret b,a,h,q=>by cases h;exact q
 | .ask i j k,a,h,q=>by
  unfold kasRun at h
  by_cases z:i < n∧j < n∧i≠j
  ·rw [if_pos z] at h
   exact hc i j _ z.1 z.2.1 z.2.2 (kasRun_wp hc (k (c i j)) a h q)
  ·rw [if_neg z] at h;cases h
theorem kasRun_congr {α:Type} {c d:Nat→Nat→Bool} {n:Nat} (h :∀i j,i < n→j < n→c i j=d i j) :∀t:PySem.W.KasT α,kasRun c n t=kasRun d n t
 | .ret _=>rfl
 | .ask i j k=>by
  unfold kasRun
  by_cases z:i < n∧j < n∧i≠j
  ·rw [if_pos z,if_pos z,h i j z.1 z.2.1];exact kasRun_congr h _
  ·rw [if_neg z,if_neg z]
def allPerms:Nat→List Nat→List (List Nat)
 | 0,_=>[[]]
 | n + 1,l=>l.flatMap fun x=>(allPerms n (l.erase x)).map (x :: ·)
def goodPerm (n:Nat) (r:List Nat):Bool:=match kasRun (fun i j=>decide (r.getD i 0 < r.getD j 0)) n (PySem.W.kas_sort n) with
 | some p=>(p.toList.map (fun i=>r.getD i 0) == List.range n) && p.toList.isPerm (List.range n)
 | none=>false
theorem good2:(allPerms 2 (List.range 2)).all (goodPerm 2)=true:=by decide +kernel
theorem good3:(allPerms 3 (List.range 3)).all (goodPerm 3)=true:=by decide +kernel
theorem good4:(allPerms 4 (List.range 4)).all (goodPerm 4)=true:=by decide +kernel
theorem good5:(allPerms 5 (List.range 5)).all (goodPerm 5)=true:=by decide +kernel
theorem good6:(allPerms 6 (List.range 6)).all (goodPerm 6)=true:=by decide +kernel
theorem goodAll :∀n,2≤n→n≤6→(allPerms n (List.range n)).all (goodPerm n)=true
 | 2,_,_=>good2
 | 3,_,_=>good3
 | 4,_,_=>good4
 | 5,_,_=>good5
 | 6,_,_=>good6
 | 0,h,_=>absurd h (by decide)
 | 1,h,_=>absurd h (by decide)
 | n + 7,_,h=>absurd h (by omega)
theorem perms_all :∀(r l:List Nat),r.Nodup→(∀x∈r,x∈l)→r∈allPerms r.length l
 | [],l,_,_=>List.mem_singleton.mpr rfl
 | x :: r,l,nd,h=>by
  rw [List.nodup_cons] at nd
  refine List.mem_flatMap.mpr ⟨x,h x (.head _),List.mem_map.mpr ⟨r,perms_all r (l.erase x) nd.2 fun y hy=>?_,rfl⟩⟩
  exact (List.mem_erase_of_ne (show y≠x from fun e=>nd.1 (e ▸ hy))).mpr (h y (.tail _ hy))
def ltS (a b:Str):Bool:=decide (a.cps.toList < b.cps.toList)
theorem ltS_irrefl (a:Str):ltS a a=false:=decide_eq_false (List.lt_irrefl _)
theorem ltS_trans {a b c:Str} (h:ltS a b=true) (k:ltS b c=true):ltS a c=true:=decide_eq_true (List.lt_trans (of_decide_eq_true h) (of_decide_eq_true k))
theorem ltS_tri {a b:Str} (h:ltS a b=false) (k:ltS b a=false):a=b:=by
 have e:a.cps.toList=b.cps.toList:=List.le_antisymm (List.not_lt.mp (of_decide_eq_false k)) (List.not_lt.mp (of_decide_eq_false h))
 cases a;cases b
 congr
 exact Array.toList_inj.mp e
def rkS (ks:List Str) (z:Str):Nat:=(ks.filter fun x=>ltS x z).length
theorem filter_len_le {α:Type} {p q:α→Bool} :∀{l:List α},(∀x∈l,p x=true→q x=true)→(l.filter p).length≤(l.filter q).length
 | [],_=>Nat.le_refl _
 | x :: l,h=>by
  have ih:=filter_len_le (l:=l) fun y hy=>h y (.tail _ hy)
  cases hp:p x with
  | true=>rw [List.filter_cons_of_pos hp,List.filter_cons_of_pos (h x (.head _) hp)];exact Nat.succ_le_succ ih
  | false=>
   rw [List.filter_cons_of_neg (by rw [hp];decide)]
   cases hq:q x with
   | true=>rw [List.filter_cons_of_pos hq];exact Nat.le_succ_of_le ih
   | false=>rw [List.filter_cons_of_neg (by rw [hq];decide)];exact ih
theorem filter_len_lt {α:Type} {p q:α→Bool} {y:α} :∀{l:List α},(∀x∈l,p x=true→q x=true)→y∈l→p y=false→q y=true→(l.filter p).length < (l.filter q).length
 | [],_,h,_,_=>absurd h List.not_mem_nil
 | x :: l,h,hy,hp,hq=>by
  rcases List.mem_cons.mp hy with rfl|hy
  ·rw [List.filter_cons_of_neg (by rw [hp];decide),List.filter_cons_of_pos hq]
   exact Nat.lt_succ_of_le (filter_len_le fun z hz=>h z (.tail _ hz))
  ·have ih:=filter_len_lt (l:=l) (fun z hz=>h z (.tail _ hz)) hy hp hq
   cases hpx:p x with
   | true=>rw [List.filter_cons_of_pos hpx,List.filter_cons_of_pos (h x (.head _) hpx)];exact Nat.succ_lt_succ ih
   | false=>
    rw [List.filter_cons_of_neg (by rw [hpx];decide)]
    cases hqx:q x with
    | true=>rw [List.filter_cons_of_pos hqx];exact Nat.lt_succ_of_lt ih
    | false=>rw [List.filter_cons_of_neg (by rw [hqx];decide)];exact ih
theorem rk_lt {ks:List Str} {a b:Str} (ha:a∈ks) (h:ltS a b=true):rkS ks a < rkS ks b:=filter_len_lt (fun x _ z=>ltS_trans z h) ha (ltS_irrefl a) h
theorem rk_iff {ks:List Str} {a b:Str} (ha:a∈ks) (hb:b∈ks):ltS a b=decide (rkS ks a < rkS ks b):=by
 cases h:ltS a b with
 | true=>exact (decide_eq_true (rk_lt ha h)).symm
 | false=>
  refine (decide_eq_false fun z=>?_).symm
  cases k:ltS b a with
  | true=>have:=rk_lt hb k;omega
  | false=>rw [ltS_tri h k] at z;exact Nat.lt_irrefl _ z
theorem rk_inj {ks:List Str} {a b:Str} (ha:a∈ks) (hb:b∈ks) (e:rkS ks a=rkS ks b):a=b:=ltS_tri (by rw [rk_iff ha hb];exact decide_eq_false (by omega)) (by rw [rk_iff hb ha];exact decide_eq_false (by omega))
theorem rk_bound {ks:List Str} {a:Str} (ha:a∈ks):rkS ks a < ks.length:=by
 have h:=filter_len_lt (l:=ks) (p:=fun x=>ltS x a) (q:=fun _=>true) (fun _ _ _=>rfl) ha (ltS_irrefl a) rfl
 rw [List.filter_eq_self.mpr (fun _ _=>rfl)] at h
 exact h
theorem nodup_map_on {α β:Type} {f:α→β} :∀{l:List α},(∀a∈l,∀b∈l,f a=f b→a=b)→l.Nodup→(l.map f).Nodup
 | [],_,_=>.nil
 | x :: l,h,nd=>by
  rw [List.nodup_cons] at nd
  rw [List.map_cons,List.nodup_cons]
  refine ⟨fun z=>?_,nodup_map_on (fun a ha b hb=>h a (.tail _ ha) b (.tail _ hb)) nd.2⟩
  obtain ⟨y,hy,e⟩:=List.mem_map.mp z
  exact nd.1 (h x (.head _) y (.tail _ hy) e.symm ▸ hy)
theorem kas_texts {ks:List Str} (nd:ks.Nodup) (h2:2≤ks.length) (h6:ks.length≤6) :∃p:Array Nat,kasRun (fun i j=>ltS (ks.getD i "") (ks.getD j "")) ks.length (PySem.W.kas_sort ks.length)=some p∧p.toList.Perm (List.range ks.length)∧(p.toList.map fun i=>ks.getD i "").Pairwise fun x y=>ltS x y=true:=by
 have gD :∀i,i < ks.length→ks.getD i ""∈ks:=fun i hi=>by
  rw [List.getD_eq_getElem?_getD,List.getElem?_eq_getElem hi]
  exact List.getElem_mem hi
 have rl:(ks.map (rkS ks)).length=ks.length:=List.length_map ..
 have rD :∀i,i < ks.length→(ks.map (rkS ks)).getD i 0=rkS ks (ks.getD i ""):=fun i hi=>by
  rw [List.getD_eq_getElem?_getD,List.getD_eq_getElem?_getD,List.getElem?_map,List.getElem?_eq_getElem hi]
  rfl
 have mem:ks.map (rkS ks)∈allPerms ks.length (List.range ks.length):=by
  have:=perms_all (ks.map (rkS ks)) (List.range ks.length) (nodup_map_on (fun a ha b hb e=>rk_inj ha hb e) nd) fun x hx=>by
   obtain ⟨a,ha,rfl⟩:=List.mem_map.mp hx
   exact List.mem_range.mpr (rk_bound ha)
  rwa [rl] at this
 have good:=List.all_eq_true.mp (goodAll _ h2 h6) _ mem
 unfold goodPerm at good
 have cg:=kasRun_congr (c:=fun i j=>ltS (ks.getD i "") (ks.getD j "")) (d:=fun i j=>decide ((ks.map (rkS ks)).getD i 0 < (ks.map (rkS ks)).getD j 0)) (n:=ks.length) (fun i j hi hj=>by rw [rD i hi,rD j hj];exact rk_iff (gD i hi) (gD j hj)) (PySem.W.kas_sort ks.length)
 rw [cg]
 cases hk:kasRun (fun i j=>decide ((ks.map (rkS ks)).getD i 0 < (ks.map (rkS ks)).getD j 0)) ks.length (PySem.W.kas_sort ks.length) with
 | none=>rw [hk] at good;cases good
 | some p=>
  rw [hk] at good
  obtain ⟨g1,g2⟩:=Bool.and_eq_true_iff.mp good
  have g1:=eq_of_beq g1
  have g2:=List.isPerm_iff.mp g2
  refine ⟨p,rfl,g2,?_⟩
  rw [List.pairwise_map]
  have pw:(p.toList.map fun i=>(ks.map (rkS ks)).getD i 0).Pairwise (· < ·):=by rw [g1];exact List.pairwise_lt_range
  rw [List.pairwise_map] at pw
  refine pw.imp_of_mem fun {a b} ha hb z=>?_
  have ha:=List.mem_range.mp (g2.mem_iff.mp ha)
  have hb:=List.mem_range.mp (g2.mem_iff.mp hb)
  rw [rD a ha,rD b hb] at z
  rw [rk_iff (gD a ha) (gD b hb)]
  exact decide_eq_true z
def TupS (h:Heap) (v:Value) (k:Str):Prop:=∃(p:Addr) (o:Obj) (xs:Array Value) (n:Nat) (t:Tok),v=.ref p∧h.get? p=some o∧o.cls=.type "tuple"∧o.data=.seq xs n∧xs[0]? = some (.str k t)
theorem TupS.kept {h h':Heap} {v:Value} {x:Str} {c:Addr} {oc:Obj} (q:TupS h v x) (e:h.get? c=some oc) (nc:oc.cls≠.type "tuple") (k :∀b o,b≠c→h.get? b=some o→h'.get? b=some o):TupS h' v x:=by
 obtain ⟨p,o,xs,n,t,rfl,ho,hc,hd⟩:=q
 exact ⟨p,o,xs,n,t,rfl,k p o (fun z=>by rw [z,e] at ho;cases ho;exact nc hc) ho,hc,hd⟩
section
variable {prog:Program} {w:World} {A:Around} {E:Value→Shared→Prop} {s:Shared}
theorem tupS_lt {v z:Value} {x y:Str} {Q:Bool→Shared→Prop} (hx:TupS s.heap v x) (hy:TupS s.heap z y) (ne:x≠y) (h:Q (ltS x y) s):wpAny (model prog w) A (keyLt' (tuples' true) v z) Q E s:=by
  obtain ⟨p,o,xs,n,t,rfl,ho,hc,hd,h0⟩:=hx
  obtain ⟨p2,o2,ys,n2,t2,rfl,ho2,hc2,hd2,h1⟩:=hy
  have ex :∃r,xs.toList=.str x t :: r:=by
    cases hl:xs.toList with
    | nil => have : xs.toList[0]? = some (.str x t) := by simpa using h0
             rw [hl] at this;cases this
    | cons a r => have : xs.toList[0]? = some (.str x t) := by simpa using h0
                  rw [hl] at this;cases this;exact ⟨r,rfl⟩
  have ey :∃r,ys.toList=.str y t2 :: r:=by
    cases hl:ys.toList with
    | nil => have : ys.toList[0]? = some (.str y t2) := by simpa using h1
             rw [hl] at this;cases this
    | cons a r => have : ys.toList[0]? = some (.str y t2) := by simpa using h1
                  rw [hl] at this;cases this;exact ⟨r,rfl⟩
  obtain ⟨r1,e1⟩:=ex
  obtain ⟨r2,e2⟩:=ey
  refine PySem.W.kat_lt ho hd ho2 hd2 ?_
  rw [e1,e2,List.zip_cons_cons]
  refine PySem.W.kat_cons ((mixKind prog w).eqBool (a:=.inr x) (b:=.inr y) (kV_is (k:=.inr x) (show RelV (kV (.inr x)) (.str x t) from ⟨t,rfl⟩)) (kV_is (k:=.inr y) (show RelV (kV (.inr y)) (.str y t2) from ⟨t2,rfl⟩)) ?_)
  rw [decide_eq_false (fun e=>ne (Sum.inr.inj e))]
  exact PySem.W.kat_no (oneLt_str h)
theorem katTups_of {h:Heap} :∀{vs:List Value} {ks:List Str},All2 (fun v k=>TupS h v k) vs ks→∃fs,PySem.W.KatTups h vs fs∧fs.length=vs.length∧∀f∈fs,∃k t,f=Value.str k t
 | _,_,.nil=>⟨[],trivial,rfl,fun _ h=>absurd h List.not_mem_nil⟩
 | _,_,.cons a r=>by
  obtain ⟨fs,h1,h2,h3⟩:=katTups_of r
  obtain ⟨p,o,xs,n,t,rfl,ho,hc,hd,h0⟩:=a
  exact ⟨_ :: fs,PySem.W.KatTups.cons ho hc hd h0 h1,by rw [List.length_cons,List.length_cons,h2],fun f hf=>(List.mem_cons.mp hf).elim (fun e=>⟨_,_,e⟩) (h3 f)⟩
theorem tup_sort {a:Addr} {vs:List Value} {ks:List Str} {n0:Nat} {P:PySem.Fin→Shared→Prop} (ho:s.heap.get? a=some (seqObj "list" vs.toArray n0)) (l6:vs.length≤6) (al:All2 (fun v k=>TupS s.heap v k) vs ks) (nd:ks.Nodup)
  (h :∀(p:List Nat) (h':Heap) (e:Nat),p.Perm (List.range vs.length)→(p.map fun i=>ks.getD i "").Pairwise (fun x y=>ltS x y=true)→(∀b o,b≠a→s.heap.get? b=some o→h'.get? b=some o)→h'.get? a=some (seqObj "list" (p.map fun i=>vs.getD i Value.none).toArray e)→P (.done (.ret .none)) { s with heap:=h' }) :
  wpAny (model prog w) A (Builtin.«list.sort» ⟨[.ref a],[]⟩) P E s:=by
 have lk:ks.length=vs.length:=forall2_len al
 have la:a < s.heap.objs.size:=Heap.lt_size ho
 have sz:vs.length≤sizeLine:=Nat.le_trans l6 (by decide)
 obtain ⟨e1,o1⟩ :∃e1,(s.heap.update a (Obj.mapSeq fun _=>(#[]:Array Value))).get? a=some (seqObj "list" #[] e1):=⟨_,get?_update_seq ho fun _=>#[]⟩
 rw [list_sort_plain]
 refine wpAny_bind (listItems_at ho rfl (wpAny_bind (listUpdate_at ho rfl (wpAny_bind (seqEpoch_at o1 rfl (wpAny_bind (wpAny_newTuple (wpAny_bind (wpAny_newList (wpAny_holding ?_) (Nat.zero_le _))) (by simpa using sz))))) (by simpa using sz) (Nat.zero_le _))))
 dsimp only
 generalize hh3:((s.heap.update a (Obj.mapSeq fun _=>(#[]:Array Value))).push (seqObj "tuple" vs.toArray 0)).push (seqObj "list" #[] 0)=h3
 have s1:=Heap.SameBut.update s.heap a (Obj.mapSeq fun _=>(#[]:Array Value))
 have k3 :∀b o,b≠a→s.heap.get? b=some o→h3.get? b=some o:=fun b o n e=>by rw [←hh3];exact Heap.get?_push_of_some _ (Heap.get?_push_of_some _ ((s1.2 b n).trans e))
 have o3:h3.get? a=some (seqObj "list" #[] e1):=by rw [←hh3];exact Heap.get?_push_of_some _ (Heap.get?_push_of_some _ o1)
 have al3:All2 (fun v k=>TupS h3 v k) vs ks:=forall2_mono (fun _ _ z=>z.kept ho (show Value.type "list"≠.type "tuple" by decide) k3) al
 have fin :∀(out:Array Value) (p:List Nat),out=(p.map fun i=>vs.getD i Value.none).toArray→p.Perm (List.range vs.length)→(p.map fun i=>ks.getD i "").Pairwise (fun x y=>ltS x y=true)→P (.done (.ret .none)) { s with heap:=h3.update a (Obj.mapSeq fun _=>out) }:=fun out p eo pp pw=>by
  obtain ⟨c2,hc2⟩ :∃c2,(h3.update a (Obj.mapSeq fun _=>out)).get? a=some (seqObj "list" out c2):=⟨_,get?_update_seq o3 fun _=>out⟩
  rw [eo] at hc2⊢
  exact h p _ c2 pp pw (fun b o n e=>(Heap.get?_update_other _ _ (Ne.symm n)).trans (k3 b o n e)) hc2
 have osz :∀(p:List Nat),p.Perm (List.range vs.length)→(p.map fun i=>vs.getD i Value.none).toArray.size≤sizeLine + 1:=fun p pp=>by
  rw [List.size_toArray,List.length_map,pp.length_eq,List.length_range]
  exact Nat.le_trans sz (Nat.le_succ _)
 by_cases h2:vs.toArray.size < 2
 ·rw [if_pos h2]
  have l2:vs.length < 2:=by simpa using h2
  have hp:(List.range vs.length).map (fun i=>vs.getD i Value.none)=vs:=by
   apply List.ext_getElem
   ·simp
   ·intro i h1 h2
    simp [List.getD_eq_getElem?_getD,List.getElem?_eq_getElem h2]
  have pw:((List.range vs.length).map fun i=>ks.getD i "").Pairwise (fun x y=>ltS x y=true):=by
   match hv:vs.length,l2 with
   | 0,_=>exact List.Pairwise.nil
   | 1,_=>exact List.pairwise_singleton _ _
  refine wpAny_bind (wpAny_pure ?_)
  rw [if_pos h2]
  refine (show wpAny _ _ (pure ((),SortSt.mk' general' (vs.toArray.zip vs.toArray) #[] 7 none) >>= _) _ _ _ from wpAny_bind (wpAny_pure ?_))
  dsimp only
  have eo:Array.map (fun x=>x.snd) (arrOf (SortSt.mk' general' (vs.toArray.zip vs.toArray) #[] 7 none))=((List.range vs.length).map fun i=>vs.getD i Value.none).toArray:=by
   rw [hp]
   show Array.map (fun x=>x.snd) (vs.toArray.zip vs.toArray)=vs.toArray
   apply Array.ext
   ·simp
   ·intro i h1 h2
    simp
  refine wpAny_bind (seqEpoch_at o3 rfl (wpAny_bind (listUpdate_at o3 rfl ?_ (Nat.zero_le _) ?_)))
  ·simp only [bne_self_eq_false,Bool.false_eq_true,if_false]
   exact wpAny_pure (fin _ _ eo (List.Perm.refl _) pw)
  ·rw [eo];exact osz _ (List.Perm.refl _)
 ·rw [if_neg h2]
  have l2:2≤vs.length:=by simpa using Nat.not_lt.mp h2
  obtain ⟨fs,kt,lf,fst⟩:=katTups_of al3
  refine wpAny_bind (PySem.W.kat_kind (T:=.type "str") kt (by omega) (fun f hf=>?_) (by decide) ?_)
  ·obtain ⟨k,t,rfl⟩:=fst f hf
   exact PySem.W.Looks.now
  ·rw [if_neg h2]
   obtain ⟨p,hp,pp,pw⟩:=kas_texts nd (by omega) (by omega)
   rw [lk] at hp pp
   rw [show (Value.type "str" != Value.type "tuple")=true by decide]
   have at3 :∀i,i < vs.length→TupS h3 (vs.getD i Value.none) (ks.getD i ""):=fun i hi=>by
    have hk:ks[i]? = some (ks[i]'(by omega)):=List.getElem?_eq_getElem (by omega)
    obtain ⟨v,hv,z⟩:=all2_get al3 hk
    rw [List.getD_eq_getElem?_getD,List.getD_eq_getElem?_getD,hv,hk]
    exact z
   have ask:(PySem.W.kas_sort vs.length).kasWp (PySem.W.kas_ask prog w A (tuples' true) vs) (fun p' s'=>s'={ s with heap:=h3 }∧p'=p) { s with heap:=h3 }:=kasRun_wp (c:=fun i j=>ltS (ks.getD i "") (ks.getD j "")) (n:=vs.length) (fun i j C hi hj ne q=>tupS_lt (s:={ s with heap:=h3 }) (at3 i hi) (at3 j hj) (fun e=>ne ?_) q) (PySem.W.kas_sort vs.length) p hp ⟨rfl,rfl⟩
   ·refine wpAny_bind (wpAny_mono (PySem.W.kat_run (κ:=tuples' true) (ks:=vs) (vs:=vs) (Q:=fun st' s'=>s'={ s with heap:=h3 }∧failedOf st'=none∧Array.map (fun x=>x.snd) (arrOf st')=(p.toList.map fun i=>vs.getD i Value.none).toArray) rfl l2 (by omega) (fun p' st' s' a1 a2 a3 a4=>⟨a4.1,a3,by rw [←a4.2];exact PySem.W.kat_snds rfl a2⟩) ask) ?_ fun _ _ z=>z)
    rintro ⟨⟨⟩,st'⟩ s' ⟨rfl,hf,eo⟩
    dsimp only at hf eo⊢
    refine wpAny_bind (seqEpoch_at o3 rfl (wpAny_bind (listUpdate_at o3 rfl ?_ (Nat.zero_le _) ?_)))
    ·rw [hf]
     simp only [bne_self_eq_false,Bool.false_eq_true,if_false]
     exact wpAny_pure (fin _ _ eo pp pw)
    ·rw [eo];exact osz _ pp
   ·have h1:i < ks.length:=by omega
    have h2:j < ks.length:=by omega
    rw [List.getD_eq_getElem?_getD,List.getD_eq_getElem?_getD,List.getElem?_eq_getElem h1,List.getElem?_eq_getElem h2] at e
    exact (List.getElem_inj nd).mp e
end
section
variable {X:Cx}
theorem call_sortedT:CallR X (.builtin "sorted") (fun xs H Q=>∃(a:Addr) (ys:List V) (ks:List Str),xs=[.ref a]∧SqL X.K H a ys∧All2 (fun y k=>∃(p:Addr) (r:List V),y=V.ref p∧SqT X.K H p (.str k :: r)) ys ks∧ys.length≤6∧ks.Nodup∧
  ∀(l:Addr) (p:List Nat),H l=none→p.Perm (List.range ys.length)→(p.map fun i=>ks.getD i "").Pairwise (fun x y=>ltS x y=true)→Q (.ref l) (upd H l (.lst (p.map fun i=>ys.getD i .non)))):=by
 intro pins s σ H xs us Q I rv h
 obtain ⟨a,ys,ks,rfl,sq,al,l6,nd,q⟩:=h
 obtain ⟨u,rfl,rx⟩:=vals1 rv
 cases rx
 obtain ⟨its,ri,pl,hz⟩:=I.list sq
 have li:its.length=ys.length:=ri.length.symm
 refine Calls.call_function_entry kind_sorted plain_sorted entry_sorted (args_sorted1 _) ?_
 unfold Builtin.«sorted»
 obtain ⟨o,ho,hc,n,hd⟩:=pl.isList
 refine wpAny_bind (m:=checkCount "sorted" 1 1 _) (wpAny_pure (wpAny_bind (wpAny_collect_seq a (.inl rfl) ho hc hd (fun h1 k1=>?_) (by rw [List.size_toArray,←ri.length];exact hz))))
 have ht :∀{vs:List Value} {ys:List V} {ks:List Str},Vals ys vs→All2 (fun y k=>∃(p:Addr) (r:List V),y=V.ref p∧SqT X.K H p (.str k :: r)) ys ks→All2 (fun v k=>TupS s.heap v k) vs ks:=by
  intro vs ys
  induction ys generalizing vs with
  | nil=>intro ks h1 h2;cases h1;cases h2;exact .nil
  | cons y ys ih=>
   intro ks h1 h2
   cases h1 with
   | cons ra rb=>
    cases h2 with
    | cons a b=>
     refine .cons ?_ (ih rb b)
     obtain ⟨p,r,rfl,sp⟩:=a
     obtain ⟨js,rj,⟨o,ho,hc,n,hd⟩,_⟩:=I.tuple sp
     cases rj with
     | cons r0 _=>
      obtain ⟨t,rfl⟩:=r0
      cases (show _=Value.ref p from ra)
      exact ⟨p,o,_,n,t,rfl,ho,hc,hd,by simp⟩
 have vg :∀p:List Nat,(∀i∈p,i < ys.length)→Vals (p.map fun i=>ys.getD i .non) (p.map fun i=>its.getD i Value.none):=by
  intro p
  induction p with
  | nil=>intro _;exact .nil
  | cons i p ih=>
   intro hp
   refine .cons ?_ (ih fun j hj=>hp j (.tail _ hj))
   have hi:=hp i (.head _)
   obtain ⟨u,hu,ru⟩:=ri.get (List.getElem?_eq_getElem hi)
   show RelV (ys.getD i .non) (its.getD i Value.none)
   rw [List.getD_eq_getElem?_getD,List.getD_eq_getElem?_getD,List.getElem?_eq_getElem hi,hu]
   exact ru
 have l6':its.length≤6:=by omega
 have oL:(h1.push (seqObj "list" its.toArray 0)).get? h1.objs.size=some (seqObj "list" its.toArray 0):=Heap.get?_push_size _ rfl
 have al1:All2 (fun v k=>TupS (h1.push (seqObj "list" its.toArray 0)) v k) its ks:=forall2_mono (fun _ _ z=>by
  obtain ⟨p,o,xs,n,t,e,ho,r⟩:=z
  exact ⟨p,o,xs,n,t,e,Heap.get?_push_of_some _ (k1 _ _ ho),r⟩) (ht ri al)
 have I1:Inv X pins σ H { s with heap:=h1 }:=I.kept (t':=s.toks) k1
 refine wpAny_bind (wpAny_newList (wpAny_bind (wpAny_holding (wpAny_call_entry slot_list_sort ⟨_,oL,rfl⟩ entry_list_sort (tup_sort (s:={ s with heap:=h1.push (seqObj "list" its.toArray 0) }) oL l6' al1 nd fun p h' e pp pw kk hl=>⟨_,rfl,?_⟩) (args_list_sort _)))) (by simpa using Nat.le_trans l6' (by decide)))
 rw [li] at pp
 have pin :∀i∈p,i < ys.length:=fun i hi=>List.mem_range.mp (pp.mem_iff.mp hi)
 have k2 :∀b o,h1.get? b=some o→h'.get? b=some o:=fun b o z=>kk b o (Nat.ne_of_lt (Heap.lt_size z)) (Heap.get?_push_of_some _ z)
 refine wpAny_pure ⟨_,rfl,.ref h1.objs.size,_,I1.laid (t':=s.toks) (o:=.lst (p.map fun i=>ys.getD i .non)) k2 (Nat.le_refl _) ⟨?_,_,e,vg p pin,hl⟩,rfl,q _ p (I1.hok.fresh (Nat.le_refl _)) pp pw⟩
 rw [List.length_map,pp.length_eq,List.length_range]
 exact hz
end
def addT (ns:List Str) (v:Str):List Str:=if v∈ns then ns else ns++[v]
section
variable {X:Cx}
def tLSetS (K:PySem.W.Frag) (te:TE):TE:=fun σ H Q=>te σ H fun x H1=>∃(a:Addr) (ns:List Str),x=.ref a∧SqL K H1 a (ns.map V.str)∧ns.length < 100∧Q (.int ((ns.foldl addT []).length:Nat)) H1
end
def Itc (x:Str):It:=⟨fun i _=>i < x.cps.size,fun i H v H'=>H'=H∧∃c,x.cps[i]? = some c∧v=.str ⟨#[c]⟩,fun i _=>x.cps.size≤i⟩
def iStr (tl:TE):TI:=fun σ H R=>tl σ H fun v H1=>∃x:Str,v=.str x∧x.cps.all (· < 128)=true∧R (Itc x) H1
end L2
set_option maxHeartbeats 400000
namespace L2
open PySem PySem.Spec PyProof.Rows
section
variable {X:Cx}
def rJoin:V→List V→Hp→VK→Prop:=fun x vs H Q=>∃(z:Str) (l:Addr) (ss:List Str),x=.str z∧vs=[.ref l]∧H l=some (.lst (ss.map V.str))∧(ss.map (·.length)).sum + ss.length * z.length≤16777216∧Q (.str (Txt.join z ss)) H
end
end L2
set_option maxHeartbeats 1000000
namespace L2
open PySem PySem.Spec PyProof.Rows
section
variable {X:Cx}
def rRemove:V→List V→Hp→VK→Prop:=fun x vs H Q=>∃(l:Addr) (ns:List Int) (k:Int),x=.ref l∧vs=[.int k]∧H l=some (.lst (ns.map V.int))∧k∈ns∧Q .non (upd H l (.lst ((ns.erase k).map V.int)))
end
section
variable {X:Cx}
def tLRev (K:PySem.W.Frag) (te:TE):TE:=fun σ H Q=>te σ H fun x H1=>∃(a:Addr) (xs:List V),x=.ref a∧SqL K H1 a xs∧∀p,H1 p=none→Q (.ref p) (upd H1 p (.lst xs.reverse))
end
section
variable {X:Cx}
def rNeL0 (K:PySem.W.Frag):R2:=fun x y H Q=>∃a b xs,x=.ref a∧y=.ref b∧SqL K H a xs∧SqL K H b []∧Q (.bl (decide (xs≠[]))) H
theorem op_neL0 {k:Nat} (hr:Room k X.A):OpR X (compareOp .NotEq) (rNeL0 X.K):=by
 intro pins s σ H x y v u Q I rx ry h
 obtain ⟨a,b,xs,rfl,rfl,ha,hb,q⟩:=h
 cases rx
 cases ry
 obtain ⟨ia,ra,pa,_⟩:=I.list ha
 obtain ⟨ib,rb,pb,_⟩:=I.list hb
 cases rb
 have hu:X.A.units < cLine:=Nat.lt_of_succ_lt (hu_of hr)
 have hlen:=ra.length
 cases xs with
 | nil=>
  cases ra
  exact SeqAt.RcNeAt.lists (e:=fun _=>true) pa.isList pb.isList rfl hu (fun j h1 _=>absurd h1 (Nat.not_lt_zero _)) X.prog X.w _ _ ⟨.bl _,H,I,rfl,q⟩
 | cons z zs=>
  refine SeqAt.RcNeAt.lists_lengths pa.isList pb.isList ?_ hu X.prog X.w _ _ ⟨.bl _,H,I,rfl,q⟩
  rw [List.size_toArray,←hlen]
  rfl
end
def rrSmall (a b:Int):Bool:=Builtin.Range.rangeFitsLong a && Builtin.Range.rangeFitsLong b && Builtin.Range.rangeFitsLong 1 && Builtin.Range.rangeFitsLong (-1) && Builtin.Range.rangeFitsLong (a - 1) && Builtin.Range.rangeFitsLong (Builtin.Range.rangeSize a b 1)
def rrObj (a b:Int):Obj:={ cls:=.type "range_iterator",data:=.fields #[rawInt (a + (Builtin.Range.rangeSize a b 1 - 1) * 1),rawInt (Builtin.Range.rangeSize a b 1),rawInt (-1)] }
section
variable {X:Cx} {tg:Expr}
def iRevR (ta:TA):TI:=fun σ H R=>ta σ H fun vs H1=>∃i j:Int,vs=[.int i,.int j]∧0≤i∧i≤j∧j < 2 ^ 62∧R (Itr3 (j - 1) (-1) (j - i).toNat) H1
end
structure ZLAt (h:Heap) (z T U i j a b:Addr) (n:Nat) (f:Value):Prop where
 z:IsZip h z T U f
 t:IsPair h T (.ref i) (.ref j)
 u :∃p q,IsPair h U p q
 i:h.IsListIter i a n
 j:h.IsListIter j b n
def Itzl (K:PySem.W.Frag) (a b:Addr):It:=
  ⟨fun i H=>∃xs ys x y,SqL K H a xs∧SqL K H b ys∧xs[i]? = some x∧ys[i]? = some y,
   fun i H v H'=>∃p,H p=none∧v=.ref p∧∀xs ys,SqL K H a xs→SqL K H b ys→∃x y,xs[i]? = some x∧ys[i]? = some y∧H'=upd H p (.tup [x,y]),
   fun i H=>∃xs ys,SqL K H a xs∧SqL K H b ys∧(xs.length≤i∨ys.length≤i)⟩
section
variable {X:Cx}
def iZipS (K:PySem.W.Frag) (ta:TA):TI:=fun σ H R=>ta σ H fun vs H1=>∃a b xs ys,vs=[.ref a,.ref b]∧((SqT K H1 a xs∧SqT K H1 b ys∧R (Itz K a b) H1)∨(SqL K H1 a xs∧SqL K H1 b ys∧R (Itzl K a b) H1))
end
section
variable {X:Cx}
def rInsert:V→List V→Hp→VK→Prop:=fun x vs H Q=>∃(l:Addr) (xs:List V) (k:Nat) (y:V),x=.ref l∧vs=[.int (k:Nat),y]∧H l=some (.lst xs)∧k≤xs.length∧xs.length < 1000∧Q .non (upd H l (.lst (xs.take k++y :: xs.drop k)))
end
section
variable {X:Cx}
def rStarts:V→List V→Hp→VK→Prop:=fun x vs H Q=>∃(z y:Str),x=.str z∧vs=[.str y]∧Q (.bl (Txt.startswith z y)) H
end
def jl (c:Nat):List (List Nat)→List Nat
 | []=>[]
 | [a]=>a
 | a :: b :: r=>a++c :: jl c (b :: r)
end L2
namespace L2
open PySem PySem.Spec PyProof.Rows PySem.NumText
def nS (i:Int):Str:=Str.ofString (toString i)
end L2
open PySem PySem.W PyProof.Rows
set_option maxHeartbeats 4000000
namespace TJ
section
variable (p:Program) (w:World) (n₀:Nat) (ann:Option Value) (code:Code) (q:Pos)
def Steps (c:Nat) (s:Shared) (t:Thread) (s':Shared) (t':Thread):Prop:=∃n,n≤c∧segGo treeTable p w n₀ ann 1 n s t=some (s',t')
def Goes {α:Type} (c:Nat) (x:Sem α) (s:Shared) (pos:Pos) (a:α) (s':Shared) (pos':Pos):Prop:=
 ∀(K:α→Sem Fin) (H:Value→Sem Fin) (gd:Bool→Bool) (lv:List Value→List Value),
  Steps p w n₀ ann c s ⟨x.wrap K H gd lv,code,pos,[topFrame q]⟩ s' ⟨K a,code,pos',[topFrame q]⟩
end
end TJ
open PySem PySem.W PyProof.Rows
namespace TJ
end TJ
open PySem PySem.W PyProof.Rows
namespace TJ
abbrev dObj (es:Array DictEntry) (ep:Nat):Obj:={ cls:=.type "dict",data:=.dict es ep }
abbrev KV3:=Addr×Value×Int
def ent (x:KV3):DictEntry:=⟨x.2.2,.ref x.1,x.2.1⟩
def unh (a:Addr):Sem Value:=do rule "hash.unhashable";raiseError "TypeError" s!"unhashable type: '{← typeNameOf (.ref a)}'"
def storing (d:Addr) (vs:List (Value×Value)):Sem PUnit:=forIn vs PUnit.unit fun (x:Value×Value) (_:PUnit)=>(do dictSet d x.1 x.2;pure (ForInStep.yield PUnit.unit):Sem (ForInStep PUnit))
section
variable {p:Program} {w:World} {n₀:Nat} {ann:Option Value} {code:Code} {q:Pos} {pos:Pos} {F:Obj→Nat→SharedT} {d:Addr}
structure Fam (n₀:Nat) (d:Addr) (F:Obj→Nat→SharedT):Prop where
 le:Nat.ble n₀ d=true
 get :∀es ep tk,(F (dObj es ep) tk).abs.heap.get? d=some (dObj es ep)
 upd :∀es ep tk (e:DictEntry),({ (F (dObj es ep) tk).abs with heap:=(F (dObj es ep) tk).abs.heap.update d (Obj.mapDictKeys (·.push e)) }:Shared)=(F (dObj (es.push e) (ep + 1)) tk).abs
def foldHash (acc:Nat):Int:=if acc == 2 ^ 64 - 1 then 1546275796 else if acc < 2 ^ 63 then acc else (acc:Int) - (2 ^ 64:Nat)
end
theorem leftO_by {p q:Program} {loose:List Str} {Xt:Shared→Bool} {α:Type} {Yf:Shared→α} {Ya:World→α} {N:Nat} {H₀:Params→Heap} {gs₀:Array GenState} {d₀:Drawn} {k₀ m₀:Nat} {ann:Option Value} {S:World→OsState→Shared}
  (opens :∀w:World,(fencedOpening treeTable p w N).map (fun s=>(s.heap,s.gens,s.drawn,s.toks))=some (H₀ w.params,gs₀,d₀,k₀))
  (sizes :∀w:World,(((H₀ w.params).isNs mainGlobals && gs₀.size == 0),(H₀ w.params).objs.size,(H₀ w.params).nsMap mainGlobals "__annotations__")=(true,m₀,ann))
  (runs :∀(w:World) (os:OsState),∃M,M≤N∧topRun treeTable p w m₀ ann M ⟨H₀ w.params,gs₀,d₀,k₀,os⟩ (topStub p)=some (S w os))
  (looks1 :∀(w:World) (os:OsState),(staticsOk (importedModules p.main.body) (H₀ w.params) (S w os).heap && namesBound p (S w os).heap && gensDone (S w os) && laidKept (H₀ w.params) (S w os).heap)=true)
  (looks2 :∀(w:World) (os:OsState),openSeen q loose (importedModules p.main.body) Xt true (S w os)=openGood q loose) (looks3 :∀(w:World) (os:OsState),Yf (S w os)=Ya w):LeftO p q loose Xt Yf Ya N:=by
 intro w
 obtain ⟨⟨h,gs,dr,k,os⟩,e,e'⟩:=Option.map_eq_some_iff.mp (opens w)
 simp only [Prod.mk.injEq] at e'
 obtain ⟨rfl,rfl,rfl,rfl⟩:=e'
 have z:=sizes w
 simp only [Prod.mk.injEq] at z
 obtain ⟨z1,z2,z3⟩:=z
 obtain ⟨M,hM,r⟩:=runs w os
 have r:=topRun_mono (N - M) _ _ _ _ r
 rw [Nat.add_sub_cancel' hM] at r
 have t:topFrom treeTable p w N ⟨H₀ w.params,gs,dr,k,os⟩=some (S w os):=by
  unfold topFrom
  dsimp only
  rw [z1,z2,z3,r]
  show (match (staticsOk (importedModules p.main.body) (H₀ w.params) (S w os).heap && namesBound p (S w os).heap && gensDone (S w os) && laidKept (H₀ w.params) (S w os).heap) with|true=>some (S w os)|false=>none)=_
  rw [looks1 w os]
 unfold openEnds
 rw [e]
 show (topFrom treeTable p w N _).map _=_
 rw [t]
 show some (_,_)=some (_,_)
 rw [looks2 w os,looks3 w os]
end TJ
open PySem PySem.Spec PyProof.Rows
namespace L2
noncomputable abbrev fnX (x q:Str) (s:Stmt) (m:Str) (k c:Nat):FuncData:=PySem.W.fnOf x q (defArgs s) (defBody s) (defScope s) .none .none .none (.str m k) none (.ref c) .none
noncomputable abbrev fO (x q:Str) (s:Stmt) (m:Str) (k c:Nat):Obj:=⟨.type "function",none,.func (fnX x q s m k c),#[]⟩
noncomputable abbrev cO (x q:Str) (i l n a j:Nat):Obj:=
 ⟨.type "code",none,.fields #[.str x i,.str q (i + 1),.str "/claim/cut.py" (i + 2),.int l 0,.int n 0,.int 0 0,.int 0 0,.int 3 0,.ref a,.bool true,.int 181 0,.ref (a + 1),.none,.ref (a + 2),.ref (a + 3),.ref (a + 4),.int j 0,.int l 0,.str "/claim/cut.py" (j + 1)],#[]⟩
noncomputable abbrev cP (x q:Str) (i l n a j:Nat):Obj:=
 ⟨.type "code",none,.fields #[.str x i,.str q (i + 1),.str "/claim/cut.py" (i + 2),.int l 0,.int n 0,.int 0 0,.int 0 0,.int 3 0,.ref a,.bool true,.int 181 0,.ref (a + 1),.none,.none,.none,.ref (a + 2),.int j 0,.int l 0,.str "/claim/cut.py" (j + 1)],#[]⟩
abbrev kR (P:Params) (x:Str) (i a:Nat):DictEntry:=⟨PyData.keyHash P x,.str x i,.ref a⟩
section
variable {P:Program} {w:World} {K:PySem.W.Frag} {mg:Str→Option Value} {base:Heap} {x q:Str} {st:Stmt} {f:Addr} {fd:FuncData} {k:Nat} {ps:List Str} {sp:Sp}
theorem fun_mkX {m:Str} {i c:Nat} (l:K.lookup f=some (fO x q st m i c):=by kernel_rfl) (hc:PySem.W.codeIn K (.ref c) q=true:=by kernel_rfl) (hk:PySem.W.keepIn K (.ref f)=true:=by kernel_rfl):Fun K x q st f (fnX x q st m i c):=fun_mk l hc hk
theorem cal_mk (T:TX K mg) (F:Fun K x q st f fd) (g:PySem.W.nsIn K mainGlobals x=some (some (.ref f))) (b:Binds K fd ps []) (G:FnOk P w K mg base CX0 k f fd ps sp):Cal P w K mg base x ps k sp:=⟨⟨f,fd,G,T.of g,F.kp,b⟩⟩
theorem calE_mk (T:TX K mg) (F:Fun K x q st f fd) (g:PySem.W.nsIn K mainGlobals x=some (some (.ref f))) (b:Binds K fd ps []) (G:FnOk P w K mg base (CXE P w base) k f fd ps sp):CalE P w K mg base x ps k sp:=⟨⟨f,fd,G,T.of g,F.kp,b⟩⟩
end
section
variable {p:List Value→Prop}
theorem us1 (h :∀a,p [a]) :∀us:List Value,us.length=1→p us | [a],_=>h a
theorem us2 (h :∀a b,p [a,b]) :∀us:List Value,us.length=2→p us | [a,b],_=>h a b
theorem us3 (h :∀a b c,p [a,b,c]) :∀us:List Value,us.length=3→p us | [a,b,c],_=>h a b c
theorem us4 (h :∀a b c d,p [a,b,c,d]) :∀us:List Value,us.length=4→p us | [a,b,c,d],_=>h a b c d
theorem us5 (h :∀a b c d e,p [a,b,c,d,e]) :∀us:List Value,us.length=5→p us | [a,b,c,d,e],_=>h a b c d e
end
end L2
set_option maxHeartbeats 0
namespace K22
open PySem PySem.W PyProof.Rows TJ L2
abbrev PX:Program:=PySem.Challenge.pw_talejudge_k22_not_plain
noncomputable abbrev annX:Option Value:=some (.ref 6)
noncomputable abbrev cdX:Code:=.body (behindTheImports PX) K22.pre.env_1
noncomputable abbrev qX:Pos:=⟨0,0,0,0⟩
noncomputable abbrev BX:List Frame:=[topFrame qX]
noncomputable def sufX:List Stmt:=(behindTheImports PX).drop 12
theorem bodyX:behindTheImports PX=K22.pre.sts_7++(K22.pre.sts_26++(K22.pre.sts_45++(K22.pre.sts_64++(K22.pre.sts_83++(K22.pre.sts_102++(K22.pre.sts_121++(K22.pre.sts_140++(K22.pre.sts_159++(K22.pre.sts_178++(K22.pre.sts_197++sufX)))))))))):=by kernel_rfl
noncomputable abbrev p3X:Pos:=⟨22,0,23,8⟩
noncomputable abbrev S2X (w:World) (os:OsState):SharedT:=⟨K22.pre.tree_213 w.params,148,{},⟨[]⟩,{},367,os⟩
noncomputable abbrev pLX:Pos:=⟨251,0,261,15⟩
noncomputable def R3X (w:World) (os:OsState):Option (Flow×SharedT×Code×Pos):=PySem.W.Fast.tw10110043849684766642 PySem.W.Fast.tw14364793385576792824 PX w 11 annX 1 1061 (S2X w os) ⟨(PySem.W.Fast.tw12563942051412417395 sufX K22.pre.env_1).wrap doneF deadEnd id id,cdX,p3X,BX⟩
noncomputable def S3X (w:World) (os:OsState):SharedT:=match R3X w os with|some r=>r.2.1|none=>S2X w os
theorem R3X_eq (w:World) (os:OsState):R3X w os=some (.next,S3X w os,cdX,pLX):=by kernel_rfl
theorem suf_run (w:World) (os:OsState):segRun treeTable PX w 11 annX 1 1061 (S2X w os).abs (piecesOf sufX K22.pre.env_1 cdX p3X BX)=some (.next,(S3X w os).abs,cdX,pLX):=by
 have e:=R3X_eq w os
 unfold R3X at e
 rw [←PySem.W.Fast.te10110043849684766642,←PySem.W.Fast.te14364793385576792824,←PySem.W.Fast.te12563942051412417395] at e
 exact segRun_of e
noncomputable def S0X (w:World) (os:OsState):SharedT:=⟨K22.pre.tree_6 w.params,15,{},⟨[]⟩,{},187,os⟩
theorem pre_go (w:World) (os:OsState):topGo treeTable PX w 11 annX 12 ⟨boot_heap w.params,Array.mk [],boot_drawn,boot_toks,os⟩ (topStub PX)=some ((S0X w os).abs,⟨denote treeTable cdX,cdX,qX,BX⟩):=by
 rw [PySem.W.Fast.te15667345088766844465,PySem.W.Fast.te14364793385576792824,PySem.W.Fast.te11892475500146522536]
 kernel_rfl
theorem runX_all (w:World) (os:OsState) :∃M,M≤200000∧topRun treeTable PX w 11 annX M ⟨boot_heap w.params,Array.mk [],boot_drawn,boot_toks,os⟩ (topStub PX)=some (S3X w os).abs:=by
 have f1:topRun treeTable PX w 11 annX 2 (S3X w os).abs (restOf [] K22.pre.env_1 cdX pLX BX)=some (S3X w os).abs:=rfl
 have f2:=piece_app (suf_run w os) f1
 rw [List.append_nil] at f2
 have f4:=K22.pre.chain PX (behindTheImports PX) w os _ _ _ f2
 rw [←bodyX] at f4
 have b1:segRun treeTable PX w 11 annX 1 1 (S0X w os).abs (blockOf (behindTheImports PX) K22.pre.env_1 cdX qX BX)=some (.next,(S0X w os).abs,cdX,qX):=rfl
 have f5:=piece_block b1 f4
 have f6:=go_top (pre_go w os) f5
 refine ⟨_,?_,f6⟩
 simp only [Nat.add_eq]
 omega
noncomputable def looseX:List Str:=[("TaleError" : Str),("NoDeed" : Str),("NoTale" : Str),("NoStrictness" : Str),("NoThing" : Str),("NoOrder" : Str),("NoHand" : Str),("NotPlain" : Str),("NoPlan" : Str),("NoDealings" : Str),("NoRow" : Str),("is_whole" : Str),("deeds" : Str),("FIRST_WRITE" : Str),("plain_deeds" : Str),("are_plain" : Str),("is_answered" : Str),("writers" : Str),("ended_reads" : Str),("lone_writer_deeds" : Str),("is_regular" : Str),("is_safe" : Str),("writes_beside" : Str),("last_ahead" : Str),("turn_about" : Str),("_law_cell_at" : Str),("_law_stream" : Str),("_law_take" : Str),("_law_worth" : Str),("_law_name" : Str),("_law_fresh" : Str),("_law_answer" : Str),("_law_events" : Str),("_law_tale" : Str),("_law_begins" : Str),("_law_end_of" : Str),("_law_answered" : Str),("_law_closed" : Str),("_law_more" : Str),("_law_beside" : Str),("_law_turned" : Str),("_law_asked" : Str),("_law_refused" : Str)]
noncomputable def viewX:Program:={ PX with main:={ PX.main with body:=(PX.main.body[49]?).toList } }
noncomputable def top (i:Nat):Stmt:=PX.main.body.getD i (.Pass ⟨0,0,0,0⟩)
noncomputable def asX:List Addr:=[3,11,13,15,17,18,20,22,23,24,28,30,31,33,35,36,37,40,42,43,45,47,48,49,52,54,55,57,59,60,61,64,66,67,69,71,72,73,76,78,79,81,83,84,85,88,90,91,93,95,96,97,100,102,103,105,107,108,109,112,114,115,117,119,120,121,124,126,127,129,131,132,133,136,138,139,141,143,144,145,148,150,151,153,154,155,157,158,160,161,162,163,166,167,168,171,172,173,175,176,178,179,180,182,183,185,186,187,190,191,192,195,196,197,199,200,202,203,204,206,207,209,210,211,214,215,216,219,220,221,224,225,226,228,229,231,232,233,235,236,238,239,240,242,243,245,246,247,249,250,252,253,254,256,257,259,260,261,263,264,266,267,268,270,271,273,274,275,277,278,280,281,282,284,285,287,288,289,292,293,294,296,297,299,300,301,303,304,306,307,308,311,312,313,315,316,318,319,320,322,323,325,326,327,330,331,332,334,335,337,338,339,341,342,344,345,346,348,349,351,352]
noncomputable def KX (P:Params):Frag:=[
 (3,⟨(.type "dict"),none,(.dict #[⟨(PyData.keyHash P "__name__"),(.str "__name__" 165),(.str "law_talejudge_k22_not_plain" 480)⟩,⟨(PyData.keyHash P "__doc__"),(.str "__doc__" 166),.none⟩,⟨(PyData.keyHash P "__package__"),(.str "__package__" 167),.none⟩,⟨(PyData.keyHash P "__loader__"),(.str "__loader__" 168),(.builtin "__main__.__loader__#opaque")⟩,⟨(PyData.keyHash P "__spec__"),(.str "__spec__" 169),.none⟩,kR P "__annotations__" 170 6,kR P "__builtins__" 171 4,⟨(PyData.keyHash P "__file__"),(.str "__file__" 173),(.str "/claim/cut.py" 172)⟩,⟨(PyData.keyHash P "__cached__"),(.str "__cached__" 174),.none⟩,kR P "TaleError" 206 24,kR P "NoDeed" 222 37,kR P "NoTale" 238 49,kR P "NoStrictness" 254 61,kR P "NoThing" 270 73,kR P "NoOrder" 286 85,kR P "NoHand" 302 97,kR P "NotPlain" 318 109,kR P "NoPlan" 334 121,kR P "NoDealings" 350 133,kR P "NoRow" 366 145,kR P "is_whole" 375 154,kR P "deeds" 390 161,kR P "FIRST_WRITE" 397 162,kR P "plain_deeds" 403 167,kR P "are_plain" 409 172,kR P "is_answered" 416 179,kR P "writers" 425 186,kR P "ended_reads" 431 191,kR P "lone_writer_deeds" 439 196,kR P "is_regular" 450 203,kR P "is_safe" 461 210,kR P "writes_beside" 467 215,kR P "last_ahead" 473 220,kR P "turn_about" 479 225,kR P "_law_cell_at" 489 232,kR P "_law_stream" 498 239,kR P "_law_take" 507 246,kR P "_law_worth" 515 253,kR P "_law_name" 525 260,kR P "_law_fresh" 534 267,kR P "_law_answer" 544 274,kR P "_law_events" 564 281,kR P "_law_tale" 575 288,kR P "_law_begins" 581 293,kR P "_law_end_of" 590 300,kR P "_law_answered" 601 307,kR P "_law_closed" 607 312,kR P "_law_more" 619 319,kR P "_law_beside" 636 326,kR P "_law_turned" 642 331,kR P "_law_asked" 650 338,kR P "_law_refused" 660 345,kR P "law" 671 352] 53),#[]⟩),
 (11,⟨(.type "tuple"),none,(.seq #[] 0),#[]⟩),
 (13,⟨(.type "code"),none,(.fields #[(.str "<module>" 182),(.str "<module>" 183),(.str "/claim/cut.py" 184),(.int (1) 0),(.int (0) 0),(.int (0) 0),(.int (0) 0),(.int (0) 0),(.ref 11),(.bool false),(.int (181) 0),(.ref 12),.none,.none,.none,.none,(.int (185) 0),(.int (1) 0),(.str "/claim/cut.py" 186)]),#[]⟩),
 (15,⟨(.type "tuple"),none,(.seq #[(.type "ValueError")] 0),#[]⟩),
 (17,⟨(.type "dict"),none,(.dict #[⟨(PyData.keyHash P "__module__"),(.str "__module__" 196),(.str "talejudge.errors" 187)⟩,⟨(PyData.keyHash P "__qualname__"),(.str "__qualname__" 198),(.str "TaleError" 197)⟩,⟨(PyData.keyHash P "__firstlineno__"),(.str "__firstlineno__" 200),(.int (2) 199)⟩,kR P "__static_attributes__" 201 22] 4),#[]⟩),
 (18,⟨(.type "tuple"),none,(.seq #[] 0),#[]⟩),
 (20,⟨(.type "code"),none,(.fields #[(.str "TaleError" 191),(.str "TaleError" 192),(.str "/claim/cut.py" 193),(.int (2) 0),(.int (0) 0),(.int (0) 0),(.int (0) 0),(.int (0) 0),(.ref 18),(.bool false),(.int (181) 0),(.ref 19),.none,.none,.none,.none,(.int (194) 0),(.int (2) 0),(.str "/claim/cut.py" 195)]),#[]⟩),
 (22,⟨(.type "tuple"),none,(.seq #[] 0),#[]⟩),
 (23,⟨(.type "dict"),none,(.dict #[⟨(PyData.keyHash P "__module__"),(.str "__module__" 196),(.str "talejudge.errors" 187)⟩,⟨(PyData.keyHash P "__firstlineno__"),(.str "__firstlineno__" 200),(.int (2) 199)⟩,kR P "__static_attributes__" 201 22,kR P "__weakref__" 203 25,⟨(PyData.keyHash P "__doc__"),(.str "__doc__" 204),.none⟩] 3),#[]⟩),
 (24,⟨(.type "type"),none,(.cls ⟨"TaleError",[(.type "ValueError")],[(.ref 24),(.type "ValueError"),(.type "Exception"),(.type "BaseException"),(.type "object")],23,"TaleError",true,[],[(.ref 37),(.ref 49),(.ref 61),(.ref 73),(.ref 85),(.ref 97),(.ref 109),(.ref 121),(.ref 133),(.ref 145)],false,none,false⟩),#[some (.ref 15),none,some (.str "TaleError" 189),some (.str "TaleError" 197),some (.builtin "ValueError.__new__"),some (.bool true)]⟩),
 (28,⟨(.type "tuple"),none,(.seq #[(.ref 24)] 0),#[]⟩),
 (30,⟨(.type "dict"),none,(.dict #[⟨(PyData.keyHash P "__module__"),(.str "__module__" 214),(.str "talejudge.errors" 187)⟩,⟨(PyData.keyHash P "__qualname__"),(.str "__qualname__" 216),(.str "NoDeed" 215)⟩,⟨(PyData.keyHash P "__firstlineno__"),(.str "__firstlineno__" 218),(.int (4) 217)⟩,kR P "__static_attributes__" 219 35] 4),#[]⟩),
 (31,⟨(.type "tuple"),none,(.seq #[] 0),#[]⟩),
 (33,⟨(.type "code"),none,(.fields #[(.str "NoDeed" 209),(.str "NoDeed" 210),(.str "/claim/cut.py" 211),(.int (4) 0),(.int (0) 0),(.int (0) 0),(.int (0) 0),(.int (0) 0),(.ref 31),(.bool false),(.int (181) 0),(.ref 32),.none,.none,.none,.none,(.int (212) 0),(.int (4) 0),(.str "/claim/cut.py" 213)]),#[]⟩),
 (35,⟨(.type "tuple"),none,(.seq #[] 0),#[]⟩),
 (36,⟨(.type "dict"),none,(.dict #[⟨(PyData.keyHash P "__module__"),(.str "__module__" 214),(.str "talejudge.errors" 187)⟩,⟨(PyData.keyHash P "__firstlineno__"),(.str "__firstlineno__" 218),(.int (4) 217)⟩,kR P "__static_attributes__" 219 35,⟨(PyData.keyHash P "__doc__"),(.str "__doc__" 220),.none⟩] 2),#[]⟩),
 (37,⟨(.type "type"),none,(.cls ⟨"NoDeed",[(.ref 24)],[(.ref 37),(.ref 24),(.type "ValueError"),(.type "Exception"),(.type "BaseException"),(.type "object")],36,"NoDeed",true,[],[],false,none,false⟩),#[some (.ref 28),none,some (.str "NoDeed" 207),some (.str "NoDeed" 215),some (.builtin "ValueError.__new__"),some (.bool true)]⟩),
 (40,⟨(.type "tuple"),none,(.seq #[(.ref 24)] 0),#[]⟩),
 (42,⟨(.type "dict"),none,(.dict #[⟨(PyData.keyHash P "__module__"),(.str "__module__" 230),(.str "talejudge.errors" 187)⟩,⟨(PyData.keyHash P "__qualname__"),(.str "__qualname__" 232),(.str "NoTale" 231)⟩,⟨(PyData.keyHash P "__firstlineno__"),(.str "__firstlineno__" 234),(.int (6) 233)⟩,kR P "__static_attributes__" 235 47] 4),#[]⟩),
 (43,⟨(.type "tuple"),none,(.seq #[] 0),#[]⟩),
 (45,⟨(.type "code"),none,(.fields #[(.str "NoTale" 225),(.str "NoTale" 226),(.str "/claim/cut.py" 227),(.int (6) 0),(.int (0) 0),(.int (0) 0),(.int (0) 0),(.int (0) 0),(.ref 43),(.bool false),(.int (181) 0),(.ref 44),.none,.none,.none,.none,(.int (228) 0),(.int (6) 0),(.str "/claim/cut.py" 229)]),#[]⟩),
 (47,⟨(.type "tuple"),none,(.seq #[] 0),#[]⟩),
 (48,⟨(.type "dict"),none,(.dict #[⟨(PyData.keyHash P "__module__"),(.str "__module__" 230),(.str "talejudge.errors" 187)⟩,⟨(PyData.keyHash P "__firstlineno__"),(.str "__firstlineno__" 234),(.int (6) 233)⟩,kR P "__static_attributes__" 235 47,⟨(PyData.keyHash P "__doc__"),(.str "__doc__" 236),.none⟩] 2),#[]⟩),
 (49,⟨(.type "type"),none,(.cls ⟨"NoTale",[(.ref 24)],[(.ref 49),(.ref 24),(.type "ValueError"),(.type "Exception"),(.type "BaseException"),(.type "object")],48,"NoTale",true,[],[],false,none,false⟩),#[some (.ref 40),none,some (.str "NoTale" 223),some (.str "NoTale" 231),some (.builtin "ValueError.__new__"),some (.bool true)]⟩),
 (52,⟨(.type "tuple"),none,(.seq #[(.ref 24)] 0),#[]⟩),
 (54,⟨(.type "dict"),none,(.dict #[⟨(PyData.keyHash P "__module__"),(.str "__module__" 246),(.str "talejudge.errors" 187)⟩,⟨(PyData.keyHash P "__qualname__"),(.str "__qualname__" 248),(.str "NoStrictness" 247)⟩,⟨(PyData.keyHash P "__firstlineno__"),(.str "__firstlineno__" 250),(.int (8) 249)⟩,kR P "__static_attributes__" 251 59] 4),#[]⟩),
 (55,⟨(.type "tuple"),none,(.seq #[] 0),#[]⟩),
 (57,⟨(.type "code"),none,(.fields #[(.str "NoStrictness" 241),(.str "NoStrictness" 242),(.str "/claim/cut.py" 243),(.int (8) 0),(.int (0) 0),(.int (0) 0),(.int (0) 0),(.int (0) 0),(.ref 55),(.bool false),(.int (181) 0),(.ref 56),.none,.none,.none,.none,(.int (244) 0),(.int (8) 0),(.str "/claim/cut.py" 245)]),#[]⟩),
 (59,⟨(.type "tuple"),none,(.seq #[] 0),#[]⟩),
 (60,⟨(.type "dict"),none,(.dict #[⟨(PyData.keyHash P "__module__"),(.str "__module__" 246),(.str "talejudge.errors" 187)⟩,⟨(PyData.keyHash P "__firstlineno__"),(.str "__firstlineno__" 250),(.int (8) 249)⟩,kR P "__static_attributes__" 251 59,⟨(PyData.keyHash P "__doc__"),(.str "__doc__" 252),.none⟩] 2),#[]⟩),
 (61,⟨(.type "type"),none,(.cls ⟨"NoStrictness",[(.ref 24)],[(.ref 61),(.ref 24),(.type "ValueError"),(.type "Exception"),(.type "BaseException"),(.type "object")],60,"NoStrictness",true,[],[],false,none,false⟩),#[some (.ref 52),none,some (.str "NoStrictness" 239),some (.str "NoStrictness" 247),some (.builtin "ValueError.__new__"),some (.bool true)]⟩),
 (64,⟨(.type "tuple"),none,(.seq #[(.ref 24)] 0),#[]⟩),
 (66,⟨(.type "dict"),none,(.dict #[⟨(PyData.keyHash P "__module__"),(.str "__module__" 262),(.str "talejudge.errors" 187)⟩,⟨(PyData.keyHash P "__qualname__"),(.str "__qualname__" 264),(.str "NoThing" 263)⟩,⟨(PyData.keyHash P "__firstlineno__"),(.str "__firstlineno__" 266),(.int (10) 265)⟩,kR P "__static_attributes__" 267 71] 4),#[]⟩),
 (67,⟨(.type "tuple"),none,(.seq #[] 0),#[]⟩),
 (69,⟨(.type "code"),none,(.fields #[(.str "NoThing" 257),(.str "NoThing" 258),(.str "/claim/cut.py" 259),(.int (10) 0),(.int (0) 0),(.int (0) 0),(.int (0) 0),(.int (0) 0),(.ref 67),(.bool false),(.int (181) 0),(.ref 68),.none,.none,.none,.none,(.int (260) 0),(.int (10) 0),(.str "/claim/cut.py" 261)]),#[]⟩),
 (71,⟨(.type "tuple"),none,(.seq #[] 0),#[]⟩),
 (72,⟨(.type "dict"),none,(.dict #[⟨(PyData.keyHash P "__module__"),(.str "__module__" 262),(.str "talejudge.errors" 187)⟩,⟨(PyData.keyHash P "__firstlineno__"),(.str "__firstlineno__" 266),(.int (10) 265)⟩,kR P "__static_attributes__" 267 71,⟨(PyData.keyHash P "__doc__"),(.str "__doc__" 268),.none⟩] 2),#[]⟩),
 (73,⟨(.type "type"),none,(.cls ⟨"NoThing",[(.ref 24)],[(.ref 73),(.ref 24),(.type "ValueError"),(.type "Exception"),(.type "BaseException"),(.type "object")],72,"NoThing",true,[],[],false,none,false⟩),#[some (.ref 64),none,some (.str "NoThing" 255),some (.str "NoThing" 263),some (.builtin "ValueError.__new__"),some (.bool true)]⟩),
 (76,⟨(.type "tuple"),none,(.seq #[(.ref 24)] 0),#[]⟩),
 (78,⟨(.type "dict"),none,(.dict #[⟨(PyData.keyHash P "__module__"),(.str "__module__" 278),(.str "talejudge.errors" 187)⟩,⟨(PyData.keyHash P "__qualname__"),(.str "__qualname__" 280),(.str "NoOrder" 279)⟩,⟨(PyData.keyHash P "__firstlineno__"),(.str "__firstlineno__" 282),(.int (12) 281)⟩,kR P "__static_attributes__" 283 83] 4),#[]⟩),
 (79,⟨(.type "tuple"),none,(.seq #[] 0),#[]⟩),
 (81,⟨(.type "code"),none,(.fields #[(.str "NoOrder" 273),(.str "NoOrder" 274),(.str "/claim/cut.py" 275),(.int (12) 0),(.int (0) 0),(.int (0) 0),(.int (0) 0),(.int (0) 0),(.ref 79),(.bool false),(.int (181) 0),(.ref 80),.none,.none,.none,.none,(.int (276) 0),(.int (12) 0),(.str "/claim/cut.py" 277)]),#[]⟩),
 (83,⟨(.type "tuple"),none,(.seq #[] 0),#[]⟩),
 (84,⟨(.type "dict"),none,(.dict #[⟨(PyData.keyHash P "__module__"),(.str "__module__" 278),(.str "talejudge.errors" 187)⟩,⟨(PyData.keyHash P "__firstlineno__"),(.str "__firstlineno__" 282),(.int (12) 281)⟩,kR P "__static_attributes__" 283 83,⟨(PyData.keyHash P "__doc__"),(.str "__doc__" 284),.none⟩] 2),#[]⟩),
 (85,⟨(.type "type"),none,(.cls ⟨"NoOrder",[(.ref 24)],[(.ref 85),(.ref 24),(.type "ValueError"),(.type "Exception"),(.type "BaseException"),(.type "object")],84,"NoOrder",true,[],[],false,none,false⟩),#[some (.ref 76),none,some (.str "NoOrder" 271),some (.str "NoOrder" 279),some (.builtin "ValueError.__new__"),some (.bool true)]⟩),
 (88,⟨(.type "tuple"),none,(.seq #[(.ref 24)] 0),#[]⟩),
 (90,⟨(.type "dict"),none,(.dict #[⟨(PyData.keyHash P "__module__"),(.str "__module__" 294),(.str "talejudge.errors" 187)⟩,⟨(PyData.keyHash P "__qualname__"),(.str "__qualname__" 296),(.str "NoHand" 295)⟩,⟨(PyData.keyHash P "__firstlineno__"),(.str "__firstlineno__" 298),(.int (14) 297)⟩,kR P "__static_attributes__" 299 95] 4),#[]⟩),
 (91,⟨(.type "tuple"),none,(.seq #[] 0),#[]⟩),
 (93,⟨(.type "code"),none,(.fields #[(.str "NoHand" 289),(.str "NoHand" 290),(.str "/claim/cut.py" 291),(.int (14) 0),(.int (0) 0),(.int (0) 0),(.int (0) 0),(.int (0) 0),(.ref 91),(.bool false),(.int (181) 0),(.ref 92),.none,.none,.none,.none,(.int (292) 0),(.int (14) 0),(.str "/claim/cut.py" 293)]),#[]⟩),
 (95,⟨(.type "tuple"),none,(.seq #[] 0),#[]⟩),
 (96,⟨(.type "dict"),none,(.dict #[⟨(PyData.keyHash P "__module__"),(.str "__module__" 294),(.str "talejudge.errors" 187)⟩,⟨(PyData.keyHash P "__firstlineno__"),(.str "__firstlineno__" 298),(.int (14) 297)⟩,kR P "__static_attributes__" 299 95,⟨(PyData.keyHash P "__doc__"),(.str "__doc__" 300),.none⟩] 2),#[]⟩),
 (97,⟨(.type "type"),none,(.cls ⟨"NoHand",[(.ref 24)],[(.ref 97),(.ref 24),(.type "ValueError"),(.type "Exception"),(.type "BaseException"),(.type "object")],96,"NoHand",true,[],[],false,none,false⟩),#[some (.ref 88),none,some (.str "NoHand" 287),some (.str "NoHand" 295),some (.builtin "ValueError.__new__"),some (.bool true)]⟩),
 (100,⟨(.type "tuple"),none,(.seq #[(.ref 24)] 0),#[]⟩),
 (102,⟨(.type "dict"),none,(.dict #[⟨(PyData.keyHash P "__module__"),(.str "__module__" 310),(.str "talejudge.errors" 187)⟩,⟨(PyData.keyHash P "__qualname__"),(.str "__qualname__" 312),(.str "NotPlain" 311)⟩,⟨(PyData.keyHash P "__firstlineno__"),(.str "__firstlineno__" 314),(.int (16) 313)⟩,kR P "__static_attributes__" 315 107] 4),#[]⟩),
 (103,⟨(.type "tuple"),none,(.seq #[] 0),#[]⟩),
 (105,⟨(.type "code"),none,(.fields #[(.str "NotPlain" 305),(.str "NotPlain" 306),(.str "/claim/cut.py" 307),(.int (16) 0),(.int (0) 0),(.int (0) 0),(.int (0) 0),(.int (0) 0),(.ref 103),(.bool false),(.int (181) 0),(.ref 104),.none,.none,.none,.none,(.int (308) 0),(.int (16) 0),(.str "/claim/cut.py" 309)]),#[]⟩),
 (107,⟨(.type "tuple"),none,(.seq #[] 0),#[]⟩),
 (108,⟨(.type "dict"),none,(.dict #[⟨(PyData.keyHash P "__module__"),(.str "__module__" 310),(.str "talejudge.errors" 187)⟩,⟨(PyData.keyHash P "__firstlineno__"),(.str "__firstlineno__" 314),(.int (16) 313)⟩,kR P "__static_attributes__" 315 107,⟨(PyData.keyHash P "__doc__"),(.str "__doc__" 316),.none⟩] 2),#[]⟩),
 (109,⟨(.type "type"),none,(.cls ⟨"NotPlain",[(.ref 24)],[(.ref 109),(.ref 24),(.type "ValueError"),(.type "Exception"),(.type "BaseException"),(.type "object")],108,"NotPlain",true,[],[],false,none,false⟩),#[some (.ref 100),none,some (.str "NotPlain" 303),some (.str "NotPlain" 311),some (.builtin "ValueError.__new__"),some (.bool true)]⟩),
 (112,⟨(.type "tuple"),none,(.seq #[(.ref 24)] 0),#[]⟩),
 (114,⟨(.type "dict"),none,(.dict #[⟨(PyData.keyHash P "__module__"),(.str "__module__" 326),(.str "talejudge.errors" 187)⟩,⟨(PyData.keyHash P "__qualname__"),(.str "__qualname__" 328),(.str "NoPlan" 327)⟩,⟨(PyData.keyHash P "__firstlineno__"),(.str "__firstlineno__" 330),(.int (18) 329)⟩,kR P "__static_attributes__" 331 119] 4),#[]⟩),
 (115,⟨(.type "tuple"),none,(.seq #[] 0),#[]⟩),
 (117,⟨(.type "code"),none,(.fields #[(.str "NoPlan" 321),(.str "NoPlan" 322),(.str "/claim/cut.py" 323),(.int (18) 0),(.int (0) 0),(.int (0) 0),(.int (0) 0),(.int (0) 0),(.ref 115),(.bool false),(.int (181) 0),(.ref 116),.none,.none,.none,.none,(.int (324) 0),(.int (18) 0),(.str "/claim/cut.py" 325)]),#[]⟩),
 (119,⟨(.type "tuple"),none,(.seq #[] 0),#[]⟩),
 (120,⟨(.type "dict"),none,(.dict #[⟨(PyData.keyHash P "__module__"),(.str "__module__" 326),(.str "talejudge.errors" 187)⟩,⟨(PyData.keyHash P "__firstlineno__"),(.str "__firstlineno__" 330),(.int (18) 329)⟩,kR P "__static_attributes__" 331 119,⟨(PyData.keyHash P "__doc__"),(.str "__doc__" 332),.none⟩] 2),#[]⟩),
 (121,⟨(.type "type"),none,(.cls ⟨"NoPlan",[(.ref 24)],[(.ref 121),(.ref 24),(.type "ValueError"),(.type "Exception"),(.type "BaseException"),(.type "object")],120,"NoPlan",true,[],[],false,none,false⟩),#[some (.ref 112),none,some (.str "NoPlan" 319),some (.str "NoPlan" 327),some (.builtin "ValueError.__new__"),some (.bool true)]⟩),
 (124,⟨(.type "tuple"),none,(.seq #[(.ref 24)] 0),#[]⟩),
 (126,⟨(.type "dict"),none,(.dict #[⟨(PyData.keyHash P "__module__"),(.str "__module__" 342),(.str "talejudge.errors" 187)⟩,⟨(PyData.keyHash P "__qualname__"),(.str "__qualname__" 344),(.str "NoDealings" 343)⟩,⟨(PyData.keyHash P "__firstlineno__"),(.str "__firstlineno__" 346),(.int (20) 345)⟩,kR P "__static_attributes__" 347 131] 4),#[]⟩),
 (127,⟨(.type "tuple"),none,(.seq #[] 0),#[]⟩),
 (129,⟨(.type "code"),none,(.fields #[(.str "NoDealings" 337),(.str "NoDealings" 338),(.str "/claim/cut.py" 339),(.int (20) 0),(.int (0) 0),(.int (0) 0),(.int (0) 0),(.int (0) 0),(.ref 127),(.bool false),(.int (181) 0),(.ref 128),.none,.none,.none,.none,(.int (340) 0),(.int (20) 0),(.str "/claim/cut.py" 341)]),#[]⟩),
 (131,⟨(.type "tuple"),none,(.seq #[] 0),#[]⟩),
 (132,⟨(.type "dict"),none,(.dict #[⟨(PyData.keyHash P "__module__"),(.str "__module__" 342),(.str "talejudge.errors" 187)⟩,⟨(PyData.keyHash P "__firstlineno__"),(.str "__firstlineno__" 346),(.int (20) 345)⟩,kR P "__static_attributes__" 347 131,⟨(PyData.keyHash P "__doc__"),(.str "__doc__" 348),.none⟩] 2),#[]⟩),
 (133,⟨(.type "type"),none,(.cls ⟨"NoDealings",[(.ref 24)],[(.ref 133),(.ref 24),(.type "ValueError"),(.type "Exception"),(.type "BaseException"),(.type "object")],132,"NoDealings",true,[],[],false,none,false⟩),#[some (.ref 124),none,some (.str "NoDealings" 335),some (.str "NoDealings" 343),some (.builtin "ValueError.__new__"),some (.bool true)]⟩),
 (136,⟨(.type "tuple"),none,(.seq #[(.ref 24)] 0),#[]⟩),
 (138,⟨(.type "dict"),none,(.dict #[⟨(PyData.keyHash P "__module__"),(.str "__module__" 358),(.str "talejudge.errors" 187)⟩,⟨(PyData.keyHash P "__qualname__"),(.str "__qualname__" 360),(.str "NoRow" 359)⟩,⟨(PyData.keyHash P "__firstlineno__"),(.str "__firstlineno__" 362),(.int (22) 361)⟩,kR P "__static_attributes__" 363 143] 4),#[]⟩),
 (139,⟨(.type "tuple"),none,(.seq #[] 0),#[]⟩),
 (141,⟨(.type "code"),none,(.fields #[(.str "NoRow" 353),(.str "NoRow" 354),(.str "/claim/cut.py" 355),(.int (22) 0),(.int (0) 0),(.int (0) 0),(.int (0) 0),(.int (0) 0),(.ref 139),(.bool false),(.int (181) 0),(.ref 140),.none,.none,.none,.none,(.int (356) 0),(.int (22) 0),(.str "/claim/cut.py" 357)]),#[]⟩),
 (143,⟨(.type "tuple"),none,(.seq #[] 0),#[]⟩),
 (144,⟨(.type "dict"),none,(.dict #[⟨(PyData.keyHash P "__module__"),(.str "__module__" 358),(.str "talejudge.errors" 187)⟩,⟨(PyData.keyHash P "__firstlineno__"),(.str "__firstlineno__" 362),(.int (22) 361)⟩,kR P "__static_attributes__" 363 143,⟨(PyData.keyHash P "__doc__"),(.str "__doc__" 364),.none⟩] 2),#[]⟩),
 (145,⟨(.type "type"),none,(.cls ⟨"NoRow",[(.ref 24)],[(.ref 145),(.ref 24),(.type "ValueError"),(.type "Exception"),(.type "BaseException"),(.type "object")],144,"NoRow",true,[],[],false,none,false⟩),#[some (.ref 136),none,some (.str "NoRow" 351),some (.str "NoRow" 359),some (.builtin "ValueError.__new__"),some (.bool true)]⟩),
 (148,⟨(.type "tuple"),none,(.seq #[] 0),#[]⟩),
 (150,⟨(.type "tuple"),none,(.seq #[(.str "value" 372)] 0),#[]⟩),
 (151,⟨(.type "tuple"),none,(.seq #[] 0),#[]⟩),
 (153,cO "is_whole" "is_whole" 369 25 1 148 373),
 (154,fO "is_whole" "is_whole" (top 13) "talejudge.basics" 367 153),
 (155,⟨(.type "tuple"),none,(.seq #[] 0),#[]⟩),
 (157,⟨(.type "tuple"),none,(.seq #[(.str "tale" 381),(.str "told" 382),(.str "numbers" 383),(.str "place" 384),(.str "event" 385),(.str "number" 386),(.str "begun" 387)] 0),#[]⟩),
 (158,⟨(.type "tuple"),none,(.seq #[] 0),#[]⟩),
 (160,cO "deeds" "deeds" 378 28 1 155 388),
 (161,fO "deeds" "deeds" (top 15) "talejudge.tales" 376 160),
 (162,⟨(.type "tuple"),none,(.seq #[(.int (-2) 394),(.int (-1) 396)] 0),#[]⟩),
 (163,⟨(.type "tuple"),none,(.seq #[] 0),#[]⟩),
 (166,cP "plain_deeds" "plain_deeds" 398 42 1 163 401),
 (167,fO "plain_deeds" "plain_deeds" (top 18) "talejudge.zones" 391 166),
 (168,⟨(.type "tuple"),none,(.seq #[] 0),#[]⟩),
 (171,cP "are_plain" "are_plain" 404 47 1 168 407),
 (172,fO "are_plain" "are_plain" (top 19) "talejudge.zones" 391 171),
 (173,⟨(.type "tuple"),none,(.seq #[] 0),#[]⟩),
 (175,⟨(.type "tuple"),none,(.seq #[(.str "deed" 413)] 0),#[]⟩),
 (176,⟨(.type "tuple"),none,(.seq #[] 0),#[]⟩),
 (178,cO "is_answered" "is_answered" 410 52 1 173 414),
 (179,fO "is_answered" "is_answered" (top 20) "talejudge.zones" 391 178),
 (180,⟨(.type "tuple"),none,(.seq #[] 0),#[]⟩),
 (182,⟨(.type "tuple"),none,(.seq #[(.str "told" 420),(.str "found" 421),(.str "deed" 422)] 0),#[]⟩),
 (183,⟨(.type "tuple"),none,(.seq #[] 0),#[]⟩),
 (185,cO "writers" "writers" 417 56 1 180 423),
 (186,fO "writers" "writers" (top 21) "talejudge.zones" 391 185),
 (187,⟨(.type "tuple"),none,(.seq #[] 0),#[]⟩),
 (190,cP "ended_reads" "ended_reads" 426 62 1 187 429),
 (191,fO "ended_reads" "ended_reads" (top 22) "talejudge.zones" 391 190),
 (192,⟨(.type "tuple"),none,(.seq #[] 0),#[]⟩),
 (195,cP "lone_writer_deeds" "lone_writer_deeds" 434 65 1 192 437),
 (196,fO "lone_writer_deeds" "lone_writer_deeds" (top 24) "talejudge.weaker" 432 195),
 (197,⟨(.type "tuple"),none,(.seq #[] 0),#[]⟩),
 (199,⟨(.type "tuple"),none,(.seq #[(.str "tale" 443),(.str "told" 444),(.str "written" 445),(.str "number" 446),(.str "read" 447)] 0),#[]⟩),
 (200,⟨(.type "tuple"),none,(.seq #[] 0),#[]⟩),
 (202,cO "is_regular" "is_regular" 440 70 1 197 448),
 (203,fO "is_regular" "is_regular" (top 25) "talejudge.weaker" 432 202),
 (204,⟨(.type "tuple"),none,(.seq #[] 0),#[]⟩),
 (206,⟨(.type "tuple"),none,(.seq #[(.str "tale" 454),(.str "told" 455),(.str "written" 456),(.str "number" 457),(.str "read" 458)] 0),#[]⟩),
 (207,⟨(.type "tuple"),none,(.seq #[] 0),#[]⟩),
 (209,cO "is_safe" "is_safe" 451 77 1 204 459),
 (210,fO "is_safe" "is_safe" (top 26) "talejudge.weaker" 432 209),
 (211,⟨(.type "tuple"),none,(.seq #[] 0),#[]⟩),
 (214,cP "writes_beside" "writes_beside" 462 84 2 211 465),
 (215,fO "writes_beside" "writes_beside" (top 27) "talejudge.weaker" 432 214),
 (216,⟨(.type "tuple"),none,(.seq #[] 0),#[]⟩),
 (219,cP "last_ahead" "last_ahead" 468 87 2 216 471),
 (220,fO "last_ahead" "last_ahead" (top 28) "talejudge.weaker" 432 219),
 (221,⟨(.type "tuple"),none,(.seq #[] 0),#[]⟩),
 (224,cP "turn_about" "turn_about" 474 89 1 221 477),
 (225,fO "turn_about" "turn_about" (top 29) "talejudge.weaker" 432 224),
 (226,⟨(.type "tuple"),none,(.seq #[] 0),#[]⟩),
 (228,⟨(.type "tuple"),none,(.seq #[(.str "script" 485),(.str "k" 486)] 0),#[]⟩),
 (229,⟨(.type "tuple"),none,(.seq #[] 0),#[]⟩),
 (231,cO "_law_cell_at" "_law_cell_at" 482 99 2 226 487),
 (232,fO "_law_cell_at" "_law_cell_at" (top 31) "law_talejudge_k22_not_plain" 480 231),
 (233,⟨(.type "tuple"),none,(.seq #[] 0),#[]⟩),
 (235,⟨(.type "tuple"),none,(.seq #[(.str "cell" 493),(.str "way" 494),(.str "low" 495)] 0),#[]⟩),
 (236,⟨(.type "tuple"),none,(.seq #[] 0),#[]⟩),
 (238,cO "_law_stream" "_law_stream" 490 103 2 233 496),
 (239,fO "_law_stream" "_law_stream" (top 32) "law_talejudge_k22_not_plain" 480 238),
 (240,⟨(.type "tuple"),none,(.seq #[] 0),#[]⟩),
 (242,⟨(.type "tuple"),none,(.seq #[(.str "row" 502),(.str "many" 503),(.str "told" 504)] 0),#[]⟩),
 (243,⟨(.type "tuple"),none,(.seq #[] 0),#[]⟩),
 (245,cO "_law_take" "_law_take" 499 106 2 240 505),
 (246,fO "_law_take" "_law_take" (top 33) "law_talejudge_k22_not_plain" 480 245),
 (247,⟨(.type "tuple"),none,(.seq #[] 0),#[]⟩),
 (249,⟨(.type "tuple"),none,(.seq #[(.str "row" 511),(.str "kind" 512)] 0),#[]⟩),
 (250,⟨(.type "tuple"),none,(.seq #[] 0),#[]⟩),
 (252,cO "_law_worth" "_law_worth" 508 113 1 247 513),
 (253,fO "_law_worth" "_law_worth" (top 34) "law_talejudge_k22_not_plain" 480 252),
 (254,⟨(.type "tuple"),none,(.seq #[] 0),#[]⟩),
 (256,⟨(.type "tuple"),none,(.seq #[(.str "row" 519),(.str "letters" 520),(.str "name" 521),(.str "k" 522)] 0),#[]⟩),
 (257,⟨(.type "tuple"),none,(.seq #[] 0),#[]⟩),
 (259,cO "_law_name" "_law_name" 516 120 1 254 523),
 (260,fO "_law_name" "_law_name" (top 35) "law_talejudge_k22_not_plain" 480 259),
 (261,⟨(.type "tuple"),none,(.seq #[] 0),#[]⟩),
 (263,⟨(.type "tuple"),none,(.seq #[(.str "row" 529),(.str "used" 530),(.str "worth" 531)] 0),#[]⟩),
 (264,⟨(.type "tuple"),none,(.seq #[] 0),#[]⟩),
 (266,cO "_law_fresh" "_law_fresh" 526 126 2 261 532),
 (267,fO "_law_fresh" "_law_fresh" (top 36) "law_talejudge_k22_not_plain" 480 266),
 (268,⟨(.type "tuple"),none,(.seq #[] 0),#[]⟩),
 (270,⟨(.type "tuple"),none,(.seq #[(.str "row" 538),(.str "worths" 539),(.str "kind" 540),(.str "back" 541)] 0),#[]⟩),
 (271,⟨(.type "tuple"),none,(.seq #[] 0),#[]⟩),
 (273,cO "_law_answer" "_law_answer" 535 134 2 268 542),
 (274,fO "_law_answer" "_law_answer" (top 37) "law_talejudge_k22_not_plain" 480 273),
 (275,⟨(.type "tuple"),none,(.seq #[] 0),#[]⟩),
 (277,⟨(.type "tuple"),none,(.seq #[(.str "cells" 548),(.str "way" 549),(.str "head" 550),(.str "name" 551),(.str "hands" 552),(.str "writer" 553),(.str "used" 554),(.str "worths" 555),(.str "busy" 556),(.str "events" 557),(.str "cell" 558),(.str "row" 559),(.str "hand" 560),(.str "answer" 561)] 0),#[]⟩),
 (278,⟨(.type "tuple"),none,(.seq #[] 0),#[]⟩),
 (280,cO "_law_events" "_law_events" 545 140 4 275 562),
 (281,fO "_law_events" "_law_events" (top 38) "law_talejudge_k22_not_plain" 480 280),
 (282,⟨(.type "tuple"),none,(.seq #[] 0),#[]⟩),
 (284,⟨(.type "tuple"),none,(.seq #[(.str "script" 568),(.str "most" 569),(.str "first" 570),(.str "head" 571),(.str "name" 572)] 0),#[]⟩),
 (285,⟨(.type "tuple"),none,(.seq #[] 0),#[]⟩),
 (287,cO "_law_tale" "_law_tale" 565 163 2 282 573),
 (288,fO "_law_tale" "_law_tale" (top 39) "law_talejudge_k22_not_plain" 480 287),
 (289,⟨(.type "tuple"),none,(.seq #[] 0),#[]⟩),
 (292,cP "_law_begins" "_law_begins" 576 168 2 289 579),
 (293,fO "_law_begins" "_law_begins" (top 40) "law_talejudge_k22_not_plain" 480 292),
 (294,⟨(.type "tuple"),none,(.seq #[] 0),#[]⟩),
 (296,⟨(.type "tuple"),none,(.seq #[(.str "events" 585),(.str "at" 586),(.str "k" 587)] 0),#[]⟩),
 (297,⟨(.type "tuple"),none,(.seq #[] 0),#[]⟩),
 (299,cO "_law_end_of" "_law_end_of" 582 170 2 294 588),
 (300,fO "_law_end_of" "_law_end_of" (top 41) "law_talejudge_k22_not_plain" 480 299),
 (301,⟨(.type "tuple"),none,(.seq #[] 0),#[]⟩),
 (303,⟨(.type "tuple"),none,(.seq #[(.str "events" 594),(.str "at" 595),(.str "answer" 596),(.str "end" 597),(.str "found" 598)] 0),#[]⟩),
 (304,⟨(.type "tuple"),none,(.seq #[] 0),#[]⟩),
 (306,cO "_law_answered" "_law_answered" 591 175 3 301 599),
 (307,fO "_law_answered" "_law_answered" (top 42) "law_talejudge_k22_not_plain" 480 306),
 (308,⟨(.type "tuple"),none,(.seq #[] 0),#[]⟩),
 (311,cP "_law_closed" "_law_closed" 602 183 2 308 605),
 (312,fO "_law_closed" "_law_closed" (top 43) "law_talejudge_k22_not_plain" 480 311),
 (313,⟨(.type "tuple"),none,(.seq #[] 0),#[]⟩),
 (315,⟨(.type "tuple"),none,(.seq #[(.str "events" 611),(.str "name" 612),(.str "hand" 613),(.str "worth" 614),(.str "ended" 615),(.str "found" 616)] 0),#[]⟩),
 (316,⟨(.type "tuple"),none,(.seq #[] 0),#[]⟩),
 (318,cO "_law_more" "_law_more" 608 189 5 313 617),
 (319,fO "_law_more" "_law_more" (top 44) "law_talejudge_k22_not_plain" 480 318),
 (320,⟨(.type "tuple"),none,(.seq #[] 0),#[]⟩),
 (322,⟨(.type "tuple"),none,(.seq #[(.str "tale" 623),(.str "row" 624),(.str "things" 625),(.str "events" 626),(.str "name" 627),(.str "other" 628),(.str "kind" 629),(.str "acts" 630),(.str "verb" 631),(.str "worth" 632),(.str "found" 633)] 0),#[]⟩),
 (323,⟨(.type "tuple"),none,(.seq #[] 0),#[]⟩),
 (325,cO "_law_beside" "_law_beside" 620 194 2 320 634),
 (326,fO "_law_beside" "_law_beside" (top 45) "law_talejudge_k22_not_plain" 480 325),
 (327,⟨(.type "tuple"),none,(.seq #[] 0),#[]⟩),
 (330,cP "_law_turned" "_law_turned" 637 209 2 327 640),
 (331,fO "_law_turned" "_law_turned" (top 46) "law_talejudge_k22_not_plain" 480 330),
 (332,⟨(.type "tuple"),none,(.seq #[] 0),#[]⟩),
 (334,⟨(.type "tuple"),none,(.seq #[(.str "tale" 646),(.str "which" 647)] 0),#[]⟩),
 (335,⟨(.type "tuple"),none,(.seq #[] 0),#[]⟩),
 (337,cO "_law_asked" "_law_asked" 643 236 2 332 648),
 (338,fO "_law_asked" "_law_asked" (top 47) "law_talejudge_k22_not_plain" 480 337),
 (339,⟨(.type "tuple"),none,(.seq #[] 0),#[]⟩),
 (341,⟨(.type "tuple"),none,(.seq #[(.str "tale" 654),(.str "which" 655),(.str "right" 656),(.str "e" 657)] 0),#[]⟩),
 (342,⟨(.type "tuple"),none,(.seq #[] 0),#[]⟩),
 (344,cO "_law_refused" "_law_refused" 651 242 2 339 658),
 (345,fO "_law_refused" "_law_refused" (top 48) "law_talejudge_k22_not_plain" 480 344),
 (346,⟨(.type "tuple"),none,(.seq #[] 0),#[]⟩),
 (348,⟨(.type "tuple"),none,(.seq #[(.str "script" 664),(.str "tale" 665),(.str "row" 666),(.str "turned" 667),(.str "which" 668)] 0),#[]⟩),
 (349,⟨(.type "tuple"),none,(.seq #[] 0),#[]⟩),
 (351,cO "law" "law" 661 251 1 346 669),
 (352,fO "law" "law" (top 49) "law_talejudge_k22_not_plain" 480 351)]
noncomputable def HX:Hook:=kHook KX asX (fun _=>by kernel_rfl)
noncomputable abbrev XtX:Shared→Bool:=fun s=>xlAt viewX [] s && recOk (RowW.records (OpenRow.toRowW PySem.Challenge.rw_talejudge_k22_not_plain.row)) s
theorem look1 (w:World) (os:OsState):(staticsOk (importedModules PX.main.body) (boot_heap w.params) (S3X w os).abs.heap && namesBound PX (S3X w os).abs.heap && gensDone (S3X w os).abs && laidKept (boot_heap w.params) (S3X w os).abs.heap)=true:=by kernel_rfl
theorem look2 (w:World) (os:OsState):openSeen viewX looseX (importedModules PX.main.body) XtX true (S3X w os).abs=openGood viewX looseX:=by
 rw [PySem.W.Fast.te4187177175401517315]
 kernel_rfl
theorem look3 (w:World) (os:OsState):Hook.obs HX (S3X w os).abs=Hook.val HX w:=by kernel_rfl
theorem leftX:LeftO PX viewX looseX XtX (Hook.obs HX) (Hook.val HX) 200000:=
 leftO_by (H₀:=boot_heap) (gs₀:=Array.mk []) (boot_open (by kernel_rfl) (by decide) (fun s=>rfl)) (fun w=>by kernel_rfl) runX_all look1 look2 look3
end K22
set_option maxHeartbeats 4000000
namespace K22
open PySem PySem.Spec PyProof.Rows TJ L2
theorem n_isinstance (P:Params):PySem.W.nsIn (KX P) mainGlobals "isinstance" = some none:=by kernel_rfl
theorem n_len (P:Params):PySem.W.nsIn (KX P) mainGlobals "len" = some none:=by kernel_rfl
theorem n_all (P:Params):PySem.W.nsIn (KX P) mainGlobals "all" = some none:=by kernel_rfl
theorem n_max (P:Params):PySem.W.nsIn (KX P) mainGlobals "max" = some none:=by kernel_rfl
theorem n_int (P:Params):PySem.W.nsIn (KX P) mainGlobals "int" = some none:=by kernel_rfl
theorem n_bool (P:Params):PySem.W.nsIn (KX P) mainGlobals "bool" = some none:=by kernel_rfl
theorem n_tuple (P:Params):PySem.W.nsIn (KX P) mainGlobals "tuple" = some none:=by kernel_rfl
theorem n_list (P:Params):PySem.W.nsIn (KX P) mainGlobals "list" = some none:=by kernel_rfl
theorem n_range (P:Params):PySem.W.nsIn (KX P) mainGlobals "range" = some none:=by kernel_rfl
theorem n_sorted (P:Params):PySem.W.nsIn (KX P) mainGlobals "sorted" = some none:=by kernel_rfl
theorem n_set (P:Params):PySem.W.nsIn (KX P) mainGlobals "set" = some none:=by kernel_rfl
theorem n_enumerate (P:Params):PySem.W.nsIn (KX P) mainGlobals "enumerate" = some none:=by kernel_rfl
theorem g_TaleError (P:Params):PySem.W.nsIn (KX P) mainGlobals "TaleError" = some (some (.ref 24)):=by kernel_rfl
theorem g_NoDeed (P:Params):PySem.W.nsIn (KX P) mainGlobals "NoDeed" = some (some (.ref 37)):=by kernel_rfl
theorem g_NoTale (P:Params):PySem.W.nsIn (KX P) mainGlobals "NoTale" = some (some (.ref 49)):=by kernel_rfl
theorem g_NoStrictness (P:Params):PySem.W.nsIn (KX P) mainGlobals "NoStrictness" = some (some (.ref 61)):=by kernel_rfl
theorem g_NoThing (P:Params):PySem.W.nsIn (KX P) mainGlobals "NoThing" = some (some (.ref 73)):=by kernel_rfl
theorem g_NoOrder (P:Params):PySem.W.nsIn (KX P) mainGlobals "NoOrder" = some (some (.ref 85)):=by kernel_rfl
theorem g_NoHand (P:Params):PySem.W.nsIn (KX P) mainGlobals "NoHand" = some (some (.ref 97)):=by kernel_rfl
theorem g_NotPlain (P:Params):PySem.W.nsIn (KX P) mainGlobals "NotPlain" = some (some (.ref 109)):=by kernel_rfl
theorem g_NoPlan (P:Params):PySem.W.nsIn (KX P) mainGlobals "NoPlan" = some (some (.ref 121)):=by kernel_rfl
theorem g_NoDealings (P:Params):PySem.W.nsIn (KX P) mainGlobals "NoDealings" = some (some (.ref 133)):=by kernel_rfl
theorem g_NoRow (P:Params):PySem.W.nsIn (KX P) mainGlobals "NoRow" = some (some (.ref 145)):=by kernel_rfl
theorem g_is_whole (P:Params):PySem.W.nsIn (KX P) mainGlobals "is_whole" = some (some (.ref 154)):=by kernel_rfl
theorem g_deeds (P:Params):PySem.W.nsIn (KX P) mainGlobals "deeds" = some (some (.ref 161)):=by kernel_rfl
theorem g_FIRST_WRITE (P:Params):PySem.W.nsIn (KX P) mainGlobals "FIRST_WRITE" = some (some (.ref 162)):=by kernel_rfl
theorem g_plain_deeds (P:Params):PySem.W.nsIn (KX P) mainGlobals "plain_deeds" = some (some (.ref 167)):=by kernel_rfl
theorem g_are_plain (P:Params):PySem.W.nsIn (KX P) mainGlobals "are_plain" = some (some (.ref 172)):=by kernel_rfl
theorem g_is_answered (P:Params):PySem.W.nsIn (KX P) mainGlobals "is_answered" = some (some (.ref 179)):=by kernel_rfl
theorem g_writers (P:Params):PySem.W.nsIn (KX P) mainGlobals "writers" = some (some (.ref 186)):=by kernel_rfl
theorem g_ended_reads (P:Params):PySem.W.nsIn (KX P) mainGlobals "ended_reads" = some (some (.ref 191)):=by kernel_rfl
theorem g_lone_writer_deeds (P:Params):PySem.W.nsIn (KX P) mainGlobals "lone_writer_deeds" = some (some (.ref 196)):=by kernel_rfl
theorem g_is_regular (P:Params):PySem.W.nsIn (KX P) mainGlobals "is_regular" = some (some (.ref 203)):=by kernel_rfl
theorem g_is_safe (P:Params):PySem.W.nsIn (KX P) mainGlobals "is_safe" = some (some (.ref 210)):=by kernel_rfl
theorem g_writes_beside (P:Params):PySem.W.nsIn (KX P) mainGlobals "writes_beside" = some (some (.ref 215)):=by kernel_rfl
theorem g_last_ahead (P:Params):PySem.W.nsIn (KX P) mainGlobals "last_ahead" = some (some (.ref 220)):=by kernel_rfl
theorem g_turn_about (P:Params):PySem.W.nsIn (KX P) mainGlobals "turn_about" = some (some (.ref 225)):=by kernel_rfl
theorem g__law_cell_at (P:Params):PySem.W.nsIn (KX P) mainGlobals "_law_cell_at" = some (some (.ref 232)):=by kernel_rfl
theorem g__law_stream (P:Params):PySem.W.nsIn (KX P) mainGlobals "_law_stream" = some (some (.ref 239)):=by kernel_rfl
theorem g__law_take (P:Params):PySem.W.nsIn (KX P) mainGlobals "_law_take" = some (some (.ref 246)):=by kernel_rfl
theorem g__law_worth (P:Params):PySem.W.nsIn (KX P) mainGlobals "_law_worth" = some (some (.ref 253)):=by kernel_rfl
theorem g__law_name (P:Params):PySem.W.nsIn (KX P) mainGlobals "_law_name" = some (some (.ref 260)):=by kernel_rfl
theorem g__law_fresh (P:Params):PySem.W.nsIn (KX P) mainGlobals "_law_fresh" = some (some (.ref 267)):=by kernel_rfl
theorem g__law_answer (P:Params):PySem.W.nsIn (KX P) mainGlobals "_law_answer" = some (some (.ref 274)):=by kernel_rfl
theorem g__law_events (P:Params):PySem.W.nsIn (KX P) mainGlobals "_law_events" = some (some (.ref 281)):=by kernel_rfl
theorem g__law_tale (P:Params):PySem.W.nsIn (KX P) mainGlobals "_law_tale" = some (some (.ref 288)):=by kernel_rfl
theorem g__law_begins (P:Params):PySem.W.nsIn (KX P) mainGlobals "_law_begins" = some (some (.ref 293)):=by kernel_rfl
theorem g__law_end_of (P:Params):PySem.W.nsIn (KX P) mainGlobals "_law_end_of" = some (some (.ref 300)):=by kernel_rfl
theorem g__law_answered (P:Params):PySem.W.nsIn (KX P) mainGlobals "_law_answered" = some (some (.ref 307)):=by kernel_rfl
theorem g__law_closed (P:Params):PySem.W.nsIn (KX P) mainGlobals "_law_closed" = some (some (.ref 312)):=by kernel_rfl
theorem g__law_more (P:Params):PySem.W.nsIn (KX P) mainGlobals "_law_more" = some (some (.ref 319)):=by kernel_rfl
theorem g__law_beside (P:Params):PySem.W.nsIn (KX P) mainGlobals "_law_beside" = some (some (.ref 326)):=by kernel_rfl
theorem g__law_turned (P:Params):PySem.W.nsIn (KX P) mainGlobals "_law_turned" = some (some (.ref 331)):=by kernel_rfl
theorem g__law_asked (P:Params):PySem.W.nsIn (KX P) mainGlobals "_law_asked" = some (some (.ref 338)):=by kernel_rfl
theorem g__law_refused (P:Params):PySem.W.nsIn (KX P) mainGlobals "_law_refused" = some (some (.ref 345)):=by kernel_rfl
theorem g_law (P:Params):PySem.W.nsIn (KX P) mainGlobals "law" = some (some (.ref 352)):=by kernel_rfl
theorem x_NotPlain (P:Params):PySem.W.excIn (KX P) 109 [.type "ValueError",.type "Exception",.type "BaseException",.type "object"] "ValueError.__new__" = true:=by kernel_rfl
theorem xc_NotPlain (P:Params):excCls (KX P) 109=true:=by kernel_rfl
noncomputable abbrev st_is_whole:Stmt:=top 13
noncomputable abbrev fd_is_whole:FuncData:=fnX "is_whole" "is_whole" (top 13) "talejudge.basics" 367 153
theorem F_is_whole (P:Params):Fun (KX P) "is_whole" "is_whole" st_is_whole 154 fd_is_whole:=fun_mkX
theorem b_is_whole (P:Params):Binds (KX P) fd_is_whole ["value"] []:=(F_is_whole P).binds fun _ _ _ _ _ _=>us1 fun _=>rfl
theorem sc_is_whole:FnScope ["value"] ["value"] (defScope st_is_whole):=⟨rfl,rfl,rfl,by decide +kernel,rfl,by decide +kernel,by decide +kernel⟩
noncomputable abbrev st_deeds:Stmt:=top 15
noncomputable abbrev fd_deeds:FuncData:=fnX "deeds" "deeds" (top 15) "talejudge.tales" 376 160
theorem F_deeds (P:Params):Fun (KX P) "deeds" "deeds" st_deeds 161 fd_deeds:=fun_mkX
theorem b_deeds (P:Params):Binds (KX P) fd_deeds ["tale"] []:=(F_deeds P).binds fun _ _ _ _ _ _=>us1 fun _=>rfl
theorem sc_deeds:FnScope ["tale","told","numbers","place","event","number","begun"] ["tale"] (defScope st_deeds):=⟨rfl,rfl,rfl,by decide +kernel,rfl,by decide +kernel,by decide +kernel⟩
noncomputable abbrev st_plain_deeds:Stmt:=top 18
noncomputable abbrev fd_plain_deeds:FuncData:=fnX "plain_deeds" "plain_deeds" (top 18) "talejudge.zones" 391 166
theorem F_plain_deeds (P:Params):Fun (KX P) "plain_deeds" "plain_deeds" st_plain_deeds 167 fd_plain_deeds:=fun_mkX
theorem b_plain_deeds (P:Params):Binds (KX P) fd_plain_deeds ["tale"] []:=(F_plain_deeds P).binds fun _ _ _ _ _ _=>us1 fun _=>rfl
theorem sc_plain_deeds:FnScope ["tale","told"] ["tale"] (defScope st_plain_deeds):=⟨rfl,rfl,rfl,by decide +kernel,rfl,by decide +kernel,by decide +kernel⟩
noncomputable abbrev st_are_plain:Stmt:=top 19
noncomputable abbrev fd_are_plain:FuncData:=fnX "are_plain" "are_plain" (top 19) "talejudge.zones" 391 171
theorem F_are_plain (P:Params):Fun (KX P) "are_plain" "are_plain" st_are_plain 172 fd_are_plain:=fun_mkX
theorem b_are_plain (P:Params):Binds (KX P) fd_are_plain ["told"] []:=(F_are_plain P).binds fun _ _ _ _ _ _=>us1 fun _=>rfl
theorem sc_are_plain:FnScope ["told","worths"] ["told"] (defScope st_are_plain):=⟨rfl,rfl,rfl,by decide +kernel,rfl,by decide +kernel,by decide +kernel⟩
noncomputable abbrev st_is_answered:Stmt:=top 20
noncomputable abbrev fd_is_answered:FuncData:=fnX "is_answered" "is_answered" (top 20) "talejudge.zones" 391 178
theorem F_is_answered (P:Params):Fun (KX P) "is_answered" "is_answered" st_is_answered 179 fd_is_answered:=fun_mkX
theorem b_is_answered (P:Params):Binds (KX P) fd_is_answered ["deed"] []:=(F_is_answered P).binds fun _ _ _ _ _ _=>us1 fun _=>rfl
theorem sc_is_answered:FnScope ["deed"] ["deed"] (defScope st_is_answered):=⟨rfl,rfl,rfl,by decide +kernel,rfl,by decide +kernel,by decide +kernel⟩
noncomputable abbrev st_writers:Stmt:=top 21
noncomputable abbrev fd_writers:FuncData:=fnX "writers" "writers" (top 21) "talejudge.zones" 391 185
theorem F_writers (P:Params):Fun (KX P) "writers" "writers" st_writers 186 fd_writers:=fun_mkX
theorem b_writers (P:Params):Binds (KX P) fd_writers ["told"] []:=(F_writers P).binds fun _ _ _ _ _ _=>us1 fun _=>rfl
theorem sc_writers:FnScope ["told","found","deed"] ["told"] (defScope st_writers):=⟨rfl,rfl,rfl,by decide +kernel,rfl,by decide +kernel,by decide +kernel⟩
noncomputable abbrev st_ended_reads:Stmt:=top 22
noncomputable abbrev fd_ended_reads:FuncData:=fnX "ended_reads" "ended_reads" (top 22) "talejudge.zones" 391 190
theorem F_ended_reads (P:Params):Fun (KX P) "ended_reads" "ended_reads" st_ended_reads 191 fd_ended_reads:=fun_mkX
theorem b_ended_reads (P:Params):Binds (KX P) fd_ended_reads ["told"] []:=(F_ended_reads P).binds fun _ _ _ _ _ _=>us1 fun _=>rfl
theorem sc_ended_reads:FnScope ["told"] ["told"] (defScope st_ended_reads):=⟨rfl,rfl,rfl,by decide +kernel,rfl,by decide +kernel,by decide +kernel⟩
noncomputable abbrev st_lone_writer_deeds:Stmt:=top 24
noncomputable abbrev fd_lone_writer_deeds:FuncData:=fnX "lone_writer_deeds" "lone_writer_deeds" (top 24) "talejudge.weaker" 432 195
theorem F_lone_writer_deeds (P:Params):Fun (KX P) "lone_writer_deeds" "lone_writer_deeds" st_lone_writer_deeds 196 fd_lone_writer_deeds:=fun_mkX
theorem b_lone_writer_deeds (P:Params):Binds (KX P) fd_lone_writer_deeds ["tale"] []:=(F_lone_writer_deeds P).binds fun _ _ _ _ _ _=>us1 fun _=>rfl
theorem sc_lone_writer_deeds:FnScope ["tale","told"] ["tale"] (defScope st_lone_writer_deeds):=⟨rfl,rfl,rfl,by decide +kernel,rfl,by decide +kernel,by decide +kernel⟩
noncomputable abbrev st_is_regular:Stmt:=top 25
noncomputable abbrev fd_is_regular:FuncData:=fnX "is_regular" "is_regular" (top 25) "talejudge.weaker" 432 202
theorem F_is_regular (P:Params):Fun (KX P) "is_regular" "is_regular" st_is_regular 203 fd_is_regular:=fun_mkX
theorem b_is_regular (P:Params):Binds (KX P) fd_is_regular ["tale"] []:=(F_is_regular P).binds fun _ _ _ _ _ _=>us1 fun _=>rfl
theorem sc_is_regular:FnScope ["tale","told","written","number","read"] ["tale"] (defScope st_is_regular):=⟨rfl,rfl,rfl,by decide +kernel,rfl,by decide +kernel,by decide +kernel⟩
noncomputable abbrev st_is_safe:Stmt:=top 26
noncomputable abbrev fd_is_safe:FuncData:=fnX "is_safe" "is_safe" (top 26) "talejudge.weaker" 432 209
theorem F_is_safe (P:Params):Fun (KX P) "is_safe" "is_safe" st_is_safe 210 fd_is_safe:=fun_mkX
theorem b_is_safe (P:Params):Binds (KX P) fd_is_safe ["tale"] []:=(F_is_safe P).binds fun _ _ _ _ _ _=>us1 fun _=>rfl
theorem sc_is_safe:FnScope ["tale","told","written","number","read"] ["tale"] (defScope st_is_safe):=⟨rfl,rfl,rfl,by decide +kernel,rfl,by decide +kernel,by decide +kernel⟩
noncomputable abbrev st_writes_beside:Stmt:=top 27
noncomputable abbrev fd_writes_beside:FuncData:=fnX "writes_beside" "writes_beside" (top 27) "talejudge.weaker" 432 214
theorem F_writes_beside (P:Params):Fun (KX P) "writes_beside" "writes_beside" st_writes_beside 215 fd_writes_beside:=fun_mkX
theorem b_writes_beside (P:Params):Binds (KX P) fd_writes_beside ["written","read"] []:=(F_writes_beside P).binds fun _ _ _ _ _ _=>us2 fun _ _=>rfl
theorem sc_writes_beside:FnScope ["written","read","begun"] ["written","read"] (defScope st_writes_beside):=⟨rfl,rfl,rfl,by decide +kernel,rfl,by decide +kernel,by decide +kernel⟩
noncomputable abbrev st_last_ahead:Stmt:=top 28
noncomputable abbrev fd_last_ahead:FuncData:=fnX "last_ahead" "last_ahead" (top 28) "talejudge.weaker" 432 219
theorem F_last_ahead (P:Params):Fun (KX P) "last_ahead" "last_ahead" st_last_ahead 220 fd_last_ahead:=fun_mkX
theorem b_last_ahead (P:Params):Binds (KX P) fd_last_ahead ["written","read"] []:=(F_last_ahead P).binds fun _ _ _ _ _ _=>us2 fun _ _=>rfl
theorem sc_last_ahead:FnScope ["written","read"] ["written","read"] (defScope st_last_ahead):=⟨rfl,rfl,rfl,by decide +kernel,rfl,by decide +kernel,by decide +kernel⟩
noncomputable abbrev st_turn_about:Stmt:=top 29
noncomputable abbrev fd_turn_about:FuncData:=fnX "turn_about" "turn_about" (top 29) "talejudge.weaker" 432 224
theorem F_turn_about (P:Params):Fun (KX P) "turn_about" "turn_about" st_turn_about 225 fd_turn_about:=fun_mkX
theorem b_turn_about (P:Params):Binds (KX P) fd_turn_about ["tale"] []:=(F_turn_about P).binds fun _ _ _ _ _ _=>us1 fun _=>rfl
theorem sc_turn_about:FnScope ["tale","told","written","reads","number","read","behind","other"] ["tale"] (defScope st_turn_about):=⟨rfl,rfl,rfl,by decide +kernel,rfl,by decide +kernel,by decide +kernel⟩
noncomputable abbrev st__law_cell_at:Stmt:=top 31
noncomputable abbrev fd__law_cell_at:FuncData:=fnX "_law_cell_at" "_law_cell_at" (top 31) "law_talejudge_k22_not_plain" 480 231
theorem F__law_cell_at (P:Params):Fun (KX P) "_law_cell_at" "_law_cell_at" st__law_cell_at 232 fd__law_cell_at:=fun_mkX
theorem b__law_cell_at (P:Params):Binds (KX P) fd__law_cell_at ["script","k"] []:=(F__law_cell_at P).binds fun _ _ _ _ _ _=>us2 fun _ _=>rfl
theorem sc__law_cell_at:FnScope ["script","k"] ["script","k"] (defScope st__law_cell_at):=⟨rfl,rfl,rfl,by decide +kernel,rfl,by decide +kernel,by decide +kernel⟩
noncomputable abbrev st__law_stream:Stmt:=top 32
noncomputable abbrev fd__law_stream:FuncData:=fnX "_law_stream" "_law_stream" (top 32) "law_talejudge_k22_not_plain" 480 238
theorem F__law_stream (P:Params):Fun (KX P) "_law_stream" "_law_stream" st__law_stream 239 fd__law_stream:=fun_mkX
theorem b__law_stream (P:Params):Binds (KX P) fd__law_stream ["cell","way"] []:=(F__law_stream P).binds fun _ _ _ _ _ _=>us2 fun _ _=>rfl
theorem sc__law_stream:FnScope ["cell","way","low"] ["cell","way"] (defScope st__law_stream):=⟨rfl,rfl,rfl,by decide +kernel,rfl,by decide +kernel,by decide +kernel⟩
noncomputable abbrev st__law_take:Stmt:=top 33
noncomputable abbrev fd__law_take:FuncData:=fnX "_law_take" "_law_take" (top 33) "law_talejudge_k22_not_plain" 480 245
theorem F__law_take (P:Params):Fun (KX P) "_law_take" "_law_take" st__law_take 246 fd__law_take:=fun_mkX
theorem b__law_take (P:Params):Binds (KX P) fd__law_take ["row","many"] []:=(F__law_take P).binds fun _ _ _ _ _ _=>us2 fun _ _=>rfl
theorem sc__law_take:FnScope ["row","many","told"] ["row","many"] (defScope st__law_take):=⟨rfl,rfl,rfl,by decide +kernel,rfl,by decide +kernel,by decide +kernel⟩
noncomputable abbrev st__law_worth:Stmt:=top 34
noncomputable abbrev fd__law_worth:FuncData:=fnX "_law_worth" "_law_worth" (top 34) "law_talejudge_k22_not_plain" 480 252
theorem F__law_worth (P:Params):Fun (KX P) "_law_worth" "_law_worth" st__law_worth 253 fd__law_worth:=fun_mkX
theorem b__law_worth (P:Params):Binds (KX P) fd__law_worth ["row"] []:=(F__law_worth P).binds fun _ _ _ _ _ _=>us1 fun _=>rfl
theorem sc__law_worth:FnScope ["row","kind"] ["row"] (defScope st__law_worth):=⟨rfl,rfl,rfl,by decide +kernel,rfl,by decide +kernel,by decide +kernel⟩
noncomputable abbrev st__law_name:Stmt:=top 35
noncomputable abbrev fd__law_name:FuncData:=fnX "_law_name" "_law_name" (top 35) "law_talejudge_k22_not_plain" 480 259
theorem F__law_name (P:Params):Fun (KX P) "_law_name" "_law_name" st__law_name 260 fd__law_name:=fun_mkX
theorem b__law_name (P:Params):Binds (KX P) fd__law_name ["row"] []:=(F__law_name P).binds fun _ _ _ _ _ _=>us1 fun _=>rfl
theorem sc__law_name:FnScope ["row","letters","name","k"] ["row"] (defScope st__law_name):=⟨rfl,rfl,rfl,by decide +kernel,rfl,by decide +kernel,by decide +kernel⟩
noncomputable abbrev st__law_fresh:Stmt:=top 36
noncomputable abbrev fd__law_fresh:FuncData:=fnX "_law_fresh" "_law_fresh" (top 36) "law_talejudge_k22_not_plain" 480 266
theorem F__law_fresh (P:Params):Fun (KX P) "_law_fresh" "_law_fresh" st__law_fresh 267 fd__law_fresh:=fun_mkX
theorem b__law_fresh (P:Params):Binds (KX P) fd__law_fresh ["row","used"] []:=(F__law_fresh P).binds fun _ _ _ _ _ _=>us2 fun _ _=>rfl
theorem sc__law_fresh:FnScope ["row","used","worth"] ["row","used"] (defScope st__law_fresh):=⟨rfl,rfl,rfl,by decide +kernel,rfl,by decide +kernel,by decide +kernel⟩
noncomputable abbrev st__law_answer:Stmt:=top 37
noncomputable abbrev fd__law_answer:FuncData:=fnX "_law_answer" "_law_answer" (top 37) "law_talejudge_k22_not_plain" 480 273
theorem F__law_answer (P:Params):Fun (KX P) "_law_answer" "_law_answer" st__law_answer 274 fd__law_answer:=fun_mkX
theorem b__law_answer (P:Params):Binds (KX P) fd__law_answer ["row","worths"] []:=(F__law_answer P).binds fun _ _ _ _ _ _=>us2 fun _ _=>rfl
theorem sc__law_answer:FnScope ["row","worths","kind","back"] ["row","worths"] (defScope st__law_answer):=⟨rfl,rfl,rfl,by decide +kernel,rfl,by decide +kernel,by decide +kernel⟩
noncomputable abbrev st__law_events:Stmt:=top 38
noncomputable abbrev fd__law_events:FuncData:=fnX "_law_events" "_law_events" (top 38) "law_talejudge_k22_not_plain" 480 280
theorem F__law_events (P:Params):Fun (KX P) "_law_events" "_law_events" st__law_events 281 fd__law_events:=fun_mkX
theorem b__law_events (P:Params):Binds (KX P) fd__law_events ["cells","way","head","name"] []:=(F__law_events P).binds fun _ _ _ _ _ _=>us4 fun _ _ _ _=>rfl
theorem sc__law_events:FnScope ["cells","way","head","name","hands","writer","used","worths","busy","events","cell","row","hand","answer"] ["cells","way","head","name"] (defScope st__law_events):=⟨rfl,rfl,rfl,by decide +kernel,rfl,by decide +kernel,by decide +kernel⟩
noncomputable abbrev st__law_tale:Stmt:=top 39
noncomputable abbrev fd__law_tale:FuncData:=fnX "_law_tale" "_law_tale" (top 39) "law_talejudge_k22_not_plain" 480 287
theorem F__law_tale (P:Params):Fun (KX P) "_law_tale" "_law_tale" st__law_tale 288 fd__law_tale:=fun_mkX
theorem b__law_tale (P:Params):Binds (KX P) fd__law_tale ["script","most"] []:=(F__law_tale P).binds fun _ _ _ _ _ _=>us2 fun _ _=>rfl
theorem sc__law_tale:FnScope ["script","most","first","head","name"] ["script","most"] (defScope st__law_tale):=⟨rfl,rfl,rfl,by decide +kernel,rfl,by decide +kernel,by decide +kernel⟩
noncomputable abbrev st__law_begins:Stmt:=top 40
noncomputable abbrev fd__law_begins:FuncData:=fnX "_law_begins" "_law_begins" (top 40) "law_talejudge_k22_not_plain" 480 292
theorem F__law_begins (P:Params):Fun (KX P) "_law_begins" "_law_begins" st__law_begins 293 fd__law_begins:=fun_mkX
theorem b__law_begins (P:Params):Binds (KX P) fd__law_begins ["events","verb"] []:=(F__law_begins P).binds fun _ _ _ _ _ _=>us2 fun _ _=>rfl
theorem sc__law_begins:FnScope ["events","verb"] ["events","verb"] (defScope st__law_begins):=⟨rfl,rfl,rfl,by decide +kernel,rfl,by decide +kernel,by decide +kernel⟩
noncomputable abbrev st__law_end_of:Stmt:=top 41
noncomputable abbrev fd__law_end_of:FuncData:=fnX "_law_end_of" "_law_end_of" (top 41) "law_talejudge_k22_not_plain" 480 299
theorem F__law_end_of (P:Params):Fun (KX P) "_law_end_of" "_law_end_of" st__law_end_of 300 fd__law_end_of:=fun_mkX
theorem b__law_end_of (P:Params):Binds (KX P) fd__law_end_of ["events","at"] []:=(F__law_end_of P).binds fun _ _ _ _ _ _=>us2 fun _ _=>rfl
theorem sc__law_end_of:FnScope ["events","at","k"] ["events","at"] (defScope st__law_end_of):=⟨rfl,rfl,rfl,by decide +kernel,rfl,by decide +kernel,by decide +kernel⟩
noncomputable abbrev st__law_answered:Stmt:=top 42
noncomputable abbrev fd__law_answered:FuncData:=fnX "_law_answered" "_law_answered" (top 42) "law_talejudge_k22_not_plain" 480 306
theorem F__law_answered (P:Params):Fun (KX P) "_law_answered" "_law_answered" st__law_answered 307 fd__law_answered:=fun_mkX
theorem b__law_answered (P:Params):Binds (KX P) fd__law_answered ["events","at","answer"] []:=(F__law_answered P).binds fun _ _ _ _ _ _=>us3 fun _ _ _=>rfl
theorem sc__law_answered:FnScope ["events","at","answer","end","found"] ["events","at","answer"] (defScope st__law_answered):=⟨rfl,rfl,rfl,by decide +kernel,rfl,by decide +kernel,by decide +kernel⟩
noncomputable abbrev st__law_closed:Stmt:=top 43
noncomputable abbrev fd__law_closed:FuncData:=fnX "_law_closed" "_law_closed" (top 43) "law_talejudge_k22_not_plain" 480 311
theorem F__law_closed (P:Params):Fun (KX P) "_law_closed" "_law_closed" st__law_closed 312 fd__law_closed:=fun_mkX
theorem b__law_closed (P:Params):Binds (KX P) fd__law_closed ["events","hand"] []:=(F__law_closed P).binds fun _ _ _ _ _ _=>us2 fun _ _=>rfl
theorem sc__law_closed:FnScope ["events","hand","found","mine"] ["events","hand"] (defScope st__law_closed):=⟨rfl,rfl,rfl,by decide +kernel,rfl,by decide +kernel,by decide +kernel⟩
noncomputable abbrev st__law_more:Stmt:=top 44
noncomputable abbrev fd__law_more:FuncData:=fnX "_law_more" "_law_more" (top 44) "law_talejudge_k22_not_plain" 480 318
theorem F__law_more (P:Params):Fun (KX P) "_law_more" "_law_more" st__law_more 319 fd__law_more:=fun_mkX
theorem b__law_more (P:Params):Binds (KX P) fd__law_more ["events","name","hand","worth","ended"] []:=(F__law_more P).binds fun _ _ _ _ _ _=>us5 fun _ _ _ _ _=>rfl
theorem sc__law_more:FnScope ["events","name","hand","worth","ended","found"] ["events","name","hand","worth","ended"] (defScope st__law_more):=⟨rfl,rfl,rfl,by decide +kernel,rfl,by decide +kernel,by decide +kernel⟩
noncomputable abbrev st__law_beside:Stmt:=top 45
noncomputable abbrev fd__law_beside:FuncData:=fnX "_law_beside" "_law_beside" (top 45) "law_talejudge_k22_not_plain" 480 325
theorem F__law_beside (P:Params):Fun (KX P) "_law_beside" "_law_beside" st__law_beside 326 fd__law_beside:=fun_mkX
theorem b__law_beside (P:Params):Binds (KX P) fd__law_beside ["tale","row"] []:=(F__law_beside P).binds fun _ _ _ _ _ _=>us2 fun _ _=>rfl
theorem sc__law_beside:FnScope ["tale","row","things","events","name","other","kind","acts","verb","worth","found"] ["tale","row"] (defScope st__law_beside):=⟨rfl,rfl,rfl,by decide +kernel,rfl,by decide +kernel,by decide +kernel⟩
noncomputable abbrev st__law_turned:Stmt:=top 46
noncomputable abbrev fd__law_turned:FuncData:=fnX "_law_turned" "_law_turned" (top 46) "law_talejudge_k22_not_plain" 480 330
theorem F__law_turned (P:Params):Fun (KX P) "_law_turned" "_law_turned" st__law_turned 331 fd__law_turned:=fun_mkX
theorem b__law_turned (P:Params):Binds (KX P) fd__law_turned ["tale","row"] []:=(F__law_turned P).binds fun _ _ _ _ _ _=>us2 fun _ _=>rfl
theorem sc__law_turned:FnScope ["tale","row","things","events","name","writes","reads","kind","ended","used","fresh","writer"] ["tale","row"] (defScope st__law_turned):=⟨rfl,rfl,rfl,by decide +kernel,rfl,by decide +kernel,by decide +kernel⟩
noncomputable abbrev st__law_asked:Stmt:=top 47
noncomputable abbrev fd__law_asked:FuncData:=fnX "_law_asked" "_law_asked" (top 47) "law_talejudge_k22_not_plain" 480 337
theorem F__law_asked (P:Params):Fun (KX P) "_law_asked" "_law_asked" st__law_asked 338 fd__law_asked:=fun_mkX
theorem b__law_asked (P:Params):Binds (KX P) fd__law_asked ["tale","which"] []:=(F__law_asked P).binds fun _ _ _ _ _ _=>us2 fun _ _=>rfl
theorem sc__law_asked:FnScope ["tale","which"] ["tale","which"] (defScope st__law_asked):=⟨rfl,rfl,rfl,by decide +kernel,rfl,by decide +kernel,by decide +kernel⟩
noncomputable abbrev st__law_refused:Stmt:=top 48
noncomputable abbrev fd__law_refused:FuncData:=fnX "_law_refused" "_law_refused" (top 48) "law_talejudge_k22_not_plain" 480 344
theorem F__law_refused (P:Params):Fun (KX P) "_law_refused" "_law_refused" st__law_refused 345 fd__law_refused:=fun_mkX
theorem b__law_refused (P:Params):Binds (KX P) fd__law_refused ["tale","which"] []:=(F__law_refused P).binds fun _ _ _ _ _ _=>us2 fun _ _=>rfl
theorem sc__law_refused:FnScope ["tale","which","right","e"] ["tale","which"] (defScope st__law_refused):=⟨rfl,rfl,rfl,by decide +kernel,rfl,by decide +kernel,by decide +kernel⟩
noncomputable abbrev st_law:Stmt:=top 49
noncomputable abbrev fd_law:FuncData:=fnX "law" "law" (top 49) "law_talejudge_k22_not_plain" 480 351
theorem F_law (P:Params):Fun (KX P) "law" "law" st_law 352 fd_law:=fun_mkX
theorem sc_law:FnScope ["script","tale","row","turned","which"] ["script"] (defScope st_law):=⟨rfl,rfl,rfl,by decide +kernel,rfl,by decide +kernel,by decide +kernel⟩
section
variable {P:Program} {w:World} {mg:Str→Option Value} {base:Heap}
def sp__law_cell_at (K:PySem.W.Frag):Sp:=fun vs H Q _=>∃(a:Addr) (ns:List Int) (k:Nat),vs=[.ref a,.int (k:Nat)]∧SqL K H a (ns.map V.int)∧∀i,Q (.int i) H
theorem ok__law_cell_at (T:TX (KX w.params) mg):FnOk P w (KX w.params) mg base CX0 1 232 fd__law_cell_at ["script","k"] (sp__law_cell_at (KX w.params)):=by
 refine (F__law_cell_at w.params).ok sc__law_cell_at (fun vs H Q E h=>?_) (fun cdv A outer s H vs Q E hr h=>?_)
 ·obtain ⟨a,ns,k,rfl,_⟩:=h
  rfl
 ·obtain ⟨a,ns,k,rfl,sq,q⟩:=h
  refine ⟨_,(pss_cons (ps_if (pt_cmpR op_lt (pv 1) (pe_callB callLen rfl (T.no (n_len _)) boot_len (pa_cons (pv 0) pa_nil)) (nomark _))
   (pss_one (ps_ret (pe_ix ix_seq (pv 0) (pv 1) (fun _ _=>rfl))))
   pss_nil)
   (pss_one (ps_ret pe_int))),?_⟩
  refine sq_if ?_
  refine ⟨_,rfl,_,rfl,.inl ⟨a,_,rfl,.inl sq,_,_,rfl,rfl,_,rfl,?_⟩⟩
  by_cases z:k < ns.length
  ·refine iteP (decide_eq_true (by rw [List.length_map];omega)) ?_
   refine ⟨_,rfl,_,rfl,.inl ⟨a,_,k,.int ns[k],rfl,rfl,sq,atI_nat (by rw [List.getElem?_map,List.getElem?_eq_getElem z];rfl),q _⟩⟩
  ·exact iteN (fun e=>z (by have:=of_decide_eq_true e;rw [List.length_map] at this;omega)) (t_nx (sq_ret (q 0)))
def sp__law_stream:Sp:=fun vs H Q _=>∃(c d:Int),vs=[.int c,.int d]∧∀p t,H p=none→0≤t→t < 536870909→Q (.ref p) (upd H p (.lst [.int c,.int d,.int t]))
theorem ok__law_stream (T:TX (KX w.params) mg):FnOk P w (KX w.params) mg base CX0 1 239 fd__law_stream ["cell","way"] sp__law_stream:=by
 refine (F__law_stream w.params).ok sc__law_stream (fun vs H Q E h=>?_) (fun cdv A outer s H vs Q E hr h=>?_)
 ·obtain ⟨c,d,rfl,_⟩:=h
  rfl
 ·obtain ⟨c,d,rfl,q⟩:=h
  refine ⟨_,(pss_cons (ps_set (i:=2) sc__law_stream.nd rfl (by first|exact Or.inl rfl|exact Or.inr rfl) (pe_op op_mod (pv 0) pe_int))
   (pss_one (ps_ret (pe_lst (pa_cons (pv 0) (pa_cons (pv 1) (pa_cons (pe_op op_mod (pe_op opAdd (pe_op op_mul (pe_op op_mod (pe_op op_mul (pv 2) (pv 2)) pe_int) (pe_op opAdd (pv 2) pe_int)) pe_int) pe_int) pa_nil))))))),?_⟩
  have h0:0≤c % 536870909:=Int.emod_nonneg _ (by decide)
  have h1:c % 536870909 < 536870909:=Int.emod_lt_of_pos _ (by decide)
  refine ⟨_,rfl,_,_,rfl,rfl,(show (0:Int) < 536870909 by decide),?_⟩
  refine ⟨_,rfl,_,rfl,_,rfl,_,rfl,_,_,rfl,rfl,.inl ⟨by omega,by omega⟩,_,_,rfl,rfl,(show (0:Int) < 536870909 by decide),?_⟩
  have h2:0≤(c % 536870909 * (c % 536870909)) % 536870909:=Int.emod_nonneg _ (by decide)
  have h3:(c % 536870909 * (c % 536870909)) % 536870909 < 536870909:=Int.emod_lt_of_pos _ (by decide)
  refine ⟨_,rfl,.inl ⟨_,_,rfl,rfl,_,_,rfl,rfl,.inl ⟨by omega,by omega⟩,.inl ⟨_,_,rfl,rfl,_,_,rfl,rfl,(show (0:Int) < 536870909 by decide),?_⟩⟩⟩
  exact ⟨(show (3:Nat)≤sizeLine by decide),fun p hp=>q p _ hp (Int.emod_nonneg _ (by decide)) (Int.emod_lt_of_pos _ (by decide))⟩
def sp__law_take:Sp:=fun vs H Q _=>∃(r:Addr) (m:Int),vs=[.ref r,.int m]∧RowAt H r∧0 < m∧m < 2 ^ 64∧∀t H',Rw r H H'→0≤t→t < m→Q (.int t) H'
theorem ok__law_take (T:TX (KX w.params) mg):FnOk P w (KX w.params) mg base CX0 1 246 fd__law_take ["row","many"] sp__law_take:=by
 refine (F__law_take w.params).ok sc__law_take (fun vs H Q E h=>?_) (fun cdv A outer s H vs Q E hr h=>?_)
 ·obtain ⟨r,m,rfl,_⟩:=h
  rfl
 ·obtain ⟨r,m,rfl,⟨a,b,c,e,hc0,hc1⟩,hm,hm',q⟩:=h
  refine ⟨_,(pss_cons (ps_if (PW.pt (pw_and (pt_cmpR opEq (pe_ix ix_seq (pv 0) pe_int (fun _ _=>rfl)) pe_int (nomark _)) (pw_and1 (pt_cmpR op_notIn_seq (pe_ix ix_seq (pv 0) pe_int (fun _ _=>rfl)) (pe_tup (pa_cons pe_int (pa_cons (pe_un un_neg pe_int) pa_nil))) (by with_unfolding_all rfl)))))
   (pss_cons (ps_set (i:=2) sc__law_take.nd rfl (by first|exact Or.inl rfl|exact Or.inr rfl) (pe_op op_mod (pe_ix ix_seq (pv 0) pe_int (fun _ _=>rfl)) (pv 1)))
   (pss_cons (ps_asg (pe_op op_fdivB (pe_ix ix_seq (pv 0) pe_int (fun _ _=>rfl)) (pv 1)) (pg_sub (pv 0) pe_int set_list))
   (pss_one (ps_ret (pv 2)))))
   pss_nil)
   (pss_cons (ps_asg (pe_op op_mod (pe_op op_mul (pe_op opAdd (pe_ix ix_seq (pv 0) pe_int (fun _ _=>rfl)) pe_int) (pe_op opAdd (pe_ix ix_seq (pv 0) pe_int (fun _ _=>rfl)) pe_int)) pe_int) (pg_sub (pv 0) pe_int set_list))
   (pss_one (ps_ret (pe_op op_mod (pe_op opAdd (pe_op op_mul (pe_ix ix_seq (pv 0) pe_int (fun _ _=>rfl)) pe_int) pe_int) (pv 1)))))),?_⟩
  have e0 :∀H1,Same H H1→SqL (KX w.params) H1 r [.int a,.int b,.int c]:=fun H1 s1=>SqL.of (s1 _ _ e)
  refine seq_if (fun H1=>Same H H1) (fun H1 s1=>?_) fun late=>?_
  ·have h0:0≤((c + 7919) * (c + 104729)) % 536870909:=Int.emod_nonneg _ (by decide)
   have h1:((c + 7919) * (c + 104729)) % 536870909 < 536870909:=Int.emod_lt_of_pos _ (by decide)
   refine ⟨_,rfl,.inl ⟨r,_,2,.int c,rfl,rfl,e0 H1 s1,rfl,.inl ⟨_,_,rfl,rfl,?_⟩⟩⟩
   refine ⟨_,rfl,.inl ⟨r,_,2,.int c,rfl,rfl,e0 H1 s1,rfl,.inl ⟨_,_,rfl,rfl,?_⟩⟩⟩
   refine ⟨_,_,rfl,rfl,.inl ⟨by omega,by omega⟩,_,_,rfl,rfl,(show (0:Int) < 536870909 by decide),?_⟩
   refine ⟨_,rfl,r,_,2,2,rfl,rfl,s1 _ _ e,rfl,?_⟩
   refine ⟨_,rfl,.inl ⟨r,_,2,.int _,rfl,rfl,SqL.of upd_same,rfl,?_⟩⟩
   refine ⟨_,_,rfl,rfl,.inl ⟨by omega,by omega⟩,.inl ⟨_,_,rfl,rfl,_,rfl,_,_,rfl,rfl,hm,?_⟩⟩
   exact q _ _ ⟨(Same.kept s1).trans .set,a,b,_,upd_same,h0,h1⟩ (Int.emod_nonneg _ (by omega)) (Int.emod_lt_of_pos _ hm)
  ·refine ⟨_,rfl,.inl ⟨r,_,1,.int b,rfl,rfl,SqL.of e,rfl,rfl,_,rfl,?_⟩⟩
   by_cases hb:b=0
   ·subst hb
    refine iteT ⟨_,rfl,.inl ⟨r,_,0,.int a,rfl,rfl,SqL.of e,rfl,?_⟩⟩
    refine ⟨_,rfl,(show (2:Nat)≤sizeLine by decide),fun p hp=>⟨p,_,rfl,.inr (SqT.of upd_same),rfl,rfl,_,rfl,?_⟩⟩
    have s1:Same H (upd H p (.tup [.int 0,.int (-1)])):=Same.upd hp
    refine ite2 (fun _=>?_) fun _=>late _ s1
    refine ⟨_,rfl,.inl ⟨r,_,0,.int a,rfl,rfl,e0 _ s1,rfl,_,rfl,_,_,rfl,rfl,hm,?_⟩⟩
    refine ⟨_,rfl,.inl ⟨r,_,0,.int a,rfl,rfl,e0 _ s1,rfl,_,rfl,_,_,rfl,rfl,⟨hm,hm'⟩,?_⟩⟩
    refine ⟨_,rfl,r,_,0,0,rfl,rfl,s1 _ _ e,rfl,?_⟩
    exact ⟨_,rfl,q _ _ ⟨(Same.kept s1).trans .set,_,_,c,upd_same,hc0,hc1⟩ (Int.emod_nonneg _ (by omega)) (Int.emod_lt_of_pos _ hm)⟩
   ·have:decide (V.int b=V.int 0)=false:=by simp [hb]
    rw [this]
    exact iteF (late _ (Same.refl H))
end
section
variable {P:Program} {w:World} {mg:Str→Option Value} {base:Heap}
theorem e9:(10:Int) ^ (9:Int).toNat=1000000000:=by decide
theorem p9:CPow 10 9:=⟨by decide,by decide,by decide⟩
def sp__law_worth:Sp:=fun vs H Q _=>∃r:Addr,vs=[.ref r]∧RowAt H r∧∀i H',Rw r H H'→-1000000000≤i→i≤1000000000→Q (.int i) H'
theorem ok__law_worth (T:TX (KX w.params) mg) (c__law_take:Cal P w (KX w.params) mg base "_law_take" ["row","many"] 1 sp__law_take):FnOk P w (KX w.params) mg base CX0 2 253 fd__law_worth ["row"] sp__law_worth:=by
 refine (F__law_worth w.params).ok sc__law_worth (fun vs H Q E h=>?_) (fun cdv A outer s H vs Q E hr h=>?_)
 ·obtain ⟨r,rfl,_⟩:=h
  rfl
 ·obtain ⟨r,rfl,R,q⟩:=h
  refine ⟨_,(pss_cons (ps_set (i:=1) sc__law_worth.nd rfl (by first|exact Or.inl rfl|exact Or.inr rfl) (pe_cal c__law_take (hr.mono (by first|decide|omega)) rfl (pa_cons (pv 0) (pa_cons pe_int pa_nil))))
   (pss_cons (ps_if (pt_cmpR opEq (pv 1) pe_int (nomark _))
   (pss_one (ps_ret (pe_op op_sub (pe_cal c__law_take (hr.mono (by first|decide|omega)) rfl (pa_cons (pv 0) (pa_cons (pe_op opAdd (pe_op op_mul pe_int (pe_op op_pow pe_int pe_int)) pe_int) pa_nil))) (pe_op op_pow pe_int pe_int))))
   pss_nil)
   (pss_cons (ps_if (pt_cmpR opEq (pv 1) pe_int (nomark _))
   (pss_one (ps_ret (pe_ix ix_seq (pe_lst (pa_cons (pe_op op_pow pe_int pe_int) (pa_cons (pe_un un_neg (pe_op op_pow pe_int pe_int)) (pa_cons (pe_op op_sub (pe_op op_pow pe_int pe_int) pe_int) (pa_cons (pe_op op_sub pe_int (pe_op op_pow pe_int pe_int)) pa_nil))))) (pe_cal c__law_take (hr.mono (by first|decide|omega)) rfl (pa_cons (pv 0) (pa_cons pe_int pa_nil))) (fun _ _=>rfl))))
   pss_nil)
   (pss_one (ps_ret (pe_op op_sub (pe_cal c__law_take (hr.mono (by first|decide|omega)) rfl (pa_cons (pv 0) (pa_cons pe_int pa_nil))) pe_int)))))),?_⟩
  refine ⟨_,rfl,r,4,rfl,R,by decide,by decide,fun t H1 w1 h0 h1=>?_⟩
  refine ⟨_,rfl,rfl,_,rfl,?_⟩
  refine ite2 (fun _=>?_) fun _=>?_
  ·refine ⟨_,rfl,_,_,rfl,rfl,p9,_,_,rfl,rfl,.inl ⟨by decide,by decide⟩,.inl ⟨_,_,rfl,rfl,r,_,rfl,w1.r,by decide,by decide,fun t2 H2 w2 h2 h3=>?_⟩⟩
   rw [e9] at h3
   refine ⟨_,_,rfl,rfl,p9,_,_,rfl,rfl,?_⟩
   rw [e9]
   exact q _ _ (w1.trans w2) (by omega) (by omega)
  ·refine ⟨_,rfl,rfl,_,rfl,?_⟩
   refine ite2 (fun _=>?_) fun _=>?_
   ·refine ⟨_,_,rfl,rfl,p9,_,_,rfl,rfl,p9,_,rfl,_,_,rfl,rfl,p9,_,_,rfl,rfl,_,_,rfl,rfl,p9,_,_,rfl,rfl,(show (4:Nat)≤sizeLine by decide),fun p hp=>?_⟩
    refine ⟨_,rfl,r,4,rfl,w1.r.same (Same.upd hp),by decide,by decide,fun t2 H2 w2 h2 h3=>?_⟩
    rw [e9] at w2
    obtain ⟨v,hv,hm⟩:=atI_of (xs:=[V.int 1000000000,.int (-1000000000),.int (1000000000 - 1),.int (1 - 1000000000)]) h2 h3
    refine .inl ⟨p,_,_,v,rfl,rfl,SqL.of (w2.k _ _ (w1.r.fresh hp) upd_same),hv,?_⟩
    have w3:Rw r H H2:=(w1.same (Same.upd hp)).trans w2
    simp only [List.mem_cons,List.not_mem_nil,or_false] at hm
    rcases hm with rfl|rfl|rfl|rfl<;>exact q _ _ w3 (by decide) (by decide)
   ·refine ⟨_,rfl,r,7,rfl,w1.r,by decide,by decide,fun t2 H2 w2 h2 h3=>?_⟩
    exact ⟨_,_,rfl,rfl,q _ _ (w1.trans w2) (by omega) (by omega)⟩
end
section
variable {P:Program} {w:World} {mg:Str→Option Value} {base:Heap}
inductive Ev
 | beg (h:Int) (n v x:V)
 | fin (h:Int) (a:V)
def EvAt (K:PySem.W.Frag) (H:Hp):Ev→V→Prop
 | .beg h n v x,y=>∃p,y=.ref p∧SqT K H p [.str "begin",.int h,n,v,x]
 | .fin h a,y=>∃p,y=.ref p∧SqT K H p [.str "end",.int h,a]
structure Rc where
 h:Int
 n:V
 v:V
 x:V
 a:V
 b:Nat
 e:Option Nat
def endV:Option Nat→V
 | none=>.non
 | some i=>.int i
def RcAt (K:PySem.W.Frag) (H:Hp) (r:Rc) (y:V):Prop:=∃p,y=.ref p∧SqT K H p [.int r.h,r.n,r.v,r.x,r.a,.int r.b,endV r.e]
def Tups (K:PySem.W.Frag) (H H':Hp):Prop:=∀a xs,SqT K H a xs→SqT K H' a xs
theorem Tups.of {K:PySem.W.Frag} {H H':Hp} (s:Same H H'):Tups K H H':=fun _ _ q=>s.seqT q
theorem Tups.trans {K:PySem.W.Frag} {H H1 H2:Hp} (a:Tups K H H1) (b:Tups K H1 H2):Tups K H H2:=fun _ _ q=>b _ _ (a _ _ q)
theorem Tups.lst {K:PySem.W.Frag} {H:Hp} {l:Addr} {o:HO} {zs:List V} (e:H l=some (.lst zs)):Tups K H (upd H l o):=fun _ _ q=>q.wrote e
theorem Tups.dict {K:PySem.W.Frag} {H:Hp} {l:Addr} {o:HO} {kvs:List (Key×V)} (e:H l=some (.dK kvs)):Tups K H (upd H l o):=fun a xs h=>by
 rcases h with (h|⟨ob,h⟩)|h
 ·exact .inl (.inl (by rw [upd_ne (ne_of h e (by intro z;cases z))];exact h))
 ·exact .inl (.inr ⟨ob,by rw [upd_ne (ne_of h e (by intro z;cases z))];exact h⟩)
 ·exact .inr h
theorem ixN_nat {n j:Nat} (h:j < n):ixN n (j:Nat)=some j:=by
 unfold ixN
 rw [if_pos (by omega),if_pos (by omega)]
 rfl
theorem Same.keep {H H':Hp} {l:Addr} {o:HO} (s:Same H H') (n:H l=none):Same H (upd H' l o):=fun a x e=>by
 rw [upd_ne (ne_of_none e n)]
 exact s a x e
theorem all2_snoc {α β:Type} {R:α→β→Prop} {x:α} {y:β} :∀{xs:List α} {ys:List β},All2 R xs ys→R x y→All2 R (xs++[x]) (ys++[y])
 | _,_,.nil,h=>.cons h .nil
 | _,_,.cons a r,h=>.cons a (all2_snoc r h)
theorem putK_len {κ:Type} [DecidableEq κ] {kvs:List (κ×V)} {k:κ} {v:V}:(putK kvs k v).length≤kvs.length + 1:=by
 unfold putK
 by_cases z:(kvs.any fun kv=>decide (kv.1=k))=true
 ·rw [if_pos z,List.length_map];omega
 ·rw [if_neg z,List.length_append];exact Nat.le_refl _
def lastI (h:Int) (hs:List Int):Option Nat:=(hs.foldl (fun (acc:Nat×Option Nat) k=>(acc.1 + 1,if k=h then some acc.1 else acc.2)) (0,none)).2
theorem lastF (h:Int) :∀hs:List Int,(hs.foldl (fun (acc:Nat×Option Nat) k=>(acc.1 + 1,if k=h then some acc.1 else acc.2)) (0,none)).1=hs.length:=by
 have go :∀(hs:List Int) (a:Nat×Option Nat),(hs.foldl (fun (acc:Nat×Option Nat) k=>(acc.1 + 1,if k=h then some acc.1 else acc.2)) a).1=a.1 + hs.length:=by
  intro hs
  induction hs with
  | nil=>intro a;rfl
  | cons k hs ih=>intro a;rw [List.foldl_cons,ih,List.length_cons];show a.1 + 1 + hs.length=_;omega
 intro hs
 rw [go hs (0,none)]
 simp
theorem lastI_snoc (h k:Int) (hs:List Int):lastI h (hs++[k])=if k=h then some hs.length else lastI h hs:=by
 unfold lastI
 rw [List.foldl_append]
 show (if k=h then some _ else _)=_
 rw [lastF]
theorem lastI_lt {h:Int} {hs:List Int} {j:Nat} (e:lastI h hs=some j):j < hs.length:=by
 have go :∀(hs:List Int) (a:Nat×Option Nat),(∀j,a.2=some j→j < a.1)→∀j,(hs.foldl (fun (acc:Nat×Option Nat) k=>(acc.1 + 1,if k=h then some acc.1 else acc.2)) a).2=some j→j < a.1 + hs.length:=by
  intro hs
  induction hs with
  | nil=>intro a ha j e;exact ha j e
  | cons k hs ih=>
   intro a ha j e
   rw [List.foldl_cons] at e
   have:=ih (a.1 + 1,if k=h then some a.1 else a.2) (fun j e=>by
    dsimp only at e⊢
    by_cases z:k=h
    ·rw [if_pos z] at e;cases e;omega
    ·rw [if_neg z] at e;have:=ha j e;omega) j e
   rw [List.length_cons]
   dsimp only at this
   omega
 have:=go hs (0,none) (fun j e=>by cases e) j e
 simpa using this
def dstep (i:Nat) (rs:List Rc):Ev→List Rc
 | .beg h n v x=>rs++[⟨h,n,v,x,.non,i,none⟩]
 | .fin h a=>match lastI h (rs.map Rc.h) with|some j=>rs.modify j (fun r=>{ r with a:=a,e:=some i })|none=>rs
def dAll:Nat→List Rc→List Ev→List Rc
 | _,rs,[]=>rs
 | i,rs,e :: es=>dAll (i + 1) (dstep i rs e) es
def dWf:Nat→List Rc→List Ev→Prop
 | _,_,[]=>True
 | i,rs,e :: es=>(∀h a,e=.fin h a→(lastI h (rs.map Rc.h)).isSome=true)∧dWf (i + 1) (dstep i rs e) es
theorem RcAt.tups {K:PySem.W.Frag} {H H':Hp} {r:Rc} {y:V} (t:Tups K H H') (h:RcAt K H r y):RcAt K H' r y:=h.elim fun p z=>⟨p,z.1,t _ _ z.2⟩
theorem EvAt.tups {K:PySem.W.Frag} {H H':Hp} (t:Tups K H H') :∀{e:Ev} {y:V},EvAt K H e y→EvAt K H' e y
 | .beg h n v x,_,z=>z.elim fun p z=>⟨p,z.1,t _ _ z.2⟩
 | .fin h a,_,z=>z.elim fun p z=>⟨p,z.1,t _ _ z.2⟩
theorem all2_modify {α β:Type} {R:α→β→Prop} {f:α→α} {y:β} :∀{xs:List α} {ys:List β} {j:Nat} {x:α},All2 R xs ys→xs[j]? = some x→R (f x) y→All2 R (xs.modify j f) (ys.set j y)
 | _,_,_,_,.nil,e,_=>by simp at e
 | _,_,0,x,.cons a r,e,h=>by
  rw [List.getElem?_cons_zero] at e
  cases e
  exact .cons h r
 | _,_,j + 1,x,.cons a r,e,h=>by
  rw [List.getElem?_cons_succ] at e
  exact .cons a (all2_modify r e h)
theorem all2_at {α β:Type} {R:α→β→Prop} :∀{xs:List α} {ys:List β} {i:Nat} {x:α},All2 R xs ys→xs[i]? = some x→∃y,ys[i]? = some y∧R x y
 | _,_,i,x,.nil,e=>by simp at e
 | _,_,0,x,.cons a _,e=>by
  rw [List.getElem?_cons_zero] at e
  cases e
  exact ⟨_,List.getElem?_cons_zero,a⟩
 | _,_,i + 1,x,.cons _ r,e=>by
  rw [List.getElem?_cons_succ] at e
  obtain ⟨y,h1,h2⟩:=all2_at r e
  exact ⟨y,by rw [List.getElem?_cons_succ];exact h1,h2⟩
end
section
variable {P:Program} {w:World} {mg:Str→Option Value} {base:Heap}
def sp_deeds (K:PySem.W.Frag):Sp:=fun vs H Q _=>∃(t te:Addr) (th:V) (ys:List V) (es:List Ev),vs=[.ref t]∧SqT K H t [th,.ref te]∧SqT K H te ys∧All2 (EvAt K H) es ys∧es.length≤100∧dWf 0 [] es∧
 ∀l zs H',Same H H'→H l=none→H' l=some (.lst zs)→All2 (RcAt K H') (dAll 0 [] es) zs→Q (.ref l) H'
theorem ok_deeds (T:TX (KX w.params) mg):FnOk P w (KX w.params) mg base CX0 1 161 fd_deeds ["tale"] (sp_deeds (KX w.params)):=by
 refine (F_deeds w.params).ok sc_deeds (fun vs H Q E h=>?_) (fun cdv A outer s H vs Q E hr h=>?_)
 ·obtain ⟨t,te,th,ys,es,rfl,_⟩:=h
  rfl
 ·obtain ⟨t,te,th,ys,es,rfl,st,se,al,hl,wf,q⟩:=h
  refine ⟨_,(pss_cons (ps_set (i:=1) sc_deeds.nd rfl (by first|exact Or.inl rfl|exact Or.inr rfl) (pe_lst pa_nil))
   (pss_cons (ps_set (i:=2) sc_deeds.nd rfl (by first|exact Or.inl rfl|exact Or.inr rfl) pe_dnewK)
   (pss_cons (ps_for PassesOwn.never rfl (pi_enumT rfl (T.no (n_enumerate _)) (pa_cons (pe_ix ix_seq (pv 0) pe_int (fun _ _=>rfl)) pa_nil)) (pg_tup rfl (pgs_cons (pg_name (i:=3) sc_deeds.nd rfl (by first|exact Or.inl rfl|exact Or.inr rfl)) (pgs_cons (pg_name (i:=4) sc_deeds.nd rfl (by first|exact Or.inl rfl|exact Or.inr rfl)) pgs_nil)))
   (pss_one (ps_if (pt_cmpR opEq (pe_ix ix_seq (pv 4) pe_int (fun _ _=>rfl)) pe_str (nomark _))
   (pss_cons (ps_dput (hu_of hr) (pv 2) (pe_ix ix_seq (pv 4) pe_int (fun _ _=>rfl)) (pe_callB callLen rfl (T.no (n_len _)) boot_len (pa_cons (pv 1) pa_nil)) rfl)
   (pss_one (ps_expr (pe_append (pv 1) (pa_cons (pe_op opAdd (pe_slice slSeq (pv 4) (po_some pe_int) po_none) (pe_tup (pa_cons pe_non (pa_cons (pv 3) (pa_cons pe_non pa_nil))))) pa_nil)))))
   (pss_cons (ps_set (i:=5) sc_deeds.nd rfl (by first|exact Or.inl rfl|exact Or.inr rfl) (pe_dget (hu_of hr) (pv 2) (pe_ix ix_seq (pv 4) pe_int (fun _ _=>rfl)) (fun _ _=>rfl)))
   (pss_cons (ps_set (i:=6) sc_deeds.nd rfl (by first|exact Or.inl rfl|exact Or.inr rfl) (pe_ix ix_seq (pv 1) (pv 5) (fun _ _=>rfl)))
   (pss_one (ps_asg (pe_op opAdd (pe_slice slSeq (pv 6) po_none (po_some pe_int)) (pe_tup (pa_cons (pe_ix ix_seq (pv 4) pe_int (fun _ _=>rfl)) (pa_cons (pe_ix ix_seq (pv 6) pe_int (fun _ _=>rfl)) (pa_cons (pv 3) pa_nil))))) (pg_sub (pv 1) (pv 5) set_list))))))))
   (pss_one (ps_ret (pv 1)))))),?_⟩
  refine ⟨(show (0:Nat)≤sizeLine by decide),fun l hl0=>?_⟩
  intro d hd0
  have nld:l≠d:=ne_of_none upd_same hd0
  have s0:upd H l (.lst []) d=none→H d=none:=fun z=>by rwa [upd_ne nld.symm] at z
  have s2:Same H (upd (upd H l (.lst [])) d (.dK [])):=(Same.upd hl0).trans (Same.upd hd0)
  have e1:upd (upd H l (.lst [])) d (.dK []) l=some (.lst []):=by rw [upd_ne nld];exact upd_same
  have e2:upd (upd H l (.lst [])) d (.dK []) d=some (.dK []):=upd_same
  generalize upd (upd H l (.lst [])) d (.dK [])=H2 at s2 e1 e2⊢
  have len:=forall2_len al
  refine ⟨_,rfl,.inr (.inl ⟨t,_,1,.ref te,rfl,rfl,s2.seqT st,atI_nat (j:=1) rfl,te,ys,rfl,s2.seqT se,?_⟩)⟩
  refine for_enumT (K:=KX w.params) (a:=te) (xs:=ys) (fun i σ H'=>∃rs zs kvs,H' l=some (.lst zs)∧All2 (RcAt (KX w.params) H') rs zs∧H' d=some (.dK kvs)∧kvs.length≤i∧rs.length≤i∧(∀h,valV kvs (.inl h)=(lastI h (rs.map Rc.h)).map fun j=>V.int (j:Nat))∧dAll i rs (es.drop i)=dAll 0 [] es∧dWf i rs (es.drop i)∧Same H H'∧∃x3 x4 x5 x6,σ=[some (.ref t),some (.ref l),some (.ref d),x3,x4,x5,x6])
   ⟨[],[],[],e1,.nil,e2,Nat.le_refl _,Nat.le_refl _,fun h=>rfl,by rw [List.drop_zero],by rw [List.drop_zero];exact wf,s2,_,_,_,_,rfl⟩ (fun i σ H' h=>?_) ?_ ?_
  ·obtain ⟨rs,zs,kvs,_,_,_,_,_,_,_,_,s',_⟩:=h
   exact s'.seqT se
  ·rintro i y σ H3 p hy ⟨rs,zs,kvs,el,ar,ed,hk,hr',hv,da,dw,s3,x3,x4,x5,x6,rfl⟩ hp
   obtain ⟨e,he,ev⟩:=all2_get al hy
   obtain ⟨hi,ee⟩:=List.getElem?_eq_some_iff.mp he
   have dr:es.drop i=e :: es.drop (i + 1):=by rw [List.drop_eq_getElem_cons hi,ee]
   rw [dr] at da dw
   have s4:=s3.trans (Same.upd (o:=.tup [.int i,y]) hp)
   have el4:=(Same.upd (o:=.tup [.int i,y]) hp) _ _ el
   have ed4:=(Same.upd (o:=.tup [.int i,y]) hp) _ _ ed
   have ar4:=forall2_mono (fun a b z=>RcAt.tups (.of (Same.upd (o:=.tup [.int i,y]) hp)) z) ar
   have ep4:upd H3 p (.tup [.int i,y]) p=some (.tup [.int i,y]):=upd_same
   generalize upd H3 p (.tup [.int i,y])=H4 at s4 el4 ed4 ar4 ep4⊢
   have ev4:=EvAt.tups (.of s4) ev
   refine ⟨p,_,rfl,SqT.of ep4,rfl,.int i,_,rfl,y,_,rfl,rfl,?_⟩
   have lz:zs.length=rs.length:=forall2_len ar4
   have hz0:100≤sizeLine:=by decide
   have few:i < 100:=Nat.lt_of_lt_of_le hi hl
   cases e with
   | beg h n v x=>
    obtain ⟨py,rfl,sy⟩:=ev4
    refine ⟨_,rfl,.inr (.inl ⟨py,_,0,.str "begin",rfl,rfl,sy,atI_nat (j:=0) rfl,rfl,_,rfl,iteP (decide_eq_true rfl) ?_⟩)⟩
    refine ⟨_,rfl,.inl ⟨l,zs,rfl,.inl (SqL.of el4),⟨_,rfl,⟨_,rfl,.inr (.inl ⟨py,_,1,.int h,rfl,rfl,sy,atI_nat (j:=1) rfl,d,_,rfl,DPut.k (k:=.inl h) ed4 (Nat.lt_of_le_of_lt hk (Nat.lt_of_lt_of_le few hz0)),?_⟩)⟩⟩⟩⟩
    have nhd:H d=none:=s0 hd0
    have t5:Tups (KX w.params) H4 (upd H4 d (.dK (putK kvs (.inl h) (.int (zs.length:Nat))))):=Tups.dict ed4
    have s5:=Same.keep (o:=.dK (putK kvs (.inl h) (.int (zs.length:Nat)))) s4 nhd
    have el5:upd H4 d (.dK (putK kvs (.inl h) (.int (zs.length:Nat)))) l=some (.lst zs):=by rw [upd_ne nld];exact el4
    have ed5:upd H4 d (.dK (putK kvs (.inl h) (.int (zs.length:Nat)))) d=some (.dK (putK kvs (.inl h) (.int (zs.length:Nat)))):=upd_same
    generalize upd H4 d (.dK (putK kvs (.inl h) (.int (zs.length:Nat))))=H5 at t5 s5 el5 ed5⊢
    have sy5:=t5 _ _ sy
    have ar5:=forall2_mono (fun a b z=>RcAt.tups t5 z) ar4
    refine ⟨_,rfl,.inl ⟨rfl,zs,SqL.of el5⟩,⟨_,rfl,1,rfl,.inr (.inl ⟨py,_,rfl,sy5,fun z=>absurd z.1 (show ¬ HT.sIx 5 0 (some 1)=0 by decide),fun p1 hp1=>?_⟩)⟩⟩
    have c1:cutV [V.str "begin",.int h,n,v,x] (some 1) none=[.int h,n,v,x]:=rfl
    rw [c1]
    refine ⟨_,rfl,show (3:Nat)≤sizeLine by decide,fun p2 hp2=>.inr (.inr (.inr ⟨p1,p2,_,_,rfl,rfl,(Same.upd hp2).seqT (SqT.of upd_same),SqT.of upd_same,by simp,(show (7:Nat)≤sizeLine by decide),fun z=>(by cases z),fun _ p3 hp3=>?_⟩))⟩
    have s6:Same H5 (upd (upd (upd H5 p1 (.tup [.int h,n,v,x])) p2 (.tup [.non,.int i,.non])) p3 (.tup ([.int h,n,v,x]++[.non,.int i,.non]))):=((Same.upd hp1).trans (Same.upd hp2)).trans (Same.upd hp3)
    have e3:upd (upd (upd H5 p1 (.tup [.int h,n,v,x])) p2 (.tup [.non,.int i,.non])) p3 (.tup ([.int h,n,v,x]++[.non,.int i,.non])) p3=some (.tup ([.int h,n,v,x]++[.non,.int i,.non])):=upd_same
    generalize upd (upd (upd H5 p1 (.tup [.int h,n,v,x])) p2 (.tup [.non,.int i,.non])) p3 (.tup ([.int h,n,v,x]++[.non,.int i,.non]))=H6 at s6 e3⊢
    have el6:=s6 _ _ el5
    have ed6:=s6 _ _ ed5
    have ar6:=forall2_mono (fun a b z=>RcAt.tups (.of s6) z) ar5
    have t7:Tups (KX w.params) H6 (upd H6 l (.lst (zs++[.ref p3]))):=Tups.lst el6
    refine ⟨l,zs,_,rfl,rfl,el6,Nat.lt_of_le_of_lt (Nat.le_trans (Nat.le_of_eq lz) hr') (Nat.lt_of_lt_of_le few hz0),?_⟩
    refine ⟨rs++[⟨h,n,v,x,.non,i,none⟩],zs++[.ref p3],putK kvs (.inl h) (.int (zs.length:Nat)),upd_same,?_,?_,?_,?_,?_,(show dAll (i + 1) (dstep i rs (.beg h n v x)) _=_ from da),dw.2,Same.keep (s5.trans s6) hl0,_,_,_,_,rfl⟩
    ·exact all2_snoc (forall2_mono (fun a b z=>RcAt.tups t7 z) ar6) ⟨p3,rfl,t7 _ _ (SqT.of e3)⟩
    ·rw [upd_ne nld.symm];exact ed6
    ·exact Nat.le_trans putK_len (by omega)
    ·rw [List.length_append];show rs.length + 1≤i + 1;omega
    ·intro k
     rw [valV_put,List.map_append]
     show _=Option.map _ (lastI k (rs.map Rc.h++[h]))
     rw [lastI_snoc,hv k,List.length_map,lz]
     by_cases z:h=k
     ·rw [if_pos z,if_pos (by rw [z])];rfl
     ·rw [if_neg z,if_neg (fun y=>z (Sum.inl.inj y).symm)]
   | fin h a=>
    obtain ⟨py,rfl,sy⟩:=ev4
    obtain ⟨j,hj⟩:=Option.isSome_iff_exists.mp (dw.1 h a rfl)
    have hvj:valV kvs (.inl h)=some (.int (j:Nat)):=by rw [hv h,hj];rfl
    have hjl:j < rs.length:=by have:=lastI_lt hj;rwa [List.length_map] at this
    have hrj:rs[j]? = some rs[j]:=List.getElem?_eq_getElem hjl
    obtain ⟨yj,hyj,pj,rfl,sj⟩:=all2_at ar4 hrj
    have dgj:DGet H4 d (.int h) (some (.int (j:Nat))):=hvj ▸ DGet.k (k:=.inl h) ed4
    refine ⟨_,rfl,.inr (.inl ⟨py,_,0,.str "end",rfl,rfl,sy,atI_nat (j:=0) rfl,rfl,_,rfl,iteN (by decide +kernel) ?_⟩)⟩
    refine ⟨_,rfl,⟨_,rfl,.inr (.inl ⟨py,_,1,.int h,rfl,rfl,sy,atI_nat (j:=1) rfl,d,_,rfl,dgj,?_⟩)⟩⟩
    refine ⟨_,rfl,_,rfl,.inl ⟨l,zs,j,.ref pj,rfl,rfl,SqL.of el4,atI_nat hyj,?_⟩⟩
    refine ⟨_,rfl,4,rfl,.inr (.inl ⟨pj,_,rfl,sj,fun z=>absurd z.2 (show ¬ HT.sIx 7 7 (some 4)=7 by decide),fun p1 hp1=>?_⟩)⟩
    have c1:cutV [.int rs[j].h,rs[j].n,rs[j].v,rs[j].x,rs[j].a,.int rs[j].b,endV rs[j].e] none (some 4)=[.int rs[j].h,rs[j].n,rs[j].v,rs[j].x]:=rfl
    rw [c1]
    refine ⟨_,rfl,.inr (.inl ⟨py,_,2,a,rfl,rfl,(Same.upd hp1).seqT sy,atI_nat (j:=2) rfl,?_⟩)⟩
    refine ⟨_,rfl,.inr (.inl ⟨pj,_,5,.int rs[j].b,rfl,rfl,(Same.upd hp1).seqT sj,atI_nat (j:=5) rfl,?_⟩)⟩
    refine ⟨_,rfl,show (3:Nat)≤sizeLine by decide,fun p2 hp2=>.inr (.inr (.inr ⟨p1,p2,_,_,rfl,rfl,(Same.upd hp2).seqT (SqT.of upd_same),SqT.of upd_same,by simp,(show (7:Nat)≤sizeLine by decide),fun z=>(by cases z),fun _ p3 hp3=>?_⟩))⟩
    have s6:Same H4 _:=((Same.upd hp1).trans (Same.upd hp2)).trans (Same.upd (o:=.tup ([.int rs[j].h,rs[j].n,rs[j].v,rs[j].x]++[a,.int rs[j].b,.int (i:Nat)])) hp3)
    have e3:upd (upd (upd H4 p1 (.tup [.int rs[j].h,rs[j].n,rs[j].v,rs[j].x])) p2 (.tup [a,.int rs[j].b,.int (i:Nat)])) p3 (.tup ([.int rs[j].h,rs[j].n,rs[j].v,rs[j].x]++[a,.int rs[j].b,.int (i:Nat)])) p3=some (.tup ([.int rs[j].h,rs[j].n,rs[j].v,rs[j].x]++[a,.int rs[j].b,.int (i:Nat)])):=upd_same
    generalize upd (upd (upd H4 p1 (.tup [.int rs[j].h,rs[j].n,rs[j].v,rs[j].x])) p2 (.tup [a,.int rs[j].b,.int (i:Nat)])) p3 (.tup ([.int rs[j].h,rs[j].n,rs[j].v,rs[j].x]++[a,.int rs[j].b,.int (i:Nat)]))=H6 at s6 e3⊢
    have el6:=s6 _ _ el4
    have ed6:=s6 _ _ ed4
    have ar6:=forall2_mono (fun a b z=>RcAt.tups (.of s6) z) ar4
    have t7:Tups (KX w.params) H6 (upd H6 l (.lst (zs.set j (.ref p3)))):=Tups.lst el6
    refine ⟨_,rfl,_,rfl,l,zs,j,j,rfl,rfl,el6,ixN_nat (show j < zs.length by rw [lz];exact hjl),?_⟩
    have dd:dstep i rs (.fin h a)=rs.modify j (fun r=>{ r with a:=a,e:=some i }):=by unfold dstep;dsimp only;rw [hj]
    have da2:dAll (i + 1) (dstep i rs (.fin h a)) (List.drop (i + 1) es)=_:=da
    have dw2:=dw.2
    rw [dd] at da2 dw2
    have mh:(rs.modify j (fun r=>{ r with a:=a,e:=some i })).map Rc.h=rs.map Rc.h:=by
     apply List.ext_getElem?
     intro m
     rw [List.getElem?_map,List.getElem?_map,List.getElem?_modify]
     cases rs[m]? with
     | none=>rfl
     | some r=>
      show some (if j=m then _ else r).h=some r.h
      by_cases z:j=m
      ·rw [if_pos z]
      ·rw [if_neg z]
    refine ⟨_,zs.set j (.ref p3),kvs,upd_same,?_,?_,?_,?_,?_,da2,dw2,Same.keep (s4.trans s6) hl0,_,_,_,_,rfl⟩
    ·exact all2_modify (forall2_mono (fun a b z=>RcAt.tups t7 z) ar6) hrj ⟨p3,rfl,t7 _ _ (SqT.of e3)⟩
    ·rw [upd_ne nld.symm];exact ed6
    ·omega
    ·rw [List.length_modify];omega
    ·intro k
     rw [mh]
     exact hv k
  ·rintro σ H3 ⟨rs,zs,kvs,el,ar,ed,hk,hr',hv,da,dw,s3,x3,x4,x5,x6,rfl⟩
   have:es.drop ys.length=[]:=by rw [len];exact List.drop_length
   rw [this] at da
   have da:rs=dAll 0 [] es:=da
   rw [←da] at q
   exact ⟨_,rfl,q l zs H3 s3 hl0 el ar⟩
end
section
def oStep (os:List Int):Ev→List Int
 | .beg h _ _ _=>os++[h]
 | .fin h _=>os.filter fun k=>decide (k≠h)
def oOk (os:List Int):Ev→Prop
 | .beg h _ _ _=>h∉os
 | .fin h _=>h∈os
def EWf:List Int→List Ev→Prop
 | _,[]=>True
 | os,e :: es=>oOk os e∧EWf (oStep os e) es
theorem EWf.snoc :∀{es:List Ev} {os:List Int} {e:Ev},EWf os es→oOk (es.foldl oStep os) e→EWf os (es++[e])
 | [],os,e,_,h=>⟨h,trivial⟩
 | x :: es,os,e,w,h=>⟨w.1,EWf.snoc w.2 h⟩
theorem lastI_get {h:Int} (hs:List Int) :∀{j:Nat},lastI h hs=some j→hs[j]? = some h∧∀k,j < k→hs[k]?≠some h:=by
 suffices key :∀n (hs:List Int),hs.length=n→∀{j:Nat},lastI h hs=some j→hs[j]? = some h∧∀k,j < k→hs[k]?≠some h from fun {j} hj=>key _ hs rfl hj
 intro n
 induction n with
 | zero=>intro hs e j hj;have:=lastI_lt hj;omega
 | succ n ih=>
  intro hs e j hj
  have ne:hs≠[]:=fun z=>by rw [z] at e;cases e
  obtain ⟨ts,t,rfl⟩ :∃ts t,hs=ts++[t]:=⟨hs.dropLast,hs.getLast ne,(List.dropLast_concat_getLast ne).symm⟩
  rw [List.length_append] at e
  have e:ts.length=n:=by simpa using e
  rw [lastI_snoc] at hj
  by_cases z:t=h
  ·rw [if_pos z] at hj
   cases hj
   refine ⟨by simp [z],fun k hk=>?_⟩
   rw [List.getElem?_eq_none (by rw [List.length_append];show ts.length + 1≤k;omega)]
   intro y;cases y
  ·rw [if_neg z] at hj
   obtain ⟨h1,h2⟩:=ih ts e hj
   have lt:=lastI_lt hj
   refine ⟨by rw [List.getElem?_append_left lt];exact h1,fun k hk=>?_⟩
   by_cases y:k < ts.length
   ·rw [List.getElem?_append_left y];exact h2 k hk
   ·by_cases y2:k=ts.length
    ·subst y2
     rw [List.getElem?_append_right (Nat.le_refl _)]
     simp
     exact z
    ·rw [List.getElem?_eq_none (by rw [List.length_append];show ts.length + 1≤k;omega)]
     intro y;cases y
theorem lastI_some {h:Int} (hs:List Int) (hm:h∈hs):(lastI h hs).isSome=true:=by
 suffices key :∀n (hs:List Int),hs.length=n→h∈hs→(lastI h hs).isSome=true from key _ hs rfl hm
 intro n
 induction n with
 | zero=>intro hs e hm;rw [List.length_eq_zero_iff.mp e] at hm;cases hm
 | succ n ih=>
  intro hs e hm
  have ne:hs≠[]:=fun z=>by rw [z] at e;cases e
  obtain ⟨ts,t,rfl⟩ :∃ts t,hs=ts++[t]:=⟨hs.dropLast,hs.getLast ne,(List.dropLast_concat_getLast ne).symm⟩
  rw [List.length_append] at e
  rw [lastI_snoc]
  by_cases z:t=h
  ·rw [if_pos z];rfl
  ·rw [if_neg z]
   refine ih ts (by simpa using e) ?_
   rcases List.mem_append.mp hm with y|y
   ·exact y
   ·exact absurd (List.mem_singleton.mp y).symm z
structure DInv (i:Nat) (rs:List Rc) (os:List Int):Prop where
 b :∀r∈rs,r.b < i
 e :∀r∈rs,∀e,r.e=some e→e < i
 p :∀(x y:Nat) (r q:Rc),x < y→rs[x]? = some r→rs[y]? = some q→r.b < q.b∧(r.h=q.h→∃e,r.e=some e∧e < q.b)
 o :∀r∈rs,r.h∉os→r.e.isSome=true
 m :∀h∈os,h∈rs.map Rc.h
theorem DInv.nil:DInv 0 [] []:=⟨fun _ h=>(by cases h),fun _ h=>(by cases h),fun x y r q _ h=>(by simp at h),fun _ h=>(by cases h),fun _ h=>(by cases h)⟩
theorem modify_h {rs:List Rc} {j:Nat} {f:Rc→Rc} (hf :∀r,(f r).h=r.h):(rs.modify j f).map Rc.h=rs.map Rc.h:=by
 apply List.ext_getElem?
 intro m
 rw [List.getElem?_map,List.getElem?_map,List.getElem?_modify]
 cases rs[m]? with
 | none=>rfl
 | some r=>
  show some (if j=m then f r else r).h=some r.h
  by_cases z:j=m
  ·rw [if_pos z,hf]
  ·rw [if_neg z]
theorem DInv.step {i:Nat} {rs:List Rc} {os:List Int} (I:DInv i rs os) {e:Ev} (ok:oOk os e):DInv (i + 1) (dstep i rs e) (oStep os e)∧∀h a,e=.fin h a→(lastI h (rs.map Rc.h)).isSome=true:=by
 cases e with
 | beg h n v x=>
  have ok:h∉os:=ok
  refine ⟨⟨fun r hr=>?_,fun r hr e he=>?_,fun x' y' r q hxy hx hy=>?_,fun r hr ho=>?_,fun k hk=>?_⟩,fun h a e=>by cases e⟩
  ·rcases List.mem_append.mp hr with z|z
   ·have:=I.b r z;omega
   ·rw [List.mem_singleton.mp z];exact Nat.lt_succ_self i
  ·rcases List.mem_append.mp hr with z|z
   ·have:=I.e r z e he;omega
   ·rw [List.mem_singleton.mp z] at he;cases he
  ·have hy':y' < (dstep i rs (.beg h n v x)).length:=(List.getElem?_eq_some_iff.mp hy).1
   have hl:(dstep i rs (.beg h n v x)).length=rs.length + 1:=by show (rs++[_]).length=_;rw [List.length_append];rfl
   have hx2:rs[x']? = some r:=by
    have:(rs++[_])[x']? = some r:=hx
    rwa [List.getElem?_append_left (by omega)] at this
   by_cases z:y' < rs.length
   ·have hy2:rs[y']? = some q:=by
     have:(rs++[_])[y']? = some q:=hy
     rwa [List.getElem?_append_left z] at this
    exact I.p x' y' r q hxy hx2 hy2
   ·have hy3:(rs++[_])[y']? = some q:=hy
    have ey:y'=rs.length:=by omega
    subst ey
    rw [List.getElem?_append_right (Nat.le_refl _)] at hy3
    simp at hy3
    have mr:=List.mem_of_getElem? hx2
    rw [←hy3]
    refine ⟨I.b r mr,fun hh=>?_⟩
    have:r.e.isSome=true:=I.o r mr (by rw [hh];exact ok)
    obtain ⟨e,he⟩:=Option.isSome_iff_exists.mp this
    exact ⟨e,he,I.e r mr e he⟩
  ·rcases List.mem_append.mp hr with z|z
   ·exact I.o r z fun y=>ho (List.mem_append.mpr (.inl y))
   ·rw [List.mem_singleton.mp z] at ho
    exact absurd (List.mem_append.mpr (.inr (List.mem_singleton.mpr rfl))) ho
  ·show k∈(rs++[_]).map Rc.h
   rw [List.map_append]
   rcases List.mem_append.mp hk with z|z
   ·exact List.mem_append.mpr (.inl (I.m k z))
   ·rw [List.mem_singleton.mp z]
    exact List.mem_append.mpr (.inr (List.mem_singleton.mpr rfl))
 | fin h a=>
  have ok:h∈os:=ok
  obtain ⟨j,hj⟩:=Option.isSome_iff_exists.mp (lastI_some _ (I.m h ok))
  refine ⟨?_,fun h' a' e=>by cases e;rw [hj];rfl⟩
  obtain ⟨g1,g2⟩:=lastI_get _ hj
  have hd:dstep i rs (.fin h a)=rs.modify j (fun r=>{ r with a:=a,e:=some i }):=by unfold dstep;dsimp only;rw [hj]
  rw [hd]
  have hs:oStep os (.fin h a)=os.filter fun k=>decide (k≠h):=rfl
  rw [hs]
  rw [List.getElem?_map] at g1
  obtain ⟨rj,ej,hjh⟩:=Option.map_eq_some_iff.mp g1
  have get :∀m q,(rs.modify j (fun r=>{ r with a:=a,e:=some i }))[m]? = some q→∃r,rs[m]? = some r∧q.h=r.h∧q.b=r.b∧(m=j→q.e=some i)∧(m≠j→q=r):=fun m q hq=>by
   rw [List.getElem?_modify] at hq
   obtain ⟨r,hr,e⟩:=Option.map_eq_some_iff.mp hq
   refine ⟨r,hr,?_⟩
   by_cases z:j=m
   ·rw [if_pos z] at e
    rw [←e]
    exact ⟨rfl,rfl,fun _=>rfl,fun y=>absurd z.symm y⟩
   ·rw [if_neg z] at e
    rw [←e]
    exact ⟨rfl,rfl,fun y=>absurd y.symm z,fun _=>rfl⟩
  refine ⟨fun r hr=>?_,fun r hr e he=>?_,fun x' y' r q hxy hx hy=>?_,fun r hr ho=>?_,fun k hk=>?_⟩
  ·obtain ⟨m,hm⟩:=List.mem_iff_getElem?.mp hr
   obtain ⟨r',h1,_,h3,_⟩:=get m r hm
   have:=I.b r' (List.mem_of_getElem? h1)
   omega
  ·obtain ⟨m,hm⟩:=List.mem_iff_getElem?.mp hr
   obtain ⟨r',h1,_,_,h4,h5⟩:=get m r hm
   by_cases z:m=j
   ·rw [h4 z] at he
    cases he
    exact Nat.lt_succ_self i
   ·rw [h5 z] at he
    have:=I.e r' (List.mem_of_getElem? h1) e he
    omega
  ·obtain ⟨r',r1,r2,r3,r4,r5⟩:=get x' r hx
   obtain ⟨q',q1,q2,q3,_⟩:=get y' q hy
   obtain ⟨p1,p2⟩:=I.p x' y' r' q' hxy r1 q1
   refine ⟨by omega,fun hh=>?_⟩
   by_cases z:x'=j
   ·subst z
    rw [ej] at r1
    cases r1
    refine absurd ?_ (g2 y' hxy)
    rw [List.getElem?_map,q1]
    show some q'.h=some h
    rw [←q2,←hh,r2,hjh]
   ·rw [r5 z] at hh⊢
    rw [q2] at hh
    obtain ⟨e,he,lt⟩:=p2 hh
    exact ⟨e,he,by omega⟩
  ·obtain ⟨m,hm⟩:=List.mem_iff_getElem?.mp hr
   obtain ⟨r',h1,h2,_,h4,h5⟩:=get m r hm
   by_cases z:m=j
   ·rw [h4 z];rfl
   ·rw [h5 z] at ho⊢
    by_cases y:r'.h=h
    ·have lt:m < j:=by
      rcases Nat.lt_or_gt_of_ne z with l|l
      ·exact l
      ·exact absurd (by rw [List.getElem?_map,h1];show some r'.h=_;rw [y]) (g2 m l)
     obtain ⟨_,p2⟩:=I.p m j r' rj lt h1 ej
     obtain ⟨e,he,_⟩:=p2 (by rw [y,hjh])
     rw [he];rfl
    ·exact I.o r' (List.mem_of_getElem? h1) fun w=>ho (List.mem_filter.mpr ⟨w,decide_eq_true y⟩)
  ·rw [modify_h (f:=fun r=>{ r with a:=a,e:=some i }) (fun r=>rfl)]
   exact I.m k (List.mem_filter.mp hk).1
theorem DInv.all :∀{es:List Ev} {i:Nat} {rs:List Rc} {os:List Int},DInv i rs os→EWf os es→dWf i rs es∧∃os',DInv (i + es.length) (dAll i rs es) os'
 | [],i,rs,os,I,_=>⟨trivial,os,I⟩
 | e :: es,i,rs,os,I,w=>by
  obtain ⟨I1,h1⟩:=I.step w.1
  obtain ⟨h2,os',I2⟩:=DInv.all I1 w.2
  refine ⟨⟨h1,h2⟩,os',?_⟩
  rw [List.length_cons,show i + (es.length + 1)=i + 1 + es.length by omega]
  exact I2
theorem valV_isSome {kvs:List (Key×V)} {k:Key}:(valV kvs k).isSome=true↔k∈kvs.map (·.1):=by
 induction kvs with
 | nil=>simp [valV]
 | cons p r ih=>
  obtain ⟨pk,pv⟩:=p
  by_cases y:pk=k
  ·subst y
   rw [valV_pos rfl]
   simp
  ·rw [valV_neg y,ih,List.map_cons,List.mem_cons]
   exact ⟨fun z=>.inr z,fun z=>z.resolve_left fun x=>y x.symm⟩
theorem putK_fresh {kvs:List (Key×V)} {k:Key} {v:V} (h:k∉kvs.map (·.1)):putK kvs k v=kvs++[(k,v)]:=by
 unfold putK
 rw [if_neg]
 intro z
 obtain ⟨p,hp,e⟩:=List.any_eq_true.mp z
 exact h (List.mem_map.mpr ⟨p,hp,of_decide_eq_true e⟩)
theorem all2_of_get {α β:Type} {R:α→β→Prop} :∀{xs:List α} {ys:List β},ys.length=xs.length→(∀(k:Nat) a b,xs[k]? = some a→ys[k]? = some b→R a b)→All2 R xs ys
 | [],[],_,_=>.nil
 | [],y :: ys,h,_=>by cases h
 | x :: xs,[],h,_=>by cases h
 | x :: xs,y :: ys,h,f=>.cons (f 0 x y rfl rfl) (all2_of_get (by simpa using h) fun k a b ha hb=>f (k + 1) a b (by rw [List.getElem?_cons_succ];exact ha) (by rw [List.getElem?_cons_succ];exact hb))
end
section
variable {P:Program} {w:World} {mg:Str→Option Value} {base:Heap}
theorem nodup_le :∀{xs ys:List Int},xs.Nodup→(∀x∈xs,x∈ys)→xs.length≤ys.length
 | [],_,_,_=>Nat.zero_le _
 | x :: r,ys,nd,h=>by
  rw [List.nodup_cons] at nd
  have hm:=h x (List.mem_cons.mpr (.inl rfl))
  have:=nodup_le (xs:=r) (ys:=ys.erase x) nd.2 fun y hy=>(List.mem_erase_of_ne (fun e=>nd.1 (by rw [←e];exact hy))).mpr (h y (List.mem_cons.mpr (.inr hy)))
  rw [List.length_erase_of_mem hm] at this
  have pos:0 < ys.length:=List.length_pos_of_mem hm
  rw [List.length_cons]
  omega
def cyc (x:Int):Int:=if x > 1000000000 then x - 2000000001 else x
theorem nodup_range_map {f:Nat→Int} :∀n:Nat,(∀i j,i < j→j < n→f i≠f j)→((List.range n).map f).Nodup
 | 0,_=>.nil
 | n + 1,h=>by
  rw [List.range_succ,List.map_append,List.nodup_append]
  refine ⟨nodup_range_map n fun i j a b=>h i j a (by omega),by show [f n].Nodup;rw [List.nodup_cons];exact ⟨List.not_mem_nil,.nil⟩,fun a ha b hb e=>?_⟩
  obtain ⟨i,hi,rfl⟩:=List.mem_map.mp ha
  rw [List.mem_singleton.mp hb] at e
  exact h i n (List.mem_range.mp hi) (Nat.lt_succ_self n) e
theorem cyc_few {s0:Int} {ks:List Int} {j:Nat} (h1:-1000000000≤s0) (h2:s0≤1000000000) (hj:j≤1000) (h :∀i,i < j→cyc (s0 + i)∈ks):j≤ks.length:=by
 have:=nodup_le (xs:=(List.range j).map fun i=>cyc (s0 + (i:Nat))) (ys:=ks) (nodup_range_map j fun a b ab bj=>by
  unfold cyc
  split<;>split<;>omega) fun x hx=>by
  obtain ⟨i,hi,rfl⟩:=List.mem_map.mp hx
  exact h i (List.mem_range.mp hi)
 rwa [List.length_map,List.length_range] at this
def sp__law_name (K:PySem.W.Frag):Sp:=fun vs H Q _=>∃r:Addr,vs=[.ref r]∧RowAt H r∧∀(nm:Str) H',Rw r H H'→1≤nm.length→nm.length≤8→Q (.str nm) H'
theorem ok__law_name (T:TX (KX w.params) mg) (c__law_take:Cal P w (KX w.params) mg base "_law_take" ["row","many"] 1 sp__law_take):FnOk P w (KX w.params) mg base CX0 2 260 fd__law_name ["row"] (sp__law_name (KX w.params)):=by
 refine (F__law_name w.params).ok sc__law_name (fun vs H Q E h=>?_) (fun cdv A outer s H vs Q E hr h=>?_)
 ·obtain ⟨r,rfl,_⟩:=h
  rfl
 ·obtain ⟨r,rfl,R,q⟩:=h
  refine ⟨_,(pss_cons (ps_set (i:=1) sc__law_name.nd rfl (by first|exact Or.inl rfl|exact Or.inr rfl) pe_str)
   (pss_cons (ps_set (i:=2) sc__law_name.nd rfl (by first|exact Or.inl rfl|exact Or.inr rfl) pe_str)
   (pss_cons (ps_for PassesOwn.never rfl (pi_range1 rfl (T.no (n_range _)) (pa_cons (pe_op opAdd pe_int (pe_cal c__law_take (hr.mono (by first|decide|omega)) rfl (pa_cons (pv 0) (pa_cons pe_int pa_nil)))) pa_nil)) (pg_name (i:=3) sc__law_name.nd rfl (by first|exact Or.inl rfl|exact Or.inr rfl))
   (pss_one (ps_set (i:=2) sc__law_name.nd rfl (by first|exact Or.inl rfl|exact Or.inr rfl) (pe_op opAdd (pv 2) (pe_ix ix_seq (pv 1) (pe_cal c__law_take (hr.mono (by first|decide|omega)) rfl (pa_cons (pv 0) (pa_cons pe_int pa_nil))) (fun _ _=>rfl))))))
   (pss_one (ps_ret (pv 2)))))),?_⟩
  have len26:("abcdefghijklmnopqrstuvwxyz" : Str).cps.toList.length=26:=by decide +kernel
  have len26':("abcdefghijklmnopqrstuvwxyz" : Str).length≤sizeLine:=by decide +kernel
  refine ⟨_,rfl,r,8,rfl,R,by decide,by decide,fun t H1 w1 t0 t1=>.inl ⟨_,_,rfl,rfl,1 + t,rfl,by omega,by omega,?_⟩⟩
  refine for_range (lo:=0) (n:=(1 + t).toNat) (fun i σ H'=>Rw r H H'∧∃(nm:Str) (x3:Option V),nm.length=i∧σ=[some (.ref r),some (.str "abcdefghijklmnopqrstuvwxyz"),some (.str nm),x3]) ⟨w1,"",_,rfl,rfl⟩ ?_ ?_
  ·rintro i σ H2 hi ⟨w2,nm,x3,ln,rfl⟩
   rw [Int.zero_add]
   refine g_name ?_
   refine ⟨_,rfl,_,rfl,_,rfl,r,26,rfl,w2.r,by decide,by decide,fun t2 H3 w3 a b=>?_⟩
   obtain ⟨c,hc,_⟩:=atI_of (xs:=("abcdefghijklmnopqrstuvwxyz" : Str).cps.toList) a (by rw [len26];exact b)
   have l1:(⟨#[c]⟩:Str).length=1:=rfl
   refine .inr (.inr ⟨_,t2,c,rfl,rfl,len26',hc,.inr (.inl ⟨nm,⟨#[c]⟩,rfl,rfl,by rw [l1];exact Nat.le_trans (m:=100) (by omega) (by decide),?_⟩)⟩)
   exact ⟨w2.trans w3,_,_,by rw [PySem.Str.length_append,l1];omega,rfl⟩
  ·rintro σ H2 ⟨w2,nm,x3,ln,rfl⟩
   exact ⟨_,rfl,q _ _ w2 (by omega) (by omega)⟩
def sp__law_fresh (K:PySem.W.Frag):Sp:=fun vs H Q _=>∃(r u:Addr) (ks:List Int) (kvs:List (Key×V)),vs=[.ref r,.ref u]∧RowAt H r∧H u=some (.dK kvs)∧r≠u∧kvs.map (·.1)=ks.map Sum.inl∧ks.length≤100∧∀(i:Int) H',Rw r H H'→-1000000000≤i→i≤1000000000→i∉ks→Q (.int i) (upd H' u (.dK (putK kvs (.inl i) (.bl true))))
theorem ok__law_fresh (T:TX (KX w.params) mg) (c__law_worth:Cal P w (KX w.params) mg base "_law_worth" ["row"] 2 sp__law_worth):FnOk P w (KX w.params) mg base CX0 3 267 fd__law_fresh ["row","used"] (sp__law_fresh (KX w.params)):=by
 refine (F__law_fresh w.params).ok sc__law_fresh (fun vs H Q E h=>?_) (fun cdv A outer s H vs Q E hr h=>?_)
 ·obtain ⟨r,u,ks,kvs,rfl,_⟩:=h
  rfl
 ·obtain ⟨r,u,ks,kvs,rfl,R,eu,nru,ek,lk,q⟩:=h
  refine ⟨_,(pss_cons (ps_set (i:=2) sc__law_fresh.nd rfl (by first|exact Or.inl rfl|exact Or.inr rfl) (pe_cal c__law_worth (hr.mono (by first|decide|omega)) rfl (pa_cons (pv 0) pa_nil)))
   (pss_cons (ps_while PassesOwn.never (pt_cmp (pc_din (hu_of hr) (pv 2) (pv 1)) (by with_unfolding_all rfl))
   (pss_cons (ps_set (i:=2) sc__law_fresh.nd rfl (by first|exact Or.inl rfl|exact Or.inr rfl) (pe_op opAdd (pv 2) pe_int))
   (pss_one (ps_if (pt_cmpR op_gt (pv 2) (pe_op op_pow pe_int pe_int) (nomark _))
   (pss_one (ps_set (i:=2) sc__law_fresh.nd rfl (by first|exact Or.inl rfl|exact Or.inr rfl) (pe_un un_neg (pe_op op_pow pe_int pe_int))))
   pss_nil))))
   (pss_cons (ps_dput (hu_of hr) (pv 1) (pv 2) pe_bl rfl)
   (pss_one (ps_ret (pv 2)))))),?_⟩
  refine ⟨_,rfl,r,rfl,R,fun s0 H1 w1 b0 b1=>?_⟩
  refine g_name ?_
  have eu1:H1 u=some (.dK kvs):=w1.k _ _ (Ne.symm nru) eu
  have kin :∀i:Int,(valV kvs (.inl i)).isSome=true↔i∈ks:=fun i=>by
   rw [valV_isSome,ek]
   exact ⟨fun z=>by obtain ⟨k,hk,e⟩:=List.mem_map.mp z;exact Sum.inl.inj e ▸ hk,fun z=>List.mem_map.mpr ⟨i,z,rfl⟩⟩
  refine ⟨fun m σ H'=>H'=H1∧∃j:Nat,j≤ks.length∧m=100 - j∧(∀i:Nat,i < j→cyc (s0 + i)∈ks)∧σ=[some (.ref r),some (.ref u),some (.int (cyc (s0 + j)))],⟨100,rfl,0,Nat.zero_le _,rfl,fun _ z=>absurd z (Nat.not_lt_zero _),?_⟩,?_⟩
  ·have:cyc (s0 + ((0:Nat):Int))=s0:=by unfold cyc;rw [if_neg (by omega)];omega
   rw [this]
   rfl
  ·rintro m σ H2 ⟨rfl,j,hj,rfl,hin,rfl⟩
   have cb:-1000000000≤cyc (s0 + j)∧cyc (s0 + j)≤1000000000:=by unfold cyc;split<;>omega
   have cs:cyc (s0 + ((j + 1:Nat):Int))=if cyc (s0 + j) + 1 > 1000000000 then -1000000000 else cyc (s0 + j) + 1:=by
    unfold cyc
    split<;>split<;>split<;>omega
   refine ⟨_,rfl,_,rfl,u,_,rfl,DGet.k (k:=.inl (cyc (s0 + j))) eu1,_,rfl,?_⟩
   by_cases hk:cyc (s0 + j)∈ks
   ·refine iteP ((kin _).mpr hk) ?_
    have hin' :∀i:Nat,i < j + 1→cyc (s0 + i)∈ks:=fun i hi=>by
     rcases Nat.lt_or_ge i j with z|z
     ·exact hin i z
     ·have:i=j:=by omega
      rw [this];exact hk
    have hj':=cyc_few b0 b1 (j:=j + 1) (by omega) hin'
    refine ⟨fun σ' H'=>H'=H2∧σ'=[some (.ref r),some (.ref u),some (.int (cyc (s0 + ((j + 1:Nat):Int))))],?_,?_⟩
    ·rintro σ' H' ⟨rfl,rfl⟩
     exact ⟨100 - (j + 1),by omega,rfl,j + 1,hj',rfl,hin',rfl⟩
    ·refine ⟨_,rfl,.inl ⟨_,_,rfl,rfl,?_⟩⟩
     refine ⟨_,rfl,_,_,rfl,rfl,p9,_,_,rfl,rfl,_,rfl,?_⟩
     rw [e9]
     by_cases z:cyc (s0 + j) + 1 > 1000000000
     ·refine iteP (decide_eq_true z) ⟨_,_,rfl,rfl,p9,_,rfl,rfl,?_⟩
      rw [cs,if_pos z,e9]
      rfl
     ·refine iteN (fun e=>z (of_decide_eq_true e)) ⟨rfl,?_⟩
      rw [cs,if_neg z]
      rfl
   ·refine iteN (fun e=>hk ((kin _).mp e)) ?_
    refine ⟨_,rfl,_,rfl,u,_,rfl,DPut.k (k:=.inl (cyc (s0 + j))) eu1 (Nat.lt_of_le_of_lt (m:=100) (by have:=congrArg List.length ek;rw [List.length_map,List.length_map] at this;omega) (by decide)),?_⟩
    exact ⟨_,rfl,q _ _ w1 cb.1 cb.2 hk⟩
end
section
inductive TW (nm:Str) (wr:Int):List Ev→List (Int×Bool)→List Int→Prop
 | nil:TW nm wr [] [] []
 | wri {es:List Ev} {os:List (Int×Bool)} {us:List Int} {i:Int}:TW nm wr es os us→wr∉os.map (·.1)→i≠0→i∉us→TW nm wr (es++[.beg wr (.str nm) (.str "write") (.int i)]) (os++[(wr,true)]) (us++[i])
 | rd {es:List Ev} {os:List (Int×Bool)} {us:List Int} {h:Int}:TW nm wr es os us→h∉os.map (·.1)→TW nm wr (es++[.beg h (.str nm) (.str "read") .non]) (os++[(h,false)]) us
 | fin {es:List Ev} {os:List (Int×Bool)} {us:List Int} {h:Int} {b:Bool} {a:V}:TW nm wr es os us→(h,b)∈os→(b=true→a=.str "ok")→(b=false→∃i,a=.int i)→TW nm wr (es++[.fin h a]) (os.filter fun k=>decide (k.1≠h)) us
theorem TW.us {nm:Str} {wr:Int} {es:List Ev} {os:List (Int×Bool)} {us:List Int} (h:TW nm wr es os us):us.Nodup∧(0:Int)∉us:=by
 induction h with
 | nil=>exact ⟨.nil,List.not_mem_nil⟩
 | wri _ _ h0 h1 ih=>
  refine ⟨List.nodup_append.mpr ⟨ih.1,by simp,fun a ha b hb e=>?_⟩,fun z=>?_⟩
  ·rw [List.mem_singleton.mp hb] at e
   exact h1 (e ▸ ha)
  ·rcases List.mem_append.mp z with z|z
   ·exact ih.2 z
   ·exact h0 (List.mem_singleton.mp z).symm
 | rd _ _ ih=>exact ih
 | fin _ _ _ _ ih=>exact ih
theorem map_filter_ne {os:List (Int×Bool)} {h:Int}:(os.filter fun k=>decide (k.1≠h)).map (·.1)=(os.map (·.1)).filter fun k=>decide (k≠h):=by
 induction os with
 | nil=>rfl
 | cons o os ih=>
  by_cases z:o.1=h
  ·rw [List.filter_cons_of_neg (by simp [z]),List.map_cons,List.filter_cons_of_neg (by simp [z]),ih]
  ·rw [List.filter_cons_of_pos (by simp [z]),List.map_cons,List.map_cons,List.filter_cons_of_pos (by simp [z]),ih]
theorem TW.wf {nm:Str} {wr:Int} {es:List Ev} {os:List (Int×Bool)} {us:List Int} (h:TW nm wr es os us):EWf [] es∧es.foldl oStep []=os.map (·.1):=by
 induction h with
 | nil=>exact ⟨trivial,rfl⟩
 | wri _ h0 _ _ ih=>
  refine ⟨ih.1.snoc (by rw [ih.2];exact h0),?_⟩
  rw [List.foldl_append,ih.2,List.map_append]
  rfl
 | rd _ h0 ih=>
  refine ⟨ih.1.snoc (by rw [ih.2];exact h0),?_⟩
  rw [List.foldl_append,ih.2,List.map_append]
  rfl
 | fin _ h0 _ _ ih=>
  refine ⟨ih.1.snoc (by rw [ih.2];exact List.mem_map.mpr ⟨_,h0,rfl⟩),?_⟩
  rw [List.foldl_append,ih.2,map_filter_ne]
  rfl
theorem dAll_snoc :∀{es:List Ev} {i:Nat} {rs:List Rc} {e:Ev},dAll i rs (es++[e])=dstep (i + es.length) (dAll i rs es) e
 | [],i,rs,e=>rfl
 | x :: es,i,rs,e=>by
  show dAll (i + 1) (dstep i rs x) (es++[e])=dstep (i + (es.length + 1)) (dAll (i + 1) (dstep i rs x) es) e
  rw [dAll_snoc,show i + (es.length + 1)=i + 1 + es.length by omega]
def isW (r:Rc):Bool:=decide (r.v=.str "write")
def intV:V→Int
 | .int i=>i
 | _=>0
def RdG (r:Rc):Prop:=r.v=.str "read"∧r.x=.non∧∀e,r.e=some e→r.a=.int (intV r.a)
def WrG (wr:Int) (r:Rc):Prop:=r.v=.str "write"∧r.h=wr∧r.x=.int (intV r.x)∧∀e,r.e=some e→r.a=.str "ok"
theorem rd_ne_wr:(V.str "read")≠.str "write":=by decide +kernel
theorem WrG.w {wr:Int} {r:Rc} (h:WrG wr r):isW r=true:=decide_eq_true h.1
theorem RdG.w {r:Rc} (h:RdG r):isW r=false:=decide_eq_false fun e=>rd_ne_wr (h.1.symm.trans e)
structure TWr (wr:Int) (rs:List Rc) (os:List (Int×Bool)) (us:List Int):Prop where
 g :∀r∈rs,RdG r∨WrG wr r
 u:(rs.filter isW).map (fun r=>intV r.x)=us
 o :∀h b,(h,b)∈os→∃j r,lastI h (rs.map Rc.h)=some j∧rs[j]? = some r∧r.v=.str (if b=true then "write" else "read")
theorem filter_modify {f:Rc→Rc} (hw :∀r,isW (f r)=isW r) (hx :∀r,(f r).x=r.x) :∀(rs:List Rc) (j:Nat),((rs.modify j f).filter isW).map (fun r=>intV r.x)=(rs.filter isW).map (fun r=>intV r.x)
 | [],j=>by cases j<;>rfl
 | r :: rs,0=>by
  show (((f r) :: rs).filter isW).map _=_
  cases h:isW r with
  | true=>rw [List.filter_cons_of_pos (by rw [hw,h]),List.filter_cons_of_pos h,List.map_cons,List.map_cons,hx]
  | false=>rw [List.filter_cons_of_neg (by rw [hw,h];decide),List.filter_cons_of_neg (by rw [h];decide)]
 | r :: rs,j + 1=>by
  show ((r :: rs.modify j f).filter isW).map _=_
  cases h:isW r with
  | true=>rw [List.filter_cons_of_pos h,List.filter_cons_of_pos h,List.map_cons,List.map_cons,filter_modify hw hx rs j]
  | false=>rw [List.filter_cons_of_neg (by rw [h];decide),List.filter_cons_of_neg (by rw [h];decide),filter_modify hw hx rs j]
theorem TW.rs {nm:Str} {wr:Int} {es:List Ev} {os:List (Int×Bool)} {us:List Int} (h:TW nm wr es os us):TWr wr (dAll 0 [] es) os us:=by
 have beg :∀{rs:List Rc} {os:List (Int×Bool)} {us us':List Int} (k:Int) (b:Bool) (r:Rc),TWr wr rs os us→k∉os.map (·.1)→r.h=k→(RdG r∨WrG wr r)→r.v=.str (if b=true then "write" else "read")→us'=us++(if b=true then [intV r.x] else [])→TWr wr (rs++[r]) (os++[(k,b)]) us':=by
  intro rs os us us' k b r I hk hr hg hv hu
  refine ⟨fun q hq=>?_,?_,fun h c hc=>?_⟩
  ·rcases List.mem_append.mp hq with z|z
   ·exact I.g q z
   ·rw [List.mem_singleton.mp z];exact hg
  ·rw [List.filter_append,List.map_append,I.u,hu]
   congr 1
   cases b with
   | true=>rw [List.filter_cons_of_pos (show isW r=true from decide_eq_true hv)];rfl
   | false=>rw [List.filter_cons_of_neg (show ¬ isW r=true from fun z=>rd_ne_wr (hv.symm.trans (of_decide_eq_true z)))];rfl
  ·rw [List.map_append]
   show∃j q,lastI h (rs.map Rc.h++[r.h])=some j∧_
   rw [lastI_snoc,hr]
   rcases List.mem_append.mp hc with z|z
   ·have ne:¬ k=h:=fun e=>hk (e ▸ List.mem_map.mpr ⟨_,z,rfl⟩)
    obtain ⟨j,q,h1,h2,h3⟩:=I.o h c z
    refine ⟨j,q,by rw [if_neg ne];exact h1,?_,h3⟩
    rw [List.getElem?_append_left (List.getElem?_eq_some_iff.mp h2).1]
    exact h2
   ·have e:=List.mem_singleton.mp z
    cases e
    refine ⟨rs.length,r,by rw [if_pos rfl,List.length_map],?_,hv⟩
    rw [List.getElem?_append_right (Nat.le_refl _),Nat.sub_self]
    rfl
 induction h with
 | nil=>exact ⟨fun _ h=>absurd h List.not_mem_nil,rfl,fun _ _ h=>absurd h List.not_mem_nil⟩
 | @wri es os us i _ h0 _ _ ih=>
  rw [dAll_snoc]
  exact beg wr true ⟨wr,.str nm,.str "write",.int i,.non,0 + es.length,none⟩ ih h0 rfl (.inr ⟨rfl,rfl,rfl,fun e z=>by cases z⟩) rfl rfl
 | @rd es os us h _ h0 ih=>
  rw [dAll_snoc]
  exact beg h false ⟨h,.str nm,.str "read",.non,.non,0 + es.length,none⟩ ih h0 rfl (.inl ⟨rfl,rfl,fun e z=>by cases z⟩) rfl (List.append_nil _).symm
 | @fin es os us h b a _ h0 ht hf ih=>
  rw [dAll_snoc]
  obtain ⟨j,r,h1,h2,h3⟩:=ih.o h b h0
  have hd :∀i,dstep i (dAll 0 [] es) (.fin h a)=(dAll 0 [] es).modify j (fun r=>{ r with a:=a,e:=some i }):=fun i=>by unfold dstep;dsimp only;rw [h1]
  rw [hd]
  generalize 0 + es.length=i
  generalize hrs:dAll 0 [] es=rs at ih h1 h2 h3
  refine ⟨fun q hq=>?_,?_,fun k c hc=>?_⟩
  ·obtain ⟨m,hm⟩:=List.mem_iff_getElem?.mp hq
   rw [List.getElem?_modify] at hm
   obtain ⟨q',hq',e⟩:=Option.map_eq_some_iff.mp hm
   have gq:=ih.g q' (List.mem_of_getElem? hq')
   by_cases z:j=m
   ·subst z
    rw [if_pos rfl] at e
    rw [h2] at hq'
    cases hq'
    subst e
    cases b with
    | true=>
     have v:r.v=.str "write":=h3
     rcases gq with g|g
     ·exact absurd (g.1.symm.trans v) rd_ne_wr
     ·exact .inr ⟨g.1,g.2.1,g.2.2.1,fun _ _=>ht rfl⟩
    | false=>
     have v:r.v=.str "read":=h3
     rcases gq with g|g
     ·obtain ⟨x,hx⟩:=hf rfl
      exact .inl ⟨g.1,g.2.1,fun _ _=>by show a=.int (intV a);rw [hx];rfl⟩
     ·exact absurd (v.symm.trans g.1) rd_ne_wr
   ·rw [if_neg z] at e
    rw [←e]
    exact gq
  ·rw [filter_modify (f:=fun r=>{ r with a:=a,e:=some i }) (fun _=>rfl) (fun _=>rfl)]
   exact ih.u
  ·rw [modify_h (f:=fun r=>{ r with a:=a,e:=some i }) (fun r=>rfl)]
   obtain ⟨j',r',g1,g2,g3⟩:=ih.o k c (List.mem_filter.mp hc).1
   refine ⟨j',if j=j' then { r' with a:=a,e:=some i } else r',g1,?_,?_⟩
   ·rw [List.getElem?_modify,g2]
    rfl
   ·by_cases z:j=j'
    ·rw [if_pos z];exact g3
    ·rw [if_neg z];exact g3
def sinceF (rs:List Rc) (x:Int):Option Int:=rs.foldl (fun (o:Option Int) r=>if isW r=true∧x=intV r.x then some (r.b:Int) else o) (if x=0 then some (-1) else none)
theorem sinceF_nil (x:Int):sinceF [] x=if x=0 then some (-1) else none:=rfl
theorem sinceF_snoc (rs:List Rc) (r:Rc) (x:Int):sinceF (rs++[r]) x=if isW r=true∧x=intV r.x then some (r.b:Int) else sinceF rs x:=by
 unfold sinceF
 rw [List.foldl_append]
 rfl
theorem take_snoc {rs:List Rc} {i:Nat} {r:Rc} (h:rs[i]? = some r):rs.take (i + 1)=rs.take i++[r]:=by
 rw [List.take_succ,h]
 rfl
def Bad (rs:List Rc) (i j:Nat):Prop:=∃(r q:Rc) (e f:Nat) (s t:Int),rs[i]? = some r∧rs[j]? = some q∧r.v=.str "read"∧q.v=.str "read"∧r.e=some e∧q.e=some f∧e < q.b∧sinceF rs (intV r.a)=some s∧sinceF rs (intV q.a)=some t∧t < s
def FstB (rs:List Rc) (i j:Nat):Prop:=Bad rs i j∧∀i' j',Bad rs i' j'→i < i'∨(i=i'∧j≤j')
def EndsB (rs:List Rc):Prop:=∀r∈rs,∀e,r.e=some e→r.b < e
theorem EndsB.all :∀{es:List Ev} {i:Nat} {rs:List Rc},EndsB rs→(∀r∈rs,r.b < i)→EndsB (dAll i rs es)∧∀r∈dAll i rs es,r.b < i + es.length
 | [],i,rs,h,hb=>⟨h,hb⟩
 | e :: es,i,rs,h,hb=>by
  have key:EndsB (dstep i rs e)∧∀r∈dstep i rs e,r.b < i + 1:=by
   cases e with
   | beg k n v x=>
    have hm:dstep i rs (.beg k n v x)=rs++[⟨k,n,v,x,.non,i,none⟩]:=rfl
    rw [hm]
    refine ⟨fun r hr e he=>?_,fun r hr=>?_⟩
    ·rcases List.mem_append.mp hr with z|z
     ·exact h r z e he
     ·rw [List.mem_singleton.mp z] at he;cases he
    ·rcases List.mem_append.mp hr with z|z
     ·have:=hb r z;omega
     ·rw [List.mem_singleton.mp z];exact Nat.lt_succ_self i
   | fin k a=>
    cases hl:lastI k (rs.map Rc.h) with
    | none=>
     have hd:dstep i rs (.fin k a)=rs:=by unfold dstep;dsimp only;rw [hl]
     rw [hd]
     exact ⟨h,fun r hr=>Nat.lt_succ_of_lt (hb r hr)⟩
    | some j=>
     have hd:dstep i rs (.fin k a)=rs.modify j (fun r=>{ r with a:=a,e:=some i }):=by unfold dstep;dsimp only;rw [hl]
     rw [hd]
     have get :∀q∈rs.modify j (fun r=>{ r with a:=a,e:=some i }),∃r∈rs,q.b=r.b∧(q.e=some i∨q.e=r.e):=fun q hq=>by
      obtain ⟨m,hm⟩:=List.mem_iff_getElem?.mp hq
      rw [List.getElem?_modify] at hm
      obtain ⟨r,hr,e⟩:=Option.map_eq_some_iff.mp hm
      refine ⟨r,List.mem_of_getElem? hr,?_⟩
      by_cases z:j=m
      ·rw [if_pos z] at e;rw [←e];exact ⟨rfl,.inl rfl⟩
      ·rw [if_neg z] at e;rw [←e];exact ⟨rfl,.inr rfl⟩
     refine ⟨fun q hq e he=>?_,fun q hq=>?_⟩
     ·obtain ⟨r,hr,e1,e2⟩:=get q hq
      rcases e2 with e2|e2
      ·rw [e2] at he;cases he;rw [e1];exact hb r hr
      ·rw [e1];exact h r hr e (by rw [←e2];exact he)
     ·obtain ⟨r,hr,e1,_⟩:=get q hq
      have:=hb r hr
      omega
  obtain ⟨h1,h2⟩:=EndsB.all (es:=es) key.1 key.2
  refine ⟨h1,fun r hr=>?_⟩
  have:=h2 r hr
  rw [List.length_cons]
  omega
theorem addI_nodup :∀(us ns:List Int),us.Nodup→(∀u∈us,u∉ns)→(us.foldl addI ns).length=ns.length + us.length
 | [],ns,_,_=>rfl
 | u :: us,ns,nd,h=>by
  rw [List.nodup_cons] at nd
  have e:addI ns u=ns++[u]:=by unfold addI;rw [if_neg (h u (.head _))]
  rw [List.foldl_cons,e,addI_nodup us (ns++[u]) nd.2 fun v hv z=>?_]
  ·simp only [List.length_append,List.length_cons,List.length_nil];omega
  ·rcases List.mem_append.mp z with z|z
   ·exact h v (.tail _ hv) z
   ·rw [List.mem_singleton.mp z] at hv
    exact nd.1 hv
theorem addI_alike {w:Int} :∀(us ns:List Int),(∀u∈us,u=w)→(ns=[]∨ns=[w])→(us.foldl addI ns).length≤1
 | [],ns,_,h=>by rcases h with rfl|rfl<;>simp
 | u :: us,ns,hu,h=>by
  have e:=hu u (.head _)
  subst e
  rw [List.foldl_cons]
  refine addI_alike (w:=u) us _ (fun v hv=>hu v (.tail _ hv)) (.inr ?_)
  rcases h with rfl|rfl
  ·rfl
  ·unfold addI;rw [if_pos (List.mem_singleton.mpr rfl)]
theorem range_filter_sorted (p:Nat→Bool) (n:Nat):((List.range n).filter p).Pairwise (· < ·):=List.Pairwise.filter _ List.pairwise_lt_range
end
section
def fe (es:List Ev) (h:Int):Nat→Nat→Option (Nat×V)
 | _,0=>none
 | lo,n + 1=>match es[lo]? with
  | some (.fin k a)=>if k=h then some (lo,a) else fe es h (lo + 1) n
  | _=>fe es h (lo + 1) n
def rowK (es:List Ev) (k:Nat):Option Rc:=match es[k]? with
 | some (.beg h n v x)=>some ⟨h,n,v,x,((fe es h (k + 1) (es.length - (k + 1))).map (·.2)).getD .non,k,(fe es h (k + 1) (es.length - (k + 1))).map (·.1)⟩
 | _=>none
def dueR (es:List Ev):List Rc:=(List.range es.length).filterMap (rowK es)
theorem fm_congr {α β:Type} {f g:α→Option β} :∀{l:List α},(∀x∈l,f x=g x)→l.filterMap f=l.filterMap g
 | [],_=>rfl
 | x :: l,h=>by
  have ih:=fm_congr (l:=l) fun y hy=>h y (List.mem_cons_of_mem _ hy)
  have hx:=h x List.mem_cons_self
  cases e:f x with
  | none=>rw [List.filterMap_cons_none e,List.filterMap_cons_none (hx.symm.trans e),ih]
  | some y=>rw [List.filterMap_cons_some e,List.filterMap_cons_some (hx.symm.trans e),ih]
theorem fe_snoc {es:List Ev} {e:Ev} {h:Int} :∀(n lo:Nat),lo + n=es.length→fe (es++[e]) h lo (n + 1)=match fe es h lo n with
  | some x=>some x
  | none=>(match e with | .fin k a=>if k=h then some (es.length,a) else none | .beg _ _ _ _=>none)
 | 0,lo,hl=>by
  have el:(es++[e])[lo]? = some e:=by
   have:lo=es.length:=by omega
   rw [this,List.getElem?_append_right (Nat.le_refl _),Nat.sub_self]
   rfl
  unfold fe
  rw [el]
  cases e with
  | beg h n v x=>rfl
  | fin k a=>
   dsimp only [fe]
   have:lo=es.length:=by omega
   rw [this]
 | n + 1,lo,hl=>by
  have el:(es++[e])[lo]? = es[lo]?:=List.getElem?_append_left (by omega)
  have ih:=fe_snoc (es:=es) (e:=e) (h:=h) n (lo + 1) (by omega)
  rw [fe,el,ih]
  conv=>rhs;rw [fe]
  cases es[lo]? with
  | none=>rfl
  | some x=>
   cases x with
   | beg=>rfl
   | fin k a=>
    dsimp only
    by_cases z:k=h
    ·rw [if_pos z,if_pos z]
    ·rw [if_neg z,if_neg z]
def endR (i:Nat) (h:Int) (a:V) (r:Rc):Rc:=if r.h=h∧r.e=none then { r with a:=a,e:=some i } else r
theorem due_beg {es:List Ev} {h:Int} {n v x:V}:dueR (es++[.beg h n v x])=dueR es++[⟨h,n,v,x,.non,es.length,none⟩]:=by
 unfold dueR
 rw [List.length_append,List.length_singleton,List.range_succ,List.filterMap_append]
 congr 1
 ·refine fm_congr fun k hk=>?_
  have hk:=List.mem_range.mp hk
  unfold rowK
  rw [List.getElem?_append_left hk,List.length_append,List.length_singleton]
  cases he:es[k]? with
  | none=>rfl
  | some e=>
   cases e with
   | fin=>rfl
   | beg h' n' v' x'=>
    dsimp only
    rw [show es.length + 1 - (k + 1)=es.length - (k + 1) + 1 by omega,fe_snoc _ _ (by omega)]
    cases fe es h' (k + 1) (es.length - (k + 1))<;>rfl
 ·have:rowK (es++[.beg h n v x]) es.length=some ⟨h,n,v,x,.non,es.length,none⟩:=by
   unfold rowK
   rw [List.getElem?_append_right (Nat.le_refl _),Nat.sub_self,List.length_append,List.length_singleton,Nat.sub_self]
   rfl
  rw [List.filterMap_cons_some this]
  rfl
theorem due_fin {es:List Ev} {h:Int} {a:V}:dueR (es++[.fin h a])=(dueR es).map (endR es.length h a):=by
 unfold dueR
 rw [List.length_append,List.length_singleton,List.range_succ,List.filterMap_append,List.map_filterMap]
 have:rowK (es++[.fin h a]) es.length=none:=by
  unfold rowK
  rw [List.getElem?_append_right (Nat.le_refl _),Nat.sub_self]
  rfl
 rw [List.filterMap_cons_none this,List.filterMap_nil,List.append_nil]
 refine fm_congr fun k hk=>?_
 have hk:=List.mem_range.mp hk
 unfold rowK
 rw [List.getElem?_append_left hk,List.length_append,List.length_singleton]
 cases he:es[k]? with
 | none=>rfl
 | some e=>
  cases e with
  | fin=>rfl
  | beg h' n' v' x'=>
   dsimp only
   rw [show es.length + 1 - (k + 1)=es.length - (k + 1) + 1 by omega,fe_snoc _ _ (by omega)]
   cases hf:fe es h' (k + 1) (es.length - (k + 1)) with
   | some p=>
    unfold endR
    dsimp only [Option.map_some]
    rw [if_neg (fun z=>by cases z.2)]
   | none=>
    unfold endR
    dsimp only [Option.map_some,Option.map_none]
    by_cases z:h=h'
    ·rw [if_pos z,if_pos ⟨z.symm,rfl⟩]
     rfl
    ·rw [if_neg z,if_neg (fun y=>z y.1.symm)]
     rfl
def LastO (rs:List Rc) (os:List Int):Prop:=∀h∈os,∀j,lastI h (rs.map Rc.h)=some j→∃r,rs[j]? = some r∧r.e=none
theorem dstep_fin {i:Nat} {rs:List Rc} {os:List Int} (I:DInv i rs os) (L:LastO rs os) {h:Int} (a:V) (ok:h∈os):dstep i rs (.fin h a)=rs.map (endR i h a):=by
 obtain ⟨j,hj⟩:=Option.isSome_iff_exists.mp (lastI_some _ (I.m h ok))
 obtain ⟨g1,g2⟩:=lastI_get _ hj
 have hd:dstep i rs (.fin h a)=rs.modify j (fun r=>{ r with a:=a,e:=some i }):=by unfold dstep;dsimp only;rw [hj]
 rw [hd]
 obtain ⟨r,hr,ho⟩:=L h ok j hj
 apply List.ext_getElem?
 intro m
 rw [List.getElem?_map,List.getElem?_modify]
 cases hm:rs[m]? with
 | none=>rfl
 | some q=>
  show some (if j=m then _ else q)=some (endR i h a q)
  unfold endR
  by_cases z:j=m
  ·subst z
   rw [hr] at hm
   cases hm
   rw [List.getElem?_map,hr] at g1
   rw [if_pos rfl,if_pos ⟨Option.some.inj g1,ho⟩]
  ·rw [if_neg z,if_neg]
   rintro ⟨e1,e2⟩
   rcases Nat.lt_or_gt_of_ne z with y|y
   ·refine g2 m y ?_
    rw [List.getElem?_map,hm,←e1]
    rfl
   ·obtain ⟨_,p2⟩:=I.p m j q r y hm hr
    rw [List.getElem?_map,hr] at g1
    obtain ⟨e,he,_⟩:=p2 (e1.trans (Option.some.inj g1).symm)
    rw [e2] at he
    cases he
theorem LastO.step {i:Nat} {rs:List Rc} {os:List Int} (I:DInv i rs os) (L:LastO rs os) {e:Ev} (ok:oOk os e):LastO (dstep i rs e) (oStep os e):=by
 cases e with
 | beg h n v x=>
  intro k hk j hj
  have hj:lastI k ((rs++[(⟨h,n,v,x,.non,i,none⟩:Rc)]).map Rc.h)=some j:=hj
  rw [List.map_append,List.map_cons,List.map_nil,lastI_snoc] at hj
  by_cases z:h=k
  ·rw [if_pos z] at hj
   cases hj
   refine ⟨⟨h,n,v,x,.non,i,none⟩,?_,rfl⟩
   show (rs++[_])[_]? = _
   rw [List.length_map,List.getElem?_append_right (Nat.le_refl _),Nat.sub_self]
   rfl
  ·rw [if_neg z] at hj
   have hk':k∈os:=(List.mem_append.mp hk).resolve_right fun y=>z (List.mem_singleton.mp y).symm
   obtain ⟨r,hr,ho⟩:=L k hk' j hj
   refine ⟨r,?_,ho⟩
   show (rs++[_])[j]? = _
   rw [List.getElem?_append_left (List.getElem?_eq_some_iff.mp hr).1]
   exact hr
 | fin h a=>
  intro k hk j hj
  have ok:h∈os:=ok
  have hk:=List.mem_filter.mp hk
  have nk:k≠h:=of_decide_eq_true hk.2
  rw [dstep_fin I L a ok] at hj⊢
  have eh:(rs.map (endR i h a)).map Rc.h=rs.map Rc.h:=by
   rw [List.map_map]
   refine List.map_congr_left fun r _=>?_
   show (endR i h a r).h=r.h
   unfold endR
   split<;>rfl
  rw [eh] at hj
  obtain ⟨r,hr,ho⟩:=L k hk.1 j hj
  have g1:=(lastI_get _ hj).1
  rw [List.getElem?_map,hr] at g1
  have g1:r.h=k:=Option.some.inj g1
  refine ⟨endR i h a r,by rw [List.getElem?_map,hr];rfl,?_⟩
  unfold endR
  rw [if_neg (fun z=>nk (g1.symm.trans z.1))]
  exact ho
theorem EWf.of_snoc {e:Ev} :∀{es:List Ev} {os:List Int},EWf os (es++[e])→EWf os es∧oOk (es.foldl oStep os) e
 | [],os,h=>⟨trivial,h.1⟩
 | x :: es,os,h=>by
  have:=EWf.of_snoc (es:=es) h.2
  exact ⟨⟨h.1,this.1⟩,this.2⟩
theorem due_all :∀(n:Nat) (es:List Ev),es.length=n→EWf [] es→dAll 0 [] es=dueR es∧DInv es.length (dAll 0 [] es) (es.foldl oStep [])∧LastO (dAll 0 [] es) (es.foldl oStep [])
 | 0,es,hl,_=>by
  have:es=[]:=List.length_eq_zero_iff.mp hl
  subst this
  exact ⟨rfl,DInv.nil,fun h hh=>by cases hh⟩
 | n + 1,es,hl,wf=>by
  have ne:es≠[]:=fun z=>by rw [z] at hl;cases hl
  obtain ⟨fs,e,rfl⟩ :∃fs e,es=fs++[e]:=⟨es.dropLast,es.getLast ne,(List.dropLast_concat_getLast ne).symm⟩
  rw [List.length_append] at hl
  have hl:fs.length=n:=by simpa using hl
  obtain ⟨wf1,ok⟩:=EWf.of_snoc wf
  obtain ⟨h1,h2,h3⟩:=due_all n fs hl wf1
  have hs:=h2.step ok
  rw [dAll_snoc,Nat.zero_add,List.foldl_append,List.length_append]
  refine ⟨?_,hs.1,h3.step h2 ok⟩
  cases e with
  | beg h n v x=>rw [due_beg,←h1];rfl
  | fin h a=>rw [due_fin,←h1];exact dstep_fin h2 h3 a ok
end
section
def hnd:Ev→Int
 | .beg h _ _ _=>h
 | .fin h _=>h
def EvG:Ev→Prop
 | .beg _ n v x=>(∃z,n=.str z)∧((v=.str "read"∧x=.non)∨(v=.str "write"∧∃i,x=.int i))
 | .fin _ a=>(∃i,a=.int i)∨∃z,a=.str z
def RgG (r:Rc):Prop:=((r.v=.str "read"∧r.x=.non)∨(r.v=.str "write"∧∃i,r.x=.int i))∧∀e,r.e=some e→(∃i,r.a=.int i)∨∃z,r.a=.str z
theorem TW.evG {nm:Str} {wr:Int} {es:List Ev} {os:List (Int×Bool)} {us:List Int} (h:TW nm wr es os us) :∀e∈es,EvG e:=by
 have sn :∀{es:List Ev} {e:Ev},(∀x∈es,EvG x)→EvG e→∀x∈es++[e],EvG x:=fun h1 h2 x hx=>by
  rcases List.mem_append.mp hx with z|z
  ·exact h1 x z
  ·rw [List.mem_singleton.mp z];exact h2
 induction h with
 | nil=>exact fun _ h=>absurd h List.not_mem_nil
 | wri _ _ _ _ ih=>exact sn ih ⟨⟨_,rfl⟩,.inr ⟨rfl,_,rfl⟩⟩
 | rd _ _ ih=>exact sn ih ⟨⟨_,rfl⟩,.inl ⟨rfl,rfl⟩⟩
 | @fin _ _ _ _ b _ _ _ ht hf ih=>
  refine sn ih ?_
  cases b with
  | true=>exact .inr ⟨_,ht rfl⟩
  | false=>exact .inl (hf rfl)
theorem fe_some {es:List Ev} {h:Int} :∀{n lo:Nat} {p:Nat×V},fe es h lo n=some p→es[p.1]? = some (.fin h p.2)
 | 0,lo,p,e=>by cases e
 | n + 1,lo,p,e=>by
  unfold fe at e
  cases he:es[lo]? with
  | none=>rw [he] at e;exact fe_some e
  | some x=>
   rw [he] at e
   cases x with
   | beg h n v x=>exact fe_some e
   | fin k a=>
    dsimp only at e
    by_cases z:k=h
    ·rw [if_pos z] at e
     cases e
     rw [←z]
     exact he
    ·rw [if_neg z] at e
     exact fe_some e
theorem fe_hit {es:List Ev} {h:Int} {k:Nat} {a:V} (hk:es[k]? = some (.fin h a)) :∀{n lo:Nat},lo≤k→k < lo + n→(∀j e,lo≤j→j < k→es[j]? = some e→hnd e≠h)→fe es h lo n=some (k,a)
 | 0,lo,h1,h2,_=>by omega
 | n + 1,lo,h1,h2,no=>by
  unfold fe
  rcases Nat.lt_or_ge lo k with z|z
  ·have ih:=fe_hit hk (n:=n) (lo:=lo + 1) z (by omega) fun j e a b=>no j e (by omega) b
   cases he:es[lo]? with
   | none=>exact ih
   | some x=>
    cases x with
    | beg=>exact ih
    | fin k' a'=>
     dsimp only
     rw [if_neg (show ¬ k'=h from no lo _ (Nat.le_refl _) z he)]
     exact ih
  ·have:lo=k:=by omega
   subst this
   rw [hk]
   dsimp only
   rw [if_pos rfl]
theorem due_mem {es:List Ev} {r:Rc}:r∈dueR es↔∃k,rowK es k=some r:=by
 unfold dueR
 rw [List.mem_filterMap]
 constructor
 ·rintro ⟨k,_,e⟩
  exact ⟨k,e⟩
 ·rintro ⟨k,e⟩
  refine ⟨k,List.mem_range.mpr ?_,e⟩
  rcases Nat.lt_or_ge k es.length with z|z
  ·exact z
  ·unfold rowK at e
   rw [List.getElem?_eq_none z] at e
   cases e
theorem due_g {es:List Ev} (h :∀e∈es,EvG e) :∀r∈dueR es,RgG r:=fun r hr=>by
 obtain ⟨k,e⟩:=due_mem.mp hr
 unfold rowK at e
 cases he:es[k]? with
 | none=>rw [he] at e;cases e
 | some x=>
  rw [he] at e
  cases x with
  | fin=>cases e
  | beg h' n v x=>
   have hg:=h _ (List.mem_of_getElem? he)
   cases e
   refine ⟨hg.2,fun i hi=>?_⟩
   dsimp only at hi⊢
   cases hf:fe es h' (k + 1) (es.length - (k + 1)) with
   | none=>rw [hf] at hi;cases hi
   | some p=>exact h _ (List.mem_of_getElem? (fe_some hf))
def wsR (rs:List Rc):List Int:=(rs.filter isW).map (fun r=>intV r.x)
def hsR (rs:List Rc):List Int:=(rs.filter isW).map (fun r=>r.h)
theorem endR_ws (i:Nat) (h:Int) (a:V) :∀rs:List Rc,wsR (rs.map (endR i h a))=wsR rs∧hsR (rs.map (endR i h a))=hsR rs
 | []=>⟨rfl,rfl⟩
 | r :: rs=>by
  obtain ⟨h1,h2⟩:=endR_ws i h a rs
  have e:isW (endR i h a r)=isW r∧(endR i h a r).x=r.x∧(endR i h a r).h=r.h:=by unfold endR;split<;>exact ⟨rfl,rfl,rfl⟩
  unfold wsR hsR at *
  rw [List.map_cons]
  cases hw:isW r with
  | true=>rw [List.filter_cons_of_pos (by rw [e.1];exact hw),List.filter_cons_of_pos hw,List.map_cons,List.map_cons,List.map_cons,List.map_cons,h1,h2,e.2.1,e.2.2];exact ⟨rfl,rfl⟩
  | false=>rw [List.filter_cons_of_neg (by rw [e.1,hw];decide),List.filter_cons_of_neg (by rw [hw];decide),h1,h2];exact ⟨rfl,rfl⟩
theorem due_fin_ws {es:List Ev} {h:Int} {a:V}:wsR (dueR (es++[.fin h a]))=wsR (dueR es)∧hsR (dueR (es++[.fin h a]))=hsR (dueR es):=by
 rw [due_fin]
 exact endR_ws _ _ _ _
theorem due_wri_ws {es:List Ev} {h i:Int} {n:V}:wsR (dueR (es++[.beg h n (.str "write") (.int i)]))=wsR (dueR es)++[i]∧hsR (dueR (es++[.beg h n (.str "write") (.int i)]))=hsR (dueR es)++[h]:=by
 rw [due_beg]
 unfold wsR hsR
 rw [List.filter_append,List.map_append,List.map_append]
 have:[(⟨h,n,.str "write",.int i,.non,es.length,none⟩:Rc)].filter isW=[⟨h,n,.str "write",.int i,.non,es.length,none⟩]:=List.filter_cons_of_pos (decide_eq_true rfl)
 rw [this]
 exact ⟨rfl,rfl⟩
theorem wri_mem {es:List Ev} {h i:Int} {n:V} (hm:.beg h n (.str "write") (.int i)∈es):i∈wsR (dueR es)∧h∈hsR (dueR es):=by
 obtain ⟨k,hk⟩:=List.mem_iff_getElem?.mp hm
 have hr :∃r∈dueR es,r.v=.str "write"∧r.x=.int i∧r.h=h:=by
  refine ⟨⟨h,n,.str "write",.int i,((fe es h (k + 1) (es.length - (k + 1))).map (·.2)).getD .non,k,(fe es h (k + 1) (es.length - (k + 1))).map (·.1)⟩,due_mem.mpr ⟨k,?_⟩,rfl,rfl,rfl⟩
  unfold rowK
  rw [hk]
 obtain ⟨r,hr,e1,e2,e3⟩:=hr
 have hf:r∈(dueR es).filter isW:=List.mem_filter.mpr ⟨hr,decide_eq_true e1⟩
 exact ⟨List.mem_map.mpr ⟨r,hf,by rw [e2];rfl⟩,List.mem_map.mpr ⟨r,hf,e3⟩⟩
def clo (es:List Ev) (h:Int):List Ev:=match (es.filter fun e=>decide (hnd e=h)).getLast? with
 | some (.beg _ _ v _)=>es++[.fin h (if v=.str "read" then .int 0 else .str "ok")]
 | _=>es
theorem open_iff (h:Int) (es:List Ev):h∈es.foldl oStep []↔∃n v x,(es.filter fun e=>decide (hnd e=h)).getLast? = some (.beg h n v x):=by
 suffices key :∀m (es:List Ev),es.length=m→(h∈es.foldl oStep []↔∃n v x,(es.filter fun e=>decide (hnd e=h)).getLast? = some (.beg h n v x)) from key _ es rfl
 intro m
 induction m with
 | zero=>
  intro es hl
  have:es=[]:=List.length_eq_zero_iff.mp hl
  subst this
  exact ⟨(fun z=>absurd z List.not_mem_nil),fun ⟨_,_,_,z⟩=>by cases z⟩
 | succ m ih=>
  intro es hl
  have ne:es≠[]:=fun z=>by rw [z] at hl;cases hl
  obtain ⟨fs,e,rfl⟩ :∃fs e,es=fs++[e]:=⟨es.dropLast,es.getLast ne,(List.dropLast_concat_getLast ne).symm⟩
  have ih:=ih fs (by simpa using hl)
  rw [List.foldl_append,List.filter_append]
  show h∈oStep (fs.foldl oStep []) e↔_
  by_cases z:hnd e=h
  ·rw [show [e].filter (fun e=>decide (hnd e=h))=[e] from List.filter_cons_of_pos (p:=fun e=>decide (hnd e=h)) (decide_eq_true z),List.getLast?_append]
   show _↔∃n v x,some e=_
   cases e with
   | beg k n v x=>
    have z:k=h:=z
    subst z
    exact ⟨fun _=>⟨n,v,x,rfl⟩,fun _=>List.mem_append.mpr (.inr (List.mem_singleton.mpr rfl))⟩
   | fin k a=>
    have z:k=h:=z
    subst z
    exact ⟨fun y=>absurd rfl (of_decide_eq_true (List.mem_filter.mp y).2),fun ⟨_,_,_,y⟩=>by cases y⟩
  ·rw [List.filter_cons_of_neg (by simpa using z),List.filter_nil,List.append_nil,←ih]
   cases e with
   | beg k n v x=>exact ⟨fun y=>(List.mem_append.mp y).resolve_right fun y=>z (List.mem_singleton.mp y).symm,fun y=>List.mem_append.mpr (.inl y)⟩
   | fin k a=>exact ⟨fun y=>(List.mem_filter.mp y).1,fun y=>List.mem_filter.mpr ⟨y,decide_eq_true fun e=>z e.symm⟩⟩
theorem last_hnd {h:Int} {es:List Ev} {e:Ev} (hl:(es.filter fun e=>decide (hnd e=h)).getLast? = some e):hnd e=h:=of_decide_eq_true (List.mem_filter.mp (List.mem_of_getLast? hl)).2
theorem clo_ok {es:List Ev} {h:Int} (wf:EWf [] es):EWf [] (clo es h)∧h∉(clo es h).foldl oStep []∧wsR (dueR (clo es h))=wsR (dueR es)∧hsR (dueR (clo es h))=hsR (dueR es)∧(clo es h).length≤es.length + 1∧((∀e∈es,EvG e)→∀e∈clo es h,EvG e):=by
 have nope:(¬∃n v x,(es.filter fun e=>decide (hnd e=h)).getLast? = some (.beg h n v x))→clo es h=es→EWf [] (clo es h)∧h∉(clo es h).foldl oStep []∧wsR (dueR (clo es h))=wsR (dueR es)∧hsR (dueR (clo es h))=hsR (dueR es)∧(clo es h).length≤es.length + 1∧((∀e∈es,EvG e)→∀e∈clo es h,EvG e):=fun no e=>by
  rw [e]
  exact ⟨wf,fun z=>no ((open_iff h es).mp z),rfl,rfl,Nat.le_succ _,fun z=>z⟩
 cases hl:(es.filter fun e=>decide (hnd e=h)).getLast? with
 | none=>exact nope (fun ⟨_,_,_,z⟩=>by rw [hl] at z;cases z) (by unfold clo;rw [hl])
 | some e=>
  have hh:=last_hnd hl
  cases e with
  | fin k a=>exact nope (fun ⟨_,_,_,z⟩=>by rw [hl] at z;cases z) (by unfold clo;rw [hl])
  | beg k n v x=>
   have hh:k=h:=hh
   subst hh
   have e:clo es k=es++[.fin k (if v=.str "read" then .int 0 else .str "ok")]:=by unfold clo;rw [hl]
   rw [e]
   have op:=(open_iff k es).mpr ⟨n,v,x,hl⟩
   refine ⟨wf.snoc op,fun z=>?_,due_fin_ws.1,due_fin_ws.2,by rw [List.length_append];exact Nat.le_refl _,fun g e he=>?_⟩
   ·rw [List.foldl_append] at z
    exact absurd rfl (of_decide_eq_true (List.mem_filter.mp z).2)
   ·rcases List.mem_append.mp he with y|y
    ·exact g e y
    ·rw [List.mem_singleton.mp y]
     show (∃i,(if v=.str "read" then V.int 0 else .str "ok")=.int i)∨_
     by_cases q:v=.str "read"
     ·rw [if_pos q];exact .inl ⟨_,rfl⟩
     ·rw [if_neg q];exact .inr ⟨_,rfl⟩
def more (es:List Ev) (n:V) (h i:Int) (b:Bool):List Ev:=clo es h++[.beg h n (.str "write") (.int i)]++(if b=true then [.fin h (.str "ok")] else [])
theorem more_ok {es:List Ev} {h i:Int} {n:Str} {b:Bool} (wf:EWf [] es) (g :∀e∈es,EvG e):EWf [] (more es (.str n) h i b)∧wsR (dueR (more es (.str n) h i b))=wsR (dueR es)++[i]∧hsR (dueR (more es (.str n) h i b))=hsR (dueR es)++[h]∧(∀e∈more es (.str n) h i b,EvG e)∧(more es (.str n) h i b).length≤es.length + 3:=by
 obtain ⟨c1,c2,c3,c4,c5,c6⟩:=clo_ok (es:=es) (h:=h) wf
 have c6:=c6 g
 have w1:EWf [] (clo es h++[.beg h (.str n) (.str "write") (.int i)]):=c1.snoc c2
 have g1 :∀e∈clo es h++[.beg h (.str n) (.str "write") (.int i)],EvG e:=fun e he=>by
  rcases List.mem_append.mp he with y|y
  ·exact c6 e y
  ·rw [List.mem_singleton.mp y];exact ⟨⟨_,rfl⟩,.inr ⟨rfl,_,rfl⟩⟩
 obtain ⟨d1,d2⟩:=due_wri_ws (es:=clo es h) (h:=h) (i:=i) (n:=.str n)
 unfold more
 cases b with
 | false=>
  rw [if_neg (by decide),List.append_nil]
  exact ⟨w1,by rw [d1,c3],by rw [d2,c4],g1,by rw [List.length_append];show (clo es h).length + 1≤_;omega⟩
 | true=>
  rw [if_pos rfl]
  refine ⟨w1.snoc ?_,by rw [due_fin_ws.1,d1,c3],by rw [due_fin_ws.2,d2,c4],fun e he=>?_,by rw [List.length_append,List.length_append];show (clo es h).length + 1 + 1≤_;omega⟩
  ·rw [List.foldl_append]
   exact List.mem_append.mpr (.inr (List.mem_singleton.mpr rfl))
  ·rcases List.mem_append.mp he with y|y
   ·exact g1 e y
   ·rw [List.mem_singleton.mp y];exact .inr ⟨_,rfl⟩
theorem next_fin {h:Int} :∀{es:List Ev} {os:List Int} {k:Nat} {e:Ev},EWf os es→h∈os→es[k]? = some e→hnd e=h→(∀(j:Nat) e',j < k→es[j]? = some e'→hnd e'≠h)→∃a,e=.fin h a
 | [],_,k,e,_,_,he,_,_=>by simp at he
 | x :: es,os,0,e,wf,ho,he,hh,_=>by
  rw [List.getElem?_cons_zero] at he
  cases he
  cases x with
  | beg k n v x=>
   have hh:k=h:=hh
   subst hh
   exact absurd ho wf.1
  | fin k a=>
   have hh:k=h:=hh
   subst hh
   exact ⟨a,rfl⟩
 | x :: es,os,k + 1,e,wf,ho,he,hh,no=>by
  rw [List.getElem?_cons_succ] at he
  have nx:=no 0 x (Nat.succ_pos _) rfl
  refine next_fin wf.2 ?_ he hh fun j e' hj hj'=>no (j + 1) e' (by omega) (by rw [List.getElem?_cons_succ];exact hj')
  cases x with
  | beg k n v x=>exact List.mem_append.mpr (.inl ho)
  | fin k a=>exact List.mem_filter.mpr ⟨ho,decide_eq_true fun z=>nx z.symm⟩
theorem stay_open {h:Int} :∀{es:List Ev} {os:List Int},h∈os→(∀e∈es,hnd e≠h)→h∈es.foldl oStep os
 | [],_,ho,_=>ho
 | x :: es,os,ho,no=>by
  rw [List.foldl_cons]
  refine stay_open ?_ fun e he=>no e (List.mem_cons_of_mem _ he)
  have nx:=no x List.mem_cons_self
  cases x with
  | beg k n v x=>exact List.mem_append.mpr (.inl ho)
  | fin k a=>exact List.mem_filter.mpr ⟨ho,decide_eq_true fun z=>nx z.symm⟩
theorem EWf.app :∀{es fs:List Ev} {os:List Int},EWf os (es++fs)→EWf (es.foldl oStep os) fs
 | [],_,_,h=>h
 | _ :: es,_,_,h=>EWf.app (es:=es) h.2
theorem EWf.set_fin {h:Int} {a b:V} :∀{es:List Ev} {os:List Int} {k:Nat},EWf os es→es[k]? = some (.fin h a)→EWf os (es.set k (.fin h b))
 | [],_,k,_,e=>by simp at e
 | x :: es,os,0,wf,e=>by
  rw [List.getElem?_cons_zero] at e
  cases e
  exact wf
 | x :: es,os,k + 1,wf,e=>by
  rw [List.getElem?_cons_succ] at e
  exact ⟨wf.1,EWf.set_fin wf.2 e⟩
theorem split_at {es:List Ev} {k:Nat} {e:Ev} (h:es[k]? = some e):es=es.take k++e :: es.drop (k + 1):=by
 obtain ⟨hk,rfl⟩:=List.getElem?_eq_some_iff.mp h
 rw [←List.drop_eq_getElem_cons hk,List.take_append_drop]
theorem row_of {es:List Ev} {k m:Nat} {h:Int} {n v x a:V} (hk:es[k]? = some (.beg h n v x)) (hm:es[m]? = some (.fin h a)) (lt:k < m) (no :∀j e,k < j→j < m→es[j]? = some e→hnd e≠h) :∃r∈dueR es,r.v=v∧r.a=a∧r.e=some m:=by
 have lm:=(List.getElem?_eq_some_iff.mp hm).1
 have hf:fe es h (k + 1) (es.length - (k + 1))=some (m,a):=fe_hit hm (by omega) (by omega) fun j e h1 h2=>no j e (by omega) h2
 refine ⟨⟨h,n,v,x,a,k,some m⟩,due_mem.mpr ⟨k,?_⟩,rfl,rfl,rfl⟩
 unfold rowK
 rw [hk]
 dsimp only
 rw [hf]
 rfl
theorem open_at {es:List Ev} {k:Nat} {h:Int} {n v x:V} (wf:EWf [] es) (hk:es[k]? = some (.beg h n v x)):EWf ((es.take k).foldl oStep []++[h]) (es.drop (k + 1))∧((∀j e,k < j→es[j]? = some e→hnd e≠h)→h∈es.foldl oStep []):=by
 have e:=split_at hk
 have w2:EWf [] (es.take k++.beg h n v x :: es.drop (k + 1)):=e ▸ wf
 refine ⟨w2.app.2,fun no=>?_⟩
 rw [e,List.foldl_append,List.foldl_cons]
 refine stay_open (List.mem_append.mpr (.inr (List.mem_singleton.mpr rfl))) fun e' he'=>?_
 obtain ⟨j,hj⟩:=List.mem_iff_getElem?.mp he'
 rw [List.getElem?_drop] at hj
 exact no _ e' (by omega) hj
theorem ans_new {es:List Ev} {k:Nat} {h:Int} {n v x:V} (a:V) (wf:EWf [] es) (hk:es[k]? = some (.beg h n v x)) (no :∀j e,k < j→es[j]? = some e→hnd e≠h):EWf [] (es++[.fin h a])∧∃r∈dueR (es++[.fin h a]),r.v=v∧r.a=a∧r.e=some es.length:=by
 have lk:=(List.getElem?_eq_some_iff.mp hk).1
 refine ⟨wf.snoc ((open_at wf hk).2 no),row_of (k:=k) (h:=h) (n:=n) (x:=x) ?_ ?_ lk fun j e h1 h2 he=>?_⟩
 ·rw [List.getElem?_append_left lk];exact hk
 ·rw [List.getElem?_append_right (Nat.le_refl _),Nat.sub_self];rfl
 ·rw [List.getElem?_append_left h2] at he
  exact no j e h1 he
theorem ans_set {es:List Ev} {k m:Nat} {h:Int} {n v x:V} {em:Ev} (a:V) (wf:EWf [] es) (hk:es[k]? = some (.beg h n v x)) (hm:es[m]? = some em) (hh:hnd em=h) (lt:k < m) (no :∀j e,k < j→j < m→es[j]? = some e→hnd e≠h):EWf [] (es.set m (.fin h a))∧∃r∈dueR (es.set m (.fin h a)),r.v=v∧r.a=a∧r.e=some m:=by
 have lm:=(List.getElem?_eq_some_iff.mp hm).1
 have hd:(es.drop (k + 1))[m - (k + 1)]? = some em:=by rw [List.getElem?_drop,show k + 1 + (m - (k + 1))=m by omega];exact hm
 obtain ⟨a0,rfl⟩:=next_fin (open_at wf hk).1 (List.mem_append.mpr (.inr (List.mem_singleton.mpr rfl))) hd hh fun j e' hj he'=>by
  rw [List.getElem?_drop] at he'
  exact no _ e' (by omega) (by omega) he'
 refine ⟨wf.set_fin hm,row_of (k:=k) (h:=h) (n:=n) (x:=x) ?_ ?_ lt fun j e h1 h2 he=>?_⟩
 ·rw [List.getElem?_set_ne (by omega)];exact hk
 ·rw [List.getElem?_set_self lm]
 ·rw [List.getElem?_set_ne (by omega)] at he
  exact no j e h1 h2 he
def isIntV:V→Bool
 | .int _=>true
 | _=>false
def ansB (r:Rc):Bool:=match r.e with
 | none=>true
 | some _=>if isW r=true then decide (r.a=.str "ok") else isIntV r.a
def plainB (rs:List Rc):Bool:=!(decide ((0:Int)∈wsR rs)) && !(decide (((wsR rs).foldl addI []).length < (wsR rs).length)) && rs.all ansB
theorem addI_le :∀(l ns:List Int),(l.foldl addI ns).length≤ns.length + l.length
 | [],ns=>Nat.le_refl _
 | x :: l,ns=>by
  have h:=addI_le l (addI ns x)
  have h2:(addI ns x).length≤ns.length + 1:=by unfold addI;split<;>simp
  rw [List.foldl_cons,List.length_cons]
  omega
theorem addI_full :∀(l ns:List Int),ns.length + l.length≤(l.foldl addI ns).length→l.Nodup∧∀x∈l,x∉ns
 | [],ns,_=>⟨.nil,fun _ h=>absurd h List.not_mem_nil⟩
 | x :: l,ns,h=>by
  rw [List.foldl_cons,List.length_cons] at h
  have le:=addI_le l (addI ns x)
  by_cases z:x∈ns
  ·have e:addI ns x=ns:=if_pos z
   rw [e] at le h
   omega
  ·have e:addI ns x=ns++[x]:=if_neg z
   rw [e] at h
   obtain ⟨h1,h2⟩:=addI_full l (ns++[x]) (by rw [List.length_append];show ns.length + 1 + l.length≤_;omega)
   refine ⟨List.nodup_cons.mpr ⟨fun y=>h2 x y (List.mem_append.mpr (.inr (List.mem_singleton.mpr rfl))),h1⟩,fun y hy=>?_⟩
   rcases List.mem_cons.mp hy with rfl|hy
   ·exact z
   ·exact fun q=>h2 y hy (List.mem_append.mpr (.inl q))
theorem addI_mem {y:Int} :∀(l ns:List Int),y∈l∨y∈ns→y∈l.foldl addI ns
 | [],ns,h=>h.resolve_left List.not_mem_nil
 | x :: l,ns,h=>by
  rw [List.foldl_cons]
  refine addI_mem l _ ?_
  have key:y=x∨y∈ns→y∈addI ns x:=fun z=>by
   unfold addI
   by_cases q:x∈ns
   ·rw [if_pos q];exact z.elim (fun e=>e ▸ q) id
   ·rw [if_neg q];exact z.elim (fun e=>List.mem_append.mpr (.inr (List.mem_singleton.mpr e))) fun e=>List.mem_append.mpr (.inl e)
  rcases h with h|h
  ·rcases List.mem_cons.mp h with z|z
   ·exact .inr (key (.inl z))
   ·exact .inl z
  ·exact .inr (key (.inr h))
theorem addI_two {l:List Int} {u v:Int} (hu:u∈l) (hv:v∈l) (ne:u≠v):1 < (l.foldl addI []).length:=by
 have h1:=addI_mem l [] (.inl hu)
 have h2:=addI_mem l [] (.inl hv)
 match hl:l.foldl addI [],h1,h2 with
 | [],h1,_=>exact absurd h1 List.not_mem_nil
 | [x],h1,h2=>
  exact absurd ((List.mem_singleton.mp h1).trans (List.mem_singleton.mp h2).symm) ne
 | x :: y :: r,_,_=>exact Nat.succ_lt_succ (Nat.succ_pos _)
theorem bad_zero {rs:List Rc} (h:(0:Int)∈wsR rs):plainB rs=false:=by
 unfold plainB
 rw [decide_eq_true h]
 rfl
theorem bad_twice {rs:List Rc} (h:¬ (wsR rs).Nodup):plainB rs=false:=by
 unfold plainB
 have:((wsR rs).foldl addI []).length < (wsR rs).length:=by
  rcases Nat.lt_or_ge ((wsR rs).foldl addI []).length (wsR rs).length with z|z
  ·exact z
  ·exact absurd (addI_full (wsR rs) [] (by rw [List.length_nil,Nat.zero_add];exact z)).1 h
 rw [decide_eq_true this,Bool.not_true,Bool.and_false]
 rfl
theorem bad_ans {rs:List Rc} {r:Rc} (hr:r∈rs) (h:ansB r=false):plainB rs=false:=by
 unfold plainB
 have:rs.all ansB=false:=List.all_eq_false.mpr ⟨r,hr,by rw [h];decide⟩
 rw [this,Bool.and_false]
def BadR (rs:List Rc):Prop:=plainB rs=false∨∃u∈hsR rs,∃v∈hsR rs,u≠v
end
section
variable {P:Program} {w:World} {mg:Str→Option Value} {base:Heap}
theorem e12:(10:Int) ^ (12:Int).toNat=1000000000000:=by decide
theorem p12:CPow 10 12:=⟨by decide,by decide,by decide⟩
def sp__law_answer (K:PySem.W.Frag):Sp:=fun vs H Q _=>∃(r l:Addr) (ws:List Int),vs=[.ref r,.ref l]∧RowAt H r∧H l=some (.lst (ws.map V.int))∧r≠l∧0 < ws.length∧ws.length≤100∧∀(i:Int) H',Rw r H H'→Q (.int i) H'
theorem ok__law_answer (T:TX (KX w.params) mg) (c__law_take:Cal P w (KX w.params) mg base "_law_take" ["row","many"] 1 sp__law_take) (c__law_worth:Cal P w (KX w.params) mg base "_law_worth" ["row"] 2 sp__law_worth):FnOk P w (KX w.params) mg base CX0 3 274 fd__law_answer ["row","worths"] (sp__law_answer (KX w.params)):=by
 refine (F__law_answer w.params).ok sc__law_answer (fun vs H Q E h=>?_) (fun cdv A outer s H vs Q E hr h=>?_)
 ·obtain ⟨r,l,ws,rfl,_⟩:=h
  rfl
 ·obtain ⟨r,l,ws,rfl,R,el,nrl,w0,w1,q⟩:=h
  refine q_of (qss_cons (QS.mk (ps_set (i:=2) sc__law_answer.nd rfl (by first|exact Or.inl rfl|exact Or.inr rfl) (pe_cal c__law_take (hr.mono (by first|decide|omega)) rfl (pa_cons (pv 0) (pa_cons pe_int pa_nil)))))
   (qss_cons (QS.mk (ps_if (pt_cmpR opEq (pv 2) pe_int (nomark _))
   (pss_one (ps_ret (pe_ix ix_seq (pe_lst (pa_cons (pe_cal c__law_worth (hr.mono (by first|decide|omega)) rfl (pa_cons (pv 0) pa_nil)) (pa_cons (pe_cal c__law_worth (hr.mono (by first|decide|omega)) rfl (pa_cons (pv 0) pa_nil)) (pa_cons (pe_op op_pow pe_int pe_int) (pa_cons (pe_un un_neg (pe_op op_pow pe_int pe_int)) (pa_cons (pe_op opAdd (pe_op op_pow pe_int pe_int) pe_int) pa_nil)))))) (pe_cal c__law_take (hr.mono (by first|decide|omega)) rfl (pa_cons (pv 0) (pa_cons pe_int pa_nil))) (fun _ _=>rfl))))
   pss_nil))
   (qss_cons (qs_set (i:=3) sc__law_answer.nd rfl (by first|exact Or.inl rfl|exact Or.inr rfl) (qe_ix ix_seq (qe_lst (qa_cons (QE.mk pe_int) (qa_cons (QE.mk pe_int) (qa_cons (QE.mk pe_int) (qa_cons (QE.mk pe_int) (qa_cons (QE.mk pe_int) (qa_cons (QE.mk pe_int) (qa_cons (QE.mk pe_int) (qa_cons (QE.mk (pe_cal c__law_take (hr.mono (by first|decide|omega)) rfl (pa_cons (pv 0) (pa_cons pe_int pa_nil)))) qa_nil))))))))) (QE.mk (pv 2)) (fun _ _=>rfl)))
   (qss_one (QS.mk (ps_ret (pe_ix ix_seq (pv 1) (pe_callB (call_max2 rfl) rfl (T.no (n_max _)) boot_max (pa_cons pe_int (pa_cons (pe_op op_sub (pe_op op_sub (pe_callB callLen rfl (T.no (n_len _)) boot_len (pa_cons (pv 1) pa_nil)) pe_int) (pv 3)) pa_nil))) (fun _ _=>rfl)))))))) ?_
  refine seq_asg ?_
  refine ⟨_,rfl,r,9,rfl,R,by decide,by decide,fun t H1 k1 h0 h1=>?_⟩
  refine g_name ?_
  refine sq_if ?_
  refine ⟨_,rfl,rfl,_,rfl,?_⟩
  by_cases z:t=8
  ·refine iteP (decide_eq_true (by rw [z])) ?_
   refine sq_ret ?_
   refine ⟨_,rfl,r,rfl,k1.r,fun i2 H2 k2 _ _=>⟨_,rfl,r,rfl,k2.r,fun i3 H3 k3 _ _=>?_⟩⟩
   refine ⟨_,_,rfl,rfl,p12,_,_,rfl,rfl,p12,_,rfl,_,_,rfl,rfl,p9,.inl ⟨_,_,rfl,rfl,(show (5:Nat)≤sizeLine by decide),fun p hp=>?_⟩⟩
   refine ⟨_,rfl,r,5,rfl,k3.r.same (Same.upd hp),by decide,by decide,fun t4 H4 k4 h40 h41=>?_⟩
   rw [e9,e12] at k4
   obtain ⟨v,hv,hm⟩:=atI_of (xs:=[V.int i2,.int i3,.int 1000000000000,.int (-1000000000000),.int (1000000000 + 1)]) h40 h41
   refine .inl ⟨p,_,_,v,rfl,rfl,SqL.of (k4.k _ _ (k3.r.fresh hp) upd_same),hv,?_⟩
   have k5:Rw r H H4:=(((k1.trans k2).trans k3).same (Same.upd hp)).trans k4
   simp only [List.mem_cons,List.not_mem_nil,or_false] at hm
   rcases hm with rfl|rfl|rfl|rfl|rfl<;>exact q _ _ k5
  ·refine iteN (fun e=>z (by have:=of_decide_eq_true e;injection this)) ?_
   refine t_nx (seq_asg ?_)
   refine ⟨_,rfl,r,24,rfl,k1.r,by decide,by decide,fun t5 H5 k5 h50 h51=>?_⟩
   refine ⟨(show (8:Nat)≤sizeLine by decide),fun p hp=>?_⟩
   obtain ⟨v,hv,hm⟩:=atI_of (xs:=[V.int 0,.int 0,.int 0,.int 0,.int 1,.int 1,.int 2,.int t5]) h0 (show t < 8 by omega)
   obtain ⟨bk,rfl,b0⟩ :∃bk:Int,v=.int bk∧0≤bk:=by
    simp only [List.mem_cons,List.not_mem_nil,or_false] at hm
    rcases hm with rfl|rfl|rfl|rfl|rfl|rfl|rfl|rfl<;>exact ⟨_,rfl,by omega⟩
   refine ⟨_,rfl,.inl ⟨p,_,t,_,rfl,rfl,SqL.of upd_same,hv,?_⟩⟩
   refine g_name ?_
   have s6:=Same.upd (o:=.lst [V.int 0,.int 0,.int 0,.int 0,.int 1,.int 1,.int 2,.int t5]) hp
   have k6:Rw r H (upd H5 p (.lst [V.int 0,.int 0,.int 0,.int 0,.int 1,.int 1,.int 2,.int t5])):=(k1.trans k5).same s6
   have e6:=k6.k _ _ (Ne.symm nrl) el
   generalize upd H5 p (.lst [V.int 0,.int 0,.int 0,.int 0,.int 1,.int 1,.int 2,.int t5])=H6 at k6 e6⊢
   have lm:(ws.map V.int).length=ws.length:=List.length_map ..
   have hx :∀L:Int,0≤L→L < ws.length→∃i:Int,atI (ws.map V.int) L=some (.int i):=fun L a b=>by
    obtain ⟨v,hv,hm⟩:=atI_of (xs:=ws.map V.int) a (by rw [lm];exact b)
    obtain ⟨i,_,rfl⟩:=List.mem_map.mp hm
    exact ⟨i,hv⟩
   have hL :∀n:Int,n=(ws.length:Int)→0≤(if n - 1 - bk > 0 then n - 1 - bk else 0)∧(if n - 1 - bk > 0 then n - 1 - bk else 0) < ws.length:=fun n hn=>by split<;>omega
   obtain ⟨l0,l1⟩:=hL ((ws.map V.int).length:Nat) (by rw [lm])
   obtain ⟨i,hi⟩:=hx _ l0 l1
   refine sq_ret ?_
   refine ⟨_,rfl,_,rfl,.inl ⟨l,_,rfl,.inl (SqL.of e6),?_⟩⟩
   refine ⟨_,_,rfl,rfl,_,rfl,_,_,rfl,rfl,_,_,rfl,?_⟩
   exact .inl ⟨l,_,_,_,rfl,rfl,SqL.of e6,hi,q _ _ k6⟩
end
section
variable {P:Program} {w:World} {mg:Str→Option Value} {base:Heap}
def vbS (b:Bool):Str:=if b=true then "write" else "read"
def busyK (os:List (Int×Bool)):List (Key×V):=os.map fun o=>(Sum.inl o.1,V.str (vbS o.2))
theorem busy_keys (os:List (Int×Bool)):(busyK os).map (·.1)=(os.map (·.1)).map Sum.inl:=by unfold busyK;rw [List.map_map,List.map_map];rfl
theorem busy_in {os:List (Int×Bool)} {h:Int}:(valV (busyK os) (.inl h)).isSome=true↔h∈os.map (·.1):=by
 rw [valV_isSome,busy_keys]
 exact ⟨fun z=>by obtain ⟨k,hk,e⟩:=List.mem_map.mp z;exact Sum.inl.inj e ▸ hk,fun z=>List.mem_map.mpr ⟨h,z,rfl⟩⟩
theorem busy_get :∀{os:List (Int×Bool)} {h:Int},h∈os.map (·.1)→∃b,(h,b)∈os∧valV (busyK os) (.inl h)=some (.str (vbS b))
 | [],_,z=>absurd z List.not_mem_nil
 | (k,c) :: os,h,z=>by
  by_cases e:k=h
  ·subst e
   exact ⟨c,.head _,valV_pos rfl⟩
  ·rcases List.mem_cons.mp z with y|y
   ·exact absurd y.symm e
   ·obtain ⟨b,h1,h2⟩:=busy_get (os:=os) y
    exact ⟨b,.tail _ h1,by show valV ((Sum.inl k,_) :: busyK os) _=_;rw [valV_neg (fun e'=>e (Sum.inl.inj e'))];exact h2⟩
theorem busy_drop :∀{os:List (Int×Bool)} {h:Int},dropK (busyK os) (.inl h)=busyK (os.filter fun k=>decide (k.1≠h))
 | [],_=>rfl
 | (k,c) :: os,h=>by
  show dropK ((Sum.inl k,_) :: busyK os) _=_
  by_cases e:k=h
  ·rw [dropK_pos (by rw [e]),List.filter_cons_of_neg (by simp [e]),busy_drop]
  ·rw [dropK_neg (fun e'=>e (Sum.inl.inj e')),List.filter_cons_of_pos (by simp [e]),busy_drop]
   rfl
theorem busy_put {os:List (Int×Bool)} {h:Int} {b:Bool} (n:h∉os.map (·.1)):putK (busyK os) (.inl h) (.str (vbS b))=busyK (os++[(h,b)]):=by
 rw [putK_fresh (by rw [busy_keys];exact fun z=>n (by obtain ⟨k,hk,e⟩:=List.mem_map.mp z;exact Sum.inl.inj e ▸ hk))]
 unfold busyK
 rw [List.map_append]
 rfl
theorem atI_last {α:Type} (xs:List α) (x:α):atI (xs++[x]) (-1)=some x:=by
 unfold atI ixN
 rw [if_neg (by decide),if_pos (by rw [List.length_append,List.length_singleton];omega)]
 show (xs++[x])[((-1:Int) + ((xs++[x]).length:Nat)).toNat]? = _
 rw [show ((-1:Int) + ((xs++[x]).length:Nat)).toNat=xs.length by rw [List.length_append,List.length_singleton];omega,List.getElem?_append_right (Nat.le_refl _),Nat.sub_self]
 rfl
theorem rw_tups {K:PySem.W.Frag} {r:Addr} {H H':Hp} (R:RowAt H r) (h:Rw r H H'):Tups K H H':=fun a xs z=>by
 obtain ⟨x,y,c,e,_⟩:=R
 rcases z with (z|⟨ob,z⟩)|z
 ·exact .inl (.inl (h.k _ _ (fun n=>by rw [n,e] at z;cases z) z))
 ·exact .inl (.inr ⟨ob,h.k _ _ (fun n=>by rw [n,e] at z;cases z) z⟩)
 ·exact .inr z
def EvJ (K:PySem.W.Frag) (nm:Str) (wr:Int) (H:Hp) (u wl bz ev:Addr) (i:Nat):Prop:=
 ∃ku os us ys es,H u=some (.dK ku)∧ku.map (·.1)=((0:Int) :: us).map Sum.inl∧H wl=some (.lst (((0:Int) :: us).map V.int))∧H bz=some (.dK (busyK os))∧H ev=some (.lst ys)∧All2 (EvAt K H) es ys∧TW nm wr es os us∧es.length≤i∧us.length≤i∧os.length≤i
def sp__law_events (K:PySem.W.Frag):Sp:=fun vs H Q _=>∃(c hd:Addr) (wy:Int) (nm:Str) (ns:List Int),vs=[.ref c,.int wy,.ref hd,.str nm]∧SqL K H c (ns.map V.int)∧c≠hd∧ns.length≤63∧RowAt H hd∧
 ∀l ys es os us wr H',Rw hd H H'→H' l=some (.lst ys)→All2 (EvAt K H') es ys→TW nm wr es os us→es.length≤ns.length→Q (.ref l) H'
theorem ok__law_events (T:TX (KX w.params) mg) (c__law_take:Cal P w (KX w.params) mg base "_law_take" ["row","many"] 1 sp__law_take) (c__law_stream:Cal P w (KX w.params) mg base "_law_stream" ["cell","way"] 1 sp__law_stream) (c__law_answer:Cal P w (KX w.params) mg base "_law_answer" ["row","worths"] 3 (sp__law_answer (KX w.params))) (c__law_fresh:Cal P w (KX w.params) mg base "_law_fresh" ["row","used"] 3 (sp__law_fresh (KX w.params))):FnOk P w (KX w.params) mg base CX0 4 281 fd__law_events ["cells","way","head","name"] (sp__law_events (KX w.params)):=by
 refine (F__law_events w.params).ok sc__law_events (fun vs H Q E h=>?_) (fun cdv A outer s H vs Q E hr h=>?_)
 ·obtain ⟨c,hd,wy,nm,ns,rfl,_⟩:=h
  rfl
 ·obtain ⟨c,hd,wy,nm,ns,rfl,sc0,nch,ln,R0,q⟩:=h
  refine ⟨_,(pss_cons (ps_set (i:=4) sc__law_events.nd rfl (by first|exact Or.inl rfl|exact Or.inr rfl) (pe_op opAdd pe_int (pe_cal c__law_take (hr.mono (by first|decide|omega)) rfl (pa_cons (pv 2) (pa_cons pe_int pa_nil)))))
   (pss_cons (ps_set (i:=5) sc__law_events.nd rfl (by first|exact Or.inl rfl|exact Or.inr rfl) (pe_cal c__law_take (hr.mono (by first|decide|omega)) rfl (pa_cons (pv 2) (pa_cons (pv 4) pa_nil))))
   (pss_cons (ps_set (i:=6) sc__law_events.nd rfl (by first|exact Or.inl rfl|exact Or.inr rfl) (pe_disp (pps_cons pe_int pe_bl pps_nil) rfl rfl (by simp) (by decide)))
   (pss_cons (ps_set (i:=7) sc__law_events.nd rfl (by first|exact Or.inl rfl|exact Or.inr rfl) (pe_lst (pa_cons pe_int pa_nil)))
   (pss_cons (ps_set (i:=8) sc__law_events.nd rfl (by first|exact Or.inl rfl|exact Or.inr rfl) pe_dnewK)
   (pss_cons (ps_set (i:=9) sc__law_events.nd rfl (by first|exact Or.inl rfl|exact Or.inr rfl) (pe_lst pa_nil))
   (pss_cons (ps_for PassesOwn.never rfl (pi_list (pv 0)) (pg_name (i:=10) sc__law_events.nd rfl (by first|exact Or.inl rfl|exact Or.inr rfl))
   (pss_cons (ps_set (i:=11) sc__law_events.nd rfl (by first|exact Or.inl rfl|exact Or.inr rfl) (pe_cal c__law_stream (hr.mono (by first|decide|omega)) rfl (pa_cons (pe_op op_fdivB (pv 10) pe_int) (pa_cons (pv 1) pa_nil))))
   (pss_cons (ps_set (i:=12) sc__law_events.nd rfl (by first|exact Or.inl rfl|exact Or.inr rfl) (pe_cal c__law_take (hr.mono (by first|decide|omega)) rfl (pa_cons (pv 11) (pa_cons (pv 4) pa_nil))))
   (pss_one (ps_if (pt_cmp (pc_din (hu_of hr) (pv 12) (pv 8)) (by with_unfolding_all rfl))
   (pss_cons (ps_set (i:=13) sc__law_events.nd rfl (by first|exact Or.inl rfl|exact Or.inr rfl) pe_str)
   (pss_cons (ps_if (pt_cmpR opEq (pe_dpop1 (pv 8) (pv 12) ⟨rfl,rfl,rfl,rfl⟩) pe_str (nomark _))
   (pss_one (ps_set (i:=13) sc__law_events.nd rfl (by first|exact Or.inl rfl|exact Or.inr rfl) (pe_cal c__law_answer (hr.mono (by first|decide|omega)) rfl (pa_cons (pv 11) (pa_cons (pv 7) pa_nil)))))
   pss_nil)
   (pss_one (ps_expr (pe_append (pv 9) (pa_cons (pe_tup (pa_cons pe_str (pa_cons (pv 12) (pa_cons (pv 13) pa_nil)))) pa_nil))))))
   (pss_one (ps_if (PW.pt (pw_and (pt_cmpR opEq (pv 12) (pv 5) (nomark _)) (pw_and1 (pt_cmpR op_gt (pe_cal c__law_take (hr.mono (by first|decide|omega)) rfl (pa_cons (pv 11) (pa_cons pe_int pa_nil))) pe_int (nomark _)))))
   (pss_cons (ps_expr (pe_append (pv 7) (pa_cons (pe_cal c__law_fresh (hr.mono (by first|decide|omega)) rfl (pa_cons (pv 11) (pa_cons (pv 6) pa_nil))) pa_nil)))
   (pss_cons (ps_dput (hu_of hr) (pv 8) (pv 12) pe_str rfl)
   (pss_one (ps_expr (pe_append (pv 9) (pa_cons (pe_tup (pa_cons pe_str (pa_cons (pv 12) (pa_cons (pv 3) (pa_cons pe_str (pa_cons (pe_ix ix_seq (pv 7) (pe_un un_neg pe_int) (fun _ _=>rfl)) pa_nil)))))) pa_nil))))))
   (pss_cons (ps_dput (hu_of hr) (pv 8) (pv 12) pe_str rfl)
   (pss_one (ps_expr (pe_append (pv 9) (pa_cons (pe_tup (pa_cons pe_str (pa_cons (pv 12) (pa_cons (pv 3) (pa_cons pe_str (pa_cons pe_non pa_nil)))))) pa_nil))))))))))))
   (pss_one (ps_ret (pv 9)))))))))),?_⟩
  refine ⟨_,rfl,hd,5,rfl,R0,by decide,by decide,fun t1 H1 k1 h10 h11=>.inl ⟨2,t1,rfl,rfl,?_⟩⟩
  refine ⟨_,rfl,_,rfl,hd,2 + t1,rfl,k1.r,by omega,by omega,fun wr H2 k2 h20 h21=>?_⟩
  have k12:=k1.trans k2
  intro u hu
  refine ⟨upd_same,[(.inl 0,.bl true)],rfl,(show (1:Nat)≤15 by decide),?_⟩
  have fu:H2 u=none:=hu
  have s3:Same H2 (upd (upd H2 u (.dK [])) u (.dK (mergeK [] [(.inl 0,.bl true)]))):=Same.keep (Same.upd hu) fu
  have eu3:upd (upd H2 u (.dK [])) u (.dK (mergeK [] [(.inl 0,.bl true)])) u=some (.dK [(.inl 0,.bl true)]):=upd_same
  generalize upd (upd H2 u (.dK [])) u (.dK (mergeK [] [(.inl 0,.bl true)]))=H3 at s3 eu3⊢
  refine ⟨(show (1:Nat)≤sizeLine by decide),fun wl hwl=>?_⟩
  have s4:=Same.upd (o:=.lst [V.int 0]) hwl
  have ew4:upd H3 wl (.lst [V.int 0]) wl=some (.lst [V.int 0]):=upd_same
  have eu4:=s4 _ _ eu3
  have s24:=s3.trans s4
  have fw:H2 wl=none:=s3.free hwl
  generalize upd H3 wl (.lst [V.int 0])=H4 at s4 ew4 eu4 s24⊢
  intro bz hbz
  have s5:=Same.upd (o:=.dK []) hbz
  have eb5:upd H4 bz (.dK []) bz=some (.dK []):=upd_same
  have ew5:=s5 _ _ ew4
  have eu5:=s5 _ _ eu4
  have s25:=s24.trans s5
  have fb:H2 bz=none:=s24.free hbz
  have nbu:bz≠u:=fun z=>by rw [z,eu4] at hbz;cases hbz
  have nbw:bz≠wl:=fun z=>by rw [z,ew4] at hbz;cases hbz
  have nwu:wl≠u:=fun z=>by rw [z,eu3] at hwl;cases hwl
  generalize upd H4 bz (.dK [])=H5 at s5 eb5 ew5 eu5 s25⊢
  refine ⟨(show (0:Nat)≤sizeLine by decide),fun ev hev=>?_⟩
  have s6:=Same.upd (o:=.lst []) hev
  have ee6:upd H5 ev (.lst []) ev=some (.lst []):=upd_same
  have eb6:=s6 _ _ eb5
  have ew6:=s6 _ _ ew5
  have eu6:=s6 _ _ eu5
  have s26:=s25.trans s6
  have fe:H2 ev=none:=s25.free hev
  have neb:ev≠bz:=fun z=>by rw [z,eb5] at hev;cases hev
  have neu:ev≠u:=fun z=>by rw [z,eu5] at hev;cases hev
  have new:ev≠wl:=fun z=>by rw [z,ew5] at hev;cases hev
  generalize upd H5 ev (.lst [])=H6 at s6 ee6 eb6 ew6 eu6 s26⊢
  have sc2:SqL (KX w.params) H2 c (ns.map V.int):=(by
   rcases sc0 with (z|⟨ob,z⟩)|z
   ·exact .inl (.inl (k12.k _ _ nch z))
   ·exact .inl (.inr ⟨ob,k12.k _ _ nch z⟩)
   ·exact .inr z)
  have J0:EvJ (KX w.params) nm wr H6 u wl bz ev 0:=⟨[(.inl 0,.bl true)],[],[],[],[],eu6,rfl,ew6,eb6,ee6,.nil,.nil,Nat.le_refl _,Nat.le_refl _,Nat.le_refl _⟩
  refine ⟨_,rfl,c,rfl,⟨_,s26.seq sc2⟩,?_⟩
  refine for_list (K:=KX w.params) (a:=c) (xs:=ns.map V.int) (fun i σ H'=>Same H2 H'∧EvJ (KX w.params) nm wr H' u wl bz ev i∧∃x10 x11 x12 x13,σ=[some (.ref c),some (.int wy),some (.ref hd),some (.str nm),some (.int (2 + t1)),some (.int wr),some (.ref u),some (.ref wl),some (.ref bz),some (.ref ev),x10,x11,x12,x13])
   ⟨s26,J0,_,_,_,_,rfl⟩ (fun _ σ H' _ h=>h.1.seq sc2) ?_ ?_
  ·rintro i y σ H7 hy ⟨s7,⟨ku,os,us,ys,es,eu,eku,ew,eb,ee,al,tw,le,lu,lo⟩,x10,x11,x12,x13,rfl⟩
   obtain ⟨cl,_,rfl⟩:=List.mem_map.mp (List.mem_of_getElem? hy)
   have hi:i < 63:=by have:=(List.getElem?_eq_some_iff.mp hy).1;rw [List.length_map] at this;omega
   refine g_name ?_
   refine ⟨_,rfl,_,_,rfl,rfl,⟨by decide,by decide⟩,_,rfl,_,_,rfl,fun r tr hr0 b0 b1=>?_⟩
   have s8:=Same.upd (o:=.lst [.int (cl / 2),.int wy,.int tr]) hr0
   have R8:RowAt (upd H7 r (.lst [.int (cl / 2),.int wy,.int tr])) r:=⟨_,_,_,upd_same,b0,b1⟩
   have fr:H2 r=none:=s7.free hr0
   have nru:r≠u:=fun z=>by rw [z,eu] at hr0;cases hr0
   have nrw:r≠wl:=fun z=>by rw [z,ew] at hr0;cases hr0
   have nrb:r≠bz:=fun z=>by rw [z,eb] at hr0;cases hr0
   have nre:r≠ev:=fun z=>by rw [z,ee] at hr0;cases hr0
   generalize upd H7 r (.lst [.int (cl / 2),.int wy,.int tr])=H8 at s8 R8⊢
   refine ⟨_,rfl,_,rfl,r,2 + t1,rfl,R8,by omega,by omega,fun h H9 k9 h90 h91=>?_⟩
   have k79 :∀{a:Addr} {o:HO},a≠r→H7 a=some o→H9 a=some o:=fun n e=>k9.k _ _ n (s8 _ _ e)
   have s29:Same H2 H9:=fun a o e=>k9.k _ _ (fun z=>by rw [z,fr] at e;cases e) ((s7.trans s8) a o e)
   have t79:Tups (KX w.params) H7 H9:=(Tups.of s8).trans (rw_tups R8 k9)
   have eu9:=k79 nru.symm eu
   have ew9:=k79 nrw.symm ew
   have eb9:=k79 nrb.symm eb
   have ee9:=k79 nre.symm ee
   have al9:=forall2_mono (fun _ _ z=>EvAt.tups t79 z) al
   have R9:=k9.r
   have ly:ys.length=es.length:=forall2_len al
   refine ⟨_,rfl,_,rfl,bz,_,rfl,DGet.k (k:=.inl h) eb9,_,rfl,?_⟩
   by_cases hb:h∈os.map (·.1)
   ·refine iteP (busy_in.mpr hb) ?_
    obtain ⟨b,hbo,hbv⟩:=busy_get hb
    have fin :∀(a:V) (Hx:Hp),(b=true→a=.str "ok")→(b=false→∃i,a=.int i)→Same H2 Hx→Tups (KX w.params) H9 Hx→Hx u=some (.dK ku)→Hx wl=some (.lst (((0:Int) :: us).map V.int))→Hx bz=some (.dK (busyK (os.filter fun k=>decide (k.1≠h))))→Hx ev=some (.lst ys)→∀p,Hx p=none→Same H2 (upd (upd Hx p (.tup [.str "end",.int h,a])) ev (.lst (ys++[.ref p])))∧EvJ (KX w.params) nm wr (upd (upd Hx p (.tup [.str "end",.int h,a])) ev (.lst (ys++[.ref p]))) u wl bz ev (i + 1):=by
     intro a Hx ha1 ha2 sx tx xu xw xb xe p hp
     have q1:=Same.upd (o:=.tup [.str "end",.int h,a]) hp
     have e1:upd Hx p (.tup [.str "end",.int h,a]) p=some (.tup [.str "end",.int h,a]):=upd_same
     have xe1:=q1 _ _ xe
     have xu1:=q1 _ _ xu
     have xw1:=q1 _ _ xw
     have xb1:=q1 _ _ xb
     have sx1:=sx.trans q1
     have tx1:=tx.trans (.of q1)
     generalize upd Hx p (.tup [.str "end",.int h,a])=Hy at q1 e1 xe1 xu1 xw1 xb1 sx1 tx1⊢
     have ty:Tups (KX w.params) Hy (upd Hy ev (.lst (ys++[.ref p]))):=Tups.lst xe1
     refine ⟨Same.keep sx1 fe,ku,os.filter fun k=>decide (k.1≠h),us,ys++[.ref p],es++[.fin h a],by rw [upd_ne neu.symm];exact xu1,eku,by rw [upd_ne new.symm];exact xw1,by rw [upd_ne neb.symm];exact xb1,upd_same,?_,.fin tw hbo ha1 ha2,by rw [List.length_append];show es.length + 1≤i + 1;omega,by omega,Nat.le_trans (List.length_filter_le _ _) (by omega)⟩
     exact all2_snoc (forall2_mono (fun _ _ z=>EvAt.tups (tx1.trans ty) z) al9) ⟨p,rfl,ty _ _ (SqT.of e1)⟩
    have kb:Tups (KX w.params) H9 (upd H9 bz (.dK (dropK (busyK os) (.inl h)))):=Tups.dict eb9
    refine ⟨_,rfl,bz,rfl,.inl ⟨_,.inl eb9⟩,_,rfl,busyK os,.inl h,.str (vbS b),eb9,rfl,hbv,rfl,_,rfl,?_⟩
    have eu10:upd H9 bz (.dK (dropK (busyK os) (.inl h))) u=some (.dK ku):=by rw [upd_ne nbu.symm];exact eu9
    have ew10:upd H9 bz (.dK (dropK (busyK os) (.inl h))) wl=some (.lst (((0:Int) :: us).map V.int)):=by rw [upd_ne nbw.symm];exact ew9
    have ee10:upd H9 bz (.dK (dropK (busyK os) (.inl h))) ev=some (.lst ys):=by rw [upd_ne neb];exact ee9
    have eb10:upd H9 bz (.dK (dropK (busyK os) (.inl h))) bz=some (.dK (busyK (os.filter fun k=>decide (k.1≠h)))):=by rw [busy_drop];exact upd_same
    have R10:RowAt (upd H9 bz (.dK (dropK (busyK os) (.inl h)))) r:=R9.elim fun a z=>z.elim fun b z=>z.elim fun c z=>⟨a,b,c,by rw [upd_ne nrb];exact z.1,z.2⟩
    have s210:Same H2 (upd H9 bz (.dK (dropK (busyK os) (.inl h)))):=Same.keep s29 fb
    generalize upd H9 bz (.dK (dropK (busyK os) (.inl h)))=H10 at kb eu10 ew10 ee10 eb10 R10 s210⊢
    cases b with
    | true=>
     refine iteN (by decide +kernel) ?_
     refine ⟨_,rfl,.inl ⟨rfl,ys,SqL.of ee10⟩,_,rfl,_,rfl,(show (3:Nat)≤sizeLine by decide),fun p hp=>?_⟩
     refine ⟨ev,ys,_,rfl,rfl,(Same.upd hp) _ _ ee10,Nat.lt_of_le_of_lt (m:=100) (by omega) (by decide),?_⟩
     obtain ⟨f1,f2⟩:=fin (.str "ok") H10 (fun _=>rfl) (fun z=>by cases z) s210 kb eu10 ew10 eb10 ee10 p hp
     exact ⟨f1,f2,_,_,_,_,rfl⟩
    | false=>
     refine iteP (by decide +kernel) ?_
     refine ⟨_,rfl,_,rfl,r,wl,(0:Int) :: us,rfl,R10,ew10,nrw,by simp,by show us.length + 1≤100;omega,fun a H11 k11=>?_⟩
     have k :∀{a:Addr} {o:HO},a≠r→H10 a=some o→H11 a=some o:=fun n e=>k11.k _ _ n e
     refine ⟨_,rfl,.inl ⟨rfl,ys,SqL.of (k nre.symm ee10)⟩,_,rfl,_,rfl,(show (3:Nat)≤sizeLine by decide),fun p hp=>?_⟩
     refine ⟨ev,ys,_,rfl,rfl,(Same.upd hp) _ _ (k nre.symm ee10),Nat.lt_of_le_of_lt (m:=100) (by omega) (by decide),?_⟩
     obtain ⟨f1,f2⟩:=fin (.int a) H11 (fun z=>by cases z) (fun _=>⟨a,rfl⟩) (fun c o e=>k11.k _ _ (fun z=>by rw [z,fr] at e;cases e) (s210 c o e)) (kb.trans (rw_tups R10 k11)) (k nru.symm eu10) (k nrw.symm ew10) (k nrb.symm eb10) (k nre.symm ee10) p hp
     exact ⟨f1,f2,_,_,_,_,rfl⟩
   ·refine iteN (fun z=>hb (busy_in.mp z)) ?_
    have rd :∀(Hx:Hp),Same H2 Hx→Tups (KX w.params) H9 Hx→Hx u=some (.dK ku)→Hx wl=some (.lst (((0:Int) :: us).map V.int))→Hx bz=some (.dK (busyK os))→Hx ev=some (.lst ys)→∀p,upd Hx bz (.dK (putK (busyK os) (.inl h) (.str (vbS false)))) p=none→upd Hx bz (.dK (putK (busyK os) (.inl h) (.str (vbS false)))) ev=some (.lst ys)∧Same H2 (upd (upd (upd Hx bz (.dK (putK (busyK os) (.inl h) (.str (vbS false))))) p (.tup [.str "begin",.int h,.str nm,.str "read",.non])) ev (.lst (ys++[.ref p])))∧EvJ (KX w.params) nm wr (upd (upd (upd Hx bz (.dK (putK (busyK os) (.inl h) (.str (vbS false))))) p (.tup [.str "begin",.int h,.str nm,.str "read",.non])) ev (.lst (ys++[.ref p]))) u wl bz ev (i + 1):=by
     intro Hx sx tx xu xw xb xe p hp
     rw [busy_put hb] at hp⊢
     have t1:Tups (KX w.params) Hx (upd Hx bz (.dK (busyK (os++[(h,false)])))):=Tups.dict xb
     have xb1:upd Hx bz (.dK (busyK (os++[(h,false)]))) bz=some (.dK (busyK (os++[(h,false)]))):=upd_same
     have xu1:upd Hx bz (.dK (busyK (os++[(h,false)]))) u=some (.dK ku):=by rw [upd_ne nbu.symm];exact xu
     have xw1:upd Hx bz (.dK (busyK (os++[(h,false)]))) wl=some (.lst (((0:Int) :: us).map V.int)):=by rw [upd_ne nbw.symm];exact xw
     have xe1:upd Hx bz (.dK (busyK (os++[(h,false)]))) ev=some (.lst ys):=by rw [upd_ne neb];exact xe
     have sx1:Same H2 (upd Hx bz (.dK (busyK (os++[(h,false)])))):=Same.keep sx fb
     refine ⟨xe1,?_⟩
     generalize upd Hx bz (.dK (busyK (os++[(h,false)])))=Hy at t1 xb1 xu1 xw1 xe1 sx1 hp⊢
     have q1:=Same.upd (o:=.tup [.str "begin",.int h,.str nm,.str "read",.non]) hp
     have e1:upd Hy p (.tup [.str "begin",.int h,.str nm,.str "read",.non]) p=some (.tup [.str "begin",.int h,.str nm,.str "read",.non]):=upd_same
     generalize upd Hy p (.tup [.str "begin",.int h,.str nm,.str "read",.non])=Hz at q1 e1⊢
     have ty:Tups (KX w.params) Hz (upd Hz ev (.lst (ys++[.ref p]))):=Tups.lst (q1 _ _ xe1)
     refine ⟨Same.keep (sx1.trans q1) fe,ku,os++[(h,false)],us,ys++[.ref p],es++[.beg h (.str nm) (.str "read") .non],by rw [upd_ne neu.symm];exact q1 _ _ xu1,eku,by rw [upd_ne new.symm];exact q1 _ _ xw1,by rw [upd_ne neb.symm];exact q1 _ _ xb1,upd_same,?_,.rd tw hb,by rw [List.length_append];show es.length + 1≤i + 1;omega,by omega,by rw [List.length_append];show os.length + 1≤i + 1;omega⟩
     exact all2_snoc (forall2_mono (fun _ _ z=>EvAt.tups ((tx.trans t1).trans ((Tups.of q1).trans ty)) z) al9) ⟨p,rfl,ty _ _ (SqT.of e1)⟩
    have els :∀(Hx:Hp) (x13:Option V),Same H2 Hx→Tups (KX w.params) H9 Hx→Hx u=some (.dK ku)→Hx wl=some (.lst (((0:Int) :: us).map V.int))→Hx bz=some (.dK (busyK os))→Hx ev=some (.lst ys)→True:=fun _ _ _ _ _ _ _ _=>trivial
    refine ⟨_,rfl,_,rfl,rfl,_,rfl,?_⟩
    by_cases hw:h=wr
    ·refine iteP (decide_eq_true (by rw [hw])) ?_
     refine ⟨_,rfl,r,5,rfl,R9,by decide,by decide,fun t5 H10 k10 h50 h51=>⟨_,_,rfl,rfl,_,rfl,?_⟩⟩
     have k :∀{a:Addr} {o:HO},a≠r→H9 a=some o→H10 a=some o:=fun n e=>k10.k _ _ n e
     have s210:Same H2 H10:=fun c o e=>k10.k _ _ (fun z=>by rw [z,fr] at e;cases e) (s29 c o e)
     have t910:=rw_tups (K:=KX w.params) R9 k10
     have eu10:=k nru.symm eu9
     have ew10:=k nrw.symm ew9
     have eb10:=k nrb.symm eb9
     have ee10:=k nre.symm ee9
     by_cases hz:t5 > 0
     ·refine iteP (decide_eq_true hz) ?_
      refine ⟨_,rfl,.inl ⟨rfl,_,SqL.of ew10⟩,_,rfl,_,rfl,r,u,(0:Int) :: us,ku,rfl,k10.r,eu10,nru,eku,by show us.length + 1≤100;omega,fun x H11 k11 _ _ hx=>?_⟩
      have kk :∀{a:Addr} {o:HO},a≠r→H10 a=some o→H11 a=some o:=fun n e=>k11.k _ _ n e
      have s211:Same H2 H11:=fun c o e=>k11.k _ _ (fun z=>by rw [z,fr] at e;cases e) (s210 c o e)
      have t1011:=rw_tups (K:=KX w.params) k10.r k11
      have eu11:=kk nru.symm eu10
      have ew11:=kk nrw.symm ew10
      have eb11:=kk nrb.symm eb10
      have ee11:=kk nre.symm ee10
      have xk:putK ku (.inl x) (.bl true)=ku++[(.inl x,.bl true)]:=putK_fresh (by rw [eku];exact fun z=>hx (by obtain ⟨k,hk,e⟩:=List.mem_map.mp z;exact Sum.inl.inj e ▸ hk))
      have t12:Tups (KX w.params) H11 (upd H11 u (.dK (putK ku (.inl x) (.bl true)))):=Tups.dict eu11
      have s212:Same H2 (upd H11 u (.dK (putK ku (.inl x) (.bl true)))):=Same.keep s211 fu
      have eu12:upd H11 u (.dK (putK ku (.inl x) (.bl true))) u=some (.dK (putK ku (.inl x) (.bl true))):=upd_same
      have ew12:upd H11 u (.dK (putK ku (.inl x) (.bl true))) wl=some (.lst (((0:Int) :: us).map V.int)):=by rw [upd_ne nwu];exact ew11
      have eb12:upd H11 u (.dK (putK ku (.inl x) (.bl true))) bz=some (.dK (busyK os)):=by rw [upd_ne nbu];exact eb11
      have ee12:upd H11 u (.dK (putK ku (.inl x) (.bl true))) ev=some (.lst ys):=by rw [upd_ne neu];exact ee11
      generalize upd H11 u (.dK (putK ku (.inl x) (.bl true)))=H12 at t12 s212 eu12 ew12 eb12 ee12⊢
      refine ⟨wl,_,_,rfl,rfl,ew12,Nat.lt_of_le_of_lt (m:=100) (by rw [List.length_map];show us.length + 1≤100;omega) (by decide),?_⟩
      have t13:Tups (KX w.params) H12 (upd H12 wl (.lst (((0:Int) :: us).map V.int++[.int x]))):=Tups.lst ew12
      have s213:Same H2 (upd H12 wl (.lst (((0:Int) :: us).map V.int++[.int x]))):=Same.keep s212 fw
      have ew13:upd H12 wl (.lst (((0:Int) :: us).map V.int++[.int x])) wl=some (.lst (((0:Int) :: us).map V.int++[.int x])):=upd_same
      have eu13:upd H12 wl (.lst (((0:Int) :: us).map V.int++[.int x])) u=some (.dK (putK ku (.inl x) (.bl true))):=by rw [upd_ne nwu.symm];exact eu12
      have eb13:upd H12 wl (.lst (((0:Int) :: us).map V.int++[.int x])) bz=some (.dK (busyK os)):=by rw [upd_ne nbw];exact eb12
      have ee13:upd H12 wl (.lst (((0:Int) :: us).map V.int++[.int x])) ev=some (.lst ys):=by rw [upd_ne new];exact ee12
      generalize upd H12 wl (.lst (((0:Int) :: us).map V.int++[.int x]))=H13 at t13 s213 ew13 eu13 eb13 ee13⊢
      refine ⟨_,rfl,_,rfl,bz,_,rfl,DPut.k (k:=.inl h) eb13 (Nat.lt_of_le_of_lt (m:=100) (by unfold busyK;rw [List.length_map];omega) (by decide)),?_⟩
      rw [show putK (busyK os) (.inl h) (.str "write")=busyK (os++[(h,true)]) from busy_put (b:=true) hb]
      have t14:Tups (KX w.params) H13 (upd H13 bz (.dK (busyK (os++[(h,true)])))):=Tups.dict eb13
      have s214:Same H2 (upd H13 bz (.dK (busyK (os++[(h,true)])))):=Same.keep s213 fb
      have eb14:upd H13 bz (.dK (busyK (os++[(h,true)]))) bz=some (.dK (busyK (os++[(h,true)]))):=upd_same
      have eu14:upd H13 bz (.dK (busyK (os++[(h,true)]))) u=some (.dK (putK ku (.inl x) (.bl true))):=by rw [upd_ne nbu.symm];exact eu13
      have ew14:upd H13 bz (.dK (busyK (os++[(h,true)]))) wl=some (.lst (((0:Int) :: us).map V.int++[.int x])):=by rw [upd_ne nbw.symm];exact ew13
      have ee14:upd H13 bz (.dK (busyK (os++[(h,true)]))) ev=some (.lst ys):=by rw [upd_ne neb];exact ee13
      generalize upd H13 bz (.dK (busyK (os++[(h,true)])))=H14 at t14 s214 eb14 eu14 ew14 ee14⊢
      refine ⟨_,rfl,.inl ⟨rfl,ys,SqL.of ee14⟩,_,rfl,_,rfl,_,rfl,_,rfl,.inl ⟨wl,_,-1,.int x,rfl,rfl,SqL.of ew14,atI_last _ _,(show (5:Nat)≤sizeLine by decide),fun p hp=>?_⟩⟩
      have q1:=Same.upd (o:=.tup [.str "begin",.int h,.str nm,.str "write",.int x]) hp
      have e1:upd H14 p (.tup [.str "begin",.int h,.str nm,.str "write",.int x]) p=some (.tup [.str "begin",.int h,.str nm,.str "write",.int x]):=upd_same
      generalize upd H14 p (.tup [.str "begin",.int h,.str nm,.str "write",.int x])=H15 at q1 e1⊢
      refine ⟨ev,ys,_,rfl,rfl,q1 _ _ ee14,Nat.lt_of_le_of_lt (m:=100) (by omega) (by decide),?_⟩
      have ty:Tups (KX w.params) H15 (upd H15 ev (.lst (ys++[.ref p]))):=Tups.lst (q1 _ _ ee14)
      have ux:x≠0∧x∉us:=⟨fun z=>hx (by rw [z];exact .head _),fun z=>hx (.tail _ z)⟩
      refine ⟨Same.keep (s214.trans q1) fe,⟨putK ku (.inl x) (.bl true),os++[(h,true)],us++[x],ys++[.ref p],es++[.beg h (.str nm) (.str "write") (.int x)],by rw [upd_ne neu.symm];exact q1 _ _ eu14,?_,?_,by rw [upd_ne neb.symm];exact q1 _ _ eb14,upd_same,?_,?_,by rw [List.length_append];show es.length + 1≤i + 1;omega,by rw [List.length_append];show us.length + 1≤i + 1;omega,by rw [List.length_append];show os.length + 1≤i + 1;omega⟩,_,_,_,_,rfl⟩
      ·rw [xk,List.map_append,eku]
       show ((0:Int) :: us).map Sum.inl++[Sum.inl x]=(((0:Int) :: us)++[x]).map Sum.inl
       rw [List.map_append]
       rfl
      ·rw [upd_ne new.symm]
       have:=q1 _ _ ew14
       rw [this]
       show some (HO.lst (((0:Int) :: us).map V.int++[.int x]))=some (.lst ((((0:Int) :: us)++[x]).map V.int))
       rw [List.map_append]
       rfl
      ·exact all2_snoc (forall2_mono (fun _ _ z=>EvAt.tups ((((t910.trans t1011).trans t12).trans (t13.trans t14)).trans ((Tups.of q1).trans ty)) z) al9) ⟨p,rfl,ty _ _ (SqT.of e1)⟩
      ·rw [hw]
       exact .wri tw (by rw [←hw];exact hb) ux.1 ux.2
     ·refine iteN (fun e=>hz (of_decide_eq_true e)) ?_
      refine ⟨_,rfl,_,rfl,bz,_,rfl,DPut.k (k:=.inl h) eb10 (Nat.lt_of_le_of_lt (m:=100) (by unfold busyK;rw [List.length_map];omega) (by decide)),?_⟩
      have er:=fun p hp=>rd H10 s210 t910 eu10 ew10 eb10 ee10 p hp
      refine ⟨_,rfl,.inl ⟨rfl,ys,SqL.of (by rw [upd_ne neb];exact ee10)⟩,_,rfl,_,rfl,(show (5:Nat)≤sizeLine by decide),fun p hp=>?_⟩
      obtain ⟨f0,f1,f2⟩:=er p hp
      refine ⟨ev,ys,_,rfl,rfl,(Same.upd hp) _ _ f0,Nat.lt_of_le_of_lt (m:=100) (by omega) (by decide),?_⟩
      exact ⟨f1,f2,_,_,_,_,rfl⟩
    ·refine iteN (fun e=>hw (by have:=of_decide_eq_true e;injection this)) ?_
     refine iteN (by decide) ?_
     refine ⟨_,rfl,_,rfl,bz,_,rfl,DPut.k (k:=.inl h) eb9 (Nat.lt_of_le_of_lt (m:=100) (by unfold busyK;rw [List.length_map];omega) (by decide)),?_⟩
     refine ⟨_,rfl,.inl ⟨rfl,ys,SqL.of (by rw [upd_ne neb];exact ee9)⟩,_,rfl,_,rfl,(show (5:Nat)≤sizeLine by decide),fun p hp=>?_⟩
     obtain ⟨f0,f1,f2⟩:=rd H9 s29 (fun _ _ z=>z) eu9 ew9 eb9 ee9 p hp
     refine ⟨ev,ys,_,rfl,rfl,(Same.upd hp) _ _ f0,Nat.lt_of_le_of_lt (m:=100) (by omega) (by decide),?_⟩
     exact ⟨f1,f2,_,_,_,_,rfl⟩
  ·rintro σ H7 ⟨s7,⟨ku,os,us,ys,es,eu,eku,ew,eb,ee,al,tw,le,lu,lo⟩,x10,x11,x12,x13,rfl⟩
   rw [List.length_map] at le
   exact ⟨_,rfl,q ev ys es os us wr H7 ⟨k12.k.trans s7.kept,k12.r.same s7⟩ ee al tw (by omega)⟩
def sp__law_tale (K:PySem.W.Frag):Sp:=fun vs H Q _=>∃(sc:Addr) (ns:List Int),vs=[.ref sc,.int 24]∧SqL K H sc (ns.map V.int)∧ns.length≤63∧
 ∀t pt th te ys es os us wr nm H',Same H H'→H' t=some (.tup [.ref pt,.ref te])→H' pt=some (.tup [.ref th])→H' th=some (.tup [.str nm,.str "register"])→H' te=some (.tup ys)→All2 (EvAt K H') es ys→TW nm wr es os us→es.length≤24→1≤nm.length→nm.length≤8→Q (.ref t) H'
theorem cut_ints (ns:List Int) (a b:Option Int) :∃ms:List Int,cutV (ns.map V.int) a b=ms.map V.int∧ms.length≤ns.length:=by
 refine ⟨(ns.drop (HT.sIx (ns.map V.int).length 0 a)).take (HT.sIx (ns.map V.int).length (ns.map V.int).length b - HT.sIx (ns.map V.int).length 0 a),?_,?_⟩
 ·unfold cutV
  rw [List.map_take,List.map_drop]
 ·rw [List.length_take,List.length_drop]
  omega
theorem cut_24 (xs:List V):(cutV xs (some 1) (some (1 + 24))).length≤24:=by
 have h1:HT.sIx xs.length 0 (some 1)=min 1 xs.length:=HT.sIx_nat xs.length 0 1
 have h2:HT.sIx xs.length xs.length (some (1 + 24))=min 25 xs.length:=HT.sIx_nat xs.length xs.length 25
 unfold cutV
 rw [h1,h2,List.length_take,List.length_drop]
 omega
theorem ok__law_tale (T:TX (KX w.params) mg) (c__law_cell_at:Cal P w (KX w.params) mg base "_law_cell_at" ["script","k"] 1 (sp__law_cell_at (KX w.params))) (c__law_stream:Cal P w (KX w.params) mg base "_law_stream" ["cell","way"] 1 sp__law_stream) (c__law_name:Cal P w (KX w.params) mg base "_law_name" ["row"] 2 (sp__law_name (KX w.params))) (c__law_events:Cal P w (KX w.params) mg base "_law_events" ["cells","way","head","name"] 4 (sp__law_events (KX w.params))):FnOk P w (KX w.params) mg base CX0 5 288 fd__law_tale ["script","most"] (sp__law_tale (KX w.params)):=by
 refine (F__law_tale w.params).ok sc__law_tale (fun vs H Q E h=>?_) (fun cdv A outer s H vs Q E hr h=>?_)
 ·obtain ⟨sc,ns,rfl,_⟩:=h
  rfl
 ·obtain ⟨sc,ns,rfl,sq,hn,q⟩:=h
  refine ⟨_,(pss_cons (ps_set (i:=2) sc__law_tale.nd rfl (by first|exact Or.inl rfl|exact Or.inr rfl) (pe_cal c__law_cell_at (hr.mono (by first|decide|omega)) rfl (pa_cons (pv 0) (pa_cons pe_int pa_nil))))
   (pss_cons (ps_set (i:=3) sc__law_tale.nd rfl (by first|exact Or.inl rfl|exact Or.inr rfl) (pe_cal c__law_stream (hr.mono (by first|decide|omega)) rfl (pa_cons (pe_op op_fdivB (pv 2) pe_int) (pa_cons (pe_op op_mod (pv 2) pe_int) pa_nil))))
   (pss_cons (ps_set (i:=4) sc__law_tale.nd rfl (by first|exact Or.inl rfl|exact Or.inr rfl) (pe_cal c__law_name (hr.mono (by first|decide|omega)) rfl (pa_cons (pv 3) pa_nil)))
   (pss_one (ps_ret (pe_tup (pa_cons (pe_tup (pa_cons (pe_tup (pa_cons (pv 4) (pa_cons pe_str pa_nil))) pa_nil)) (pa_cons (pe_callTy call_tuple_of rfl (T.no (n_tuple _)) boot_tuple (pa_cons (pe_cal c__law_events (hr.mono (by first|decide|omega)) rfl (pa_cons (pe_slice slSeq (pv 0) (po_some pe_int) (po_some (pe_op opAdd pe_int (pv 1)))) (pa_cons (pe_op op_mod (pv 2) pe_int) (pa_cons (pv 3) (pa_cons (pv 4) pa_nil))))) pa_nil)) pa_nil)))))))),?_⟩
  refine ⟨_,rfl,sc,ns,0,rfl,sq,fun c0=>?_⟩
  refine ⟨_,rfl,_,_,rfl,rfl,⟨by decide,by decide⟩,_,rfl,_,_,rfl,rfl,(show (0:Int) < 2 by decide),_,_,rfl,fun hd th hh0 b0 b1=>?_⟩
  have s1:=Same.upd (o:=.lst [.int (c0 / 2),.int (c0 % 2),.int th]) hh0
  have R1:RowAt (upd H hd (.lst [.int (c0 / 2),.int (c0 % 2),.int th])) hd:=⟨_,_,_,upd_same,b0,b1⟩
  have nsh :∀{xs:List V},H sc=some (.lst xs)→sc≠hd:=fun e z=>by rw [z,hh0] at e;cases e
  generalize upd H hd (.lst [.int (c0 / 2),.int (c0 % 2),.int th])=H1 at s1 R1⊢
  refine ⟨_,rfl,hd,rfl,R1,fun nm H2 k2 nm1 nm8=>?_⟩
  have s2:Same H H2:=fun c o e=>k2.k _ _ (fun z=>by rw [z,hh0] at e;cases e) (s1 c o e)
  refine ⟨_,rfl,(show (2:Nat)≤sizeLine by decide),fun tn htn=>⟨(show (1:Nat)≤sizeLine by decide),fun pt hpt=>?_⟩⟩
  have q3:=Same.upd (o:=.tup [.str nm,.str "register"]) htn
  have e3:upd H2 tn (.tup [.str nm,.str "register"]) tn=some (.tup [.str nm,.str "register"]):=upd_same
  generalize upd H2 tn (.tup [.str nm,.str "register"])=H3 at q3 e3 hpt⊢
  have q4:=Same.upd (o:=.tup [.ref tn]) hpt
  have e4:upd H3 pt (.tup [.ref tn]) pt=some (.tup [.ref tn]):=upd_same
  have e34:=q4 _ _ e3
  generalize upd H3 pt (.tup [.ref tn])=H4 at q4 e4 e34⊢
  have s4:=s2.trans (q3.trans q4)
  have R4:=k2.r.same (q3.trans q4)
  refine ⟨_,rfl,1,rfl,_,rfl,.inl ⟨1,24,rfl,rfl,_,rfl,.inl ⟨sc,_,rfl,s4.seq sq,fun cs hcs=>?_⟩⟩⟩
  obtain ⟨ms,em,lm⟩:=cut_ints ns (some 1) (some (1 + 24))
  have m24:ms.length≤24:=by
   have:=cut_24 (ns.map V.int)
   rw [em,List.length_map] at this
   exact this
  rw [em]
  have q5:=Same.upd (o:=.lst (ms.map V.int)) hcs
  have e5:upd H4 cs (.lst (ms.map V.int)) cs=some (.lst (ms.map V.int)):=upd_same
  have ncs:cs≠hd:=R4.fresh hcs
  have R5:=R4.same q5
  have s5:=s4.trans q5
  have e34':=q5 _ _ e34
  have e4':=q5 _ _ e4
  generalize upd H4 cs (.lst (ms.map V.int))=H5 at q5 e5 R5 s5 e34' e4'⊢
  refine ⟨_,rfl,_,_,rfl,rfl,(show (0:Int) < 2 by decide),_,rfl,_,rfl,cs,hd,_,nm,ms,rfl,SqL.of e5,ncs,by omega,R5,fun l ys es os us wr H6 k6 el al tw le=>?_⟩
  have s6:Same H H6:=fun c o e=>k6.k _ _ (fun z=>by rw [z,hh0] at e;cases e) (s5 c o e)
  have rt :∀{a:Addr} {xs:List V},H5 a=some (.tup xs)→H6 a=some (.tup xs):=fun e=>k6.k _ _ (fun z=>by
   obtain ⟨x,y,c,e',_⟩:=R5
   rw [z,e'] at e
   cases e) e
  refine ⟨l,_,rfl,.inl ⟨SqL.of el,fun te hte=>⟨(show (2:Nat)≤sizeLine by decide),fun t ht=>?_⟩⟩⟩
  have q7:=Same.upd (o:=.tup ys) hte
  have e7:upd H6 te (.tup ys) te=some (.tup ys):=upd_same
  generalize upd H6 te (.tup ys)=H7 at q7 e7 ht⊢
  have q8:=Same.upd (o:=.tup [.ref pt,.ref te]) ht
  have s78:=q7.trans q8
  exact q t pt tn te ys es os us wr nm _ (s6.trans s78) upd_same (s78 _ _ (rt e4')) (s78 _ _ (rt e34')) (q8 _ _ e7) (forall2_mono (fun _ _ z=>EvAt.tups (.of s78) z) al) tw (by omega) nm1 nm8
end
section
variable {P:Program} {w:World} {mg:Str→Option Value} {base:Heap}
def sp_is_whole:Sp:=fun vs H Q _=>∃v b,vs=[v]∧((∃i,v=.int i∧b=true)∨∃z,v=.str z∧b=false)∧Q (.bl b) H
theorem ok_is_whole (T:TX (KX w.params) mg):FnOk P w (KX w.params) mg base CX0 1 154 fd_is_whole ["value"] sp_is_whole:=by
 refine (F_is_whole w.params).ok sc_is_whole (fun vs H Q E h=>?_) (fun cdv A outer s H vs Q E hr h=>?_)
 ·obtain ⟨v,b,rfl,_⟩:=h
  rfl
 ·obtain ⟨v,b,rfl,h,q⟩:=h
  refine ⟨_,(pss_one (ps_ret (pe_and (pe_callB call_isinst rfl (T.no (n_isinstance _)) boot_isinstance (pa_cons (pv 0) (pa_cons (pe_bltn (v:=.ty "int") rfl (T.no (n_int _)) boot_int rfl) pa_nil))) (pe_one (pe_not (pe_callB call_isinst rfl (T.no (n_isinstance _)) boot_isinstance (pa_cons (pv 0) (pa_cons (pe_bltn (v:=.ty "bool") rfl (T.no (n_bool _)) boot_bool rfl) pa_nil)))))))),?_⟩
  rcases h with ⟨i,rfl,rfl⟩|⟨z,rfl,rfl⟩
  ·refine ⟨_,rfl,_,_,"int",rfl,rfl,by decide,_,rfl,iteP (by decide) ?_⟩
   exact ⟨_,rfl,_,_,"int",rfl,rfl,by decide,_,rfl,q⟩
  ·exact ⟨_,rfl,_,_,"str",rfl,rfl,by decide,_,rfl,iteN (by decide) q⟩
def sp_is_answered (K:PySem.W.Frag):Sp:=fun vs H Q _=>∃y r e,vs=[y]∧RcAt K H r y∧RgG r∧r.e=some e∧Q (.bl (ansB r)) H
theorem ok_is_answered (T:TX (KX w.params) mg) (c_is_whole:Cal P w (KX w.params) mg base "is_whole" ["value"] 1 sp_is_whole):FnOk P w (KX w.params) mg base CX0 2 179 fd_is_answered ["deed"] (sp_is_answered (KX w.params)):=by
 refine (F_is_answered w.params).ok sc_is_answered (fun vs H Q E h=>?_) (fun cdv A outer s H vs Q E hr h=>?_)
 ·obtain ⟨y,r,e,rfl,_⟩:=h
  rfl
 ·obtain ⟨y,r,e,rfl,⟨p,rfl,sp⟩,g,he,q⟩:=h
  refine ⟨_,(pss_cons (ps_if (pt_cmpR opEq (pe_ix ix_seq (pv 0) pe_int (fun _ _=>rfl)) pe_str (nomark _))
   (pss_one (ps_ret (pe_cmpR opEq (pe_ix ix_seq (pv 0) pe_int (fun _ _=>rfl)) pe_str (nomark _))))
   pss_nil)
   (pss_one (ps_ret (pe_cal c_is_whole (hr.mono (by first|decide|omega)) rfl (pa_cons (pe_ix ix_seq (pv 0) pe_int (fun _ _=>rfl)) pa_nil))))),?_⟩
  have an:=g.2 e he
  rcases g.1 with ⟨gv,gx⟩|⟨gv,gx⟩
  ·have hw:isW r=false:=decide_eq_false fun z=>rd_ne_wr (gv.symm.trans z)
   have eb:ansB r=isIntV r.a:=by unfold ansB;rw [he,hw];rfl
   rw [eb] at q
   refine ⟨_,rfl,.inr (.inl ⟨p,_,2,.str "read",rfl,rfl,sp,by rw [gv];exact atI_nat (j:=2) rfl,rfl,_,rfl,iteN (by decide +kernel) ?_⟩)⟩
   rcases an with ⟨i,ha⟩|⟨z,ha⟩
   ·rw [ha] at q
    exact ⟨_,rfl,.inr (.inl ⟨p,_,4,.int i,rfl,rfl,sp,by rw [ha];exact atI_nat (j:=4) rfl,_,_,rfl,.inl ⟨i,rfl,rfl⟩,q⟩)⟩
   ·rw [ha] at q
    exact ⟨_,rfl,.inr (.inl ⟨p,_,4,.str z,rfl,rfl,sp,by rw [ha];exact atI_nat (j:=4) rfl,_,_,rfl,.inr ⟨z,rfl,rfl⟩,q⟩)⟩
  ·have hw:isW r=true:=decide_eq_true gv
   have eb:ansB r=decide (r.a=.str "ok"):=by unfold ansB;rw [he,hw];rfl
   rw [eb] at q
   refine ⟨_,rfl,.inr (.inl ⟨p,_,2,.str "write",rfl,rfl,sp,by rw [gv];exact atI_nat (j:=2) rfl,rfl,_,rfl,iteP (by decide +kernel) ?_⟩)⟩
   rcases an with ⟨i,ha⟩|⟨z,ha⟩
   ·rw [ha] at q
    exact ⟨_,rfl,.inr (.inl ⟨p,_,4,.int i,rfl,rfl,sp,by rw [ha];exact atI_nat (j:=4) rfl,rfl,q⟩)⟩
   ·rw [ha] at q
    exact ⟨_,rfl,.inr (.inl ⟨p,_,4,.str z,rfl,rfl,sp,by rw [ha];exact atI_nat (j:=4) rfl,rfl,q⟩)⟩
structure ToldAt (K:PySem.W.Frag) (H:Hp) (l:Addr) (wr:Int) (rs:List Rc) (zs:List V):Prop where
 l:H l=some (.lst zs)
 a:All2 (RcAt K H) rs zs
 g :∀r∈rs,RdG r∨WrG wr r
 n:rs.length≤63
theorem ToldAt.same {K:PySem.W.Frag} {H H':Hp} {l:Addr} {wr:Int} {rs:List Rc} {zs:List V} (s:Same H H') (h:ToldAt K H l wr rs zs):ToldAt K H' l wr rs zs:=⟨s _ _ h.l,forall2_mono (fun _ _ z=>RcAt.tups (.of s) z) h.a,h.g,h.n⟩
structure ToldG (K:PySem.W.Frag) (H:Hp) (l:Addr) (rs:List Rc) (zs:List V):Prop where
 l:H l=some (.lst zs)
 a:All2 (RcAt K H) rs zs
 g :∀r∈rs,RgG r
 n:rs.length≤63
theorem ToldG.same {K:PySem.W.Frag} {H H':Hp} {l:Addr} {rs:List Rc} {zs:List V} (s:Same H H') (h:ToldG K H l rs zs):ToldG K H' l rs zs:=⟨s _ _ h.l,forall2_mono (fun _ _ z=>RcAt.tups (.of s) z) h.a,h.g,h.n⟩
theorem ToldAt.gen {K:PySem.W.Frag} {H:Hp} {l:Addr} {wr:Int} {rs:List Rc} {zs:List V} (h:ToldAt K H l wr rs zs):ToldG K H l rs zs:=⟨h.l,h.a,fun r hr=>by
 rcases h.g r hr with g|g
 ·exact ⟨.inl ⟨g.1,g.2.1⟩,fun e he=>.inl ⟨_,g.2.2 e he⟩⟩
 ·exact ⟨.inr ⟨g.1,_,g.2.2.1⟩,fun e he=>.inr ⟨_,g.2.2.2 e he⟩⟩,h.n⟩
theorem plain_true {wr:Int} {rs:List Rc} (g :∀r∈rs,RdG r∨WrG wr r) (nd:(wsR rs).Nodup) (n0:(0:Int)∉wsR rs):plainB rs=true:=by
 have h1:rs.all ansB=true:=List.all_eq_true.mpr fun r hr=>by
  unfold ansB
  cases he:r.e with
  | none=>rfl
  | some e=>
   dsimp only
   rcases g r hr with g|g
   ·rw [if_neg (by rw [g.w];decide),g.2.2 e he];rfl
   ·rw [if_pos g.w];exact decide_eq_true (g.2.2.2 e he)
 unfold plainB
 rw [h1,decide_eq_false n0,decide_eq_false (by rw [addI_nodup _ [] nd (fun _ _=>List.not_mem_nil),List.length_nil];omega)]
 rfl
def r00:Rc:=⟨0,.non,.non,.non,.non,0,none⟩
theorem getD_some {rs:List Rc} {i:Nat} {r:Rc} (h:rs[i]? = some r):rs[i]?.getD r00=r:=by rw [h];rfl
theorem inV_ints (x:Int) :∀ns:List Int,inV (.int x) (ns.map V.int)=decide (x∈ns)
 | []=>by rw [decide_eq_false List.not_mem_nil];rfl
 | n :: r=>by
  show ((n == x) || inV (.int x) (r.map V.int))=_
  rw [inV_ints x r]
  by_cases e:n=x
  ·rw [beq_iff_eq.mpr e,Bool.true_or,decide_eq_true (List.mem_cons.mpr (.inl e.symm))]
  ·rw [Bool.eq_false_iff.mpr (fun h=>e (beq_iff_eq.mp h)),Bool.false_or]
   by_cases m:x∈r
   ·rw [decide_eq_true m,decide_eq_true (List.mem_cons.mpr (.inr m))]
   ·rw [decide_eq_false m,decide_eq_false (fun h=>(List.mem_cons.mp h).elim (fun y=>e y.symm) m)]
theorem ints_flat :∀ns:List Int,(ns.map V.int).all flatV=true
 | []=>rfl
 | _ :: r=>by show (true && (r.map V.int).all flatV)=true;rw [ints_flat r];rfl
theorem writes_of {f:Rc→V} {rs:List Rc} {zs ys:List V} (lz:zs.length=rs.length) (h:All2 (fun (i:Nat) y=>y=f (rs[i]?.getD r00)) ((List.range zs.length).filter fun i=>isW (rs[i]?.getD r00)) ys):ys=(rs.filter isW).map f:=by
 rw [lz] at h
 rw [forall2_fun h]
 exact filter_range_map isW f r00 rs
theorem all_bl {cs:List V} {bs:List Bool} (h:All2 (fun (b:Bool) y=>y=V.bl b) bs cs):(∀y∈cs,∃b,y=V.bl b)∧(cs.all fun y=>decide (y=.bl true))=bs.all id:=by
 induction h with
 | nil=>exact ⟨(fun y hy=>nomatch hy),rfl⟩
 | cons e r ih=>
  subst e
  refine ⟨fun y hy=>?_,?_⟩
  ·rcases List.mem_cons.mp hy with rfl|hy
   ·exact ⟨_,rfl⟩
   ·exact ih.1 y hy
  ·rw [List.all_cons,List.all_cons,ih.2]
   congr 1
   simp
theorem all2_rng {bs:List Bool} {cs:List V} {n:Nat} (hb:bs.length=n) (h:All2 (fun i y=>∀b,bs[i]? = some b→y=V.bl b) (List.range n) cs):All2 (fun (b:Bool) y=>y=V.bl b) bs cs:=by
 have lc:=forall2_len h
 rw [List.length_range] at lc
 refine all2_of_get (by omega) fun i b y e2 e1=>?_
 obtain ⟨j,hj,hz⟩:=all2_get h e1
 have hi:i < n:=by have:=(List.getElem?_eq_some_iff.mp e2).1;omega
 rw [List.getElem?_range hi] at hj
 cases hj
 exact hz b e2
def sp_are_plain (K:PySem.W.Frag):Sp:=fun vs H Q _=>∃l zs rs,vs=[.ref l]∧ToldG K H l rs zs∧∀H',Same H H'→Q (.bl (plainB rs)) H'
theorem ok_are_plain (T:TX (KX w.params) mg) (c_is_answered:Cal P w (KX w.params) mg base "is_answered" ["deed"] 2 (sp_is_answered (KX w.params))):FnOk P w (KX w.params) mg base CX0 3 172 fd_are_plain ["told"] (sp_are_plain (KX w.params)):=by
 refine (F_are_plain w.params).ok sc_are_plain (fun vs H Q E h=>?_) (fun cdv A outer s H vs Q E hr h=>?_)
 ·obtain ⟨l,zs,rs,rfl,_⟩:=h
  rfl
 ·obtain ⟨l,zs,rs,rfl,ta,q⟩:=h
  refine ⟨_,(pss_cons (ps_setG (i:=1) sc_are_plain.nd rfl (by first|exact Or.inl rfl|exact Or.inr rfl) (xs:=["deed"]) (g:=gName 0) (fr:=[]) rfl (pi_list (pv 0)) (fun _ z=>absurd z List.not_mem_nil) (free_none rfl) (fun _ z=>absurd z List.not_mem_nil) (by decide +kernel) rfl (by decide +kernel) (fun _ _ _ _ _=>(pg_cname (N:=["deed"]) 0 (by decide +kernel) rfl rfl)) (fun _ _ _ _ _=>(pf_one (pt_cmpR opEq (pe_ix (ix_seqK (K:=KX w.params) rfl) (pv 0) pe_int (fun _ _=>rfl)) pe_str (nomark _)))) (fun _ _ _ _ _=>(pe_ix (ix_seqK (K:=KX w.params) rfl) (pv 0) pe_int (fun _ _=>rfl))))
   (pss_cons (ps_if (PW.pt (pw_or (pt_cmpR op_in_seq pe_int (pv 1) (by with_unfolding_all rfl)) (pw_or1 (pt_cmpR op_lt (pe_lenSet rfl rfl (T.no (n_len _)) rfl (T.no (n_set _)) boot_len boot_set (pv 1)) (pe_callB callLen rfl (T.no (n_len _)) boot_len (pa_cons (pv 1) pa_nil)) (nomark _)))))
   (pss_one (ps_ret pe_bl))
   pss_nil)
   (pss_one (ps_ret (pe_callB (call_allL rfl) rfl (T.no (n_all _)) boot_all (pa_cons (pe_compG (xs:=["deed"]) (g:=gName 0) (fr:=[]) rfl (pi_list (pv 0)) (fun _ z=>absurd z List.not_mem_nil) (free_none rfl) (fun _ z=>absurd z List.not_mem_nil) (by decide +kernel) rfl (by decide +kernel) (fun _ _ _ _ _=>(pg_cname (N:=["deed"]) 0 (by decide +kernel) rfl rfl)) (fun _ _ _ _ _=>pf_nil) (fun _ _ _ _ _=>(pe_or (pe_cmpR op_isN (pe_ix (ix_seqK (K:=KX w.params) rfl) (pv 0) pe_int (fun _ _=>rfl)) pe_non (nomark _)) (pe_one (pe_cal c_is_answered (hr.mono (by first|decide|omega)) rfl (pa_cons (pv 0) pa_nil)))))) pa_nil)))))),?_⟩
  have lz:zs.length=rs.length:=forall2_len ta.a
  have l63:=ta.n
  refine seq_asg ?_
  refine tcompF_L (K:=KX w.params) (a:=l) (xs:=zs) (H1:=H) (fun i=>isW (rs[i]?.getD r00)) (fun i y _=>y=.int (intV (rs[i]?.getD r00).x)) (fun _ _ _ _ _ z=>z) (fun R h=>⟨_,rfl,h⟩) (SqL.of ta.l) (Nat.le_trans (m:=63) (by omega) (by decide)) ?_ ?_
  ·intro i hi v H1 s1 hv KT KF h1 h2
   obtain ⟨r,hri,p,rfl,sp⟩:=all2_get ta.a hv
   have sp1:=s1.seqT sp
   rw [getD_some hri] at h1 h2
   refine ⟨[some (.ref p)],rfl,rfl,?_⟩
   rcases (ta.g r (List.mem_of_getElem? hri)).1 with ⟨gv,gx⟩|⟨gv,i0,gx⟩
   ·refine ⟨_,rfl,.inr (.inl ⟨p,_,2,.str "read",rfl,rfl,sp1,by rw [gv];exact atI_nat (j:=2) rfl,rfl,_,rfl,iteN (by decide +kernel) (h2 (decide_eq_false fun z=>rd_ne_wr (gv.symm.trans z)) _ (Same.refl _))⟩)⟩
   ·refine ⟨_,rfl,.inr (.inl ⟨p,_,2,.str "write",rfl,rfl,sp1,by rw [gv];exact atI_nat (j:=2) rfl,rfl,_,rfl,iteP (by decide +kernel) ?_⟩)⟩
    exact ⟨_,rfl,.inr (.inl ⟨p,_,3,.int i0,rfl,rfl,sp1,by rw [gx];exact atI_nat (j:=3) rfl,h1 (decide_eq_true gv) _ _ (Same.refl _) (by rw [gx];rfl)⟩)⟩
  intro l1 H1 ys s1 hl1 al1
  have ey:=writes_of (f:=fun r=>V.int (intV r.x)) lz al1
  have ey2:ys=(wsR rs).map V.int:=by rw [ey];unfold wsR;rw [List.map_map];rfl
  have lu:(wsR rs).length≤63:=by unfold wsR;rw [List.length_map];exact Nat.le_trans (List.length_filter_le _ _) l63
  subst ey2
  generalize hus:wsR rs=us at lu al1⊢
  have s2:=Same.upd (o:=.lst (us.map V.int)) hl1
  have e2:upd H1 l1 (.lst (us.map V.int)) l1=some (.lst (us.map V.int)):=upd_same
  have s02:=s1.trans s2
  generalize upd H1 l1 (.lst (us.map V.int))=H2 at s2 e2 s02⊢
  refine g_name ?_
  refine sq_if ?_
  refine t_or ?_
  refine ⟨_,rfl,l1,_,rfl,.inl (SqL.of e2),rfl,ints_flat _,_,rfl,?_⟩
  by_cases n0:(0:Int)∈us
  ·rw [bad_zero (by rw [hus];exact n0)] at q
   exact iteP (by show inV _ _=true;rw [inV_ints,decide_eq_true n0]) (iteP rfl (sq_ret (q _ s02)))
  refine iteN (by show ¬ inV _ _=true;rw [inV_ints,decide_eq_false n0];decide) ?_
  refine ⟨_,rfl,l1,us,rfl,SqL.of e2,by omega,_,rfl,.inl ⟨l1,_,rfl,.inl (SqL.of e2),_,_,rfl,rfl,_,rfl,?_⟩⟩
  by_cases nd:us.Nodup
  rotate_left
  ·rw [bad_twice (by rw [hus];exact nd)] at q
   refine iteP (decide_eq_true ?_) (sq_ret (q _ s02))
   rw [List.length_map]
   rcases Nat.lt_or_ge (us.foldl addI []).length us.length with z|z
   ·omega
   ·exact absurd (addI_full us [] (by rw [List.length_nil,Nat.zero_add];exact z)).1 nd
  refine iteN ?_ ?_
  ·rw [addI_nodup us [] nd (fun _ _=>List.not_mem_nil),List.length_nil,List.length_map]
   exact fun e=>absurd (of_decide_eq_true e) (by omega)
  refine t_nx (sq_ret (e_cb1 ?_))
  have ta2:=ta.same s02
  have pe:plainB rs=rs.all ansB:=by
   unfold plainB
   rw [hus,decide_eq_false n0,decide_eq_false (by rw [addI_nodup us [] nd (fun _ _=>List.not_mem_nil),List.length_nil];omega)]
   rfl
  refine tcompF_L (K:=KX w.params) (a:=l) (xs:=zs) (H1:=H2) (fun _=>true) (fun i y _=>∀b,(rs.map ansB)[i]? = some b→y=.bl b) (fun _ _ _ _ _ z=>z) (fun R h=>⟨_,rfl,h⟩) (SqL.of ta2.l) (Nat.le_trans (m:=63) (by omega) (by decide)) ?_ ?_
  ·intro i hi v H3 s3 hv KT KF h1 h2
   obtain ⟨r,hri,p,rfl,sp⟩:=all2_get ta2.a hv
   have sp1:=s3.seqT sp
   have eb :∀b,(rs.map ansB)[i]? = some b→b=ansB r:=fun b hb=>by
    rw [List.getElem?_map,hri] at hb
    exact (Option.some.inj hb).symm
   refine ⟨[some (.ref p)],rfl,rfl,iteT ?_⟩
   cases he:r.e with
   | none=>exact ⟨_,rfl,.inr (.inl ⟨p,_,6,.non,rfl,rfl,sp1,by rw [he];exact atI_nat (j:=6) rfl,rfl,_,rfl,iteP (by decide) (h1 rfl _ _ (Same.refl _) fun b hb=>by rw [eb b hb];unfold ansB;rw [he])⟩)⟩
   | some e=>
    refine ⟨_,rfl,.inr (.inl ⟨p,_,6,.int e,rfl,rfl,sp1,by rw [he];exact atI_nat (j:=6) rfl,rfl,_,rfl,iteN (by simp) ?_⟩)⟩
    exact ⟨_,rfl,_,r,e,rfl,⟨p,rfl,sp1⟩,ta.g r (List.mem_of_getElem? hri),he,h1 rfl _ _ (Same.refl _) fun b hb=>by rw [eb b hb]⟩
  intro l3 H3 bs s3 hl3 al3
  rw [List.filter_eq_self.mpr (fun _ _=>rfl)] at al3
  obtain ⟨c1,c2⟩:=all_bl (all2_rng (by rw [List.length_map];exact lz.symm) al3)
  refine ⟨l3,bs,rfl,SqL.of upd_same,c1,?_⟩
  rw [c2,List.all_map,show (id ∘ ansB)=ansB from rfl,←pe]
  exact q _ (s02.trans (s3.trans (Same.upd hl3)))
structure TalR (K:PySem.W.Frag) (H:Hp) (t:Addr) (nm:Str) (wr:Int) (es:List Ev) (ys:List V):Prop where
 t :∃pt te th,SqT K H t [.ref pt,.ref te]∧SqT K H pt [.ref th]∧SqT K H th [.str nm,.str "register"]∧SqT K H te ys
 ev:All2 (EvAt K H) es ys
 tw :∃os us,TW nm wr es os us
 ln:es.length≤63
theorem TalR.same {K:PySem.W.Frag} {H H':Hp} {t:Addr} {nm:Str} {wr:Int} {es:List Ev} {ys:List V} (s:Same H H') (h:TalR K H t nm wr es ys):TalR K H' t nm wr es ys:=by
 obtain ⟨pt,te,th,a,b,c,d⟩:=h.t
 exact ⟨⟨pt,te,th,s.seqT a,s.seqT b,s.seqT c,s.seqT d⟩,forall2_mono (fun _ _ z=>EvAt.tups (.of s) z) h.ev,h.tw,h.ln⟩
theorem dAll_len :∀{es:List Ev} {i:Nat} {rs:List Rc},(dAll i rs es).length≤rs.length + es.length
 | [],_,_=>Nat.le_refl _
 | e :: es,i,rs=>by
  have h:=dAll_len (es:=es) (i:=i + 1) (rs:=dstep i rs e)
  have h2:(dstep i rs e).length≤rs.length + 1:=by
   cases e with
   | beg k n v x=>exact Nat.le_of_eq (List.length_append ..)
   | fin k a=>
    unfold dstep
    dsimp only
    cases lastI k (rs.map Rc.h) with
    | none=>exact Nat.le_succ _
    | some j=>dsimp only;rw [List.length_modify];exact Nat.le_succ _
  show (dAll (i + 1) (dstep i rs e) es).length≤_
  rw [List.length_cons]
  omega
def sp_plain_deeds (K:PySem.W.Frag):Sp:=fun vs H Q _=>∃t nm wr es ys,vs=[.ref t]∧TalR K H t nm wr es ys∧∀l zs H',Same H H'→ToldAt K H' l wr (dAll 0 [] es) zs→Q (.ref l) H'
theorem reg_plain:plainP (.list [.str "register"])=true:=by decide +kernel
theorem reg_eqv:PyData.eqv (.list [.str "register"]) (.list [.str "register"])=true:=by decide +kernel
theorem ok_plain_deeds (T:TX (KX w.params) mg) (c_deeds:Cal P w (KX w.params) mg base "deeds" ["tale"] 1 (sp_deeds (KX w.params))) (c_are_plain:Cal P w (KX w.params) mg base "are_plain" ["told"] 3 (sp_are_plain (KX w.params))):FnOk P w (KX w.params) mg base CX0 4 167 fd_plain_deeds ["tale"] (sp_plain_deeds (KX w.params)):=by
 refine (F_plain_deeds w.params).ok sc_plain_deeds (fun vs H Q E h=>?_) (fun cdv A outer s H vs Q E hr h=>?_)
 ·obtain ⟨t,nm,wr,es,ys,rfl,_⟩:=h
  rfl
 ·obtain ⟨t,nm,wr,es,ys,rfl,ta,q⟩:=h
  refine ⟨_,(pss_cons (ps_set (i:=1) sc_plain_deeds.nd rfl (by first|exact Or.inl rfl|exact Or.inr rfl) (pe_cal c_deeds (hr.mono (by first|decide|omega)) rfl (pa_cons (pv 0) pa_nil)))
   (pss_cons (ps_if (PW.pt (pw_or (pt_cmpR (op_neP hr) (pe_compG (xs:=["name","kind"]) (g:=gTup (KX w.params) 2 (gCons (gName 0) (gCons (gName 1) gNil))) (fr:=[]) rfl (pi_tup (pe_ix ix_seq (pv 0) pe_int (fun _ _=>rfl))) (fun _ z=>absurd z List.not_mem_nil) (free_none rfl) (fun _ z=>absurd z List.not_mem_nil) (by decide +kernel) rfl (by decide +kernel) (fun _ _ _ _ _=>(pg_tup rfl (pgs_cons (pg_cname (N:=["name","kind"]) 0 (by decide +kernel) rfl rfl) (pgs_cons (pg_cname (N:=["name","kind"]) 1 (by decide +kernel) rfl rfl) pgs_nil)))) (fun _ _ _ _ _=>pf_nil) (fun _ _ _ _ _=>(pv 1))) (pe_lst (pa_cons pe_str pa_nil)) (nomark _)) (pw_or1 (pt_not (pt_val (pe_cal c_are_plain (hr.mono (by first|decide|omega)) rfl (pa_cons (pv 1) pa_nil)) (fun _=>rfl))))))
   (pss_one ps_never)
   pss_nil)
   (pss_one (ps_ret (pv 1))))),?_⟩
  obtain ⟨pt,te,th,st,sp,sh,se⟩:=ta.t
  obtain ⟨os,us,tw⟩:=ta.tw
  have wf:=(DInv.nil.all tw.wf.1).1
  have l63:=ta.ln
  have rn:(dAll 0 [] es).length≤63:=Nat.le_trans dAll_len (by simpa using l63)
  refine seq_asg ?_
  refine ⟨_,rfl,t,te,.ref pt,ys,es,rfl,st,se,ta.ev,by omega,wf,fun l zs H1 s1 hl0 el al=>?_⟩
  refine g_name ?_
  have tl:ToldAt (KX w.params) H1 l wr (dAll 0 [] es) zs:=⟨el,al,tw.rs.g,rn⟩
  refine sq_if (t_or (t_test ?_))
  refine tcompF_Tp (K:=KX w.params) (a:=pt) (xs:=[.ref th]) (H1:=H1) (fun _=>true) (fun i y _=>y=.str "register") (fun _ _ _ _ _ z=>z) (fun R h=>⟨_,rfl,.inr (.inl ⟨t,_,0,.ref pt,rfl,rfl,s1.seqT st,atI_nat (j:=0) rfl,h⟩)⟩) (s1.seqT sp) (show (1:Nat)≤sizeLine by decide) ?_ ?_
  ·intro i hi v H2 s2 hv KT KF h1 h2
   have:v=.ref th:=List.mem_singleton.mp (List.mem_of_getElem? hv)
   subst this
   refine ⟨th,_,rfl,(s1.trans s2).seqT sh,rfl,_,_,rfl,_,_,rfl,rfl,[some (.str nm),some (.str "register")],rfl,rfl,iteT ⟨_,rfl,h1 rfl _ _ (Same.refl _) rfl⟩⟩
  intro l2 H2 ks s2 hl2 al2
  have ek:ks=[.str "register"]:=by
   replace al2:All2 (fun (_:Nat) (y:V)=>y=.str "register") [0] ks:=al2
   cases al2 with
   | cons a r=>cases r;rw [a]
  subst ek
  have s3:=Same.upd (o:=.lst [V.str "register"]) hl2
  have e3:upd H2 l2 (.lst [V.str "register"]) l2=some (.lst [V.str "register"]):=upd_same
  have s13:=s2.trans s3
  generalize upd H2 l2 (.lst [V.str "register"])=H3 at s3 e3 s13⊢
  refine ⟨(show (1:Nat)≤sizeLine by decide),fun l4 hl4=>?_⟩
  have s4:=Same.upd (o:=.lst [V.str "register"]) hl4
  refine ⟨.list [.str "register"],.list [.str "register"],⟨l2,_,rfl,SqL.of (s4 _ _ e3),⟨_,_,rfl,rfl,rfl⟩⟩,⟨l4,_,rfl,SqL.of upd_same,⟨_,_,rfl,rfl,rfl⟩⟩,reg_plain,reg_plain,(show (1:Nat)≤60 by decide),_,rfl,iteN (by rw [reg_eqv];decide) ?_⟩
  have s14:=s13.trans s4
  generalize upd H3 l4 (.lst [V.str "register"])=H4 at s4 s14⊢
  refine ⟨_,rfl,l,zs,_,rfl,(tl.same s14).gen,fun H5 s5=>⟨_,rfl,?_⟩⟩
  rw [plain_true tw.rs.g (by unfold wsR;rw [tw.rs.u];exact tw.us.1) (by unfold wsR;rw [tw.rs.u];exact tw.us.2)]
  refine iteN (by decide) ?_
  exact ⟨_,rfl,q l zs H5 (s1.trans (s14.trans s5)) (tl.same (s14.trans s5))⟩
def fiveK:List Str:=["register","counter","queue","set","cell"]
theorem five_plain :∀k∈fiveK,plainP (.str k)=true:=by decide +kernel
theorem strs_plain :∀ks:List Str,(∀k∈ks,k∈fiveK)→plainPs (ks.map PyData.str)=true∧PyData.depthAll (ks.map PyData.str)=0
 | [],_=>⟨rfl,rfl⟩
 | k :: ks,h=>by
  obtain ⟨h1,h2⟩:=strs_plain ks fun x hx=>h x (List.mem_cons_of_mem _ hx)
  refine ⟨?_,?_⟩
  ·show (plainP (.str k) && plainPs (ks.map PyData.str))=true
   rw [h1,five_plain k (h k List.mem_cons_self)]
   rfl
  ·show max 0 (PyData.depthAll (ks.map PyData.str))=0
   rw [h2]
   rfl
theorem strs_pds {K:PySem.W.Frag} {H:Hp} :∀ks:List Str,IsPds K H (ks.map PyData.str) (ks.map V.str)
 | []=>rfl
 | k :: ks=>⟨_,_,rfl,rfl,strs_pds ks⟩
structure TalG (K:PySem.W.Frag) (H:Hp) (t:Addr) (es:List Ev):Prop where
 t :∃pt te qs ys,∃tps:List (Str×Str),SqT K H t [.ref pt,.ref te]∧SqT K H pt qs∧All2 (fun (tp:Str×Str) y=>∃p,y=V.ref p∧SqT K H p [.str tp.1,.str tp.2]) tps qs∧tps.length≤2∧(∀tp∈tps,tp.2∈fiveK)∧SqT K H te ys∧All2 (EvAt K H) es ys∧(tps.map (fun x=>x.2)≠(["register"]:List Str)∨(tps.map (fun x=>x.2)=(["register"]:List Str)∧(∀e∈es,EvG e)∧BadR (dueR es)))
 w:EWf [] es
 n:es.length≤63
def sp_plain_deedsB (K:PySem.W.Frag):Sp:=fun vs H Q E=>∃t es,vs=[.ref t]∧TalG K H t es∧(∀H',Same H H'→E (.ref 109) none H')∧∀l zs rs H',Same H H'→ToldG K H' l rs zs→(∃u∈hsR rs,∃v∈hsR rs,u≠v)→Q (.ref l) H'
theorem ok_plain_deedsB (T:TX (KX w.params) mg) (c_deeds:Cal P w (KX w.params) mg base "deeds" ["tale"] 1 (sp_deeds (KX w.params))) (c_are_plain:Cal P w (KX w.params) mg base "are_plain" ["told"] 3 (sp_are_plain (KX w.params))):FnOk P w (KX w.params) mg base (CXE P w base) 4 167 fd_plain_deeds ["tale"] (sp_plain_deedsB (KX w.params)):=by
 refine (F_plain_deeds w.params).okE sc_plain_deeds (fun vs H Q E h=>?_) (fun cdv A outer s H vs Q E hr h=>?_)
 ·obtain ⟨t,es,rfl,_⟩:=h
  rfl
 ·obtain ⟨t,es,rfl,ta,qe,q⟩:=h
  refine ⟨_,(pss_cons (ps_set (i:=1) sc_plain_deeds.nd rfl (by first|exact Or.inl rfl|exact Or.inr rfl) (pe_cal c_deeds (hr.mono (by first|decide|omega)) rfl (pa_cons (pv 0) pa_nil)))
   (pss_cons (ps_if (PW.pt (pw_or (pt_cmpR (op_neP hr) (pe_compG (xs:=["name","kind"]) (g:=gTup (KX w.params) 2 (gCons (gName 0) (gCons (gName 1) gNil))) (fr:=[]) rfl (pi_tup (pe_ix ix_seq (pv 0) pe_int (fun _ _=>rfl))) (fun _ z=>absurd z List.not_mem_nil) (free_none rfl) (fun _ z=>absurd z List.not_mem_nil) (by decide +kernel) rfl (by decide +kernel) (fun _ _ _ _ _=>(pg_tup rfl (pgs_cons (pg_cname (N:=["name","kind"]) 0 (by decide +kernel) rfl rfl) (pgs_cons (pg_cname (N:=["name","kind"]) 1 (by decide +kernel) rfl rfl) pgs_nil)))) (fun _ _ _ _ _=>pf_nil) (fun _ _ _ _ _=>(pv 1))) (pe_lst (pa_cons pe_str pa_nil)) (nomark _)) (pw_or1 (pt_not (pt_val (pe_cal c_are_plain (hr.mono (by first|decide|omega)) rfl (pa_cons (pv 1) pa_nil)) (fun _=>rfl))))))
   (pss_one (ps_raiseE F.excBase_ValueError (T.of (g_NotPlain _)) (x_NotPlain _) rfl (pa_cons pe_str pa_nil)))
   pss_nil)
   (pss_one (ps_ret (pv 1))))),?_⟩
  obtain ⟨pt,te,qs,ys,tps,st,sp,at1,l2,five,se,ev,bad⟩:=ta.t
  have wf:=(DInv.nil.all ta.w).1
  have due:=(due_all _ es rfl ta.w).1
  have l63:=ta.n
  have rn:(dAll 0 [] es).length≤63:=Nat.le_trans dAll_len (by simpa using l63)
  have lq:qs.length=tps.length:=forall2_len at1
  obtain ⟨kk,hkk⟩ :∃kk:List Str,kk=tps.map (fun x=>x.2):=⟨_,rfl⟩
  rw [←hkk] at bad
  refine seq_asg ?_
  refine ⟨_,rfl,t,te,.ref pt,ys,es,rfl,st,se,ev,by omega,wf,fun l zs H1 s1 hl0 el al=>?_⟩
  refine g_name ?_
  refine sq_if (t_or (t_test ?_))
  refine tcompF_Tp (K:=KX w.params) (a:=pt) (xs:=qs) (H1:=H1) (fun _=>true) (fun i y _=>y=.str (kk[i]?.getD "")) (fun _ _ _ _ _ z=>z) (fun R h=>⟨_,rfl,.inr (.inl ⟨t,_,0,.ref pt,rfl,rfl,s1.seqT st,atI_nat (j:=0) rfl,h⟩)⟩) (s1.seqT sp) (Nat.le_trans (m:=2) (by omega) (by decide)) ?_ ?_
  ·intro i hi v H2 s2 hv KT KF h1 h2
   obtain ⟨tp,htp,p,rfl,sp1⟩:=all2_get at1 hv
   refine ⟨p,_,rfl,(s1.trans s2).seqT sp1,rfl,_,_,rfl,_,_,rfl,rfl,[some (.str tp.1),some (.str tp.2)],rfl,rfl,iteT ⟨_,rfl,h1 rfl _ _ (Same.refl _) ?_⟩⟩
   rw [hkk,List.getElem?_map,htp]
   rfl
  intro l2 H2 ks s2 hl2 al2
  have ek:ks=kk.map V.str:=by
   rw [List.filter_eq_self.mpr (fun _ _=>rfl)] at al2
   rw [forall2_fun al2,lq,hkk]
   apply List.ext_getElem
   ·simp
   ·intro i a b
    have hi:i < tps.length:=by simpa using a
    simp [List.getElem?_eq_getElem hi]
  subst ek
  obtain ⟨pl1,pl2⟩:=strs_plain kk fun k hk=>by
   rw [hkk] at hk
   obtain ⟨tp,h1,rfl⟩:=List.mem_map.mp hk
   exact five tp h1
  have s3:=Same.upd (o:=.lst (kk.map V.str)) hl2
  have e3:upd H2 l2 (.lst (kk.map V.str)) l2=some (.lst (kk.map V.str)):=upd_same
  have s13:=s2.trans s3
  generalize upd H2 l2 (.lst (kk.map V.str))=H3 at s3 e3 s13⊢
  refine ⟨(show (1:Nat)≤sizeLine by decide),fun l4 hl4=>?_⟩
  have s4:=Same.upd (o:=.lst [V.str "register"]) hl4
  have s14:=s13.trans s4
  refine ⟨.list (kk.map PyData.str),.list [.str "register"],⟨l2,_,rfl,SqL.of (s4 _ _ e3),strs_pds _⟩,⟨l4,_,rfl,SqL.of upd_same,⟨_,_,rfl,rfl,rfl⟩⟩,pl1,reg_plain,(by show PyData.depthAll _ + 1≤60;omega),_,rfl,?_⟩
  rcases bad with nk|⟨ek,evg,bad⟩
  ·refine iteP ?_ (iteP rfl ⟨(show (1:Nat)≤sizeLine by decide),qe _ (s1.trans s14)⟩)
   rw [Bool.not_eq_true',←Bool.not_eq_true,eqv_iff (.list (kk.map PyData.str)) (.list [.str "register"]) pl1 reg_plain]
   intro z
   injection z with z
   have z:kk.map PyData.str=(["register"]:List Str).map PyData.str:=z
   exact nk (List.map_inj_right (fun _ _ e=>by injection e) |>.mp z)
  ·rw [ek]
   refine iteN (by rw [show (["register"]:List Str).map PyData.str=[.str "register"] from rfl,reg_eqv];decide) ?_
   generalize upd H3 l4 (.lst [V.str "register"])=H4 at s4 s14⊢
   have tl:ToldG (KX w.params) H1 l (dueR es) zs:=⟨el,due ▸ al,due_g evg,due ▸ rn⟩
   refine ⟨_,rfl,l,zs,_,rfl,tl.same s14,fun H5 s5=>⟨_,rfl,?_⟩⟩
   have s05:=s1.trans (s14.trans s5)
   rcases bad with b|b
   ·rw [b]
    exact iteP rfl ⟨(show (1:Nat)≤sizeLine by decide),qe _ s05⟩
   ·cases plainB (dueR es) with
    | false=>exact iteP rfl ⟨(show (1:Nat)≤sizeLine by decide),qe _ s05⟩
    | true=>exact iteN (by decide) ⟨_,rfl,q l zs _ H5 s05 (tl.same (s14.trans s5)) b⟩
def sp_lone_writer_deedsB (K:PySem.W.Frag):Sp:=fun vs H Q E=>∃t es,vs=[.ref t]∧TalG K H t es∧∀H',Same H H'→E (.ref 109) none H'
theorem ok_lone_writer_deedsB (T:TX (KX w.params) mg) (c_plain_deeds:CalE P w (KX w.params) mg base "plain_deeds" ["tale"] 4 (sp_plain_deedsB (KX w.params))):FnOk P w (KX w.params) mg base (CXE P w base) 5 196 fd_lone_writer_deeds ["tale"] (sp_lone_writer_deedsB (KX w.params)):=by
 refine (F_lone_writer_deeds w.params).okE sc_lone_writer_deeds (fun vs H Q E h=>?_) (fun cdv A outer s H vs Q E hr h=>?_)
 ·obtain ⟨t,es,rfl,_⟩:=h
  rfl
 ·obtain ⟨t,es,rfl,ta,qe⟩:=h
  refine ⟨_,(pss_cons (ps_set (i:=1) sc_lone_writer_deeds.nd rfl (by first|exact Or.inl rfl|exact Or.inr rfl) (pe_calE passE c_plain_deeds (hr.mono (by first|decide|omega)) rfl (pa_cons (pv 0) pa_nil)))
   (pss_cons (ps_if (pt_cmpR op_gt (pe_lenSet rfl rfl (T.no (n_len _)) rfl (T.no (n_set _)) boot_len boot_set (pe_compG (xs:=["deed"]) (g:=gName 0) (fr:=[]) rfl (pi_list (pv 1)) (fun _ z=>absurd z List.not_mem_nil) (free_none rfl) (fun _ z=>absurd z List.not_mem_nil) (by decide +kernel) rfl (by decide +kernel) (fun _ _ _ _ _=>(pg_cname (N:=["deed"]) 0 (by decide +kernel) rfl rfl)) (fun _ _ _ _ _=>(pf_one (pt_cmpR opEq (pe_ix (ix_seqK (K:=KX w.params) rfl) (pv 0) pe_int (fun _ _=>rfl)) pe_str (nomark _)))) (fun _ _ _ _ _=>(pe_ix (ix_seqK (K:=KX w.params) rfl) (pv 0) pe_int (fun _ _=>rfl))))) pe_int (nomark _))
   (pss_one (ps_raiseE F.excBase_ValueError (T.of (g_NotPlain _)) (x_NotPlain _) rfl (pa_cons pe_str pa_nil)))
   pss_nil)
   (pss_one (ps_ret (pv 1))))),?_⟩
  refine seq_asg ?_
  refine ⟨_,rfl,t,es,rfl,ta,qe,fun l zs rs H1 s1 tl two=>?_⟩
  refine g_name ?_
  have lz:zs.length=rs.length:=forall2_len tl.a
  have l63:=tl.n
  refine sq_if (t_test (t_lset ?_))
  refine tcompF_L (K:=KX w.params) (a:=l) (xs:=zs) (H1:=H1) (fun i=>isW (rs[i]?.getD r00)) (fun i y _=>y=.int ((rs[i]?.getD r00).h)) (fun _ _ _ _ _ z=>z) (fun R h=>⟨_,rfl,h⟩) (SqL.of tl.l) (Nat.le_trans (m:=63) (by omega) (by decide)) ?_ ?_
  ·intro i hi v H2 s2 hv KT KF h1 h2
   obtain ⟨r,hri,p,rfl,sp⟩:=all2_get tl.a hv
   have sp1:=s2.seqT sp
   rw [getD_some hri] at h1 h2
   refine ⟨[some (.ref p)],rfl,rfl,?_⟩
   rcases (tl.g r (List.mem_of_getElem? hri)).1 with ⟨gv,gx⟩|⟨gv,i0,gx⟩
   ·refine ⟨_,rfl,.inr (.inl ⟨p,_,2,.str "read",rfl,rfl,sp1,by rw [gv];exact atI_nat (j:=2) rfl,rfl,_,rfl,iteN (by decide +kernel) (h2 (decide_eq_false fun z=>rd_ne_wr (gv.symm.trans z)) _ (Same.refl _))⟩)⟩
   ·refine ⟨_,rfl,.inr (.inl ⟨p,_,2,.str "write",rfl,rfl,sp1,by rw [gv];exact atI_nat (j:=2) rfl,rfl,_,rfl,iteP (by decide +kernel) ?_⟩)⟩
    exact ⟨_,rfl,.inr (.inl ⟨p,_,0,.int r.h,rfl,rfl,sp1,atI_nat (j:=0) rfl,h1 (decide_eq_true gv) _ _ (Same.refl _) rfl⟩)⟩
  intro l2 H2 hs s2 hl2 al2
  have ey:=writes_of (f:=fun r=>V.int r.h) lz al2
  have ey2:hs=(hsR rs).map V.int:=by rw [ey];unfold hsR;rw [List.map_map];rfl
  subst ey2
  have lh:(hsR rs).length≤63:=by unfold hsR;rw [List.length_map];exact Nat.le_trans (List.length_filter_le _ _) l63
  obtain ⟨u,hu,v,hv,ne⟩:=two
  have le1:=addI_two hu hv ne
  have s3:=Same.upd (o:=.lst ((hsR rs).map V.int)) hl2
  exact ⟨l2,_,rfl,SqL.of upd_same,by omega,_,_,rfl,rfl,_,rfl,iteP (decide_eq_true (by omega)) ⟨(show (1:Nat)≤sizeLine by decide),qe _ (s1.trans (s2.trans s3))⟩⟩
def sp_is_regularB (K:PySem.W.Frag):Sp:=sp_lone_writer_deedsB K
theorem ok_is_regularB (T:TX (KX w.params) mg) (c_lone_writer_deeds:CalE P w (KX w.params) mg base "lone_writer_deeds" ["tale"] 5 (sp_lone_writer_deedsB (KX w.params))):FnOk P w (KX w.params) mg base (CXE P w base) 6 203 fd_is_regular ["tale"] (sp_is_regularB (KX w.params)):=by
 refine (F_is_regular w.params).okE sc_is_regular (fun vs H Q E h=>?_) (fun cdv A outer s H vs Q E hr h=>?_)
 ·obtain ⟨t,es,rfl,_⟩:=h
  rfl
 ·obtain ⟨t,es,rfl,ta,qe⟩:=h
  refine ⟨_,(pss_cons (ps_set (i:=1) sc_is_regular.nd rfl (by first|exact Or.inl rfl|exact Or.inr rfl) (pe_calE passE c_lone_writer_deeds (hr.mono (by first|decide|omega)) rfl (pa_cons (pv 0) pa_nil)))
   (pss_cons ps_never (pss_cons ps_never (pss_one ps_never)))),?_⟩
  exact ⟨_,rfl,t,es,rfl,ta,qe⟩
def sp_is_safeB (K:PySem.W.Frag):Sp:=sp_lone_writer_deedsB K
theorem ok_is_safeB (T:TX (KX w.params) mg) (c_lone_writer_deeds:CalE P w (KX w.params) mg base "lone_writer_deeds" ["tale"] 5 (sp_lone_writer_deedsB (KX w.params))):FnOk P w (KX w.params) mg base (CXE P w base) 6 210 fd_is_safe ["tale"] (sp_is_safeB (KX w.params)):=by
 refine (F_is_safe w.params).okE sc_is_safe (fun vs H Q E h=>?_) (fun cdv A outer s H vs Q E hr h=>?_)
 ·obtain ⟨t,es,rfl,_⟩:=h
  rfl
 ·obtain ⟨t,es,rfl,ta,qe⟩:=h
  refine ⟨_,(pss_cons (ps_set (i:=1) sc_is_safe.nd rfl (by first|exact Or.inl rfl|exact Or.inr rfl) (pe_calE passE c_lone_writer_deeds (hr.mono (by first|decide|omega)) rfl (pa_cons (pv 0) pa_nil)))
   (pss_cons ps_never (pss_cons ps_never (pss_one ps_never)))),?_⟩
  exact ⟨_,rfl,t,es,rfl,ta,qe⟩
def sp_turn_aboutB (K:PySem.W.Frag):Sp:=sp_lone_writer_deedsB K
theorem ok_turn_aboutB (T:TX (KX w.params) mg) (c_lone_writer_deeds:CalE P w (KX w.params) mg base "lone_writer_deeds" ["tale"] 5 (sp_lone_writer_deedsB (KX w.params))):FnOk P w (KX w.params) mg base (CXE P w base) 6 225 fd_turn_about ["tale"] (sp_turn_aboutB (KX w.params)):=by
 refine (F_turn_about w.params).okE sc_turn_about (fun vs H Q E h=>?_) (fun cdv A outer s H vs Q E hr h=>?_)
 ·obtain ⟨t,es,rfl,_⟩:=h
  rfl
 ·obtain ⟨t,es,rfl,ta,qe⟩:=h
  refine ⟨_,(pss_cons (ps_set (i:=1) sc_turn_about.nd rfl (by first|exact Or.inl rfl|exact Or.inr rfl) (pe_calE passE c_lone_writer_deeds (hr.mono (by first|decide|omega)) rfl (pa_cons (pv 0) pa_nil)))
   (pss_cons ps_never (pss_cons ps_never (pss_cons ps_never (pss_one ps_never))))),?_⟩
  exact ⟨_,rfl,t,es,rfl,ta,qe⟩
def sp__law_askedB (K:PySem.W.Frag):Sp:=fun vs H Q E=>∃t es m,vs=[.ref t,.int m]∧TalG K H t es∧∀H',Same H H'→E (.ref 109) none H'
theorem ok__law_askedB (T:TX (KX w.params) mg) (c_is_regular:CalE P w (KX w.params) mg base "is_regular" ["tale"] 6 (sp_is_regularB (KX w.params))) (c_is_safe:CalE P w (KX w.params) mg base "is_safe" ["tale"] 6 (sp_is_safeB (KX w.params))) (c_turn_about:CalE P w (KX w.params) mg base "turn_about" ["tale"] 6 (sp_turn_aboutB (KX w.params))):FnOk P w (KX w.params) mg base (CXE P w base) 7 338 fd__law_asked ["tale","which"] (sp__law_askedB (KX w.params)):=by
 refine (F__law_asked w.params).okE sc__law_asked (fun vs H Q E h=>?_) (fun cdv A outer s H vs Q E hr h=>?_)
 ·obtain ⟨t,es,m,rfl,_⟩:=h
  rfl
 ·obtain ⟨t,es,m,rfl,ta,qe⟩:=h
  refine ⟨_,(pss_cons (ps_if (pt_cmpR opEq (pv 1) pe_int (nomark _))
   (pss_one (ps_ret (pe_calE passE c_is_regular (hr.mono (by first|decide|omega)) rfl (pa_cons (pv 0) pa_nil))))
   pss_nil)
   (pss_cons (ps_if (pt_cmpR opEq (pv 1) pe_int (nomark _))
   (pss_one (ps_ret (pe_calE passE c_is_safe (hr.mono (by first|decide|omega)) rfl (pa_cons (pv 0) pa_nil))))
   pss_nil)
   (pss_one (ps_ret (pe_calE passE c_turn_about (hr.mono (by first|decide|omega)) rfl (pa_cons (pv 0) pa_nil)))))),?_⟩
  refine sq_if ⟨_,rfl,rfl,_,rfl,ite2 (fun _=>?_) fun _=>?_⟩
  ·exact ⟨_,rfl,t,es,rfl,ta,qe⟩
  refine t_nx (sq_if ⟨_,rfl,rfl,_,rfl,ite2 (fun _=>?_) fun _=>?_⟩)
  ·exact ⟨_,rfl,t,es,rfl,ta,qe⟩
  ·exact ⟨_,rfl,t,es,rfl,ta,qe⟩
end
section
structure EvR (es:List Ev) (rs:List Rc):Prop where
 a :∀r∈rs,es[r.b]? = some (.beg r.h r.n r.v r.x)
 b :∀r∈rs,∀k,r.e=some k→es[k]? = some (.fin r.h r.a)
 c :∀(i:Nat) h n v x,es[i]? = some (.beg h n v x)→∃r∈rs,r.b=i
 d :∀(i:Nat) h a,es[i]? = some (.fin h a)→∃r∈rs,r.e=some i∧r.h=h
theorem TW.open {nm:Str} {wr:Int} {es:List Ev} {os:List (Int×Bool)} {us:List Int} (h:TW nm wr es os us) :∀k b,(k,b)∈os→∃j r,lastI k ((dAll 0 [] es).map Rc.h)=some j∧(dAll 0 [] es)[j]? = some r∧r.h=k∧r.e=none:=by
 have beg :∀{rs:List Rc} {os:List (Int×Bool)} (k:Int) (b:Bool) (r:Rc),(∀k b,(k,b)∈os→∃j r,lastI k (rs.map Rc.h)=some j∧rs[j]? = some r∧r.h=k∧r.e=none)→k∉os.map (·.1)→r.h=k→r.e=none→∀k' b',(k',b')∈os++[(k,b)]→∃j r',lastI k' ((rs++[r]).map Rc.h)=some j∧(rs++[r])[j]? = some r'∧r'.h=k'∧r'.e=none:=by
  intro rs os k b r I hk hr he k' b' hm
  rw [List.map_append]
  show∃j q,lastI k' (rs.map Rc.h++[r.h])=some j∧_
  rw [lastI_snoc,hr]
  rcases List.mem_append.mp hm with z|z
  ·have ne:¬ k=k':=fun e=>hk (e ▸ List.mem_map.mpr ⟨_,z,rfl⟩)
   obtain ⟨j,q,h1,h2,h3⟩:=I k' b' z
   refine ⟨j,q,by rw [if_neg ne];exact h1,?_,h3⟩
   rw [List.getElem?_append_left (List.getElem?_eq_some_iff.mp h2).1]
   exact h2
  ·have e:=List.mem_singleton.mp z
   cases e
   refine ⟨rs.length,r,by rw [if_pos rfl,List.length_map],?_,hr,he⟩
   rw [List.getElem?_append_right (Nat.le_refl _),Nat.sub_self]
   rfl
 induction h with
 | nil=>exact fun _ _ h=>absurd h List.not_mem_nil
 | @wri es os us i _ h0 _ _ ih=>rw [dAll_snoc];exact beg wr true ⟨wr,.str nm,.str "write",.int i,.non,0 + es.length,none⟩ ih h0 rfl rfl
 | @rd es os us h _ h0 ih=>rw [dAll_snoc];exact beg h false ⟨h,.str nm,.str "read",.non,.non,0 + es.length,none⟩ ih h0 rfl rfl
 | @fin es os us h b a _ h0 ht hf ih=>
  intro k c hc
  rw [dAll_snoc]
  obtain ⟨j,r,h1,h2,h3,_⟩:=ih h b h0
  have hd :∀i,dstep i (dAll 0 [] es) (.fin h a)=(dAll 0 [] es).modify j (fun r=>{ r with a:=a,e:=some i }):=fun i=>by unfold dstep;dsimp only;rw [h1]
  rw [hd,modify_h (f:=fun r=>{ r with a:=a,e:=some (0 + es.length) }) (fun r=>rfl)]
  obtain ⟨hm,hn⟩:=List.mem_filter.mp hc
  have hn:=of_decide_eq_true hn
  obtain ⟨j',r',g1,g2,g3,g4⟩:=ih k c hm
  refine ⟨j',r',g1,?_,g3,g4⟩
  rw [List.getElem?_modify,g2]
  show some (if j=j' then _ else r')=some r'
  rw [if_neg (show ¬ j=j' from fun e=>by rw [e,g2] at h2;cases h2;exact hn (g3.symm.trans h3))]
theorem TW.evr {nm:Str} {wr:Int} {es:List Ev} {os:List (Int×Bool)} {us:List Int} (h:TW nm wr es os us):EvR es (dAll 0 [] es):=by
 have beg :∀{es:List Ev} {rs:List Rc} (h:Int) (n v x:V),EvR es rs→EvR (es++[.beg h n v x]) (rs++[⟨h,n,v,x,.non,0 + es.length,none⟩]):=by
  intro es rs h n v x I
  have lt :∀{i:Nat} {e:Ev},es[i]? = some e→(es++[Ev.beg h n v x])[i]? = some e:=fun z=>by rw [List.getElem?_append_left (List.getElem?_eq_some_iff.mp z).1];exact z
  have me:(es++[Ev.beg h n v x])[0 + es.length]? = some (.beg h n v x):=by rw [Nat.zero_add,List.getElem?_append_right (Nat.le_refl _),Nat.sub_self];rfl
  have back :∀{i:Nat} {e:Ev},(es++[Ev.beg h n v x])[i]? = some e→es[i]? = some e∨(i=0 + es.length∧e=.beg h n v x):=fun {i e} z=>by
   by_cases y:i < es.length
   ·rw [List.getElem?_append_left y] at z;exact .inl z
   ·have hl:=(List.getElem?_eq_some_iff.mp z).1
    rw [List.length_append] at hl
    have:i=0 + es.length:=by simp at hl;omega
    rw [this,me] at z
    exact .inr ⟨this,(Option.some.inj z).symm⟩
  refine ⟨fun r hr=>?_,fun r hr k hk=>?_,fun i h' n' v' x' z=>?_,fun i h' a z=>?_⟩
  ·rcases List.mem_append.mp hr with y|y
   ·exact lt (I.a r y)
   ·rw [List.mem_singleton.mp y];exact me
  ·rcases List.mem_append.mp hr with y|y
   ·exact lt (I.b r y k hk)
   ·rw [List.mem_singleton.mp y] at hk;cases hk
  ·rcases back z with y|⟨y,_⟩
   ·obtain ⟨r,hr,e⟩:=I.c i _ _ _ _ y
    exact ⟨r,List.mem_append.mpr (.inl hr),e⟩
   ·exact ⟨_,List.mem_append.mpr (.inr (List.mem_singleton.mpr rfl)),y.symm⟩
  ·rcases back z with y|⟨_,y⟩
   ·obtain ⟨r,hr,e⟩:=I.d i _ _ y
    exact ⟨r,List.mem_append.mpr (.inl hr),e⟩
   ·cases y
 induction h with
 | nil=>exact ⟨fun _ h=>absurd h List.not_mem_nil,fun _ h=>absurd h List.not_mem_nil,fun _ _ _ _ _ h=>by simp at h,fun _ _ _ h=>by simp at h⟩
 | wri _ _ _ _ ih=>rw [dAll_snoc];exact beg _ _ _ _ ih
 | rd _ _ ih=>rw [dAll_snoc];exact beg _ _ _ _ ih
 | @fin es os us h b a t h0 ht hf I=>
  rw [dAll_snoc]
  obtain ⟨j,r,h1,h2,h3,h4⟩:=t.open h b h0
  have hd :∀i,dstep i (dAll 0 [] es) (.fin h a)=(dAll 0 [] es).modify j (fun r=>{ r with a:=a,e:=some i }):=fun i=>by unfold dstep;dsimp only;rw [h1]
  rw [hd]
  generalize dAll 0 [] es=rs at I h1 h2
  have lt :∀{i:Nat} {e:Ev},es[i]? = some e→(es++[Ev.fin h a])[i]? = some e:=fun z=>by rw [List.getElem?_append_left (List.getElem?_eq_some_iff.mp z).1];exact z
  have me:(es++[Ev.fin h a])[0 + es.length]? = some (.fin h a):=by rw [Nat.zero_add,List.getElem?_append_right (Nat.le_refl _),Nat.sub_self];rfl
  have back :∀{i:Nat} {e:Ev},(es++[Ev.fin h a])[i]? = some e→es[i]? = some e∨(i=0 + es.length∧e=.fin h a):=fun {i e} z=>by
   by_cases y:i < es.length
   ·rw [List.getElem?_append_left y] at z;exact .inl z
   ·have hl:=(List.getElem?_eq_some_iff.mp z).1
    rw [List.length_append] at hl
    have:i=0 + es.length:=by simp at hl;omega
    rw [this,me] at z
    exact .inr ⟨this,(Option.some.inj z).symm⟩
  have get :∀q∈rs.modify j (fun r=>{ r with a:=a,e:=some (0 + es.length) }),(q={ r with a:=a,e:=some (0 + es.length) })∨q∈rs:=fun q hq=>by
   obtain ⟨m,hm⟩:=List.mem_iff_getElem?.mp hq
   rw [List.getElem?_modify] at hm
   obtain ⟨q',hq',e⟩:=Option.map_eq_some_iff.mp hm
   by_cases z:j=m
   ·rw [if_pos z] at e
    rw [←z,h2] at hq'
    cases hq'
    exact .inl e.symm
   ·rw [if_neg z] at e
    rw [←e]
    exact .inr (List.mem_of_getElem? hq')
  have put :∀q∈rs,q∈rs.modify j (fun r=>{ r with a:=a,e:=some (0 + es.length) })∨q=r:=fun q hq=>by
   obtain ⟨m,hm⟩:=List.mem_iff_getElem?.mp hq
   by_cases z:j=m
   ·rw [←z,h2] at hm
    cases hm
    exact .inr rfl
   ·refine .inl (List.mem_of_getElem? (i:=m) ?_)
    rw [List.getElem?_modify,hm]
    show some (if j=m then _ else q)=some q
    rw [if_neg z]
  have new:{ r with a:=a,e:=some (0 + es.length) }∈rs.modify j (fun r=>{ r with a:=a,e:=some (0 + es.length) }):=List.mem_of_getElem? (i:=j) (by rw [List.getElem?_modify,h2];show some (if j=j then _ else r)=_;rw [if_pos rfl])
  have mr:=List.mem_of_getElem? h2
  refine ⟨fun q hq=>?_,fun q hq k hk=>?_,fun i h' n' v' x' z=>?_,fun i h' a' z=>?_⟩
  ·rcases get q hq with e|e
   ·rw [e];exact lt (I.a r mr)
   ·exact lt (I.a q e)
  ·rcases get q hq with e|e
   ·rw [e] at hk⊢
    cases hk
    show (es++[Ev.fin h a])[0 + es.length]? = some (.fin r.h a)
    rw [h3];exact me
   ·exact lt (I.b q e k hk)
  ·rcases back z with y|⟨_,y⟩
   ·obtain ⟨q,hq,e⟩:=I.c i _ _ _ _ y
    rcases put q hq with x|x
    ·exact ⟨q,x,e⟩
    ·exact ⟨_,new,by rw [←e,x]⟩
   ·cases y
  ·rcases back z with y|⟨y1,y2⟩
   ·obtain ⟨q,hq,e1,e2⟩:=I.d i _ _ y
    rcases put q hq with x|x
    ·exact ⟨q,x,e1,e2⟩
    ·rw [x,h4] at e1;cases e1
   ·cases y2
    exact ⟨_,new,by rw [y1],h3⟩
structure Sq1 (wr:Int) (es:List Ev) (rs:List Rc):Prop where
 R:EvR es rs
 G :∀r∈rs,RdG r∨WrG wr r
 D :∀(x y:Nat) (r q:Rc),x < y→rs[x]? = some r→rs[y]? = some q→r.b < q.b∧(r.h=q.h→∃e,r.e=some e∧e < q.b)
 E:EndsB rs
theorem TW.sq {nm:Str} {wr:Int} {es:List Ev} {os:List (Int×Bool)} {us:List Int} (h:TW nm wr es os us):Sq1 wr es (dAll 0 [] es):=by
 obtain ⟨_,os',DI⟩:=DInv.nil.all h.wf.1
 exact ⟨h.evr,h.rs.g,DI.p,(EndsB.all (es:=es) (i:=0) (rs:=[]) (fun _ h=>absurd h List.not_mem_nil) (fun _ h=>absurd h List.not_mem_nil)).1⟩
variable {wr:Int} {es:List Ev} {rs:List Rc}
theorem Sq1.same_b (S:Sq1 wr es rs) {w w':Rc} (h:w∈rs) (h':w'∈rs) (e:w.b=w'.b):w=w':=by
 obtain ⟨i,hi⟩:=List.mem_iff_getElem?.mp h
 obtain ⟨j,hj⟩:=List.mem_iff_getElem?.mp h'
 rcases Nat.lt_trichotomy i j with z|z|z
 ·have:=(S.D i j w w' z hi hj).1;omega
 ·subst z;rw [hi] at hj;cases hj;rfl
 ·have:=(S.D j i w' w z hj hi).1;omega
def OpW (rs:List Rc) (i:Nat) (w:Rc):Prop:=w∈rs∧isW w=true∧w.b < i∧∀e,w.e=some e→i≤e
def OpI (rs:List Rc) (i:Nat) (o:Option Rc):Prop:=match o with|none=>∀w,¬ OpW rs i w|some w=>OpW rs i w
def LastI (rs:List Rc) (i:Nat) (x:Int):Prop:=(x=0∧∀w∈rs,isW w=true→∀e,w.e=some e→¬ e < i)∨∃w∈rs,isW w=true∧intV w.x=x∧(∃e,w.e=some e∧e < i)∧∀w'∈rs,isW w'=true→(∃e,w'.e=some e∧e < i)→w'.b≤w.b
theorem Sq1.last1 (S:Sq1 wr es rs) {i:Nat} {x y:Int} (a:LastI rs i x) (b:LastI rs i y):x=y:=by
 rcases a with ⟨a1,a2⟩|⟨w,hw,a1,a2,⟨e,a3,a4⟩,a5⟩
 ·rcases b with ⟨b1,b2⟩|⟨w,hw,b1,b2,⟨e,b3,b4⟩,b5⟩
  ·rw [a1,b1]
  ·exact absurd b4 (a2 w hw b1 e b3)
 ·rcases b with ⟨b1,b2⟩|⟨w',hw',b1,b2,⟨e',b3,b4⟩,b5⟩
  ·exact absurd a4 (b2 w hw a1 e a3)
  ·have h1:=a5 w' hw' b1 ⟨e',b3,b4⟩
   have h2:=b5 w hw a1 ⟨e,a3,a4⟩
   have:w=w':=S.same_b hw hw' (by omega)
   rw [←a2,←b2,this]
def BesI (rs:List Rc) (rb i:Nat) (x:Int):Prop:=∃w∈rs,isW w=true∧intV w.x=x∧((rb < w.b∧w.b < i)∨(rb < i∧w.b < rb∧∀e,w.e=some e→rb < e))
end
section
structure Ent where
 x:Int
 b:Int
 e:Option Int
def ent0:Ent:=⟨0,-2,some (-1)⟩
def entW (r:Rc):Ent:=⟨intV r.x,r.b,r.e.map fun n=>(n:Int)⟩
def ents (rs:List Rc):List Ent:=ent0 :: (rs.filter isW).map entW
theorem ents_mem {rs:List Rc} {t:Ent}:t∈ents rs↔t=ent0∨∃w∈rs,isW w=true∧t=entW w:=by
 unfold ents
 rw [List.mem_cons,List.mem_map]
 constructor
 ·rintro (h|⟨w,hw,e⟩)
  ·exact .inl h
  ·exact .inr ⟨w,(List.mem_filter.mp hw).1,(List.mem_filter.mp hw).2,e.symm⟩
 ·rintro (h|⟨w,hw,hi,e⟩)
  ·exact .inl h
  ·exact .inr ⟨w,List.mem_filter.mpr ⟨hw,hi⟩,e.symm⟩
theorem ents_snoc (rs:List Rc) (r:Rc):ents (rs++[r])=ents rs++if isW r=true then [entW r] else []:=by
 unfold ents
 rw [List.filter_append,List.map_append,List.cons_append]
 by_cases z:isW r=true
 ·rw [if_pos z,List.filter_cons_of_pos z];rfl
 ·rw [if_neg z,List.filter_cons_of_neg z];rfl
def besB (rb re:Int) (t:Ent):Bool:=(match t.e with|none=>true|some e=>decide (rb < e)) && decide (t.b < re)
def ahdB (rb:Int) (t:Ent):Bool:=match t.e with|none=>false|some e=>decide (e < rb)
variable {wr:Int} {es:List Ev} {rs:List Rc}
theorem Sq1.ents_b (S:Sq1 wr es rs) {t t':Ent} (h:t∈ents rs) (h':t'∈ents rs) (e:t.b=t'.b):t=t':=by
 rcases ents_mem.mp h with rfl|⟨w,hw,_,rfl⟩
 ·rcases ents_mem.mp h' with rfl|⟨w',hw',_,rfl⟩
  ·rfl
  ·have:(-2:Int)=(w'.b:Int):=e;omega
 ·rcases ents_mem.mp h' with rfl|⟨w',hw',_,rfl⟩
  ·have:(w.b:Int)=-2:=e;omega
  ·have:(w.b:Int)=(w'.b:Int):=e
   rw [S.same_b hw hw' (by omega)]
theorem map_inj_nodup {α:Type} {f:α→Int} :∀{l:List α},(l.map f).Nodup→∀a∈l,∀b∈l,f a=f b→a=b
 | [],_,_,h,_,_,_=>absurd h List.not_mem_nil
 | x :: l,nd,a,ha,b,hb,e=>by
  rw [List.map_cons,List.nodup_cons] at nd
  rcases List.mem_cons.mp ha with rfl|ha'
  ·rcases List.mem_cons.mp hb with rfl|hb'
   ·rfl
   ·exact absurd (List.mem_map.mpr ⟨b,hb',e.symm⟩) nd.1
  ·rcases List.mem_cons.mp hb with rfl|hb'
   ·exact absurd (List.mem_map.mpr ⟨a,ha',e⟩) nd.1
   ·exact map_inj_nodup nd.2 a ha' b hb' e
theorem ents_x (nd:((rs.filter isW).map (fun r=>intV r.x)).Nodup) (n0:(0:Int)∉(rs.filter isW).map (fun r=>intV r.x)) {t t':Ent} (h:t∈ents rs) (h':t'∈ents rs) (e:t.x=t'.x):t=t':=by
 have ne :∀w∈rs,isW w=true→intV w.x≠0:=fun w hw hi z=>n0 (List.mem_map.mpr ⟨w,List.mem_filter.mpr ⟨hw,hi⟩,z⟩)
 rcases ents_mem.mp h with rfl|⟨w,hw,hi,rfl⟩
 ·rcases ents_mem.mp h' with rfl|⟨w',hw',hi',rfl⟩
  ·rfl
  ·exact absurd e.symm (ne w' hw' hi')
 ·rcases ents_mem.mp h' with rfl|⟨w',hw',hi',rfl⟩
  ·exact absurd e (ne w hw hi)
  ·rw [map_inj_nodup nd w (List.mem_filter.mpr ⟨hw,hi⟩) w' (List.mem_filter.mpr ⟨hw',hi'⟩) e]
theorem besW {rb re:Nat} {w:Rc}:besB rb re (entW w)=true↔w.b < re∧∀k,w.e=some k→rb < k:=by
 unfold besB entW
 cases h:w.e with
 | none=>simp
 | some k=>
  rw [Bool.and_eq_true_iff]
  constructor
  ·rintro ⟨a,b⟩
   have a:(rb:Int) < (k:Int):=of_decide_eq_true a
   have b:(w.b:Int) < (re:Int):=of_decide_eq_true b
   exact ⟨by omega,fun k' z=>by cases z;omega⟩
  ·rintro ⟨a,b⟩
   have b:=b k rfl
   exact ⟨decide_eq_true (show (rb:Int) < (k:Int) by omega),decide_eq_true (show (w.b:Int) < (re:Int) by omega)⟩
theorem bes0 {rb re:Nat}:besB rb re ent0=false:=by
 have:decide ((rb:Int) < -1)=false:=decide_eq_false (by omega)
 show (decide ((rb:Int) < -1) && _)=false
 rw [this]
 rfl
theorem ahdW {rb:Nat} {w:Rc}:ahdB rb (entW w)=true↔∃e,w.e=some e∧e < rb:=by
 unfold ahdB entW
 cases h:w.e with
 | none=>simp
 | some k=>
  constructor
  ·intro a
   have a:(k:Int) < (rb:Int):=of_decide_eq_true a
   exact ⟨k,rfl,by omega⟩
  ·rintro ⟨e,z,lt⟩
   cases z
   exact decide_eq_true (show (k:Int) < (rb:Int) by omega)
theorem ahd0 {rb:Nat}:ahdB rb ent0=true:=decide_eq_true (show (-1:Int) < (rb:Int) by omega)
theorem bes_iff (nd:((rs.filter isW).map (fun r=>intV r.x)).Nodup) (n0:(0:Int)∉(rs.filter isW).map (fun r=>intV r.x)) {rb re:Nat} {t:Ent} (h:t∈ents rs):besB rb re t=true↔∃w∈rs,isW w=true∧intV w.x=t.x∧w.b < re∧∀k,w.e=some k→rb < k:=by
 constructor
 ·intro b
  rcases ents_mem.mp h with rfl|⟨w,hw,hi,rfl⟩
  ·rw [bes0] at b;cases b
  ·exact ⟨w,hw,hi,rfl,besW.mp b⟩
 ·rintro ⟨w,hw,hi,hx,r⟩
  have:t=entW w:=ents_x nd n0 h (ents_mem.mpr (.inr ⟨w,hw,hi,rfl⟩)) hx.symm
  rw [this]
  exact besW.mpr r
theorem Sq1.last_iff (S:Sq1 wr es rs) (nd:((rs.filter isW).map (fun r=>intV r.x)).Nodup) (n0:(0:Int)∉(rs.filter isW).map (fun r=>intV r.x)) {rb:Nat} {t l:Ent} (h:t∈ents rs) (hl:l∈ents rs) (la:ahdB rb l=true) (lm :∀t'∈ents rs,ahdB rb t'=true→t'.b≤l.b):t=l↔LastI rs rb t.x:=by
 have self:LastI rs rb l.x:=by
  rcases ents_mem.mp hl with rfl|⟨w,hw,hi,rfl⟩
  ·refine .inl ⟨rfl,fun w hw hi e z lt=>?_⟩
   have:=lm (entW w) (ents_mem.mpr (.inr ⟨w,hw,hi,rfl⟩)) (ahdW.mpr ⟨e,z,lt⟩)
   have:(w.b:Int)≤-2:=this
   omega
  ·refine .inr ⟨w,hw,hi,rfl,ahdW.mp la,fun w' hw' hi' z=>?_⟩
   have:(w'.b:Int)≤(w.b:Int):=lm (entW w') (ents_mem.mpr (.inr ⟨w',hw',hi',rfl⟩)) (ahdW.mpr z)
   omega
 constructor
 ·rintro rfl;exact self
 ·intro a
  exact ents_x nd n0 h hl (S.last1 a self)
theorem last_in {rb:Nat} {x:Int} (h:LastI rs rb x) :∃t∈ents rs,t.x=x:=by
 rcases h with ⟨h,_⟩|⟨w,hw,hi,hx,_⟩
 ·exact ⟨ent0,.head _,h.symm⟩
 ·exact ⟨entW w,ents_mem.mpr (.inr ⟨w,hw,hi,rfl⟩),hx⟩
def RegR (rs:List Rc) (r:Rc) (e:Nat):Prop:=(∃w∈rs,isW w=true∧intV w.x=intV r.a∧w.b < e∧∀k,w.e=some k→r.b < k)∨LastI rs r.b (intV r.a)
def SafR (rs:List Rc) (r:Rc) (e:Nat):Prop:=(∃w∈rs,isW w=true∧w.b < e∧∀k,w.e=some k→r.b < k)∨LastI rs r.b (intV r.a)
def AllR (P:List Rc→Rc→Nat→Prop) (rs:List Rc):Prop:=∀r∈rs,∀e,r.v=.str "read"→r.e=some e→P rs r e
end
section
variable {P:Program} {w:World} {mg:Str→Option Value} {base:Heap}
def endO:Option Int→V
 | none=>.non
 | some i=>.int i
theorem endV_O (o:Option Nat):endV o=endO (o.map fun n=>(n:Int)):=by cases o<;>rfl
def EntV (K:PySem.W.Frag) (H:Hp) (t:Ent) (v:V):Prop:=∃p,v=.ref p∧SqT K H p [.int t.b,endO t.e]
def EntAt (K:PySem.W.Frag) (H:Hp) (t:Ent) (kv:Key×V):Prop:=kv.1=.inl t.x∧EntV K H t kv.2
theorem EntV.tups {K:PySem.W.Frag} {H H':Hp} {t:Ent} {v:V} (f :∀c xs,SqT K H c xs→SqT K H' c xs) (h:EntV K H t v):EntV K H' t v:=h.elim fun p z=>⟨p,z.1,f _ _ z.2⟩
theorem EntAt.tups {K:PySem.W.Frag} {H H':Hp} {t:Ent} {kv:Key×V} (f :∀c xs,SqT K H c xs→SqT K H' c xs) (h:EntAt K H t kv):EntAt K H' t kv:=⟨h.1,h.2.tups f⟩
theorem ent_keys {K:PySem.W.Frag} {H:Hp} :∀{ts:List Ent} {kvs:List (Key×V)},All2 (EntAt K H) ts kvs→kvs.map (·.1)=ts.map fun t=>Sum.inl t.x
 | _,_,.nil=>rfl
 | _,_,.cons a r=>by rw [List.map_cons,List.map_cons,ent_keys r,a.1]
theorem ents_len (rs:List Rc):(ents rs).length≤rs.length + 1:=by
 unfold ents
 rw [List.length_cons,List.length_map]
 exact Nat.succ_le_succ (List.length_filter_le _ _)
theorem fresh_x {rs:List Rc} {i:Nat} {r:Rc} (nd:((rs.filter isW).map (fun r=>intV r.x)).Nodup) (n0:(0:Int)∉(rs.filter isW).map (fun r=>intV r.x)) (h:rs[i]? = some r) (hw:isW r=true):(Sum.inl (intV r.x):Key)∉(ents (rs.take i)).map fun t=>(Sum.inl t.x:Key):=fun z=>by
 obtain ⟨t,ht,e⟩:=List.mem_map.mp z
 have e:=Sum.inl.inj e
 rcases ents_mem.mp ht with rfl|⟨w,hm,hi,rfl⟩
 ·exact n0 (List.mem_map.mpr ⟨r,List.mem_filter.mpr ⟨List.mem_of_getElem? h,hw⟩,e.symm⟩)
 ·have sp:rs=rs.take i++r :: rs.drop (i + 1):=by
   obtain ⟨hi',ee⟩:=List.getElem?_eq_some_iff.mp h
   rw [←ee,←List.drop_eq_getElem_cons hi',List.take_append_drop]
  rw [sp,List.filter_append,List.map_append,List.nodup_append] at nd
  exact nd.2.2 _ (List.mem_map.mpr ⟨w,List.mem_filter.mpr ⟨hm,hi⟩,rfl⟩) _ (List.mem_map.mpr ⟨r,List.mem_filter.mpr ⟨.head _,hw⟩,rfl⟩) e
theorem sq_first {H:Hp}:SqT (KX w.params) H 162 [.int (-2),.int (-1)]:=
 .inr ⟨⟨(.type "tuple"),none,(.seq #[(.int (-2) 394),(.int (-1) 396)] 0),#[]⟩,#[(.int (-2) 394),(.int (-1) 396)],0,by kernel_rfl,rfl,rfl,(show (2:Nat)≤sizeLine by decide),.cons ⟨_,rfl⟩ (.cons ⟨_,rfl⟩ .nil)⟩
def sp_writers (K:PySem.W.Frag):Sp:=fun vs H Q _=>∃l zs rs wr,vs=[.ref l]∧ToldAt K H l wr rs zs∧((rs.filter isW).map (fun r=>intV r.x)).Nodup∧(0:Int)∉(rs.filter isW).map (fun r=>intV r.x)∧∀d kvs H',Same H H'→H' d=some (.dK kvs)→All2 (EntAt K H') (ents rs) kvs→Q (.ref d) H'
theorem ok_writers (T:TX (KX w.params) mg):FnOk P w (KX w.params) mg base CX0 1 186 fd_writers ["told"] (sp_writers (KX w.params)):=by
 refine (F_writers w.params).ok sc_writers (fun vs H Q E h=>?_) (fun cdv A outer s H vs Q E hr h=>?_)
 ·obtain ⟨l,zs,rs,wr,rfl,_⟩:=h
  rfl
 ·obtain ⟨l,zs,rs,wr,rfl,ta,nd,n0,q⟩:=h
  refine ⟨_,(pss_cons (ps_set (i:=1) sc_writers.nd rfl (by first|exact Or.inl rfl|exact Or.inr rfl) (pe_disp (pps_cons pe_int (pe_glob (v:=.ref 162) rfl (T.of (g_FIRST_WRITE _)) rfl) pps_nil) rfl rfl (by simp) (by decide)))
   (pss_cons (ps_for PassesOwn.never rfl (pi_list (pv 0)) (pg_name (i:=2) sc_writers.nd rfl (by first|exact Or.inl rfl|exact Or.inr rfl))
   (pss_one (ps_if (pt_cmpR opEq (pe_ix ix_seq (pv 2) pe_int (fun _ _=>rfl)) pe_str (nomark _))
   (pss_one (ps_dput (hu_of hr) (pv 1) (pe_ix ix_seq (pv 2) pe_int (fun _ _=>rfl)) (pe_slice slSeq (pv 2) (po_some pe_int) po_none) rfl))
   pss_nil)))
   (pss_one (ps_ret (pv 1))))),?_⟩
  have lz:zs.length=rs.length:=forall2_len ta.a
  have l63:=ta.n
  intro d hd
  refine ⟨upd_same,[(.inl 0,.ref 162)],rfl,(show (1:Nat)≤15 by decide),?_⟩
  have s1:Same H (upd (upd H d (.dK [])) d (.dK (mergeK [] [(.inl 0,.ref 162)]))):=Same.keep (Same.upd hd) hd
  have e1:upd (upd H d (.dK [])) d (.dK (mergeK [] [(.inl 0,.ref 162)])) d=some (.dK [(.inl 0,.ref 162)]):=upd_same
  generalize upd (upd H d (.dK [])) d (.dK (mergeK [] [(.inl 0,.ref 162)]))=H1 at s1 e1⊢
  refine ⟨_,rfl,l,rfl,⟨_,SqL.of (s1 _ _ ta.l)⟩,?_⟩
  refine for_list (K:=KX w.params) (a:=l) (xs:=zs) (fun i σ H'=>Same H H'∧(∃kvs,H' d=some (.dK kvs)∧All2 (EntAt (KX w.params) H') (ents (rs.take i)) kvs)∧∃x2,σ=[some (.ref l),some (.ref d),x2])
   ⟨s1,⟨_,e1,.cons ⟨rfl,162,rfl,sq_first⟩ .nil⟩,_,rfl⟩ (fun _ σ H' _ h=>SqL.of (h.1 _ _ ta.l)) ?_ ?_
  ·rintro i y σ H2 hy ⟨s2,⟨kvs,ed,wk⟩,x2,rfl⟩
   obtain ⟨r,hri,p,rfl,sp⟩:=all2_get ta.a hy
   have hi:i < 63:=by have:=(List.getElem?_eq_some_iff.mp hri).1;omega
   have lk:kvs.length≤64:=by
    rw [forall2_len wk]
    refine Nat.le_trans (ents_len _) ?_
    rw [List.length_take]
    omega
   have sp2:=s2.seqT sp
   refine g_name ?_
   rcases ta.g r (List.mem_of_getElem? hri) with g|g
   ·refine ⟨_,rfl,.inr (.inl ⟨p,_,2,.str "read",rfl,rfl,sp2,by rw [g.1];exact atI_nat (j:=2) rfl,rfl,_,rfl,iteN (by decide +kernel) ?_⟩)⟩
    refine ⟨s2,⟨kvs,ed,?_⟩,_,rfl⟩
    rw [take_snoc hri,ents_snoc,if_neg (by rw [g.w];decide),List.append_nil]
    exact wk
   ·refine ⟨_,rfl,.inr (.inl ⟨p,_,2,.str "write",rfl,rfl,sp2,by rw [g.1];exact atI_nat (j:=2) rfl,rfl,_,rfl,iteP (by decide +kernel) ?_⟩)⟩
    refine ⟨_,rfl,5,rfl,.inr (.inl ⟨p,_,rfl,sp2,fun z=>absurd z.1 (show ¬ HT.sIx 7 0 (some 5)=0 by decide),fun p1 hp1=>?_⟩)⟩
    have c1:cutV [.int r.h,r.n,r.v,r.x,r.a,.int r.b,endV r.e] (some 5) none=[.int r.b,endV r.e]:=rfl
    rw [c1]
    have s3:=Same.upd (o:=.tup [.int r.b,endV r.e]) hp1
    have e3:upd H2 p1 (.tup [.int r.b,endV r.e]) p1=some (.tup [.int r.b,endV r.e]):=upd_same
    generalize upd H2 p1 (.tup [.int r.b,endV r.e])=H3 at s3 e3⊢
    have ed3:=s3 _ _ ed
    refine ⟨_,rfl,_,rfl,.inr (.inl ⟨p,_,3,.int (intV r.x),rfl,rfl,s3.seqT sp2,by rw [←g.2.2.1];exact atI_nat (j:=3) rfl,d,_,rfl,DPut.k (k:=.inl (intV r.x)) ed3 (Nat.lt_of_le_of_lt (m:=100) (by omega) (by decide)),?_⟩)⟩
    have t4:Tups (KX w.params) H3 (upd H3 d (.dK (putK kvs (.inl (intV r.x)) (.ref p1)))):=Tups.dict ed3
    have fx:=fresh_x nd n0 hri g.w
    rw [←ent_keys wk] at fx
    refine ⟨Same.keep (s2.trans s3) hd,⟨_,upd_same,?_⟩,_,rfl⟩
    rw [take_snoc hri,ents_snoc,if_pos g.w,putK_fresh fx]
    rw [putK_fresh fx] at t4
    refine all2_snoc (forall2_mono (fun _ _ z=>EntAt.tups (fun c xs y=>t4 _ _ (s3.seqT y)) z) wk) ⟨rfl,p1,rfl,?_⟩
    have:=t4 _ _ (SqT.of e3)
    rw [endV_O] at this
    exact this
  ·rintro σ H2 ⟨s2,⟨kvs,ed,wk⟩,x2,rfl⟩
   rw [lz,List.take_length] at wk
   exact ⟨_,rfl,q d kvs H2 s2 ed wk⟩
def NumAt (H:Hp) (zs:List V) (i:Nat) (y:V):Prop:=∃p z,y=.ref p∧H p=some (.tup [.int (i:Nat),z])∧zs[i]? = some z
theorem NumAt.same {H H':Hp} {zs:List V} {i:Nat} {y:V} (s:Same H H') (h:NumAt H zs i y):NumAt H' zs i y:=by
 obtain ⟨p,z,h1,h2,h3⟩:=h
 exact ⟨p,z,h1,s _ _ h2,h3⟩
def isRE (r:Rc):Bool:=decide (r.v=.str "read") && r.e.isSome
def sp_ended_reads (K:PySem.W.Frag):Sp:=fun vs H Q _=>∃l zs rs wr,vs=[.ref l]∧ToldAt K H l wr rs zs∧∀a ws H',Same H H'→H' a=some (.lst ws)→All2 (NumAt H' zs) ((List.range rs.length).filter fun i=>isRE (rs[i]?.getD r00)) ws→Q (.ref a) H'
theorem ok_ended_reads (T:TX (KX w.params) mg):FnOk P w (KX w.params) mg base CX0 1 191 fd_ended_reads ["told"] (sp_ended_reads (KX w.params)):=by
 refine (F_ended_reads w.params).ok sc_ended_reads (fun vs H Q E h=>?_) (fun cdv A outer s H vs Q E hr h=>?_)
 ·obtain ⟨l,zs,rs,wr,rfl,_⟩:=h
  rfl
 ·obtain ⟨l,zs,rs,wr,rfl,ta,q⟩:=h
  refine ⟨_,(pss_one (ps_ret (pe_compG (xs:=["number","deed"]) (g:=gTup (KX w.params) 2 (gCons (gName 0) (gCons (gName 1) gNil))) (fr:=[]) rfl (pi_enumL rfl (T.no (n_enumerate _)) (pa_cons (pv 0) pa_nil)) (fun _ z=>absurd z List.not_mem_nil) (free_none rfl) (fun _ z=>absurd z List.not_mem_nil) (by decide +kernel) rfl (by decide +kernel) (fun _ _ _ _ _=>(pg_tup rfl (pgs_cons (pg_cname (N:=["number","deed"]) 0 (by decide +kernel) rfl rfl) (pgs_cons (pg_cname (N:=["number","deed"]) 1 (by decide +kernel) rfl rfl) pgs_nil)))) (fun _ _ _ _ _=>(pf_one (PW.pt (pw_and (pt_cmpR opEq (pe_ix (ix_seqK (K:=KX w.params) rfl) (pv 1) pe_int (fun _ _=>rfl)) pe_str (nomark _)) (pw_and1 (pt_cmpR op_notN (pe_ix (ix_seqK (K:=KX w.params) rfl) (pv 1) pe_int (fun _ _=>rfl)) pe_non (nomark _))))))) (fun _ _ _ _ _=>(pe_tup (pa_cons (pv 0) (pa_cons (pv 1) pa_nil))))))),?_⟩
  have lz:zs.length=rs.length:=forall2_len ta.a
  have l63:=ta.n
  refine sq_ret ?_
  refine tcompE_L1 (K:=KX w.params) (a:=l) (xs:=zs) (H1:=H) (fun i=>isRE (rs[i]?.getD r00)) (fun i y H'=>NumAt H' zs i y) (fun _ _ _ _ s z=>z.same s) (fun R h=>⟨_,rfl,h⟩) (SqL.of ta.l) (Nat.le_trans (m:=63) (by omega) (by decide)) ?_ ?_
  ·intro i hi v H1 s1 hx KT KF h1 h2
   obtain ⟨x,p0,hv,rfl,e0⟩:=hx
   obtain ⟨r,hri,p,rfl,sp⟩:=all2_get ta.a hv
   have sp1:=s1.seqT sp
   rw [getD_some hri] at h1 h2
   refine ⟨p0,_,rfl,SqT.of e0,rfl,_,_,rfl,_,_,rfl,rfl,[some (.int (i:Nat)),some (.ref p)],rfl,rfl,?_⟩
   rcases ta.g r (List.mem_of_getElem? hri) with g|g
   ·refine ⟨_,rfl,.inr (.inl ⟨p,_,2,.str "read",rfl,rfl,sp1,by rw [g.1];exact atI_nat (j:=2) rfl,rfl,_,rfl,iteP (by decide +kernel) ?_⟩)⟩
    cases he:r.e with
    | none=>exact ⟨_,rfl,.inr (.inl ⟨p,_,6,.non,rfl,rfl,sp1,by rw [he];exact atI_nat (j:=6) rfl,rfl,_,rfl,iteN (by decide) (h2 (by unfold isRE;rw [he];exact Bool.and_false _) _ (Same.refl _))⟩)⟩
    | some e=>
     refine ⟨_,rfl,.inr (.inl ⟨p,_,6,.int e,rfl,rfl,sp1,by rw [he];exact atI_nat (j:=6) rfl,rfl,_,rfl,iteP (by simp) ?_⟩)⟩
     refine ⟨_,rfl,_,rfl,(show (2:Nat)≤sizeLine by decide),fun p2 hp2=>h1 (by unfold isRE;rw [he,decide_eq_true g.1];rfl) _ _ (Same.upd hp2) ⟨p2,_,rfl,upd_same,hv⟩⟩
   ·refine ⟨_,rfl,.inr (.inl ⟨p,_,2,.str "write",rfl,rfl,sp1,by rw [g.1];exact atI_nat (j:=2) rfl,rfl,_,rfl,iteN (by decide +kernel) ?_⟩)⟩
    refine iteN (by decide) (h2 ?_ _ (Same.refl _))
    unfold isRE
    rw [decide_eq_false (fun e=>rd_ne_wr (e.symm.trans g.1))]
    rfl
  intro l1 H1 ws s1 hl1 al1
  rw [lz] at al1
  have s2:=Same.upd (o:=.lst ws) hl1
  exact q l1 ws _ (s1.trans s2) upd_same (forall2_mono (fun _ _ z=>z.same s2) al1)
def sp_lone_writer_deeds (K:PySem.W.Frag):Sp:=fun vs H Q _=>∃t nm wr es ys,vs=[.ref t]∧TalR K H t nm wr es ys∧∀l zs H',Same H H'→ToldAt K H' l wr (dAll 0 [] es) zs→Q (.ref l) H'
theorem ok_lone_writer_deeds (T:TX (KX w.params) mg) (c_plain_deeds:Cal P w (KX w.params) mg base "plain_deeds" ["tale"] 4 (sp_plain_deeds (KX w.params))):FnOk P w (KX w.params) mg base CX0 5 196 fd_lone_writer_deeds ["tale"] (sp_lone_writer_deeds (KX w.params)):=by
 refine (F_lone_writer_deeds w.params).ok sc_lone_writer_deeds (fun vs H Q E h=>?_) (fun cdv A outer s H vs Q E hr h=>?_)
 ·obtain ⟨t,nm,wr,es,ys,rfl,_⟩:=h
  rfl
 ·obtain ⟨t,nm,wr,es,ys,rfl,ta,q⟩:=h
  refine ⟨_,(pss_cons (ps_set (i:=1) sc_lone_writer_deeds.nd rfl (by first|exact Or.inl rfl|exact Or.inr rfl) (pe_cal c_plain_deeds (hr.mono (by first|decide|omega)) rfl (pa_cons (pv 0) pa_nil)))
   (pss_cons (ps_if (pt_cmpR op_gt (pe_lenSet rfl rfl (T.no (n_len _)) rfl (T.no (n_set _)) boot_len boot_set (pe_compG (xs:=["deed"]) (g:=gName 0) (fr:=[]) rfl (pi_list (pv 1)) (fun _ z=>absurd z List.not_mem_nil) (free_none rfl) (fun _ z=>absurd z List.not_mem_nil) (by decide +kernel) rfl (by decide +kernel) (fun _ _ _ _ _=>(pg_cname (N:=["deed"]) 0 (by decide +kernel) rfl rfl)) (fun _ _ _ _ _=>(pf_one (pt_cmpR opEq (pe_ix (ix_seqK (K:=KX w.params) rfl) (pv 0) pe_int (fun _ _=>rfl)) pe_str (nomark _)))) (fun _ _ _ _ _=>(pe_ix (ix_seqK (K:=KX w.params) rfl) (pv 0) pe_int (fun _ _=>rfl))))) pe_int (nomark _))
   (pss_one ps_never)
   pss_nil)
   (pss_one (ps_ret (pv 1))))),?_⟩
  refine seq_asg ?_
  refine ⟨_,rfl,t,nm,wr,es,ys,rfl,ta,fun l zs H1 s1 tl=>?_⟩
  refine g_name ?_
  generalize dAll 0 [] es=rs at tl q
  have lz:zs.length=rs.length:=forall2_len tl.a
  have l63:=tl.n
  refine sq_if (t_test (t_lset ?_))
  refine tcompF_L (K:=KX w.params) (a:=l) (xs:=zs) (H1:=H1) (fun i=>isW (rs[i]?.getD r00)) (fun i y _=>y=.int ((rs[i]?.getD r00).h)) (fun _ _ _ _ _ z=>z) (fun R h=>⟨_,rfl,h⟩) (SqL.of tl.l) (Nat.le_trans (m:=63) (by omega) (by decide)) ?_ ?_
  ·intro i hi v H2 s2 hv KT KF h1 h2
   obtain ⟨r,hri,p,rfl,sp⟩:=all2_get tl.a hv
   have sp1:=s2.seqT sp
   rw [getD_some hri] at h1 h2
   refine ⟨[some (.ref p)],rfl,rfl,?_⟩
   rcases tl.g r (List.mem_of_getElem? hri) with g|g
   ·refine ⟨_,rfl,.inr (.inl ⟨p,_,2,.str "read",rfl,rfl,sp1,by rw [g.1];exact atI_nat (j:=2) rfl,rfl,_,rfl,iteN (by decide +kernel) (h2 g.w _ (Same.refl _))⟩)⟩
   ·refine ⟨_,rfl,.inr (.inl ⟨p,_,2,.str "write",rfl,rfl,sp1,by rw [g.1];exact atI_nat (j:=2) rfl,rfl,_,rfl,iteP (by decide +kernel) ?_⟩)⟩
    exact ⟨_,rfl,.inr (.inl ⟨p,_,0,.int r.h,rfl,rfl,sp1,atI_nat (j:=0) rfl,h1 g.w _ _ (Same.refl _) rfl⟩)⟩
  intro l2 H2 hs s2 hl2 al2
  have ey:=writes_of (f:=fun r=>V.int r.h) lz al2
  have ey2:hs=((rs.filter isW).map (fun r=>r.h)).map V.int:=by rw [ey,List.map_map];rfl
  subst ey2
  have al :∀u∈(rs.filter isW).map (fun r=>r.h),u=wr:=fun u hu=>by
   obtain ⟨r,hr1,rfl⟩:=List.mem_map.mp hu
   obtain ⟨hm,hw⟩:=List.mem_filter.mp hr1
   rcases tl.g r hm with g|g
   ·rw [g.w] at hw;cases hw
   ·exact g.2.1
  have lh:((rs.filter isW).map (fun r=>r.h)).length≤63:=by rw [List.length_map];exact Nat.le_trans (List.length_filter_le _ _) l63
  have le1:=addI_alike _ [] al (.inl rfl)
  have s3:=Same.upd (o:=.lst (((rs.filter isW).map (fun r=>r.h)).map V.int)) hl2
  refine ⟨l2,_,rfl,SqL.of upd_same,by omega,_,_,rfl,rfl,_,rfl,iteN (fun e=>absurd (of_decide_eq_true e) (by omega)) ?_⟩
  exact ⟨_,rfl,q l zs _ (s1.trans (s2.trans s3)) (tl.same (s2.trans s3))⟩
end
section
variable {P:Program} {w:World} {mg:Str→Option Value} {base:Heap}
def t00:Ent:=⟨0,0,none⟩
theorem getD_ent {ts:List Ent} {i:Nat} {t:Ent} (h:ts[i]? = some t):ts[i]?.getD t00=t:=by rw [h];rfl
theorem ent_at {K:PySem.W.Frag} {H:Hp} {ts:List Ent} {kvs:List (Key×V)} {i:Nat} {k:Key} {v:V} (al:All2 (EntAt K H) ts kvs) (h:kvs[i]? = some (k,v)) :∃t,ts[i]? = some t∧EntV K H t v:=by
 obtain ⟨t,ht,z⟩:=all2_get al h
 exact ⟨t,ht,z.2⟩
theorem fil_all2 {P:Ent→V→Prop} {ts:List Ent} {q:Ent→Bool} {n:Nat} {us:List V} (hn:n=ts.length) (h:All2 (fun (i:Nat) y=>P (ts[i]?.getD t00) y) ((List.range n).filter fun i=>q (ts[i]?.getD t00)) us):All2 P (ts.filter q) us:=by
 subst hn
 have go :∀(ks:List Nat) (us:List V),All2 (fun (k:Nat) y=>P (ts[k]?.getD t00) y) ks us→All2 P (ks.map fun k=>ts[k]?.getD t00) us:=by
  intro ks
  induction ks with
  | nil=>intro us h;cases h;exact .nil
  | cons k ks ih=>intro us h;cases h with|cons a r=>exact .cons a (ih _ r)
 have z:=go _ _ h
 have e:=filter_range_map q (fun i=>i) t00 ts
 rw [e,List.map_id'] at z
 exact z
structure WrAt (K:PySem.W.Frag) (H:Hp) (d:Addr) (kvs:List (Key×V)) (ts:List Ent):Prop where
 d:H d=some (.dK kvs)
 a:All2 (EntAt K H) ts kvs
 n:ts.length≤64
theorem WrAt.same {K:PySem.W.Frag} {H H':Hp} {d:Addr} {kvs:List (Key×V)} {ts:List Ent} (s:Same H H') (h:WrAt K H d kvs ts):WrAt K H' d kvs ts:=⟨s _ _ h.d,forall2_mono (fun _ _ z=>EntAt.tups (fun _ _ y=>s.seqT y) z) h.a,h.n⟩
def sp_writes_beside (K:PySem.W.Frag):Sp:=fun vs H Q _=>∃d kvs ts y r re,vs=[.ref d,y]∧WrAt K H d kvs ts∧RcAt K H r y∧r.e=some re∧∀l ps H',Same H H'→H' l=some (.lst ps)→All2 (EntV K H') (ts.filter (besB r.b re)) ps→Q (.ref l) H'
theorem ok_writes_beside (T:TX (KX w.params) mg):FnOk P w (KX w.params) mg base CX0 1 215 fd_writes_beside ["written","read"] (sp_writes_beside (KX w.params)):=by
 refine (F_writes_beside w.params).ok sc_writes_beside (fun vs H Q E h=>?_) (fun cdv A outer s H vs Q E hr h=>?_)
 ·obtain ⟨d,kvs,ts,y,r,re,rfl,_⟩:=h
  rfl
 ·obtain ⟨d,kvs,ts,y,r,re,rfl,wa,⟨pr,rfl,sr⟩,he,q⟩:=h
  refine ⟨_,(pss_cons (ps_thaw (ps_setG (i:=2) sc_writes_beside.nd rfl (by first|exact Or.inl rfl|exact Or.inr rfl) (xs:=["write"]) (g:=gName 0) (fr:=[(1,"read")]) rfl (pi_vals (pv 0)) (by intro p hp;obtain rfl:=List.mem_singleton.mp hp;first|exact ⟨rfl,.inl rfl⟩|exact ⟨rfl,.inr rfl⟩) (free_one (n:="read") (by decide +kernel) (fun _=>by first|exact .inl rfl|exact .inr rfl)) (by intro p hp;obtain rfl:=List.mem_singleton.mp hp;exact ⟨by decide +kernel,by first|exact .inl rfl|exact .inr rfl⟩) (by decide +kernel) rfl (by decide +kernel) (fun _ _ _ _ _=>(pg_cname (N:=["write","read"]) 0 (by decide +kernel) rfl rfl)) (fun _ _ _ _ _=>(pf_one (pt_cmpR op_lt (pe_ix (ix_seqK (K:=KX w.params) rfl) (pv 0) pe_int (fun _ _=>rfl)) (pe_ix (ix_seqK (K:=KX w.params) rfl) (pv 1) pe_int (fun _ _=>rfl)) (nomark _)))) (fun _ _ _ _ _=>(pv 0))))
   (pss_one (ps_ret (pe_compG (xs:=["write"]) (g:=gName 0) (fr:=[(1,"read")]) rfl (pi_list (pv 2)) (by intro p hp;obtain rfl:=List.mem_singleton.mp hp;first|exact ⟨rfl,.inl rfl⟩|exact ⟨rfl,.inr rfl⟩) (free_one (n:="read") (by decide +kernel) (fun _=>by first|exact .inl rfl|exact .inr rfl)) (by intro p hp;obtain rfl:=List.mem_singleton.mp hp;exact ⟨by decide +kernel,by first|exact .inl rfl|exact .inr rfl⟩) (by decide +kernel) rfl (by decide +kernel) (fun _ _ _ _ _=>(pg_cname (N:=["write","read"]) 0 (by decide +kernel) rfl rfl)) (fun _ _ _ _ _=>(pf_one (PW.pt (pw_or (pt_cmpR op_isN (pe_ix (ix_seqK (K:=KX w.params) rfl) (pv 0) pe_int (fun _ _=>rfl)) pe_non (nomark _)) (pw_or1 (pt_cmpR op_lt (pe_ix (ix_seqK (K:=KX w.params) rfl) (pv 1) pe_int (fun _ _=>rfl)) (pe_ix (ix_seqK (K:=KX w.params) rfl) (pv 0) pe_int (fun _ _=>rfl)) (nomark _))))))) (fun _ _ _ _ _=>(pv 0)))))),?_⟩
  have lk:kvs.length=ts.length:=forall2_len wa.a
  have l64:=wa.n
  refine seq_thaw ?_
  refine tcompV (K:=KX w.params) (a:=d) (kvs:=kvs) (fun i=>decide ((ts[i]?.getD t00).b < (re:Int))) (fun i y=>EntV (KX w.params) H (ts[i]?.getD t00) y) (fun R h=>⟨_,rfl,h⟩) wa.d (Nat.le_trans (m:=64) (by omega) (by decide)) ?_ ?_
  ·intro i k v hk H1 kt KT KF h1 h2
   obtain ⟨t,ht,p,rfl,sp⟩:=ent_at wa.a hk
   rw [getD_ent ht] at h1 h2
   refine ⟨[some (.ref p)],rfl,rfl,?_⟩
   refine ⟨_,rfl,.inr (.inl ⟨p,_,0,.int t.b,rfl,rfl,kt _ _ sp,atI_nat (j:=0) rfl,?_⟩)⟩
   refine ⟨_,rfl,.inr (.inl ⟨pr,_,6,.int (re:Nat),rfl,rfl,kt _ _ sr,by rw [he];exact atI_nat (j:=6) rfl,_,_,rfl,rfl,_,rfl,?_⟩)⟩
   by_cases z:t.b < (re:Int)
   ·exact iteP (decide_eq_true z) ⟨_,rfl,h1 (decide_eq_true z) _ _ (Same.refl _) ⟨p,rfl,sp⟩⟩
   ·exact iteN (fun e=>z (of_decide_eq_true e)) (h2 (decide_eq_false z) _ (Same.refl _))
  intro l1 H1 ys s1 hl1 el1 al1
  have al1:=fil_all2 (P:=fun t y=>EntV (KX w.params) H t y) (q:=fun t=>decide (t.b < (re:Int))) lk al1
  have al2:=forall2_mono (fun _ _ z=>EntV.tups (fun _ _ y=>s1.seqT y) z) al1
  have e2:ts.filter (besB r.b re)=(ts.filter fun t=>decide (t.b < (re:Int))).filter fun t=>(match t.e with|none=>true|some e=>decide ((r.b:Int) < e)):=by
   rw [List.filter_filter]
   rfl
  rw [e2] at q
  generalize hts:(ts.filter fun t=>decide (t.b < (re:Int)))=ts1 at al2 q
  have ly:ys.length=ts1.length:=forall2_len al2
  have l1n:ts1.length≤64:=by rw [←hts];exact Nat.le_trans (List.length_filter_le _ _) l64
  refine sq_ret ?_
  refine tcompF_L (K:=KX w.params) (a:=l1) (xs:=ys) (H1:=H1) (fun i=>(match (ts1[i]?.getD t00).e with|none=>true|some e=>decide ((r.b:Int) < e))) (fun i y H'=>EntV (KX w.params) H' (ts1[i]?.getD t00) y) (fun _ _ _ _ s z=>z.tups fun _ _ y=>s.seqT y) (fun R h=>⟨_,rfl,h⟩) (SqL.of el1) (Nat.le_trans (m:=64) (by omega) (by decide)) ?_ ?_
  ·intro i hi v H2 s2 hv KT KF h1 h2
   obtain ⟨t,ht,p,rfl,sp⟩:=all2_get al2 hv
   rw [getD_ent ht] at h1 h2
   have sp2:=s2.seqT sp
   refine ⟨[some (.ref p)],rfl,rfl,?_⟩
   cases te:t.e with
   | none=>
    rw [te] at h1
    exact ⟨_,rfl,.inr (.inl ⟨p,_,1,.non,rfl,rfl,sp2,by rw [te];exact atI_nat (j:=1) rfl,rfl,_,rfl,iteP (by decide) (iteP rfl ⟨_,rfl,h1 rfl _ _ (Same.refl _) ⟨p,rfl,sp2⟩⟩)⟩)⟩
   | some e=>
    rw [te] at h1 h2
    refine ⟨_,rfl,.inr (.inl ⟨p,_,1,.int e,rfl,rfl,sp2,by rw [te];exact atI_nat (j:=1) rfl,rfl,_,rfl,iteN (by simp) ?_⟩)⟩
    refine ⟨_,rfl,.inr (.inl ⟨pr,_,5,.int (r.b:Nat),rfl,rfl,(s1.trans s2).seqT sr,atI_nat (j:=5) rfl,?_⟩)⟩
    refine ⟨_,rfl,.inr (.inl ⟨p,_,1,.int e,rfl,rfl,sp2,by rw [te];exact atI_nat (j:=1) rfl,_,_,rfl,rfl,_,rfl,?_⟩)⟩
    by_cases z:(r.b:Int) < e
    ·exact iteP (decide_eq_true z) ⟨_,rfl,h1 (decide_eq_true z) _ _ (Same.refl _) ⟨p,rfl,sp2⟩⟩
    ·exact iteN (fun e=>z (of_decide_eq_true e)) (h2 (decide_eq_false z) _ (Same.refl _))
  intro l2 H2 ps s2 hl2 al3
  have s3:=Same.upd (o:=.lst ps) hl2
  refine q l2 ps _ (s1.trans (s2.trans s3)) upd_same ?_
  exact forall2_mono (fun _ _ z=>EntV.tups (fun _ _ y=>s3.seqT y) z) (fil_all2 (P:=fun t y=>EntV (KX w.params) H2 t y) (q:=fun t=>(match t.e with|none=>true|some e=>decide ((r.b:Int) < e))) ly al3)
theorem ent_pairs {K:PySem.W.Frag} {H:Hp} :∀{us:List Ent} {ys:List V},All2 (EntV K H) us ys→(∀t∈us,t.e≠none)→∃L:List (Addr×(Int×Int)),ys=L.map (fun x=>V.ref x.1)∧(∀x∈L,SqT K H x.1 [.int x.2.1,.int x.2.2]∧∃t∈us,t.b=x.2.1∧t.e=some x.2.2)∧∀t∈us,∃x∈L,x.2.1=t.b
 | _,_,.nil,_=>⟨[],rfl,fun _ h=>absurd h List.not_mem_nil,fun _ h=>absurd h List.not_mem_nil⟩
 | t :: us,_,.cons a r,h=>by
  obtain ⟨L,h1,h2,h3⟩:=ent_pairs r fun t ht=>h t (.tail _ ht)
  obtain ⟨p,rfl,sp⟩:=a
  cases te:t.e with
  | none=>exact absurd te (h t (.head _))
  | some e=>
   rw [te] at sp
   refine ⟨(p,(t.b,e)) :: L,by rw [h1];rfl,fun x hx=>?_,fun t' ht'=>?_⟩
   ·rcases List.mem_cons.mp hx with rfl|hx
    ·exact ⟨sp,t,.head _,rfl,te⟩
    ·obtain ⟨a,t',ht',b⟩:=h2 x hx
     exact ⟨a,t',.tail _ ht',b⟩
   ·rcases List.mem_cons.mp ht' with rfl|ht'
    ·exact ⟨_,.head _,rfl⟩
    ·obtain ⟨x,hx,e⟩:=h3 t' ht'
     exact ⟨x,.tail _ hx,e⟩
def sp_last_ahead (K:PySem.W.Frag):Sp:=fun vs H Q _=>∃d kvs ts y r,vs=[.ref d,y]∧WrAt K H d kvs ts∧RcAt K H r y∧(∃t∈ts,ahdB r.b t=true)∧∀p t H',Same H H'→SqT K H' p [.int t.b,endO t.e]→t∈ts→ahdB r.b t=true→(∀t'∈ts,ahdB r.b t'=true→t'.b≤t.b)→Q (.ref p) H'
theorem ok_last_ahead (T:TX (KX w.params) mg):FnOk P w (KX w.params) mg base CX0 1 220 fd_last_ahead ["written","read"] (sp_last_ahead (KX w.params)):=by
 refine (F_last_ahead w.params).ok sc_last_ahead (fun vs H Q E h=>?_) (fun cdv A outer s H vs Q E hr h=>?_)
 ·obtain ⟨d,kvs,ts,y,r,rfl,_⟩:=h
  rfl
 ·obtain ⟨d,kvs,ts,y,r,rfl,wa,⟨pr,rfl,sr⟩,⟨t1,ht1,ha1⟩,q⟩:=h
  refine ⟨_,(pss_one (ps_ret (pe_callB (call_maxT rfl hr) rfl (T.no (n_max _)) boot_max (pa_cons (pe_thaw (pe_compG (xs:=["write"]) (g:=gName 0) (fr:=[(1,"read")]) rfl (pi_vals (pv 0)) (by intro p hp;obtain rfl:=List.mem_singleton.mp hp;first|exact ⟨rfl,.inl rfl⟩|exact ⟨rfl,.inr rfl⟩) (free_one (n:="read") (by decide +kernel) (fun _=>by first|exact .inl rfl|exact .inr rfl)) (by intro p hp;obtain rfl:=List.mem_singleton.mp hp;exact ⟨by decide +kernel,by first|exact .inl rfl|exact .inr rfl⟩) (by decide +kernel) rfl (by decide +kernel) (fun _ _ _ _ _=>(pg_cname (N:=["write","read"]) 0 (by decide +kernel) rfl rfl)) (fun _ _ _ _ _=>(pf_one (PW.pt (pw_and (pt_cmpR op_notN (pe_ix (ix_seqK (K:=KX w.params) rfl) (pv 0) pe_int (fun _ _=>rfl)) pe_non (nomark _)) (pw_and1 (pt_cmpR op_lt (pe_ix (ix_seqK (K:=KX w.params) rfl) (pv 0) pe_int (fun _ _=>rfl)) (pe_ix (ix_seqK (K:=KX w.params) rfl) (pv 1) pe_int (fun _ _=>rfl)) (nomark _))))))) (fun _ _ _ _ _=>(pv 0)))) pa_nil)))),?_⟩
  have lk:kvs.length=ts.length:=forall2_len wa.a
  have l64:=wa.n
  refine sq_ret (e_cb1 ?_)
  refine tcompV (K:=KX w.params) (a:=d) (kvs:=kvs) (fun i=>ahdB r.b (ts[i]?.getD t00)) (fun i y=>EntV (KX w.params) H (ts[i]?.getD t00) y) (fun R h=>⟨_,rfl,h⟩) wa.d (Nat.le_trans (m:=64) (by omega) (by decide)) ?_ ?_
  ·intro i k v hk H1 kt KT KF h1 h2
   obtain ⟨t,ht,p,rfl,sp⟩:=ent_at wa.a hk
   rw [getD_ent ht] at h1 h2
   unfold ahdB at h1 h2
   refine ⟨[some (.ref p)],rfl,rfl,?_⟩
   cases te:t.e with
   | none=>
    rw [te] at h2
    exact ⟨_,rfl,.inr (.inl ⟨p,_,1,.non,rfl,rfl,kt _ _ sp,by rw [te];exact atI_nat (j:=1) rfl,rfl,_,rfl,iteN (by decide) (iteN (by decide) (h2 rfl _ (Same.refl _)))⟩)⟩
   | some e=>
    rw [te] at h1 h2
    refine ⟨_,rfl,.inr (.inl ⟨p,_,1,.int e,rfl,rfl,kt _ _ sp,by rw [te];exact atI_nat (j:=1) rfl,rfl,_,rfl,iteP (by simp) ?_⟩)⟩
    refine ⟨_,rfl,.inr (.inl ⟨p,_,1,.int e,rfl,rfl,kt _ _ sp,by rw [te];exact atI_nat (j:=1) rfl,?_⟩)⟩
    refine ⟨_,rfl,.inr (.inl ⟨pr,_,5,.int (r.b:Nat),rfl,rfl,kt _ _ sr,atI_nat (j:=5) rfl,_,_,rfl,rfl,_,rfl,?_⟩)⟩
    by_cases z:e < (r.b:Int)
    ·exact iteP (decide_eq_true z) ⟨_,rfl,h1 (decide_eq_true z) _ _ (Same.refl _) ⟨p,rfl,sp⟩⟩
    ·exact iteN (fun e=>z (of_decide_eq_true e)) (h2 (decide_eq_false z) _ (Same.refl _))
  intro l1 H1 ys s1 hl1 el1 al1
  have al1:=fil_all2 (P:=fun t y=>EntV (KX w.params) H t y) (q:=ahdB r.b) lk al1
  have al2:=forall2_mono (fun _ _ z=>EntV.tups (fun _ _ y=>s1.seqT y) z) al1
  obtain ⟨L,h1,h2,h3⟩:=ent_pairs al2 fun t ht z=>by
   have:=(List.mem_filter.mp ht).2
   unfold ahdB at this
   rw [z] at this
   cases this
  obtain ⟨x0,hx0,_⟩:=h3 t1 (List.mem_filter.mpr ⟨ht1,ha1⟩)
  cases L with
  | nil=>exact absurd hx0 List.not_mem_nil
  | cons m L=>
   subst h1
   refine ⟨l1,m,L,rfl,SqL.of el1,fun x hx=>(h2 x hx).1,fun b hb mx=>?_⟩
   obtain ⟨sb,t,ht,e1,e2⟩:=h2 b hb
   obtain ⟨ht,ha⟩:=List.mem_filter.mp ht
   refine q b.1 t H1 s1 (by rw [e1,e2];exact sb) ht ha fun t' ht' ha'=>?_
   obtain ⟨x,hx,e⟩:=h3 t' (List.mem_filter.mpr ⟨ht',ha'⟩)
   have:=mx x hx
   rw [e1,←e]
   rcases Int.lt_or_le b.2.1 x.2.1 with z|z
   ·have:=gtI_iff.mpr (.inl z:b.2.1 < x.2.1∨(x.2.1=b.2.1∧b.2.2 < x.2.2))
    rw [mx x hx] at this
    cases this
   ·exact z
end
section
variable {P:Program} {w:World} {mg:Str→Option Value} {base:Heap}
theorem get_ent {K:PySem.W.Frag} {H:Hp} :∀{ts:List Ent} {kvs:List (Key×V)},All2 (EntAt K H) ts kvs→∀x:Int,(∃t∈ts,t.x=x∧∃p,valV kvs (.inl x)=some (.ref p)∧SqT K H p [.int t.b,endO t.e])∨((∀t∈ts,t.x≠x)∧valV kvs (.inl x)=none)
 | _,_,.nil,x=>.inr ⟨fun _ h=>absurd h List.not_mem_nil,rfl⟩
 | t :: ts,(k,v) :: kvs,.cons a r,x=>by
  obtain ⟨e,p,e2,sp⟩:=a
  have e:k=.inl t.x:=e
  have e2:v=.ref p:=e2
  subst e e2
  by_cases z:t.x=x
  ·subst z
   exact .inl ⟨t,.head _,rfl,p,valV_pos rfl,sp⟩
  ·rw [valV_neg (fun e=>z (Sum.inl.inj e))]
   rcases get_ent r x with ⟨t',h1,h2⟩|⟨h1,h2⟩
   ·exact .inl ⟨t',.tail _ h1,h2⟩
   ·refine .inr ⟨fun t' ht'=>?_,h2⟩
    rcases List.mem_cons.mp ht' with rfl|y
    ·exact z
    ·exact h1 t' y
def endD:Option Int→PyData
 | none=>.none
 | some i=>.int i
def entD (t:Ent):PyData:=.tuple [.int t.b,endD t.e]
theorem end_pd {K:PySem.W.Frag} {H:Hp} :∀o:Option Int,IsPd K H (endD o) (endO o)
 | none=>rfl
 | some _=>rfl
theorem ent_pd {K:PySem.W.Frag} {H:Hp} {t:Ent} {v:V} (h:EntV K H t v):IsPd K H (entD t) v:=h.elim fun p z=>⟨p,_,z.1,z.2,⟨_,_,rfl,rfl,_,_,rfl,end_pd _,rfl⟩⟩
theorem ent_pds {K:PySem.W.Frag} {H:Hp} :∀{us:List Ent} {ps:List V},All2 (EntV K H) us ps→IsPds K H (us.map entD) ps
 | _,_,.nil=>rfl
 | _,_,.cons a r=>⟨_,_,rfl,ent_pd a,ent_pds r⟩
theorem ent_plain (t:Ent):plainP (entD t)=true:=by
 unfold entD
 cases t.e<;>rfl
theorem ents_plain :∀us:List Ent,plainPs (us.map entD)=true
 | []=>rfl
 | t :: us=>by show (plainP (entD t) && plainPs (us.map entD))=true;rw [ent_plain,ents_plain us];rfl
theorem ent_depth (t:Ent):(entD t).depth≤60:=by
 unfold entD
 cases t.e<;>exact (show (1:Nat)≤60 by decide)
theorem entD_b {t t':Ent} (h:entD t=entD t'):t.b=t'.b:=by
 unfold entD at h
 injection h with h
 injection h with h _
 injection h with h
theorem any_ent (us:List Ent) (d:PyData) (hd:plainP d=true):((us.map entD).any fun e=>e.eqv d)=true↔∃t∈us,entD t=d:=by
 rw [List.any_eq_true]
 constructor
 ·rintro ⟨e,he,z⟩
  obtain ⟨t,ht,rfl⟩:=List.mem_map.mp he
  exact ⟨t,ht,(eqv_iff _ _ (ent_plain t) hd).mp z⟩
 ·rintro ⟨t,ht,rfl⟩
  exact ⟨_,List.mem_map.mpr ⟨t,ht,rfl⟩,(eqv_iff _ _ (ent_plain t) (ent_plain t)).mpr rfl⟩
structure Seen (K:PySem.W.Frag) (H:Hp) (l d:Addr) (wr:Int) (es:List Ev) (rs:List Rc) (zs:List V) (kvs:List (Key×V)):Prop where
 S:Sq1 wr es rs
 nd:((rs.filter isW).map (fun r=>intV r.x)).Nodup
 n0:(0:Int)∉(rs.filter isW).map (fun r=>intV r.x)
 t:ToldAt K H l wr rs zs
 w:WrAt K H d kvs (ents rs)
theorem Seen.same {K:PySem.W.Frag} {H H':Hp} {l d:Addr} {wr:Int} {es:List Ev} {rs:List Rc} {zs:List V} {kvs:List (Key×V)} (s:Same H H') (h:Seen K H l d wr es rs zs kvs):Seen K H' l d wr es rs zs kvs:=⟨h.S,h.nd,h.n0,h.t.same s,h.w.same s⟩
theorem ahead_there {rs:List Rc} {rb:Nat} :∃t∈ents rs,ahdB rb t=true:=⟨ent0,.head _,ahd0⟩
theorem re_read {K:PySem.W.Frag} {H:Hp} {l:Addr} {wr:Int} {rs:List Rc} {zs:List V} (ta:ToldAt K H l wr rs zs) {k:Nat} {ws:List V} {y:V} (al:All2 (NumAt H zs) ((List.range rs.length).filter fun i=>isRE (rs[i]?.getD r00)) ws) (hy:ws[k]? = some y) :
  ∃i p pz r e,((List.range rs.length).filter fun i=>isRE (rs[i]?.getD r00))[k]? = some i∧y=.ref p∧H p=some (.tup [.int (i:Nat),.ref pz])∧rs[i]? = some r∧SqT K H pz [.int r.h,r.n,r.v,r.x,r.a,.int r.b,endV r.e]∧r.v=.str "read"∧r.e=some e∧r.a=.int (intV r.a):=by
 obtain ⟨i,hi,p,z,rfl,ep,hz⟩:=all2_get al hy
 obtain ⟨r,hri,pz,rfl,sz⟩:=all2_get ta.a hz
 have him:=(List.mem_filter.mp (List.mem_of_getElem? hi)).2
 rw [getD_some hri] at him
 obtain ⟨rv,re⟩:=Bool.and_eq_true_iff.mp him
 have rv:=of_decide_eq_true rv
 obtain ⟨e,he⟩:=Option.isSome_iff_exists.mp re
 have g:RdG r:=(ta.g r (List.mem_of_getElem? hri)).resolve_right fun g=>rd_ne_wr (rv.symm.trans g.1)
 exact ⟨i,p,pz,r,e,hi,rfl,ep,hri,sz,rv,he,g.2.2 e he⟩
theorem re_all {rs:List Rc} {r:Rc} {e:Nat} (hr:r∈rs) (rv:r.v=.str "read") (re:r.e=some e) :∃m i:Nat,((List.range rs.length).filter fun i=>isRE (rs[i]?.getD r00))[m]? = some i∧rs[i]? = some r:=by
 obtain ⟨i,hi⟩:=List.mem_iff_getElem?.mp hr
 have:i∈(List.range rs.length).filter fun i=>isRE (rs[i]?.getD r00):=by
  refine List.mem_filter.mpr ⟨List.mem_range.mpr (List.getElem?_eq_some_iff.mp hi).1,?_⟩
  rw [getD_some hi]
  unfold isRE
  rw [re,decide_eq_true rv]
  rfl
 obtain ⟨m,hm⟩:=List.mem_iff_getElem?.mp this
 exact ⟨m,i,hm,hi⟩
def sp_is_regular (K:PySem.W.Frag):Sp:=fun vs H Q _=>∃t nm wr es ys,vs=[.ref t]∧TalR K H t nm wr es ys∧∀b H',Same H H'→(b=true↔AllR RegR (dAll 0 [] es))→Q (.bl b) H'
theorem ok_is_regular (T:TX (KX w.params) mg) (c_lone_writer_deeds:Cal P w (KX w.params) mg base "lone_writer_deeds" ["tale"] 5 (sp_lone_writer_deeds (KX w.params))) (c_writers:Cal P w (KX w.params) mg base "writers" ["told"] 1 (sp_writers (KX w.params))) (c_ended_reads:Cal P w (KX w.params) mg base "ended_reads" ["told"] 1 (sp_ended_reads (KX w.params))) (c_writes_beside:Cal P w (KX w.params) mg base "writes_beside" ["written","read"] 1 (sp_writes_beside (KX w.params))) (c_last_ahead:Cal P w (KX w.params) mg base "last_ahead" ["written","read"] 1 (sp_last_ahead (KX w.params))):FnOk P w (KX w.params) mg base CX0 6 203 fd_is_regular ["tale"] (sp_is_regular (KX w.params)):=by
 refine (F_is_regular w.params).ok sc_is_regular (fun vs H Q E h=>?_) (fun cdv A outer s H vs Q E hr h=>?_)
 ·obtain ⟨t,nm,wr,es,ys,rfl,_⟩:=h
  rfl
 ·obtain ⟨t,nm,wr,es,ys,rfl,ta,q⟩:=h
  refine ⟨_,(pss_cons (ps_set (i:=1) sc_is_regular.nd rfl (by first|exact Or.inl rfl|exact Or.inr rfl) (pe_cal c_lone_writer_deeds (hr.mono (by first|decide|omega)) rfl (pa_cons (pv 0) pa_nil)))
   (pss_cons (ps_set (i:=2) sc_is_regular.nd rfl (by first|exact Or.inl rfl|exact Or.inr rfl) (pe_cal c_writers (hr.mono (by first|decide|omega)) rfl (pa_cons (pv 1) pa_nil)))
   (pss_cons (ps_for PassesOwn.never rfl (pi_list (pe_cal c_ended_reads (hr.mono (by first|decide|omega)) rfl (pa_cons (pv 1) pa_nil))) (pg_tup rfl (pgs_cons (pg_name (i:=3) sc_is_regular.nd rfl (by first|exact Or.inl rfl|exact Or.inr rfl)) (pgs_cons (pg_name (i:=4) sc_is_regular.nd rfl (by first|exact Or.inl rfl|exact Or.inr rfl)) pgs_nil)))
   (pss_one (ps_if (pt_cmpR (op_notInP hr) (pe_dget1 (hu_of hr) (pv 2) (pe_ix ix_seq (pv 4) pe_int (fun _ _=>rfl)) ⟨rfl,rfl,rfl,rfl⟩) (pe_op opAdd (pe_cal c_writes_beside (hr.mono (by first|decide|omega)) rfl (pa_cons (pv 2) (pa_cons (pv 4) pa_nil))) (pe_lst (pa_cons (pe_cal c_last_ahead (hr.mono (by first|decide|omega)) rfl (pa_cons (pv 2) (pa_cons (pv 4) pa_nil))) pa_nil))) (by with_unfolding_all rfl))
   (pss_one (ps_ret pe_bl))
   pss_nil)))
   (pss_one (ps_ret pe_bl))))),?_⟩
  obtain ⟨os,us,tw⟩:=ta.tw
  have S:=tw.sq
  have nd:=tw.rs.u ▸ tw.us.1
  have n0:=tw.rs.u ▸ tw.us.2
  refine seq_asg ?_
  refine ⟨_,rfl,t,nm,wr,es,ys,rfl,ta,fun l zs H1 s1 tl=>?_⟩
  refine g_name ?_
  generalize dAll 0 [] es=rs at tl q S nd n0
  have l63:=tl.n
  refine seq_asg ?_
  refine ⟨_,rfl,l,zs,rs,wr,rfl,tl,nd,n0,fun d kvs H2 s2 ed al=>?_⟩
  refine g_name ?_
  have se:Seen (KX w.params) H2 l d wr es rs zs kvs:=⟨S,nd,n0,tl.same s2,ed,al,Nat.le_trans (ents_len rs) (by omega)⟩
  refine ⟨_,rfl,l,zs,rs,wr,rfl,se.t,fun a ws H3 s3 ea aw=>⟨a,rfl,⟨_,SqL.of ea⟩,?_⟩⟩
  have s03:=(s1.trans s2).trans s3
  have se3:=se.same s3
  have lw:ws.length=((List.range rs.length).filter fun i=>isRE (rs[i]?.getD r00)).length:=forall2_len aw
  refine for_list (K:=KX w.params) (a:=a) (xs:=ws) (fun k σ H'=>Same H3 H'∧(∀(m i:Nat) r e,m < k→((List.range rs.length).filter fun i=>isRE (rs[i]?.getD r00))[m]? = some i→rs[i]? = some r→r.e=some e→RegR rs r e)∧∃x3 x4,σ=[some (.ref t),some (.ref l),some (.ref d),x3,x4]) ⟨Same.refl _,fun m i r e h=>absurd h (Nat.not_lt_zero _),_,_,rfl⟩ (fun _ σ H' _ h=>SqL.of (h.1 _ _ ea)) ?_ ?_
  ·rintro k y σ H4 hy ⟨s4,al4,x3,x4,rfl⟩
   obtain ⟨i,p,pz,r,e,hi,rfl,ep,hri,sz,rv,re,ra⟩:=re_read se3.t aw hy
   have hrm:=List.mem_of_getElem? hri
   have sz4:=s4.seqT sz
   have se4:=se3.same s4
   refine ⟨p,_,rfl,SqT.of (s4 _ _ ep),rfl,_,_,rfl,_,_,rfl,rfl,?_⟩
   have fin:RegR rs r e→∀(m i:Nat) r e,m < k + 1→((List.range rs.length).filter fun i=>isRE (rs[i]?.getD r00))[m]? = some i→rs[i]? = some r→r.e=some e→RegR rs r e:=fun ok m i' r' e' hm h1 h2 h3=>by
    rcases Nat.lt_or_ge m k with z|z
    ·exact al4 m i' r' e' z h1 h2 h3
    ·have:m=k:=by omega
     subst this
     rw [hi] at h1
     cases h1
     rw [hri] at h2
     cases h2
     rw [re] at h3
     cases h3
     exact ok
   have bad:¬ RegR rs r e→∀H',Same H4 H'→Q (.bl false) H':=fun n H' s'=>q false H' (s03.trans (s4.trans s')) ⟨(fun z=>by cases z),fun z=>absurd (z r hrm e rv re) n⟩
   have dg:=DGet.k (k:=.inl (intV r.a)) se4.w.d
   refine ⟨_,rfl,d,rfl,.inl ⟨_,.inl se4.w.d⟩,_,rfl,.inr (.inl ⟨pz,_,4,.int (intV r.a),rfl,rfl,sz4,by rw [ra];exact atI_nat (j:=4) rfl,_,dg,?_⟩)⟩
   refine ⟨_,rfl,_,rfl,d,kvs,ents rs,_,r,e,rfl,se4.w,⟨pz,rfl,sz4⟩,re,fun lb ps H5 s5 elb alb=>?_⟩
   refine ⟨_,rfl,_,rfl,d,kvs,ents rs,_,r,rfl,se4.w.same s5,⟨pz,rfl,s5.seqT sz4⟩,ahead_there,fun pl tl' H6 s6 sq6 htl hal hmx=>⟨(show (1:Nat)≤sizeLine by decide),fun l7 hl7=>?_⟩⟩
   have s7:=Same.upd (o:=.lst [V.ref pl]) hl7
   have e7:upd H6 l7 (.lst [V.ref pl]) l7=some (.lst [V.ref pl]):=upd_same
   generalize upd H6 l7 (.lst [V.ref pl])=H7 at s7 e7⊢
   have s57:=s6.trans s7
   have lp:ps.length≤64:=by
    rw [forall2_len alb]
    exact Nat.le_trans (List.length_filter_le _ _) se4.w.n
   refine .inr (.inr (.inl ⟨lb,l7,ps,[V.ref pl],rfl,rfl,s57 _ _ elb,e7,Nat.le_trans (m:=65) (by show ps.length + 1≤65;omega) (by decide),fun l8 hl8=>?_⟩))
   have s8:=Same.upd (o:=.lst (ps++[V.ref pl])) hl8
   have e8:upd H7 l8 (.lst (ps++[V.ref pl])) l8=some (.lst (ps++[V.ref pl])):=upd_same
   generalize upd H7 l8 (.lst (ps++[V.ref pl]))=H8 at s8 e8⊢
   have s58:=s57.trans s8
   have s48:=s5.trans s58
   have alx:All2 (EntV (KX w.params) H8) ((ents rs).filter (besB r.b e)++[tl']) (ps++[V.ref pl]):=all2_snoc (forall2_mono (fun _ _ z=>EntV.tups (fun _ _ y=>s58.seqT y) z) alb) ⟨pl,rfl,(s7.trans s8).seqT sq6⟩
   have lpd:IsPd (KX w.params) H8 (.list (((ents rs).filter (besB r.b e)++[tl']).map entD)) (.ref l8):=⟨l8,_,rfl,SqL.of e8,ent_pds alx⟩
   rcases get_ent se4.w.a (intV r.a) with ⟨t1,ht1,hx1,p1,hv1,sp1⟩|⟨hno,hv1⟩
   ·rw [hv1]
    have iff:(((((ents rs).filter (besB r.b e)++[tl']).map entD).any fun z=>z.eqv (entD t1))=true)↔RegR rs r e:=by
     rw [any_ent _ _ (ent_plain t1)]
     have e1:=bes_iff nd n0 (rb:=r.b) (re:=e) ht1
     have e2:=S.last_iff nd n0 (rb:=r.b) ht1 htl hal hmx
     rw [hx1] at e1 e2
     unfold RegR
     rw [←e1,←e2]
     constructor
     ·rintro ⟨t',ht',ee⟩
      rcases List.mem_append.mp ht' with z|z
      ·obtain ⟨z1,z2⟩:=List.mem_filter.mp z
       have:t'=t1:=S.ents_b z1 ht1 (entD_b ee)
       exact .inl (this ▸ z2)
      ·rw [List.mem_singleton.mp z] at ee
       exact .inr (S.ents_b htl ht1 (entD_b ee)).symm
     ·rintro (z|z)
      ·exact ⟨t1,List.mem_append.mpr (.inl (List.mem_filter.mpr ⟨ht1,z⟩)),rfl⟩
      ·exact ⟨t1,List.mem_append.mpr (.inr (by rw [z];exact List.mem_singleton.mpr rfl)),rfl⟩
    refine ⟨entD t1,_,ent_pd ⟨p1,rfl,s48.seqT sp1⟩,.inl lpd,ent_plain t1,ents_plain _,ent_depth t1,_,rfl,?_⟩
    by_cases z:RegR rs r e
    ·refine iteN (by rw [if_pos rfl,iff.mpr z];decide) ⟨s4.trans s48,fin z,_,_,rfl⟩
    ·refine iteP (by rw [if_pos rfl,Bool.eq_false_iff.mpr (fun y=>z (iff.mp y))];decide) (bad z _ s48)
   ·rw [hv1]
    have nr:¬ RegR rs r e:=by
     rintro (⟨w0,hw0,hi0,hx0,_⟩|z)
     ·exact hno _ (ents_mem.mpr (.inr ⟨w0,hw0,hi0,rfl⟩)) hx0
     ·obtain ⟨t',h1,h2⟩:=last_in z
      exact hno t' h1 h2
    have an:((((ents rs).filter (besB r.b e)++[tl']).map entD).any fun z=>z.eqv .none)=false:=Bool.eq_false_iff.mpr fun y=>by
     obtain ⟨t',_,ee⟩:=(any_ent _ _ rfl).mp y
     cases ee
    refine ⟨.none,_,rfl,.inl lpd,rfl,ents_plain _,Nat.zero_le _,_,rfl,iteP (by rw [if_pos rfl,an];decide) (bad nr _ s48)⟩
  ·rintro σ H4 ⟨s4,al4,x3,x4,rfl⟩
   refine q true H4 (s03.trans s4) ⟨fun _=>fun r hrm e rv re=>?_,fun _=>rfl⟩
   obtain ⟨m,i,h1,h2⟩:=re_all hrm rv re
   exact al4 m i r e (by rw [lw];exact (List.getElem?_eq_some_iff.mp h1).1) h1 h2 re
def sp_is_safe (K:PySem.W.Frag):Sp:=fun vs H Q _=>∃t nm wr es ys,vs=[.ref t]∧TalR K H t nm wr es ys∧∀b H',Same H H'→(b=true↔AllR SafR (dAll 0 [] es))→Q (.bl b) H'
theorem ok_is_safe (T:TX (KX w.params) mg) (c_lone_writer_deeds:Cal P w (KX w.params) mg base "lone_writer_deeds" ["tale"] 5 (sp_lone_writer_deeds (KX w.params))) (c_writers:Cal P w (KX w.params) mg base "writers" ["told"] 1 (sp_writers (KX w.params))) (c_ended_reads:Cal P w (KX w.params) mg base "ended_reads" ["told"] 1 (sp_ended_reads (KX w.params))) (c_writes_beside:Cal P w (KX w.params) mg base "writes_beside" ["written","read"] 1 (sp_writes_beside (KX w.params))) (c_last_ahead:Cal P w (KX w.params) mg base "last_ahead" ["written","read"] 1 (sp_last_ahead (KX w.params))):FnOk P w (KX w.params) mg base CX0 6 210 fd_is_safe ["tale"] (sp_is_safe (KX w.params)):=by
 refine (F_is_safe w.params).ok sc_is_safe (fun vs H Q E h=>?_) (fun cdv A outer s H vs Q E hr h=>?_)
 ·obtain ⟨t,nm,wr,es,ys,rfl,_⟩:=h
  rfl
 ·obtain ⟨t,nm,wr,es,ys,rfl,ta,q⟩:=h
  refine ⟨_,(pss_cons (ps_set (i:=1) sc_is_safe.nd rfl (by first|exact Or.inl rfl|exact Or.inr rfl) (pe_cal c_lone_writer_deeds (hr.mono (by first|decide|omega)) rfl (pa_cons (pv 0) pa_nil)))
   (pss_cons (ps_set (i:=2) sc_is_safe.nd rfl (by first|exact Or.inl rfl|exact Or.inr rfl) (pe_cal c_writers (hr.mono (by first|decide|omega)) rfl (pa_cons (pv 1) pa_nil)))
   (pss_cons (ps_for PassesOwn.never rfl (pi_list (pe_cal c_ended_reads (hr.mono (by first|decide|omega)) rfl (pa_cons (pv 1) pa_nil))) (pg_tup rfl (pgs_cons (pg_name (i:=3) sc_is_safe.nd rfl (by first|exact Or.inl rfl|exact Or.inr rfl)) (pgs_cons (pg_name (i:=4) sc_is_safe.nd rfl (by first|exact Or.inl rfl|exact Or.inr rfl)) pgs_nil)))
   (pss_one (ps_if (PW.pt (pw_and (pt_cmpR opEq (pe_callB callLen rfl (T.no (n_len _)) boot_len (pa_cons (pe_cal c_writes_beside (hr.mono (by first|decide|omega)) rfl (pa_cons (pv 2) (pa_cons (pv 4) pa_nil))) pa_nil)) pe_int (nomark _)) (pw_and1 (pt_cmpR (op_neP hr) (pe_dget1 (hu_of hr) (pv 2) (pe_ix ix_seq (pv 4) pe_int (fun _ _=>rfl)) ⟨rfl,rfl,rfl,rfl⟩) (pe_cal c_last_ahead (hr.mono (by first|decide|omega)) rfl (pa_cons (pv 2) (pa_cons (pv 4) pa_nil))) (nomark _)))))
   (pss_one (ps_ret pe_bl))
   pss_nil)))
   (pss_one (ps_ret pe_bl))))),?_⟩
  obtain ⟨os,us,tw⟩:=ta.tw
  have S:=tw.sq
  have nd:=tw.rs.u ▸ tw.us.1
  have n0:=tw.rs.u ▸ tw.us.2
  refine seq_asg ?_
  refine ⟨_,rfl,t,nm,wr,es,ys,rfl,ta,fun l zs H1 s1 tl=>?_⟩
  refine g_name ?_
  generalize dAll 0 [] es=rs at tl q S nd n0
  have l63:=tl.n
  refine seq_asg ?_
  refine ⟨_,rfl,l,zs,rs,wr,rfl,tl,nd,n0,fun d kvs H2 s2 ed al=>?_⟩
  refine g_name ?_
  have se:Seen (KX w.params) H2 l d wr es rs zs kvs:=⟨S,nd,n0,tl.same s2,ed,al,Nat.le_trans (ents_len rs) (by omega)⟩
  refine ⟨_,rfl,l,zs,rs,wr,rfl,se.t,fun a ws H3 s3 ea aw=>⟨a,rfl,⟨_,SqL.of ea⟩,?_⟩⟩
  have s03:=(s1.trans s2).trans s3
  have se3:=se.same s3
  have lw:ws.length=((List.range rs.length).filter fun i=>isRE (rs[i]?.getD r00)).length:=forall2_len aw
  refine for_list (K:=KX w.params) (a:=a) (xs:=ws) (fun k σ H'=>Same H3 H'∧(∀(m i:Nat) r e,m < k→((List.range rs.length).filter fun i=>isRE (rs[i]?.getD r00))[m]? = some i→rs[i]? = some r→r.e=some e→SafR rs r e)∧∃x3 x4,σ=[some (.ref t),some (.ref l),some (.ref d),x3,x4]) ⟨Same.refl _,fun m i r e h=>absurd h (Nat.not_lt_zero _),_,_,rfl⟩ (fun _ σ H' _ h=>SqL.of (h.1 _ _ ea)) ?_ ?_
  ·rintro k y σ H4 hy ⟨s4,al4,x3,x4,rfl⟩
   obtain ⟨i,p,pz,r,e,hi,rfl,ep,hri,sz,rv,re,ra⟩:=re_read se3.t aw hy
   have hrm:=List.mem_of_getElem? hri
   have sz4:=s4.seqT sz
   have se4:=se3.same s4
   refine ⟨p,_,rfl,SqT.of (s4 _ _ ep),rfl,_,_,rfl,_,_,rfl,rfl,?_⟩
   have fin:SafR rs r e→∀(m i:Nat) r e,m < k + 1→((List.range rs.length).filter fun i=>isRE (rs[i]?.getD r00))[m]? = some i→rs[i]? = some r→r.e=some e→SafR rs r e:=fun ok m i' r' e' hm h1 h2 h3=>by
    rcases Nat.lt_or_ge m k with z|z
    ·exact al4 m i' r' e' z h1 h2 h3
    ·have:m=k:=by omega
     subst this
     rw [hi] at h1
     cases h1
     rw [hri] at h2
     cases h2
     rw [re] at h3
     cases h3
     exact ok
   have bad:¬ SafR rs r e→∀H',Same H4 H'→Q (.bl false) H':=fun n H' s'=>q false H' (s03.trans (s4.trans s')) ⟨(fun z=>by cases z),fun z=>absurd (z r hrm e rv re) n⟩
   have dg :∀{H':Hp},Same H4 H'→DGet H' d (.int (intV r.a)) (valV kvs (.inl (intV r.a))):=fun s'=>DGet.k (k:=.inl (intV r.a)) (s' _ _ se4.w.d)
   refine ⟨_,rfl,_,rfl,d,kvs,ents rs,_,r,e,rfl,se4.w,⟨pz,rfl,sz4⟩,re,fun lb ps H5 s5 elb alb=>.inl ⟨lb,ps,rfl,.inl (SqL.of elb),rfl,_,rfl,?_⟩⟩
   have lp:ps.length=((ents rs).filter (besB r.b e)).length:=forall2_len alb
   by_cases hz:ps.length=0
   rotate_left
   ·refine iteN (fun y=>hz (by have:=of_decide_eq_true y;injection this with this;omega)) (iteN (by decide) ⟨s4.trans s5,fin (.inl ?_),_,_,rfl⟩)
    rw [lp] at hz
    obtain ⟨t',ht'⟩:=List.exists_mem_of_length_pos (Nat.pos_of_ne_zero hz)
    obtain ⟨h1,h2⟩:=List.mem_filter.mp ht'
    obtain ⟨w0,a1,a2,_,a3⟩:=(bes_iff nd n0 h1).mp h2
    exact ⟨w0,a1,a2,a3⟩
   refine iteP (decide_eq_true (by rw [hz];rfl)) ?_
   have nob :∀w0∈rs,isW w0=true→¬ (w0.b < e∧∀k,w0.e=some k→r.b < k):=fun w0 h1 h2 h3=>by
    have hm:entW w0∈(ents rs).filter (besB r.b e):=List.mem_filter.mpr ⟨ents_mem.mpr (.inr ⟨w0,h1,h2,rfl⟩),besW.mpr h3⟩
    have:=List.length_pos_of_mem hm
    omega
   refine ⟨_,rfl,d,rfl,.inl ⟨_,.inl (s5 _ _ se4.w.d)⟩,_,rfl,.inr (.inl ⟨pz,_,4,.int (intV r.a),rfl,rfl,s5.seqT sz4,by rw [ra];exact atI_nat (j:=4) rfl,_,dg s5,?_⟩)⟩
   refine ⟨_,rfl,_,rfl,d,kvs,ents rs,_,r,rfl,se4.w.same s5,⟨pz,rfl,s5.seqT sz4⟩,ahead_there,fun pl tl' H6 s6 sq6 htl hal hmx=>?_⟩
   have s46:=s5.trans s6
   rcases get_ent se4.w.a (intV r.a) with ⟨t1,ht1,hx1,p1,hv1,sp1⟩|⟨hno,hv1⟩
   ·rw [hv1]
    have iff:(entD t1).eqv (entD tl')=true↔SafR rs r e:=by
     rw [eqv_iff _ _ (ent_plain t1) (ent_plain tl')]
     have e2:=S.last_iff nd n0 (rb:=r.b) ht1 htl hal hmx
     rw [hx1] at e2
     constructor
     ·intro z
      exact .inr (e2.mp (S.ents_b ht1 htl (entD_b z)))
     ·rintro (⟨w0,a1,a2,a3⟩|z)
      ·exact absurd a3 (nob w0 a1 a2)
      ·rw [e2.mpr z]
    refine ⟨entD t1,entD tl',ent_pd ⟨p1,rfl,s46.seqT sp1⟩,ent_pd ⟨pl,rfl,sq6⟩,ent_plain t1,ent_plain tl',ent_depth t1,_,rfl,?_⟩
    by_cases z:SafR rs r e
    ·refine iteN (by rw [iff.mpr z];decide) ⟨s4.trans s46,fin z,_,_,rfl⟩
    ·refine iteP (by rw [Bool.eq_false_iff.mpr (fun y=>z (iff.mp y))];decide) (bad z _ s46)
   ·rw [hv1]
    have nr:¬ SafR rs r e:=by
     rintro (⟨w0,a1,a2,a3⟩|z)
     ·exact nob w0 a1 a2 a3
     ·obtain ⟨t',h1,h2⟩:=last_in z
      exact hno t' h1 h2
    have an:PyData.eqv .none (entD tl')=false:=Bool.eq_false_iff.mpr fun y=>by
     have:=(eqv_iff _ _ rfl (ent_plain tl')).mp y
     cases this
    refine ⟨.none,entD tl',rfl,ent_pd ⟨pl,rfl,sq6⟩,rfl,ent_plain tl',Nat.zero_le _,_,rfl,iteP (by rw [an];decide) (bad nr _ s46)⟩
  ·rintro σ H4 ⟨s4,al4,x3,x4,rfl⟩
   refine q true H4 (s03.trans s4) ⟨fun _=>fun r hrm e rv re=>?_,fun _=>rfl⟩
   obtain ⟨m,i,h1,h2⟩:=re_all hrm rv re
   exact al4 m i r e (by rw [lw];exact (List.getElem?_eq_some_iff.mp h1).1) h1 h2 re
end
section
variable {P:Program} {w:World} {mg:Str→Option Value} {base:Heap}
def WK (K:PySem.W.Frag) (H:Hp) (kvs:List (Key×V)) (f:Int→Option Int):Prop:=∀x,(f x=none→valV kvs (.inl x)=none)∧∀s,f x=some s→∃(p:Addr) (b:Int) (e:V),valV kvs (.inl x)=some (.ref p)∧SqT K H p [.int b,e]∧((s=-1∧b=-2)∨(0≤s∧b=s))
theorem WK.tups {K:PySem.W.Frag} {H H':Hp} {kvs:List (Key×V)} {f:Int→Option Int} (t:Tups K H H') (h:WK K H kvs f):WK K H' kvs f:=fun x=>⟨(h x).1,fun s e=>by
 obtain ⟨p,b,e,h1,h2,h3⟩:=(h x).2 s e
 exact ⟨p,b,e,h1,t _ _ h2,h3⟩⟩
def sp_writersT (K:PySem.W.Frag):Sp:=fun vs H Q _=>∃l zs rs wr,vs=[.ref l]∧ToldAt K H l wr rs zs∧∀d kvs H',Same H H'→H' d=some (.dK kvs)→WK K H' kvs (sinceF rs)→Q (.ref d) H'
theorem ok_writersT (T:TX (KX w.params) mg):FnOk P w (KX w.params) mg base CX0 1 186 fd_writers ["told"] (sp_writersT (KX w.params)):=by
 refine (F_writers w.params).ok sc_writers (fun vs H Q E h=>?_) (fun cdv A outer s H vs Q E hr h=>?_)
 ·obtain ⟨l,zs,rs,wr,rfl,_⟩:=h
  rfl
 ·obtain ⟨l,zs,rs,wr,rfl,ta,q⟩:=h
  refine ⟨_,(pss_cons (ps_set (i:=1) sc_writers.nd rfl (by first|exact Or.inl rfl|exact Or.inr rfl) (pe_disp (pps_cons pe_int (pe_glob (v:=.ref 162) rfl (T.of (g_FIRST_WRITE _)) rfl) pps_nil) rfl rfl (by simp) (by decide)))
   (pss_cons (ps_for PassesOwn.never rfl (pi_list (pv 0)) (pg_name (i:=2) sc_writers.nd rfl (by first|exact Or.inl rfl|exact Or.inr rfl))
   (pss_one (ps_if (pt_cmpR opEq (pe_ix ix_seq (pv 2) pe_int (fun _ _=>rfl)) pe_str (nomark _))
   (pss_one (ps_dput (hu_of hr) (pv 1) (pe_ix ix_seq (pv 2) pe_int (fun _ _=>rfl)) (pe_slice slSeq (pv 2) (po_some pe_int) po_none) rfl))
   pss_nil)))
   (pss_one (ps_ret (pv 1))))),?_⟩
  have lz:zs.length=rs.length:=forall2_len ta.a
  have l63:=ta.n
  intro d hd
  refine ⟨upd_same,[(.inl 0,.ref 162)],rfl,(show (1:Nat)≤15 by decide),?_⟩
  have s1:Same H (upd (upd H d (.dK [])) d (.dK (mergeK [] [(.inl 0,.ref 162)]))):=Same.keep (Same.upd hd) hd
  have e1:upd (upd H d (.dK [])) d (.dK (mergeK [] [(.inl 0,.ref 162)])) d=some (.dK [(.inl 0,.ref 162)]):=upd_same
  generalize upd (upd H d (.dK [])) d (.dK (mergeK [] [(.inl 0,.ref 162)]))=H1 at s1 e1⊢
  refine ⟨_,rfl,l,rfl,⟨_,SqL.of (s1 _ _ ta.l)⟩,?_⟩
  refine for_list (K:=KX w.params) (a:=l) (xs:=zs) (fun i σ H'=>Same H H'∧(∃kvs,H' d=some (.dK kvs)∧kvs.length≤i + 1∧WK (KX w.params) H' kvs (sinceF (rs.take i)))∧∃x2,σ=[some (.ref l),some (.ref d),x2])
   ⟨s1,⟨_,e1,Nat.le_refl _,fun x=>?_⟩,_,rfl⟩ (fun _ σ H' _ h=>SqL.of (h.1 _ _ ta.l)) ?_ ?_
  ·rw [List.take_zero,sinceF_nil]
   by_cases z:x=0
   ·rw [if_pos z,z]
    refine ⟨fun e=>(by cases e),fun s e=>?_⟩
    cases e
    exact ⟨162,-2,.int (-1),valV_pos rfl,sq_first,.inl ⟨rfl,rfl⟩⟩
   ·rw [if_neg z]
    refine ⟨fun _=>?_,fun s e=>(by cases e)⟩
    rw [valV_neg (fun e=>z (Sum.inl.inj e).symm)]
    rfl
  ·rintro i y σ H2 hy ⟨s2,⟨kvs,ed,lk,wk⟩,x2,rfl⟩
   obtain ⟨r,hri,p,rfl,sp⟩:=all2_get ta.a hy
   have hi:i < 63:=by have:=(List.getElem?_eq_some_iff.mp hri).1;omega
   have sp2:=s2.seqT sp
   refine g_name ?_
   rcases ta.g r (List.mem_of_getElem? hri) with g|g
   ·refine ⟨_,rfl,.inr (.inl ⟨p,_,2,.str "read",rfl,rfl,sp2,by rw [g.1];exact atI_nat (j:=2) rfl,rfl,_,rfl,iteN (by decide +kernel) ?_⟩)⟩
    refine ⟨s2,⟨kvs,ed,by omega,fun x=>?_⟩,_,rfl⟩
    rw [take_snoc hri,sinceF_snoc,if_neg (fun z=>by rw [g.w] at z;cases z.1)]
    exact wk x
   ·refine ⟨_,rfl,.inr (.inl ⟨p,_,2,.str "write",rfl,rfl,sp2,by rw [g.1];exact atI_nat (j:=2) rfl,rfl,_,rfl,iteP (by decide +kernel) ?_⟩)⟩
    refine ⟨_,rfl,5,rfl,.inr (.inl ⟨p,_,rfl,sp2,fun z=>absurd z.1 (show ¬ HT.sIx 7 0 (some 5)=0 by decide),fun p1 hp1=>?_⟩)⟩
    have c1:cutV [.int r.h,r.n,r.v,r.x,r.a,.int r.b,endV r.e] (some 5) none=[.int r.b,endV r.e]:=rfl
    rw [c1]
    have s3:=Same.upd (o:=.tup [.int r.b,endV r.e]) hp1
    have e3:upd H2 p1 (.tup [.int r.b,endV r.e]) p1=some (.tup [.int r.b,endV r.e]):=upd_same
    generalize upd H2 p1 (.tup [.int r.b,endV r.e])=H3 at s3 e3⊢
    have ed3:=s3 _ _ ed
    refine ⟨_,rfl,_,rfl,.inr (.inl ⟨p,_,3,.int (intV r.x),rfl,rfl,s3.seqT sp2,by rw [←g.2.2.1];exact atI_nat (j:=3) rfl,d,_,rfl,DPut.k (k:=.inl (intV r.x)) ed3 (Nat.lt_of_le_of_lt (m:=100) (by omega) (by decide)),?_⟩)⟩
    have t4:Tups (KX w.params) H3 (upd H3 d (.dK (putK kvs (.inl (intV r.x)) (.ref p1)))):=Tups.dict ed3
    refine ⟨Same.keep (s2.trans s3) hd,⟨_,upd_same,Nat.le_trans putK_len (by omega),fun x=>?_⟩,_,rfl⟩
    rw [take_snoc hri,sinceF_snoc,valV_put]
    by_cases z:x=intV r.x
    ·rw [if_pos ⟨g.w,z⟩,if_pos (by rw [z])]
     refine ⟨fun e=>(by cases e),fun s e=>?_⟩
     cases e
     exact ⟨p1,r.b,endV r.e,rfl,t4 _ _ (SqT.of e3),.inr ⟨Int.natCast_nonneg _,rfl⟩⟩
    ·rw [if_neg (fun e=>z e.2),if_neg (fun e=>z (Sum.inl.inj e))]
     exact WK.tups ((Tups.of s3).trans t4) wk x
  ·rintro σ H2 ⟨s2,⟨kvs,ed,lk,wk⟩,x2,rfl⟩
   rw [lz,List.take_length] at wk
   exact ⟨_,rfl,q d kvs H2 s2 ed wk⟩
end
section
variable {P:Program} {w:World} {mg:Str→Option Value} {base:Heap}
def selI (rs:List Rc) (i:Nat):Bool:=(sinceF rs (intV (rs[i]?.getD r00).a)).isSome
def readsI (rs:List Rc):List Nat:=(((List.range rs.length).filter fun i=>isRE (rs[i]?.getD r00)).filter (selI rs))
theorem readsI_mem {rs:List Rc} {i:Nat}:i∈readsI rs↔∃r e s,rs[i]? = some r∧r.v=.str "read"∧r.e=some e∧sinceF rs (intV r.a)=some s:=by
 unfold readsI
 rw [List.mem_filter,List.mem_filter,List.mem_range]
 constructor
 ·rintro ⟨⟨h1,h2⟩,h3⟩
  have hr:rs[i]? = some rs[i]:=List.getElem?_eq_getElem h1
  unfold selI at h3
  rw [getD_some hr] at h2 h3
  obtain ⟨a,b⟩:=Bool.and_eq_true_iff.mp h2
  obtain ⟨e,he⟩:=Option.isSome_iff_exists.mp b
  obtain ⟨s,hs⟩:=Option.isSome_iff_exists.mp h3
  exact ⟨_,e,s,hr,of_decide_eq_true a,he,hs⟩
 ·rintro ⟨r,e,s,h1,h2,h3,h4⟩
  refine ⟨⟨(List.getElem?_eq_some_iff.mp h1).1,?_⟩,?_⟩
  ·rw [getD_some h1];unfold isRE;rw [h3,decide_eq_true h2];rfl
  ·unfold selI;rw [getD_some h1,h4];rfl
theorem readsI_sorted (rs:List Rc):(readsI rs).Pairwise (· < ·):=List.Pairwise.filter _ (range_filter_sorted _ _)
theorem sorted_lt {is:List Nat} (h:is.Pairwise (· < ·)) {a b x y:Nat} (hab:a < b) (hx:is[a]? = some x) (hy:is[b]? = some y):x < y:=by
 obtain ⟨ha,rfl⟩:=List.getElem?_eq_some_iff.mp hx
 obtain ⟨hb,rfl⟩:=List.getElem?_eq_some_iff.mp hy
 exact List.pairwise_iff_getElem.mp h a b ha hb hab
theorem Bad.reads {rs:List Rc} {i j:Nat} (h:Bad rs i j):i∈readsI rs∧j∈readsI rs:=by
 obtain ⟨r,q,e,f,s,t,h1,h2,h3,h4,h5,h6,h7,h8,h9,_⟩:=h
 exact ⟨readsI_mem.mpr ⟨r,e,s,h1,h3,h5,h8⟩,readsI_mem.mpr ⟨q,f,t,h2,h4,h6,h9⟩⟩
theorem all2_sub {R:Nat→V→Prop} {is:List Nat} {q:Nat→Bool} {us:List V} (h:All2 (fun (k:Nat) y=>R (is[k]?.getD 0) y) ((List.range is.length).filter fun k=>q (is[k]?.getD 0)) us):All2 R (is.filter q) us:=by
 have go :∀(ks:List Nat) (us:List V),All2 (fun (k:Nat) y=>R (is[k]?.getD 0) y) ks us→All2 R (ks.map fun k=>is[k]?.getD 0) us:=by
  intro ks
  induction ks with
  | nil=>intro us h;cases h;exact .nil
  | cons k ks ih=>intro us h;cases h with|cons a r=>exact .cons a (ih _ r)
 have z:=go _ _ h
 have e:=filter_range_map q (fun i=>i) 0 is
 rw [e,List.map_id'] at z
 exact z
def sp_turn_about (K:PySem.W.Frag):Sp:=fun vs H Q _=>∃t nm wr es ys,vs=[.ref t]∧TalR K H t nm wr es ys∧(∀H',Same H H'→(∀i j,¬ Bad (dAll 0 [] es) i j)→Q .non H')∧∀p i j H',Same H H'→H' p=some (.tup [.int (i:Nat),.int (j:Nat)])→FstB (dAll 0 [] es) i j→Q (.ref p) H'
theorem ok_turn_about (T:TX (KX w.params) mg) (c_lone_writer_deeds:Cal P w (KX w.params) mg base "lone_writer_deeds" ["tale"] 5 (sp_lone_writer_deeds (KX w.params))) (c_writers:Cal P w (KX w.params) mg base "writers" ["told"] 1 (sp_writersT (KX w.params))) (c_ended_reads:Cal P w (KX w.params) mg base "ended_reads" ["told"] 1 (sp_ended_reads (KX w.params))):FnOk P w (KX w.params) mg base CX0 6 225 fd_turn_about ["tale"] (sp_turn_about (KX w.params)):=by
 refine (F_turn_about w.params).ok sc_turn_about (fun vs H Q E h=>?_) (fun cdv A outer s H vs Q E hr h=>?_)
 ·obtain ⟨t,nm,wr,es,ys,rfl,_⟩:=h
  rfl
 ·obtain ⟨t,nm,wr,es,ys,rfl,ta,q0,q1⟩:=h
  refine ⟨_,(pss_cons (ps_set (i:=1) sc_turn_about.nd rfl (by first|exact Or.inl rfl|exact Or.inr rfl) (pe_cal c_lone_writer_deeds (hr.mono (by first|decide|omega)) rfl (pa_cons (pv 0) pa_nil)))
   (pss_cons (ps_set (i:=2) sc_turn_about.nd rfl (by first|exact Or.inl rfl|exact Or.inr rfl) (pe_cal c_writers (hr.mono (by first|decide|omega)) rfl (pa_cons (pv 1) pa_nil)))
   (pss_cons (ps_setG (i:=3) sc_turn_about.nd rfl (by first|exact Or.inl rfl|exact Or.inr rfl) (xs:=["number","read"]) (g:=gTup (KX w.params) 2 (gCons (gName 0) (gCons (gName 1) gNil))) (fr:=[(2,"written")]) rfl (pi_list (pe_cal c_ended_reads (hr.mono (by first|decide|omega)) rfl (pa_cons (pv 1) pa_nil))) (by intro p hp;obtain rfl:=List.mem_singleton.mp hp;first|exact ⟨rfl,.inl rfl⟩|exact ⟨rfl,.inr rfl⟩) (free_one (n:="written") (by decide +kernel) (fun _=>by first|exact .inl rfl|exact .inr rfl)) (by intro p hp;obtain rfl:=List.mem_singleton.mp hp;exact ⟨by decide +kernel,by first|exact .inl rfl|exact .inr rfl⟩) (by decide +kernel) rfl (by decide +kernel) (fun _ _ _ _ _=>(pg_tup rfl (pgs_cons (pg_cname (N:=["number","read","written"]) 0 (by decide +kernel) rfl rfl) (pgs_cons (pg_cname (N:=["number","read","written"]) 1 (by decide +kernel) rfl rfl) pgs_nil)))) (fun _ _ _ _ _=>(pf_one (pt_cmp (pc_din (hu_of hr) (pe_ix (ix_seqK (K:=KX w.params) rfl) (pv 1) pe_int (fun _ _=>rfl)) (pv 2)) (by with_unfolding_all rfl)))) (fun _ _ _ _ _=>(pe_tup (pa_cons (pv 0) (pa_cons (pv 1) pa_nil)))))
   (pss_cons (ps_for PassesOwn.never rfl (pi_list (pv 3)) (pg_tup rfl (pgs_cons (pg_name (i:=4) sc_turn_about.nd rfl (by first|exact Or.inl rfl|exact Or.inr rfl)) (pgs_cons (pg_name (i:=5) sc_turn_about.nd rfl (by first|exact Or.inl rfl|exact Or.inr rfl)) pgs_nil)))
   (pss_one (ps_for PassesOwn.never rfl (pi_list (pv 3)) (pg_tup rfl (pgs_cons (pg_name (i:=6) sc_turn_about.nd rfl (by first|exact Or.inl rfl|exact Or.inr rfl)) (pgs_cons (pg_name (i:=7) sc_turn_about.nd rfl (by first|exact Or.inl rfl|exact Or.inr rfl)) pgs_nil)))
   (pss_one (ps_if (PW.pt (pw_and (pt_cmpR op_lt (pe_ix ix_seq (pv 5) pe_int (fun _ _=>rfl)) (pe_ix ix_seq (pv 7) pe_int (fun _ _=>rfl)) (nomark _)) (pw_and1 (pt_cmpR op_lt (pe_ix ix_seq (pe_dget (hu_of hr) (pv 2) (pe_ix ix_seq (pv 7) pe_int (fun _ _=>rfl)) (fun _ _=>rfl)) pe_int (fun _ _=>rfl)) (pe_ix ix_seq (pe_dget (hu_of hr) (pv 2) (pe_ix ix_seq (pv 5) pe_int (fun _ _=>rfl)) (fun _ _=>rfl)) pe_int (fun _ _=>rfl)) (nomark _)))))
   (pss_one (ps_ret (pe_tup (pa_cons (pv 4) (pa_cons (pv 6) pa_nil)))))
   pss_nil)))))
   (pss_one (ps_ret pe_non)))))),?_⟩
  refine seq_asg ?_
  refine ⟨_,rfl,t,nm,wr,es,ys,rfl,ta,fun l zs H1 s1 tl=>?_⟩
  refine g_name ?_
  generalize dAll 0 [] es=rs at tl q0 q1
  have lz:zs.length=rs.length:=forall2_len tl.a
  have l63:=tl.n
  refine seq_asg ?_
  refine ⟨_,rfl,l,zs,rs,wr,rfl,tl,fun d kvs H2 s2 ed wk=>?_⟩
  refine g_name ?_
  have tl2:=tl.same s2
  refine seq_asg ?_
  refine tcompP_L (K:=KX w.params) (fun a ws H'=>Same H2 H'∧H' a=some (.lst ws)∧All2 (NumAt H' zs) ((List.range rs.length).filter fun i=>isRE (rs[i]?.getD r00)) ws) (fun R h=>⟨_,rfl,l,zs,rs,wr,rfl,tl2,fun a ws H' sx ea al=>h a ws H' ⟨sx,ea,al⟩⟩) ?_ (fun k=>selI rs (((List.range rs.length).filter fun i=>isRE (rs[i]?.getD r00))[k]?.getD 0)) (fun k y H'=>NumAt H' zs (((List.range rs.length).filter fun i=>isRE (rs[i]?.getD r00))[k]?.getD 0) y) (fun _ _ _ _ s z=>z.same s) ?_ ?_
  ·rintro a ws H' ⟨_,ea,al⟩
   refine ⟨SqL.of ea,?_⟩
   rw [forall2_len al]
   refine Nat.le_trans (List.length_filter_le _ _) ?_
   rw [List.length_range]
   exact Nat.le_trans l63 (by decide)
  ·rintro a ws H3 ⟨s3,ea,al⟩ k hk v H4 s4 hv KT KF h1 h2
   obtain ⟨i,hi,p,z,rfl,ep,hz⟩:=all2_get al hv
   have gi:((List.range rs.length).filter fun i=>isRE (rs[i]?.getD r00))[k]?.getD 0=i:=by rw [hi];rfl
   rw [gi] at h1 h2
   obtain ⟨r,hri,pz,rfl,sz⟩:=all2_get tl2.a hz
   have him:=(List.mem_filter.mp (List.mem_of_getElem? hi)).2
   rw [getD_some hri] at him
   obtain ⟨rv,re⟩:=Bool.and_eq_true_iff.mp him
   have rv:=of_decide_eq_true rv
   obtain ⟨e,he⟩:=Option.isSome_iff_exists.mp re
   have g:RdG r:=(tl.g r (List.mem_of_getElem? hri)).resolve_right fun g=>rd_ne_wr (rv.symm.trans g.1)
   have s24:=s3.trans s4
   have ez:=s24.seqT sz
   have sel:selI rs i=(sinceF rs (intV r.a)).isSome:=by unfold selI;rw [getD_some hri]
   refine ⟨p,_,rfl,SqT.of (s4 _ _ ep),rfl,_,_,rfl,_,_,rfl,rfl,[some (.int (i:Nat)),some (.ref pz)],rfl,rfl,?_⟩
   have ra:=g.2.2 e he
   refine ⟨_,rfl,.inr (.inl ⟨pz,_,4,.int (intV r.a),rfl,rfl,ez,by rw [ra];exact atI_nat (j:=4) rfl,_,rfl,d,_,rfl,DGet.k (k:=.inl (intV r.a)) (s24 _ _ ed),_,rfl,?_⟩)⟩
   have wka:=wk (intV r.a)
   cases hs:sinceF rs (intV r.a) with
   | none=>
    refine iteN (by rw [wka.1 hs];decide) (h2 ?_ _ (Same.refl _))
    rw [sel,hs];rfl
   | some s0=>
    obtain ⟨_,_,_,hvv,_⟩:=wka.2 s0 hs
    refine iteP (by rw [hvv];rfl) ?_
    exact ⟨_,rfl,_,rfl,(show (2:Nat)≤sizeLine by decide),fun p2 hp2=>h1 (by rw [sel,hs];rfl) _ _ (Same.upd hp2) ⟨p2,_,rfl,upd_same,hz⟩⟩
  rintro a ws H3 ⟨s3,ea,al⟩ l4 H4 us s4 hl4 al4
  rw [forall2_len al] at al4
  have al5:All2 (NumAt H4 zs) (readsI rs) us:=all2_sub (R:=fun i y=>NumAt H4 zs i y) al4
  have s5:=Same.upd (o:=.lst us) hl4
  have e5:upd H4 l4 (.lst us) l4=some (.lst us):=upd_same
  have al6:=forall2_mono (fun _ _ z=>NumAt.same s5 z) al5
  have s25:=(s3.trans s4).trans s5
  generalize upd H4 l4 (.lst us)=H5 at s5 e5 al6 s25⊢
  refine g_name ?_
  have s15:=s2.trans s25
  have s05:=s1.trans s15
  have tl5:=tl.same s15
  have wk5:=wk.tups (.of s25)
  have ed5:=s25 _ _ ed
  have lu:us.length=(readsI rs).length:=forall2_len al6
  have at5 :∀{k:Nat} {y:V},us[k]? = some y→∃i p pz r e s0 pw b ew,(readsI rs)[k]? = some i∧y=.ref p∧H5 p=some (.tup [.int (i:Nat),.ref pz])∧rs[i]? = some r∧SqT (KX w.params) H5 pz [.int r.h,r.n,r.v,r.x,r.a,.int r.b,endV r.e]∧r.v=.str "read"∧r.e=some e∧r.a=.int (intV r.a)∧sinceF rs (intV r.a)=some s0∧valV kvs (.inl (intV r.a))=some (.ref pw)∧SqT (KX w.params) H5 pw [.int b,ew]∧((s0=-1∧b=-2)∨(0≤s0∧b=s0)):=by
   intro k y hy
   obtain ⟨i,hi,p,z,rfl,ep,hz⟩:=all2_get al6 hy
   obtain ⟨r,hri,pz,rfl,sz⟩:=all2_get tl5.a hz
   obtain ⟨r',e,s0,g1,g2,g3,g4⟩:=readsI_mem.mp (List.mem_of_getElem? hi)
   rw [hri] at g1
   cases g1
   have g:RdG r:=(tl.g r (List.mem_of_getElem? hri)).resolve_right fun g=>rd_ne_wr (g2.symm.trans g.1)
   obtain ⟨pw,b,ew,w1,w2,w3⟩:=(wk5 (intV r.a)).2 s0 g4
   exact ⟨i,p,pz,r,e,s0,pw,b,ew,hi,rfl,ep,hri,sz,g2,g3,g.2.2 e g3,g4,w1,w2,w3⟩
  refine ⟨_,rfl,l4,rfl,⟨_,SqL.of e5⟩,?_⟩
  refine for_list (K:=KX w.params) (a:=l4) (xs:=us) (fun k σ H'=>H'=H5∧(∀m i,m < k→(readsI rs)[m]? = some i→∀j,¬ Bad rs i j)∧∃x4 x5 x6 x7,σ=[some (.ref t),some (.ref l),some (.ref d),some (.ref l4),x4,x5,x6,x7]) ⟨rfl,fun m i h=>absurd h (Nat.not_lt_zero _),_,_,_,_,rfl⟩ (fun _ σ H' _ h=>by rw [h.1];exact SqL.of e5) ?_ ?_
  ·rintro k y σ H6 hy ⟨rfl,no,x4,x5,x6,x7,rfl⟩
   obtain ⟨i,p,pz,r,e,s0,pw,b,ew,hi,rfl,ep,hri,sz,rv,re,ra,rs0,vw,sw,bw⟩:=at5 hy
   refine ⟨p,_,rfl,SqT.of ep,rfl,_,_,rfl,_,_,rfl,rfl,?_⟩
   refine ⟨_,rfl,l4,rfl,⟨_,SqL.of e5⟩,?_⟩
   refine for_list (K:=KX w.params) (a:=l4) (xs:=us) (fun k2 σ H'=>H'=H6∧(∀m j,m < k2→(readsI rs)[m]? = some j→¬ Bad rs i j)∧∃x6 x7,σ=[some (.ref t),some (.ref l),some (.ref d),some (.ref l4),some (.int (i:Nat)),some (.ref pz),x6,x7]) ⟨rfl,fun m i h=>absurd h (Nat.not_lt_zero _),_,_,rfl⟩ (fun _ σ H' _ h=>by rw [h.1];exact SqL.of e5) ?_ ?_
   ·rintro k2 y2 σ H7 hy2 ⟨rfl,no2,x6,x7,rfl⟩
    obtain ⟨j,p',pz',q,f,t0,pw',b',ew',hj,rfl,ep',hrj,sz',qv,qe,qa,qs0,vw',sw',bw'⟩:=at5 hy2
    have next:¬ Bad rs i j→∀m j',m < k2 + 1→(readsI rs)[m]? = some j'→¬ Bad rs i j':=fun nb m j' hm hj'=>by
     rcases Nat.lt_or_ge m k2 with z|z
     ·exact no2 m j' z hj'
     ·have:m=k2:=by omega
      subst this
      rw [hj] at hj'
      cases hj'
      exact nb
    have dg:DGet H7 d (.int (intV q.a)) (some (.ref pw')):=vw' ▸ DGet.k (k:=.inl (intV q.a)) ed5
    have dg2:DGet H7 d (.int (intV r.a)) (some (.ref pw)):=vw ▸ DGet.k (k:=.inl (intV r.a)) ed5
    refine ⟨p',_,rfl,SqT.of ep',rfl,_,_,rfl,_,_,rfl,rfl,?_⟩
    refine ⟨_,rfl,.inr (.inl ⟨pz,_,6,.int (e:Nat),rfl,rfl,sz,by rw [re];exact atI_nat (j:=6) rfl,?_⟩)⟩
    refine ⟨_,rfl,.inr (.inl ⟨pz',_,5,.int (q.b:Nat),rfl,rfl,sz',atI_nat (j:=5) rfl,_,_,rfl,rfl,_,rfl,?_⟩)⟩
    by_cases z1:e < q.b
    ·refine iteP (decide_eq_true (by omega)) ?_
     refine ⟨_,rfl,_,rfl,.inr (.inl ⟨pz',_,4,.int (intV q.a),rfl,rfl,sz',by rw [qa];exact atI_nat (j:=4) rfl,d,_,rfl,dg,.inr (.inl ⟨pw',_,0,.int b',rfl,rfl,sw',atI_nat (j:=0) rfl,?_⟩)⟩)⟩
     refine ⟨_,rfl,_,rfl,.inr (.inl ⟨pz,_,4,.int (intV r.a),rfl,rfl,sz,by rw [ra];exact atI_nat (j:=4) rfl,d,_,rfl,dg2,.inr (.inl ⟨pw,_,0,.int b,rfl,rfl,sw,atI_nat (j:=0) rfl,_,_,rfl,rfl,_,rfl,?_⟩)⟩)⟩
     by_cases z2:t0 < s0
     ·refine iteP (decide_eq_true (by omega)) ?_
      have hb:Bad rs i j:=⟨r,q,e,f,s0,t0,hri,hrj,rv,qv,re,qe,z1,rs0,qs0,z2⟩
      refine ⟨_,rfl,_,rfl,(show (2:Nat)≤sizeLine by decide),fun p9 hp9=>q1 p9 i j _ (s05.trans (Same.upd hp9)) upd_same ⟨hb,fun i' j' hb'=>?_⟩⟩
      obtain ⟨m1,m2⟩:=hb'.reads
      obtain ⟨a1,h1⟩:=List.mem_iff_getElem?.mp m1
      obtain ⟨a2,h2⟩:=List.mem_iff_getElem?.mp m2
      rcases Nat.lt_trichotomy a1 k with y|y|y
      ·exact absurd hb' (no a1 i' y h1 j')
      ·subst y
       rw [hi] at h1
       cases h1
       refine .inr ⟨rfl,?_⟩
       rcases Nat.lt_trichotomy a2 k2 with x|x|x
       ·exact absurd hb' (no2 a2 j' x h2)
       ·subst x
        rw [hj] at h2
        cases h2
        exact Nat.le_refl _
       ·exact Nat.le_of_lt (sorted_lt (readsI_sorted rs) x hj h2)
      ·exact .inl (sorted_lt (readsI_sorted rs) y hi h1)
     ·refine iteN (fun x=>z2 (by have:=of_decide_eq_true x;omega)) ?_
      refine ⟨rfl,next fun hb=>?_,_,_,rfl⟩
      obtain ⟨r',q',e',f',s',t',g1,g2,_,_,_,_,_,g8,g9,g10⟩:=hb
      rw [hri] at g1;cases g1
      rw [hrj] at g2;cases g2
      rw [rs0] at g8;cases g8
      rw [qs0] at g9;cases g9
      exact z2 g10
    ·refine iteN (fun x=>z1 (by have:=of_decide_eq_true x;omega)) ?_
     refine iteN (by decide) ?_
     refine ⟨rfl,next fun hb=>?_,_,_,rfl⟩
     obtain ⟨r',q',e',f',s',t',g1,g2,_,_,g5,_,g7,_⟩:=hb
     rw [hri] at g1;cases g1
     rw [hrj] at g2;cases g2
     rw [re] at g5;cases g5
     exact z1 g7
   ·rintro σ H7 ⟨rfl,no2,x6,x7,rfl⟩
    refine ⟨rfl,fun m i' hm hi' j hb=>?_,_,_,_,_,rfl⟩
    rcases Nat.lt_or_ge m k with z|z
    ·exact no m i' z hi' j hb
    ·have:m=k:=by omega
     subst this
     rw [hi] at hi'
     cases hi'
     obtain ⟨a2,h2⟩:=List.mem_iff_getElem?.mp hb.reads.2
     exact no2 a2 j (by rw [lu];exact (List.getElem?_eq_some_iff.mp h2).1) h2 hb
  ·rintro σ H6 ⟨rfl,no,x4,x5,x6,x7,rfl⟩
   refine q0 _ s05 fun i j hb=>?_
   obtain ⟨a1,h1⟩:=List.mem_iff_getElem?.mp hb.reads.1
   exact no a1 i (by rw [lu];exact (List.getElem?_eq_some_iff.mp h1).1) h1 j hb
end
section
variable {P:Program} {w:World} {mg:Str→Option Value} {base:Heap}
theorem tcompR_rng2 {S:Hp→Hp→Prop} {ta:TA} {te:TE} {tc:TT} {g:TG} {m n:Nat} {lo:Int} {fr:List (Nat×Str)} {σ:L2.St} {H H1:Hp} {Q:VK} (p:Nat→Bool) (R:Nat→V→Hp→Prop) (s0:S H1 H1) (st :∀a b c,S a b→S b c→S a c) (hs :∀H,S H1 H→S H H) (hR :∀i y H H',S H H'→R i y H→R i y H')
  (hta :∀T:List V→Hp→Prop,T [.int lo,.int (lo + n)] H1→ta σ H T) (hn:n≤sizeLine) (hb:-(2 ^ 62)≤lo∧lo < 2 ^ 62∧-(2 ^ 62)≤lo + n∧lo + n < 2 ^ 62)
  (body :∀i,i < n→∀H,S H1 H→∀(KT:VK) (KF:Hp→Prop),(p i=true→∀y H',S H H'→R i y H'→KT y H')→(p i=false→∀H',S H H'→KF H')→
   g (.int (lo + (i:Nat))) (cStG σ fr (List.replicate m none)) H fun σ6 H6=>∃us,us.length=m∧σ6=cStG σ fr us∧tc (cStG σ fr us) H6 fun b H2=>if b=true then te (cStG σ fr us) H2 KT else KF H2)
  (hQ :∀l H' ys,S H1 H'→H' l=none→All2 (fun i y=>R i y H') ((List.range n).filter p) ys→Q (.ref l) (upd H' l (.lst ys))):tCompG (iRng2 ta) m fr g tc te σ H Q:=by
 refine hta _ ⟨lo,lo + n,rfl,hb,?_⟩
 rw [show (lo + (n:Int) - lo).toNat=n by omega]
 exact compG_rel (Item:=fun i v _=>v=.int (lo + (i:Nat))) s0 st p R hR ⟨fun i hi H s=>hi,fun H s=>Nat.le_refl _,fun i hi H v H' s y=>by
  obtain ⟨e,y⟩:=y
  subst e
  exact ⟨hs _ s,y⟩⟩ hn (fun i hi v H s it KT KF h1 h2=>by subst it;exact body i hi H s KT KF h1 h2) hQ
theorem op_notIn_seqK {X:Cx} {K:PySem.W.Frag} (hK:X.K=K):OpR X (compareOp .NotIn) (rIn K true):=hK ▸ op_notIn_seq
def bgI (es:List Ev) (v:Str) (k:Nat):Bool:=match es[k]? with
 | some (.beg _ _ x _)=>decide (x=.str v)
 | _=>false
def sp__law_begins (K:PySem.W.Frag):Sp:=fun vs H Q _=>∃(te:Addr) (es:List Ev) (ys:List V) (v:Str),vs=[.ref te,.str v]∧SqT K H te ys∧All2 (EvAt K H) es ys∧(∀e∈es,EvG e)∧es.length≤24∧∀l H',Same H H'→H l=none→H' l=some (.lst (((List.range es.length).filter (bgI es v)).map fun i=>V.int (i:Nat)))→Q (.ref l) H'
theorem ok__law_begins (T:TX (KX w.params) mg):FnOk P w (KX w.params) mg base CX0 1 293 fd__law_begins ["events","verb"] (sp__law_begins (KX w.params)):=by
 refine (F__law_begins w.params).ok sc__law_begins (fun vs H Q E h=>?_) (fun cdv A outer s H vs Q E hr h=>?_)
 ·obtain ⟨te,es,ys,v,rfl,_⟩:=h
  rfl
 ·obtain ⟨te,es,ys,v,rfl,se,al,evg,ln,q⟩:=h
  refine ⟨_,(pss_one (ps_ret (pe_compG (xs:=["k"]) (g:=gName 0) (fr:=[(1,"verb"),(0,"events")]) rfl (pi_range1 rfl (T.no (n_range _)) (pa_cons (pe_callB callLen rfl (T.no (n_len _)) boot_len (pa_cons (pv 0) pa_nil)) pa_nil)) (by intro p hp;simp only [List.mem_cons,List.not_mem_nil,or_false] at hp;rcases hp with rfl|rfl<;>first|exact ⟨rfl,.inl rfl⟩|exact ⟨rfl,.inr rfl⟩) (free_in (ns:=["verb","events"]) (by decide +kernel) (by intro n hn k;simp only [List.mem_cons,List.not_mem_nil,or_false] at hn;rcases hn with rfl|rfl<;>first|exact .inl rfl|exact .inr rfl)) (by intro p hp;simp only [List.mem_cons,List.not_mem_nil,or_false] at hp;rcases hp with rfl|rfl<;>exact ⟨by decide +kernel,by first|exact .inl rfl|exact .inr rfl⟩) (by decide +kernel) rfl (by decide +kernel) (fun _ _ _ _ _=>(pg_cname (N:=["k","verb","events"]) 0 (by decide +kernel) rfl rfl)) (fun _ _ _ _ _=>(pf_one (PW.pt (pw_and (pt_cmpR opEq (pe_ix (ix_seqK (K:=KX w.params) rfl) (pe_ix (ix_seqK (K:=KX w.params) rfl) (pv 2) (pv 0) (fun _ _=>rfl)) pe_int (fun _ _=>rfl)) pe_str (nomark _)) (pw_and1 (pt_cmpR opEq (pe_ix (ix_seqK (K:=KX w.params) rfl) (pe_ix (ix_seqK (K:=KX w.params) rfl) (pv 2) (pv 0) (fun _ _=>rfl)) pe_int (fun _ _=>rfl)) (pv 1) (nomark _))))))) (fun _ _ _ _ _=>(pv 0))))),?_⟩
  have ly:ys.length=es.length:=forall2_len al
  refine sq_ret ?_
  refine tcompR_rng (S:=Same) (n:=ys.length) (H1:=H) (fun j=>bgI es v j) (fun j y _=>y=.int (j:Nat)) (Same.refl _) (fun _ _ _ a b=>a.trans b) (fun _ _=>Same.refl _) (fun _ _ _ _ _ z=>z) (fun R h=>⟨_,rfl,.inl ⟨te,ys,rfl,.inr se,h⟩⟩) (Nat.le_trans (m:=24) (by omega) (by decide)) (fun j hj H2 s2 KT KF h1 h2=>?_) fun l3 H3 us s3 hl3 fa=>?_
  ·refine ⟨[some (.int (j:Nat))],rfl,rfl,?_⟩
   have hz:ys[j]? = some ys[j]:=List.getElem?_eq_getElem hj
   obtain ⟨e,he,ev⟩:=all2_get al hz
   have ev:=EvAt.tups (.of s2) ev
   have g:=evg e (List.mem_of_getElem? he)
   have se2:=s2.seqT se
   cases e with
   | fin k a=>
    obtain ⟨p,ep,sp⟩:=ev
    refine ⟨_,rfl,_,rfl,.inr (.inl ⟨te,_,j,.ref p,rfl,rfl,se2,atI_nat (by rw [hz,ep]),.inr (.inl ⟨p,_,0,.str "end",rfl,rfl,sp,atI_nat (j:=0) rfl,rfl,_,rfl,iteN (by decide +kernel) ?_⟩)⟩)⟩
    refine iteN (by decide) (h2 ?_ _ (Same.refl _))
    unfold bgI
    rw [he]
   | beg k n x0 y0=>
    obtain ⟨p,ep,sp⟩:=ev
    refine ⟨_,rfl,_,rfl,.inr (.inl ⟨te,_,j,.ref p,rfl,rfl,se2,atI_nat (by rw [hz,ep]),.inr (.inl ⟨p,_,0,.str "begin",rfl,rfl,sp,atI_nat (j:=0) rfl,rfl,_,rfl,iteP (by decide +kernel) ?_⟩)⟩)⟩
    have eb:bgI es v j=decide (x0=.str v):=by unfold bgI;rw [he]
    rw [eb] at h1 h2
    have sc :∃z,x0=.str z:=by rcases g.2 with ⟨z,_⟩|⟨z,_⟩<;>exact ⟨_,z⟩
    obtain ⟨z0,rfl⟩:=sc
    refine ⟨_,rfl,_,rfl,.inr (.inl ⟨te,_,j,.ref p,rfl,rfl,se2,atI_nat (by rw [hz,ep]),.inr (.inl ⟨p,_,3,.str z0,rfl,rfl,sp,atI_nat (j:=3) rfl,_,rfl,rfl,_,rfl,?_⟩)⟩)⟩
    by_cases z:V.str z0=.str v
    ·exact iteP (decide_eq_true z) ⟨_,rfl,h1 (decide_eq_true z) _ _ (Same.refl _) rfl⟩
    ·exact iteN (fun e=>z (of_decide_eq_true e)) (h2 (decide_eq_false z) _ (Same.refl _))
  ·have eu:=forall2_fun fa
   rw [ly] at eu
   subst eu
   exact q l3 _ (s3.trans (Same.upd hl3)) (s3.free hl3) upd_same
def sp__law_end_of (K:PySem.W.Frag):Sp:=fun vs H Q _=>∃(te:Addr) (es:List Ev) (ys:List V) (k0:Nat) (h:Int) (n v x:V),vs=[.ref te,.int (k0:Nat)]∧SqT K H te ys∧All2 (EvAt K H) es ys∧es.length≤24∧es[k0]? = some (.beg h n v x)∧((∀j e,k0 < j→es[j]? = some e→hnd e≠h)→Q .non H)∧∀(m:Nat) em,es[m]? = some em→hnd em=h→k0 < m→(∀j e,k0 < j→j < m→es[j]? = some e→hnd e≠h)→Q (.int (m:Nat)) H
theorem ev_hnd {K:PySem.W.Frag} {H:Hp} {e:Ev} {y:V} (h:EvAt K H e y) :∃(p:Addr) (a:V) (r:List V),y=.ref p∧SqT K H p (a :: .int (hnd e) :: r):=by
 cases e with
 | beg k n v x=>obtain ⟨p,e,s⟩:=h;exact ⟨p,_,_,e,s⟩
 | fin k a=>obtain ⟨p,e,s⟩:=h;exact ⟨p,_,_,e,s⟩
theorem ok__law_end_of (T:TX (KX w.params) mg):FnOk P w (KX w.params) mg base CX0 1 300 fd__law_end_of ["events","at"] (sp__law_end_of (KX w.params)):=by
 refine (F__law_end_of w.params).ok sc__law_end_of (fun vs H Q E h=>?_) (fun cdv A outer s H vs Q E hr h=>?_)
 ·obtain ⟨te,es,ys,k0,h,n,v,x,rfl,_⟩:=h
  rfl
 ·obtain ⟨te,es,ys,k0,h,n,v,x,rfl,se,al,ln,hk,q0,q1⟩:=h
  refine ⟨_,(pss_cons (ps_for PassesOwn.never rfl (pi_range2 rfl (T.no (n_range _)) (pa_cons (pe_op opAdd (pv 1) pe_int) (pa_cons (pe_callB callLen rfl (T.no (n_len _)) boot_len (pa_cons (pv 0) pa_nil)) pa_nil))) (pg_name (i:=2) sc__law_end_of.nd rfl (by first|exact Or.inl rfl|exact Or.inr rfl))
   (pss_one (ps_if (pt_cmpR opEq (pe_ix ix_seq (pe_ix ix_seq (pv 0) (pv 2) (fun _ _=>rfl)) pe_int (fun _ _=>rfl)) (pe_ix ix_seq (pe_ix ix_seq (pv 0) (pv 1) (fun _ _=>rfl)) pe_int (fun _ _=>rfl)) (nomark _))
   (pss_one (ps_ret (pv 2)))
   pss_nil)))
   (pss_one (ps_ret pe_non))),?_⟩
  have ly:ys.length=es.length:=forall2_len al
  have lk:=(List.getElem?_eq_some_iff.mp hk).1
  obtain ⟨y0,hy0,p0,rfl,sp0⟩:=all2_at al hk
  refine ⟨_,rfl,.inl ⟨_,_,rfl,rfl,_,rfl,.inl ⟨te,ys,rfl,.inr se,_,_,rfl,⟨by omega,by omega,by omega,by omega⟩,?_⟩⟩⟩
  rw [show (((ys.length:Nat):Int) - ((k0:Int) + 1)).toNat=ys.length - (k0 + 1) by omega]
  refine for_range (lo:=(k0:Int) + 1) (n:=ys.length - (k0 + 1)) (fun i σ H'=>H'=H∧(∀j e,k0 < j→j < k0 + 1 + i→es[j]? = some e→hnd e≠h)∧∃x2,σ=[some (.ref te),some (.int (k0:Nat)),x2]) ⟨rfl,fun j e h1 h2=>by omega,_,rfl⟩ ?_ ?_
  ·rintro i σ H2 hi ⟨rfl,no,x2,rfl⟩
   refine g_name ?_
   have hm:k0 + 1 + i < es.length:=by omega
   have he:es[k0 + 1 + i]? = some es[k0 + 1 + i]:=List.getElem?_eq_getElem hm
   obtain ⟨y1,hy1,ev1⟩:=all2_at al he
   obtain ⟨p1,a1,r1,rfl,sp1⟩:=ev_hnd ev1
   rw [show (k0:Int) + 1 + (i:Int)=((k0 + 1 + i:Nat):Int) by omega]
   refine ⟨_,rfl,_,rfl,.inr (.inl ⟨te,_,_,.ref p1,rfl,rfl,se,atI_nat hy1,.inr (.inl ⟨p1,_,1,.int (hnd es[k0 + 1 + i]),rfl,rfl,sp1,atI_nat (j:=1) rfl,?_⟩)⟩)⟩
   refine ⟨_,rfl,_,rfl,.inr (.inl ⟨te,_,_,.ref p0,rfl,rfl,se,atI_nat hy0,.inr (.inl ⟨p0,_,1,.int h,rfl,rfl,sp0,atI_nat (j:=1) rfl,rfl,_,rfl,?_⟩)⟩)⟩
   by_cases z:hnd es[k0 + 1 + i]=h
   ·refine iteP (decide_eq_true (by rw [z])) ?_
    exact ⟨_,rfl,q1 (k0 + 1 + i) _ he z (by omega) no⟩
   ·refine iteN (fun e=>z (by have:=of_decide_eq_true e;injection this)) ?_
    refine ⟨rfl,fun j e h1 h2 he'=>?_,_,rfl⟩
    rcases Nat.lt_or_ge j (k0 + 1 + i) with y|y
    ·exact no j e h1 y he'
    ·have:j=k0 + 1 + i:=by omega
     subst this
     rw [he] at he'
     cases he'
     exact z
  ·rintro σ H2 ⟨rfl,no,x2,rfl⟩
   refine q0 fun j e h1 he=>?_
   have:=(List.getElem?_eq_some_iff.mp he).1
   exact no j e h1 (by omega) he
theorem all2_set {α β:Type} {R:α→β→Prop} {a:α} {b:β} :∀{xs:List α} {ys:List β} {j:Nat},All2 R xs ys→R a b→All2 R (xs.set j a) (ys.set j b)
 | _,_,_,.nil,_=>.nil
 | _,_,0,.cons _ r,h=>.cons h r
 | _,_,j + 1,.cons x r,h=>.cons x (all2_set r h)
def sp__law_answered (K:PySem.W.Frag):Sp:=fun vs H Q _=>∃(te:Addr) (es:List Ev) (ys:List V) (k0:Nat) (h:Int) (n v x a:V),vs=[.ref te,.int (k0:Nat),a]∧SqT K H te ys∧All2 (EvAt K H) es ys∧es.length≤24∧EWf [] es∧es[k0]? = some (.beg h n v x)∧
 ∀l ys' es' H',Same H H'→H' l=some (.lst ys')→All2 (EvAt K H') es' ys'→EWf [] es'→es'.length≤25→(∀e∈es',e∈es∨e=.fin h a)→(∃r∈dueR es',r.v=v∧r.a=a∧∃m,r.e=some m)→Q (.ref l) H'
theorem ok__law_answered (T:TX (KX w.params) mg) (c__law_end_of:Cal P w (KX w.params) mg base "_law_end_of" ["events","at"] 1 (sp__law_end_of (KX w.params))):FnOk P w (KX w.params) mg base CX0 2 307 fd__law_answered ["events","at","answer"] (sp__law_answered (KX w.params)):=by
 refine (F__law_answered w.params).ok sc__law_answered (fun vs H Q E h=>?_) (fun cdv A outer s H vs Q E hr h=>?_)
 ·obtain ⟨te,es,ys,k0,h,n,v,x,a,rfl,_⟩:=h
  rfl
 ·obtain ⟨te,es,ys,k0,h,n,v,x,a,rfl,se,al,ln,wf,hk,q⟩:=h
  refine ⟨_,(pss_cons (ps_set (i:=3) sc__law_answered.nd rfl (by first|exact Or.inl rfl|exact Or.inr rfl) (pe_cal c__law_end_of (hr.mono (by first|decide|omega)) rfl (pa_cons (pv 0) (pa_cons (pv 1) pa_nil))))
   (pss_cons (ps_set (i:=4) sc__law_answered.nd rfl (by first|exact Or.inl rfl|exact Or.inr rfl) (pe_callTy call_list_of rfl (T.no (n_list _)) boot_list (pa_cons (pv 0) pa_nil)))
   (pss_cons (ps_if (pt_cmpR op_isN (pv 3) pe_non (nomark _))
   (pss_one (ps_expr (pe_append (pv 4) (pa_cons (pe_tup (pa_cons pe_str (pa_cons (pe_ix ix_seq (pe_ix ix_seq (pv 0) (pv 1) (fun _ _=>rfl)) pe_int (fun _ _=>rfl)) (pa_cons (pv 2) pa_nil)))) pa_nil))))
   (pss_one (ps_asg (pe_tup (pa_cons pe_str (pa_cons (pe_ix ix_seq (pe_ix ix_seq (pv 0) (pv 1) (fun _ _=>rfl)) pe_int (fun _ _=>rfl)) (pa_cons (pv 2) pa_nil)))) (pg_sub (pv 4) (pv 3) set_list))))
   (pss_one (ps_ret (pv 4)))))),?_⟩
  have ly:ys.length=es.length:=forall2_len al
  obtain ⟨y0,hy0,p0,rfl,sp0⟩:=all2_at al hk
  refine seq_asg ?_
  refine ⟨_,rfl,_,rfl,te,es,ys,k0,h,n,v,x,rfl,se,al,ln,hk,fun no=>?_,fun m em hm hh lt no=>?_⟩
  ·refine g_name ?_
   refine seq_asg ?_
   refine ⟨_,rfl,te,ys,rfl,.inr se,fun l hl=>?_⟩
   refine g_name ?_
   have s1:=Same.upd (o:=.lst ys) hl
   have e1:upd H l (.lst ys) l=some (.lst ys):=upd_same
   generalize upd H l (.lst ys)=H1 at s1 e1⊢
   refine sq_if ?_
   refine ⟨_,rfl,rfl,_,rfl,iteP (by decide) ?_⟩
   refine ⟨_,rfl,.inl ⟨rfl,ys,SqL.of e1⟩,?_⟩
   refine ⟨_,rfl,_,rfl,.inr (.inl ⟨te,_,_,.ref p0,rfl,rfl,s1.seqT se,atI_nat hy0,.inr (.inl ⟨p0,_,1,.int h,rfl,rfl,s1.seqT sp0,atI_nat (j:=1) rfl,_,rfl,(show (3:Nat)≤sizeLine by decide),fun p hp=>?_⟩)⟩)⟩
   have s2:=Same.upd (o:=.tup [.str "end",.int h,a]) hp
   have e2:upd H1 p (.tup [.str "end",.int h,a]) p=some (.tup [.str "end",.int h,a]):=upd_same
   generalize upd H1 p (.tup [.str "end",.int h,a])=H2 at s2 e2⊢
   have ty:Tups (KX w.params) H2 (upd H2 l (.lst (ys++[.ref p]))):=Tups.lst (s2 _ _ e1)
   refine ⟨l,ys,_,rfl,rfl,s2 _ _ e1,Nat.lt_of_le_of_lt (m:=24) (by omega) (by decide),?_⟩
   obtain ⟨w1,r,hr1,r1,r2,r3⟩:=ans_new a wf hk no
   have evn:EvAt (KX w.params) (upd H2 l (.lst (ys++[.ref p]))) (.fin h a) (.ref p):=⟨p,rfl,ty _ _ (SqT.of e2)⟩
   refine ⟨_,rfl,q l _ (es++[.fin h a]) _ (Same.keep (s1.trans s2) hl) upd_same (all2_snoc (forall2_mono (fun _ _ z=>EvAt.tups ((Tups.of (s1.trans s2)).trans ty) z) al) evn) w1 (by rw [List.length_append];show es.length + 1≤25;omega) (fun e he=>?_) ⟨r,hr1,r1,r2,_,r3⟩⟩
   rcases List.mem_append.mp he with z|z
   ·exact .inl z
   ·exact .inr (List.mem_singleton.mp z)
  ·refine g_name ?_
   refine seq_asg ?_
   refine ⟨_,rfl,te,ys,rfl,.inr se,fun l hl=>?_⟩
   refine g_name ?_
   have s1:=Same.upd (o:=.lst ys) hl
   have e1:upd H l (.lst ys) l=some (.lst ys):=upd_same
   generalize upd H l (.lst ys)=H1 at s1 e1⊢
   refine sq_if ?_
   refine ⟨_,rfl,rfl,_,rfl,iteN (by simp) ?_⟩
   refine ⟨_,rfl,_,rfl,.inr (.inl ⟨te,_,_,.ref p0,rfl,rfl,s1.seqT se,atI_nat hy0,.inr (.inl ⟨p0,_,1,.int h,rfl,rfl,s1.seqT sp0,atI_nat (j:=1) rfl,_,rfl,(show (3:Nat)≤sizeLine by decide),fun p hp=>?_⟩)⟩)⟩
   have s2:=Same.upd (o:=.tup [.str "end",.int h,a]) hp
   have e2:upd H1 p (.tup [.str "end",.int h,a]) p=some (.tup [.str "end",.int h,a]):=upd_same
   generalize upd H1 p (.tup [.str "end",.int h,a])=H2 at s2 e2⊢
   have lm:m < ys.length:=by rw [ly];exact (List.getElem?_eq_some_iff.mp hm).1
   have ty:Tups (KX w.params) H2 (upd H2 l (.lst (ys.set m (.ref p)))):=Tups.lst (s2 _ _ e1)
   refine ⟨_,rfl,_,rfl,l,_,m,m,rfl,rfl,s2 _ _ e1,ixN_nat lm,?_⟩
   obtain ⟨w1,r,hr1,r1,r2,r3⟩:=ans_set a wf hk hm hh lt no
   refine ⟨_,rfl,q l _ (es.set m (.fin h a)) _ (Same.keep (s1.trans s2) hl) upd_same (all2_set (forall2_mono (fun _ _ z=>EvAt.tups ((Tups.of (s1.trans s2)).trans ty) z) al) ⟨p,rfl,ty _ _ (SqT.of e2)⟩) w1 (by rw [List.length_set];omega) (fun e he=>?_) ⟨r,hr1,r1,r2,_,r3⟩⟩
   rcases List.mem_or_eq_of_mem_set he with z|z
   ·exact .inl z
   ·exact .inr z
def e00:Ev:=.fin 0 .non
theorem sub_all2 {R:Ev→V→Prop} {es:List Ev} {q:Ev→Bool} {us:List V} {n:Nat} (hn:n=es.length) (h:All2 (fun (k:Nat) y=>R (es[k]?.getD e00) y) ((List.range n).filter fun k=>q (es[k]?.getD e00)) us):All2 R (es.filter q) us:=by
 subst hn
 have go :∀(ks:List Nat) (us:List V),All2 (fun (k:Nat) y=>R (es[k]?.getD e00) y) ks us→All2 R (ks.map fun k=>es[k]?.getD e00) us:=by
  intro ks
  induction ks with
  | nil=>intro us h;cases h;exact .nil
  | cons k ks ih=>intro us h;cases h with|cons a r=>exact .cons a (ih _ r)
 have z:=go _ _ h
 have e:=filter_range_map q (fun i=>i) e00 es
 rw [e,List.map_id'] at z
 exact z
theorem clo_nil {es:List Ev} {h:Int} (e:es.filter (fun e=>decide (hnd e=h))=[]):clo es h=es:=by unfold clo;rw [e];rfl
def cloE (es:List Ev) (h:Int):Ev→List Ev
 | .beg _ _ v _=>es++[.fin h (if v=.str "read" then .int 0 else .str "ok")]
 | .fin _ _=>es
theorem clo_last {es fs:List Ev} {e:Ev} {h:Int} (z:es.filter (fun e=>decide (hnd e=h))=fs++[e]):clo es h=cloE es h e:=by
 unfold clo
 rw [z,List.getLast?_append]
 cases e<;>rfl
theorem snoc_of {α:Type} {l:List α} (h:l≠[]) :∃fs e,l=fs++[e]:=⟨l.dropLast,l.getLast h,(List.dropLast_concat_getLast h).symm⟩
theorem all2_snoc_inv {α β:Type} {R:α→β→Prop} {x:α} :∀{xs:List α} {ys:List β},All2 R (xs++[x]) ys→∃zs z,ys=zs++[z]∧All2 R xs zs∧R x z
 | [],_,.cons a .nil=>⟨[],_,rfl,.nil,a⟩
 | _ :: xs,_,.cons a r=>by
  obtain ⟨zs,z,e,h1,h2⟩:=all2_snoc_inv r
  exact ⟨_ :: zs,z,by rw [e];rfl,.cons a h1,h2⟩
def EvB:Ev→Prop
 | .beg _ _ v _=>∃z,v=.str z
 | .fin _ _=>True
def sp__law_closed (K:PySem.W.Frag):Sp:=fun vs H Q _=>∃(te:Addr) (es:List Ev) (ys:List V) (h:Int),vs=[.ref te,.int h]∧SqT K H te ys∧All2 (EvAt K H) es ys∧es.length≤30∧(∀e∈es,EvB e)∧∀l ys' H',Same H H'→H' l=some (.lst ys')→All2 (EvAt K H') (clo es h) ys'→Q (.ref l) H'
theorem ok__law_closed (T:TX (KX w.params) mg):FnOk P w (KX w.params) mg base CX0 1 312 fd__law_closed ["events","hand"] (sp__law_closed (KX w.params)):=by
 refine (F__law_closed w.params).ok sc__law_closed (fun vs H Q E h=>?_) (fun cdv A outer s H vs Q E hr h=>?_)
 ·obtain ⟨te,es,ys,h,rfl,_⟩:=h
  rfl
 ·obtain ⟨te,es,ys,h,rfl,se,al,ln,evr,q⟩:=h
  refine q_of (qss_cons (QS.mk (ps_set (i:=2) sc__law_closed.nd rfl (by first|exact Or.inl rfl|exact Or.inr rfl) (pe_callTy call_list_of rfl (T.no (n_list _)) boot_list (pa_cons (pv 0) pa_nil))))
   (qss_cons (QS.mk (ps_setG (i:=3) sc__law_closed.nd rfl (by first|exact Or.inl rfl|exact Or.inr rfl) (xs:=["event"]) (g:=gName 0) (fr:=[(1,"hand")]) rfl (pi_tup (pv 0)) (by intro p hp;obtain rfl:=List.mem_singleton.mp hp;first|exact ⟨rfl,.inl rfl⟩|exact ⟨rfl,.inr rfl⟩) (free_one (n:="hand") (by decide +kernel) (fun _=>by first|exact .inl rfl|exact .inr rfl)) (by intro p hp;obtain rfl:=List.mem_singleton.mp hp;exact ⟨by decide +kernel,by first|exact .inl rfl|exact .inr rfl⟩) (by decide +kernel) rfl (by decide +kernel) (fun _ _ _ _ _=>(pg_cname (N:=["event","hand"]) 0 (by decide +kernel) rfl rfl)) (fun _ _ _ _ _=>(pf_one (pt_cmpR opEq (pe_ix (ix_seqK (K:=KX w.params) rfl) (pv 0) pe_int (fun _ _=>rfl)) (pv 1) (nomark _)))) (fun _ _ _ _ _=>(pv 0))))
   (qss_cons (QS.mk (ps_if (PW.pt (pw_and (pt_cmpR (op_neL0 hr) (pv 3) (pe_lst pa_nil) (nomark _)) (pw_and1 (pt_cmpR opEq (pe_ix ix_seq (pe_ix ix_seq (pv 3) (pe_un un_neg pe_int) (fun _ _=>rfl)) pe_int (fun _ _=>rfl)) pe_str (nomark _)))))
   (pss_one (ps_expr (pe_append (pv 2) (pa_cons (pe_tup (pa_cons pe_str (pa_cons (pv 1) (pa_cons (pe_ix ix_seq (pe_lst (pa_cons pe_str (pa_cons pe_int pa_nil))) (pe_callTy call_int rfl (T.no (n_int _)) boot_int (pa_cons (pe_cmpR opEq (pe_ix ix_seq (pe_ix ix_seq (pv 3) (pe_un un_neg pe_int) (fun _ _=>rfl)) pe_int (fun _ _=>rfl)) pe_str (nomark _)) pa_nil)) (fun _ _=>rfl)) pa_nil)))) pa_nil))))
   pss_nil))
   (qss_one (QS.mk (ps_ret (pv 2))))))) ?_
  have ly:ys.length=es.length:=forall2_len al
  refine seq_asg ?_
  refine ⟨_,rfl,te,ys,rfl,.inr se,fun l hl=>?_⟩
  refine g_name ?_
  have s1:=Same.upd (o:=.lst ys) hl
  have e1:upd H l (.lst ys) l=some (.lst ys):=upd_same
  have al1:=forall2_mono (fun _ _ z=>EvAt.tups (.of s1) z) al
  have se1:=s1.seqT se
  generalize upd H l (.lst ys)=H1 at s1 e1 al1 se1⊢
  refine seq_asg ?_
  refine tcompF_Tp (K:=KX w.params) (a:=te) (xs:=ys) (H1:=H1) (fun i=>(fun e=>decide (hnd e=h)) (es[i]?.getD e00)) (fun i y H'=>EvAt (KX w.params) H' (es[i]?.getD e00) y) (fun _ _ _ _ s z=>EvAt.tups (.of s) z) (fun R h=>⟨_,rfl,h⟩) se1 (Nat.le_trans (m:=30) (by omega) (by decide)) ?_ ?_
  ·intro i hi y H2 s2 hy KT KF h1 h2
   obtain ⟨e,he,ev⟩:=all2_get al1 hy
   have gd:es[i]?.getD e00=e:=by rw [he];rfl
   rw [gd] at h1 h2
   have ev:=EvAt.tups (.of s2) ev
   obtain ⟨p,a,r,rfl,sp⟩:=ev_hnd ev
   refine ⟨[some (.ref p)],rfl,rfl,?_⟩
   refine ⟨_,rfl,.inr (.inl ⟨p,_,1,.int (hnd e),rfl,rfl,sp,atI_nat (j:=1) rfl,_,rfl,rfl,_,rfl,?_⟩)⟩
   by_cases z:hnd e=h
   ·exact iteP (decide_eq_true (by rw [z])) ⟨_,rfl,h1 (decide_eq_true z) _ _ (Same.refl _) ev⟩
   ·exact iteN (fun x=>z (by have:=of_decide_eq_true x;injection this)) (h2 (decide_eq_false z) _ (Same.refl _))
  intro l2 H2 us s2 hl2 fa
  have au:=sub_all2 (R:=fun e y=>EvAt (KX w.params) H2 e y) (q:=fun e=>decide (hnd e=h)) ly fa
  have s3:=Same.upd (o:=.lst us) hl2
  have e3:upd H2 l2 (.lst us) l2=some (.lst us):=upd_same
  have s13:=s2.trans s3
  have au3:=forall2_mono (fun _ _ z=>EvAt.tups (.of s3) z) au
  generalize upd H2 l2 (.lst us)=H3 at s3 e3 s13 au3⊢
  refine g_name ?_
  have e13:=s13 _ _ e1
  have al3:=forall2_mono (fun _ _ z=>EvAt.tups (.of s13) z) al1
  refine sq_if ?_
  refine ⟨_,rfl,(show (0:Nat)≤sizeLine by decide),fun l4 hl4=>?_⟩
  have s4:=Same.upd (o:=.lst []) hl4
  refine ⟨l2,l4,us,rfl,rfl,SqL.of (s4 _ _ e3),SqL.of upd_same,_,rfl,?_⟩
  have e34:=s4 _ _ e3
  have e14:=s4 _ _ e13
  have al4:=forall2_mono (fun _ _ z=>EvAt.tups (.of s4) z) al3
  have au4:=forall2_mono (fun _ _ z=>EvAt.tups (.of s4) z) au3
  have s04:=(s1.trans s13).trans s4
  generalize upd H3 l4 (.lst [])=H4 at s4 e34 e14 al4 au4 s04⊢
  by_cases hf:es.filter (fun e=>decide (hnd e=h))=[]
  ·rw [hf] at au4
   cases au4
   refine iteN (by simp) (iteN (by decide) ?_)
   rw [clo_nil hf] at q
   exact ⟨_,rfl,q l ys H4 s04 e14 al4⟩
  obtain ⟨fs,e,hfe⟩:=snoc_of hf
  have hce:=clo_last hfe
  rw [hfe] at au4
  obtain ⟨zs,z,rfl,_,ez⟩:=all2_snoc_inv au4
  refine iteP (by simp) ?_
  have em:e∈es:=(List.mem_filter.mp (by rw [hfe];exact List.mem_append.mpr (.inr (List.mem_singleton.mpr rfl)):e∈es.filter (fun e=>decide (hnd e=h)))).1
  cases e with
  | fin k a=>
   obtain ⟨p,rfl,sp⟩:=ez
   refine ⟨_,rfl,_,rfl,.inl ⟨l2,_,-1,.ref p,rfl,rfl,SqL.of e34,atI_last _ _,.inr (.inl ⟨p,_,0,.str "end",rfl,rfl,sp,atI_nat (j:=0) rfl,rfl,_,rfl,iteN (by decide +kernel) ?_⟩)⟩⟩
   rw [hce] at q
   exact ⟨_,rfl,q l ys H4 s04 e14 al4⟩
  | beg k n v x=>
   obtain ⟨p,rfl,sp⟩:=ez
   obtain ⟨z0,rfl⟩:=evr _ em
   refine ⟨_,rfl,_,rfl,.inl ⟨l2,_,-1,.ref p,rfl,rfl,SqL.of e34,atI_last _ _,.inr (.inl ⟨p,_,0,.str "begin",rfl,rfl,sp,atI_nat (j:=0) rfl,rfl,_,rfl,iteP (by decide +kernel) ?_⟩)⟩⟩
   refine ⟨_,rfl,.inl ⟨rfl,ys,SqL.of e14⟩,?_⟩
   refine ⟨_,rfl,(show (2:Nat)≤sizeLine by decide),fun l5 hl5=>?_⟩
   have s5:=Same.upd (o:=.lst [V.str "ok",.int 0]) hl5
   have e5:upd H4 l5 (.lst [V.str "ok",.int 0]) l5=some (.lst [V.str "ok",.int 0]):=upd_same
   generalize upd H4 l5 (.lst [V.str "ok",.int 0])=H5 at s5 e5⊢
   refine ⟨_,rfl,_,rfl,.inl ⟨l2,_,-1,.ref p,rfl,rfl,SqL.of (s5 _ _ e34),atI_last _ _,.inr (.inl ⟨p,_,3,.str z0,rfl,rfl,s5.seqT sp,atI_nat (j:=3) rfl,rfl,.inl (.inr ⟨_,rfl,?_⟩)⟩)⟩⟩
   have ei:atI [V.str "ok",.int 0] (if decide (V.str z0=.str "read")=true then 1 else 0)=some (if V.str z0=.str "read" then .int 0 else .str "ok"):=by
    by_cases y:V.str z0=.str "read"
    ·rw [if_pos (decide_eq_true y),if_pos y];exact atI_nat (j:=1) rfl
    ·rw [if_neg (fun e=>y (of_decide_eq_true e)),if_neg y];exact atI_nat (j:=0) rfl
   refine .inl ⟨l5,_,_,_,rfl,rfl,SqL.of e5,ei,(show (3:Nat)≤sizeLine by decide),fun p6 hp6=>?_⟩
   have s6:=Same.upd (o:=.tup [.str "end",.int h,if V.str z0=.str "read" then .int 0 else .str "ok"]) hp6
   have e6:upd H5 p6 (.tup [.str "end",.int h,if V.str z0=.str "read" then .int 0 else .str "ok"]) p6=some (.tup [.str "end",.int h,if V.str z0=.str "read" then .int 0 else .str "ok"]):=upd_same
   generalize upd H5 p6 (.tup [.str "end",.int h,if V.str z0=.str "read" then .int 0 else .str "ok"])=H6 at s6 e6⊢
   have s46:=s5.trans s6
   have e16:=s46 _ _ e14
   have ty:Tups (KX w.params) H6 (upd H6 l (.lst (ys++[.ref p6]))):=Tups.lst e16
   refine ⟨l,ys,_,rfl,rfl,e16,Nat.lt_of_le_of_lt (m:=30) (by omega) (by decide),?_⟩
   rw [hce] at q
   exact ⟨_,rfl,q l _ _ (Same.keep (s04.trans s46) hl) upd_same (all2_snoc (forall2_mono (fun _ _ z=>EvAt.tups ((Tups.of s46).trans ty) z) al4) ⟨p6,rfl,ty _ _ (SqT.of e6)⟩)⟩
def sp__law_closedL (K:PySem.W.Frag):Sp:=fun vs H Q _=>∃(te:Addr) (es:List Ev) (ys:List V) (h:Int),vs=[.ref te,.int h]∧H te=some (.lst ys)∧All2 (EvAt K H) es ys∧es.length≤30∧(∀e∈es,EvB e)∧∀l ys' H',Same H H'→H' l=some (.lst ys')→All2 (EvAt K H') (clo es h) ys'→Q (.ref l) H'
theorem ok__law_closedL (T:TX (KX w.params) mg):FnOk P w (KX w.params) mg base CX0 1 312 fd__law_closed ["events","hand"] (sp__law_closedL (KX w.params)):=by
 refine (F__law_closed w.params).ok sc__law_closed (fun vs H Q E h=>?_) (fun cdv A outer s H vs Q E hr h=>?_)
 ·obtain ⟨te,es,ys,h,rfl,_⟩:=h
  rfl
 ·obtain ⟨te,es,ys,h,rfl,se,al,ln,evr,q⟩:=h
  refine q_of (qss_cons (QS.mk (ps_set (i:=2) sc__law_closed.nd rfl (by first|exact Or.inl rfl|exact Or.inr rfl) (pe_callTy call_list_of rfl (T.no (n_list _)) boot_list (pa_cons (pv 0) pa_nil))))
   (qss_cons (QS.mk (ps_setG (i:=3) sc__law_closed.nd rfl (by first|exact Or.inl rfl|exact Or.inr rfl) (xs:=["event"]) (g:=gName 0) (fr:=[(1,"hand")]) rfl (pi_list (pv 0)) (by intro p hp;obtain rfl:=List.mem_singleton.mp hp;first|exact ⟨rfl,.inl rfl⟩|exact ⟨rfl,.inr rfl⟩) (free_one (n:="hand") (by decide +kernel) (fun _=>by first|exact .inl rfl|exact .inr rfl)) (by intro p hp;obtain rfl:=List.mem_singleton.mp hp;exact ⟨by decide +kernel,by first|exact .inl rfl|exact .inr rfl⟩) (by decide +kernel) rfl (by decide +kernel) (fun _ _ _ _ _=>(pg_cname (N:=["event","hand"]) 0 (by decide +kernel) rfl rfl)) (fun _ _ _ _ _=>(pf_one (pt_cmpR opEq (pe_ix (ix_seqK (K:=KX w.params) rfl) (pv 0) pe_int (fun _ _=>rfl)) (pv 1) (nomark _)))) (fun _ _ _ _ _=>(pv 0))))
   (qss_cons (QS.mk (ps_if (PW.pt (pw_and (pt_cmpR (op_neL0 hr) (pv 3) (pe_lst pa_nil) (nomark _)) (pw_and1 (pt_cmpR opEq (pe_ix ix_seq (pe_ix ix_seq (pv 3) (pe_un un_neg pe_int) (fun _ _=>rfl)) pe_int (fun _ _=>rfl)) pe_str (nomark _)))))
   (pss_one (ps_expr (pe_append (pv 2) (pa_cons (pe_tup (pa_cons pe_str (pa_cons (pv 1) (pa_cons (pe_ix ix_seq (pe_lst (pa_cons pe_str (pa_cons pe_int pa_nil))) (pe_callTy call_int rfl (T.no (n_int _)) boot_int (pa_cons (pe_cmpR opEq (pe_ix ix_seq (pe_ix ix_seq (pv 3) (pe_un un_neg pe_int) (fun _ _=>rfl)) pe_int (fun _ _=>rfl)) pe_str (nomark _)) pa_nil)) (fun _ _=>rfl)) pa_nil)))) pa_nil))))
   pss_nil))
   (qss_one (QS.mk (ps_ret (pv 2))))))) ?_
  have ly:ys.length=es.length:=forall2_len al
  refine seq_asg ?_
  refine ⟨_,rfl,te,ys,rfl,.inl (SqL.of se),fun l hl=>?_⟩
  refine g_name ?_
  have s1:=Same.upd (o:=.lst ys) hl
  have e1:upd H l (.lst ys) l=some (.lst ys):=upd_same
  have al1:=forall2_mono (fun _ _ z=>EvAt.tups (.of s1) z) al
  have se1:=s1 _ _ se
  generalize upd H l (.lst ys)=H1 at s1 e1 al1 se1⊢
  refine seq_asg ?_
  refine tcompF_L (K:=KX w.params) (a:=te) (xs:=ys) (H1:=H1) (fun i=>(fun e=>decide (hnd e=h)) (es[i]?.getD e00)) (fun i y H'=>EvAt (KX w.params) H' (es[i]?.getD e00) y) (fun _ _ _ _ s z=>EvAt.tups (.of s) z) (fun R h=>⟨_,rfl,h⟩) (SqL.of se1) (Nat.le_trans (m:=30) (by omega) (by decide)) ?_ ?_
  ·intro i hi y H2 s2 hy KT KF h1 h2
   obtain ⟨e,he,ev⟩:=all2_get al1 hy
   have gd:es[i]?.getD e00=e:=by rw [he];rfl
   rw [gd] at h1 h2
   have ev:=EvAt.tups (.of s2) ev
   obtain ⟨p,a,r,rfl,sp⟩:=ev_hnd ev
   refine ⟨[some (.ref p)],rfl,rfl,?_⟩
   refine ⟨_,rfl,.inr (.inl ⟨p,_,1,.int (hnd e),rfl,rfl,sp,atI_nat (j:=1) rfl,_,rfl,rfl,_,rfl,?_⟩)⟩
   by_cases z:hnd e=h
   ·exact iteP (decide_eq_true (by rw [z])) ⟨_,rfl,h1 (decide_eq_true z) _ _ (Same.refl _) ev⟩
   ·exact iteN (fun x=>z (by have:=of_decide_eq_true x;injection this)) (h2 (decide_eq_false z) _ (Same.refl _))
  intro l2 H2 us s2 hl2 fa
  have au:=sub_all2 (R:=fun e y=>EvAt (KX w.params) H2 e y) (q:=fun e=>decide (hnd e=h)) ly fa
  have s3:=Same.upd (o:=.lst us) hl2
  have e3:upd H2 l2 (.lst us) l2=some (.lst us):=upd_same
  have s13:=s2.trans s3
  have au3:=forall2_mono (fun _ _ z=>EvAt.tups (.of s3) z) au
  generalize upd H2 l2 (.lst us)=H3 at s3 e3 s13 au3⊢
  refine g_name ?_
  have e13:=s13 _ _ e1
  have al3:=forall2_mono (fun _ _ z=>EvAt.tups (.of s13) z) al1
  refine sq_if ?_
  refine ⟨_,rfl,(show (0:Nat)≤sizeLine by decide),fun l4 hl4=>?_⟩
  have s4:=Same.upd (o:=.lst []) hl4
  refine ⟨l2,l4,us,rfl,rfl,SqL.of (s4 _ _ e3),SqL.of upd_same,_,rfl,?_⟩
  have e34:=s4 _ _ e3
  have e14:=s4 _ _ e13
  have al4:=forall2_mono (fun _ _ z=>EvAt.tups (.of s4) z) al3
  have au4:=forall2_mono (fun _ _ z=>EvAt.tups (.of s4) z) au3
  have s04:=(s1.trans s13).trans s4
  generalize upd H3 l4 (.lst [])=H4 at s4 e34 e14 al4 au4 s04⊢
  by_cases hf:es.filter (fun e=>decide (hnd e=h))=[]
  ·rw [hf] at au4
   cases au4
   refine iteN (by simp) (iteN (by decide) ?_)
   rw [clo_nil hf] at q
   exact ⟨_,rfl,q l ys H4 s04 e14 al4⟩
  obtain ⟨fs,e,hfe⟩:=snoc_of hf
  have hce:=clo_last hfe
  rw [hfe] at au4
  obtain ⟨zs,z,rfl,_,ez⟩:=all2_snoc_inv au4
  refine iteP (by simp) ?_
  have em:e∈es:=(List.mem_filter.mp (by rw [hfe];exact List.mem_append.mpr (.inr (List.mem_singleton.mpr rfl)):e∈es.filter (fun e=>decide (hnd e=h)))).1
  cases e with
  | fin k a=>
   obtain ⟨p,rfl,sp⟩:=ez
   refine ⟨_,rfl,_,rfl,.inl ⟨l2,_,-1,.ref p,rfl,rfl,SqL.of e34,atI_last _ _,.inr (.inl ⟨p,_,0,.str "end",rfl,rfl,sp,atI_nat (j:=0) rfl,rfl,_,rfl,iteN (by decide +kernel) ?_⟩)⟩⟩
   rw [hce] at q
   exact ⟨_,rfl,q l ys H4 s04 e14 al4⟩
  | beg k n v x=>
   obtain ⟨p,rfl,sp⟩:=ez
   obtain ⟨z0,rfl⟩:=evr _ em
   refine ⟨_,rfl,_,rfl,.inl ⟨l2,_,-1,.ref p,rfl,rfl,SqL.of e34,atI_last _ _,.inr (.inl ⟨p,_,0,.str "begin",rfl,rfl,sp,atI_nat (j:=0) rfl,rfl,_,rfl,iteP (by decide +kernel) ?_⟩)⟩⟩
   refine ⟨_,rfl,.inl ⟨rfl,ys,SqL.of e14⟩,?_⟩
   refine ⟨_,rfl,(show (2:Nat)≤sizeLine by decide),fun l5 hl5=>?_⟩
   have s5:=Same.upd (o:=.lst [V.str "ok",.int 0]) hl5
   have e5:upd H4 l5 (.lst [V.str "ok",.int 0]) l5=some (.lst [V.str "ok",.int 0]):=upd_same
   generalize upd H4 l5 (.lst [V.str "ok",.int 0])=H5 at s5 e5⊢
   refine ⟨_,rfl,_,rfl,.inl ⟨l2,_,-1,.ref p,rfl,rfl,SqL.of (s5 _ _ e34),atI_last _ _,.inr (.inl ⟨p,_,3,.str z0,rfl,rfl,s5.seqT sp,atI_nat (j:=3) rfl,rfl,.inl (.inr ⟨_,rfl,?_⟩)⟩)⟩⟩
   have ei:atI [V.str "ok",.int 0] (if decide (V.str z0=.str "read")=true then 1 else 0)=some (if V.str z0=.str "read" then .int 0 else .str "ok"):=by
    by_cases y:V.str z0=.str "read"
    ·rw [if_pos (decide_eq_true y),if_pos y];exact atI_nat (j:=1) rfl
    ·rw [if_neg (fun e=>y (of_decide_eq_true e)),if_neg y];exact atI_nat (j:=0) rfl
   refine .inl ⟨l5,_,_,_,rfl,rfl,SqL.of e5,ei,(show (3:Nat)≤sizeLine by decide),fun p6 hp6=>?_⟩
   have s6:=Same.upd (o:=.tup [.str "end",.int h,if V.str z0=.str "read" then .int 0 else .str "ok"]) hp6
   have e6:upd H5 p6 (.tup [.str "end",.int h,if V.str z0=.str "read" then .int 0 else .str "ok"]) p6=some (.tup [.str "end",.int h,if V.str z0=.str "read" then .int 0 else .str "ok"]):=upd_same
   generalize upd H5 p6 (.tup [.str "end",.int h,if V.str z0=.str "read" then .int 0 else .str "ok"])=H6 at s6 e6⊢
   have s46:=s5.trans s6
   have e16:=s46 _ _ e14
   have ty:Tups (KX w.params) H6 (upd H6 l (.lst (ys++[.ref p6]))):=Tups.lst e16
   refine ⟨l,ys,_,rfl,rfl,e16,Nat.lt_of_le_of_lt (m:=30) (by omega) (by decide),?_⟩
   rw [hce] at q
   exact ⟨_,rfl,q l _ _ (Same.keep (s04.trans s46) hl) upd_same (all2_snoc (forall2_mono (fun _ _ z=>EvAt.tups ((Tups.of s46).trans ty) z) al4) ⟨p6,rfl,ty _ _ (SqT.of e6)⟩)⟩
end
section
variable {P:Program} {w:World} {mg:Str→Option Value} {base:Heap}
theorem EvG.r {e:Ev} (h:EvG e):EvB e:=by
 cases e with
 | fin=>trivial
 | beg k n v x=>rcases h.2 with ⟨z,_⟩|⟨z,_⟩<;>exact ⟨_,z⟩
theorem clo_len (es:List Ev) (h:Int):(clo es h).length≤es.length + 1:=by
 unfold clo
 split
 ·rw [List.length_append];exact Nat.le_refl _
 ·exact Nat.le_succ _
def sp__law_more (K:PySem.W.Frag):Sp:=fun vs H Q _=>∃(te:Addr) (es:List Ev) (ys:List V) (nm:Str) (h i:Int) (b:Bool),vs=[.ref te,.str nm,.int h,.int i,.bl b]∧SqT K H te ys∧All2 (EvAt K H) es ys∧es.length≤24∧(∀e∈es,EvG e)∧∀l ys' H',Same H H'→H' l=some (.lst ys')→All2 (EvAt K H') (more es (.str nm) h i b) ys'→Q (.ref l) H'
theorem ok__law_more (T:TX (KX w.params) mg) (c__law_closed:Cal P w (KX w.params) mg base "_law_closed" ["events","hand"] 1 (sp__law_closed (KX w.params))):FnOk P w (KX w.params) mg base CX0 2 319 fd__law_more ["events","name","hand","worth","ended"] (sp__law_more (KX w.params)):=by
 refine (F__law_more w.params).ok sc__law_more (fun vs H Q E h=>?_) (fun cdv A outer s H vs Q E hr h=>?_)
 ·obtain ⟨te,es,ys,nm,h,i,b,rfl,_⟩:=h
  rfl
 ·obtain ⟨te,es,ys,nm,h,i,b,rfl,se,al,ln,evg,q⟩:=h
  refine ⟨_,(pss_cons (ps_set (i:=5) sc__law_more.nd rfl (by first|exact Or.inl rfl|exact Or.inr rfl) (pe_op opAdd (pe_cal c__law_closed (hr.mono (by first|decide|omega)) rfl (pa_cons (pv 0) (pa_cons (pv 2) pa_nil))) (pe_lst (pa_cons (pe_tup (pa_cons pe_str (pa_cons (pv 2) (pa_cons (pv 1) (pa_cons pe_str (pa_cons (pv 3) pa_nil)))))) pa_nil))))
   (pss_cons (ps_if (pt_val (pv 4) (fun _=>rfl))
   (pss_one (ps_expr (pe_append (pv 5) (pa_cons (pe_tup (pa_cons pe_str (pa_cons (pv 2) (pa_cons pe_str pa_nil)))) pa_nil))))
   pss_nil)
   (pss_one (ps_ret (pv 5))))),?_⟩
  refine seq_asg ?_
  refine ⟨_,rfl,_,rfl,te,es,ys,h,rfl,se,al,by omega,fun e he=>(evg e he).r,fun l ys' H1 s1 e1 al1=>?_⟩
  have lc:=clo_len es h
  have l1:ys'.length=(clo es h).length:=forall2_len al1
  refine ⟨_,rfl,_,rfl,_,rfl,(show (5:Nat)≤sizeLine by decide),fun p hp=>⟨(show (1:Nat)≤sizeLine by decide),fun l2 hl2=>?_⟩⟩
  have s2:=Same.upd (o:=.tup [.str "begin",.int h,.str nm,.str "write",.int i]) hp
  have e2:upd H1 p (.tup [.str "begin",.int h,.str nm,.str "write",.int i]) p=some (.tup [.str "begin",.int h,.str nm,.str "write",.int i]):=upd_same
  generalize upd H1 p (.tup [.str "begin",.int h,.str nm,.str "write",.int i])=H2 at s2 e2 hl2⊢
  have s3:=Same.upd (o:=.lst [V.ref p]) hl2
  have e3:upd H2 l2 (.lst [V.ref p]) l2=some (.lst [V.ref p]):=upd_same
  have s23:=s2.trans s3
  generalize upd H2 l2 (.lst [V.ref p])=H3 at s3 e3 s23⊢
  refine .inr (.inr (.inl ⟨l,l2,_,_,rfl,rfl,s23 _ _ e1,e3,Nat.le_trans (m:=100) (by rw [l1];show (clo es h).length + 1≤100;omega) (by decide),fun l3 hl3=>?_⟩))
  have s4:=Same.upd (o:=.lst (ys'++[V.ref p])) hl3
  have e4:upd H3 l3 (.lst (ys'++[V.ref p])) l3=some (.lst (ys'++[V.ref p])):=upd_same
  have s14:=s23.trans s4
  have ep4:=(s3.trans s4) _ _ e2
  have f3:H l3=none:=(s1.trans s23).free hl3
  generalize upd H3 l3 (.lst (ys'++[V.ref p]))=H4 at s4 e4 s14 ep4⊢
  refine g_name ?_
  have al4:All2 (EvAt (KX w.params) H4) (clo es h++[.beg h (.str nm) (.str "write") (.int i)]) (ys'++[V.ref p]):=all2_snoc (forall2_mono (fun _ _ z=>EvAt.tups (.of s14) z) al1) ⟨p,rfl,SqT.of ep4⟩
  refine sq_if ?_
  refine ⟨_,rfl,b,rfl,?_⟩
  unfold more at q
  cases b with
  | false=>
   refine iteN (by decide) ?_
   rw [if_neg (by decide),List.append_nil] at q
   exact ⟨_,rfl,q l3 _ H4 (s1.trans s14) e4 al4⟩
  | true=>
   refine iteP rfl ?_
   rw [if_pos rfl] at q
   refine ⟨_,rfl,.inl ⟨rfl,_,SqL.of e4⟩,_,rfl,(show (3:Nat)≤sizeLine by decide),fun p5 hp5=>?_⟩
   have s5:=Same.upd (o:=.tup [.str "end",.int h,.str "ok"]) hp5
   have e5:upd H4 p5 (.tup [.str "end",.int h,.str "ok"]) p5=some (.tup [.str "end",.int h,.str "ok"]):=upd_same
   generalize upd H4 p5 (.tup [.str "end",.int h,.str "ok"])=H5 at s5 e5⊢
   have ty:Tups (KX w.params) H5 (upd H5 l3 (.lst (ys'++[V.ref p]++[.ref p5]))):=Tups.lst (s5 _ _ e4)
   refine ⟨l3,_,_,rfl,rfl,s5 _ _ e4,Nat.lt_of_le_of_lt (m:=100) (by rw [List.length_append,l1];show (clo es h).length + 1≤100;omega) (by decide),?_⟩
   exact ⟨_,rfl,q l3 _ _ (Same.keep ((s1.trans s14).trans s5) f3) upd_same (all2_snoc (forall2_mono (fun _ _ z=>EvAt.tups ((Tups.of s5).trans ty) z) al4) ⟨p5,rfl,ty _ _ (SqT.of e5)⟩)⟩
def ThG (K:PySem.W.Frag) (H:Hp) (pt:Addr) (es:List Ev):Prop:=∃qs,∃tps:List (Str×Str),SqT K H pt qs∧All2 (fun (tp:Str×Str) y=>∃p,y=V.ref p∧SqT K H p [.str tp.1,.str tp.2]) tps qs∧tps.length≤2∧(∀tp∈tps,tp.2∈fiveK)∧(tps.map (fun x=>x.2)≠(["register"]:List Str)∨(tps.map (fun x=>x.2)=(["register"]:List Str)∧(∀e∈es,EvG e)∧BadR (dueR es)))
theorem ThG.tups {K:PySem.W.Frag} {H H':Hp} {pt:Addr} {es:List Ev} (t:Tups K H H') (h:ThG K H pt es):ThG K H' pt es:=by
 obtain ⟨qs,tps,a,b,c⟩:=h
 exact ⟨qs,tps,t _ _ a,forall2_mono (fun _ _ z=>z.elim fun p z=>⟨p,z.1,t _ _ z.2⟩) b,c⟩
theorem other_ne {z nm:Str} {c l:Nat} (hl:nm.cps.toList.getLast? = some l) (ne:c≠l):z++(⟨#[c]⟩:Str)≠nm:=fun e=>by
 have h:(z++(⟨#[c]⟩:Str)).cps.toList.getLast? = some c:=by
  show ((z.cps++#[c]).toList).getLast? = some c
  rw [Array.toList_append,List.getLast?_append]
  rfl
 rw [e,hl] at h
 exact ne (Option.some.inj h).symm
theorem atI_lastN {xs:List Nat} (h:xs≠[]) :∃l,atI xs (-1)=some l∧xs.getLast? = some l:=by
 obtain ⟨fs,e,rfl⟩:=snoc_of h
 exact ⟨e,atI_last fs e,by rw [List.getLast?_append];rfl⟩
def actOf:Nat→V×V
 | _=>(.non,.non)
theorem five_at {t:Int} (h0:0≤t) (h1:t < 5) :∃(j:Nat) (k:Str),t=j∧j < 5∧fiveK[j]? = some k∧atI (fiveK.map V.str) t=some (.str k)∧∀m,m < j→fiveK[m]?≠some k:=by
 obtain ⟨j,rfl⟩ :∃j:Nat,t=j:=⟨t.toNat,by omega⟩
 have hj:j < 5:=by omega
 match j,hj with
 | 0,_=>exact ⟨0,_,rfl,by decide,rfl,atI_nat (j:=0) rfl,fun m hm=>absurd hm (Nat.not_lt_zero _)⟩
 | 1,_=>exact ⟨1,_,rfl,by decide,rfl,atI_nat (j:=1) rfl,by intro m hm;match m,hm with|0,_=>decide +kernel⟩
 | 2,_=>exact ⟨2,_,rfl,by decide,rfl,atI_nat (j:=2) rfl,by intro m hm;match m,hm with|0,_=>decide +kernel|1,_=>decide +kernel⟩
 | 3,_=>exact ⟨3,_,rfl,by decide,rfl,atI_nat (j:=3) rfl,by intro m hm;match m,hm with|0,_=>decide +kernel|1,_=>decide +kernel|2,_=>decide +kernel⟩
 | 4,_=>exact ⟨4,_,rfl,by decide,rfl,atI_nat (j:=4) rfl,by intro m hm;match m,hm with|0,_=>decide +kernel|1,_=>decide +kernel|2,_=>decide +kernel|3,_=>decide +kernel⟩
end
section
variable {P:Program} {w:World} {mg:Str→Option Value} {base:Heap}
def TurG (K:PySem.W.Frag) (H:Hp) (p:Addr) (es:List Ev):Prop:=∃ta ev ys,H p=some (.tup [.ref ta,.ref ev])∧ThG K H ta es∧(SqL K H ev ys∨SqT K H ev ys)∧All2 (EvAt K H) es ys∧EWf [] es∧es.length≤30
def sp__law_beside (K:PySem.W.Frag):Sp:=fun vs H Q _=>∃(t pt te th r:Addr) (nm:Str) (es:List Ev) (ys:List V),vs=[.ref t,.ref r]∧SqT K H t [.ref pt,.ref te]∧SqT K H pt [.ref th]∧SqT K H th [.str nm,.str "register"]∧SqT K H te ys∧All2 (EvAt K H) es ys∧EWf [] es∧es.length≤24∧(∀e∈es,EvG e)∧RowAt H r∧1≤nm.length∧nm.length≤8∧∀p es' H',Rw r H H'→TurG K H' p es'→Q (.ref p) H'
theorem ok__law_beside (T:TX (KX w.params) mg) (c__law_take:Cal P w (KX w.params) mg base "_law_take" ["row","many"] 1 sp__law_take) (c__law_closed:Cal P w (KX w.params) mg base "_law_closed" ["events","hand"] 1 (sp__law_closedL (KX w.params))):FnOk P w (KX w.params) mg base CX0 2 326 fd__law_beside ["tale","row"] (sp__law_beside (KX w.params)):=by
 refine (F__law_beside w.params).ok sc__law_beside (fun vs H Q E h=>?_) (fun cdv A outer s H vs Q E hr h=>?_)
 ·obtain ⟨t,pt,te,th,r,nm,es,ys,rfl,_⟩:=h
  rfl
 ·obtain ⟨t,pt,te,th,r,nm,es,ys,rfl,st,sp,sh,se,al,wf,ln,evg,R,n1,n8,q⟩:=h
  refine q_of (qss_cons (QS.mk (ps_asg (pv 0) (pg_tup rfl (pgs_cons (pg_name (i:=2) sc__law_beside.nd rfl (by first|exact Or.inl rfl|exact Or.inr rfl)) (pgs_cons (pg_name (i:=3) sc__law_beside.nd rfl (by first|exact Or.inl rfl|exact Or.inr rfl)) pgs_nil)))))
   (qss_cons (QS.mk (ps_set (i:=4) sc__law_beside.nd rfl (by first|exact Or.inl rfl|exact Or.inr rfl) (pe_ix ix_seq (pe_ix ix_seq (pv 2) pe_int (fun _ _=>rfl)) pe_int (fun _ _=>rfl))))
   (qss_cons (QS.mk (ps_set (i:=5) sc__law_beside.nd rfl (by first|exact Or.inl rfl|exact Or.inr rfl) (pe_slice slSeq (pe_ix ix_seq (pe_lst (pa_cons pe_str (pa_cons pe_str (pa_cons (pe_op opAdd (pv 4) pe_str) (pa_cons (pe_op opAdd pe_str (pv 4)) pa_nil))))) (pe_cal c__law_take (hr.mono (by first|decide|omega)) rfl (pa_cons (pv 1) (pa_cons pe_int pa_nil))) (fun _ _=>rfl)) po_none (po_some pe_int))))
   (qss_cons (qs_if (pt_cmpR opEq (pv 5) (pv 4) (nomark _))
   (qss_one (qs_set (i:=5) sc__law_beside.nd rfl (by first|exact Or.inl rfl|exact Or.inr rfl) (qe_op opAdd (QE.mk (pe_slice slSeq (pv 4) po_none (po_some (pe_un un_neg pe_int)))) (qe_ix ix_seq (qe_lst (qa_cons (QE.mk pe_str) (qa_cons (QE.mk pe_str) qa_nil))) (QE.mk (pe_callTy call_int rfl (T.no (n_int _)) boot_int (pa_cons (pe_cmpR opEq (pe_ix ix_seq (pv 4) (pe_un un_neg pe_int) (fun _ _=>rfl)) pe_str (nomark _)) pa_nil))) (fun _ _=>rfl)))))
   (QSs.mk pss_nil))
   (qss_cons (qs_set (i:=6) sc__law_beside.nd rfl (by first|exact Or.inl rfl|exact Or.inr rfl) (qe_ix ix_seq (qe_lst (qa_cons (QE.mk pe_str) (qa_cons (QE.mk pe_str) (qa_cons (QE.mk pe_str) (qa_cons (QE.mk pe_str) (qa_cons (QE.mk pe_str) qa_nil)))))) (QE.mk (pe_cal c__law_take (hr.mono (by first|decide|omega)) rfl (pa_cons (pv 1) (pa_cons pe_int pa_nil)))) (fun _ _=>rfl)))
   (qss_cons (qs_set (i:=7) sc__law_beside.nd rfl (by first|exact Or.inl rfl|exact Or.inr rfl) (qe_lst (qa_cons (qe_tup (qa_cons (QE.mk pe_str) (qa_cons (QE.mk pe_non) qa_nil))) (qa_cons (qe_tup (qa_cons (QE.mk pe_str) (qa_cons (QE.mk pe_int) qa_nil))) (qa_cons (qe_tup (qa_cons (QE.mk pe_str) (qa_cons (QE.mk pe_int) qa_nil))) (qa_cons (qe_tup (qa_cons (QE.mk pe_str) (qa_cons (QE.mk pe_int) qa_nil))) (qa_cons (qe_tup (qa_cons (QE.mk pe_str) (qa_cons (qe_tup (qa_cons (QE.mk pe_int) (qa_cons (QE.mk pe_int) qa_nil))) qa_nil))) qa_nil)))))))
   (qss_cons (QS.mk (ps_asg (pe_ix ix_seq (pv 7) (pe_index (pe_lst (pa_cons pe_str (pa_cons pe_str (pa_cons pe_str (pa_cons pe_str (pa_cons pe_str pa_nil)))))) (pa_cons (pv 6) pa_nil)) (fun _ _=>rfl)) (pg_tup rfl (pgs_cons (pg_name (i:=8) sc__law_beside.nd rfl (by first|exact Or.inl rfl|exact Or.inr rfl)) (pgs_cons (pg_name (i:=9) sc__law_beside.nd rfl (by first|exact Or.inl rfl|exact Or.inr rfl)) pgs_nil)))))
   (qss_cons (QS.mk (ps_set (i:=10) sc__law_beside.nd rfl (by first|exact Or.inl rfl|exact Or.inr rfl) (pe_callTy call_list_of rfl (T.no (n_list _)) boot_list (pa_cons (pv 3) pa_nil))))
   (qss_cons (QS.mk (ps_if (pt_cmpR opEq (pe_cal c__law_take (hr.mono (by first|decide|omega)) rfl (pa_cons (pv 1) (pa_cons pe_int pa_nil))) pe_int (nomark _))
   (pss_cons (ps_set (i:=10) sc__law_beside.nd rfl (by first|exact Or.inl rfl|exact Or.inr rfl) (pe_op opAdd (pe_cal c__law_closed (hr.mono (by first|decide|omega)) rfl (pa_cons (pv 10) (pa_cons pe_int pa_nil))) (pe_lst (pa_cons (pe_tup (pa_cons pe_str (pa_cons pe_int (pa_cons (pv 5) (pa_cons (pv 8) (pa_cons (pv 9) pa_nil)))))) pa_nil))))
   (pss_one (ps_if (pt_cmpR opEq (pe_cal c__law_take (hr.mono (by first|decide|omega)) rfl (pa_cons (pv 1) (pa_cons pe_int pa_nil))) pe_int (nomark _))
   (pss_one (ps_expr (pe_append (pv 10) (pa_cons (pe_tup (pa_cons pe_str (pa_cons pe_int (pa_cons (pe_ix ix_seq (pe_lst (pa_cons pe_str (pa_cons pe_int pa_nil))) (pe_callTy call_int rfl (T.no (n_int _)) boot_int (pa_cons (pe_cmpR opNe (pv 8) pe_str (nomark _)) pa_nil)) (fun _ _=>rfl)) pa_nil)))) pa_nil))))
   pss_nil)))
   pss_nil))
   (qss_one (QS.mk (ps_ret (pe_tup (pa_cons (pe_callTy call_tuple_of rfl (T.no (n_tuple _)) boot_tuple (pa_cons (pe_callB call_sortedT rfl (T.no (n_sorted _)) boot_sorted (pa_cons (pe_lst (pa_cons (pe_ix ix_seq (pv 2) pe_int (fun _ _=>rfl)) (pa_cons (pe_tup (pa_cons (pv 5) (pa_cons (pv 6) pa_nil))) pa_nil))) pa_nil)) pa_nil)) (pa_cons (pv 10) pa_nil))))))))))))))) ?_
  have ly:ys.length=es.length:=forall2_len al
  refine ⟨_,rfl,t,_,rfl,st,rfl,_,_,rfl,_,_,rfl,rfl,?_⟩
  refine t_nx (seq_asg ?_)
  refine ⟨_,rfl,.inr (.inl ⟨pt,_,0,.ref th,rfl,rfl,sp,atI_nat (j:=0) rfl,.inr (.inl ⟨th,_,0,.str nm,rfl,rfl,sh,atI_nat (j:=0) rfl,?_⟩)⟩)⟩
  refine g_name ?_
  refine seq_asg ?_
  have lq:("q" : Str).length=1:=by decide +kernel
  have lx:("x" : Str).length=1:=by decide +kernel
  refine ⟨_,rfl,.inr (.inl ⟨_,_,rfl,rfl,by rw [lq];exact Nat.le_trans (m:=9) (by omega) (by decide),_,rfl,.inr (.inl ⟨_,_,rfl,rfl,by rw [lx];exact Nat.le_trans (m:=9) (by omega) (by decide),(show (4:Nat)≤sizeLine by decide),fun l1 hl1=>?_⟩)⟩)⟩
  have s1:=Same.upd (o:=.lst [V.str "a",.str "zz",.str (nm++"q"),.str ("x"++nm)]) hl1
  have e1:upd H l1 (.lst [V.str "a",.str "zz",.str (nm++"q"),.str ("x"++nm)]) l1=some (.lst [V.str "a",.str "zz",.str (nm++"q"),.str ("x"++nm)]):=upd_same
  have n1r:=R.fresh hl1
  have R1:=R.same s1
  generalize upd H l1 (.lst [V.str "a",.str "zz",.str (nm++"q"),.str ("x"++nm)])=H1 at s1 e1 R1⊢
  refine ⟨_,rfl,r,4,rfl,R1,by decide,by decide,fun t2 H2 w2 t20 t21=>?_⟩
  have w02:Rw r H H2:=(R.rw.same s1).trans w2
  obtain ⟨v,hv,hm⟩:=atI_of (xs:=[V.str "a",.str "zz",.str (nm++"q"),.str ("x"++nm)]) t20 t21
  obtain ⟨z,rfl,hz⟩ :∃z:Str,v=.str z∧z.length≤9:=by
   simp only [List.mem_cons,List.not_mem_nil,or_false] at hm
   rcases hm with rfl|rfl|rfl|rfl
   ·exact ⟨_,rfl,by decide +kernel⟩
   ·exact ⟨_,rfl,by decide +kernel⟩
   ·exact ⟨_,rfl,by rw [PySem.Str.length_append,lq];omega⟩
   ·exact ⟨_,rfl,by rw [PySem.Str.length_append,lx];omega⟩
  refine .inl ⟨l1,_,_,_,rfl,rfl,SqL.of (w2.k _ _ n1r e1),hv,8,rfl,.inr (.inr ⟨z,rfl,Nat.le_trans (m:=9) hz (by decide),?_⟩)⟩
  refine g_name ?_
  -- the other name
  refine seq_any (fun σ1 H3=>Rw r H H3∧∃other:Str,other≠nm∧σ1=[some (.ref t),some (.ref r),some (.ref pt),some (.ref te),some (.str nm),some (.str other),none,none,none,none,none]) ?_ (fun tl=>?_)
  rotate_left
  ·refine ⟨_,rfl,_,rfl,rfl,_,rfl,?_⟩
   by_cases eo:Txt.slice z none (some 8)=nm
   rotate_left
   ·refine iteN (fun e=>eo (by have:=of_decide_eq_true e;injection this)) (tl _ _ ⟨w02,_,eo,rfl⟩)
   refine iteP (decide_eq_true (by rw [eo])) ?_
   have hne:nm.cps.toList≠[]:=fun e=>by
    have:nm.cps.toList.length=nm.length:=rfl
    rw [e] at this
    have:nm.length=0:=this.symm
    omega
   obtain ⟨l,hl,hll⟩:=atI_lastN hne
   refine ⟨_,rfl,_,rfl,(-1),rfl,.inr (.inr ⟨nm,rfl,Nat.le_trans (m:=8) n8 (by decide),?_⟩)⟩
   refine ⟨(show (2:Nat)≤sizeLine by decide),fun l3 hl3=>?_⟩
   have s3:=Same.upd (o:=.lst [V.str "b",.str "c"]) hl3
   have e3:upd H2 l3 (.lst [V.str "b",.str "c"]) l3=some (.lst [V.str "b",.str "c"]):=upd_same
   generalize upd H2 l3 (.lst [V.str "b",.str "c"])=H3 at s3 e3⊢
   refine ⟨_,rfl,_,rfl,.inr (.inr ⟨_,-1,l,rfl,rfl,Nat.le_trans (m:=8) n8 (by decide),hl,rfl,.inl (.inr ⟨_,rfl,?_⟩)⟩)⟩
   have lsl:(Txt.slice nm none (some (-1))).length≤8:=Nat.le_trans (Txt.slice_le nm _ _) n8
   by_cases eb:V.str (⟨#[l]⟩:Str)=.str "b"
   ·rw [if_pos (decide_eq_true eb)]
    have el:l=98:=by
     injection eb with eb
     have:=congrArg (fun z:Str=>z.cps.toList) eb
     have e2:("b" : Str).cps.toList=[98]:=by decide +kernel
     have h3:[l]=[98]:=this.trans e2
     injection h3
    refine .inl ⟨l3,_,1,.str "c",rfl,rfl,SqL.of e3,atI_nat (j:=1) rfl,.inr (.inl ⟨_,_,rfl,rfl,?_,tl _ _ ⟨w02.same s3,_,?_,rfl⟩⟩)⟩
    ·rw [show ("c" : Str).length=1 by decide +kernel];exact Nat.le_trans (m:=9) (by omega) (by decide)
    ·rw [show ("c" : Str)=(⟨#[99]⟩:Str) by decide +kernel]
     exact other_ne hll (by omega)
   ·rw [if_neg (fun e=>eb (of_decide_eq_true e))]
    refine .inl ⟨l3,_,0,.str "b",rfl,rfl,SqL.of e3,atI_nat (j:=0) rfl,.inr (.inl ⟨_,_,rfl,rfl,?_,tl _ _ ⟨w02.same s3,_,?_,rfl⟩⟩)⟩
    ·rw [show ("b" : Str).length=1 by decide +kernel];exact Nat.le_trans (m:=9) (by omega) (by decide)
    ·have e2:("b" : Str)=(⟨#[98]⟩:Str):=by decide +kernel
     rw [e2] at eb⊢
     exact other_ne hll fun e=>eb (by rw [e])
  rintro σ1 H3 ⟨w03,other,ono,rfl⟩
  refine seq_asg ?_
  refine ⟨(show (5:Nat)≤sizeLine by decide),fun l4 hl4=>?_⟩
  have s4:=Same.upd (o:=.lst (fiveK.map V.str)) hl4
  have e4:upd H3 l4 (.lst (fiveK.map V.str)) l4=some (.lst (fiveK.map V.str)):=upd_same
  have n4r:=w03.r.fresh hl4
  have w04:=w03.same s4
  refine ⟨_,rfl,r,5,rfl,w04.r,by decide,by decide,fun t5 H5 w5 t50 t51=>?_⟩
  obtain ⟨j,kd,rfl,hj5,hjk,hat,hfst⟩:=five_at t50 t51
  refine .inl ⟨l4,_,_,_,rfl,rfl,SqL.of (w5.k _ _ n4r e4),hat,?_⟩
  have w05:=w04.trans w5
  clear e4
  refine g_name ?_
  -- acts
  refine seq_any (fun σ1 H6=>∃la a1 a2 a3 a4 a5 av,Rw r H H6∧H6 la=some (.lst [.ref a1,.ref a2,.ref a3,.ref a4,.ref a5])∧H6 a1=some (.tup [.str "read",.non])∧H6 a2=some (.tup [.str "add",.int 4])∧H6 a3=some (.tup [.str "put",.int 4])∧H6 a4=some (.tup [.str "has",.int 4])∧H6 a5=some (.tup [.str "swap",av])∧σ1=[some (.ref t),some (.ref r),some (.ref pt),some (.ref te),some (.str nm),some (.str other),some (.str kd),some (.ref la),none,none,none]) ?_ (fun tl=>?_)
  rotate_left
  ·refine ⟨(show (2:Nat)≤sizeLine by decide),fun a1 h1=>⟨(show (2:Nat)≤sizeLine by decide),fun a2 h2=>⟨(show (2:Nat)≤sizeLine by decide),fun a3 h3=>⟨(show (2:Nat)≤sizeLine by decide),fun a4 h4=>⟨(show (2:Nat)≤sizeLine by decide),fun a6 h6=>⟨(show (2:Nat)≤sizeLine by decide),fun a5 h5=>⟨(show (5:Nat)≤sizeLine by decide),fun la hla=>?_⟩⟩⟩⟩⟩⟩⟩
   have q1:=Same.upd (o:=.tup [.str "read",.non]) h1
   have q2:=Same.upd (o:=.tup [.str "add",.int 4]) h2
   have q3:=Same.upd (o:=.tup [.str "put",.int 4]) h3
   have q4:=Same.upd (o:=.tup [.str "has",.int 4]) h4
   have q6:=Same.upd (o:=.tup [.int 0,.int 4]) h6
   have q5:=Same.upd (o:=.tup [.str "swap",.ref a6]) h5
   have q7:=Same.upd (o:=.lst [.ref a1,.ref a2,.ref a3,.ref a4,.ref a5]) hla
   refine tl _ _ ⟨la,a1,a2,a3,a4,a5,.ref a6,w05.same (q1.trans (q2.trans (q3.trans (q4.trans (q6.trans (q5.trans q7)))))),upd_same,(q2.trans (q3.trans (q4.trans (q6.trans (q5.trans q7))))) _ _ upd_same,(q3.trans (q4.trans (q6.trans (q5.trans q7)))) _ _ upd_same,(q4.trans (q6.trans (q5.trans q7))) _ _ upd_same,(q6.trans (q5.trans q7)) _ _ upd_same,q7 _ _ upd_same,rfl⟩
  rintro σ1 H6 ⟨la,a1,a2,a3,a4,a5,av,w06,ela,ea1,ea2,ea3,ea4,ea5,rfl⟩
  obtain ⟨pj,vb,wv,hpj,epj⟩ :∃(pj:Addr) (vb:Str) (wv:V),[V.ref a1,.ref a2,.ref a3,.ref a4,.ref a5][j]? = some (.ref pj)∧H6 pj=some (.tup [.str vb,wv]):=by
   match j,hj5 with
   | 0,_=>exact ⟨_,_,_,rfl,ea1⟩
   | 1,_=>exact ⟨_,_,_,rfl,ea2⟩
   | 2,_=>exact ⟨_,_,_,rfl,ea3⟩
   | 3,_=>exact ⟨_,_,_,rfl,ea4⟩
   | 4,_=>exact ⟨_,_,_,rfl,ea5⟩
  refine seq_any (fun σ1 H7=>Rw r H H7∧σ1=[some (.ref t),some (.ref r),some (.ref pt),some (.ref te),some (.str nm),some (.str other),some (.str kd),some (.ref la),some (.str vb),some wv,none]) ?_ (fun tl=>?_)
  rotate_left
  ·refine ⟨_,rfl,(show (5:Nat)≤sizeLine by decide),fun l7 hl7=>?_⟩
   have s7:=Same.upd (o:=.lst (fiveK.map V.str)) hl7
   refine ⟨.inl ⟨rfl,_,SqL.of (xs:=fiveK.map V.str) upd_same⟩,_,rfl,l7,fiveK,kd,j,rfl,rfl,upd_same,by decide,hjk,hfst,.inl ⟨la,_,j,.ref pj,rfl,rfl,SqL.of (s7 _ _ ela),atI_nat hpj,?_⟩⟩
   exact ⟨pj,_,rfl,SqT.of (s7 _ _ epj),rfl,_,_,rfl,_,_,rfl,rfl,tl _ _ ⟨w06.same s7,rfl⟩⟩
  rintro σ1 H7 ⟨w07,rfl⟩
  have t07:=rw_tups (K:=KX w.params) R w07
  refine seq_asg ?_
  refine ⟨_,rfl,te,ys,rfl,.inr (t07 _ _ se),fun l8 hl8=>?_⟩
  refine g_name ?_
  have s8:=Same.upd (o:=.lst ys) hl8
  have e8:upd H7 l8 (.lst ys) l8=some (.lst ys):=upd_same
  have n8r:=w07.r.fresh hl8
  have w08:=w07.same s8
  generalize upd H7 l8 (.lst ys)=H8 at s8 e8 w08⊢
  have t08:=rw_tups (K:=KX w.params) R w08
  have fin :∀(lf:Addr) (ys':List V) (es':List Ev) (H9:Hp),Rw r H H9→H9 lf=some (.lst ys')→lf≠r→All2 (EvAt (KX w.params) H9) es' ys'→EWf [] es'→es'.length≤30→True:=fun _ _ _ _ _ _ _ _ _ _=>trivial
  refine seq_any (fun σ1 H9=>∃lf ys' es',Rw r H H9∧H9 lf=some (.lst ys')∧All2 (EvAt (KX w.params) H9) es' ys'∧EWf [] es'∧es'.length≤30∧σ1=[some (.ref t),some (.ref r),some (.ref pt),some (.ref te),some (.str nm),some (.str other),some (.str kd),some (.ref la),some (.str vb),some wv,some (.ref lf)]) ?_ (fun tl=>?_)
  rotate_left
  ·have al8:=forall2_mono (fun _ _ z=>EvAt.tups t08 z) al
   refine ⟨_,rfl,r,2,rfl,w08.r,by decide,by decide,fun t9 H9 w9 t90 t91=>⟨rfl,_,rfl,?_⟩⟩
   have w09:=w08.trans w9
   have e9:=w9.k _ _ n8r e8
   have t89:=rw_tups (K:=KX w.params) w08.r w9
   have al9:=forall2_mono (fun _ _ z=>EvAt.tups t89 z) al8
   refine ite2 (fun _=>?_) fun _=>tl _ _ ⟨l8,ys,es,w09,e9,al9,wf,by omega,rfl⟩
   refine seq_asg ?_
   refine ⟨_,rfl,l8,es,ys,0,rfl,e9,al9,by omega,fun e he=>(evg e he).r,fun lc yc H10 s10 ec alc=>?_⟩
   have lc1:=clo_len es 0
   have lyc:yc.length=(clo es 0).length:=forall2_len alc
   obtain ⟨cw,co,_,_,_,_⟩:=clo_ok (es:=es) (h:=0) wf
   refine ⟨_,rfl,_,rfl,_,rfl,(show (5:Nat)≤sizeLine by decide),fun p hp=>⟨(show (1:Nat)≤sizeLine by decide),fun l2 hl2=>?_⟩⟩
   have s11:=Same.upd (o:=.tup [.str "begin",.int 0,.str other,.str vb,wv]) hp
   have e11:upd H10 p (.tup [.str "begin",.int 0,.str other,.str vb,wv]) p=some (.tup [.str "begin",.int 0,.str other,.str vb,wv]):=upd_same
   generalize upd H10 p (.tup [.str "begin",.int 0,.str other,.str vb,wv])=H11 at s11 e11 hl2⊢
   have s12:=Same.upd (o:=.lst [V.ref p]) hl2
   have e12:upd H11 l2 (.lst [V.ref p]) l2=some (.lst [V.ref p]):=upd_same
   have s1012:=s11.trans s12
   generalize upd H11 l2 (.lst [V.ref p])=H12 at s12 e12 s1012⊢
   refine .inr (.inr (.inl ⟨lc,l2,_,_,rfl,rfl,s1012 _ _ ec,e12,Nat.le_trans (m:=100) (by rw [lyc];show (clo es 0).length + 1≤100;omega) (by decide),fun l3 hl3=>?_⟩))
   have s13:=Same.upd (o:=.lst (yc++[V.ref p])) hl3
   have e13:upd H12 l3 (.lst (yc++[V.ref p])) l3=some (.lst (yc++[V.ref p])):=upd_same
   have s1013:=s1012.trans s13
   have ep13:=(s12.trans s13) _ _ e11
   have w013:Rw r H _:=w09.same (s10.trans s1013)
   have n3r:l3≠r:=(w09.same (s10.trans s1012)).r.fresh hl3
   generalize upd H12 l3 (.lst (yc++[V.ref p]))=H13 at s13 e13 s1013 ep13 w013⊢
   refine g_name ?_
   have al13:All2 (EvAt (KX w.params) H13) (clo es 0++[.beg 0 (.str other) (.str vb) wv]) (yc++[V.ref p]):=all2_snoc (forall2_mono (fun _ _ z=>EvAt.tups (.of s1013) z) alc) ⟨p,rfl,SqT.of ep13⟩
   have wf13:EWf [] (clo es 0++[.beg 0 (.str other) (.str vb) wv]):=cw.snoc co
   refine ⟨_,rfl,r,2,rfl,w013.r,by decide,by decide,fun t14 H14 w14 t140 t141=>⟨rfl,_,rfl,?_⟩⟩
   have w014:=w013.trans w14
   have e14:=w14.k _ _ n3r e13
   have t1314:=rw_tups (K:=KX w.params) w013.r w14
   have al14:=forall2_mono (fun _ _ z=>EvAt.tups t1314 z) al13
   refine ite2 (fun _=>?_) fun _=>tl _ _ ⟨l3,_,_,w014,e14,al14,wf13,by rw [List.length_append];show (clo es 0).length + 1≤30;omega,rfl⟩
   refine ⟨_,rfl,.inl ⟨rfl,_,SqL.of e14⟩,?_⟩
   refine ⟨(show (2:Nat)≤sizeLine by decide),fun l5 hl5=>?_⟩
   have s15:=Same.upd (o:=.lst [V.str "ok",.int 0]) hl5
   have e15:upd H14 l5 (.lst [V.str "ok",.int 0]) l5=some (.lst [V.str "ok",.int 0]):=upd_same
   generalize upd H14 l5 (.lst [V.str "ok",.int 0])=H15 at s15 e15⊢
   refine ⟨_,rfl,rfl,.inl (.inr ⟨_,rfl,?_⟩)⟩
   obtain ⟨av2,ei⟩ :∃av2,atI [V.str "ok",.int 0] (if (!decide (V.str vb=.str "put"))=true then 1 else 0)=some av2:=by
    cases (!decide (V.str vb=.str "put")) with
    | true=>exact ⟨_,atI_nat (j:=1) rfl⟩
    | false=>exact ⟨_,atI_nat (j:=0) rfl⟩
   refine .inl ⟨l5,_,_,_,rfl,rfl,SqL.of e15,ei,(show (3:Nat)≤sizeLine by decide),fun p6 hp6=>?_⟩
   have s16:=Same.upd (o:=.tup [.str "end",.int 0,av2]) hp6
   have e16:upd H15 p6 (.tup [.str "end",.int 0,av2]) p6=some (.tup [.str "end",.int 0,av2]):=upd_same
   generalize upd H15 p6 (.tup [.str "end",.int 0,av2])=H16 at s16 e16⊢
   have s1416:=s15.trans s16
   have e1416:=s1416 _ _ e14
   have ty:Tups (KX w.params) H16 (upd H16 l3 (.lst (yc++[V.ref p]++[.ref p6]))):=Tups.lst e1416
   refine ⟨l3,_,_,rfl,rfl,e1416,Nat.lt_of_le_of_lt (m:=100) (by rw [List.length_append,lyc];show (clo es 0).length + 1≤100;omega) (by decide),?_⟩
   have w016:=w014.same s1416
   have evn:EvAt (KX w.params) (upd H16 l3 (.lst (yc++[V.ref p]++[.ref p6]))) (.fin 0 av2) (.ref p6):=⟨p6,rfl,ty _ _ (SqT.of e16)⟩
   refine tl _ _ ⟨l3,_,clo es 0++[.beg 0 (.str other) (.str vb) wv]++[.fin 0 av2],?_,upd_same,all2_snoc (forall2_mono (fun _ _ z=>EvAt.tups ((Tups.of s1416).trans ty) z) al14) evn,wf13.snoc ?_,by rw [List.length_append,List.length_append];show (clo es 0).length + 1 + 1≤30;omega,rfl⟩
   ·exact ⟨fun b u nb e=>by
     by_cases zb:b=l3
     ·rw [zb] at e
      have f:H l3=none:=by
       cases hx:H l3 with
       | none=>rfl
       | some o=>
        have:=(w09.same (s10.trans s1012)).k _ _ n3r hx
        rw [hl3] at this
        cases this
      rw [f] at e
      cases e
     ·rw [upd_ne zb]
      exact w016.k b u nb e,by
     obtain ⟨x1,x2,x3,e,z⟩:=w016.r
     exact ⟨x1,x2,x3,by rw [upd_ne (Ne.symm n3r)];exact e,z⟩⟩
   ·rw [List.foldl_append]
    exact List.mem_append.mpr (.inr (List.mem_singleton.mpr rfl))
  rintro σ1 H9 ⟨lf,ys',es',w09,ef,alf,wff,lnf,rfl⟩
  have t09:=rw_tups (K:=KX w.params) R w09
  refine sq_ret ?_
  refine ⟨_,rfl,.inr (.inl ⟨pt,_,0,.ref th,rfl,rfl,t09 _ _ sp,atI_nat (j:=0) rfl,?_⟩)⟩
  refine ⟨_,rfl,_,rfl,(show (2:Nat)≤sizeLine by decide),fun p10 hp10=>⟨(show (2:Nat)≤sizeLine by decide),fun l11 hl11=>?_⟩⟩
  have s10:=Same.upd (o:=.tup [.str other,.str kd]) hp10
  have e10:upd H9 p10 (.tup [.str other,.str kd]) p10=some (.tup [.str other,.str kd]):=upd_same
  generalize upd H9 p10 (.tup [.str other,.str kd])=H10 at s10 e10 hl11⊢
  have s11:=Same.upd (o:=.lst [V.ref th,.ref p10]) hl11
  have e11:upd H10 l11 (.lst [V.ref th,.ref p10]) l11=some (.lst [V.ref th,.ref p10]):=upd_same
  have s911:=s10.trans s11
  generalize upd H10 l11 (.lst [V.ref th,.ref p10])=H11 at s11 e11 s911⊢
  have th11:=s911.seqT (t09 _ _ sh)
  have p1011:=s11 _ _ e10
  refine ⟨l11,_,[nm,other],rfl,SqL.of e11,.cons ⟨th,_,rfl,th11⟩ (.cons ⟨p10,_,rfl,SqT.of p1011⟩ .nil),(show (2:Nat)≤6 by decide),?_,fun l12 pm hl12 pp pw=>?_⟩
  ·rw [List.nodup_cons]
   exact ⟨fun z=>ono (List.mem_singleton.mp z).symm,by simp⟩
  have s12:=Same.upd (o:=.lst (pm.map fun i=>[V.ref th,.ref p10].getD i .non)) hl12
  refine ⟨l12,_,rfl,.inl ⟨SqL.of upd_same,fun c hc=>?_⟩⟩
  have s13:=Same.upd (o:=.tup (pm.map fun i=>[V.ref th,.ref p10].getD i .non)) hc
  have e13:upd (upd H11 l12 (.lst (pm.map fun i=>[V.ref th,.ref p10].getD i .non))) c (.tup (pm.map fun i=>[V.ref th,.ref p10].getD i .non)) c=some (.tup (pm.map fun i=>[V.ref th,.ref p10].getD i .non)):=upd_same
  have s913:=s911.trans (s12.trans s13)
  have th13:=(s12.trans s13).seqT th11
  have p13:=(s12.trans s13) _ _ p1011
  generalize upd (upd H11 l12 (.lst (pm.map fun i=>[V.ref th,.ref p10].getD i .non))) c (.tup (pm.map fun i=>[V.ref th,.ref p10].getD i .non))=H13 at s913 e13 th13 p13⊢
  refine ⟨_,rfl,(show (2:Nat)≤sizeLine by decide),fun px hpx=>?_⟩
  have s14:=Same.upd (o:=.tup [.ref c,.ref lf]) hpx
  have s914:=s913.trans s14
  refine q px es' _ (w09.same s914) ⟨c,lf,ys',upd_same,⟨_,pm.map fun i=>[(nm,("register" : Str)),(other,kd)].getD i ("",""),SqT.of (s14 _ _ e13),?_,?_,?_,?_⟩,.inl (SqL.of (s914 _ _ ef)),forall2_mono (fun _ _ z=>EvAt.tups (.of s914) z) alf,wff,lnf⟩
  ·have key :∀is:List Nat,(∀i∈is,i < 2)→All2 (fun (tp:Str×Str) y=>∃p,y=V.ref p∧SqT (KX w.params) (upd H13 px (.tup [.ref c,.ref lf])) p [.str tp.1,.str tp.2]) (is.map fun i=>[(nm,("register" : Str)),(other,kd)].getD i ("","")) (is.map fun i=>[V.ref th,.ref p10].getD i .non):=by
    intro is
    induction is with
    | nil=>intro _;exact .nil
    | cons i is ih=>
     intro h
     refine .cons ?_ (ih fun x hx=>h x (List.mem_cons_of_mem _ hx))
     match i,h i List.mem_cons_self with
     | 0,_=>exact ⟨th,rfl,s14.seqT th13⟩
     | 1,_=>exact ⟨p10,rfl,SqT.of (s14 _ _ p13)⟩
   exact key pm fun i hi=>List.mem_range.mp (pp.mem_iff.mp hi)
  ·rw [List.length_map,pp.length_eq]
   exact Nat.le_refl _
  ·intro tp htp
   obtain ⟨i,hi,rfl⟩:=List.mem_map.mp htp
   match i,List.mem_range.mp (pp.mem_iff.mp hi) with
   | 0,_=>exact List.mem_cons_self
   | 1,_=>exact List.mem_of_getElem? hjk
  ·refine .inl fun z=>?_
   have:=congrArg List.length z
   rw [List.length_map,List.length_map,pp.length_eq] at this
   cases this
end
section
variable {P:Program} {w:World} {mg:Str→Option Value} {base:Heap}
theorem inV_mem {x:Int} :∀{us:List V},(∀u∈us,u=.non∨∃i,u=.int i)→inV (.int x) us=true→x∈us.map intV
 | [],_,h=>by cases h
 | u :: us,hu,h=>by
  have h:(eqV u (.int x) || inV (.int x) us)=true:=h
  rcases Bool.or_eq_true_iff.mp h with z|z
  ·rcases hu u List.mem_cons_self with rfl|⟨i,rfl⟩
   ·cases z
   ·have:i=x:=eq_of_beq (show (i == x)=true from z)
    exact List.mem_cons.mpr (.inl this.symm)
  ·exact List.mem_cons_of_mem _ (inV_mem (fun y hy=>hu y (List.mem_cons_of_mem _ hy)) z)
theorem flat_us :∀{us:List V},(∀u∈us,u=.non∨∃i,u=.int i)→us.all flatV=true:=fun h=>List.all_eq_true.mpr fun u hu=>by
 rcases h u hu with rfl|⟨i,rfl⟩<;>rfl
theorem fresh_one {us:List V} (h :∀u∈us,u=.non∨∃i,u=.int i) (l:us.length≤24) :∃i,i < 29∧(!inV (.int (1 + (i:Nat))) us)=true:=by
 refine Classical.byContradiction fun no=>?_
 have all :∀i:Nat,i < 29→(1 + (i:Int))∈us.map intV:=fun i hi=>inV_mem h (by
  cases hx:inV (.int (1 + (i:Nat))) us with
  | true=>rfl
  | false=>exact absurd ⟨i,hi,by rw [hx];rfl⟩ no)
 have:=nodup_le (xs:=(List.range 29).map fun i=>(1:Int) + (i:Nat)) (ys:=us.map intV) (nodup_range_map 29 fun i j _ _ e=>by omega) fun x hx=>by
  obtain ⟨i,hi,rfl⟩:=List.mem_map.mp hx
  exact all i (List.mem_range.mp hi)
 rw [List.length_map,List.length_map,List.length_range] at this
 omega
theorem TurG.same {K:PySem.W.Frag} {H H':Hp} {p:Addr} {es:List Ev} (s:Same H H') (h:TurG K H p es):TurG K H' p es:=by
 obtain ⟨ta,ev,ys,a,b,c,d,e⟩:=h
 exact ⟨ta,ev,ys,s _ _ a,b.tups (.of s),c.imp (fun z=>s.seq z) (fun z=>s.seqT z),forall2_mono (fun _ _ z=>EvAt.tups (.of s) z) d,e⟩
theorem bg_at {es:List Ev} {v:Str} {t:Int} (h0:0≤t) (h1:t < ((((List.range es.length).filter (bgI es v)).map fun i=>V.int (i:Nat)).length:Nat)) :∃(k:Nat) (h:Int) (n x:V),atI (((List.range es.length).filter (bgI es v)).map fun i=>V.int (i:Nat)) t=some (.int (k:Nat))∧es[k]? = some (.beg h n (.str v) x):=by
 obtain ⟨y,hy,hm⟩:=atI_of (xs:=((List.range es.length).filter (bgI es v)).map fun i=>V.int (i:Nat)) h0 h1
 obtain ⟨k,hk,rfl⟩:=List.mem_map.mp hm
 have hb:=(List.mem_filter.mp hk).2
 unfold bgI at hb
 cases he:es[k]? with
 | none=>rw [he] at hb;cases hb
 | some e=>
  rw [he] at hb
  cases e with
  | fin=>cases hb
  | beg h n x y=>
   have:x=.str v:=of_decide_eq_true hb
   subst this
   exact ⟨k,h,n,y,hy,he⟩
theorem wr_int {es:List Ev} (g :∀e∈es,EvG e) {k:Nat} {h:Int} {n x:V} (hk:es[k]? = some (.beg h n (.str "write") x)) :∃i,x=.int i:=by
 rcases (g _ (List.mem_of_getElem? hk)).2 with ⟨z,_⟩|⟨_,z⟩
 ·exact absurd z.symm rd_ne_wr
 ·exact z
def sp__law_turned (K:PySem.W.Frag):Sp:=fun vs H Q _=>∃(t pt te th r:Addr) (nm:Str) (es:List Ev) (ys:List V),vs=[.ref t,.ref r]∧SqT K H t [.ref pt,.ref te]∧SqT K H pt [.ref th]∧SqT K H th [.str nm,.str "register"]∧SqT K H te ys∧All2 (EvAt K H) es ys∧EWf [] es∧es.length≤24∧(∀e∈es,EvG e)∧RowAt H r∧1≤nm.length∧nm.length≤8∧(∀H',Rw r H H'→Q .non H')∧∀p es' H',Rw r H H'→TurG K H' p es'→Q (.ref p) H'
theorem ok__law_turned (T:TX (KX w.params) mg) (c__law_begins:Cal P w (KX w.params) mg base "_law_begins" ["events","verb"] 1 (sp__law_begins (KX w.params))) (c__law_take:Cal P w (KX w.params) mg base "_law_take" ["row","many"] 1 sp__law_take) (c__law_more:Cal P w (KX w.params) mg base "_law_more" ["events","name","hand","worth","ended"] 2 (sp__law_more (KX w.params))) (c__law_answered:Cal P w (KX w.params) mg base "_law_answered" ["events","at","answer"] 2 (sp__law_answered (KX w.params))) (c__law_beside:Cal P w (KX w.params) mg base "_law_beside" ["tale","row"] 2 (sp__law_beside (KX w.params))):FnOk P w (KX w.params) mg base CX0 3 331 fd__law_turned ["tale","row"] (sp__law_turned (KX w.params)):=by
 refine (F__law_turned w.params).ok sc__law_turned (fun vs H Q E h=>?_) (fun cdv A outer s H vs Q E hr h=>?_)
 ·obtain ⟨t,pt,te,th,r,nm,es,ys,rfl,_⟩:=h
  rfl
 ·obtain ⟨t,pt,te,th,r,nm,es,ys,rfl,st,sp,sh,se,al,wf,ln,evg,R,n1,n8,q0,q⟩:=h
  refine q_of (qss_cons (QS.mk (ps_asg (pv 0) (pg_tup rfl (pgs_cons (pg_name (i:=2) sc__law_turned.nd rfl (by first|exact Or.inl rfl|exact Or.inr rfl)) (pgs_cons (pg_name (i:=3) sc__law_turned.nd rfl (by first|exact Or.inl rfl|exact Or.inr rfl)) pgs_nil)))))
   (qss_cons (QS.mk (ps_set (i:=4) sc__law_turned.nd rfl (by first|exact Or.inl rfl|exact Or.inr rfl) (pe_ix ix_seq (pe_ix ix_seq (pv 2) pe_int (fun _ _=>rfl)) pe_int (fun _ _=>rfl))))
   (qss_cons (QS.mk (ps_set (i:=5) sc__law_turned.nd rfl (by first|exact Or.inl rfl|exact Or.inr rfl) (pe_cal c__law_begins (hr.mono (by first|decide|omega)) rfl (pa_cons (pv 3) (pa_cons pe_str pa_nil)))))
   (qss_cons (QS.mk (ps_set (i:=6) sc__law_turned.nd rfl (by first|exact Or.inl rfl|exact Or.inr rfl) (pe_cal c__law_begins (hr.mono (by first|decide|omega)) rfl (pa_cons (pv 3) (pa_cons pe_str pa_nil)))))
   (qss_cons (QS.mk (ps_set (i:=7) sc__law_turned.nd rfl (by first|exact Or.inl rfl|exact Or.inr rfl) (pe_cal c__law_take (hr.mono (by first|decide|omega)) rfl (pa_cons (pv 1) (pa_cons pe_int pa_nil)))))
   (qss_cons (QS.mk (ps_set (i:=8) sc__law_turned.nd rfl (by first|exact Or.inl rfl|exact Or.inr rfl) (pe_cmpR opEq (pe_cal c__law_take (hr.mono (by first|decide|omega)) rfl (pa_cons (pv 1) (pa_cons pe_int pa_nil))) pe_int (nomark _))))
   (qss_cons (QS.mk (ps_set (i:=9) sc__law_turned.nd rfl (by first|exact Or.inl rfl|exact Or.inr rfl) (pe_compG (xs:=["event"]) (g:=gName 0) (fr:=[]) rfl (pi_tup (pv 3)) (fun _ z=>absurd z List.not_mem_nil) (free_none rfl) (fun _ z=>absurd z List.not_mem_nil) (by decide +kernel) rfl (by decide +kernel) (fun _ _ _ _ _=>(pg_cname (N:=["event"]) 0 (by decide +kernel) rfl rfl)) (fun _ _ _ _ _=>(pf_one (pt_cmpR opEq (pe_ix (ix_seqK (K:=KX w.params) rfl) (pv 0) pe_int (fun _ _=>rfl)) pe_str (nomark _)))) (fun _ _ _ _ _=>(pe_ix (ix_seqK (K:=KX w.params) rfl) (pv 0) pe_int (fun _ _=>rfl))))))
   (qss_cons (QS.mk (ps_set (i:=10) sc__law_turned.nd rfl (by first|exact Or.inl rfl|exact Or.inr rfl) (pe_ix ix_seq (pe_compG (xs:=["one"]) (g:=gName 0) (fr:=[(9,"used")]) rfl (pi_range2 rfl (T.no (n_range _)) (pa_cons pe_int (pa_cons pe_int pa_nil))) (by intro p hp;obtain rfl:=List.mem_singleton.mp hp;first|exact ⟨rfl,.inl rfl⟩|exact ⟨rfl,.inr rfl⟩) (free_one (n:="used") (by decide +kernel) (fun _=>by first|exact .inl rfl|exact .inr rfl)) (by intro p hp;obtain rfl:=List.mem_singleton.mp hp;exact ⟨by decide +kernel,by first|exact .inl rfl|exact .inr rfl⟩) (by decide +kernel) rfl (by decide +kernel) (fun _ _ _ _ _=>(pg_cname (N:=["one","used"]) 0 (by decide +kernel) rfl rfl)) (fun _ _ _ _ _=>(pf_one (pt_cmpR (op_notIn_seqK (K:=KX w.params) rfl) (pv 0) (pv 1) (by with_unfolding_all rfl)))) (fun _ _ _ _ _=>(pv 0))) pe_int (fun _ _=>rfl))))
   (qss_cons (QS.mk (ps_set (i:=11) sc__law_turned.nd rfl (by first|exact Or.inl rfl|exact Or.inr rfl) pe_int))
   (qss_cons (QS.mk (ps_if (pt_cmpR (op_neL0 hr) (pv 5) (pe_lst pa_nil) (nomark _))
   (pss_one (ps_set (i:=11) sc__law_turned.nd rfl (by first|exact Or.inl rfl|exact Or.inr rfl) (pe_ix ix_seq (pe_ix ix_seq (pv 3) (pe_ix ix_seq (pv 5) pe_int (fun _ _=>rfl)) (fun _ _=>rfl)) pe_int (fun _ _=>rfl))))
   pss_nil))
   (qss_cons (QS.mk (ps_if (PW.pt (pw_and (pt_cmpR opEq (pv 7) pe_int (nomark _)) (pw_and1 (pt_cmpR (op_neL0 hr) (pv 5) (pe_lst pa_nil) (nomark _)))))
   (pss_one (ps_ret (pe_tup (pa_cons (pv 2) (pa_cons (pe_cal c__law_more (hr.mono (by first|decide|omega)) rfl (pa_cons (pv 3) (pa_cons (pv 4) (pa_cons (pe_op op_mod (pe_op opAdd (pe_op opAdd (pv 11) pe_int) (pe_cal c__law_take (hr.mono (by first|decide|omega)) rfl (pa_cons (pv 1) (pa_cons pe_int pa_nil)))) pe_int) (pa_cons (pv 10) (pa_cons (pv 8) pa_nil)))))) pa_nil)))))
   pss_nil))
   (qss_cons (QS.mk (ps_if (PW.pt (pw_and (pt_cmpR opEq (pv 7) pe_int (nomark _)) (pw_and1 (pt_cmpR (op_neL0 hr) (pv 5) (pe_lst pa_nil) (nomark _)))))
   (pss_one (ps_ret (pe_tup (pa_cons (pv 2) (pa_cons (pe_cal c__law_more (hr.mono (by first|decide|omega)) rfl (pa_cons (pv 3) (pa_cons (pv 4) (pa_cons (pv 11) (pa_cons (pe_ix ix_seq (pe_ix ix_seq (pv 3) (pe_ix ix_seq (pv 5) (pe_cal c__law_take (hr.mono (by first|decide|omega)) rfl (pa_cons (pv 1) (pa_cons (pe_callB callLen rfl (T.no (n_len _)) boot_len (pa_cons (pv 5) pa_nil)) pa_nil))) (fun _ _=>rfl)) (fun _ _=>rfl)) pe_int (fun _ _=>rfl)) (pa_cons (pv 8) pa_nil)))))) pa_nil)))))
   pss_nil))
   (qss_cons (QS.mk (ps_if (pt_cmpR opEq (pv 7) pe_int (nomark _))
   (pss_one (ps_ret (pe_tup (pa_cons (pv 2) (pa_cons (pe_cal c__law_more (hr.mono (by first|decide|omega)) rfl (pa_cons (pv 3) (pa_cons (pv 4) (pa_cons (pv 11) (pa_cons pe_int (pa_cons (pv 8) pa_nil)))))) pa_nil)))))
   pss_nil))
   (qss_cons (QS.mk (ps_if (PW.pt (pw_and (pt_cmpR opEq (pv 7) pe_int (nomark _)) (pw_and1 (pt_cmpR (op_neL0 hr) (pv 5) (pe_lst pa_nil) (nomark _)))))
   (pss_one (ps_ret (pe_tup (pa_cons (pv 2) (pa_cons (pe_cal c__law_answered (hr.mono (by first|decide|omega)) rfl (pa_cons (pv 3) (pa_cons (pe_ix ix_seq (pv 5) (pe_cal c__law_take (hr.mono (by first|decide|omega)) rfl (pa_cons (pv 1) (pa_cons (pe_callB callLen rfl (T.no (n_len _)) boot_len (pa_cons (pv 5) pa_nil)) pa_nil))) (fun _ _=>rfl)) (pa_cons (pe_ix ix_seq (pe_lst (pa_cons pe_int (pa_cons pe_str (pa_cons pe_int pa_nil)))) (pe_cal c__law_take (hr.mono (by first|decide|omega)) rfl (pa_cons (pv 1) (pa_cons pe_int pa_nil))) (fun _ _=>rfl)) pa_nil)))) pa_nil)))))
   pss_nil))
   (qss_cons (QS.mk (ps_if (PW.pt (pw_and (pt_cmpR opEq (pv 7) pe_int (nomark _)) (pw_and1 (pt_cmpR (op_neL0 hr) (pv 6) (pe_lst pa_nil) (nomark _)))))
   (pss_one (ps_ret (pe_tup (pa_cons (pv 2) (pa_cons (pe_cal c__law_answered (hr.mono (by first|decide|omega)) rfl (pa_cons (pv 3) (pa_cons (pe_ix ix_seq (pv 6) (pe_cal c__law_take (hr.mono (by first|decide|omega)) rfl (pa_cons (pv 1) (pa_cons (pe_callB callLen rfl (T.no (n_len _)) boot_len (pa_cons (pv 6) pa_nil)) pa_nil))) (fun _ _=>rfl)) (pa_cons (pe_ix ix_seq (pe_lst (pa_cons pe_str (pa_cons pe_str pa_nil))) (pe_cal c__law_take (hr.mono (by first|decide|omega)) rfl (pa_cons (pv 1) (pa_cons pe_int pa_nil))) (fun _ _=>rfl)) pa_nil)))) pa_nil)))))
   pss_nil))
   (qss_cons (QS.mk (ps_if (pt_cmpR opEq (pv 7) pe_int (nomark _))
   (pss_one (ps_ret (pe_cal c__law_beside (hr.mono (by first|decide|omega)) rfl (pa_cons (pv 0) (pa_cons (pv 1) pa_nil)))))
   pss_nil))
   (qss_cons (QS.mk (ps_if (pt_cmpR opEq (pv 7) pe_int (nomark _))
   (pss_one (ps_ret (pe_tup (pa_cons (pe_tup (pa_cons (pe_tup (pa_cons (pv 4) (pa_cons pe_str pa_nil))) pa_nil)) (pa_cons (pv 3) pa_nil)))))
   pss_nil))
   (qss_one (QS.mk (ps_ret pe_non)))))))))))))))))))) ?_
  have ly:ys.length=es.length:=forall2_len al
  refine ⟨_,rfl,t,_,rfl,st,rfl,_,_,rfl,_,_,rfl,rfl,?_⟩
  refine t_nx (seq_asg ?_)
  refine ⟨_,rfl,.inr (.inl ⟨pt,_,0,.ref th,rfl,rfl,sp,atI_nat (j:=0) rfl,.inr (.inl ⟨th,_,0,.str nm,rfl,rfl,sh,atI_nat (j:=0) rfl,?_⟩)⟩)⟩
  refine g_name ?_
  refine seq_asg ?_
  refine ⟨_,rfl,te,es,ys,"write",rfl,se,al,evg,ln,fun lw H1 s1 hlw ew=>?_⟩
  refine g_name ?_
  refine seq_asg ?_
  have al1:=forall2_mono (fun _ _ z=>EvAt.tups (.of s1) z) al
  refine ⟨_,rfl,te,es,ys,"read",rfl,s1.seqT se,al1,evg,ln,fun lr H2 s2 hlr er=>?_⟩
  refine g_name ?_
  have nwr:lw≠r:=R.fresh hlw
  have nrr:lr≠r:=(R.same s1).fresh hlr
  have w02:Rw r H H2:=R.rw.same (s1.trans s2)
  refine seq_asg ?_
  refine ⟨_,rfl,r,8,rfl,w02.r,by decide,by decide,fun kd H3 w3 k0 k1=>?_⟩
  refine g_name ?_
  refine seq_asg ?_
  refine ⟨_,rfl,r,2,rfl,w3.r,by decide,by decide,fun t4 H4 w4 t40 t41=>⟨rfl,?_⟩⟩
  refine g_name ?_
  generalize decide (V.int t4=V.int 1)=ended
  have w04:=(w02.trans w3).trans w4
  have w24:=w3.trans w4
  have ew4:=w24.k _ _ nwr (s2 _ _ ew)
  have er4:=w24.k _ _ nrr er
  have t04:=rw_tups (K:=KX w.params) R w04
  have al4:=forall2_mono (fun _ _ z=>EvAt.tups t04 z) al
  have se4:=t04 _ _ se
  -- used
  refine seq_asg ?_
  refine tcompF_Tp (K:=KX w.params) (a:=te) (xs:=ys) (H1:=H4) (fun i=>(match es[i]? with|some (.beg _ _ _ _)=>true|_=>false)) (fun i y _=>y=.non∨∃j,y=.int j) (fun _ _ _ _ _ z=>z) (fun R h=>⟨_,rfl,h⟩) se4 (Nat.le_trans (m:=24) (by omega) (by decide)) ?_ ?_
  ·intro i hi y H5 s5 hy KT KF h1 h2
   obtain ⟨e,he,ev⟩:=all2_get al4 hy
   have ev:=EvAt.tups (.of s5) ev
   have g:=evg e (List.mem_of_getElem? he)
   rw [he] at h1 h2
   cases e with
   | fin k a=>
    obtain ⟨p,rfl,sp⟩:=ev
    exact ⟨[some (.ref p)],rfl,rfl,_,rfl,.inr (.inl ⟨p,_,0,.str "end",rfl,rfl,sp,atI_nat (j:=0) rfl,rfl,_,rfl,iteN (by decide +kernel) (h2 rfl _ (Same.refl _))⟩)⟩
   | beg k n v x=>
    obtain ⟨p,rfl,sp⟩:=ev
    refine ⟨[some (.ref p)],rfl,rfl,_,rfl,.inr (.inl ⟨p,_,0,.str "begin",rfl,rfl,sp,atI_nat (j:=0) rfl,rfl,_,rfl,iteP (by decide +kernel) ?_⟩)⟩
    refine ⟨_,rfl,.inr (.inl ⟨p,_,4,x,rfl,rfl,sp,atI_nat (j:=4) rfl,h1 rfl _ _ (Same.refl _) ?_⟩)⟩
    rcases g.2 with ⟨_,z⟩|⟨_,z⟩
    ·exact .inl z
    ·exact .inr z
  intro lu H5 us s5 hlu fa
  have hus :∀u∈us,u=.non∨∃i,u=.int i:=fun u hu=>by
   obtain ⟨m,hm⟩:=List.mem_iff_getElem?.mp hu
   obtain ⟨_,_,z⟩:=all2_get fa hm
   exact z
  have lus:us.length≤24:=by
   rw [forall2_len fa]
   exact Nat.le_trans (List.length_filter_le _ _) (by rw [List.length_range];omega)
  have s6:=Same.upd (o:=.lst us) hlu
  have e6:upd H5 lu (.lst us) lu=some (.lst us):=upd_same
  have s46:=s5.trans s6
  generalize upd H5 lu (.lst us)=H6 at s6 e6 s46⊢
  refine g_name ?_
  -- fresh
  refine seq_asg ?_
  refine tcompR_rng2 (S:=Same) (n:=29) (lo:=1) (H1:=H6) (fun i=>!inV (.int (1 + (i:Nat))) us) (fun i y _=>y=.int (1 + (i:Nat))) (Same.refl _) (fun _ _ _ a b=>a.trans b) (fun _ _=>Same.refl _) (fun _ _ _ _ _ z=>z) (fun R h=>h) (by decide) (by decide) (fun j hj H7 s7 KT KF h1 h2=>?_) fun l7 H7 zs s7 hl7 fz=>?_
  ·refine ⟨[some (.int (1 + (j:Nat)))],rfl,rfl,?_⟩
   refine ⟨_,rfl,_,rfl,lu,us,rfl,.inl (SqL.of (s7 _ _ e6)),rfl,flat_us hus,_,rfl,?_⟩
   cases hb:inV (.int (1 + (j:Nat))) us with
   | true=>exact iteN (by rw [if_pos rfl];decide) (h2 (by rw [hb];rfl) _ (Same.refl _))
   | false=>exact iteP (by rw [if_pos rfl];rfl) ⟨_,rfl,h1 (by rw [hb];rfl) _ _ (Same.refl _) rfl⟩
  obtain ⟨fi,hfi,hfb⟩:=fresh_one hus lus
  have ezs:=forall2_fun fz
  obtain ⟨fr,zr,hz⟩ :∃(fr:Int) (zr:List V),zs=.int fr :: zr:=by
   have hmem:fi∈(List.range 29).filter fun i=>!inV (.int (1 + (i:Nat))) us:=List.mem_filter.mpr ⟨List.mem_range.mpr hfi,hfb⟩
   cases hl:(List.range 29).filter fun i=>!inV (.int (1 + (i:Nat))) us with
   | nil=>rw [hl] at hmem;cases hmem
   | cons a b=>rw [hl] at ezs;exact ⟨_,_,ezs⟩
  have s8:=Same.upd (o:=.lst zs) hl7
  have e8:upd H7 l7 (.lst zs) l7=some (.lst zs):=upd_same
  have s48:=s46.trans (s7.trans s8)
  generalize upd H7 l7 (.lst zs)=H8 at s8 e8 s48⊢
  subst hz
  refine .inl ⟨l7,_,0,.int fr,rfl,rfl,SqL.of e8,atI_nat (j:=0) rfl,?_⟩
  refine g_name ?_
  refine seq_asg ?_
  refine g_name ?_
  have w08:=w04.same s48
  have t08:=rw_tups (K:=KX w.params) R w08
  have al8:=forall2_mono (fun _ _ z=>EvAt.tups t08 z) al
  have se8:=t08 _ _ se
  have ew8:=s48 _ _ ew4
  have er8:=s48 _ _ er4
  -- from here on: what is asked of a turned tale
  have turn :∀(lf:Addr) (ys':List V) (es':List Ev) (H9 p:_),Rw r H H9→H9 lf=some (.lst ys')→All2 (EvAt (KX w.params) H9) es' ys'→EWf [] es'→es'.length≤30→(∀e∈es',EvG e)→BadR (dueR es')→H9 p=none→Q (.ref p) (upd H9 p (.tup [.ref pt,.ref lf])):=fun lf ys' es' H9 p w9 e9 a9 f9 l9 g9 b9 hp=>by
   have sx:=Same.upd (o:=.tup [.ref pt,.ref lf]) hp
   have t9:=(rw_tups (K:=KX w.params) R w9).trans (Tups.of sx)
   exact q p es' _ (w9.same sx) ⟨pt,lf,ys',upd_same,⟨_,[(nm,"register")],t9 _ _ sp,.cons ⟨th,rfl,t9 _ _ sh⟩ .nil,(show (1:Nat)≤2 by decide),fun tp htp=>by rw [List.mem_singleton.mp htp];exact List.mem_cons_self,.inr ⟨rfl,g9,b9⟩⟩,.inl (SqL.of (sx _ _ e9)),forall2_mono (fun _ _ z=>EvAt.tups (.of sx) z) a9,f9,l9⟩
  have ne0 :∀{l:List V},(decide (l≠[])=true)→0 < l.length:=fun h=>List.length_pos_iff.mpr (of_decide_eq_true h)
  -- the writer
  refine seq_any (fun σ1 H9=>∃wr:Int,Rw r H H9∧H9 lw=some (.lst (((List.range es.length).filter (bgI es "write")).map fun i=>V.int (i:Nat)))∧H9 lr=some (.lst (((List.range es.length).filter (bgI es "read")).map fun i=>V.int (i:Nat)))∧((((List.range es.length).filter (bgI es "write")).map fun i=>V.int (i:Nat))≠[]→∃(i:Int) (n:V),.beg wr n (.str "write") (.int i)∈es)∧σ1=[some (.ref t),some (.ref r),some (.ref pt),some (.ref te),some (.str nm),some (.ref lw),some (.ref lr),some (.int kd),some (.bl ended),some (.ref lu),some (.int fr),some (.int wr)]) ?_ (fun tl=>?_)
  rotate_left
  ·refine ⟨_,rfl,(show (0:Nat)≤sizeLine by decide),fun l9 hl9=>?_⟩
   have s9:=Same.upd (o:=.lst []) hl9
   refine ⟨lw,l9,_,rfl,rfl,SqL.of (s9 _ _ ew8),SqL.of upd_same,_,rfl,?_⟩
   generalize upd H8 l9 (.lst [])=H9 at s9⊢
   refine ite2 (fun hn=>?_) fun hn=>?_
   ·have pos:=ne0 hn
    obtain ⟨k,h,n,x,ha,hk⟩:=bg_at (es:=es) (v:="write") (t:=0) (Int.le_refl _) (by omega)
    obtain ⟨i,rfl⟩:=wr_int evg hk
    obtain ⟨y0,hy0,p0,rfl,sp0⟩:=all2_at al8 hk
    refine ⟨_,rfl,_,rfl,.inl ⟨lw,_,0,_,rfl,rfl,SqL.of (s9 _ _ ew8),ha,.inr (.inl ⟨te,_,_,.ref p0,rfl,rfl,s9.seqT se8,atI_nat hy0,.inr (.inl ⟨p0,_,1,.int h,rfl,rfl,s9.seqT sp0,atI_nat (j:=1) rfl,?_⟩)⟩)⟩⟩
    exact tl _ _ ⟨h,w08.same s9,s9 _ _ ew8,s9 _ _ er8,fun _=>⟨i,n,List.mem_of_getElem? hk⟩,rfl⟩
   ·exact tl _ _ ⟨5,w08.same s9,s9 _ _ ew8,s9 _ _ er8,fun z=>absurd (decide_eq_true z) hn,rfl⟩
  rintro σ1 H9 ⟨wr,w09,ew9,er9,hwr,rfl⟩
  clear e8 s8 s48 t08 al8 se8 ew8 er8 w08
  have nWr :∀{H':Hp},Same H9 H'→H' lw=some (.lst (((List.range es.length).filter (bgI es "write")).map fun i=>V.int (i:Nat))):=fun s=>s _ _ ew9
  generalize hlws:(((List.range es.length).filter (bgI es "write")).map fun i=>V.int (i:Nat))=lws at ew9 hwr nWr
  generalize hlrs:(((List.range es.length).filter (bgI es "read")).map fun i=>V.int (i:Nat))=lrs at er9
  have facts :∀{H':Hp},Rw r H H'→SqT (KX w.params) H' te ys∧All2 (EvAt (KX w.params) H') es ys:=fun w'=>⟨(rw_tups (K:=KX w.params) R w') _ _ se,forall2_mono (fun _ _ z=>EvAt.tups (rw_tups R w') z) al⟩
  -- kind 0
  refine seq_any (fun σ1 H10=>Same H9 H10∧σ1=[some (.ref t),some (.ref r),some (.ref pt),some (.ref te),some (.str nm),some (.ref lw),some (.ref lr),some (.int kd),some (.bl ended),some (.ref lu),some (.int fr),some (.int wr)]) ?_ (fun tl=>?_)
  rotate_left
  ·refine ⟨_,rfl,rfl,_,rfl,ite2 (fun _=>?_) fun _=>iteN (by decide) (tl _ _ ⟨Same.refl _,rfl⟩)⟩
   refine ⟨_,rfl,(show (0:Nat)≤sizeLine by decide),fun l10 hl10=>?_⟩
   have s10:=Same.upd (o:=.lst []) hl10
   refine ⟨lw,l10,_,rfl,rfl,SqL.of (s10 _ _ ew9),SqL.of upd_same,_,rfl,?_⟩
   generalize upd H9 l10 (.lst [])=H10 at s10⊢
   refine ite2 (fun hn=>?_) fun hn=>tl _ _ ⟨s10,rfl⟩
   obtain ⟨i0,n0,hm0⟩:=hwr (of_decide_eq_true hn)
   have w10:=w09.same s10
   refine ⟨_,rfl,_,rfl,_,rfl,_,rfl,.inl ⟨_,_,rfl,rfl,_,rfl,r,5,rfl,w10.r,by decide,by decide,fun t11 H11 w11 t110 t111=>.inl ⟨_,_,rfl,rfl,_,_,rfl,rfl,(show (0:Int) < 6 by decide),_,rfl,_,rfl,?_⟩⟩⟩
   have w011:=w10.trans w11
   obtain ⟨se11,al11⟩:=facts w011
   refine ⟨te,es,ys,nm,_,fr,ended,rfl,se11,al11,ln,evg,fun lf yf H12 s12 ef alf=>?_⟩
   obtain ⟨m1,m2,m3,m4,m5⟩:=more_ok (es:=es) (h:=(wr + 1 + t11) % 6) (i:=fr) (n:=nm) (b:=ended) wf evg
   refine ⟨(show (2:Nat)≤sizeLine by decide),fun p hp=>turn lf yf _ _ p (w011.same s12) ef alf m1 (by omega) m4 (.inr ?_) hp⟩
   rw [m3]
   refine ⟨wr,List.mem_append.mpr (.inl (wri_mem hm0).2),_,List.mem_append.mpr (.inr (List.mem_singleton.mpr rfl)),?_⟩
   omega
  rintro σ1 H10 ⟨s10,rfl⟩
  have w010:=w09.same s10
  have ew10:=s10 _ _ ew9
  have er10:=s10 _ _ er9
  -- kind 1
  refine seq_any (fun σ1 H11=>Same H10 H11∧σ1=[some (.ref t),some (.ref r),some (.ref pt),some (.ref te),some (.str nm),some (.ref lw),some (.ref lr),some (.int kd),some (.bl ended),some (.ref lu),some (.int fr),some (.int wr)]) ?_ (fun tl=>?_)
  rotate_left
  ·refine ⟨_,rfl,rfl,_,rfl,ite2 (fun _=>?_) fun _=>iteN (by decide) (tl _ _ ⟨Same.refl _,rfl⟩)⟩
   refine ⟨_,rfl,(show (0:Nat)≤sizeLine by decide),fun l11 hl11=>?_⟩
   have s11:=Same.upd (o:=.lst []) hl11
   refine ⟨lw,l11,_,rfl,rfl,SqL.of (s11 _ _ ew10),SqL.of upd_same,_,rfl,?_⟩
   generalize upd H10 l11 (.lst [])=H11 at s11⊢
   refine ite2 (fun hn=>?_) fun hn=>tl _ _ ⟨s11,rfl⟩
   have pos:=ne0 hn
   have w011:=w010.same s11
   have ew11:=s11 _ _ ew10
   refine ⟨_,rfl,_,rfl,_,rfl,_,rfl,_,rfl,_,rfl,_,rfl,_,rfl,.inl ⟨lw,_,rfl,.inl (SqL.of ew11),r,_,rfl,w011.r,by omega,?_,fun t12 H12 w12 t120 t121=>?_⟩⟩
   ·have:lws.length≤24:=by rw [←hlws,List.length_map];exact Nat.le_trans (List.length_filter_le _ _) (by rw [List.length_range];exact ln)
    omega
   have w012:=w011.trans w12
   obtain ⟨se12,al12⟩:=facts w012
   have ew12:=w12.k _ _ nwr ew11
   rw [←hlws] at t121
   obtain ⟨k,h,n,x,ha,hk⟩:=bg_at (es:=es) (v:="write") t120 t121
   rw [hlws] at ha
   obtain ⟨i,rfl⟩:=wr_int evg hk
   obtain ⟨y0,hy0,p0,rfl,sp0⟩:=all2_at al12 hk
   refine .inl ⟨lw,_,_,_,rfl,rfl,SqL.of ew12,ha,.inr (.inl ⟨te,_,_,.ref p0,rfl,rfl,se12,atI_nat hy0,.inr (.inl ⟨p0,_,4,.int i,rfl,rfl,sp0,atI_nat (j:=4) rfl,_,rfl,?_⟩)⟩)⟩
   refine ⟨te,es,ys,nm,wr,i,ended,rfl,se12,al12,ln,evg,fun lf yf H13 s13 ef alf=>?_⟩
   obtain ⟨m1,m2,m3,m4,m5⟩:=more_ok (es:=es) (h:=wr) (i:=i) (n:=nm) (b:=ended) wf evg
   refine ⟨(show (2:Nat)≤sizeLine by decide),fun p hp=>turn lf yf _ _ p (w012.same s13) ef alf m1 (by omega) m4 (.inl (bad_twice ?_)) hp⟩
   rw [m2]
   intro nd
   exact (List.nodup_append.mp nd).2.2 i (wri_mem (List.mem_of_getElem? hk)).1 i (List.mem_singleton.mpr rfl) rfl
  rintro σ1 H11 ⟨s11,rfl⟩
  have w011:=w010.same s11
  have ew11:=s11 _ _ ew10
  have er11:=s11 _ _ er10
  -- kind 2
  refine seq_any (fun σ1 H12=>Same H11 H12∧σ1=[some (.ref t),some (.ref r),some (.ref pt),some (.ref te),some (.str nm),some (.ref lw),some (.ref lr),some (.int kd),some (.bl ended),some (.ref lu),some (.int fr),some (.int wr)]) ?_ (fun tl=>?_)
  rotate_left
  ·refine ⟨_,rfl,rfl,_,rfl,ite2 (fun _=>?_) fun _=>tl _ _ ⟨Same.refl _,rfl⟩⟩
   obtain ⟨se12,al12⟩:=facts w011
   refine ⟨_,rfl,_,rfl,_,rfl,_,rfl,_,rfl,te,es,ys,nm,wr,0,ended,rfl,se12,al12,ln,evg,fun lf yf H13 s13 ef alf=>?_⟩
   obtain ⟨m1,m2,m3,m4,m5⟩:=more_ok (es:=es) (h:=wr) (i:=0) (n:=nm) (b:=ended) wf evg
   refine ⟨(show (2:Nat)≤sizeLine by decide),fun p hp=>turn lf yf _ _ p (w011.same s13) ef alf m1 (by omega) m4 (.inl (bad_zero ?_)) hp⟩
   rw [m2]
   exact List.mem_append.mpr (.inr (List.mem_singleton.mpr rfl))
  rintro σ1 H12 ⟨s12,rfl⟩
  have w012:=w011.same s12
  have ew12:=s12 _ _ ew11
  have er12:=s12 _ _ er11
  -- kind 3
  refine seq_any (fun σ1 H13=>Same H12 H13∧σ1=[some (.ref t),some (.ref r),some (.ref pt),some (.ref te),some (.str nm),some (.ref lw),some (.ref lr),some (.int kd),some (.bl ended),some (.ref lu),some (.int fr),some (.int wr)]) ?_ (fun tl=>?_)
  rotate_left
  ·refine ⟨_,rfl,rfl,_,rfl,ite2 (fun _=>?_) fun _=>iteN (by decide) (tl _ _ ⟨Same.refl _,rfl⟩)⟩
   refine ⟨_,rfl,(show (0:Nat)≤sizeLine by decide),fun l11 hl11=>?_⟩
   have s13:=Same.upd (o:=.lst []) hl11
   refine ⟨lw,l11,_,rfl,rfl,SqL.of (s13 _ _ ew12),SqL.of upd_same,_,rfl,?_⟩
   generalize upd H12 l11 (.lst [])=H13 at s13⊢
   refine ite2 (fun hn=>?_) fun hn=>tl _ _ ⟨s13,rfl⟩
   have pos:=ne0 hn
   have w013:=w012.same s13
   have ew13:=s13 _ _ ew12
   refine ⟨_,rfl,_,rfl,_,rfl,_,rfl,_,rfl,.inl ⟨lw,_,rfl,.inl (SqL.of ew13),r,_,rfl,w013.r,by omega,?_,fun t14 H14 w14 t140 t141=>?_⟩⟩
   ·have:lws.length≤24:=by rw [←hlws,List.length_map];exact Nat.le_trans (List.length_filter_le _ _) (by rw [List.length_range];exact ln)
    omega
   have w014:=w013.trans w14
   have ew14:=w14.k _ _ nwr ew13
   rw [←hlws] at t141
   obtain ⟨k,h,n,x,ha,hk⟩:=bg_at (es:=es) (v:="write") t140 t141
   rw [hlws] at ha
   refine .inl ⟨lw,_,_,_,rfl,rfl,SqL.of ew14,ha,(show (3:Nat)≤sizeLine by decide),fun l15 hl15=>?_⟩
   have s15:=Same.upd (o:=.lst [V.int 1,.str "none",.int 0]) hl15
   have e15:upd H14 l15 (.lst [V.int 1,.str "none",.int 0]) l15=some (.lst [V.int 1,.str "none",.int 0]):=upd_same
   have w015:=w014.same s15
   refine ⟨_,rfl,r,3,rfl,w015.r,by decide,by decide,fun t16 H16 w16 t160 t161=>?_⟩
   have w016:=w015.trans w16
   have n15:=w014.r.fresh hl15
   obtain ⟨a,hat,hma⟩:=atI_of (xs:=[V.int 1,.str "none",.int 0]) t160 t161
   refine .inl ⟨l15,_,_,_,rfl,rfl,SqL.of (w16.k _ _ n15 e15),hat,?_⟩
   obtain ⟨se16,al16⟩:=facts w016
   have hao:a≠.str "ok"∧((∃i,a=.int i)∨∃z,a=.str z):=by
    simp only [List.mem_cons,List.not_mem_nil,or_false] at hma
    rcases hma with rfl|rfl|rfl
    ·exact ⟨by decide +kernel,.inl ⟨_,rfl⟩⟩
    ·exact ⟨by decide +kernel,.inr ⟨_,rfl⟩⟩
    ·exact ⟨by decide +kernel,.inl ⟨_,rfl⟩⟩
   refine ⟨te,es,ys,k,h,n,.str "write",x,a,rfl,se16,al16,ln,wf,hk,fun lf yf es' H17 s17 ef alf wff lnf mem ⟨rr,hrm,r1,r2,m,r3⟩=>?_⟩
   refine ⟨(show (2:Nat)≤sizeLine by decide),fun p hp=>turn lf yf es' _ p (w016.same s17) ef alf wff (by omega) (fun e he=>?_) (.inl (bad_ans hrm ?_)) hp⟩
   ·rcases mem e he with z|rfl
    ·exact evg e z
    ·exact hao.2
   ·unfold ansB
    rw [r3]
    dsimp only
    rw [if_pos (show isW rr=true from decide_eq_true r1),r2]
    exact decide_eq_false hao.1
  rintro σ1 H13 ⟨s13,rfl⟩
  have w013:=w012.same s13
  have ew13:=s13 _ _ ew12
  have er13:=s13 _ _ er12
  -- kind 4
  refine seq_any (fun σ1 H14=>Same H13 H14∧σ1=[some (.ref t),some (.ref r),some (.ref pt),some (.ref te),some (.str nm),some (.ref lw),some (.ref lr),some (.int kd),some (.bl ended),some (.ref lu),some (.int fr),some (.int wr)]) ?_ (fun tl=>?_)
  rotate_left
  ·refine ⟨_,rfl,rfl,_,rfl,ite2 (fun _=>?_) fun _=>iteN (by decide) (tl _ _ ⟨Same.refl _,rfl⟩)⟩
   refine ⟨_,rfl,(show (0:Nat)≤sizeLine by decide),fun l11 hl11=>?_⟩
   have s14:=Same.upd (o:=.lst []) hl11
   refine ⟨lr,l11,_,rfl,rfl,SqL.of (s14 _ _ er13),SqL.of upd_same,_,rfl,?_⟩
   generalize upd H13 l11 (.lst [])=H14 at s14⊢
   refine ite2 (fun hn=>?_) fun hn=>tl _ _ ⟨s14,rfl⟩
   have pos:=ne0 hn
   have w014:=w013.same s14
   have er14:=s14 _ _ er13
   refine ⟨_,rfl,_,rfl,_,rfl,_,rfl,_,rfl,.inl ⟨lr,_,rfl,.inl (SqL.of er14),r,_,rfl,w014.r,by omega,?_,fun t15 H15 w15 t150 t151=>?_⟩⟩
   ·have:lrs.length≤24:=by rw [←hlrs,List.length_map];exact Nat.le_trans (List.length_filter_le _ _) (by rw [List.length_range];exact ln)
    omega
   have w015:=w014.trans w15
   have er15:=w15.k _ _ nrr er14
   rw [←hlrs] at t151
   obtain ⟨k,h,n,x,ha,hk⟩:=bg_at (es:=es) (v:="read") t150 t151
   rw [hlrs] at ha
   refine .inl ⟨lr,_,_,_,rfl,rfl,SqL.of er15,ha,(show (2:Nat)≤sizeLine by decide),fun l15 hl15=>?_⟩
   have s15:=Same.upd (o:=.lst [V.str "ok",.str "none"]) hl15
   have e15:upd H15 l15 (.lst [V.str "ok",.str "none"]) l15=some (.lst [V.str "ok",.str "none"]):=upd_same
   have w015':=w015.same s15
   refine ⟨_,rfl,r,2,rfl,w015'.r,by decide,by decide,fun t16 H16 w16 t160 t161=>?_⟩
   have w016:=w015'.trans w16
   have n15:=w015.r.fresh hl15
   obtain ⟨a,hat,hma⟩:=atI_of (xs:=[V.str "ok",.str "none"]) t160 t161
   refine .inl ⟨l15,_,_,_,rfl,rfl,SqL.of (w16.k _ _ n15 e15),hat,?_⟩
   obtain ⟨se16,al16⟩:=facts w016
   obtain ⟨z0,rfl⟩ :∃z,a=.str z:=by
    simp only [List.mem_cons,List.not_mem_nil,or_false] at hma
    rcases hma with rfl|rfl<;>exact ⟨_,rfl⟩
   refine ⟨te,es,ys,k,h,n,.str "read",x,.str z0,rfl,se16,al16,ln,wf,hk,fun lf yf es' H17 s17 ef alf wff lnf mem ⟨rr,hrm,r1,r2,m,r3⟩=>?_⟩
   refine ⟨(show (2:Nat)≤sizeLine by decide),fun p hp=>turn lf yf es' _ p (w016.same s17) ef alf wff (by omega) (fun e he=>?_) (.inl (bad_ans hrm ?_)) hp⟩
   ·rcases mem e he with z|rfl
    ·exact evg e z
    ·exact .inr ⟨_,rfl⟩
   ·unfold ansB
    rw [r3]
    dsimp only
    rw [if_neg (show ¬ isW rr=true from fun z=>rd_ne_wr (r1.symm.trans (of_decide_eq_true z))),r2]
    rfl
  rintro σ1 H14 ⟨s14,rfl⟩
  have w014:=w013.same s14
  have t014:=rw_tups (K:=KX w.params) R w014
  -- kind 5
  refine seq_any (fun σ1 H15=>Same H14 H15∧σ1=[some (.ref t),some (.ref r),some (.ref pt),some (.ref te),some (.str nm),some (.ref lw),some (.ref lr),some (.int kd),some (.bl ended),some (.ref lu),some (.int fr),some (.int wr)]) ?_ (fun tl=>?_)
  rotate_left
  ·refine ⟨_,rfl,rfl,_,rfl,ite2 (fun _=>?_) fun _=>tl _ _ ⟨Same.refl _,rfl⟩⟩
   obtain ⟨se15,al15⟩:=facts w014
   exact ⟨_,rfl,_,rfl,t,pt,te,th,r,nm,es,ys,rfl,t014 _ _ st,t014 _ _ sp,t014 _ _ sh,se15,al15,wf,ln,evg,w014.r,n1,n8,fun p es' H16 w16 tg=>q p es' H16 (w014.trans w16) tg⟩
  rintro σ1 H15 ⟨s15,rfl⟩
  have w015:=w014.same s15
  -- kind 6
  refine sq_if ⟨_,rfl,rfl,_,rfl,ite2 (fun _=>?_) fun _=>t_nx (q0 _ w015)⟩
  obtain ⟨se15,al15⟩:=facts w015
  refine ⟨_,rfl,(show (2:Nat)≤sizeLine by decide),fun p1 hp1=>⟨(show (1:Nat)≤sizeLine by decide),fun p2 hp2=>⟨_,rfl,(show (2:Nat)≤sizeLine by decide),fun p3 hp3=>?_⟩⟩⟩
  have q1:=Same.upd (o:=.tup [.str nm,.str "cell"]) hp1
  have q2:=Same.upd (o:=.tup [.ref p1]) hp2
  have q3:=Same.upd (o:=.tup [.ref p2,.ref te]) hp3
  have q123:=q1.trans (q2.trans q3)
  exact q p3 es _ (w015.same q123) ⟨p2,te,ys,upd_same,⟨_,[(nm,"cell")],SqT.of (q3 _ _ upd_same),.cons ⟨p1,rfl,SqT.of ((q2.trans q3) _ _ upd_same)⟩ .nil,(show (1:Nat)≤2 by decide),fun tp htp=>by rw [List.mem_singleton.mp htp];show ("cell" : Str)∈fiveK;decide +kernel,.inl (show (["cell"]:List Str)≠(["register"]:List Str) by decide +kernel)⟩,.inr (q123.seqT se15),forall2_mono (fun _ _ z=>EvAt.tups (.of q123) z) al15,wf,by omega⟩
def sp__law_asked (K:PySem.W.Frag):Sp:=fun vs H Q _=>∃t nm wr es ys m,vs=[.ref t,.int m]∧TalR K H t nm wr es ys∧∀v H',Same H H'→Q v H'
theorem ok__law_asked (T:TX (KX w.params) mg) (c_is_regular:Cal P w (KX w.params) mg base "is_regular" ["tale"] 6 (sp_is_regular (KX w.params))) (c_is_safe:Cal P w (KX w.params) mg base "is_safe" ["tale"] 6 (sp_is_safe (KX w.params))) (c_turn_about:Cal P w (KX w.params) mg base "turn_about" ["tale"] 6 (sp_turn_about (KX w.params))):FnOk P w (KX w.params) mg base CX0 7 338 fd__law_asked ["tale","which"] (sp__law_asked (KX w.params)):=by
 refine (F__law_asked w.params).ok sc__law_asked (fun vs H Q E h=>?_) (fun cdv A outer s H vs Q E hr h=>?_)
 ·obtain ⟨t,nm,wr,es,ys,m,rfl,_⟩:=h
  rfl
 ·obtain ⟨t,nm,wr,es,ys,m,rfl,ta,q⟩:=h
  refine ⟨_,(pss_cons (ps_if (pt_cmpR opEq (pv 1) pe_int (nomark _))
   (pss_one (ps_ret (pe_cal c_is_regular (hr.mono (by first|decide|omega)) rfl (pa_cons (pv 0) pa_nil))))
   pss_nil)
   (pss_cons (ps_if (pt_cmpR opEq (pv 1) pe_int (nomark _))
   (pss_one (ps_ret (pe_cal c_is_safe (hr.mono (by first|decide|omega)) rfl (pa_cons (pv 0) pa_nil))))
   pss_nil)
   (pss_one (ps_ret (pe_cal c_turn_about (hr.mono (by first|decide|omega)) rfl (pa_cons (pv 0) pa_nil)))))),?_⟩
  refine sq_if ⟨_,rfl,rfl,_,rfl,ite2 (fun _=>?_) fun _=>?_⟩
  ·exact ⟨_,rfl,t,nm,wr,es,ys,rfl,ta,fun b H1 s1 _=>q _ _ s1⟩
  refine t_nx (sq_if ⟨_,rfl,rfl,_,rfl,ite2 (fun _=>?_) fun _=>?_⟩)
  ·exact ⟨_,rfl,t,nm,wr,es,ys,rfl,ta,fun b H1 s1 _=>q _ _ s1⟩
  ·exact ⟨_,rfl,t,nm,wr,es,ys,rfl,ta,fun H1 s1 _=>q _ _ s1,fun p i j H1 s1 _ _=>q _ _ s1⟩
theorem n_ValueError (P:Params):PySem.W.nsIn (KX P) mainGlobals "ValueError" = some none:=by kernel_rfl
theorem boot_ValueError:bootBuiltins "ValueError" = some (.type "ValueError"):=by kernel_rfl
def sp__law_refused (K:PySem.W.Frag):Sp:=fun vs H Q _=>∃t es m,vs=[.ref t,.int m]∧TalG K H t es∧∀H',Same H H'→Q (.bl true) H'
theorem ok__law_refused (T:TX (KX w.params) mg) (c__law_asked:CalE P w (KX w.params) mg base "_law_asked" ["tale","which"] 7 (sp__law_askedB (KX w.params))):FnOk P w (KX w.params) mg base CX0 8 345 fd__law_refused ["tale","which"] (sp__law_refused (KX w.params)):=by
 refine (F__law_refused w.params).ok sc__law_refused (fun vs H Q E h=>?_) (fun cdv A outer s H vs Q E hr h=>?_)
 ·obtain ⟨t,es,m,rfl,_⟩:=h
  rfl
 ·obtain ⟨t,es,m,rfl,ta,q⟩:=h
  refine ⟨_,(pss_cons (ps_set (i:=2) sc__law_refused.nd rfl (by first|exact Or.inl rfl|exact Or.inr rfl) pe_bl)
   (pss_cons (ps_tryAs (i:=3) rfl rfl rfl (T.of (g_TaleError _)) sc__law_refused.nd rfl rfl (fun _ _=>(pss_one (ps_expr (pe_calX passX c__law_asked (hr.mono (by first|decide|omega)) rfl (pa_cons (pv 0) (pa_cons (pv 1) pa_nil)))))) (fun _=>(pss_cons (ps_set (i:=2) sc__law_refused.nd rfl (by first|exact Or.inl rfl|exact Or.inr rfl) (pe_and (pe_callB (call_isinstX (KX w.params)) rfl (T.no (n_isinstance _)) boot_isinstance (pa_cons (pv 3) (pa_cons (pe_glob (v:=.ref 109) rfl (T.of (g_NotPlain _)) rfl) pa_nil))) (pe_one (pe_callB (call_isinstX (KX w.params)) rfl (T.no (n_isinstance _)) boot_isinstance (pa_cons (pv 3) (pa_cons (pe_bltn (v:=.ty "ValueError") rfl (T.no (n_ValueError _)) boot_ValueError rfl) pa_nil))))))
   (pss_cons (ps_set (i:=2) sc__law_refused.nd rfl (by first|exact Or.inl rfl|exact Or.inr rfl) (pe_and (pv 2) (pe_one (pe_not (pe_callB (call_isinstXT (KX w.params)) rfl (T.no (n_isinstance _)) boot_isinstance (pa_cons (pv 3) (pa_cons (pe_tup (pa_cons (pe_glob (v:=.ref 133) rfl (T.of (g_NoDealings _)) rfl) (pa_cons (pe_glob (v:=.ref 37) rfl (T.of (g_NoDeed _)) rfl) (pa_cons (pe_glob (v:=.ref 97) rfl (T.of (g_NoHand _)) rfl) (pa_cons (pe_glob (v:=.ref 85) rfl (T.of (g_NoOrder _)) rfl) (pa_cons (pe_glob (v:=.ref 121) rfl (T.of (g_NoPlan _)) rfl) (pa_cons (pe_glob (v:=.ref 145) rfl (T.of (g_NoRow _)) rfl) (pa_cons (pe_glob (v:=.ref 61) rfl (T.of (g_NoStrictness _)) rfl) pa_nil)))))))) pa_nil)))))))
   (pss_one (ps_set (i:=2) sc__law_refused.nd rfl (by first|exact Or.inl rfl|exact Or.inr rfl) (pe_and (pv 2) (pe_one (pe_not (pe_callB (call_isinstXT (KX w.params)) rfl (T.no (n_isinstance _)) boot_isinstance (pa_cons (pv 3) (pa_cons (pe_tup (pa_cons (pe_glob (v:=.ref 49) rfl (T.of (g_NoTale _)) rfl) (pa_cons (pe_glob (v:=.ref 73) rfl (T.of (g_NoThing _)) rfl) pa_nil))) pa_nil))))))))))))
   (pss_one (ps_ret (pv 2))))),?_⟩
  have exm:PySem.W.exmOne (KX w.params) (.ref 109) (.ref 24)=some true:=by kernel_rfl
  refine seq_asg ?_
  refine g_name ?_
  refine seq_any (fun σ1 H1=>Same H H1∧∃x3,σ1=[some (.ref t),some (.int m),some (.bl true),x3]) ?_ (fun tl=>?_)
  rotate_left
  ·refine ⟨_,rfl,_,rfl,t,es,m,rfl,ta,fun H1 s1=>⟨exm,fun ea hea=>?_⟩⟩
   have sx:=Same.upd (o:=ExcO ea (.ref 109)) hea
   have e1:upd H1 ea (ExcO ea (.ref 109)) ea=some (ExcO ea (.ref 109)):=upd_same
   have s1:=s1.trans sx
   generalize upd H1 ea (ExcO ea (.ref 109))=H1 at s1 e1⊢
   refine ⟨_,rfl,ea,109,.ref 109,.ref 109,true,rfl,e1,xc_NotPlain _,rfl,fun _ h=>h,by kernel_rfl,true,rfl,iteP rfl ?_⟩
   refine ⟨_,rfl,ea,109,.ty "ValueError",.type "ValueError",true,rfl,e1,xc_NotPlain _,rfl,fun _ h=>h,by kernel_rfl,?_⟩
   refine ⟨_,rfl,true,rfl,iteP rfl ?_⟩
   refine ⟨_,rfl,(show (7:Nat)≤sizeLine by decide),fun p3 hp3=>?_⟩
   refine ⟨ea,109,p3,[133,37,97,85,121,145,61],false,rfl,(Same.upd hp3) _ _ e1,xc_NotPlain _,upd_same,by kernel_rfl,?_⟩
   have s3:=Same.upd (o:=.tup [.ref 133,.ref 37,.ref 97,.ref 85,.ref 121,.ref 145,.ref 61]) hp3
   have e3:=s3 _ _ e1
   generalize upd H1 p3 (.tup [.ref 133,.ref 37,.ref 97,.ref 85,.ref 121,.ref 145,.ref 61])=H3 at s3 e3⊢
   refine ⟨false,rfl,?_⟩
   refine ⟨_,rfl,true,rfl,iteP rfl ?_⟩
   refine ⟨_,rfl,(show (2:Nat)≤sizeLine by decide),fun p4 hp4=>?_⟩
   refine ⟨ea,109,p4,[49,73],false,rfl,(Same.upd hp4) _ _ e3,xc_NotPlain _,upd_same,by kernel_rfl,?_⟩
   have s4:=Same.upd (o:=.tup [.ref 49,.ref 73]) hp4
   refine ⟨false,rfl,?_⟩
   exact tl _ _ ⟨(s1.trans s3).trans s4,_,rfl⟩
  rintro σ1 H1 ⟨s1,x3,rfl⟩
  exact ⟨_,rfl,q _ s1⟩
def sp_law (K:PySem.W.Frag):Sp:=fun vs H Q _=>∃(sc:Addr) (ns:List Int),vs=[.ref sc]∧SqL K H sc (ns.map V.int)∧ns.length≤63∧∀H',Q (.bl true) H'
theorem ok_law (T:TX (KX w.params) mg) (c__law_cell_at:Cal P w (KX w.params) mg base "_law_cell_at" ["script","k"] 1 (sp__law_cell_at (KX w.params))) (c__law_tale:Cal P w (KX w.params) mg base "_law_tale" ["script","most"] 5 (sp__law_tale (KX w.params))) (c__law_stream:Cal P w (KX w.params) mg base "_law_stream" ["cell","way"] 1 sp__law_stream) (c__law_turned:Cal P w (KX w.params) mg base "_law_turned" ["tale","row"] 3 (sp__law_turned (KX w.params))) (c__law_asked:Cal P w (KX w.params) mg base "_law_asked" ["tale","which"] 7 (sp__law_asked (KX w.params))) (c__law_refused:Cal P w (KX w.params) mg base "_law_refused" ["tale","which"] 8 (sp__law_refused (KX w.params))):FnOk P w (KX w.params) mg base CX0 9 352 fd_law ["script"] (sp_law (KX w.params)):=by
 refine (F_law w.params).ok sc_law (fun vs H Q E h=>?_) (fun cdv A outer s H vs Q E hr h=>?_)
 ·obtain ⟨sc,ns,rfl,_⟩:=h
  rfl
 ·obtain ⟨sc,ns,rfl,sq,hn,q⟩:=h
  refine ⟨_,(pss_cons (ps_set (i:=1) sc_law.nd rfl (by first|exact Or.inl rfl|exact Or.inr rfl) (pe_cal c__law_tale (hr.mono (by first|decide|omega)) rfl (pa_cons (pe_op opAdd (pe_lst (pa_cons (pe_cal c__law_cell_at (hr.mono (by first|decide|omega)) rfl (pa_cons (pv 0) (pa_cons pe_int pa_nil))) pa_nil)) (pe_slice slSeq (pv 0) (po_some pe_int) po_none)) (pa_cons pe_int pa_nil))))
   (pss_cons (ps_set (i:=2) sc_law.nd rfl (by first|exact Or.inl rfl|exact Or.inr rfl) (pe_cal c__law_stream (hr.mono (by first|decide|omega)) rfl (pa_cons (pe_op op_fdivB (pe_cal c__law_cell_at (hr.mono (by first|decide|omega)) rfl (pa_cons (pv 0) (pa_cons pe_int pa_nil))) pe_int) (pa_cons (pe_op op_mod (pe_cal c__law_cell_at (hr.mono (by first|decide|omega)) rfl (pa_cons (pv 0) (pa_cons pe_int pa_nil))) pe_int) pa_nil))))
   (pss_cons (ps_set (i:=3) sc_law.nd rfl (by first|exact Or.inl rfl|exact Or.inr rfl) (pe_cal c__law_turned (hr.mono (by first|decide|omega)) rfl (pa_cons (pv 1) (pa_cons (pv 2) pa_nil))))
   (pss_cons (ps_for PassesOwn.never rfl (pi_range1 rfl (T.no (n_range _)) (pa_cons pe_int pa_nil)) (pg_name (i:=4) sc_law.nd rfl (by first|exact Or.inl rfl|exact Or.inr rfl))
   (pss_cons (ps_expr (pe_cal c__law_asked (hr.mono (by first|decide|omega)) rfl (pa_cons (pv 1) (pa_cons (pv 4) pa_nil))))
   (pss_cons (ps_if (pt_not (pt_val (pe_cal c__law_refused (hr.mono (by first|decide|omega)) rfl (pa_cons (pe_tup (pa_cons (pe_tup pa_nil) (pa_cons (pe_tup pa_nil) pa_nil))) (pa_cons (pv 4) pa_nil))) (fun _=>rfl)))
   (pss_one (ps_ret pe_bl))
   pss_nil)
   (pss_one (ps_if (PW.pt (pw_and (pt_cmpR op_notN (pv 3) pe_non (nomark _)) (pw_and1 (pt_not (pt_val (pe_cal c__law_refused (hr.mono (by first|decide|omega)) rfl (pa_cons (pe_tup (pa_cons (pe_ix ix_seq (pv 3) pe_int (fun _ _=>rfl)) (pa_cons (pe_callTy call_tuple_of rfl (T.no (n_tuple _)) boot_tuple (pa_cons (pe_ix ix_seq (pv 3) pe_int (fun _ _=>rfl)) pa_nil)) pa_nil))) (pa_cons (pv 4) pa_nil))) (fun _=>rfl))))))
   (pss_one (ps_ret pe_bl))
   pss_nil)))))
   (pss_one (ps_ret pe_bl)))))),?_⟩
  refine seq_asg ?_
  refine ⟨_,rfl,sc,ns,0,rfl,sq,fun c0=>⟨(show (1:Nat)≤sizeLine by decide),fun l1 hl1=>?_⟩⟩
  have s1:=Same.upd (o:=.lst [V.int c0]) hl1
  have e1:upd H l1 (.lst [V.int c0]) l1=some (.lst [V.int c0]):=upd_same
  generalize upd H l1 (.lst [V.int c0])=H1 at s1 e1⊢
  refine ⟨_,rfl,2,rfl,.inl ⟨sc,_,rfl,s1.seq sq,fun l2 hl2=>?_⟩⟩
  obtain ⟨ms,em,lm⟩:=cut_ints ns (some 2) none
  have lm2:ms.length≤62:=by
   have h1:HT.sIx (ns.map V.int).length 0 (some 2)=min 2 (ns.map V.int).length:=HT.sIx_nat _ 0 2
   have:=congrArg List.length em
   unfold cutV at this
   rw [h1,List.length_take,List.length_drop,List.length_map,List.length_map,HT.sIx_none] at this
   omega
  rw [em]
  have s2:=Same.upd (o:=.lst (ms.map V.int)) hl2
  have e2:upd H1 l2 (.lst (ms.map V.int)) l2=some (.lst (ms.map V.int)):=upd_same
  have s12:=s1.trans s2
  generalize upd H1 l2 (.lst (ms.map V.int))=H2 at s2 e2 s12⊢
  refine .inr (.inr (.inl ⟨l1,l2,_,_,rfl,rfl,s2 _ _ e1,e2,Nat.le_trans (m:=100) (by rw [List.length_map];show 1 + ms.length≤100;omega) (by decide),fun l3 hl3=>?_⟩))
  have s3:=Same.upd (o:=.lst ([V.int c0]++ms.map V.int)) hl3
  have e3:upd H2 l3 (.lst ([V.int c0]++ms.map V.int)) l3=some (.lst ((c0 :: ms).map V.int)):=upd_same
  have s13:=s12.trans s3
  generalize upd H2 l3 (.lst ([V.int c0]++ms.map V.int))=H3 at s3 e3 s13⊢
  refine ⟨l3,c0 :: ms,rfl,SqL.of e3,by rw [List.length_cons];omega,fun t pt th te ys es os us wr nm H4 s4 et ept eth ete al tw le nm1 nm8=>?_⟩
  refine g_name ?_
  have s04:=s13.trans s4
  refine seq_asg ?_
  refine ⟨_,rfl,sc,ns,1,rfl,s04.seq sq,fun c1=>⟨_,_,rfl,rfl,⟨by decide,by decide⟩,_,rfl,sc,ns,1,rfl,s04.seq sq,fun c2=>⟨_,_,rfl,rfl,(show (0:Int) < 2 by decide),_,_,rfl,fun r tr hr0 b0 b1=>?_⟩⟩⟩
  refine g_name ?_
  have s5:=Same.upd (o:=.lst [.int (c1 / 2),.int (c2 % 2),.int tr]) hr0
  have R5:RowAt (upd H4 r (.lst [.int (c1 / 2),.int (c2 % 2),.int tr])) r:=⟨_,_,_,upd_same,b0,b1⟩
  generalize upd H4 r (.lst [.int (c1 / 2),.int (c2 % 2),.int tr])=H5 at s5 R5⊢
  have ta:TalR (KX w.params) H4 t nm wr es ys:=⟨⟨pt,te,th,SqT.of et,SqT.of ept,SqT.of eth,SqT.of ete⟩,al,⟨os,us,tw⟩,by omega⟩
  refine seq_any (fun σ1 H6=>Same H4 H6∧∃v6:V,(v6=.non∨∃p es',v6=.ref p∧TurG (KX w.params) H6 p es')∧σ1=[some (.ref sc),some (.ref t),some (.ref r),some v6,none]) ?_ (fun tl=>?_)
  rotate_left
  ·have back :∀{H6:Hp},Rw r H5 H6→Same H4 H6:=fun w6 c o e=>w6.k _ _ (fun z=>by rw [z,hr0] at e;cases e) (s5 c o e)
   refine ⟨_,rfl,_,rfl,t,pt,te,th,r,nm,es,ys,rfl,SqT.of (s5 _ _ et),SqT.of (s5 _ _ ept),SqT.of (s5 _ _ eth),SqT.of (s5 _ _ ete),forall2_mono (fun _ _ z=>EvAt.tups (.of s5) z) al,tw.wf.1,le,tw.evG,R5,nm1,nm8,fun H6 w6=>tl _ _ ⟨back w6,.non,.inl rfl,rfl⟩,fun p es' H6 w6 tg=>tl _ _ ⟨back w6,.ref p,.inr ⟨p,es',rfl,tg⟩,rfl⟩⟩
  rintro σ1 H6 ⟨s6,v6,hv6,rfl⟩
  have ta6:=ta.same s6
  refine ⟨3,rfl,by omega,by omega,?_⟩
  refine for_range (lo:=0) (n:=3) (fun i σ H'=>Same H6 H'∧∃x4,σ=[some (.ref sc),some (.ref t),some (.ref r),some v6,x4]) ⟨Same.refl _,_,rfl⟩ ?_ ?_
  ·rintro i σ H7 hi ⟨s7,x4,rfl⟩
   refine g_name ?_
   refine ⟨_,rfl,_,rfl,t,nm,wr,es,ys,_,rfl,ta6.same s7,fun v8 H8 s8=>?_⟩
   have s68:=s7.trans s8
   refine t_nx (sq_if ?_)
   refine ⟨(show (0:Nat)≤sizeLine by decide),fun p1 hp1=>⟨(show (0:Nat)≤sizeLine by decide),fun p2 hp2=>⟨(show (2:Nat)≤sizeLine by decide),fun p3 hp3=>?_⟩⟩⟩
   have q1:=Same.upd (o:=.tup []) hp1
   have q2:=Same.upd (o:=.tup []) hp2
   have q3:=Same.upd (o:=.tup [.ref p1,.ref p2]) hp3
   have q123:=q1.trans (q2.trans q3)
   refine ⟨_,rfl,p3,[],_,rfl,⟨⟨p1,p2,[],[],[],SqT.of upd_same,SqT.of ((q2.trans q3) _ _ upd_same),.nil,by decide,fun _ h=>absurd h List.not_mem_nil,SqT.of (q3 _ _ upd_same),.nil,.inl (by decide)⟩,trivial,by decide⟩,fun H9 s9=>⟨true,rfl,iteN (by decide) ?_⟩⟩
   have s69:=(s68.trans q123).trans s9
   refine t_nx ?_
   refine ⟨_,rfl,?_⟩
   rcases hv6 with rfl|⟨p,es',rfl,tg⟩
   ·exact ⟨rfl,_,rfl,iteN (by decide) (iteN (by decide) ⟨s69,_,rfl⟩)⟩
   refine ⟨rfl,_,rfl,iteP (by simp) ?_⟩
   obtain ⟨tta,ev,ys',g1,⟨qs,tps,g2,g3,g4,g5,g6⟩,g7,g8,g9,g10⟩:=tg.same s69
   refine ⟨_,rfl,.inr (.inl ⟨p,_,0,.ref tta,rfl,rfl,SqT.of g1,atI_nat (j:=0) rfl,?_⟩)⟩
   refine ⟨_,rfl,.inr (.inl ⟨p,_,1,.ref ev,rfl,rfl,SqT.of g1,atI_nat (j:=1) rfl,ev,ys',rfl,?_⟩)⟩
   have done :∀(te':Addr) (H10:Hp),Same H9 H10→SqT (KX w.params) H10 te' ys'→∀p',H10 p'=none→TalG (KX w.params) (upd H10 p' (.tup [.ref tta,.ref te'])) p' es':=fun te' H10 s10 h10 p' hp'=>by
    have sx:=Same.upd (o:=.tup [.ref tta,.ref te']) hp'
    have s11:=s10.trans sx
    exact ⟨⟨tta,te',qs,ys',tps,SqT.of upd_same,s11.seqT g2,forall2_mono (fun _ _ z=>z.elim fun p z=>⟨p,z.1,s11.seqT z.2⟩) g3,g4,g5,sx.seqT h10,forall2_mono (fun _ _ z=>EvAt.tups (.of s11) z) g8,g6⟩,g9,by omega⟩
   rcases g7 with g7|g7
   ·refine .inl ⟨g7,fun te' hte'=>⟨(show (2:Nat)≤sizeLine by decide),fun p' hp'=>?_⟩⟩
    have sx:=Same.upd (o:=.tup ys') hte'
    refine ⟨_,rfl,p',es',_,rfl,done te' _ sx (SqT.of upd_same) p' hp',fun H11 s11=>⟨true,rfl,iteN (by decide) ?_⟩⟩
    exact ⟨((s69.trans sx).trans (Same.upd hp')).trans s11,_,rfl⟩
   ·refine .inr ⟨g7,(show (2:Nat)≤sizeLine by decide),fun p' hp'=>?_⟩
    refine ⟨_,rfl,p',es',_,rfl,done ev _ (Same.refl _) g7 p' hp',fun H11 s11=>⟨true,rfl,iteN (by decide) ?_⟩⟩
    exact ⟨(s69.trans (Same.upd hp')).trans s11,_,rfl⟩
  ·rintro σ H7 ⟨s7,x4,rfl⟩
   exact t_nx (sq_ret (q _))
end
theorem all_law {P:Program} {w:World} {mg:Str→Option Value} {base:Heap} (T:TX (KX w.params) mg):FnOk P w (KX w.params) mg base CX0 9 352 fd_law ["script"] (sp_law (KX w.params)):=by
 have m:=@cal_mk P w (KX w.params) mg base
 have mE:=@calE_mk P w (KX w.params) mg base
 have c__law_cell_at:=m T (F__law_cell_at _) (g__law_cell_at _) (b__law_cell_at _) (ok__law_cell_at T )
 have c__law_stream:=m T (F__law_stream _) (g__law_stream _) (b__law_stream _) (ok__law_stream T )
 have c__law_take:=m T (F__law_take _) (g__law_take _) (b__law_take _) (ok__law_take T )
 have c__law_worth:=m T (F__law_worth _) (g__law_worth _) (b__law_worth _) (ok__law_worth T c__law_take)
 have c_deeds:=m T (F_deeds _) (g_deeds _) (b_deeds _) (ok_deeds T )
 have c__law_name:=m T (F__law_name _) (g__law_name _) (b__law_name _) (ok__law_name T c__law_take)
 have c__law_fresh:=m T (F__law_fresh _) (g__law_fresh _) (b__law_fresh _) (ok__law_fresh T c__law_worth)
 have c__law_answer:=m T (F__law_answer _) (g__law_answer _) (b__law_answer _) (ok__law_answer T c__law_take c__law_worth)
 have c__law_events:=m T (F__law_events _) (g__law_events _) (b__law_events _) (ok__law_events T c__law_take c__law_stream c__law_answer c__law_fresh)
 have c__law_tale:=m T (F__law_tale _) (g__law_tale _) (b__law_tale _) (ok__law_tale T c__law_cell_at c__law_stream c__law_name c__law_events)
 have c_is_whole:=m T (F_is_whole _) (g_is_whole _) (b_is_whole _) (ok_is_whole T )
 have c_is_answered:=m T (F_is_answered _) (g_is_answered _) (b_is_answered _) (ok_is_answered T c_is_whole)
 have c_are_plain:=m T (F_are_plain _) (g_are_plain _) (b_are_plain _) (ok_are_plain T c_is_answered)
 have c_plain_deeds:=m T (F_plain_deeds _) (g_plain_deeds _) (b_plain_deeds _) (ok_plain_deeds T c_deeds c_are_plain)
 have c_plain_deedsB:=mE T (F_plain_deeds _) (g_plain_deeds _) (b_plain_deeds _) (ok_plain_deedsB T c_deeds c_are_plain)
 have c_lone_writer_deedsB:=mE T (F_lone_writer_deeds _) (g_lone_writer_deeds _) (b_lone_writer_deeds _) (ok_lone_writer_deedsB T c_plain_deedsB)
 have c_is_regularB:=mE T (F_is_regular _) (g_is_regular _) (b_is_regular _) (ok_is_regularB T c_lone_writer_deedsB)
 have c_is_safeB:=mE T (F_is_safe _) (g_is_safe _) (b_is_safe _) (ok_is_safeB T c_lone_writer_deedsB)
 have c_turn_aboutB:=mE T (F_turn_about _) (g_turn_about _) (b_turn_about _) (ok_turn_aboutB T c_lone_writer_deedsB)
 have c__law_askedB:=mE T (F__law_asked _) (g__law_asked _) (b__law_asked _) (ok__law_askedB T c_is_regularB c_is_safeB c_turn_aboutB)
 have c_writers:=m T (F_writers _) (g_writers _) (b_writers _) (ok_writers T )
 have c_ended_reads:=m T (F_ended_reads _) (g_ended_reads _) (b_ended_reads _) (ok_ended_reads T )
 have c_lone_writer_deeds:=m T (F_lone_writer_deeds _) (g_lone_writer_deeds _) (b_lone_writer_deeds _) (ok_lone_writer_deeds T c_plain_deeds)
 have c_writes_beside:=m T (F_writes_beside _) (g_writes_beside _) (b_writes_beside _) (ok_writes_beside T )
 have c_last_ahead:=m T (F_last_ahead _) (g_last_ahead _) (b_last_ahead _) (ok_last_ahead T )
 have c_is_regular:=m T (F_is_regular _) (g_is_regular _) (b_is_regular _) (ok_is_regular T c_lone_writer_deeds c_writers c_ended_reads c_writes_beside c_last_ahead)
 have c_is_safe:=m T (F_is_safe _) (g_is_safe _) (b_is_safe _) (ok_is_safe T c_lone_writer_deeds c_writers c_ended_reads c_writes_beside c_last_ahead)
 have c_writersT:=m T (F_writers _) (g_writers _) (b_writers _) (ok_writersT T )
 have c_turn_about:=m T (F_turn_about _) (g_turn_about _) (b_turn_about _) (ok_turn_about T c_lone_writer_deeds c_writersT c_ended_reads)
 have c__law_begins:=m T (F__law_begins _) (g__law_begins _) (b__law_begins _) (ok__law_begins T )
 have c__law_end_of:=m T (F__law_end_of _) (g__law_end_of _) (b__law_end_of _) (ok__law_end_of T )
 have c__law_answered:=m T (F__law_answered _) (g__law_answered _) (b__law_answered _) (ok__law_answered T c__law_end_of)
 have c__law_closed:=m T (F__law_closed _) (g__law_closed _) (b__law_closed _) (ok__law_closed T )
 have c__law_closedL:=m T (F__law_closed _) (g__law_closed _) (b__law_closed _) (ok__law_closedL T )
 have c__law_more:=m T (F__law_more _) (g__law_more _) (b__law_more _) (ok__law_more T c__law_closed)
 have c__law_beside:=m T (F__law_beside _) (g__law_beside _) (b__law_beside _) (ok__law_beside T c__law_take c__law_closedL)
 have c__law_turned:=m T (F__law_turned _) (g__law_turned _) (b__law_turned _) (ok__law_turned T c__law_begins c__law_take c__law_more c__law_answered c__law_beside)
 have c__law_asked:=m T (F__law_asked _) (g__law_asked _) (b__law_asked _) (ok__law_asked T c_is_regular c_is_safe c_turn_about)
 have c__law_refused:=m T (F__law_refused _) (g__law_refused _) (b__law_refused _) (ok__law_refused T c__law_askedB)
 exact ok_law T c__law_cell_at c__law_tale c__law_stream c__law_turned c__law_asked c__law_refused
end K22
open PySem PySem.W PyProof.Rows
set_option maxRecDepth 100000 in
set_option maxHeartbeats 0 in
theorem PySem.Challenge.cw_talejudge_k22_not_plain_holds : PySem.Challenge.rw_talejudge_k22_not_plain.Holds := by
 w_on;o_law
 refine holds_open (q:=K22.viewX) (loose:=K22.looseX) (Xt:=K22.XtX) (XP:=XL K22.viewX []) (Yf:=Hook.obs K22.HX) (Ya:=Hook.val K22.HX) (YP:=Hook.says K22.HX) (N:=200000) K22.leftX (Hook.of K22.HX) (Hook.keeps K22.HX) (fun s e=>xl_of s (Bool.and_eq_true_iff.mp e).1) XL.keeps (by rfl) (by rfl) (by rfl) (fun s e=>recFacts_of (Bool.and_eq_true_iff.mp e).2) (by rfl) (by assumption) (by decide +kernel) ⟨rfl,rfl,rfl,rfl,rfl,by decide +kernel⟩ ?hw ?hc
 case hw=>w_witness2
 case hc=>
  refine L2.walk_of (l:=PySem.Challenge.rw_talejudge_k22_not_plain) (n:=63) (k:=9) (x:="script") (K:=K22.KX) (CX:=fun _=>L2.CX0) (sp:=fun w=>K22.sp_law (K22.KX w.params)) rfl (by decide) rfl ⟨rfl,by decide,by decide⟩ (fun w h Y=>PySem.W.kIn_of Y) ?F ?S ?C
  case F=>
   intro w mg fa h KX G hmg
   have T:=L2.TX.mk' KX G
   have e0:=hmg.symm.trans (T.of (K22.g_law _))
   cases e0
   exact ⟨K22.fd_law,fun s u=>.of_eq rfl,fun base kb nb=>K22.all_law T⟩
  case S=>exact fun w H a ns hl hO hS=>⟨a,ns,rfl,hS,hl,fun _=>rfl⟩
  case C=>exact fun _ _ _ _ _ z=>z
