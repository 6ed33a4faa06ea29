import PyProof.Rows.All
import Wide.All
import OpenK.AllK
import Wide.FinOn
import Lean
import PyProof.EqAt
import PyProof.EqKinds
import PyProof.TupleCall
import Open.Tops
import KE.KIntText
import PyProof.ZipIter
import PyProof.Draws
import KE.KDictSum
import KE.KSortedM
import OpenK.KRaise
import OpenK.KOwn
import PyProof.ExcBaseAll.ValueError
import KE.KTryMore
import PyProof.NsDelKeeps
import KE.KDictOf
import KE.KEqDict
import PyProof.DictWalks
import PyProof.TupleKey
import PyProof.MinMaxWalk
import PySem.Challenge.RW_talejudge_k20_regular_and_safe
set_option maxRecDepth 100000
set_option maxHeartbeats 0
namespace K20
open_shared pre for PySem.Challenge.pw_talejudge_k20_regular_and_safe leaving 1
end K20
set_option maxHeartbeats 200000
-- CHANGE: your row's module here, as the last of these rows
set_option Elab.async false
set_option linter.all false
set_option maxRecDepth 100000
namespace L2
open PySem PySem.Spec PyProof.Rows
abbrev Key := Sum Int Str
def keyIs : Key → Value → Bool
  | .inl k, v => Value.isInt k v
  | .inr x, v => Value.isStrOf x v
def keyH (w : World) : Key → Int
  | .inl k => hashInt k
  | .inr x => hashStr w x
theorem keyIs_shape : ∀ {k : Key} {v : Value}, keyIs k v = true → (∃ i t, k = Sum.inl i ∧ v = Value.int i t) ∨ (∃ x t, k = Sum.inr x ∧ v = Value.str x t)
  | .inl i, v, h => by
    obtain ⟨t, e⟩ := Value.isInt_shape (k := i) (v := v) h
    exact .inl ⟨i, t, rfl, e⟩
  | .inr x, v, h => by
    obtain ⟨t, e⟩ := Value.isStrOf_shape (x := x) (v := v) h
    exact .inr ⟨x, t, rfl, e⟩
theorem keyIs_int (i : Int) (t : Tok) : keyIs (.inl i) (.int i t) = true := by simp [keyIs, Value.isInt]
theorem keyIs_str (x : Str) (t : Tok) : keyIs (.inr x) (.str x t) = true := by simp [keyIs, Value.isStrOf]
theorem key_ll (a b : Int) : decide ((Sum.inl a : Key) = Sum.inl b) = (a == b) := by
  by_cases e : a = b
  · subst e; simp
  · have h : ¬ (Sum.inl a : Key) = Sum.inl b := fun q => e (Sum.inl.inj q)
    rw [decide_eq_false h]
    exact (beq_eq_false_iff_ne.mpr e).symm
theorem key_rr (a b : Str) : decide ((Sum.inr a : Key) = Sum.inr b) = decide (a = b) := by
  by_cases e : a = b
  · subst e; simp
  · have h : ¬ (Sum.inr a : Key) = Sum.inr b := fun q => e (Sum.inr.inj q)
    rw [decide_eq_false h, decide_eq_false e]
theorem key_lr (a : Int) (b : Str) : decide ((Sum.inl a : Key) = Sum.inr b) = false := decide_eq_false (fun q => nomatch q)
theorem key_rl (a : Str) (b : Int) : decide ((Sum.inr a : Key) = Sum.inl b) = false := decide_eq_false (fun q => nomatch q)
def mixKind (prog : Program) (w : World) : PySem.KeyKind prog w Key where
  is := keyIs
  hash := keyH w
  inj := fun v a b ha hb => by
    rcases keyIs_shape ha with ⟨i, t, rfl, rfl⟩ | ⟨x, t, rfl, rfl⟩
    · rcases keyIs_shape hb with ⟨j, u, rfl, e⟩ | ⟨y, u, rfl, e⟩
      · injection e with e1 _; rw [e1]
      · exact nomatch e
    · rcases keyIs_shape hb with ⟨j, u, rfl, e⟩ | ⟨y, u, rfl, e⟩
      · exact nomatch e
      · injection e with e1 _; rw [e1]
  byValue := fun k v h => by
    rcases keyIs_shape h with ⟨i, t, rfl, rfl⟩ | ⟨x, t, rfl, rfl⟩ <;> rfl
  pyHash := fun hv h => by
    rcases keyIs_shape hv with ⟨i, t, rfl, rfl⟩ | ⟨x, t, rfl, rfl⟩
    · exact wpAny_pyHash_int h
    · exact wpAny_pyHash_str h
  eqBool := fun hu hv h => by
    rcases keyIs_shape hu with ⟨i, t, rfl, rfl⟩ | ⟨x, t, rfl, rfl⟩
    · rcases keyIs_shape hv with ⟨j, u, rfl, rfl⟩ | ⟨y, u, rfl, rfl⟩
      · rw [key_ll] at h; exact wpAny_eqBool_int h
      · rw [key_lr] at h; exact SeqAt.EqAt.int_str i t y u _ _ _ _ h
    · rcases keyIs_shape hv with ⟨j, u, rfl, rfl⟩ | ⟨y, u, rfl, rfl⟩
      · rw [key_rl] at h; exact SeqAt.EqAt.str_int x t j u _ _ _ _ h
      · rw [key_rr] at h; exact wpAny_eqBool_str h
  «strs» := fun k x t v h => by
    rcases keyIs_shape h with ⟨i, u, rfl, e⟩ | ⟨y, u, rfl, e⟩
    · exact nomatch e
    · injection e with e1 _
      subst e1
      cases v <;> rfl
theorem mixKind_int (prog : Program) (w : World) (i : Int) (t : Tok) : (mixKind prog w).is (.inl i) (.int i t) = true := keyIs_int i t
theorem mixKind_str (prog : Program) (w : World) (x : Str) (t : Tok) : (mixKind prog w).is (.inr x) (.str x t) = true := keyIs_str x t
end L2
namespace L2
open PySem PySem.Spec PyProof.Rows
inductive V where
  | non | bl (b : Bool) | int (i : Int) | str (x : Str) | byt (b : Array UInt8) | flt (b : UInt64) | ref (a : Addr) | ty (n : String)
  deriving DecidableEq
def RelV : V → Value → Prop
  | .non, u => u = Value.none
  | .bl b, u => u = Value.bool b
  | .int i, u => ∃ t, u = Value.int i t
  | .str x, u => ∃ t, u = Value.str x t
  | .byt b, u => ∃ t, u = Value.bytes b t
  | .flt b, u => ∃ t, u = Value.float b t
  | .ref a, u => u = Value.ref a
  | .ty n, u => u = Value.type n
abbrev Vals : List V → List Value → Prop := Paired RelV
theorem Vals.length {xs : List V} {us : List Value} (r : Vals xs us) : xs.length = us.length := Paired.length r
theorem Vals.get : ∀ {xs : List V} {us : List Value} {i : Nat} {x : V}, Vals xs us → xs[i]? = some x → ∃ u, us[i]? = some u ∧ RelV x u
  | _, _, _, _, .nil, e => by simp at e
  | _, _, 0, _, .cons r _, e => by simp at e; subst e; exact ⟨_, rfl, r⟩
  | _, _, i + 1, x, .cons _ t, e => by
    obtain ⟨u, h1, h2⟩ := Vals.get (i := i) (x := x) t (by simpa using e)
    exact ⟨u, by simpa using h1, h2⟩
theorem Vals.set {x : V} {u : Value} (r : RelV x u) : ∀ {xs : List V} {us : List Value} (i : Nat), Vals xs us → Vals (xs.set i x) (us.set i u)
  | _, _, _, .nil => .nil
  | _, _, 0, .cons _ t => .cons r t
  | _, _, i + 1, .cons q t => .cons q (Vals.set r i t)
theorem Vals.append : ∀ {xs ys : List V} {us ws : List Value}, Vals xs us → Vals ys ws → Vals (xs ++ ys) (us ++ ws)
  | _, _, _, _, .nil, s => s
  | _, _, _, _, .cons r t, s => .cons r (Vals.append t s)
theorem Vals.take : ∀ {xs : List V} {us : List Value} (n : Nat), Vals xs us → Vals (xs.take n) (us.take n)
  | _, _, 0, _ => .nil
  | _, _, _ + 1, .nil => .nil
  | _, _, n + 1, .cons r t => .cons r (Vals.take n t)
theorem Vals.drop : ∀ {xs : List V} {us : List Value} (n : Nat), Vals xs us → Vals (xs.drop n) (us.drop n)
  | _, _, 0, r => r
  | _, _, _ + 1, .nil => .nil
  | _, _, n + 1, .cons _ t => Vals.drop n t
def RelO : Option V → Option Value → Prop
  | some v, some u => RelV v u
  | none, none => True
  | _, _ => False
def KV {κ : Type} : List (κ × V) → List (κ × Value) → Prop := Paired fun (p : κ × V) (q : κ × Value) => p.1 = q.1 ∧ RelV p.2 q.2
def kV : Key → V
  | .inl i => .int i
  | .inr x => .str x
inductive HO where
  | lst (xs : List V)
  | tup (xs : List V)
  | dK (kvs : List (Key × V)) | dT (kvs : List (List Key × V))
  | set (S : Int → Bool) (n : Nat)
  | ins (C dx : Addr) (fs : List (Str × V))
  | own (x : Addr)
  | xd (fs : List (Str × V))
  | met (f x : Addr)
  | rng (lo hi : Int)
  | frz (o : Obj) (u : HO)
  | tbl (ps : Array Value)
  | ext (φ : Heap → Prop)
abbrev Hp := Addr → Option HO
def upd (H : Hp) (a : Addr) (o : HO) : Hp := fun b => if b = a then some o else H b
theorem upd_same {H : Hp} {a : Addr} {o : HO} : upd H a o a = some o := by unfold upd; rw [if_pos rfl]
theorem upd_ne {H : Hp} {a b : Addr} {o : HO} (h : b ≠ a) : upd H a o b = H b := by unfold upd; rw [if_neg h]
theorem ne_of {H : Hp} {a b : Addr} {o u : HO} (h : H a = some o) (h' : H b = some u) (d : o ≠ u) : a ≠ b := by
  intro e; subst e; rw [h] at h'; exact d (Option.some.inj h')
theorem ne_of_none {H : Hp} {a b : Addr} {o : HO} (h : H a = some o) (h' : H b = none) : a ≠ b := by
  intro e; subst e; rw [h] at h'; cases h'
section
variable (P : Program) (w : World)
def IsTupN (h : Heap) (a : Addr) (items : Array Value) : Prop := IsTup h a items ∧ ∃ o, h.get? a = some o ∧ o.dict = none
theorem IsTupN.new (h : Heap) (items : Array Value) : IsTupN (h.push { cls := .type "tuple", data := .seq items }) h.objs.size items := ⟨IsTup.new _ _, _, Heap.get?_push_size _ rfl, rfl⟩
def ObjOk (H : Hp) (h : Heap) (a : Addr) : HO → Prop
  | .lst xs => xs.length ≤ sizeLine ∧ ∃ (its : List Value) (n : Nat), Vals xs its ∧ h.get? a = some { cls := .type "list", data := .seq its.toArray n }
  | .tup xs => xs.length ≤ sizeLine ∧ ∃ its : List Value, Vals xs its ∧ IsTupN h a its.toArray
  | .dK kvs => kvs.length ≤ sizeLine ∧ (a == sysModules) = false ∧ ∃ vs, KV kvs vs ∧ h.DictOf (mixKind P w) a vs
  | .dT kvs => kvs.length ≤ sizeLine ∧ (a == sysModules) = false ∧ ∃ xs : List (List Key × Addr × Value),
      Paired (fun (p : List Key × V) (q : List Key × Addr × Value) => p.1 = q.1 ∧ H q.2.1 = some (.tup (p.1.map kV)) ∧ RelV p.2 q.2.2) kvs xs ∧
      ∃ o es ep, h.get? a = some o ∧ o.ExactDict ∧ o.data = .dict es ep ∧ es.toList = xs.map (entryOfKey (tupleKind (mixKind P w))) ∧ (xs.map (·.1)).Nodup
  | .set S n => h.SetOf (intKind P w) a S n
  | .ins C dx fs => H dx = some (.own a) ∧ fs.length ≤ 1000 ∧ dx ≠ a ∧ h.get? a = some (PySem.W.instObj C dx) ∧
      ∃ mA, h.Ns1 dx mA ∧ (∀ f, RelO (fs.lookup f) (mA f)) ∧ PySem.Within mA (fs.map (·.1))
  | .own _ => ∃ o, h.get? a = some o
  | .xd fs => ∃ mA, h.Ns1 a mA ∧ ∀ f, RelO (fs.lookup f) (mA f)
  | .rng lo hi => ∃ t u v, h.get? a = some { cls := .type "range", data := .fields #[.int lo t, .int hi u, .int 1 v] }
  | .frz o u => h.get? a = some o ∧ ObjOk H h a u
  | .tbl ps => h.get? a = some { cls := .none, data := .fields ps }
  | .met f x => h.get? a = some (PySem.W.methodObj (.ref f) (.ref x))
  | .ext φ => φ h ∧ (∃ o, h.get? a = some o) ∧ ∀ h1 h2 : Heap, φ h1 → (∀ o, h1.get? a = some o → h2.get? a = some o) → φ h2
def HOk (H : Hp) (h : Heap) : Prop := ∀ a o, H a = some o → ObjOk P w H h a o
end
section
variable {P : Program} {w : World} {H H' : Hp} {h h' : Heap} {a : Addr} {o : HO}
theorem ObjOk.lt (x : ObjOk P w H h a o) : a < h.objs.size := by
  cases o with
  | lst xs => obtain ⟨_, _, _, _, e⟩ := x; exact Heap.lt_size e
  | tup xs => obtain ⟨_, _, _, p⟩ := x; exact p.1.lt
  | dK kvs => obtain ⟨_, _, _, _, o, _, _, e, _⟩ := x; exact Heap.lt_size e
  | dT kvs => obtain ⟨_, _, _, _, o, _, _, e, _⟩ := x; exact Heap.lt_size e
  | set S n => obtain ⟨o, _, _, _, e, _⟩ := x; exact Heap.lt_size e
  | ins C dx fs => obtain ⟨_, _, _, e, _⟩ := x; exact Heap.lt_size e
  | own y => obtain ⟨_, e⟩ := x; exact Heap.lt_size e
  | xd fs => obtain ⟨_, ⟨_, _, _, e, _⟩, _⟩ := x; exact Heap.lt_size e
  | rng lo hi => obtain ⟨_, _, _, e⟩ := x; exact Heap.lt_size e
  | frz ob u => obtain ⟨e, _⟩ := x; exact Heap.lt_size e
  | tbl ps => exact Heap.lt_size (show h.get? a = some _ from x)
  | met f y => exact Heap.lt_size (show h.get? a = some _ from x)
  | ext φ => obtain ⟨_, ⟨_, e⟩, _⟩ := x; exact Heap.lt_size e
theorem Paired.mapP {α β : Type} {F G : α → β → Prop} : ∀ {l₁ : List α} {l₂ : List β}, Paired F l₁ l₂ → (∀ a b, F a b → G a b) → Paired G l₁ l₂
  | _, _, .nil, _ => .nil
  | _, _, .cons r t, f => .cons (f _ _ r) (Paired.mapP t f)
theorem ObjOk.stay (x : ObjOk P w H h a o) (k : ∀ b u, (b = a ∨ H b = some (.own a)) → h.get? b = some u → h'.get? b = some u)
    (ho : ∀ b, H b = some (.own a) → H' b = some (.own a)) (ht : ∀ b xs, H b = some (.tup xs) → H' b = some (.tup xs)) : ObjOk P w H' h' a o := by
  induction o with
  | lst xs => obtain ⟨z, its, n, r, e⟩ := x; exact ⟨z, its, n, r, k _ _ (.inl rfl) e⟩
  | tup xs => obtain ⟨z, its, r, ⟨ob, e, c⟩, o2, e2, d2⟩ := x; exact ⟨z, its, r, ⟨ob, k _ _ (.inl rfl) e, c⟩, o2, k _ _ (.inl rfl) e2, d2⟩
  | dK kvs => obtain ⟨z, y, vs, r, ob, es, ep, e, c⟩ := x; exact ⟨z, y, vs, r, ob, es, ep, k _ _ (.inl rfl) e, c⟩
  | dT kvs =>
    obtain ⟨z, y, xs, r, ob, es, ep, e, c⟩ := x
    exact ⟨z, y, xs, Paired.mapP r fun p q z => ⟨z.1, ht _ _ z.2.1, z.2.2⟩, ob, es, ep, k _ _ (.inl rfl) e, c⟩
  | set S n => obtain ⟨ob, es, ep, t, e, c⟩ := x; exact ⟨ob, es, ep, t, k _ _ (.inl rfl) e, c⟩
  | ins C dx fs =>
    obtain ⟨d, z, ne, e, mA, ⟨od, es, ep, e2, c⟩, r⟩ := x
    exact ⟨ho _ d, z, ne, k _ _ (.inl rfl) e, mA, ⟨od, es, ep, k _ _ (.inr d) e2, c⟩, r⟩
  | own y => obtain ⟨ob, e⟩ := x; exact ⟨ob, k _ _ (.inl rfl) e⟩
  | xd fs => obtain ⟨mA, ⟨od, es, ep, e, c⟩, r⟩ := x; exact ⟨mA, ⟨od, es, ep, k _ _ (.inl rfl) e, c⟩, r⟩
  | rng lo hi => obtain ⟨t, u, v, e⟩ := x; exact ⟨t, u, v, k _ _ (.inl rfl) e⟩
  | frz ob u ih => obtain ⟨e, q⟩ := x; exact ⟨k _ _ (.inl rfl) e, ih q⟩
  | tbl ps =>
    have e : h.get? a = some { cls := .none, data := .fields ps } := x
    show h'.get? a = some { cls := .none, data := .fields ps }
    exact k a _ (.inl rfl) e
  | met f y =>
    have e : h.get? a = some (PySem.W.methodObj (.ref f) (.ref y)) := x
    show h'.get? a = some (PySem.W.methodObj (.ref f) (.ref y))
    exact k a _ (.inl rfl) e
  | ext φ => obtain ⟨p, ⟨o, e⟩, st⟩ := x; exact ⟨st _ _ p fun o q => k _ _ (.inl rfl) q, ⟨o, k _ _ (.inl rfl) e⟩, st⟩
theorem HOk.lt (x : HOk P w H h) (e : H a = some o) : a < h.objs.size := (x a o e).lt
theorem HOk.fresh (x : HOk P w H h) (e : h.objs.size ≤ a) : H a = none := by
  cases q : H a with
  | none => rfl
  | some u => exact absurd (Nat.lt_of_lt_of_le (x.lt q) e) (Nat.lt_irrefl _)
theorem HOk.kept (x : HOk P w H h) (k : ∀ b u, h.get? b = some u → h'.get? b = some u) : HOk P w H h' := fun a o e =>
  (x a o e).stay (fun b u _ q => k b u q) (fun _ q => q) fun _ _ q => q
theorem HOk.laid (x : HOk P w H h) (k : ∀ b u, h.get? b = some u → h'.get? b = some u) (hp : h.objs.size ≤ a) (new : ObjOk P w (upd H a o) h' a o) : HOk P w (upd H a o) h' := fun b u e => by
  have hn := x.fresh hp
  by_cases hb : b = a
  · subst hb; rw [upd_same] at e; cases e; exact new
  · rw [upd_ne hb] at e
    exact (x b u e).stay (fun c v _ q => k c v q) (fun c q => by rw [upd_ne (ne_of_none q hn)]; exact q) fun c xs q => by rw [upd_ne (ne_of_none q hn)]; exact q
end
def Rd (H : Hp) (a : Addr) (u : HO) : Prop := H a = some u ∨ ∃ o, H a = some (.frz o u)
theorem Rd.ok {P : Program} {w : World} {H : Hp} {h : Heap} {a : Addr} {u : HO} (r : Rd H a u) (x : HOk P w H h) : ObjOk P w H h a u := by
  rcases r with r | ⟨o, r⟩
  · exact x a u r
  · obtain ⟨_, q⟩ := x a _ r
    exact q
def Mut : Option HO → Prop
  | some (.lst _) => True
  | some (.dK _) => True
  | some (.dT _) => True
  | some (.set _ _) => True
  | some (.ins _ _ _) => True
  | some (.ext _) => True
  | _ => False
section
variable {P : Program} {w : World} {H : Hp} {h h' : Heap} {x e : Addr} {o' : HO}
theorem HOk.write (ok : HOk P w H h) (mu : Mut (H x)) (he : e = x ∨ H e = some (.own x)) (k : ∀ b u, b ≠ e → h.get? b = some u → h'.get? b = some u) (heo : ∃ u, h'.get? e = some u)
    (new : ObjOk P w (upd H x o') h' x o') : HOk P w (upd H x o') h' := fun b u q => by
  have nown : ∀ c y, H c = some (.own y) → c ≠ x := fun c y r z => by subst z; rw [r] at mu; exact mu
  have ntup : ∀ c xs, H c = some (.tup xs) → c ≠ x := fun c xs r z => by subst z; rw [r] at mu; exact mu
  by_cases hb : b = x
  · subst hb; rw [upd_same] at q; cases q; exact new
  · rw [upd_ne hb] at q
    by_cases hbe : b = e
    · have q' : H b = some (.own x) := by
        rcases he with z | z
        · exact absurd (hbe.trans z) hb
        · rw [hbe]; exact z
      rw [q] at q'; cases q'
      obtain ⟨v, hv⟩ := heo
      exact ⟨v, by rw [hbe]; exact hv⟩
    · refine (ok b u q).stay (fun c v hc r => k c v ?_ r) (fun c r => by rw [upd_ne (nown c b r)]; exact r) fun c xs r => by rw [upd_ne (ntup c xs r)]; exact r
      rcases hc with rfl | hc
      · exact hbe
      · rintro rfl
        rcases he with z | z
        · exact nown c b hc z
        · rw [hc] at z; cases z; exact hb rfl
end
structure Un (fs ex : List Addr) (H H' : Hp) (h h' : Heap) : Prop where
  keep : ∀ b o, h.get? b = some o → H b = none → b ∉ fs → b ∉ ex → h'.get? b = some o
  slot : ∀ b o, h.get? b = some o → H b = none → b ∈ fs → b ∉ ex → ∃ sl, h'.get? b = some { o with slots := sl }
  free : ∀ b o, h.get? b = some o → H b = none → b ∉ ex → H' b = none
  there : ∀ b o, h.get? b = some o → b ∉ ex → ∃ o', h'.get? b = some o'
  tups : ∀ b xs, H b = some (.tup xs) → H' b = some (.tup xs)
  frzs : ∀ b o u, H b = some (.frz o u) → H' b = some (.frz o u)
  tbls : ∀ b ps, H b = some (.tbl ps) → ∃ more, H' b = some (.tbl (ps ++ more))
section
variable {fs fs' ex ex' : List Addr} {H H1 H2 : Hp} {h h1 h2 h' : Heap} {a x e : Addr} {o : HO}
theorem Un.any (u : Un fs ex H H1 h h1) {b : Addr} {ob : Obj} (q : h.get? b = some ob) (n : H b = none) (hx : b ∉ ex) : ∃ sl, h1.get? b = some { ob with slots := sl } := by
  by_cases hb : b ∈ fs
  · exact u.slot b ob q n hb hx
  · exact ⟨ob.slots, u.keep b ob q n hb hx⟩
theorem Un.kept (k : ∀ b u, h.get? b = some u → h'.get? b = some u) : Un fs ex H H h h' :=
  ⟨fun b ob q _ _ _ => k b ob q, fun b ob q _ _ _ => ⟨ob.slots, k b ob q⟩, fun _ _ _ n _ => n, fun b ob q _ => ⟨ob, k b ob q⟩, fun _ _ q => q, fun _ _ _ q => q, fun _ ps q => ⟨#[], by rw [q]; simp⟩⟩
theorem Un.refl : Un fs ex H H h h := Un.kept fun _ _ q => q
theorem Un.laid (k : ∀ b u, h.get? b = some u → h'.get? b = some u) (hp : h.objs.size ≤ a) (hn : H a = none) : Un fs ex H (upd H a o) h h' where
  keep := fun b u q _ _ _ => k b u q
  slot := fun b u q _ _ _ => ⟨u.slots, k b u q⟩
  free := fun b u q n _ => by rw [upd_ne (Nat.ne_of_lt (Nat.lt_of_lt_of_le (Heap.lt_size q) hp))]; exact n
  there := fun b u q _ => ⟨u, k b u q⟩
  tups := fun b xs q => by rw [upd_ne (ne_of_none q hn)]; exact q
  frzs := fun b u xs q => by rw [upd_ne (ne_of_none q hn)]; exact q
  tbls := fun b ps q => ⟨#[], by rw [upd_ne (ne_of_none q hn), q]; simp⟩
theorem Un.write (mu : Mut (H x)) (he : e = x ∨ H e = some (.own x)) (k : ∀ b u, b ≠ e → h.get? b = some u → h'.get? b = some u) (heo : ∃ u, h'.get? e = some u) : Un fs ex H (upd H x o) h h' := by
  have hx : ∀ b, H b = none → b ≠ x := fun b n z => by subst z; rw [n] at mu; exact mu
  have hb : ∀ b, H b = none → b ≠ e := fun b n z => by
    subst z
    rcases he with r | r
    · exact hx b n r
    · rw [n] at r; cases r
  have hm : ∀ b u, H b = some u → ¬ Mut (some u) → b ≠ x := fun b u q nm z => by subst z; rw [q] at mu; exact nm mu
  refine ⟨fun b u q n _ _ => k b u (hb b n) q, fun b u q n _ _ => ⟨u.slots, k b u (hb b n) q⟩, fun b u q n _ => by rw [upd_ne (hx b n)]; exact n, fun b u q _ => ?_,
    fun b xs q => by rw [upd_ne (hm b _ q fun z => z)]; exact q, fun b u xs q => by rw [upd_ne (hm b _ q fun z => z)]; exact q, fun b ps q => ⟨#[], by rw [upd_ne (hm b _ q fun z => z), q]; simp⟩⟩
  by_cases hbe : b = e
  · subst hbe; exact heo
  · exact ⟨u, k b u hbe q⟩
end
def trk (h : Heap) (H : Hp) : List Addr := (List.range h.objs.size).filter fun a => (H a).isSome
def hidT (h : Heap) (H : Hp) : Heap := PySem.W.hideAll h (trk h H)
theorem hidT_size (h : Heap) (H : Hp) : (hidT h H).objs.size = h.objs.size := PySem.W.hideAll_size _ _
theorem hidT_get {h : Heap} {H : Hp} {b : Addr} {o : Obj} (e : h.get? b = some o) (n : H b = none) : (hidT h H).get? b = some o :=
  PySem.W.hideAll_get _ e fun hm => by
    have q : (H b).isSome = true := (List.mem_filter.mp hm).2
    rw [n] at q; simp at q
theorem of_hidT {h : Heap} {H : Hp} {b : Addr} {o : Obj} (e : (hidT h H).get? b = some o) : h.get? b = some o ∧ H b = none := by
  have e' : h.get? b = some o := PySem.W.of_hideAll (trk h H) e
  refine ⟨e', ?_⟩
  cases q : H b with
  | none => rfl
  | some x =>
    have hm : b ∈ trk h H := List.mem_filter.mpr ⟨List.mem_range.mpr (Heap.lt_size e'), by simp [q]⟩
    have z : (hidT h H).get? b = none := PySem.W.hideAll_none (trk h H) hm
    rw [z] at e; cases e
def allNews (g h : Heap) (L : Addr) : List (Addr × Obj) := (List.range h.objs.size).filterMap fun a => if a = L ∨ (g.get? a).isSome = true then none else (h.get? a).map fun o => (a, o)
def rest (g h : Heap) (L d : Addr) : List (Addr × Obj) := (allNews g h L).filter fun p => decide (p.1 ≠ d)
end L2
namespace L2
open PySem PySem.Spec PyProof.Rows
structure Mod (K : PySem.W.Frag) (mg : Str → Option Value) (base : Heap) : Prop where
  kin : K.In base
  glob : base.Ns mainGlobals mg
  blt : ∃ mb, base.Ns builtinsNs mb ∧ ∀ x : Str, x ≠ "__name__" → mb x = bootBuiltins x
  nolimit : base.NoLimit
structure Cx where
  prog : Program
  w : World
  K : PySem.W.Frag
  mg : Str → Option Value
  base : Heap
  A : Around
  N : List Str
  s₀ : Shared
  H₀ : Hp
  env : Env
  outer : List Env
  stack : List Env
  ex : List Addr
  fn : Str → Bool
  calm : Bool
  pn : List (Addr × Obj)
  xe : Value → Shared → Prop
def frs (l : List Env) : List Addr := l.filterMap (·.frame)
abbrev Cx.fs (X : Cx) : List Addr := frs X.outer
def Vis (sc : Scope) (x : Str) : Prop := sc.names.lookup x = some .local ∨ sc.names.lookup x = some .cell ∨ sc.names.lookup x = some .free
def Loc (sc : Scope) (x : Str) : Prop := sc.names.lookup x = some .local ∨ sc.names.lookup x = some .cell
def Look (env : Env) (h : Heap) (m : Str → Option Value) (x : Str) (u : Value) : Prop :=
  (env.kindOf x = some .local ∧ m x = some u) ∨ ((env.kindOf x = some .cell ∨ env.kindOf x = some .free) ∧ ∃ c, env.cells.lookup x = some c ∧ h.IsCell c (some u))
structure Cx.Ok (X : Cx) : Prop where
  mod : Mod X.K X.mg X.base
  kind : X.env.scope.kind = .function
  glob : X.env.globals = mainGlobals
  blt : X.env.builtins = builtinsNs
  above : X.s₀.heap.objs.size ≤ X.env.locals
  inj : ∀ x y c, X.env.cells.lookup x = some c → X.env.cells.lookup y = some c → x = y
  has : ∀ x, (X.env.kindOf x = some .cell ∨ X.env.kindOf x = some .free) → ∃ c, X.env.cells.lookup x = some c
  cab : ∀ x c, X.fn x = true → X.env.cells.lookup x = some c → X.s₀.heap.objs.size ≤ c
  hd : X.calm = true → X.A.handled = none
  frames : X.A.frames = some X.stack
  stk : X.stack = X.outer ∨ (X.stack = X.env :: X.outer ∧ X.env.frame = some X.env.locals)
  exf : ∀ b ∈ X.ex, b ≠ X.env.locals ∧ ∀ x c, X.env.cells.lookup x = some c → c ≠ b
  bs : ∀ b o, X.base.get? b = some o → X.s₀.heap.get? b = some o ∧ X.H₀ b = none
  bsz : X.base.objs.size ≤ X.s₀.heap.objs.size
  noex : ∀ b o, X.base.get? b = some o → b ∉ X.ex
  exfs : ∀ b ∈ X.ex, b ∉ X.fs
  funs : X.s₀.heap.FunFrames X.base X.outer
  frf : ∀ b ∈ X.fs, X.H₀ b = none
structure Inv (X : Cx) (pins : List (Addr × Obj)) (σ : List (Option V)) (H : Hp) (s : Shared) : Prop where
  ok : X.Ok
  os : s.os = X.s₀.os
  bare : AllBare s.gens
  base : Un X.fs X.ex X.H₀ H X.s₀.heap s.heap
  loc : ∃ m, s.heap.Ns X.env.locals m ∧ ∀ (i : Nat) (x : Str) (v : V), X.N[i]? = some x → σ[i]? = some (some v) → Vis X.env.scope x → ∃ u, RelV v u ∧ Look X.env s.heap m x u
  cell : ∀ x c, X.env.cells.lookup x = some c → ∃ v, s.heap.IsCell c v
  free : H X.env.locals = none
  freeC : ∀ x c, X.env.cells.lookup x = some c → H c = none
  pin : ∀ p ∈ X.pn ++ pins, s.heap.get? p.1 = some p.2 ∧ H p.1 = none ∧ p.1 ≠ X.env.locals ∧ p.1 ∉ X.fs ∧ ∀ v, p.2.data ≠ .cell v
  hok : HOk X.prog X.w H s.heap
  len : σ.length = X.N.length
section
variable {X : Cx} {pins : List (Addr × Obj)} {σ : List (Option V)} {H H' : Hp} {s : Shared} {h' : Heap}
theorem Cx.Ok.nofr (ok : X.Ok) {b : Addr} {o : Obj} (e : X.base.get? b = some o) : b ∉ X.fs := fun hb => by
  have := (ok.funs.mem hb).1
  rw [e] at this; cases this
theorem Inv.bs (I : Inv X pins σ H s) : ∀ b o, X.base.get? b = some o → s.heap.get? b = some o ∧ H b = none := fun b o e =>
  ⟨I.base.keep b o (I.ok.bs b o e).1 (I.ok.bs b o e).2 (I.ok.nofr e) (I.ok.noex b o e), I.base.free b o (I.ok.bs b o e).1 (I.ok.bs b o e).2 (I.ok.noex b o e)⟩
theorem Inv.bk (I : Inv X pins σ H s) : ∀ b o, X.base.get? b = some o → s.heap.get? b = some o := fun b o e => (I.bs b o e).1
theorem Inv.mod (I : Inv X pins σ H s) : Mod X.K X.mg X.base := I.ok.mod
theorem Inv.kIn (I : Inv X pins σ H s) : X.K.In s.heap := I.ok.mod.kin.keeps I.bk
theorem Inv.lt (I : Inv X pins σ H s) : X.env.locals < s.heap.objs.size := let ⟨_, hn, _⟩ := I.loc; hn.lt
theorem Inv.sz (I : Inv X pins σ H s) : X.s₀.heap.objs.size ≤ s.heap.objs.size := Nat.le_trans I.ok.above (Nat.le_of_lt I.lt)
theorem Inv.nofs (I : Inv X pins σ H s) {a : Addr} (h : s.heap.objs.size ≤ a) : a ∉ X.fs := fun hb => by
  obtain ⟨_, o, ho, _⟩ := I.ok.funs.mem hb
  exact absurd (Nat.lt_of_lt_of_le (Heap.lt_size ho) (Nat.le_trans I.sz h)) (Nat.lt_irrefl _)
theorem Inv.cne (I : Inv X pins σ H s) : ∀ x c, X.env.cells.lookup x = some c → c ≠ X.env.locals := fun x c e z => by
  obtain ⟨v, o, ho, hd⟩ := I.cell x c e
  obtain ⟨m, ⟨o', es, ep, ho', hd', _⟩, _⟩ := I.loc
  rw [z, ho'] at ho; cases ho; rw [hd'] at hd; cases hd
theorem Inv.funs (I : Inv X pins σ H s) : s.heap.FunFrames X.base X.outer := by
  have all : ∀ (l : List Env), (∀ b ∈ frs l, b ∈ X.fs) → X.s₀.heap.FunFrames X.base l → s.heap.FunFrames X.base l := by
    intro l
    induction l with
    | nil => intro _ _; trivial
    | cons env r ih =>
      intro hs hl
      obtain ⟨hk, ⟨L, o, hf, hn, ho, hd⟩, hr⟩ := hl
      have hL : L ∈ X.fs := hs L (by unfold frs; rw [List.filterMap_cons, hf]; exact List.mem_cons_self)
      obtain ⟨sl, e⟩ := I.base.slot L o ho (I.ok.frf L hL) hL fun z => I.ok.exfs L z hL
      exact ⟨hk, ⟨L, _, hf, hn, e, hd⟩, ih (fun b hb => hs b (by unfold frs; rw [List.filterMap_cons, hf]; exact List.mem_cons_of_mem _ hb)) hr⟩
  exact all X.outer (fun _ hb => hb) I.ok.funs
theorem Inv.stack (I : Inv X pins σ H s) : s.heap.FunFrames X.base X.stack := by
  rcases I.ok.stk with e | ⟨e, hf⟩
  · rw [e]; exact I.funs
  · rw [e]
    obtain ⟨m, hn, _⟩ := I.loc
    refine .cons (by rw [I.ok.kind]; decide) hf hn ?_ I.funs
    exact Heap.get?_none_of_le (Nat.le_trans I.ok.bsz I.ok.above)
theorem Inv.stkSub (I : Inv X pins σ H s) : ∀ b ∈ frs X.stack, b ∈ X.env.locals :: X.fs := fun b hb => by
  rcases I.ok.stk with e | ⟨e, hf⟩
  · rw [e] at hb; exact List.mem_cons_of_mem _ hb
  · rw [e] at hb
    unfold frs at hb
    rw [List.filterMap_cons, hf] at hb
    exact hb
theorem Inv.stkFree (I : Inv X pins σ H s) : ∀ b ∈ frs X.stack, H b = none := fun b hb => by
  rcases List.mem_cons.mp (I.stkSub b hb) with e | hb
  · rw [e]; exact I.free
  · obtain ⟨_, o, ho, _⟩ := I.ok.funs.mem hb
    exact I.base.free b o ho (I.ok.frf b hb) fun z => I.ok.exfs b z hb
theorem Inv.step {g' : Array GenState} {t' : Nat} {d' : Drawn} {ch : List Addr} (I : Inv X pins σ H s)
    (hch : ∀ b ∈ ch, (b ∈ X.ex ∨ X.s₀.heap.objs.size ≤ b) ∧ b ≠ X.env.locals ∧ (∀ x c, X.env.cells.lookup x = some c → c ≠ b) ∧ ∀ p ∈ X.pn ++ pins, p.1 ≠ b)
    (keep : ∀ b o, b ≠ X.env.locals → b ∉ X.fs → b ∉ ch → s.heap.get? b = some o → H b = none → h'.get? b = some o)
    (slot : ∀ b o, b ≠ X.env.locals → b ∈ X.fs → b ∉ ch → s.heap.get? b = some o → H b = none → ∃ sl, h'.get? b = some { o with slots := sl }) (free : ∀ b o, b ∉ ch → s.heap.get? b = some o → H b = none → H' b = none)
    (there : ∀ b o, b ∉ ch → s.heap.get? b = some o → ∃ o', h'.get? b = some o')
    (tups : ∀ b xs, H b = some (.tup xs) → H' b = some (.tup xs)) (frzs : ∀ b o u, H b = some (.frz o u) → H' b = some (.frz o u)) (tbls : ∀ b ps, H b = some (.tbl ps) → ∃ more, H' b = some (.tbl (ps ++ more)))
    (ns : ∀ m, s.heap.Ns X.env.locals m → h'.Ns X.env.locals m) (hok : HOk X.prog X.w H' h') (hg : AllBare g') :
    Inv X pins σ H' { s with heap := h', gens := g', drawn := d', toks := t' } := by
  have neL : ∀ b o, X.s₀.heap.get? b = some o → b ≠ X.env.locals := fun b o e => Nat.ne_of_lt (Nat.lt_of_lt_of_le (Heap.lt_size e) I.ok.above)
  have neC : ∀ b o, X.s₀.heap.get? b = some o → b ∉ X.ex → b ∉ ch := fun b o e hx hb => by
    rcases (hch b hb).1 with z | z
    · exact hx z
    · exact absurd (Nat.lt_of_lt_of_le (Heap.lt_size e) z) (Nat.lt_irrefl _)
  have cellK : ∀ x c, X.env.cells.lookup x = some c → ∀ v, s.heap.IsCell c v → h'.IsCell c v := fun x c e v ⟨o, ho, hd⟩ => by
    have nch : c ∉ ch := fun z => (hch c z).2.2.1 x c e rfl
    by_cases hc : c ∈ X.fs
    · obtain ⟨sl, q⟩ := slot c o (I.cne x c e) hc nch ho (I.freeC x c e)
      exact ⟨_, q, hd⟩
    · exact ⟨o, keep c o (I.cne x c e) hc nch ho (I.freeC x c e), hd⟩
  refine ⟨I.ok, I.os, hg, ⟨fun b o e n hb hx => ?_, fun b o e n hb hx => ?_, fun b o e n hx => ?_, fun b o e hx => ?_, fun b xs e => tups b xs (I.base.tups b xs e), fun b o xs e => frzs b o xs (I.base.frzs b o xs e), fun b ps e => ?_⟩, ?_, fun x c e => ?_, ?_, fun x c e => ?_, fun p hp => ?_, hok, I.len⟩
  · exact keep b o (neL b o e) hb (neC b o e hx) (I.base.keep b o e n hb hx) (I.base.free b o e n hx)
  · obtain ⟨sl, e1⟩ := I.base.slot b o e n hb hx
    obtain ⟨sl', e2⟩ := slot b _ (neL b o e) hb (neC b o e hx) e1 (I.base.free b o e n hx)
    exact ⟨sl', e2⟩
  · obtain ⟨o', e1⟩ := I.base.there b o e hx
    exact free b o' (neC b o e hx) e1 (I.base.free b o e n hx)
  · obtain ⟨o', e1⟩ := I.base.there b o e hx
    exact there b o' (neC b o e hx) e1
  · obtain ⟨m1, e1⟩ := I.base.tbls b ps e
    obtain ⟨m2, e2⟩ := tbls b _ e1
    exact ⟨m1 ++ m2, by rw [e2, Array.append_assoc]⟩
  · obtain ⟨m, hn, hl⟩ := I.loc
    refine ⟨m, ns m hn, fun i x v e1 e2 e3 => ?_⟩
    obtain ⟨u, r, l⟩ := hl i x v e1 e2 e3
    refine ⟨u, r, ?_⟩
    rcases l with l | ⟨k, c, e, z⟩
    · exact .inl l
    · exact .inr ⟨k, c, e, cellK x c e _ z⟩
  · obtain ⟨v, z⟩ := I.cell x c e
    exact ⟨v, cellK x c e v z⟩
  · obtain ⟨m, ⟨o, _, _, ho, _⟩, _⟩ := I.loc
    exact free _ o (fun z => (hch _ z).2.1 rfl) ho I.free
  · obtain ⟨v, o, ho, hd⟩ := I.cell x c e
    exact free c o (fun z => (hch c z).2.2.1 x c e rfl) ho (I.freeC x c e)
  · obtain ⟨e, n, ne, nf, d⟩ := I.pin p hp
    have nch : p.1 ∉ ch := fun z => (hch p.1 z).2.2.2 p hp rfl
    exact ⟨keep p.1 p.2 ne nf nch e n, free p.1 p.2 nch e n, ne, nf, d⟩
theorem Inv.un {t' : Nat} (I : Inv X pins σ H s) (u : Un X.fs [] H H' s.heap h') (hok : HOk X.prog X.w H' h') : Inv X pins σ H' { s with heap := h', toks := t' } := by
  obtain ⟨m, ⟨o, es, ep, ho, r⟩, _⟩ := id I.loc
  obtain ⟨sl, hL⟩ := u.any ho I.free (by simp)
  exact I.step (g' := s.gens) (d' := s.drawn) (ch := []) (fun _ z => nomatch z) (fun b o _ hb _ e n => u.keep b o e n hb (by simp)) (fun b o _ hb _ e n => u.slot b o e n hb (by simp)) (fun b o _ e n => u.free b o e n (by simp)) (fun b o _ e => u.there b o e (by simp)) u.tups u.frzs u.tbls (fun m' hm => by
    obtain ⟨o', es', ep', ho', r'⟩ := hm
    rw [ho] at ho'; cases ho'
    exact ⟨_, es', ep', hL, r'⟩) hok I.bare
theorem Inv.call {g' : Array GenState} {t' : Nat} {d' : Drawn} {ch : List Addr} (I : Inv X pins σ H s) (u : Un (frs X.stack) ch H H' s.heap h') (hok : HOk X.prog X.w H' h') (hg : AllBare g')
    (hch : ∀ b ∈ ch, (b ∈ X.ex ∨ X.s₀.heap.objs.size ≤ b) ∧ b ≠ X.env.locals ∧ (∀ x c, X.env.cells.lookup x = some c → c ≠ b) ∧ ∀ p ∈ X.pn ++ pins, p.1 ≠ b) :
    Inv X pins σ H' { s with heap := h', gens := g', drawn := d', toks := t' } := by
  obtain ⟨m, ⟨o, es, ep, ho, r⟩, _⟩ := id I.loc
  obtain ⟨sl, hL⟩ := u.any ho I.free fun z => (hch _ z).2.1 rfl
  exact I.step (ch := ch) hch (fun b o hL hb hc e n => u.keep b o e n (fun z => (List.mem_cons.mp (I.stkSub b z)).elim hL hb) hc) (fun b o _ _ hc e n => u.any e n hc) (fun b o hc e n => u.free b o e n hc) (fun b o hc e => u.there b o e hc) u.tups u.frzs u.tbls (fun m' hm => by
    obtain ⟨o', es', ep', ho', r'⟩ := hm
    rw [ho] at ho'; cases ho'
    exact ⟨_, es', ep', hL, r'⟩) hok hg
theorem Inv.turned {t' : Nat} {it : Addr} (I : Inv X pins σ H s) (k : ∀ b o, b ≠ it → s.heap.get? b = some o → h'.get? b = some o) (hn : H it = none) (hL : it ≠ X.env.locals)
    (h1 : it ∈ X.ex ∨ X.s₀.heap.objs.size ≤ it) (h2 : ∀ x c, X.env.cells.lookup x = some c → c ≠ it) (h3 : ∀ p ∈ X.pn ++ pins, p.1 ≠ it) : Inv X pins σ H { s with heap := h', toks := t' } := by
  have nit : ∀ b u, H b = some u → b ≠ it := fun b u e z => by rw [z, hn] at e; cases e
  refine I.step (g' := s.gens) (d' := s.drawn) (ch := [it]) (fun b hb => ?_) (fun b o _ _ hc e _ => k b o (fun z => hc (by simp [z])) e) (fun b o _ _ hc e _ => ⟨o.slots, k b o (fun z => hc (by simp [z])) e⟩) (fun _ _ _ _ n => n)
    (fun b o hc e => ⟨o, k b o (fun z => hc (by simp [z])) e⟩) (fun _ _ e => e) (fun _ _ _ e => e) (fun b ps e => ⟨#[], by rw [e]; simp⟩) (fun m hm => ?_) (fun b u e => ?_) I.bare
  · have e : b = it := by simpa using hb
    subst e
    exact ⟨h1, hL, h2, h3⟩
  · obtain ⟨o, es, ep, ho, r⟩ := hm
    exact ⟨o, es, ep, k _ o (Ne.symm hL) ho, r⟩
  · refine (I.hok b u e).stay (fun c v hc q => k c v ?_ q) (fun _ q => q) fun _ _ q => q
    rcases hc with z | z
    · rw [z]; exact nit b u e
    · exact nit c _ z
theorem Inv.tok (I : Inv X pins σ H s) (t : Nat) : Inv X pins σ H { s with toks := t } := I.un (h' := s.heap) (t' := t) Un.refl I.hok
theorem Inv.kept {t' : Nat} (I : Inv X pins σ H s) (k : ∀ b u, s.heap.get? b = some u → h'.get? b = some u) : Inv X pins σ H { s with heap := h', toks := t' } := I.un (Un.kept k) (I.hok.kept k)
theorem Inv.laid {a : Addr} {o : HO} {t' : Nat} (I : Inv X pins σ H s) (k : ∀ b u, s.heap.get? b = some u → h'.get? b = some u) (hp : s.heap.objs.size ≤ a) (new : ObjOk X.prog X.w (upd H a o) h' a o) :
    Inv X pins σ (upd H a o) { s with heap := h', toks := t' } := I.un (Un.laid k hp (I.hok.fresh hp)) (I.hok.laid k hp new)
theorem Inv.write {x e : Addr} {o : HO} {t' : Nat} (I : Inv X pins σ H s) (mu : Mut (H x)) (he : e = x ∨ H e = some (.own x)) (k : ∀ b u, b ≠ e → s.heap.get? b = some u → h'.get? b = some u) (heo : ∃ u, h'.get? e = some u)
    (new : ObjOk X.prog X.w (upd H x o) h' x o) : Inv X pins σ (upd H x o) { s with heap := h', toks := t' } := I.un (Un.write mu he k heo) (I.hok.write mu he k heo new)
theorem Inv.weak {σ' : List (Option V)} (I : Inv X pins σ H s) (hl : σ'.length = σ.length) (w : ∀ (i : Nat) v, σ'[i]? = some (some v) → σ[i]? = some (some v)) : Inv X pins σ' H s :=
  ⟨I.ok, I.os, I.bare, I.base, let ⟨m, hn, hl'⟩ := I.loc; ⟨m, hn, fun i x v e1 e2 e3 => hl' i x v e1 (w i v e2) e3⟩, I.cell, I.free, I.freeC, I.pin, I.hok, hl.trans I.len⟩
theorem Inv.pins_of {pins' : List (Addr × Obj)} (I : Inv X pins σ H s) (h : ∀ p ∈ pins', s.heap.get? p.1 = some p.2 ∧ H p.1 = none ∧ p.1 ≠ X.env.locals ∧ p.1 ∉ X.fs ∧ ∀ v, p.2.data ≠ .cell v) : Inv X pins' σ H s :=
  ⟨I.ok, I.os, I.bare, I.base, I.loc, I.cell, I.free, I.freeC, fun p hp => (List.mem_append.mp hp).elim (fun z => I.pin p (List.mem_append_left _ z)) (h p), I.hok, I.len⟩
theorem nodup_ix {N : List Str} (hN : N.Nodup) {i j : Nat} {x : Str} (a : N[i]? = some x) (b : N[j]? = some x) : i = j := by
  obtain ⟨h1, e1⟩ := List.getElem?_eq_some_iff.mp a
  obtain ⟨h2, e2⟩ := List.getElem?_eq_some_iff.mp b
  exact (List.getElem_inj hN).mp (e1.trans e2.symm)
theorem store_ok2 {M : Model} {A : Around} {E : Value → Shared → Prop} {i : Nat} {x : Str} {v : V} {u : Value} {Q : Unit → Shared → Prop} (I : Inv X pins σ H s) (hN : X.N.Nodup) (hi : X.N[i]? = some x) (hx : Loc X.env.scope x) (r : RelV v u)
    (h : ∀ s', Inv X pins (σ.set i (some v)) H s' → (∃ a, Heap.SameBut a s.heap s'.heap ∧ (a = X.env.locals ∨ X.env.cells.lookup x = some a)) → Q () s') (hf : X.fn x = true ∨ X.env.scope.names.lookup x = some .local := by first | exact .inl rfl | exact .inr rfl | assumption) : wpAny M A (storeName X.env x u) Q E s := by
  obtain ⟨m, hn, hl⟩ := id I.loc
  have hcls : (X.env.scope.kind == .class || (X.env.scope.kind == .module && X.env.locals != X.env.globals)) = false := by rw [I.ok.kind]; rfl
  have hiσ : i < σ.length := by rw [I.len]; exact (List.getElem?_eq_some_iff.mp hi).1
  have cne := I.cne
  have tracked : ∀ {a : Addr} {h' : Heap}, (∃ o, s.heap.get? a = some o ∧ H a = none) → Heap.SameBut a s.heap h' → HOk X.prog X.w H h' := fun {a h'} ha hs b ob e => by
    obtain ⟨_, _, hfree⟩ := ha
    refine (I.hok b ob e).stay (fun c w' hc q => (hs.2 c ?_).trans q) (fun _ q => q) fun _ _ q => q
    rintro rfl
    rcases hc with rfl | hc
    · rw [hfree] at e; cases e
    · rw [hfree] at hc; cases hc
  rcases hx with hk | hk
  · refine wpAny_storeName_local hk hn (fun h' hn' hs => ?_) hcls
    obtain ⟨oL, _, _, hoL, _⟩ := id hn
    refine h _ ⟨I.ok, I.os, I.bare, ⟨fun b o e n hb hx => ?_, fun b o e n hb hx => ?_, I.base.free, fun b o e hx => ?_, I.base.tups, I.base.frzs, I.base.tbls⟩, ⟨_, hn', fun j y v' e1 e2 e3 => ?_⟩, fun y c e => ?_, I.free, I.freeC, fun p hp => ?_, tracked ⟨oL, hoL, I.free⟩ hs, by simpa using I.len⟩ ⟨_, hs, .inl rfl⟩
    · exact (hs.2 b (Nat.ne_of_lt (Nat.lt_of_lt_of_le (Heap.lt_size e) I.ok.above))).trans (I.base.keep b o e n hb hx)
    · obtain ⟨sl, e1⟩ := I.base.slot b o e n hb hx
      exact ⟨sl, (hs.2 b (Nat.ne_of_lt (Nat.lt_of_lt_of_le (Heap.lt_size e) I.ok.above))).trans e1⟩
    · obtain ⟨o', e1⟩ := I.base.there b o e hx
      exact ⟨o', (hs.2 b (Nat.ne_of_lt (Nat.lt_of_lt_of_le (Heap.lt_size e) I.ok.above))).trans e1⟩
    · by_cases hj : j = i
      · subst hj
        rw [hi] at e1; cases e1
        rw [List.getElem?_set_self hiσ] at e2
        cases e2
        exact ⟨u, r, .inl ⟨hk, by simp⟩⟩
      · rw [List.getElem?_set_ne (Ne.symm hj)] at e2
        obtain ⟨u', r', q⟩ := hl j y v' e1 e2 e3
        refine ⟨u', r', ?_⟩
        rcases q with ⟨k, e⟩ | ⟨k, c, e, z⟩
        · refine .inl ⟨k, ?_⟩
          have : y ≠ x := fun e => hj (nodup_ix hN e1 (e ▸ hi))
          simp [this, e]
        · exact .inr ⟨k, c, e, z.sameBut hs (cne y c e)⟩
    · obtain ⟨w', z⟩ := I.cell y c e
      exact ⟨w', z.sameBut hs (cne y c e)⟩
    · obtain ⟨e, n, ne, nf, d⟩ := I.pin p hp
      exact ⟨(hs.2 p.1 ne).trans e, n, ne, nf, d⟩
  · have hfn : X.fn x = true := by
      rcases hf with z | z
      · exact z
      · rw [z] at hk; cases hk
    obtain ⟨c, hc⟩ := I.ok.has x (.inl hk)
    obtain ⟨w', z⟩ := I.cell x c hc
    refine wpAny_storeName_cell I.ok.kind hk hc z (fun h' hc' hs => ?_)
    obtain ⟨oc, hoc, hocd⟩ := id z
    refine h { s with heap := h' } ⟨I.ok, I.os, I.bare, ⟨fun b o e n hb hx => ?_, fun b o e n hb hx => ?_, I.base.free, fun b o e hx => ?_, I.base.tups, I.base.frzs, I.base.tbls⟩, ⟨m, hn.sameBut hs (Ne.symm (cne x c hc)), fun j y v' e1 e2 e3 => ?_⟩, fun y c' e => ?_, I.free, I.freeC, fun p hp => ?_, tracked ⟨oc, hoc, I.freeC x c hc⟩ hs, by simpa using I.len⟩ ⟨c, hs, .inr hc⟩
    · exact (hs.2 b (Nat.ne_of_lt (Nat.lt_of_lt_of_le (Heap.lt_size e) (I.ok.cab x c hfn hc)))).trans (I.base.keep b o e n hb hx)
    · obtain ⟨sl, e1⟩ := I.base.slot b o e n hb hx
      exact ⟨sl, (hs.2 b (Nat.ne_of_lt (Nat.lt_of_lt_of_le (Heap.lt_size e) (I.ok.cab x c hfn hc)))).trans e1⟩
    · obtain ⟨o', e1⟩ := I.base.there b o e hx
      exact ⟨o', (hs.2 b (Nat.ne_of_lt (Nat.lt_of_lt_of_le (Heap.lt_size e) (I.ok.cab x c hfn hc)))).trans e1⟩
    · by_cases hj : j = i
      · subst hj
        rw [hi] at e1; cases e1
        rw [List.getElem?_set_self hiσ] at e2
        cases e2
        exact ⟨u, r, .inr ⟨.inl hk, c, hc, hc'⟩⟩
      · rw [List.getElem?_set_ne (Ne.symm hj)] at e2
        obtain ⟨u', r', q⟩ := hl j y v' e1 e2 e3
        refine ⟨u', r', ?_⟩
        rcases q with q | ⟨k, c', e, z'⟩
        · exact .inl q
        · refine .inr ⟨k, c', e, z'.sameBut hs ?_⟩
          rintro rfl
          exact hj (nodup_ix hN e1 (I.ok.inj _ _ _ e hc ▸ hi))
    · by_cases hcc : c' = c
      · subst hcc; exact ⟨_, hc'⟩
      · obtain ⟨w2, z2⟩ := I.cell y c' e
        exact ⟨w2, z2.sameBut hs hcc⟩
    · obtain ⟨e, n, ne, nf, d⟩ := I.pin p hp
      refine ⟨(hs.2 p.1 ?_).trans e, n, ne, nf, d⟩
      intro q
      rw [q, hoc] at e
      have q' : oc = p.2 := Option.some.inj e
      exact d w' (by rw [← q']; exact hocd)
theorem store_ok {M : Model} {A : Around} {E : Value → Shared → Prop} {i : Nat} {x : Str} {v : V} {u : Value} {Q : Unit → Shared → Prop} (I : Inv X pins σ H s) (hN : X.N.Nodup) (hi : X.N[i]? = some x) (hx : Loc X.env.scope x) (r : RelV v u)
    (h : ∀ s', Inv X pins (σ.set i (some v)) H s' → Q () s') (hf : X.fn x = true ∨ X.env.scope.names.lookup x = some .local := by first | exact .inl rfl | exact .inr rfl | assumption) : wpAny M A (storeName X.env x u) Q E s :=
  store_ok2 I hN hi hx r (fun s' I' _ => h s' I') hf
theorem Inv.call' {s' : Shared} {ch : List Addr} (I : Inv X pins σ H s) (ho : s'.os = s.os) (u : Un (frs X.stack) ch H H' s.heap s'.heap) (hok : HOk X.prog X.w H' s'.heap) (hg : AllBare s'.gens)
    (hch : ∀ b ∈ ch, (b ∈ X.ex ∨ X.s₀.heap.objs.size ≤ b) ∧ b ≠ X.env.locals ∧ (∀ x c, X.env.cells.lookup x = some c → c ≠ b) ∧ ∀ p ∈ X.pn ++ pins, p.1 ≠ b) : Inv X pins σ H' s' := by
  obtain ⟨h', g', d', t', o'⟩ := s'
  have e : o' = s.os := ho
  subst e
  exact I.call (g' := g') (t' := t') (d' := d') u hok hg hch
end
abbrev XK := Value → Option Addr → Hp → Prop
abbrev St := List (Option V)
abbrev VK := V → Hp → Prop
abbrev TE := St → Hp → VK → Prop
abbrev TT := St → Hp → (Bool → Hp → Prop) → Prop
abbrev TA := St → Hp → (List V → Hp → Prop) → Prop
structure Ends where
  nx : St → Hp → Prop
  rt : VK
  bk : St → Hp → Prop := fun _ _ => False
  ct : St → Hp → Prop := fun _ _ => False
abbrev TS := Ends → St → Hp → Prop
def EP (X : Cx) (pins : List (Addr × Obj)) (σ : St) (Q : VK) (u : Value) (s' : Shared) : Prop := ∃ v H', Inv X pins σ H' s' ∧ RelV v u ∧ Q v H'
def TP (X : Cx) (pins : List (Addr × Obj)) (σ : St) (Q : Bool → Hp → Prop) (b : Bool) (s' : Shared) : Prop := ∃ H', Inv X pins σ H' s' ∧ Q b H'
def AP (X : Cx) (pins : List (Addr × Obj)) (σ : St) (Q : List V → Hp → Prop) (us : List Value) (s' : Shared) : Prop := ∃ vs H', Inv X pins σ H' s' ∧ Vals vs us ∧ Q vs H'
def SP (X : Cx) (pins : List (Addr × Obj)) (D : Ends) (f : Flow) (s' : Shared) : Prop :=
  match f with
  | .next => ∃ σ' H', Inv X pins σ' H' s' ∧ D.nx σ' H'
  | .brk => ∃ σ' H', Inv X pins σ' H' s' ∧ D.bk σ' H'
  | .cont => ∃ σ' H', Inv X pins σ' H' s' ∧ D.ct σ' H'
  | .ret u => ∃ v σ' H', Inv X pins σ' H' s' ∧ RelV v u ∧ D.rt v H'
def PE (X : Cx) (e : Expr) (t : TE) : Prop :=
  ∀ (pins : List (Addr × Obj)) (s : Shared) (σ : St) (H : Hp) (Q : VK), Inv X pins σ H s → t σ H Q → wpAny (model X.prog X.w) X.A (eval e X.env) (EP X pins σ Q) X.xe s
def PT (X : Cx) (e : Expr) (t : TT) : Prop :=
  ∀ (pins : List (Addr × Obj)) (s : Shared) (σ : St) (H : Hp) (Q : Bool → Hp → Prop), Inv X pins σ H s → t σ H Q → wpAny (model X.prog X.w) X.A (isTrue e X.env (eval e X.env)) (TP X pins σ Q) X.xe s
def PW (X : Cx) (e : Expr) (t : TT) : Prop :=
  ∀ (whole : Sem Value) (pins : List (Addr × Obj)) (s : Shared) (σ : St) (H : Hp) (Q : Bool → Hp → Prop), Inv X pins σ H s → t σ H Q → wpAny (model X.prog X.w) X.A (isTrue e X.env whole) (TP X pins σ Q) X.xe s
theorem PW.pt {X : Cx} {e : Expr} {t : TT} (h : PW X e t) : PT X e t := h _
def PA (X : Cx) (es : List Expr) (t : TA) : Prop :=
  ∀ (pos : Pos) (pins : List (Addr × Obj)) (s : Shared) (σ : St) (H : Hp) (Q : List V → Hp → Prop), Inv X pins σ H s → t σ H Q → wpAny (model X.prog X.w) X.A (spliced (backTo pos (starEach es X.env))) (AP X pins σ Q) X.xe s
def PS (X : Cx) (st : Stmt) (t : TS) : Prop :=
  ∀ (pins : List (Addr × Obj)) (s : Shared) (σ : St) (H : Hp) (D : Ends), Inv X pins σ H s → t D σ H → wpAny (model X.prog X.w) X.A (exec st X.env) (SP X pins D) X.xe s
def PSs (X : Cx) (st : List Stmt) (t : TS) : Prop :=
  ∀ (pins : List (Addr × Obj)) (s : Shared) (σ : St) (H : Hp) (D : Ends), Inv X pins σ H s → t D σ H → wpAny (model X.prog X.w) X.A (execs st X.env) (SP X pins D) X.xe s
theorem thn {α : Type} {t : Sem α} {Q Q' : α → Shared → Prop} {M : Model} {A : Around} {E : Value → Shared → Prop} {s : Shared} (h : wpAny M A t Q E s) (hQ : ∀ a s, Q a s → Q' a s) : wpAny M A t Q' E s := wpAny_mono h hQ fun _ _ x => x
end L2
namespace L2
open PySem PySem.Spec PyProof.Rows
section
variable {X : Cx}
def tVar (i : Nat) : TE := fun σ H Q => ∃ v, σ[i]? = some (some v) ∧ Q v H
def tC (v : V) : TE := fun _ H Q => Q v H
theorem pe_var {i : Nat} {x : Str} {pos : Pos} (hN : X.N[i]? = some x) (hv : Vis X.env.scope x) (hd : (x == ("__debug__" : Str)) = false := by decide) (hcd : (x == ("__classdict__" : Str)) = false := by decide) : PE X (.Name x pos) (tVar i) := by
  intro pins s σ H Q I h
  obtain ⟨v, e, h⟩ := h
  obtain ⟨m, hn, hl⟩ := I.loc
  obtain ⟨u, r, l⟩ := hl i x v hN e hv
  have fin : EP X pins σ Q u s := ⟨v, H, I, r, h⟩
  rcases l with ⟨hk, hm⟩ | ⟨hk, c, hc, hcell⟩
  · exact wpAny_Name (wpAny_loadName_local I.ok.kind hk hn hm fin) hd
  · rcases hk with hk | hk
    · exact wpAny_Name (wpAny_loadName_cell I.ok.kind hk hc hcell fin) hd
    · exact wpAny_Name (wpAny_loadName_free I.ok.kind hk hc hcell fin hcd) hd
theorem pe_int {i j pos} : PE X (.Constant (.int i) j pos) (tC (.int i)) := fun _ _ _ H _ I h => wpAny_Constant_int ⟨.int i, H, I.tok _, ⟨_, rfl⟩, h⟩
theorem pe_bl {b j pos} : PE X (.Constant (.bool b) j pos) (tC (.bl b)) := fun _ _ _ H _ I h => Constant_bool ⟨.bl b, H, I, rfl, h⟩
theorem pe_non {j pos} : PE X (.Constant .none j pos) (tC .non) := fun _ _ _ H _ I h => Constant_none ⟨.non, H, I, rfl, h⟩
theorem pe_str {x j pos} : PE X (.Constant (.str x) j pos) (tC (.str x)) := fun _ _ _ H _ I h => Calls.Constant_str ⟨.str x, H, I.tok _, ⟨_, rfl⟩, h⟩
def Gl (X : Cx) (x : Str) : Prop := X.env.kindOf x = some .globalImplicit
theorem ld_glob {E : Value → Shared → Prop} {pins : List (Addr × Obj)} {s : Shared} {σ : St} {H : Hp} {x : Str} {u : Value} {pos : Pos} {Q : Value → Shared → Prop} (I : Inv X pins σ H s) (hg : Gl X x) (hm : X.mg x = some u) (h : Q u s)
    (hd : (x == ("__debug__" : Str)) = false := by decide) : wpAny (model X.prog X.w) X.A (eval (.Name x pos) X.env) Q E s :=
  Calls.Name_function_global I.ok.kind hg (Calls.loadGlobal_global (by rw [I.ok.glob]; exact I.mod.glob.keeps I.bk) hm h) hd
theorem ld_blt {E : Value → Shared → Prop} {pins : List (Addr × Obj)} {s : Shared} {σ : St} {H : Hp} {x : Str} {u : Value} {pos : Pos} {Q : Value → Shared → Prop} (I : Inv X pins σ H s) (hg : Gl X x) (hm : X.mg x = none) (hv : bootBuiltins x = some u) (h : Q u s)
    (hn : x ≠ "__name__" := by decide) (hd : (x == ("__debug__" : Str)) = false := by decide) : wpAny (model X.prog X.w) X.A (eval (.Name x pos) X.env) Q E s := by
  obtain ⟨mb, h1, h2⟩ := I.mod.blt
  exact Calls.Name_function_global I.ok.kind hg (Calls.loadGlobal_builtin (by rw [I.ok.glob]; exact I.mod.glob.keeps I.bk) hm (by rw [I.ok.blt]; exact h1.keeps I.bk) ((h2 x hn).trans hv) h) hd
theorem pe_glob {x : Str} {v : V} {u : Value} {pos : Pos} (hg : Gl X x) (hm : X.mg x = some u) (r : RelV v u) (hd : (x == ("__debug__" : Str)) = false := by decide) : PE X (.Name x pos) (tC v) :=
  fun _ _ _ H _ I h => ld_glob I hg hm ⟨v, H, I, r, h⟩ hd
theorem pe_bltn {x : Str} {v : V} {u : Value} {pos : Pos} (hg : Gl X x) (hm : X.mg x = none) (hv : bootBuiltins x = some u) (r : RelV v u) (hn : x ≠ "__name__" := by decide) (hd : (x == ("__debug__" : Str)) = false := by decide) : PE X (.Name x pos) (tC v) :=
  fun _ _ _ H _ I h => ld_blt I hg hm hv ⟨v, H, I, r, h⟩ hn hd
def t2I (ta tb : TE) (k : Int → Int → Hp → Prop) : St → Hp → Prop := fun σ H => ta σ H fun x H1 => tb σ H1 fun y H2 => ∃ i j, x = .int i ∧ y = .int j ∧ k i j H2
def tAdd (ta tb : TE) : TE := fun σ H Q => t2I ta tb (fun i j H2 => Q (.int (i + j)) H2) σ H
def tSub (ta tb : TE) : TE := fun σ H Q => t2I ta tb (fun i j H2 => Q (.int (i - j)) H2) σ H
def tMul (ta tb : TE) : TE := fun σ H Q => t2I ta tb (fun i j H2 => (-(2 ^ 64) < i ∧ i < 2 ^ 64) ∧ Q (.int (i * j)) H2) σ H
variable {a b : Expr} {ta tb : TE} {pos : Pos}
def PC (X : Cx) (op : CmpOp) (a b : Expr) (t : TE) : Prop :=
  ∀ (pins : List (Addr × Obj)) (s : Shared) (σ : St) (H : Hp) (Q : VK), Inv X pins σ H s → t σ H Q →
    wpAny (model X.prog X.w) X.A (eval a X.env) (fun v s₁ => wpAny (model X.prog X.w) X.A (eval b X.env) (fun u s₂ => wpAny (model X.prog X.w) X.A (compareOp op v u) (EP X pins σ Q) X.xe s₂) X.xe s₁) X.xe s
def tCmp (p : Int → Int → Bool) (ta tb : TE) : TE := fun σ H Q => t2I ta tb (fun i j H2 => Q (.bl (p i j)) H2) σ H
abbrev tLt : TE → TE → TE := tCmp fun i j => decide (i < j)
abbrev tLe : TE → TE → TE := tCmp fun i j => decide (i ≤ j)
abbrev tGt : TE → TE → TE := tCmp fun i j => decide (j < i)
abbrev tGe : TE → TE → TE := tCmp fun i j => decide (j ≤ i)
abbrev tEqI : TE → TE → TE := tCmp fun i j => decide (i = j)
abbrev tNeI : TE → TE → TE := tCmp fun i j => !decide (i = j)
def tIsN (ta : TE) : TE := fun σ H Q => ta σ H fun x H1 => Q (.bl (decide (x = .non))) H1
def tNotN (ta : TE) : TE := fun σ H Q => ta σ H fun x H1 => Q (.bl (!decide (x = .non))) H1
def tB (t : TE) : TT := fun σ H Q => t σ H fun x H1 => ∃ c, x = .bl c ∧ Q c H1
theorem pt_cmp {op : CmpOp} {t : TE} (h : PC X op a b t) (h1 : behindInMarks op b = false := by first | exact nobehind _ (by decide) (by decide) | rfl) : PT X (.Compare a [op] [b] pos) (tB t) := by
  intro pins s σ H Q I hw
  refine wpAny_isTrue_Compare1 (thn (h pins s σ H _ I hw) fun v s1 h1 => thn h1 fun u s2 h2 => thn h2 fun c s3 ⟨x, H1, I1, r1, q1⟩ => ?_) h1
  obtain ⟨d, rfl, q⟩ := q1
  cases r1
  exact wpAny_truthy_bool ⟨H1, I1, q⟩
theorem pt_val {e : Expr} {t : TE} (h : PE X e t) (he : ∀ whole, isTrue e X.env whole = (do let v ← whole; standAt e.pos; holding [v] (truthy v)) := by intro _; rfl) : PT X e (tB t) := by
  intro pins s σ H Q I hw
  refine isTrue_plain (thn (h pins s σ H _ I hw) fun v s1 ⟨x, H1, I1, r1, q1⟩ => ?_) (he _)
  obtain ⟨d, rfl, q⟩ := q1
  cases r1
  exact wpAny_truthy_bool ⟨H1, I1, q⟩
variable {tA tB' : TT} {rest : List Expr}
def tAnd (t u : TT) : TT := fun σ H Q => t σ H fun c H1 => if c = true then u σ H1 Q else Q false H1
def tOr (t u : TT) : TT := fun σ H Q => t σ H fun c H1 => if c = true then Q true H1 else u σ H1 Q
def tNot (t : TT) : TT := fun σ H Q => t σ H fun c H1 => Q (!c) H1
theorem pw_and1 (ha : PT X a tA) : PW X (.BoolOp .And [a] pos) tA := by
  intro wh pins s σ H Q I h
  refine isTrue_and (thn (ha pins s σ H Q I h) fun c s1 e => ?_)
  cases c with
  | true => exact isTrue_and_nil e
  | false => exact e
theorem pw_or1 (ha : PT X a tA) : PW X (.BoolOp .Or [a] pos) tA := by
  intro wh pins s σ H Q I h
  refine isTrue_or (thn (ha pins s σ H Q I h) fun c s1 e => ?_)
  cases c with
  | false => exact isTrue_or_nil e
  | true => exact e
theorem pw_and (ha : PT X a tA) (hb : PW X (.BoolOp .And (b :: rest) pos) tB') : PW X (.BoolOp .And (a :: b :: rest) pos) (tAnd tA tB') := by
  intro wh pins s σ H Q I h
  refine isTrue_and (thn (ha pins s σ H _ I h) fun c s1 ⟨H1, I1, q1⟩ => ?_)
  cases c with
  | true => exact hb wh pins s1 σ H1 Q I1 q1
  | false => exact ⟨H1, I1, q1⟩
theorem pw_or (ha : PT X a tA) (hb : PW X (.BoolOp .Or (b :: rest) pos) tB') : PW X (.BoolOp .Or (a :: b :: rest) pos) (tOr tA tB') := by
  intro wh pins s σ H Q I h
  refine isTrue_or (thn (ha pins s σ H _ I h) fun c s1 ⟨H1, I1, q1⟩ => ?_)
  cases c with
  | true => exact ⟨H1, I1, q1⟩
  | false => exact hb wh pins s1 σ H1 Q I1 q1
theorem pt_not (ha : PT X a tA) : PT X (.UnaryOp .Not a pos) (tNot tA) := by
  intro pins s σ H Q I h
  exact isTrue_not (ha pins s σ H (fun c H1 => Q (!c) H1) I h)
def tAndV (ta tb : TE) : TE := fun σ H Q => ta σ H fun x H1 => ∃ c, x = .bl c ∧ if c = true then tb σ H1 Q else Q (.bl false) H1
def tOrV (ta tb : TE) : TE := fun σ H Q => ta σ H fun x H1 => ∃ c, x = .bl c ∧ if c = true then Q (.bl true) H1 else tb σ H1 Q
def tNotV (ta : TE) : TE := fun σ H Q => ta σ H fun x H1 => ∃ c, x = .bl c ∧ Q (.bl (!c)) H1
theorem pe_one {op} {t : TE} (h : PE X a t) : PE X (.BoolOp op [a] pos) t := fun pins s σ H Q I hw => BoolOp_one (h pins s σ H Q I hw)
theorem pe_and (ha : PE X a ta) (hb : PE X (.BoolOp .And (b :: rest) pos) tb) : PE X (.BoolOp .And (a :: b :: rest) pos) (tAndV ta tb) := by
  intro pins s σ H Q I h
  refine BoolOp_and (thn (ha pins s σ H _ I h) fun v s1 ⟨x, H1, I1, r1, q1⟩ => ?_)
  obtain ⟨c, rfl, q1⟩ := q1
  cases r1
  refine wpAny_truthy_bool ?_
  cases c with
  | true => exact hb pins s1 σ H1 Q I1 q1
  | false => exact ⟨.bl false, H1, I1, rfl, q1⟩
theorem pe_or (ha : PE X a ta) (hb : PE X (.BoolOp .Or (b :: rest) pos) tb) : PE X (.BoolOp .Or (a :: b :: rest) pos) (tOrV ta tb) := by
  intro pins s σ H Q I h
  refine BoolOp_or (thn (ha pins s σ H _ I h) fun v s1 ⟨x, H1, I1, r1, q1⟩ => ?_)
  obtain ⟨c, rfl, q1⟩ := q1
  cases r1
  refine wpAny_truthy_bool ?_
  cases c with
  | false => exact hb pins s1 σ H1 Q I1 q1
  | true => exact ⟨.bl true, H1, I1, rfl, q1⟩
theorem pe_not (ha : PE X a ta) : PE X (.UnaryOp .Not a pos) (tNotV ta) := by
  intro pins s σ H Q I h
  refine UnaryOp_ (thn (ha pins s σ H _ I h) fun v s1 ⟨x, H1, I1, r1, q1⟩ => ?_)
  obtain ⟨c, rfl, q1⟩ := q1
  cases r1
  exact not_of (wpAny_truthy_bool ⟨.bl (!c), H1, I1, rfl, q1⟩)
def tIf (t : TT) (ta tb : TE) : TE := fun σ H Q => t σ H fun c H1 => if c = true then ta σ H1 Q else tb σ H1 Q
end
end L2
namespace L2
open PySem PySem.Spec PyProof.Rows
def SqL (K : PySem.W.Frag) (H : Hp) (a : Addr) (xs : List V) : Prop :=
  Rd H a (.lst xs) ∨
    ∃ (o : Obj) (its : Array Value) (n : Nat), K.lookup a = some o ∧ o.cls = .type "list" ∧ o.dict = none ∧ o.data = .seq its n ∧ its.size ≤ sizeLine ∧ Vals xs its.toList
def SqT (K : PySem.W.Frag) (H : Hp) (a : Addr) (xs : List V) : Prop :=
  Rd H a (.tup xs) ∨
    ∃ (o : Obj) (its : Array Value) (n : Nat), K.lookup a = some o ∧ o.cls = .type "tuple" ∧ o.data = .seq its n ∧ its.size ≤ sizeLine ∧ Vals xs its.toList
def absV : Value → Option V
  | .none => some .non
  | .bool b => some (.bl b)
  | .int i _ => some (.int i)
  | .str x _ => some (.str x)
  | .bytes b _ => some (.byt b)
  | .float b _ => some (.flt b)
  | .ref a => some (.ref a)
  | .type n => some (.ty n)
  | _ => none
theorem RelV.abs {x : V} {u : Value} (r : RelV x u) : absV u = some x := by
  cases x with
  | non => cases r; rfl
  | bl _ => cases r; rfl
  | int _ => obtain ⟨t, rfl⟩ := r; rfl
  | str _ => obtain ⟨t, rfl⟩ := r; rfl
  | byt _ => obtain ⟨t, rfl⟩ := r; rfl
  | flt _ => obtain ⟨t, rfl⟩ := r; rfl
  | ref _ => cases r; rfl
  | ty _ => cases r; rfl
theorem RelV.inj {x y : V} {u : Value} (r : RelV x u) (q : RelV y u) : x = y := Option.some.inj (r.abs.symm.trans q.abs)
theorem Vals.inj : ∀ {xs ys : List V} {us : List Value}, Vals xs us → Vals ys us → xs = ys
  | _, _, _, .nil, .nil => rfl
  | _, _, _, .cons r t, .cons r' t' => by rw [r.inj r', Vals.inj t t']
section
variable {X : Cx} {pins : List (Addr × Obj)} {σ : St} {H : Hp} {s : Shared} {a : Addr} {xs ys : List V}
theorem SqL.of {K : PySem.W.Frag} (h : H a = some (.lst xs)) : SqL K H a xs := .inl (.inl h)
theorem SqT.of {K : PySem.W.Frag} (h : H a = some (.tup xs)) : SqT K H a xs := .inl (.inl h)
theorem Inv.list (I : Inv X pins σ H s) (h : SqL X.K H a xs) : ∃ its : List Value, Vals xs its ∧ PlainL s.heap a its.toArray ∧ xs.length ≤ sizeLine := by
  rcases h with h | ⟨o, its, n, hk, hc, hd, hs, hz, r⟩
  · obtain ⟨z, its, n, r, e⟩ := h.ok I.hok
    exact ⟨its, r, ⟨_, n, e, rfl, rfl, rfl⟩, z⟩
  · refine ⟨its.toList, r, ⟨o, n, I.kIn a o hk, hc, hd, by simpa using hs⟩, ?_⟩
    have e := r.length
    simp only [Array.length_toList] at e
    omega
theorem Inv.tuple (I : Inv X pins σ H s) (h : SqT X.K H a xs) : ∃ its : List Value, Vals xs its ∧ IsTup s.heap a its.toArray ∧ xs.length ≤ sizeLine := by
  rcases h with h | ⟨o, its, n, hk, hc, hs, hz, r⟩
  · obtain ⟨z, its, r, p⟩ := h.ok I.hok
    exact ⟨its, r, p.1, z⟩
  · refine ⟨its.toList, r, ⟨o, I.kIn a o hk, hc, n, by simpa using hs⟩, ?_⟩
    have e := r.length
    simp only [Array.length_toList] at e
    omega
theorem Inv.list_inj (I : Inv X pins σ H s) (h : SqL X.K H a xs) (h' : SqL X.K H a ys) : xs = ys := by
  obtain ⟨its, r, ⟨o, n, e, _, _, d⟩, _⟩ := I.list h
  obtain ⟨its', r', ⟨o', n', e', _, _, d'⟩, _⟩ := I.list h'
  rw [e] at e'; cases e'
  rw [d] at d'
  injection d' with d1 _
  have : its = its' := by simpa using congrArg Array.toList d1
  subst this
  exact r.inj r'
theorem Inv.tuple_inj (I : Inv X pins σ H s) (h : SqT X.K H a xs) (h' : SqT X.K H a ys) : xs = ys := by
  obtain ⟨its, r, ⟨o, e, _, n, d⟩, _⟩ := I.tuple h
  obtain ⟨its', r', ⟨o', e', _, n', d'⟩, _⟩ := I.tuple h'
  rw [e] at e'; cases e'
  rw [d] at d'
  injection d' with d1 _
  have : its = its' := by simpa using congrArg Array.toList d1
  subst this
  exact r.inj r'
end
abbrev Cx.wish (X : Cx) (E : Value → Shared → Prop) : Cx := { X with xe := E }
abbrev Cx.nox (X : Cx) : Cx := X.wish fun _ _ => False
theorem Cx.Ok.wish {X : Cx} (ok : X.Ok) (E : Value → Shared → Prop) : (X.wish E).Ok :=
  ⟨ok.mod, ok.kind, ok.glob, ok.blt, ok.above, ok.inj, ok.has, ok.cab, ok.hd, ok.frames, ok.stk, ok.exf, ok.bs, ok.bsz, ok.noex, ok.exfs, ok.funs, ok.frf⟩
theorem Cx.Ok.unwish {X : Cx} {E : Value → Shared → Prop} (ok : (X.wish E).Ok) : X.Ok :=
  ⟨ok.mod, ok.kind, ok.glob, ok.blt, ok.above, ok.inj, ok.has, ok.cab, ok.hd, ok.frames, ok.stk, ok.exf, ok.bs, ok.bsz, ok.noex, ok.exfs, ok.funs, ok.frf⟩
section
variable {X : Cx} {pins : List (Addr × Obj)} {σ : St} {H : Hp} {s : Shared} {E : Value → Shared → Prop}
theorem Inv.wish (I : Inv X pins σ H s) (E : Value → Shared → Prop) : Inv (X.wish E) pins σ H s := ⟨I.ok.wish E, I.os, I.bare, I.base, I.loc, I.cell, I.free, I.freeC, I.pin, I.hok, I.len⟩
theorem Inv.unwish (I : Inv (X.wish E) pins σ H s) : Inv X pins σ H s := ⟨I.ok.unwish, I.os, I.bare, I.base, I.loc, I.cell, I.free, I.freeC, I.pin, I.hok, I.len⟩
theorem SP.unwish {D : Ends} {f : Flow} {s' : Shared} (h : SP (X.wish E) pins D f s') : SP X pins D f s' := by
  cases f with
  | next => obtain ⟨σ', H', I, q⟩ := h; exact ⟨σ', H', I.unwish, q⟩
  | brk => obtain ⟨σ', H', I, q⟩ := h; exact ⟨σ', H', I.unwish, q⟩
  | cont => obtain ⟨σ', H', I, q⟩ := h; exact ⟨σ', H', I.unwish, q⟩
  | ret u => obtain ⟨v, σ', H', I, r, q⟩ := h; exact ⟨v, σ', H', I.unwish, r, q⟩
theorem PSs.nox {st : List Stmt} {t : TS} (h : PSs X.nox st t) : PSs X st t := fun pins s σ H D I hw =>
  wpAny_mono (h pins s σ H D (I.wish _) hw) (fun _ _ q => q.unwish) fun _ _ z => False.elim z
end
section
variable {X : Cx} {st : Stmt} {rest : List Stmt} {t u : TS} {e : Expr} {te : TE} {pos : Pos}
def tNext : TS := fun D σ H => D.nx σ H
def tSeq (t u : TS) : TS := fun D σ H => t { D with nx := u D } σ H
theorem pss_nil : PSs X [] tNext := fun _ _ σ H _ I h => wpAny_execs_nil ⟨σ, H, I, h⟩
theorem pss_cons (h1 : PS X st t) (h2 : PSs X rest u) : PSs X (st :: rest) (tSeq t u) := by
  intro pins s σ H D I h
  refine wpAny_execs_cons (thn (h1 pins s σ H { D with nx := u D } I h) fun f s1 q => ?_)
  cases f with
  | next =>
    obtain ⟨σ', H', I', q⟩ := q
    exact h2 pins s1 σ' H' D I' q
  | ret v => exact q
  | brk => exact q
  | cont => exact q
theorem pss_one (h1 : PS X st t) : PSs X [st] t := by
  intro pins s σ H D I h
  refine wpAny_execs_cons (thn (h1 pins s σ H D I h) fun f s1 q => ?_)
  cases f with
  | next => exact wpAny_execs_nil q
  | ret v => exact q
  | brk => exact q
  | cont => exact q
def tBreak : TS := fun D σ H => D.bk σ H
def tCont : TS := fun D σ H => D.ct σ H
theorem Inv.quiet {pins : List (Addr × Obj)} {σ : St} {H : Hp} {s : Shared} (I : Inv X pins σ H s) : interactive X.env = false := by simp [interactive, I.ok.kind]
def tDrop (te : TE) : TS := fun D σ H => te σ H fun _ H1 => D.nx σ H1
theorem ps_expr (he : PE X e te) (hs : swapsWith e none pos.line X.env = pure false := by rfl) : PS X (.Expr e pos) (tDrop te) := by
  intro pins s σ H D I h
  exact wpAny_Expr_any (thn (he pins s σ H _ I h) fun v s1 ⟨x, H1, I1, r1, q1⟩ => ⟨σ, H1, I1, q1⟩) I.quiet hs
def tRet (te : TE) : TS := fun D σ H => te σ H D.rt
theorem ps_ret (he : PE X e te) : PS X (.Return (some e) pos) (tRet te) := by
  intro pins s σ H D I h
  exact wpAny_Return_some (thn (he pins s σ H _ I h) fun v s1 ⟨x, H1, I1, r1, q1⟩ => ⟨x, σ, H1, I1, r1, q1⟩)
def tRetN : TS := fun D _ H => D.rt .non H
def tIfS (c : TT) (t u : TS) : TS := fun D σ H => c σ H fun b H1 => if b = true then t D σ H1 else u D σ H1
theorem ps_if {c : Expr} {a b : List Stmt} {tc : TT} (hc : PT X c tc) (ha : PSs X a t) (hb : PSs X b u) : PS X (.If c a b pos) (tIfS tc t u) := by
  intro pins s σ H D I h
  refine wpAny_If (thn (hc pins s σ H _ I h) fun d s1 ⟨H1, I1, q1⟩ => ?_)
  cases d with
  | true => exact ha pins s1 σ H1 D I1 q1
  | false => exact hb pins s1 σ H1 D I1 q1
def tNever : TS := fun _ _ _ => False
theorem ps_never : PS X st tNever := fun _ _ _ _ _ _ h => h.elim
end
abbrev TG := V → St → Hp → (St → Hp → Prop) → Prop
abbrev TGs := List V → St → Hp → (St → Hp → Prop) → Prop
def PG (X : Cx) (target : Expr) (t : TG) : Prop :=
  ∀ (pins : List (Addr × Obj)) (s : Shared) (σ : St) (H : Hp) (v : V) (u : Value) (Q : St → Hp → Prop), Inv X pins σ H s → RelV v u → t v σ H Q →
    wpAny (model X.prog X.w) X.A (assign target X.env u) (fun _ s' => ∃ σ' H', Inv X pins σ' H' s' ∧ Q σ' H') X.xe s
def PGs (X : Cx) (ts : List Expr) (t : TGs) : Prop :=
  ∀ (pins : List (Addr × Obj)) (s : Shared) (σ : St) (H : Hp) (vs : List V) (us : List Value) (Q : St → Hp → Prop), Inv X pins σ H s → Vals vs us → t vs σ H Q →
    wpAny (model X.prog X.w) X.A (assignInOrder ((assignEach ts X.env).map (·.2)) us) (fun _ s' => ∃ σ' H', Inv X pins σ' H' s' ∧ Q σ' H') X.xe s
abbrev TSet := V → V → V → Hp → (Hp → Prop) → Prop
def PSet (X : Cx) (t : TSet) : Prop :=
  ∀ (pins : List (Addr × Obj)) (s : Shared) (σ : St) (H : Hp) (o i v : V) (ov iv u : Value) (Q : Hp → Prop), Inv X pins σ H s → RelV o ov → RelV i iv → RelV v u → t o i v H Q →
    wpAny (model X.prog X.w) X.A (setItem ov iv u) (fun _ s' => ∃ H', Inv X pins σ H' s' ∧ Q H') X.xe s
abbrev TIp := V → V → Hp → VK → Prop
def PIp (X : Cx) (op : Operator) (t : TIp) : Prop :=
  ∀ (pins : List (Addr × Obj)) (s : Shared) (σ : St) (H : Hp) (x y : V) (v u : Value) (Q : VK), Inv X pins σ H s → RelV x v → RelV y u → t x y H Q →
    wpAny (model X.prog X.w) X.A (inplaceOp op v u) (EP X pins σ Q) X.xe s
section
variable {X : Cx} {pos : Pos}
def gName (i : Nat) : TG := fun v σ H Q => Q (σ.set i (some v)) H
theorem pg_name {i : Nat} {x : Str} (hN : X.N.Nodup) (hi : X.N[i]? = some x) (hx : Loc X.env.scope x) (hf : X.fn x = true ∨ X.env.scope.names.lookup x = some .local := by first | exact .inl rfl | exact .inr rfl | assumption) : PG X (.Name x pos) (gName i) := by
  intro pins s σ H v u Q I r h
  exact wpAny_assign_Name (store_ok I hN hi hx r (fun s' I' => ⟨_, H, I', h⟩) hf)
def gNil : TGs := fun vs σ H Q => vs = [] ∧ Q σ H
def gCons (t : TG) (u : TGs) : TGs := fun vs σ H Q => ∃ v r, vs = v :: r ∧ t v σ H fun σ' H' => u r σ' H' Q
theorem pgs_nil : PGs X [] gNil := by
  intro pins s σ H vs us Q I r h
  obtain ⟨e, h⟩ := h
  subst e
  cases r
  exact assignInOrder_nil ⟨σ, H, I, h⟩
theorem pgs_cons {e : Expr} {es : List Expr} {t : TG} {u : TGs} (h1 : PG X e t) (h2 : PGs X es u)
    (hs : (assignEach (e :: es) X.env).map (·.2) = assign e X.env :: (assignEach es X.env).map (·.2) := by rfl) : PGs X (e :: es) (gCons t u) := by
  intro pins s σ H vs us Q I r h
  obtain ⟨v, vr, e1, h⟩ := h
  subst e1
  cases r with
  | cons r rr =>
    rw [hs]
    refine assignInOrder_cons (thn (h1 pins s σ H _ _ _ I r h) fun _ s1 ⟨σ1, H1, I1, q1⟩ => ?_)
    exact h2 pins s1 σ1 H1 _ _ Q I1 rr q1
def gTup (K : PySem.W.Frag) (n : Nat) (t : TGs) : TG := fun v σ H Q => ∃ a xs, v = .ref a ∧ SqT K H a xs ∧ xs.length = n ∧ t xs σ H Q
theorem pg_tup {es : List Expr} {k : Nat} {t : TGs} {n : Nat} (hc : X.calm = true) (h : PGs X es t)
    (hn : (assignEach es X.env).length = n := by rfl) (hst : (assignEach es X.env).findIdx? (·.1) = none := by rfl) : PG X (.Tuple es k pos) (gTup X.K n t) := by
  intro pins s σ H v u Q I r hw
  obtain ⟨a, xs, e1, hq, hl, hw⟩ := hw
  subst e1
  cases r
  obtain ⟨its, rv, ht, hz⟩ := I.tuple hq
  refine assign_Tuple_tuple (I.ok.hd hc) ht (by simp [hn, ← hl, rv.length]) hst fun h' hx => ?_
  have I1 : Inv X pins σ H { s with heap := h' } := I.kept (t' := s.toks) fun b o e => hx b o (Nat.ne_of_lt (Heap.lt_size e)) e
  exact h pins _ σ H xs _ Q I1 (by simpa using rv) hw
def gSub (to ti : TE) (t : TSet) : TG := fun v σ H Q => to σ H fun o H1 => ti σ H1 fun i H2 => t o i v H2 fun H3 => Q σ H3
theorem pg_sub {o i : Expr} {to ti : TE} {t : TSet} (ho : PE X o to) (hi : PE X i ti) (hs : PSet X t)
    (ha : ∀ v, assign (.Subscript o i pos) X.env v = (do
      let ov ← holding [v] (eval o X.env)
      let iv ← holding [v, ov] (eval i X.env)
      standAt pos
      holding [v, ov, iv] (setItem ov iv v)
      release [v, ov, iv] []) := by intro _; rfl) : PG X (.Subscript o i pos) (gSub to ti t) := by
  intro pins s σ H v u Q I r h
  rw [ha]
  refine wpAny_bind (wpAny_holding (thn (ho pins s σ H _ I h) fun ov s1 ⟨x, H1, I1, r1, q1⟩ => ?_))
  refine wpAny_bind (wpAny_holding (thn (hi pins s1 σ H1 _ I1 q1) fun iv s2 ⟨y, H2, I2, r2, q2⟩ => ?_))
  refine wpAny_bind (wpAny_standAt (wpAny_bind (wpAny_holding (thn (hs pins s2 σ H2 x y v ov iv u _ I2 r1 r2 r q2) fun _ s3 ⟨H3, I3, q3⟩ => ?_))))
  exact wpAny_release ⟨σ, H3, I3, q3⟩
def tAsg (te : TE) (g : TG) : TS := fun D σ H => te σ H fun x H1 => g x σ H1 D.nx
theorem ps_asg {tg e : Expr} {te : TE} {g : TG} (he : PE X e te) (hg : PG X tg g) (hs : swapsWithSole [tg] e pos.line X.env = pure false := by rfl) (hw : swappedStores [tg] e X.env = pure none := by rfl)
    (h1 : (assignEach [tg] X.env).map (·.2) = [assign tg X.env] := by rfl) : PS X (.Assign [tg] e pos) (tAsg te g) := by
  intro pins s σ H D I h
  refine wpAny_Assign_stores (thn (he pins s σ H _ I h) fun v s1 ⟨x, H1, I1, r1, q1⟩ => ?_) hs hw
  rw [h1]
  exact thn (hg pins s1 σ H1 x v _ I1 r1 q1) fun _ s2 q => q
theorem ps_set {i : Nat} {x : Str} {e : Expr} {te : TE} {pos' : Pos} (hN : X.N.Nodup) (hi : X.N[i]? = some x) (hx : Loc X.env.scope x) (he : PE X e te) (hs : swapsWith e (some (.Name x pos')) pos.line X.env = pure false := by rfl) (hf : X.fn x = true ∨ X.env.scope.names.lookup x = some .local := by first | exact .inl rfl | exact .inr rfl | assumption) :
    PS X (.Assign [.Name x pos'] e pos) (tAsg te (gName i)) := by
  intro pins s σ H D I h
  refine wpAny_Assign_Name (thn (he pins s σ H _ I h) fun v s1 ⟨y, H1, I1, r1, q1⟩ => ?_) hs
  exact store_ok I1 hN hi hx r1 (fun s2 I2 => ⟨_, H1, I2, q1⟩) hf
def tPar (i j : Nat) (ta : TA) : TS := fun D σ H => ta σ H fun vs H1 => ∃ v w, vs = [v, w] ∧ D.nx ((σ.set i (some v)).set j (some w)) H1
def tAug (i : Nat) (te : TE) (ti : TIp) : TS := fun D σ H => ∃ x, σ[i]? = some (some x) ∧ te σ H fun y H1 => ti x y H1 fun z H2 => D.nx (σ.set i (some z)) H2
def tAugS (to ti te : TE) (tget : V → V → Hp → VK → Prop) (tip : TIp) (tset : TSet) : TS := fun D σ H => to σ H fun o H1 => ti σ H1 fun i H2 => tget o i H2 fun x H3 => te σ H3 fun y H4 => tip x y H4 fun z H5 => tset o i z H5 fun H6 => D.nx σ H6
def PGet (X : Cx) (t : V → V → Hp → VK → Prop) : Prop :=
  ∀ (pins : List (Addr × Obj)) (s : Shared) (σ : St) (H : Hp) (o i : V) (ov iv : Value) (Q : VK), Inv X pins σ H s → RelV o ov → RelV i iv → t o i H Q →
    wpAny (model X.prog X.w) X.A (getItem ov iv) (EP X pins σ Q) X.xe s
def ipI (f : Int → Int → Int) : TIp := fun x y H Q => ∃ i j, x = .int i ∧ y = .int j ∧ Q (.int (f i j)) H
end
section
variable {X : Cx} {pos : Pos}
def tWhile (c : TT) (tb : TS) : TS := fun D σ H => ∃ W : Nat → St → Hp → Prop, (∃ m, W m σ H) ∧ ∀ m σ H, W m σ H →
  c σ H fun b H1 => if b = true then ∃ N : St → Hp → Prop, (∀ σ' H', N σ' H' → ∃ m', m' < m ∧ W m' σ' H') ∧ tb { D with nx := N, ct := N, bk := D.nx } σ H1 else D.nx σ H1
theorem ps_while {c : Expr} {body : List Stmt} {tc : TT} {tb : TS} (hp : PassesOwn (model X.prog X.w) X.A X.env X.xe) (hc : PT X c tc) (hb : PSs X body tb) : PS X (.While c body [] pos) (tWhile tc tb) := by
  intro pins s σ H D I h
  obtain ⟨W, ⟨m0, w0⟩, turn⟩ := h
  refine wpAny_While (codeAny_whileLoop (fun n s' => ∃ σ' H', Inv X pins σ' H' s' ∧ W n σ' H') ?_ m0 ⟨σ, H, I, w0⟩)
  rintro n s1 ⟨σ1, H1, I1, w1⟩
  refine wpAny_passesOwn hp (thn (hc pins s1 σ1 H1 _ I1 (turn n σ1 H1 w1)) fun b s2 ⟨H2, I2, q2⟩ => ?_)
  cases b with
  | true =>
    obtain ⟨N, hN, q2⟩ := q2
    rw [if_pos rfl]
    refine wpAny_passesOwn hp (thn (hb pins s2 σ1 H2 _ I2 q2) fun f s3 q3 => ?_)
    cases f with
    | next =>
      obtain ⟨σ3, H3, I3, n3⟩ := q3
      obtain ⟨m', hm, w3⟩ := hN σ3 H3 n3
      exact ⟨m', hm, σ3, H3, I3, w3⟩
    | cont =>
      obtain ⟨σ3, H3, I3, n3⟩ := q3
      obtain ⟨m', hm, w3⟩ := hN σ3 H3 n3
      exact ⟨m', hm, σ3, H3, I3, w3⟩
    | brk => exact q3
    | ret v => exact q3
  | false =>
    rw [if_neg Bool.false_ne_true]
    exact wpAny_execs_nil ⟨σ1, H2, I2, q2⟩
end
structure It where
  go : Nat → Hp → Prop
  yld : Nat → Hp → V → Hp → Prop
  stop : Nat → Hp → Prop
def FpOk (X : Cx) (pins : List (Addr × Obj)) (H : Hp) (b : Addr) : Prop :=
  H b = none ∧ b ≠ X.env.locals ∧ b ∉ X.fs ∧ (b ∈ X.ex ∨ X.s₀.heap.objs.size ≤ b) ∧ (∀ x c, X.env.cells.lookup x = some c → c ≠ b) ∧ ∀ p ∈ X.pn ++ pins, p.1 ≠ b
theorem Inv.fpOk {X : Cx} {pins : List (Addr × Obj)} {σ : St} {H H' : Hp} {s : Shared} {b : Addr} (I : Inv X pins σ H s) (hb : s.heap.objs.size ≤ b) (hn : H' b = none) : FpOk X pins H' b := by
  refine ⟨hn, Nat.ne_of_gt (Nat.lt_of_lt_of_le I.lt hb), I.nofs hb, .inr (Nat.le_trans I.sz hb), fun x c e z => ?_, fun p hp z => ?_⟩
  · obtain ⟨v, q⟩ := I.cell x c e
    exact absurd (Nat.lt_of_lt_of_le q.lt (by rw [z]; exact hb)) (Nat.lt_irrefl _)
  · exact absurd (Nat.lt_of_lt_of_le (Heap.lt_size (I.pin p hp).1) (by rw [z]; exact hb)) (Nat.lt_irrefl _)
structure Turn (P : Program) (w : World) (K : PySem.W.Frag) (tg : Expr) (J : It) (fp : List Addr) (it : Addr) (tn : Nat → Heap → Prop) : Prop where
  mem : it ∈ fp
  obj : ∀ i h, tn i h → ∀ b ∈ fp, ∃ o, h.get? b = some o ∧ ∀ v, o.data ≠ .cell v
  keep : ∀ i h h', tn i h → (∀ b ∈ fp, ∀ o, h.get? b = some o → h'.get? b = some o) → tn i h'
  item : ∀ (X : Cx), X.prog = P → X.w = w → X.K = K → X.calm = true → ∀ (i : Nat) (pins : List (Addr × Obj)) (s : Shared) (σ : St) (H : Hp) (E : Value → Shared → Prop), Inv X pins σ H s → (∀ b ∈ fp, FpOk X pins H b) → tn i s.heap → J.go i H →
    wpAny (model P w) X.A (pyNext (.ref it)) (fun r s1 => ∃ u, r = some u ∧
      wpAny (model P w) X.A (letOwnedTupleGo tg (.ref it) u) (fun _ s2 => ∃ x H', Inv X pins σ H' s2 ∧ RelV x u ∧ J.yld i H x H' ∧ tn (i + 1) s2.heap ∧ ∀ b ∈ fp, H' b = none) E s1) E s
  done : ∀ (X : Cx), X.prog = P → X.w = w → X.K = K → X.calm = true → ∀ (i : Nat) (pins : List (Addr × Obj)) (s : Shared) (σ : St) (H : Hp) (E : Value → Shared → Prop), Inv X pins σ H s → (∀ b ∈ fp, FpOk X pins H b) → tn i s.heap → J.stop i H →
    wpAny (model P w) X.A (pyNext (.ref it)) (fun r s1 => r = none ∧ Inv X pins σ H s1) E s
  self : ∀ (A : Around) (i : Nat) (s : Shared) (Q : Value → Shared → Prop) (E : Value → Shared → Prop), tn i s.heap → Q (.ref it) s → wpAny (model P w) A (pyIter (.ref it)) Q E s
abbrev TI := St → Hp → (It → Hp → Prop) → Prop
def PIE (X : Cx) (pins : List (Addr × Obj)) (σ : St) (tg : Expr) (R : It → Hp → Prop) (itv : Value) (s2 : Shared) : Prop :=
  ∃ (it : Addr) (fp : List Addr) (tn : Nat → Heap → Prop) (J : It) (H' : Hp), itv = .ref it ∧ Inv X pins σ H' s2 ∧ Turn X.prog X.w X.K tg J fp it tn ∧ tn 0 s2.heap ∧ (∀ b ∈ fp, FpOk X pins H' b) ∧ R J H'
def PI (X : Cx) (tg iter : Expr) (wi : TI) : Prop :=
  ∀ (pins : List (Addr × Obj)) (s : Shared) (σ : St) (H : Hp) (R : It → Hp → Prop), Inv X pins σ H s → wi σ H R →
    wpAny (model X.prog X.w) X.A (eval iter X.env) (fun v s1 => wpAny (model X.prog X.w) X.A (pyIter v) (PIE X pins σ tg R) X.xe s1) X.xe s
theorem go_of {M : Model} {A : Around} {E : Value → Shared → Prop} {s : Shared} {tg : Expr} {it : Addr} {u : Value} {o : Obj} {n : String} {vs : Array Value} {Q : Unit → Shared → Prop} (ho : s.heap.get? it = some o) (hc : o.cls = .type n) (hd : o.data = .fields vs)
    (hn : ["enumerate", "zip", "dict_itemiterator", "dict_reverseitemiterator", "odict_iterator", "itertools.zip_longest", "itertools.pairwise"].contains n = false) (hQ : Q () s) : wpAny M A (letOwnedTupleGo tg (.ref it) u) Q E s := by
  unfold letOwnedTupleGo
  cases tg <;> first
    | exact wpAny_pure hQ
    | (cases u <;> first
        | exact wpAny_pure hQ
        | (refine wpAny_bind (wpAny_load ho ?_)
           rw [hc, hd]
           show wpAny M A (if (["enumerate", "zip", "dict_itemiterator", "dict_reverseitemiterator", "odict_iterator", "itertools.zip_longest", "itertools.pairwise"].contains n && vs[0]? == some (rawInt _)) = true then _ else _) Q E s
           rw [if_neg (by intro h; rw [hn, Bool.false_and] at h; cases h)]
           exact wpAny_pure hQ))
def Itl (K : PySem.W.Frag) (a : Addr) : It :=
  ⟨fun i H => ∃ xs x, SqL K H a xs ∧ xs[i]? = some x, fun i H x H' => H' = H ∧ ∀ xs, SqL K H a xs → xs[i]? = some x, fun i H => ∃ xs, SqL K H a xs ∧ xs.length ≤ i⟩
def Itt (K : PySem.W.Frag) (a : Addr) : It :=
  ⟨fun i H => ∃ xs x, SqT K H a xs ∧ xs[i]? = some x, fun i H x H' => H' = H ∧ ∀ xs, SqT K H a xs → xs[i]? = some x, fun i H => ∃ xs, SqT K H a xs ∧ xs.length ≤ i⟩
def Itr (lo : Int) (n : Nat) : It := ⟨fun i _ => i < n, fun i H x H' => H' = H ∧ x = .int (lo + i), fun i _ => n ≤ i⟩
theorem turn_list {P : Program} {w : World} {K : PySem.W.Frag} {tg : Expr} (a it : Addr) : Turn P w K tg (Itl K a) [it] it (fun i h => h.IsListIter it a i) where
  mem := by simp
  obj := fun i h st b hb => by
    have e : b = it := by simpa using hb
    subst e
    obtain ⟨o, e, c, d⟩ := st
    exact ⟨o, e, fun v z => by rw [d] at z; cases z⟩
  keep := fun i h h' st k => st.at fun o e => k it (by simp) o e
  item := by
    intro X hP hw hK hc i pins s σ H E I hf st hg
    subst hP hw hK
    obtain ⟨xs, x, hq, hx⟩ := hg
    obtain ⟨its, rv, p, hz⟩ := I.list hq
    obtain ⟨u, hu, ru⟩ := rv.get hx
    obtain ⟨f0, f1, f2, f3, f4, f5⟩ := hf it (by simp)
    refine wpAny_pyNext_list_item st p.isList (x := u) (by simpa using hu) fun h' st' sb => ?_
    have I1 : Inv X pins σ H { s with heap := h' } := I.turned (t' := s.toks) (fun b o hb e => (sb.2 b hb).trans e) f0 f1 f3 f4 f5
    obtain ⟨o, e, c, d⟩ := id st'
    exact ⟨u, rfl, go_of (s := { s with heap := h' }) e c d (by decide) ⟨x, H, I1, ru, ⟨rfl, fun ys hy => by rw [I.list_inj hy hq]; exact hx⟩, st', fun b hb => (hf b hb).1⟩⟩
  done := by
    intro X hP hw hK hc i pins s σ H E I hf st hg
    subst hP hw hK
    obtain ⟨xs, hq, hx⟩ := hg
    obtain ⟨its, rv, p, hz⟩ := I.list hq
    obtain ⟨f0, f1, f2, f3, f4, f5⟩ := hf it (by simp)
    have hl := rv.length
    exact wpAny_pyNext_list_end (I.ok.hd hc) st p.isList (by simp; omega) fun h' eb => ⟨rfl, I.turned (t' := s.toks) (fun b o hb e => eb b o hb e) f0 f1 f3 f4 f5⟩
  self := fun _ _ _ _ _ st h => wpAny_pyIter_listiter st h
theorem turn_tuple {P : Program} {w : World} {K : PySem.W.Frag} {tg : Expr} (a it : Addr) : Turn P w K tg (Itt K a) [it] it (fun i h => h.IsTupleIter it a i) where
  mem := by simp
  obj := fun i h st b hb => by
    have e : b = it := by simpa using hb
    subst e
    obtain ⟨o, e, c, d⟩ := st
    exact ⟨o, e, fun v z => by rw [d] at z; cases z⟩
  keep := fun i h h' st k => st.at fun o e => k it (by simp) o e
  item := by
    intro X hP hw hK hc i pins s σ H E I hf st hg
    subst hP hw hK
    obtain ⟨xs, x, hq, hx⟩ := hg
    obtain ⟨its, rv, p, hz⟩ := I.tuple hq
    obtain ⟨u, hu, ru⟩ := rv.get hx
    obtain ⟨f0, f1, f2, f3, f4, f5⟩ := hf it (by simp)
    refine wpAny_pyNext_tuple_item st (show s.heap.IsTuple a its.toArray from p) (x := u) (by simpa using hu) fun h' st' sb => ?_
    have I1 : Inv X pins σ H { s with heap := h' } := I.turned (t' := s.toks) (fun b o hb e => (sb.2 b hb).trans e) f0 f1 f3 f4 f5
    obtain ⟨o, e, c, d⟩ := id st'
    exact ⟨u, rfl, go_of (s := { s with heap := h' }) e c d (by decide) ⟨x, H, I1, ru, ⟨rfl, fun ys hy => by rw [I.tuple_inj hy hq]; exact hx⟩, st', fun b hb => (hf b hb).1⟩⟩
  done := by
    intro X hP hw hK hc i pins s σ H E I hf st hg
    subst hP hw hK
    obtain ⟨xs, hq, hx⟩ := hg
    obtain ⟨its, rv, p, hz⟩ := I.tuple hq
    obtain ⟨f0, f1, f2, f3, f4, f5⟩ := hf it (by simp)
    have hl := rv.length
    exact wpAny_pyNext_tuple_end (I.ok.hd hc) st (show s.heap.IsTuple a its.toArray from p) (by simp; omega) fun h' eb => ⟨rfl, I.turned (t' := s.toks) (fun b o hb e => eb b o hb e) f0 f1 f3 f4 f5⟩
  self := fun _ _ _ _ _ st h => wpAny_pyIter_tupleiter st h
theorem turn_range {P : Program} {w : World} {K : PySem.W.Frag} {tg : Expr} (it : Addr) (lo : Int) (n : Nat) : Turn P w K tg (Itr lo n) [it] it (fun i h => IsRangeIter h it (lo + (i : Nat) * 1) ((n : Int) - (i : Nat)) 1) where
  mem := by simp
  obj := fun i h st b hb => by
    have e : b = it := by simpa using hb
    subst e
    exact ⟨_, st, fun v z => by
      have z' : Data.fields _ = Data.cell v := z
      cases z'⟩
  keep := fun i h h' st k => k it (by simp) _ st
  item := by
    intro X hP hw hK hc i pins s σ H E I hf st hg
    subst hP hw hK
    obtain ⟨f0, f1, f2, f3, f4, f5⟩ := hf it (by simp)
    have W := Walks.range (prog := X.prog) (w := X.w) (I.ok.hd hc) it lo 1 n
    refine W.item i s _ _ hg st fun v h' tk hv st' kk => ?_
    obtain ⟨t, rfl⟩ := hv
    have I1 : Inv X pins σ H { s with heap := h', toks := tk } := I.turned (fun b o hb e => kk b o (by simpa using hb) e) f0 f1 f3 f4 f5
    refine ⟨_, rfl, go_of (s := { s with heap := h', toks := tk }) (n := "range_iterator") st' rfl rfl (by decide) ⟨.int (lo + i), H, I1, ⟨t, ?_⟩, ⟨rfl, rfl⟩, st', fun b hb => (hf b hb).1⟩⟩
    rw [Int.mul_one]
  done := by
    intro X hP hw hK hc i pins s σ H E I hf st hg
    subst hP hw hK
    obtain ⟨f0, f1, f2, f3, f4, f5⟩ := hf it (by simp)
    exact wpAny_pyNext_range_end (I.ok.hd hc) st (by have : n ≤ i := hg; omega) fun h' eb => ⟨rfl, I.turned (t' := s.toks) (fun b o hb e => eb b o hb e) f0 f1 f3 f4 f5⟩
  self := fun _ _ _ _ _ st h => wpAny_pyIter_rangeiter st h
end L2
namespace L2
open PySem PySem.Spec PyProof.Rows
section
variable {X : Cx} {tg : Expr}
def iList (K : PySem.W.Frag) (tl : TE) : TI := fun σ H R => tl σ H fun x H1 => ∃ a, x = .ref a ∧ (∃ xs, SqL K H1 a xs) ∧ R (Itl K a) H1
def iTup (K : PySem.W.Frag) (tl : TE) : TI := fun σ H R => tl σ H fun x H1 => ∃ a, x = .ref a ∧ (∃ xs, SqT K H1 a xs) ∧ R (Itt K a) H1
theorem pi_list {l : Expr} {tl : TE} (hl : PE X l tl) : PI X tg l (iList X.K tl) := by
  intro pins s σ H R I h
  refine thn (hl pins s σ H _ I h) fun v s1 ⟨x, H1, I1, r1, q1⟩ => ?_
  obtain ⟨a, e, ⟨xs, hq⟩, q⟩ := q1
  subst e
  cases r1
  obtain ⟨its, rv, p, hz⟩ := I1.list hq
  refine wpAny_pyIter_list p.isList ?_
  refine ⟨s1.heap.objs.size, [s1.heap.objs.size], _, _, H1, rfl, I1.kept (t' := s1.toks) fun b o e => Heap.get?_push_of_some _ e, turn_list a _, ⟨_, Heap.get?_push_size _ rfl, rfl, rfl⟩, fun b hb => ?_, q⟩
  have e : b = s1.heap.objs.size := by simpa using hb
  subst e
  exact I1.fpOk (Nat.le_refl _) (I1.hok.fresh (Nat.le_refl _))
theorem pi_tup {l : Expr} {tl : TE} (hl : PE X l tl) : PI X tg l (iTup X.K tl) := by
  intro pins s σ H R I h
  refine thn (hl pins s σ H _ I h) fun v s1 ⟨x, H1, I1, r1, q1⟩ => ?_
  obtain ⟨a, e, ⟨xs, hq⟩, q⟩ := q1
  subst e
  cases r1
  obtain ⟨its, rv, p, hz⟩ := I1.tuple hq
  refine wpAny_pyIter_tuple (show s1.heap.IsTuple a its.toArray from p) ?_
  refine ⟨s1.heap.objs.size, [s1.heap.objs.size], _, _, H1, rfl, I1.kept (t' := s1.toks) fun b o e => Heap.get?_push_of_some _ e, turn_tuple a _, ⟨_, Heap.get?_push_size _ rfl, rfl, rfl⟩, fun b hb => ?_, q⟩
  have e : b = s1.heap.objs.size := by simpa using hb
  subst e
  exact I1.fpOk (Nat.le_refl _) (I1.hok.fresh (Nat.le_refl _))
theorem range_it {pins : List (Addr × Obj)} {σ : St} {H : Hp} {s : Shared} {R : It → Hp → Prop} {E : Value → Shared → Prop} {lo hi : Int} {t u v : Tok} {tk : Nat} (I : Inv X pins σ H s) (h1 : -(2 ^ 62) ≤ lo) (h2 : lo < 2 ^ 62) (h3 : -(2 ^ 62) ≤ hi) (h4 : hi < 2 ^ 62)
    (q : R (Itr lo (hi - lo).toNat) H) : wpAny (model X.prog X.w) X.A (pyIter (.ref s.heap.objs.size)) (PIE X pins σ tg R) E { s with heap := s.heap.push { cls := .type "range", data := .fields #[.int lo t, .int hi u, .int 1 v] }, toks := tk } := by
  refine wpAny_pyIter_range (IsRange.new ..) (small_one h1 h2 h3 h4) ?_
  have I1 : Inv X pins σ H { s with heap := s.heap.push { cls := .type "range", data := .fields #[.int lo t, .int hi u, .int 1 v] }, toks := tk } := I.kept fun b o e => Heap.get?_push_of_some _ e
  refine ⟨(s.heap.push { cls := .type "range", data := .fields #[.int lo t, .int hi u, .int 1 v] }).objs.size, [(s.heap.push { cls := .type "range", data := .fields #[.int lo t, .int hi u, .int 1 v] }).objs.size], _, _, H, rfl,
    I1.kept (t' := tk) fun b o e => Heap.get?_push_of_some _ e, turn_range _ lo (hi - lo).toNat, ?_, fun b hb => ?_, q⟩
  · have e1 : lo + ((0 : Nat) : Int) * 1 = lo := by simp
    have e2 : (((hi - lo).toNat : Nat) : Int) - ((0 : Nat) : Int) = Builtin.Range.rangeSize lo hi 1 := by rw [rangeSize_one]; split <;> omega
    show IsRangeIter _ _ (lo + ((0 : Nat) : Int) * 1) ((((hi - lo).toNat : Nat) : Int) - ((0 : Nat) : Int)) 1
    rw [e1, e2]
    exact Heap.get?_push_size _ rfl
  · have e : b = (s.heap.push { cls := .type "range", data := .fields #[.int lo t, .int hi u, .int 1 v] }).objs.size := by simpa using hb
    subst e
    exact I1.fpOk (Nat.le_refl _) (I1.hok.fresh (Nat.le_refl _))
def iRng1 (ta : TA) : TI := fun σ H R => ta σ H fun vs H1 => ∃ j : Int, vs = [.int j] ∧ -(2 ^ 62) ≤ j ∧ j < 2 ^ 62 ∧ R (Itr 0 j.toNat) H1
def iRng2 (ta : TA) : TI := fun σ H R => ta σ H fun vs H1 => ∃ i j : Int, vs = [.int i, .int j] ∧ (-(2 ^ 62) ≤ i ∧ i < 2 ^ 62 ∧ -(2 ^ 62) ≤ j ∧ j < 2 ^ 62) ∧ R (Itr i (j - i).toNat) H1
theorem pi_range1 {a : Expr} {ta : TA} {p pos : Pos} (hg : Gl X "range") (hm : X.mg "range" = none) (ha : PA X [a] ta) (hs : starEach [a] X.env = [(false, eval a X.env)] := by rfl) : PI X tg (.Call (.Name "range" p) [a] [] pos) (iRng1 ta) := by
  intro pins s σ H R I h
  refine Call_ (ld_blt I hg hm boot_range (PyProof.Rows.callWith_type1 (thn (ha pos pins s σ H _ I h) fun us s1 ⟨vs, H1, I1, r1, q1⟩ => ?_) hs rfl))
  obtain ⟨j, e, q1, q2, q⟩ := q1
  subst e
  cases r1 with
  | cons r rr =>
    cases rr
    obtain ⟨t, rfl⟩ := r
    exact call_range_1 (range_it I1 (by omega) (by omega) q1 q2 (by simpa using q))
def tFor (wi : TI) (g : TG) (tb : TS) : TS := fun D σ H => wi σ H fun J H1 => ∃ W : Nat → Nat → St → Hp → Prop, (∃ m, W 0 m σ H1) ∧ ∀ i m σ H, W i m σ H →
  (J.stop i H ∧ D.nx σ H) ∨ (J.go i H ∧ ∃ N : St → Hp → Prop, (∀ σ' H', N σ' H' → ∃ m', m' < m ∧ W (i + 1) m' σ' H') ∧ ∀ x H', J.yld i H x H' → g x σ H' fun σ2 H2 => tb { D with nx := N, ct := N, bk := D.nx } σ2 H2)
def pinsAt (fp : List Addr) (h : Heap) : List (Addr × Obj) := fp.filterMap fun b => (h.get? b).map fun o => (b, o)
theorem mem_pinsAt {fp : List Addr} {h : Heap} {b : Addr} {o : Obj} (hb : b ∈ fp) (e : h.get? b = some o) : (b, o) ∈ pinsAt fp h := List.mem_filterMap.mpr ⟨b, hb, by rw [e]; rfl⟩
theorem of_pinsAt {fp : List Addr} {h : Heap} {p : Addr × Obj} (hp : p ∈ pinsAt fp h) : p.1 ∈ fp ∧ h.get? p.1 = some p.2 := by
  obtain ⟨b, hb, e⟩ := List.mem_filterMap.mp hp
  cases q : h.get? b with
  | none => rw [q] at e; cases e
  | some o =>
    rw [q] at e
    have e' : (b, o) = p := Option.some.inj e
    subst e'
    exact ⟨hb, q⟩
theorem Inv.pinned {pins : List (Addr × Obj)} {σ : St} {H : Hp} {s : Shared} {fp : List Addr} (I : Inv X pins σ H s) (hf : ∀ b ∈ fp, FpOk X pins H b) (ho : ∀ b ∈ fp, ∃ o, s.heap.get? b = some o ∧ ∀ v, o.data ≠ .cell v) : Inv X (pins ++ pinsAt fp s.heap) σ H s :=
  I.pins_of fun p hp => (List.mem_append.mp hp).elim (fun z => I.pin p (List.mem_append_right _ z)) fun z => by
    obtain ⟨hb, e⟩ := of_pinsAt z
    obtain ⟨f0, f1, f2, _⟩ := hf p.1 hb
    obtain ⟨o, e', d⟩ := ho p.1 hb
    rw [e] at e'; cases e'
    exact ⟨e, f0, f1, f2, d⟩
theorem Inv.unpinned {pins pl : List (Addr × Obj)} {σ : St} {H : Hp} {s : Shared} (I : Inv X (pins ++ pl) σ H s) : Inv X pins σ H s := I.pins_of fun p hp => I.pin p (List.mem_append_right _ (List.mem_append_left _ hp))
theorem ps_for {iter : Expr} {body : List Stmt} {wi : TI} {g : TG} {tb : TS} {pos : Pos} (hp : PassesOwn (model X.prog X.w) X.A X.env X.xe) (hc : X.calm = true) (hi : PI X tg iter wi) (hg : PG X tg g) (hb : PSs X body tb)
    (hs : ∀ x, foldedSetIterable iter X.env x = pure x := by intro _; rfl) : PS X (.For tg iter body [] pos) (tFor wi g tb) := by
  intro pins s σ H D I h
  refine wpAny_For (thn (hi pins s σ H _ I h) fun v s1 h1 => thn h1 fun itv s2 h2 => ?_) hs
  obtain ⟨it, fp, tn, J, H2, e, I2, T, st2, f2, W, ⟨m0, w0⟩, turn⟩ := h2
  subst e
  -- what stays true of the iterator's objects through the loop
  have stat : ∀ {H' : Hp}, (∀ b ∈ fp, H' b = none) → ∀ b ∈ fp, FpOk X pins H' b := fun hn b hb => ⟨hn b hb, (f2 b hb).2⟩
  refine codeAny_forLoop_any (fun n s' => ∃ i σ' H', Inv X pins σ' H' s' ∧ tn i s'.heap ∧ (∀ b ∈ fp, H' b = none) ∧ W i n σ' H') ?_ m0 ⟨0, σ, H2, I2, st2, fun b hb => (f2 b hb).1, w0⟩
  rintro n s3 ⟨i, σ3, H3, I3, st3, fr3, w3⟩
  rcases turn i n σ3 H3 w3 with ⟨stop, qn⟩ | ⟨go, N, hN, step⟩
  · refine wpAny_passesOwn hp (thn (T.done X rfl rfl rfl hc i pins s3 σ3 H3 X.xe I3 (stat fr3) st3 stop) fun r s4 ⟨hr, I4⟩ => ?_)
    subst hr
    exact wpAny_execs_nil ⟨σ3, H3, I4, qn⟩
  · refine wpAny_passesOwn hp (thn (T.item X rfl rfl rfl hc i pins s3 σ3 H3 X.xe I3 (stat fr3) st3 go) fun r s4 ⟨u, hr, h4⟩ => ?_)
    subst hr
    refine wpAny_passesOwn hp (thn h4 fun _ s5 ⟨x, H5, I5, r5, y5, st5, fr5⟩ => ?_)
    have I5' := I5.pinned (stat fr5) (T.obj _ _ st5)
    refine wpAny_passesOwn hp (thn (hg _ s5 σ3 H5 x u _ I5' r5 (step x H5 y5)) fun _ s6 ⟨σ6, H6, I6, q6⟩ => ?_)
    refine wpAny_passesOwn hp (thn (hb _ s6 σ6 H6 _ I6 q6) fun f s7 q7 => ?_)
    have again : ∀ {σ7 : St} {H7 : Hp}, Inv X (pins ++ pinsAt fp s5.heap) σ7 H7 s7 → N σ7 H7 → ∃ m, m < n ∧ ∃ i σ' H', Inv X pins σ' H' s7 ∧ tn i s7.heap ∧ (∀ b ∈ fp, H' b = none) ∧ W i m σ' H' := fun {σ7 H7} I7 n7 => by
      obtain ⟨m', hm, w7⟩ := hN σ7 H7 n7
      refine ⟨m', hm, i + 1, σ7, H7, I7.unpinned, T.keep _ _ _ st5 fun b hb o e => (I7.pin (b, o) (List.mem_append_right _ (List.mem_append_right _ (mem_pinsAt hb e)))).1, fun b hb => ?_, w7⟩
      obtain ⟨o, e, d⟩ := T.obj _ _ st5 b hb
      exact (I7.pin (b, o) (List.mem_append_right _ (List.mem_append_right _ (mem_pinsAt hb e)))).2.1
    cases f with
    | next => obtain ⟨σ7, H7, I7, n7⟩ := q7; exact again I7 n7
    | cont => obtain ⟨σ7, H7, I7, n7⟩ := q7; exact again I7 n7
    | brk => obtain ⟨σ7, H7, I7, q7⟩ := q7; exact ⟨σ7, H7, I7.unpinned, q7⟩
    | ret v => obtain ⟨x7, σ7, H7, I7, r7, q7⟩ := q7; exact ⟨x7, σ7, H7, I7.unpinned, r7, q7⟩
end
theorem for_list {K : PySem.W.Frag} {a : Addr} {xs : List V} {g : TG} {tb : TS} {D : Ends} {σ : St} {H : Hp} (Pv : Nat → St → Hp → Prop) (h0 : Pv 0 σ H) (hl : ∀ i σ H, i ≤ xs.length → Pv i σ H → SqL K H a xs)
    (hs : ∀ i x σ H, xs[i]? = some x → Pv i σ H → g x σ H fun σ2 H2 => tb { D with nx := Pv (i + 1), ct := Pv (i + 1), bk := D.nx } σ2 H2) (hd : ∀ σ H, Pv xs.length σ H → D.nx σ H) :
    ∃ W : Nat → Nat → St → Hp → Prop, (∃ m, W 0 m σ H) ∧ ∀ i m σ H, W i m σ H →
      ((Itl K a).stop i H ∧ D.nx σ H) ∨ ((Itl K a).go i H ∧ ∃ N : St → Hp → Prop, (∀ σ' H', N σ' H' → ∃ m', m' < m ∧ W (i + 1) m' σ' H') ∧ ∀ x H', (Itl K a).yld i H x H' → g x σ H' fun σ2 H2 => tb { D with nx := N, ct := N, bk := D.nx } σ2 H2) := by
  refine ⟨fun i m σ H => m = xs.length - i ∧ i ≤ xs.length ∧ Pv i σ H, ⟨xs.length, by simp, Nat.zero_le _, h0⟩, ?_⟩
  rintro i m σ H ⟨rfl, hi, p⟩
  have q := hl i σ H hi p
  by_cases hlt : i < xs.length
  · refine .inr ⟨⟨xs, xs[i], q, by simp [hlt]⟩, Pv (i + 1), fun σ' H' p' => ⟨xs.length - (i + 1), by omega, rfl, hlt, p'⟩, fun x H' y => ?_⟩
    obtain ⟨e, y⟩ := y
    subst e
    exact hs i x σ _ (y xs q) p
  · have e : i = xs.length := by omega
    subst e
    exact .inl ⟨⟨xs, q, Nat.le_refl _⟩, hd σ H p⟩
theorem for_range {lo : Int} {n : Nat} {g : TG} {tb : TS} {D : Ends} {σ : St} {H : Hp} (Pv : Nat → St → Hp → Prop) (h0 : Pv 0 σ H)
    (hs : ∀ i σ H, i < n → Pv i σ H → g (.int (lo + i)) σ H fun σ2 H2 => tb { D with nx := Pv (i + 1), ct := Pv (i + 1), bk := D.nx } σ2 H2) (hd : ∀ σ H, Pv n σ H → D.nx σ H) :
    ∃ W : Nat → Nat → St → Hp → Prop, (∃ m, W 0 m σ H) ∧ ∀ i m σ H, W i m σ H →
      ((Itr lo n).stop i H ∧ D.nx σ H) ∨ ((Itr lo n).go i H ∧ ∃ N : St → Hp → Prop, (∀ σ' H', N σ' H' → ∃ m', m' < m ∧ W (i + 1) m' σ' H') ∧ ∀ x H', (Itr lo n).yld i H x H' → g x σ H' fun σ2 H2 => tb { D with nx := N, ct := N, bk := D.nx } σ2 H2) := by
  refine ⟨fun i m σ H => m = n - i ∧ i ≤ n ∧ Pv i σ H, ⟨n, by simp, Nat.zero_le _, h0⟩, ?_⟩
  rintro i m σ H ⟨rfl, hi, p⟩
  by_cases hlt : i < n
  · refine .inr ⟨hlt, Pv (i + 1), fun σ' H' p' => ⟨n - (i + 1), by omega, rfl, hlt, p'⟩, fun x H' y => ?_⟩
    obtain ⟨e, y⟩ := y
    subst e y
    exact hs i σ _ hlt p
  · have e : i = n := by omega
    subst e
    exact .inl ⟨Nat.le_refl _, hd σ H p⟩
end L2
namespace L2
open PySem PySem.Spec PyProof.Rows
abbrev R2 := V → V → Hp → VK → Prop
def OpR (X : Cx) (f : Value → Value → Sem Value) (r : R2) : Prop :=
  ∀ (pins : List (Addr × Obj)) (s : Shared) (σ : St) (H : Hp) (x y : V) (v u : Value) (Q : VK), Inv X pins σ H s → RelV x v → RelV y u → r x y H Q →
    wpAny (model X.prog X.w) X.A (f v u) (EP X pins σ Q) X.xe s
def UnR (X : Cx) (f : Value → Sem Value) (r : V → Hp → VK → Prop) : Prop :=
  ∀ (pins : List (Addr × Obj)) (s : Shared) (σ : St) (H : Hp) (x : V) (v : Value) (Q : VK), Inv X pins σ H s → RelV x v → r x H Q →
    wpAny (model X.prog X.w) X.A (f v) (EP X pins σ Q) X.xe s
def CallR (X : Cx) (f : Value) (r : List V → Hp → VK → Prop) : Prop :=
  ∀ (pins : List (Addr × Obj)) (s : Shared) (σ : St) (H : Hp) (xs : List V) (us : List Value) (Q : VK), Inv X pins σ H s → Vals xs us → r xs H Q →
    wpAny (model X.prog X.w) X.A (call f us) (EP X pins σ Q) X.xe s
def TruR (X : Cx) (r : V → Hp → (Bool → Hp → Prop) → Prop) : Prop :=
  ∀ (pins : List (Addr × Obj)) (s : Shared) (σ : St) (H : Hp) (x : V) (v : Value) (Q : Bool → Hp → Prop), Inv X pins σ H s → RelV x v → r x H Q →
    wpAny (model X.prog X.w) X.A (truthy v) (TP X pins σ Q) X.xe s
def tOp (r : R2) (ta tb : TE) : TE := fun σ H Q => ta σ H fun x H1 => tb σ H1 fun y H2 => r x y H2 Q
def tUn (r : V → Hp → VK → Prop) (ta : TE) : TE := fun σ H Q => ta σ H fun x H1 => r x H1 Q
def rI (C : Int → Int → Prop) (g : Int → Int → V) : R2 := fun x y H Q => ∃ i j, x = .int i ∧ y = .int j ∧ C i j ∧ Q (g i j) H
def rI0 (g : Int → Int → V) : R2 := fun x y H Q => ∃ i j, x = .int i ∧ y = .int j ∧ Q (g i j) H
def rU (g : Int → V) : V → Hp → VK → Prop := fun x H Q => ∃ i, x = .int i ∧ Q (g i) H
section
variable {X : Cx} {a b c : Expr} {ta tb tc : TE} {pos : Pos}
theorem binT (ha : PE X a ta) (hb : PE X b tb) {pins : List (Addr × Obj)} {s : Shared} {σ : St} {H : Hp} {R : V → V → Hp → Prop} (I : Inv X pins σ H s)
    (h : ta σ H fun x H1 => tb σ H1 fun y H2 => R x y H2) {Q : Value → Shared → Prop} {f : Value → Value → Sem Value}
    (hf : ∀ v u s2 x y H2, Inv X pins σ H2 s2 → RelV x v → RelV y u → R x y H2 → wpAny (model X.prog X.w) X.A (f v u) Q X.xe s2) :
    wpAny (model X.prog X.w) X.A (eval a X.env) (fun v s₁ => wpAny (model X.prog X.w) X.A (eval b X.env) (fun u s₂ => wpAny (model X.prog X.w) X.A (f v u) Q X.xe s₂) X.xe s₁) X.xe s := by
  refine thn (ha pins s σ H _ I h) fun v s1 ⟨x, H1, I1, r1, q1⟩ => ?_
  refine thn (hb pins s1 σ H1 _ I1 q1) fun u s2 ⟨y, H2, I2, r2, q2⟩ => ?_
  exact hf v u s2 x y H2 I2 r1 r2 q2
theorem pe_op {op : Operator} {r : R2} (ho : OpR X (binaryOp op) r) (ha : PE X a ta) (hb : PE X b tb) : PE X (.BinOp a op b pos) (tOp r ta tb) := by
  intro pins s σ H Q I h
  exact wpAny_BinOp (binT ha hb I h fun v u s2 x y H2 I2 rx ry q => ho pins s2 σ H2 x y v u Q I2 rx ry q)
theorem pe_un {op : UnaryOp} {r : V → Hp → VK → Prop} (ho : UnR X (unaryOp op) r) (ha : PE X a ta) : PE X (.UnaryOp op a pos) (tUn r ta) := by
  intro pins s σ H Q I h
  exact UnaryOp_ (thn (ha pins s σ H _ I h) fun v s1 ⟨x, H1, I1, r1, q1⟩ => ho pins s1 σ H1 x v Q I1 r1 q1)
theorem opI {f : Value → Value → Sem Value} {C : Int → Int → Prop} {g : Int → Int → Int}
    (rule : ∀ (i j : Int) (t u : Tok) (s : Shared) (Q : Value → Shared → Prop) (E : Value → Shared → Prop), C i j → Q (.int (g i j) s.toks) { s with toks := s.toks + 1 } → wpAny (model X.prog X.w) X.A (f (.int i t) (.int j u)) Q E s) :
    OpR X f (rI C fun i j => .int (g i j)) := by
  intro pins s σ H x y v u Q I rx ry h
  obtain ⟨i, j, rfl, rfl, hc, q⟩ := h
  obtain ⟨t, rfl⟩ := rx
  obtain ⟨t', rfl⟩ := ry
  exact rule i j t t' s _ _ hc ⟨.int (g i j), H, I.tok _, ⟨_, rfl⟩, q⟩
theorem opI0 {f : Value → Value → Sem Value} {g : Int → Int → Int}
    (rule : ∀ (i j : Int) (t u : Tok) (s : Shared) (Q : Value → Shared → Prop) (E : Value → Shared → Prop), Q (.int (g i j) s.toks) { s with toks := s.toks + 1 } → wpAny (model X.prog X.w) X.A (f (.int i t) (.int j u)) Q E s) :
    OpR X f (rI0 fun i j => .int (g i j)) := by
  intro pins s σ H x y v u Q I rx ry h
  obtain ⟨i, j, rfl, rfl, q⟩ := h
  obtain ⟨t, rfl⟩ := rx
  obtain ⟨t', rfl⟩ := ry
  exact rule i j t t' s _ _ ⟨.int (g i j), H, I.tok _, ⟨_, rfl⟩, q⟩
theorem opB0 {f : Value → Value → Sem Value} {g : Int → Int → Bool}
    (rule : ∀ (i j : Int) (t u : Tok) (s : Shared) (Q : Value → Shared → Prop) (E : Value → Shared → Prop), Q (.bool (g i j)) s → wpAny (model X.prog X.w) X.A (f (.int i t) (.int j u)) Q E s) :
    OpR X f (rI0 fun i j => .bl (g i j)) := by
  intro pins s σ H x y v u Q I rx ry h
  obtain ⟨i, j, rfl, rfl, q⟩ := h
  obtain ⟨t, rfl⟩ := rx
  obtain ⟨t', rfl⟩ := ry
  exact rule i j t t' s _ _ ⟨.bl (g i j), H, I, rfl, q⟩
def CDiv (i j : Int) : Prop := 0 < j ∧ j < 1073741824
def CDivN (i j : Int) : Prop := j ≠ 0 ∧ j.natAbs < 1073741824
def CPow (i j : Int) : Prop := 0 ≤ j ∧ j ≤ 1000000 ∧ i.natAbs < 2 ^ 64
def CMul (i j : Int) : Prop := (-(2 ^ 64) < i ∧ i < 2 ^ 64) ∨ (-(2 ^ 64) < j ∧ j < 2 ^ 64)
theorem CMul.ok {i j : Int} (h : CMul i j) : IntMulOk i j := by
  rcases h with ⟨h1, h2⟩ | ⟨h1, h2⟩
  · exact .of_left (intBits_le_64 h1 h2)
  · exact .of_right (intBits_le_64 h1 h2)
theorem op_add : OpR X (binaryOp .Add) (rI0 fun i j => .int (i + j)) := opI0 fun _ _ _ _ _ _ _ q => add_int q
theorem op_sub : OpR X (binaryOp .Sub) (rI0 fun i j => .int (i - j)) := opI0 fun _ _ _ _ _ _ _ q => sub_int q
theorem op_mul : OpR X (binaryOp .Mult) (rI CMul fun i j => .int (i * j)) := opI fun _ _ _ _ _ _ _ hc q => mul_int q hc.ok
theorem op_mod : OpR X (binaryOp .Mod) (rI (fun _ j => 0 < j) fun i j => .int (i % j)) := opI fun i j _ _ _ _ _ hc q => by
  have h1 : (0 : Int) < j := hc
  exact mod_int' (by omega) (by rw [Int.fmod_eq_emod_of_nonneg i (by omega)]; exact q)
theorem op_pow : OpR X (binaryOp .Pow) (rI CPow fun i j => .int (i ^ j.toNat)) := opI fun _ _ _ _ _ _ _ hc q => pow_int_small hc.1 hc.2.1 hc.2.2 q
theorem unI {f : Value → Sem Value} {g : Int → Int}
    (rule : ∀ (i : Int) (t : Tok) (s : Shared) (Q : Value → Shared → Prop) (E : Value → Shared → Prop), Q (.int (g i) s.toks) { s with toks := s.toks + 1 } → wpAny (model X.prog X.w) X.A (f (.int i t)) Q E s) :
    UnR X f (rU fun i => .int (g i)) := by
  intro pins s σ H x v Q I rx h
  obtain ⟨i, rfl, q⟩ := h
  obtain ⟨t, rfl⟩ := rx
  exact rule i t s _ _ ⟨.int (g i), H, I.tok _, ⟨_, rfl⟩, q⟩
theorem un_neg : UnR X (unaryOp .USub) (rU fun i => .int (-i)) := unI fun _ _ _ _ _ q => neg_int q
end
def scal : V → V → Bool
  | .non, .non => true | .non, .int _ => true | .int _, .non => true | .non, .bl _ => true | .bl _, .non => true | .non, .str _ => true | .str _, .non => true
  | .int _, .int _ => true | .bl _, .bl _ => true | .str _, .str _ => true | .byt _, .byt _ => true
  | .int _, .str _ => true | .str _, .int _ => true | .bl _, .str _ => true | .str _, .bl _ => true
  | _, _ => false
def rEq : R2 := fun x y H Q => scal x y = true ∧ Q (.bl (decide (x = y))) H
def rNe : R2 := fun x y H Q => scal x y = true ∧ Q (.bl (!decide (x = y))) H
theorem dec_int {i j : Int} : decide (V.int i = V.int j) = (i == j) := by
  rw [Bool.eq_iff_iff]
  simp
theorem dec_bl {i j : Bool} : decide (V.bl i = V.bl j) = (i == j) := by
  rw [Bool.eq_iff_iff]
  simp
theorem dec_str {i j : Str} : decide (V.str i = V.str j) = (i == j) := by
  rw [Bool.eq_iff_iff]
  simp
theorem dec_byt {i j : Array UInt8} : decide (V.byt i = V.byt j) = (i.toList == j.toList) := by
  rw [Bool.eq_iff_iff]
  cases i
  cases j
  simp
section
variable {X : Cx} {a b c : Expr} {ta tb tc : TE} {pos : Pos}
theorem fin_bl {pins : List (Addr × Obj)} {σ : St} {H : Hp} {s : Shared} {Q : VK} {k k' : Bool} (I : Inv X pins σ H s) (q : Q (.bl k) H) (e : k = k') : EP X pins σ Q (.bool k') s := by
  subst e
  exact ⟨.bl k, H, I, rfl, q⟩
theorem op_eq : OpR X (compareOp .Eq) rEq := by
  intro pins s σ H x y v u Q I rx ry h
  obtain ⟨hs, q⟩ := h
  cases x with
  | non =>
    cases rx
    cases y with
    | non => cases ry; exact PySem.EqNone.eq_none_none (fin_bl I q (by simp))
    | bl j => cases ry; exact PySem.EqNone.eq_none_bool (fin_bl I q (by simp))
    | int j => obtain ⟨t', rfl⟩ := ry; exact PySem.EqNone.eq_none_int (fin_bl I q (by simp))
    | str j => obtain ⟨t', rfl⟩ := ry; exact PySem.EqNone.eq_none_str (fin_bl I q (by simp))
    | _ => exact absurd (show false = true from hs) Bool.false_ne_true
  | bl i =>
    cases rx
    cases y with
    | non => cases ry; exact PySem.EqNone.eq_bool_none (fin_bl I q (by simp))
    | bl j => cases ry; exact eq_bool (fin_bl I q dec_bl)
    | str j => obtain ⟨t', rfl⟩ := ry; exact PySem.EqMixed.eq_bool_str (fin_bl I q (by simp))
    | _ => exact absurd (show false = true from hs) Bool.false_ne_true
  | int i =>
    obtain ⟨t, rfl⟩ := rx
    cases y with
    | non => cases ry; exact PySem.EqNone.eq_int_none (fin_bl I q (by simp))
    | int j => obtain ⟨t', rfl⟩ := ry; exact eq_int (fin_bl I q dec_int)
    | str j => obtain ⟨t', rfl⟩ := ry; exact PySem.EqMixed.eq_int_str (fin_bl I q (by simp))
    | _ => exact absurd (show false = true from hs) Bool.false_ne_true
  | str i =>
    obtain ⟨t, rfl⟩ := rx
    cases y with
    | non => cases ry; exact PySem.EqNone.eq_str_none (fin_bl I q (by simp))
    | bl j => cases ry; exact PySem.EqMixed.eq_str_bool (fin_bl I q (by simp))
    | int j => obtain ⟨t', rfl⟩ := ry; exact PySem.EqMixed.eq_str_int (fin_bl I q (by simp))
    | str j => obtain ⟨t', rfl⟩ := ry; exact eq_str (fin_bl I q dec_str)
    | _ => exact absurd (show false = true from hs) Bool.false_ne_true
  | byt i =>
    obtain ⟨t, rfl⟩ := rx
    cases y with
    | byt j => obtain ⟨t', rfl⟩ := ry; exact PySem.W.eq_bytes (fin_bl I q dec_byt)
    | _ => exact absurd (show false = true from hs) Bool.false_ne_true
  | _ => cases y <;> exact absurd (show false = true from hs) Bool.false_ne_true
theorem op_lt : OpR X (compareOp .Lt) (rI0 fun i j => .bl (decide (i < j))) := opB0 fun _ _ _ _ _ _ _ q => lt_int q
theorem op_gt : OpR X (compareOp .Gt) (rI0 fun i j => .bl (decide (j < i))) := opB0 fun _ _ _ _ _ _ _ q => gt_int q
theorem op_isN : OpR X (compareOp .Is) (fun x y H Q => y = .non ∧ Q (.bl (decide (x = .non))) H) := by
  intro pins s σ H x y v u Q I rx ry h
  obtain ⟨rfl, q⟩ := h
  cases ry
  refine is_none_gen (fin_bl I q ?_)
  cases x <;> first
    | (cases rx; rfl)
    | (obtain ⟨t, rfl⟩ := rx; rfl)
theorem op_notN : OpR X (compareOp .IsNot) (fun x y H Q => y = .non ∧ Q (.bl (!decide (x = .non))) H) := by
  intro pins s σ H x y v u Q I rx ry h
  obtain ⟨rfl, q⟩ := h
  cases ry
  refine isnot_none_gen (fin_bl I q ?_)
  cases x <;> first
    | (cases rx; rfl)
    | (obtain ⟨t, rfl⟩ := rx; rfl)
def isObj : HO → Bool
  | .lst _ => true
  | .ins _ _ _ => true
  | _ => false
theorem OpR.or {f : Value → Value → Sem Value} {r r' : R2} (h : OpR X f r) (h' : OpR X f r') : OpR X f (fun x y H Q => r x y H Q ∨ r' x y H Q) := by
  intro pins s σ H x y v u Q I rx ry q
  rcases q with q | q
  · exact h pins s σ H x y v u Q I rx ry q
  · exact h' pins s σ H x y v u Q I rx ry q
theorem nomark (b : Expr) {op : CmpOp} (h : op ≠ .In := by decide) (h2 : op ≠ .NotIn := by decide) : behindInMarks op b = false := by
  have e1 : (op == CmpOp.In) = false := by cases op <;> first | rfl | exact absurd rfl h
  have e2 : (op == CmpOp.NotIn) = false := by cases op <;> first | rfl | exact absurd rfl h2
  cases b <;> simp [behindInMarks, e1, e2]
theorem pe_cmpR {op : CmpOp} {r : R2} (ho : OpR X (compareOp op) r) (ha : PE X a ta) (hb : PE X b tb) (hm : behindInMarks op b = false) : PE X (.Compare a [op] [b] pos) (tOp r ta tb) := by
  intro pins s σ H Q I h
  exact wpAny_Compare1 (binT ha hb I h fun v u s2 x y H2 I2 rx ry q => ho pins s2 σ H2 x y v u Q I2 rx ry q) hm
def tTest (t : TE) : TT := fun σ H Q => t σ H fun x H' => ∃ k, x = .bl k ∧ Q k H'
theorem pt_cmpR {op : CmpOp} {r : R2} (ho : OpR X (compareOp op) r) (ha : PE X a ta) (hb : PE X b tb) (hm : behindInMarks op b = false) : PT X (.Compare a [op] [b] pos) (tTest (tOp r ta tb)) := by
  intro pins s σ H Q I h
  refine wpAny_isTrue_Compare1 (thn (ha pins s σ H _ I h) fun v s1 ⟨x, H1, I1, r1, q1⟩ => thn (hb pins s1 σ H1 _ I1 q1) fun u s2 ⟨y, H2, I2, r2, q2⟩ =>
    thn (ho pins s2 σ H2 x y v u _ I2 r1 r2 q2) fun c s3 ⟨z, H3, I3, r3, k, e, q3⟩ => ?_) hm
  subst e
  cases r3
  exact wpAny_truthy_bool ⟨H3, I3, q3⟩
def tChain (r r' : R2) (ta tb tc : TE) : TE := fun σ H Q => ta σ H fun x H1 => tb σ H1 fun y H2 => r x y H2 fun z H3 => ∃ k, z = .bl k ∧
  (if k = true then tc σ H3 fun w' H4 => r' y w' H4 Q else Q (.bl false) H3)
def TruV (K : PySem.W.Frag) (x : V) (H : Hp) (k : Bool) : Prop :=
  match x with
  | .non => k = false
  | .bl b => k = b
  | .int i => k = (i != 0)
  | .str y => y.length ≤ sizeLine ∧ k = ((y.length : Int) != 0)
  | .byt y => y.size ≤ sizeLine ∧ k = ((y.size : Int) != 0)
  | .ref p => (∃ xs, SqL K H p xs ∧ k = !xs.isEmpty) ∨ (∃ xs, SqT K H p xs ∧ k = !xs.isEmpty) ∨ ∃ kvs, H p = some (.dK kvs) ∧ k = !kvs.isEmpty
  | _ => False
theorem line63 : (sizeLine : Nat) < 2 ^ 63 := by rw [sizeLine_eq]; decide
theorem op_add_str : OpR X (binaryOp .Add) (fun x y H Q => ∃ i j, x = .str i ∧ y = .str j ∧ i.length + j.length ≤ sizeLine ∧ Q (.str (i ++ j)) H) := by
  intro pins s σ H x y v u Q I rx ry h
  obtain ⟨i, j, rfl, rfl, hz, q⟩ := h
  obtain ⟨t, rfl⟩ := rx
  obtain ⟨t', rfl⟩ := ry
  exact add_str (fun t' tk => ⟨.str (i ++ j), H, I.tok _, ⟨_, rfl⟩, q⟩) hz
def PlainIxT (b : Expr) : Prop := ∀ o i, subscripted b false o i = operate [o, i] (getItem o i)
theorem vals1 {x : V} {us : List Value} (r : Vals [x] us) : ∃ u, us = [u] ∧ RelV x u := by
  cases r with
  | cons r1 r2 => cases r2; exact ⟨_, rfl, r1⟩
theorem vals2 {x y : V} {us : List Value} (r : Vals [x, y] us) : ∃ u w', us = [u, w'] ∧ RelV x u ∧ RelV y w' := by
  cases r with
  | cons r1 r2 =>
    cases r2 with
    | cons r3 r4 => cases r4; exact ⟨_, _, rfl, r1, r3⟩
theorem call_max2 (hc : X.calm = true) : CallR X (.builtin "max") (fun xs H Q => ∃ i j, xs = [.int i, .int j] ∧ Q (.int (if j > i then j else i)) H) := by
  intro pins s σ H xs us Q I r h
  obtain ⟨i, j, rfl, q⟩ := h
  obtain ⟨u, w', rfl, ⟨t, rfl⟩, ⟨t', rfl⟩⟩ := vals2 r
  refine max_two_ints (I.ok.hd hc) fun h' tk k => ⟨_, H, I.kept k, ?_, q⟩
  by_cases hj : j > i
  · rw [if_pos hj, if_pos hj]; exact ⟨_, rfl⟩
  · rw [if_neg hj, if_neg hj]; exact ⟨_, rfl⟩
def LenV (K : PySem.W.Frag) (x : V) (H : Hp) (n : Nat) : Prop :=
  match x with
  | .str y => y.length ≤ sizeLine ∧ n = y.length
  | .byt y => y.size ≤ sizeLine ∧ n = y.size
  | .ref p => (∃ xs, SqL K H p xs ∧ n = xs.length) ∨ ∃ xs, SqT K H p xs ∧ n = xs.length
  | _ => False
end
end L2
namespace L2
open PySem PySem.Spec PyProof.Rows
structure ObjM (h : Heap) (x dx C : Addr) (mA : Str → Option Value) : Prop where
  obj : h.get? x = some (PySem.W.instObj C dx)
  ns : h.Ns1 dx mA
  ne : dx ≠ x
theorem lookIn_ns {h : Heap} {dx : Addr} {mA : Str → Option Value} (n : h.Ns1 dx mA) : ∃ od, h.get? dx = some od ∧ ∀ name, PySem.W.lookIn name od = some (mA name) := by
  obtain ⟨o, es, ep, ho, hd, hk, _, hm⟩ := n
  refine ⟨o, ho, fun name => ?_⟩
  have e := hm name
  unfold nsFind findBy at e
  rw [← Array.find?_toList] at e
  unfold PySem.W.lookIn
  rw [hd]
  dsimp only
  split
  · rename_i y q
    rw [q] at e
    exact congrArg some e
  · rename_i q
    rw [q] at e
    have a : es.toList.any (·.refKey) = false := by
      rw [List.any_eq_false]
      intro y hy
      obtain ⟨z, t, hkey⟩ := hk y (Array.mem_toList_iff.mp hy)
      simp [DictEntry.refKey, hkey]
    have a' : ¬ es.toList.any (·.refKey) = true := by rw [a]; exact Bool.false_ne_true
    rw [if_neg a']
    exact congrArg some e
theorem ObjM.look {h : Heap} {x dx C : Addr} {mA : Str → Option Value} (I : ObjM h x dx C mA) : ∃ od, PySem.W.InstAt h x (PySem.W.instObj C dx) C (some od) ∧ ∀ name, PySem.W.lookIn name od = some (mA name) :=
  let ⟨od, ho, hl⟩ := lookIn_ns I.ns
  ⟨od, ⟨I.obj, rfl, rfl, ho⟩, hl⟩
section
variable {prog : Program} {w : World} {A : Around} {E : Value → Shared → Prop} {s : Shared} {K : PySem.W.Frag} {x dx C f : Addr} {mA : Str → Option Value} {name : Str} {v : Value}
end
def putF (f : Str) (v : V) : List (Str × V) → List (Str × V)
  | [] => [(f, v)]
  | (g, x) :: r => if g = f then (g, v) :: r else (g, x) :: putF f v r
theorem RelO.some_of {v : V} {o : Option Value} (r : RelO (some v) o) : ∃ u, o = some u ∧ RelV v u := by
  cases o with
  | none => exact (show False from r).elim
  | some u => exact ⟨u, rfl, r⟩
section
variable {P : Program} {w : World} {H H' : Hp} {h h' : Heap} {a C dx : Addr} {fs fs' : List (Str × V)}
theorem ins_get (hok : HOk P w H h) (e : H a = some (.ins C dx fs)) : ∃ mA, ObjM h a dx C mA ∧ (∀ f, RelO (fs.lookup f) (mA f)) ∧ PySem.Within mA (fs.map (·.1)) ∧ fs.length ≤ 1000 ∧ H dx = some (.own a) := by
  obtain ⟨d, z, ne, ob, mA, n, r, q⟩ := (show ObjOk P w H h a (.ins C dx fs) from hok a _ e)
  exact ⟨mA, ⟨ob, n, ne⟩, r, q, z, d⟩
end
structure Cls (K : PySem.W.Frag) (C : Addr) : Prop where
  pg : PySem.W.plainGet K C Str.empty = true
  hd : PySem.W.hasDictIn K C = true
  po : PySem.W.plainOver K C = true
  sa : PySem.W.findIn K (.ref C) "__setattr__" = some (some (.builtin "object.__setattr__"))
theorem Cls.get {K : PySem.W.Frag} {C : Addr} (c : Cls K C) (f : Str) : PySem.W.plainGet K C f = true := c.pg
def NoAttr (K : PySem.W.Frag) (C : Addr) (f : Str) : Prop := PySem.W.findIn K (.ref C) f = some none
structure Con (K : PySem.W.Frag) (C : Addr) (f : Str) (v : V) (u : Value) : Prop where
  at_ : PySem.W.findIn K (.ref C) f = some (some u)
  rel : RelV v u
  get : PySem.W.specialIn K u "__get__" = some none
  cp : PySem.W.copiedNames.contains f = false
structure Meth (K : PySem.W.Frag) (C : Addr) (m : Str) (f : Addr) : Prop where
  at_ : PySem.W.findIn K (.ref C) m = some (some (.ref f))
  fn : PySem.W.isFn K (.ref f) = true
  kp : PySem.W.keepIn K (.ref f) = true
section
variable {X : Cx} {pins : List (Addr × Obj)} {σ : St} {H : Hp} {s : Shared} {a C dx : Addr} {fs : List (Str × V)} {f : Str} {v : V} {A : Around} {E : Value → Shared → Prop}
end
def tFld (K : PySem.W.Frag) (ta : TE) (f : Str) : TE := fun σ H Q => ta σ H fun x H1 => ∃ a C dx fs v, x = .ref a ∧ H1 a = some (.ins C dx fs) ∧ Cls K C ∧ NoAttr K C f ∧ fs.lookup f = some v ∧ Q v H1
def tCon (K : PySem.W.Frag) (ta : TE) (f : Str) : TE := fun σ H Q => ta σ H fun x H1 => ∃ a C dx fs v u, x = .ref a ∧ H1 a = some (.ins C dx fs) ∧ Cls K C ∧ Con K C f v u ∧ fs.lookup f = none ∧ Q v H1
def sFld (K : PySem.W.Frag) (ta tv : TE) (f : Str) : TS := fun D σ H => tv σ H fun y H1 => ta σ H1 fun x H2 => ∃ a C dx fs, x = .ref a ∧ H2 a = some (.ins C dx fs) ∧ Cls K C ∧ NoAttr K C f ∧ fs.length < 1000 ∧
  D.nx σ (upd H2 a (.ins C dx (putF f y fs)))
def InOp (X : Cx) (op : Operator) (rd : V → V → Hp → VK → Prop) : Prop :=
  ∀ (pins : List (Addr × Obj)) (s : Shared) (σ : St) (H : Hp) (x y : V) (u v : Value) (Q : VK), Inv X pins σ H s → RelV x u → RelV y v → rd x y H Q → wpAny (model X.prog X.w) X.A (inplaceOp op u v) (EP X pins σ Q) X.xe s
def sFldAug (K : PySem.W.Frag) (ta tv : TE) (rd : V → V → Hp → VK → Prop) (f : Str) : TS := fun D σ H => ta σ H fun x H1 => ∃ a C dx fs v, x = .ref a ∧ H1 a = some (.ins C dx fs) ∧ Cls K C ∧ NoAttr K C f ∧ fs.lookup f = some v ∧
  tv σ H1 fun y H2 => rd v y H2 fun z H3 => ∃ dx' fs', H3 a = some (.ins C dx' fs') ∧ fs'.length < 1000 ∧ D.nx σ (upd H3 a (.ins C dx' (putF f z fs')))
section
variable {X : Cx} {o e value : Expr} {f : Str} {pos pos' tpos : Pos} {ta tv : TE}
def rAdd : V → V → Hp → VK → Prop := fun x y H Q => ∃ i j, x = .int i ∧ y = .int j ∧ Q (.int (i + j)) H
def rSub : V → V → Hp → VK → Prop := fun x y H Q => ∃ i j, x = .int i ∧ y = .int j ∧ Q (.int (i - j)) H
end
section
variable {X : Cx} {pins : List (Addr × Obj)} {σ : St} {H : Hp} {s : Shared} {A : Around} {E : Value → Shared → Prop} {Q : Value → Shared → Prop} {c : Value} {b : Bool}
inductive TyOf (K : PySem.W.Frag) (H : Hp) : V → Value → Prop where
  | non : TyOf K H .non (.type "NoneType")
  | bl (x : Bool) : TyOf K H (.bl x) (.type "bool")
  | int (i : Int) : TyOf K H (.int i) (.type "int")
  | str (x : Str) : TyOf K H (.str x) (.type "str")
  | flt (x : UInt64) : TyOf K H (.flt x) (.type "float")
  | lst {a : Addr} {xs : List V} (e : H a = some (.lst xs)) : TyOf K H (.ref a) (.type "list")
  | frz {a : Addr} {o : Obj} {xs : List V} (e : H a = some (.frz o (.lst xs))) : TyOf K H (.ref a) (.type "list")
  | tup {a : Addr} {xs : List V} (e : H a = some (.tup xs)) : TyOf K H (.ref a) (.type "tuple")
  | dK {a : Addr} {kvs : List (Key × V)} (e : H a = some (.dK kvs)) : TyOf K H (.ref a) (.type "dict")
  | dT {a : Addr} {kvs : List (List Key × V)} (e : H a = some (.dT kvs)) : TyOf K H (.ref a) (.type "dict")
  | ins {a C dx : Addr} {fs : List (Str × V)} (e : H a = some (.ins C dx fs)) (cl : Cls K C) (ha : PySem.W.findIn K (.ref C) "__class__" = some (some (.builtin "object.__class__")))
      (hn : PySem.W.specialIn K (.builtin "object.__class__") "__get__" = some (some (.builtin "getset_descriptor.__get__"))) (htk : PySem.W.takesIn K (.builtin "object.__class__") = some true)
      (hm : PySem.W.mroIn K C (.type "object") = some true) : TyOf K H (.ref a) (.ref C)
theorem isinst_ok {x : V} {u t : Value} (I : Inv X pins σ H s) (rx : RelV x u) (ty : TyOf X.K H x t) (e : PySem.W.kitOne X.K t c = some b) (h : ∀ tk, Q (.bool b) { s with toks := tk }) :
    wpAny (model X.prog X.w) A (call (.builtin "isinstance") [u, c]) Q E s := by
  cases ty with
  | non => cases (show u = Value.none from rx); exact PySem.W.kia_one PySem.W.kitx_none I.kIn True.intro e (fun z => nomatch z) h
  | bl y => cases (show u = Value.bool y from rx); exact PySem.W.kia_one PySem.W.kitx_bool I.kIn True.intro e (fun z => nomatch z) h
  | int i => obtain ⟨t, q⟩ := (show ∃ t, u = Value.int i t from rx); cases q; exact PySem.W.kia_one PySem.W.kitx_int I.kIn True.intro e (fun z => nomatch z) h
  | str y => obtain ⟨t, q⟩ := (show ∃ t, u = Value.str y t from rx); cases q; exact PySem.W.kia_one PySem.W.kitx_str I.kIn True.intro e (fun z => nomatch z) h
  | flt y => obtain ⟨t, q⟩ := (show ∃ t, u = Value.float y t from rx); cases q; exact PySem.W.kia_one PySem.W.kitx_float I.kIn True.intro e (fun z => nomatch z) h
  | @lst a xs ea =>
    cases (show u = Value.ref a from rx)
    obtain ⟨_, _, n, _, h1⟩ := (show ObjOk X.prog X.w H s.heap a (.lst xs) from I.hok a _ ea)
    exact PySem.W.kia_one PySem.W.kitx_list I.kIn ⟨_, h1, rfl⟩ e (fun z => nomatch z) h
  | @frz a ob xs ea =>
    cases (show u = Value.ref a from rx)
    obtain ⟨_, _, _, n, _, h1⟩ := (show ObjOk X.prog X.w H s.heap a (.frz ob (.lst xs)) from I.hok a _ ea)
    exact PySem.W.kia_one PySem.W.kitx_list I.kIn ⟨_, h1, rfl⟩ e (fun z => nomatch z) h
  | @tup a xs ea =>
    cases (show u = Value.ref a from rx)
    obtain ⟨_, _, _, p, _⟩ := (show ObjOk X.prog X.w H s.heap a (.tup xs) from I.hok a _ ea)
    obtain ⟨o, h1, h2, _⟩ := p
    exact PySem.W.kia_one PySem.W.kitx_tuple I.kIn ⟨o, h1, h2⟩ e (fun z => nomatch z) h
  | @dK a kvs ea =>
    cases (show u = Value.ref a from rx)
    obtain ⟨_, _, vs, _, p⟩ := (show ObjOk X.prog X.w H s.heap a (.dK kvs) from I.hok a _ ea)
    obtain ⟨o, es, ep, h1, h2, _⟩ := p
    exact PySem.W.kia_one PySem.W.kitx_dict I.kIn ⟨o, h1, h2.1⟩ e (fun z => nomatch z) h
  | @dT a kvs ea =>
    cases (show u = Value.ref a from rx)
    obtain ⟨_, _, xs, _, o, es, ep, h1, h2, _⟩ := (show ObjOk X.prog X.w H s.heap a (.dT kvs) from I.hok a _ ea)
    exact PySem.W.kia_one PySem.W.kitx_dict I.kIn ⟨o, h1, h2.1⟩ e (fun z => nomatch z) h
  | @ins a C dx fs ea cl ha hn htk hm =>
    cases (show u = Value.ref a from rx)
    obtain ⟨mA, O, _⟩ := ins_get I.hok ea
    obtain ⟨od, J, _⟩ := O.look
    exact PySem.W.kia_one (PySem.W.kitx_own (cl.get _) cl.hd ha hn htk hm) I.kIn J e (fun z => nomatch z) h
end
end L2
namespace L2
open PySem PySem.Spec PyProof.Rows
structure Room (k : Nat) (A : Around) : Prop where
  hd : A.handled = none
  dp : A.depth + 3 * k + 5 < recursionLimit
  un : A.units + 16 * k + 200 < cLine
theorem Room.mono {j k : Nat} {A : Around} (r : Room k A) (h : j ≤ k) : Room j A := ⟨r.hd, by have := r.dp; omega, by have := r.un; omega⟩
theorem Room.deeper {k : Nat} {A : Around} (r : Room (k + 1) A) (env : Env) : Room k (A.deeper env) :=
  ⟨r.hd, by have := r.dp; show A.depth + 1 + 3 * k + 5 < _; omega, by have := r.un; show A.units + 3 + 16 * k + 200 < _; omega⟩
theorem Room.depth {k : Nat} {A : Around} (r : Room k A) : A.depth < recursionLimit := by have := r.dp; omega
theorem Room.units {k : Nat} {A : Around} (r : Room k A) : A.units + 64 < cLine := by have := r.un; omega
def tNil : TA := fun _ H Q => Q [] H
def tCons (ta : TE) (tr : TA) : TA := fun σ H Q => ta σ H fun x H1 => tr σ H1 fun xs H2 => Q (x :: xs) H2
section
variable {X : Cx} {e : Expr} {es : List Expr} {te : TE} {t : TA} {pos : Pos}
theorem pa_nil : PA X [] tNil := fun _ _ _ _ H Q I h => Calls.spliced_nil ⟨[], H, I, .nil, h⟩
theorem pa_cons (ha : PE X e te) (hr : PA X es t) (hs : starEach (e :: es) X.env = (false, eval e X.env) :: starEach es X.env := by rfl) : PA X (e :: es) (tCons te t) := by
  intro pos pins s σ H Q I h
  rw [hs]
  show wpAny _ _ (spliced ((false, eval e X.env) :: backTo pos (starEach es X.env))) _ _ s
  refine Calls.spliced_cons (thn (ha pins s σ H _ I h) fun u s1 ⟨x, H1, I1, r1, q1⟩ => ?_)
  exact thn (hr pos pins s1 σ H1 _ I1 q1) fun us s2 ⟨xs, H2, I2, r2, q2⟩ => ⟨x :: xs, H2, I2, .cons r1 r2, q2⟩
def tTup (t : TA) : TE := fun σ H Q => t σ H fun xs H1 => xs.length ≤ sizeLine ∧ ∀ p, H1 p = none → Q (.ref p) (upd H1 p (.tup xs))
def tLst (t : TA) : TE := fun σ H Q => t σ H fun xs H1 => xs.length ≤ sizeLine ∧ ∀ p, H1 p = none → Q (.ref p) (upd H1 p (.lst xs))
theorem pe_tup {x1} (h : PA X es t) : PE X (.Tuple es x1 pos) (tTup t) := by
  intro pins s σ H Q I hq
  refine wpAny_Tuple_spliced (thn (h pos pins s σ H _ I hq) fun us s1 ⟨xs, H1, I1, r, z, q⟩ => ⟨by rw [← r.length]; exact z, ?_⟩)
  have hf : H1 s1.heap.objs.size = none := I1.hok.fresh (Nat.le_refl _)
  refine ⟨.ref s1.heap.objs.size, upd H1 s1.heap.objs.size (.tup xs), I1.laid (t' := s1.toks) (fun b u e => Heap.get?_push_of_some _ e) (Nat.le_refl _) ?_, rfl, q _ hf⟩
  exact ⟨z, us, r, IsTupN.new _ _⟩
theorem pe_lst (h : PA X es t) : PE X (.List es pos) (tLst t) := by
  intro pins s σ H Q I hq
  refine wpAny_List_spliced (thn (h pos pins s σ H _ I hq) fun us s1 ⟨xs, H1, I1, r, z, q⟩ => ⟨by rw [← r.length]; exact z, ?_⟩)
  have hf : H1 s1.heap.objs.size = none := I1.hok.fresh (Nat.le_refl _)
  refine ⟨.ref s1.heap.objs.size, upd H1 s1.heap.objs.size (.lst xs), I1.laid (t' := s1.toks) (fun b u e => Heap.get?_push_of_some _ e) (Nat.le_refl _) ?_, rfl, q _ hf⟩
  exact ⟨z, us, 0, r, Heap.get?_push_size _ rfl⟩
end
abbrev Sp := List V → Hp → VK → XK → Prop
abbrev CXT := List Env → Hp → Shared → XK → Value → Shared → Prop
structure Env0 (P : Program) (w : World) (K : PySem.W.Frag) (mg : Str → Option Value) (base : Heap) (A : Around) (outer : List Env) (s : Shared) (H : Hp) : Prop where
  frames : A.frames = some outer
  mod : Mod K mg base
  bs : ∀ b o, base.get? b = some o → s.heap.get? b = some o ∧ H b = none
  bsz : base.objs.size ≤ s.heap.objs.size
  funs : s.heap.FunFrames base outer
  frf : ∀ b ∈ frs outer, H b = none
  hok : HOk P w H s.heap
  bare : AllBare s.gens
def CE (outer : List Env) (P : Program) (w : World) (H : Hp) (s : Shared) (Q : VK) (u : Value) (s' : Shared) : Prop :=
  ∃ v H', s'.os = s.os ∧ AllBare s'.gens ∧ Un (frs outer) [] H H' s.heap s'.heap ∧ HOk P w H' s'.heap ∧ RelV v u ∧ Q v H'
def CR (CX : CXT) (outer : List Env) (P : Program) (w : World) (H : Hp) (s : Shared) (Q : VK) (E : XK) (r : Result) (s' : Shared) : Prop :=
  match r with
  | .ok (.ret u) => CE outer P w H s Q u s'
  | .ok _ => False
  | .error e => CX outer H s E e s'
structure FnOk (P : Program) (w : World) (K : PySem.W.Frag) (mg : Str → Option Value) (base : Heap) (CX : CXT) (k : Nat) (f : Addr) (fd : FuncData) (ps : List Str) (sp : Sp) : Prop where
  len : ∀ vs H Q E, sp vs H Q E → vs.length = ps.length
  run : ∀ (A : Around) (outer : List Env) (s : Shared) (H : Hp) (args : Args) (us : List Value) (vs : List V) (Q : VK) (E : XK), Room k A → Env0 P w K mg base A outer s H → BindsTo s fd args (ps.zip us) → Vals vs us → sp vs H Q E →
    codeAny (model P w) A (.call (.ref f) args) (CR CX outer P w H s Q E) s
section
variable {X : Cx} {pins : List (Addr × Obj)} {σ : St} {H : Hp} {s s' : Shared}
theorem Inv.env0 (I : Inv X pins σ H s) : Env0 X.prog X.w X.K X.mg X.base X.A X.stack s H :=
  ⟨I.ok.frames, I.ok.mod, I.bs, Nat.le_trans I.ok.bsz I.sz, I.stack, I.stkFree, I.hok, I.bare⟩
theorem Inv.after {Q : VK} {u : Value} (I : Inv X pins σ H s) (h : CE X.stack X.prog X.w H s Q u s') : EP X pins σ Q u s' := by
  obtain ⟨v, H', os, bare, un, hok, r, q⟩ := h
  obtain ⟨hh, g, d, t, os'⟩ := s'
  obtain rfl : os' = s.os := os
  exact ⟨v, H', I.call (h' := hh) (g' := g) (d' := d) (t' := t) (ch := []) un hok bare (fun b z => absurd z (by simp)), r, q⟩
end
def tCall (sp : Sp) (dvs : List V) (E : XK) (t : TA) : TE := fun σ H Q => t σ H fun vs H1 => sp (vs ++ dvs) H1 Q E
def tMeth (C : Addr) (m : Str) (sp : Sp) (dvs : List V) (E : XK) (ta : TE) (t : TA) : TE := fun σ H Q => ta σ H fun x H1 => ∃ a dx fs, x = .ref a ∧ H1 a = some (.ins C dx fs) ∧ fs.lookup m = none ∧
  t σ H1 fun vs H2 => sp (x :: (vs ++ dvs)) H2 Q E
def tMake (C : Addr) (sp : Sp) (dvs : List V) (E : XK) (t : TA) : TE := fun σ H Q => t σ H fun vs H1 => ∀ x dx, H1 x = none → H1 dx = none → dx ≠ x →
  sp (.ref x :: (vs ++ dvs)) (upd (upd H1 dx (.own x)) x (.ins C dx [])) (fun v H2 => v = .non ∧ Q (.ref x) H2) E
def Binds (K : PySem.W.Frag) (fd : FuncData) (ps : List Str) (ds : List Value) : Prop :=
  ∀ (s : Shared) (us : List Value), K.In s.heap → (us ++ ds).length = ps.length → BindsTo s fd ⟨us, []⟩ (ps.zip (us ++ ds))
theorem Binds.all {K : PySem.W.Frag} {fd : FuncData} {ps : List Str} (h : ∀ us : List Value, us.length = ps.length → bindArgs fd ⟨us, []⟩ = pure (ps.zip us)) : Binds K fd ps [] := fun s us _ hl => by
  rw [List.append_nil] at hl ⊢
  exact .of_eq (h us hl)
def Passes (CX : CXT) (X : Cx) (E : XK) : Prop := ∀ (pins : List (Addr × Obj)) (σ : St) (H : Hp) (s : Shared) (e : Value) (s' : Shared), Inv X pins σ H s → CX X.stack H s E e s' → X.xe e s'
section
variable {X : Cx} {CX : CXT} {k : Nat} {f C : Addr} {fd : FuncData} {ps : List Str} {sp : Sp} {dvs : List V} {ds : List Value} {E : XK} {x m : Str} {p pos apos : Pos} {e o : Expr} {es : List Expr} {ta : TE} {t : TA}
theorem run_fn {pins : List (Addr × Obj)} {σ : St} {H : Hp} {s : Shared} {Q : VK} {us : List Value} {vs : List V} (F : FnOk X.prog X.w X.K X.mg X.base CX k f fd ps sp) (hr : Room k X.A) (hb : Binds X.K fd ps ds) (hd : Vals dvs ds) (hx : Passes CX X E)
    (I : Inv X pins σ H s) (r : Vals vs us) (h : sp (vs ++ dvs) H Q E) : wpAny (model X.prog X.w) X.A (call (.ref f) us) (EP X pins σ Q) X.xe s := by
  have r2 : Vals (vs ++ dvs) (us ++ ds) := r.append hd
  have hl : (us ++ ds).length = ps.length := by rw [← r2.length]; exact F.len _ _ _ _ h
  refine wpAny_call (codeAny_mono (F.run X.A X.stack s H ⟨us, []⟩ (us ++ ds) (vs ++ dvs) Q E hr I.env0 (hb s us I.kIn hl) r2 h) fun r s' hq => ?_)
  cases r with
  | error e => exact hx pins σ H s e s' I hq
  | ok fl =>
    cases fl with
    | ret u => exact I.after hq
    | next => exact False.elim hq
    | brk => exact False.elim hq
    | cont => exact False.elim hq
theorem pe_call (F : FnOk X.prog X.w X.K X.mg X.base CX k f fd ps sp) (hr : Room k X.A) (hg : Gl X x) (hm : X.mg x = some (.ref f)) (hk : PySem.W.keepIn X.K (.ref f) = true) (hb : Binds X.K fd ps ds) (hd : Vals dvs ds) (hx : Passes CX X E)
    (ha : PA X (e :: es) t) (hdb : (x == ("__debug__" : Str)) = false := by decide) (he : starEach (e :: es) X.env = (false, eval e X.env) :: starEach es X.env := by rfl) (hpl : (backTo pos (starEach es X.env)).any (·.1) = false := by rfl) :
    PE X (.Call (.Name x p) (e :: es) [] pos) (tCall sp dvs E t) := by
  intro pins s σ H Q I h
  refine wpAny_Call_Name_kw (ld_glob I hg hm ?_ hdb)
  refine PySem.W.callWith_K (h₀ := X.base) I.ok.mod.kin hk (thn (ha pos pins s σ H _ I h) fun us s1 ⟨vs, H1, I1, r, q⟩ => ⟨I1.kIn, ?_⟩) he hpl
  exact run_fn F hr hb hd hx I1 r q
structure Mk (K : PySem.W.Frag) (C f : Addr) : Prop where
  makes : PySem.W.makesIn K C = true
  init : PySem.W.findIn K (.ref C) "__init__" = some (some (.ref f))
  fn : PySem.W.isFn K (.ref f) = true
  kp : PySem.W.keepIn K (.ref C) = true
end
def PK (X : Cx) (kws : List Keyword) (t : TA) : Prop :=
  ∀ (pos : Pos) (pins : List (Addr × Obj)) (s : Shared) (σ : St) (H : Hp) (Q : List V → Hp → Prop), Inv X pins σ H s → t σ H Q → wpAny (model X.prog X.w) X.A (evalAll ((backToKw pos (keywordEach kws X.env)).map (·.2))) (AP X pins σ Q) X.xe s
section
variable {X : Cx} {CX : CXT} {k : Nat} {f C : Addr} {fd : FuncData} {ps ks : List Str} {sp : Sp} {E : XK} {x m : Str} {p pos apos kpos : Pos} {e o : Expr} {es : List Expr} {kws : List Keyword} {te ta : TE} {t tk : TA} {nm : Option Str}
structure KBinds (K : PySem.W.Frag) (fd : FuncData) (ps ks : List Str) (g : List Value → List Value → List Value) (gV : List V → List V → List V) : Prop where
  to : ∀ (s : Shared) (us ws : List Value), K.In s.heap → (g us ws).length = ps.length → BindsTo s fd ⟨us, ks.zip ws⟩ (ps.zip (g us ws))
  rel : ∀ {vs : List V} {us : List Value} {zs : List V} {ws : List Value}, Vals vs us → Vals zs ws → Vals (gV vs zs) (g us ws)
def tCallK (sp : Sp) (gV : List V → List V → List V) (E : XK) (t tk : TA) : TE := fun σ H Q => t σ H fun vs H1 => tk σ H1 fun zs H2 => sp (gV vs zs) H2 Q E
variable {g : List Value → List Value → List Value} {gV : List V → List V → List V}
end
structure FnScope (N P : List Str) (sc : Scope) : Prop where
  kind : sc.kind = .function
  co : sc.isCoroutine = false
  gen : sc.isGenerator = false
  nd : N.Nodup
  pre : N.take P.length = P
  par : ∀ x ∈ P, sc.names.lookup x = some .local ∨ sc.names.lookup x = some .cell
  nofree : ∀ y ∈ sc.names, y.2 ≠ .free
theorem bindL_out {kindOf : Str → Option NameKind} {x : Str} : ∀ {binds : List (Str × Value)} {m : Str → Option Value}, (∀ v, (x, v) ∉ binds) → bindL kindOf binds m x = m x
  | [], _, _ => rfl
  | (n, v) :: r, m, h => by
    unfold bindL
    rw [bindL_out fun w hw => h w (List.mem_cons_of_mem _ hw)]
    split
    · have : x ≠ n := by rintro rfl; exact h v List.mem_cons_self
      simp [this]
    · rfl
theorem bindC_out {kindOf : Str → Option NameKind} {x : Str} : ∀ {binds : List (Str × Value)} {m : Str → Option Value}, (∀ v, (x, v) ∉ binds) → bindC kindOf binds m x = m x
  | [], _, _ => rfl
  | (n, v) :: r, m, h => by
    unfold bindC
    rw [bindC_out fun w hw => h w (List.mem_cons_of_mem _ hw)]
    split
    · rfl
    · have : x ≠ n := by rintro rfl; exact h v List.mem_cons_self
      simp [this]
theorem bindL_get {kindOf : Str → Option NameKind} {x : Str} {v : Value} : ∀ {P : List Str} {vs : List Value} {i : Nat} {m : Str → Option Value}, P.Nodup → P[i]? = some x → vs[i]? = some v → kindOf x = some .local →
    bindL kindOf (P.zip vs) m x = some v
  | [], _, _, _, _, h, _, _ => by simp at h
  | _ :: _, [], _, _, _, _, h, _ => by simp at h
  | p :: P, w :: vs, 0, m, nd, h1, h2, hk => by
    simp at h1 h2; subst h1; subst h2
    show bindL kindOf ((p, w) :: P.zip vs) m p = _
    unfold bindL
    rw [bindL_out fun v hv => (List.nodup_cons.mp nd).1 (List.of_mem_zip hv).1, if_pos hk]
    simp
  | p :: P, w :: vs, i + 1, m, nd, h1, h2, hk => by
    show bindL kindOf ((p, w) :: P.zip vs) m x = _
    unfold bindL
    exact bindL_get (i := i) (List.nodup_cons.mp nd).2 (by simpa using h1) (by simpa using h2) hk
theorem bindC_get {kindOf : Str → Option NameKind} {x : Str} {v : Value} : ∀ {P : List Str} {vs : List Value} {i : Nat} {m : Str → Option Value}, P.Nodup → P[i]? = some x → vs[i]? = some v → kindOf x ≠ some .local →
    bindC kindOf (P.zip vs) m x = some v
  | [], _, _, _, _, h, _, _ => by simp at h
  | _ :: _, [], _, _, _, _, h, _ => by simp at h
  | p :: P, w :: vs, 0, m, nd, h1, h2, hk => by
    simp at h1 h2; subst h1; subst h2
    show bindC kindOf ((p, w) :: P.zip vs) m p = _
    unfold bindC
    rw [bindC_out fun v hv => (List.nodup_cons.mp nd).1 (List.of_mem_zip hv).1, if_neg hk]
    simp
  | p :: P, w :: vs, i + 1, m, nd, h1, h2, hk => by
    show bindC kindOf ((p, w) :: P.zip vs) m x = _
    unfold bindC
    exact bindC_get (i := i) (List.nodup_cons.mp nd).2 (by simpa using h1) (by simpa using h2) hk
def start (N : List Str) (vs : List V) : St := vs.map some ++ List.replicate (N.length - vs.length) none
def cxOf (CX : CXT) (P : Program) (w : World) (K : PySem.W.Frag) (mg : Str → Option Value) (base : Heap) (N : List Str) (qual : Str) (scope : Scope) (f : Addr) (cd : Value) (A : Around) (outer : List Env) (s : Shared) (H : Hp) (E : XK) : Cx where
  prog := P
  w := w
  K := K
  mg := mg
  base := base
  A := A.deeper (envOfC qual scope s.heap.objs.size f cd)
  N := N
  s₀ := s
  H₀ := H
  env := envOfC qual scope s.heap.objs.size f cd
  outer := outer
  stack := envOfC qual scope s.heap.objs.size f cd :: outer
  ex := []
  calm := true
  fn := fun _ => true
  pn := []
  xe := fun e s' => wpAny (model P w) (A.deeper (envOfC qual scope s.heap.objs.size f cd)) («leaving» (envOfC qual scope s.heap.objs.size f cd) e) (fun _ s'' => CX outer H s E e s'') (fun e' s'' => CX outer H s E e' s'') s'
theorem cell_has {sc : Scope} {n : Nat} {x : Str} (h : sc.names.lookup x = some .cell) : ∃ c, (cellsFrom n sc.names []).lookup x = some c := by
  have q := PySem.W.cellsFrom_some sc.names n [] (.inl h)
  exact Option.isSome_iff_exists.mp q
theorem inv_start {CX : CXT} {P : Program} {w : World} {K : PySem.W.Frag} {mg : Str → Option Value} {base : Heap} {N ps : List Str} {qual : Str} {scope : Scope} {f : Addr} {cd : Value} {A : Around} {outer : List Env} {s s1 : Shared} {H : Hp} {E : XK} {us : List Value} {vs : List V}
    (S : FnScope N ps scope) (hd : A.handled = none) (e0 : Env0 P w K mg base A outer s H) (hl : vs.length = ps.length) (r : Vals vs us)
    (x : InCallC s s.heap.objs.size (bindL (envOfC qual scope s.heap.objs.size f cd).kindOf (ps.zip us) fun _ => none) (cellsFrom (s.heap.objs.size + 1) scope.names []) (bindC (envOfC qual scope s.heap.objs.size f cd).kindOf (ps.zip us) fun _ => none) s1) :
    Inv (cxOf CX P w K mg base N qual scope f cd A outer s H E) [] (start N vs) H s1 := by
  have hpl : ps.length ≤ N.length := by have := congrArg List.length S.pre; rw [List.length_take] at this; omega
  obtain ⟨h1, tk, rfl, hk⟩ := x.done
  have noA : ∀ b : Addr, b ∉ (cxOf CX P w K mg base N qual scope f cd A outer s H E).ex := fun b z => absurd (show b ∈ ([] : List Addr) from z) (by simp)
  refine ⟨⟨e0.mod, S.kind, rfl, rfl, Nat.le_refl _, fun y z c h1 h2 => ?_, fun y hy => ?_, fun y c _ h => ?_, fun _ => hd, Around.frames_deeper e0.frames, .inr ⟨rfl, rfl⟩, fun b z => absurd z (noA b), e0.bs, e0.bsz, fun b _ _ => noA b, fun b z => absurd z (noA b), e0.funs, e0.frf⟩,
    rfl, e0.bare, Un.kept hk, ⟨_, x.toInCall.ns, fun i y v h1 h2 h3 => ?_⟩, fun y c h => ⟨_, x.cell y c h⟩, e0.hok.fresh (Nat.le_refl _), fun y c h => ?_, fun p hp => absurd (show p ∈ ([] : List (Addr × Obj)) from hp) (by simp), e0.hok.kept hk, ?_⟩
  · exact name_of_addr x.apart (PySem.mem_of_lookup h1) (PySem.mem_of_lookup h2)
  · have hy : scope.names.lookup y = some .cell ∨ scope.names.lookup y = some .free := hy
    rcases hy with hy | hy
    · exact cell_has hy
    · exact absurd rfl (S.nofree _ (PySem.mem_of_lookup hy))
  · exact Nat.le_of_lt (x.above y c (PySem.mem_of_lookup h))
  · have hi : i < vs.length := by
      unfold start at h2
      by_cases hi : i < vs.length
      · exact hi
      · rw [List.getElem?_append_right (by simpa using hi)] at h2
        rw [List.getElem?_replicate] at h2
        split at h2 <;> cases h2
    have ha : vs[i]? = some v := by
      unfold start at h2
      rw [List.getElem?_append_left (by simpa using hi), List.getElem?_map] at h2
      cases e : vs[i]? with
      | none => rw [e] at h2; cases h2
      | some a => rw [e] at h2; cases h2; rfl
    obtain ⟨u, hu, rv⟩ := r.get ha
    have hp : ps[i]? = some y := by
      rw [← S.pre, List.getElem?_take_of_lt (by omega)]; exact h1
    have ndP : ps.Nodup := by rw [← S.pre]; exact S.nd.sublist (List.take_sublist _ _)
    refine ⟨u, rv, ?_⟩
    rcases S.par y (List.mem_of_getElem? hp) with k | k
    · exact .inl ⟨k, bindL_get ndP hp hu k⟩
    · obtain ⟨c, e⟩ := cell_has (n := s.heap.objs.size + 1) k
      refine .inr ⟨.inl k, c, e, ?_⟩
      have q := x.cell y c e
      rw [bindC_get ndP hp hu (by show scope.names.lookup y ≠ _; rw [k]; decide)] at q
      exact q
  · exact e0.hok.fresh (Nat.le_of_lt (x.above y c (PySem.mem_of_lookup h)))
  · unfold start
    show _ = N.length
    rw [List.length_append, List.length_map, List.length_replicate]
    omega
theorem fn_of {CX : CXT} {P : Program} {w : World} {K : PySem.W.Frag} {mg : Str → Option Value} {base : Heap} {k : Nat} {f : Addr} {name qual : Str} {params : Arguments} {body : List Stmt} {scope : Scope} {dV kV doc pm cdv ct oc : Value} {an od : Option Addr}
    {osl : Array (Option Value)} {N ps : List Str} {sp : Sp} (lk : K.lookup f = some ⟨oc, od, .func (PySem.W.fnOf name qual params body scope dV kV doc pm an cdv ct), osl⟩) (hcd : PySem.W.codeIn K cdv qual = true) (S : FnScope N ps scope)
    (len : ∀ vs H Q E, sp vs H Q E → vs.length = ps.length)
    (hbody : ∀ (A : Around) (outer : List Env) (s : Shared) (H : Hp) (vs : List V) (Q : VK) (E : XK), Room k (A.deeper (envOfC qual scope s.heap.objs.size f cdv)) → sp vs H Q E →
      ∃ t, PSs (cxOf CX P w K mg base N qual scope f cdv A outer s H E) body t ∧ t { nx := fun _ H' => Q .non H', rt := Q } (start N vs) H) :
    FnOk P w K mg base CX (k + 1) f (PySem.W.fnOf name qual params body scope dV kV doc pm an cdv ct) ps sp := by
  refine ⟨len, fun A outer s H args us vs Q E hr e0 hb r hsp => ?_⟩
  have hl := len _ _ _ _ hsp
  have KX : K.In s.heap := e0.mod.kin.keeps fun b o e => (e0.bs b o e).1
  have lim : s.heap.NoLimit := e0.mod.nolimit.keeps fun b o e => (e0.bs b o e).1
  have hkind : ∀ y ∈ ps.zip us, scope.names.lookup y.1 = some .local ∨ (scope.names.lookup y.1 = some .cell ∧ ((cellsFrom (s.heap.objs.size + 1) scope.names []).lookup y.1).isSome = true) := fun ⟨n, v⟩ hy => by
    rcases S.par n (List.of_mem_zip hy).1 with q | q
    · exact .inl q
    · exact .inr ⟨q, PySem.W.cellsFrom_some _ _ _ (.inl q)⟩
  refine codeAny_call_function hr.depth (KX _ _ lk) rfl S.co S.gen rfl (PySem.W.codeRec_of KX hcd) (hb _ _ _ _ ?_)
  refine wpAny_newFunctionEnv_cells S.kind hkind fun env he s1 x => ?_
  subst he
  refine ⟨lim.keeps x.toInCall.keep, codeAny_func ?_⟩
  obtain ⟨t, ht, hq⟩ := hbody A outer s H vs Q E (hr.deeper _) hsp
  have I : Inv (cxOf CX P w K mg base N qual scope f cdv A outer s H E) [] (start N vs) H s1 := inv_start S hr.hd e0 hl r x
  refine wpAny_mono (ht [] s1 (start N vs) H _ I hq) (fun fl s' hs => ?_) fun e s' hs => hs
  have fin : ∀ {σ' : St} {H' : Hp} {v : V} {u : Value}, Inv (cxOf CX P w K mg base N qual scope f cdv A outer s H E) [] σ' H' s' → RelV v u → Q v H' → CE outer P w H s Q u s' :=
    fun {σ' H' v u} J rv q => ⟨v, H', J.os, J.bare, J.base, J.hok, rv, q⟩
  cases fl with
  | ret u =>
    obtain ⟨v, σ', H', J, rv, q⟩ := hs
    exact fin J rv q
  | next =>
    obtain ⟨σ', H', J, q⟩ := hs
    exact fin (v := V.non) (u := Value.none) J rfl q
  | brk =>
    obtain ⟨_, _, _, q⟩ := hs
    exact False.elim q
  | cont =>
    obtain ⟨_, _, _, q⟩ := hs
    exact False.elim q
end L2
namespace L2
open PySem PySem.Spec PyProof.Rows
section
variable {X : Cx} {x : Str} {p pos : Pos} {e : Expr} {es : List Expr} {t : TA} {id T : String} {r : List V → Hp → VK → Prop}
def tCB (r : List V → Hp → VK → Prop) (t : TA) : TE := fun σ H Q => t σ H fun vs H1 => r vs H1 Q
theorem pe_callB (hc : CallR X (.builtin id) r) (hg : Gl X x) (hm : X.mg x = none) (hv : bootBuiltins x = some (.builtin id)) (ha : PA X (e :: es) t) (hn : x ≠ "__name__" := by decide) (hdb : (x == ("__debug__" : Str)) = false := by decide)
    (he : starEach (e :: es) X.env = (false, eval e X.env) :: starEach es X.env := by rfl) (hpl : (backTo pos (starEach es X.env)).any (·.1) = false := by rfl) : PE X (.Call (.Name x p) (e :: es) [] pos) (tCB r t) := by
  intro pins s σ H Q I h
  refine wpAny_Call_Name_kw (ld_blt I hg hm hv ?_ hn hdb)
  exact PyProof.Rows.callWith_builtin1 (thn (ha pos pins s σ H _ I h) fun us s1 ⟨vs, H1, I1, r1, q1⟩ => hc pins s1 σ H1 vs us Q I1 r1 q1) he hpl
theorem pe_callTy (hc : CallR X (.type T) r) (hg : Gl X x) (hm : X.mg x = none) (hv : bootBuiltins x = some (.type T)) (ha : PA X (e :: es) t) (hn : x ≠ "__name__" := by decide) (hdb : (x == ("__debug__" : Str)) = false := by decide)
    (he : starEach (e :: es) X.env = (false, eval e X.env) :: starEach es X.env := by rfl) (hpl : (backTo pos (starEach es X.env)).any (·.1) = false := by rfl) : PE X (.Call (.Name x p) (e :: es) [] pos) (tCB r t) := by
  intro pins s σ H Q I h
  refine wpAny_Call_Name_kw (ld_blt I hg hm hv ?_ hn hdb)
  exact PyProof.Rows.callWith_type1 (thn (ha pos pins s σ H _ I h) fun us s1 ⟨vs, H1, I1, r1, q1⟩ => hc pins s1 σ H1 vs us Q I1 r1 q1) he hpl
end
end L2
namespace HT
open PySem PyProof.Rows
def lexLt : List Int → List Int → Bool
  | [], [] => false
  | [], _ :: _ => true
  | _ :: _, [] => false
  | x :: xs, y :: ys => if x = y then lexLt xs ys else decide (x < y)
section
open PySem.SeqAt
open PySem.AutoSeq1 (wpAny_loadPart')
open PySem.MeetsSeq PySem.MeetsSeq2 PySem.MeetsSeq3
end
section
variable {prog : Program} {w : World} {A : Around} {E : Value → Shared → Prop} {s : Shared}
theorem cat_tup {t b : Addr} {vs ws : List Value} {Q : Value → Shared → Prop} (ht : IsTup s.heap t vs.toArray) (hb : IsTup s.heap b ws.toArray) (hv : vs ≠ [])
    (h1 : ws = [] → Q (.ref t) s) (h2 : ws ≠ [] → Q (.ref s.heap.objs.size) { s with heap := s.heap.push { cls := .type "tuple", data := .seq (vs ++ ws).toArray } })
    (hsz : vs.length + ws.length ≤ sizeLine) : wpAny (model prog w) A (binaryOp .Add (.ref t) (.ref b)) Q E s := by
  obtain ⟨⟨cls, dd, data, sl⟩, ho, hc, n, hd⟩ := id ht
  obtain ⟨⟨cls2, dd2, data2, sl2⟩, ho2, hc2, n2, hd2⟩ := id hb
  simp only at hc hd hc2 hd2
  subst hc hd hc2 hd2
  have e : vs.toArray ++ ws.toArray = (vs ++ ws).toArray := by simp
  by_cases hw : ws = []
  · exact concat_meets ⟨_, ho, rfl⟩ ⟨_, ho2, rfl⟩ noFill_tuple_add seq_tuple_add PySem.F.slot_tuple_add PySem.F.entry_tuple_add (PySem.F.args_tuple_add_2 _ _)
      (tuple_addW1 t b vs.toArray ws.toArray n n2 dd dd2 sl sl2 (by simpa using hv) (by simp [hw])) ⟨ho, ho2, h1 hw⟩
  · refine concat_meets ⟨_, ho, rfl⟩ ⟨_, ho2, rfl⟩ noFill_tuple_add seq_tuple_add PySem.F.slot_tuple_add PySem.F.entry_tuple_add (PySem.F.args_tuple_add_2 _ _)
      (tuple_addW2 t b vs.toArray ws.toArray n n2 dd dd2 sl sl2 (by simpa using hv) (by simpa using hw) (by rw [List.size_toArray, List.size_toArray]; exact hsz)) ⟨ho, ho2, ?_⟩
    rw [e]
    exact h2 hw
def sIx (n d : Nat) : Option Int → Nat
  | none => d
  | some v => if v < 0 then (v + (n : Int)).toNat else min v.toNat n
theorem sIx_le (n d : Nat) (hd : d ≤ n) (o : Option Int) : sIx n d o ≤ n := by
  cases o with
  | none => exact hd
  | some v =>
    show (if v < 0 then (v + (n : Int)).toNat else min v.toNat n) ≤ n
    by_cases hv : v < 0
    · rw [if_pos hv]; omega
    · rw [if_neg hv]; exact Nat.min_le_right _ _
theorem clip_eq (v : Int) (n d : Nat) : (if v < 0 then max (v + (n : Int)) 0 else min v (n : Int)) = ((sIx n d (some v) : Nat) : Int) := by
  show (if v < 0 then max (v + (n : Int)) 0 else min v (n : Int)) = (((if v < 0 then (v + (n : Int)).toNat else min v.toNat n) : Nat) : Int)
  by_cases hv : v < 0
  · simp only [if_pos hv]; omega
  · simp only [if_neg hv]; omega
theorem adjust_gen (lo hi : Option Int) (n : Nat) : Builtin.Slice.sliceAdjust lo hi 1 (n : Int) = (((sIx n 0 lo : Nat) : Int), ((sIx n n hi : Nat) : Int)) := by
  have h1 : ¬ ((1 : Int) < 0) := by omega
  unfold Builtin.Slice.sliceAdjust
  simp only [h1, if_false]
  refine Prod.ext ?_ ?_
  · cases lo with
    | none => rfl
    | some v => exact clip_eq v n 0
  · cases hi with
    | none => rfl
    | some v => exact clip_eq v n n
theorem places_gen (i j : Nat) : Builtin.Slice.slicePlaces (i : Int) (j : Int) 1 = j - i := by
  unfold Builtin.Slice.slicePlaces
  have h1 : (1 : Int) > 0 := by omega
  simp only [h1, if_true, Int.ediv_one]
  split <;> omega
theorem slicePart_ {v : Value} {o : Option Int} {Q : Option Int → Shared → Prop} (p : IsPart v o) (h : Q o s) : wpAny (model prog w) A (Builtin.Slice.slicePartIndex v) Q E s := by
  cases p with
  | none => exact slicePart_none h
  | int i t => exact slicePart_int h
theorem sliceApplied_gen {sl : Addr} {vl vu : Value} {lo hi : Option Int} {n : Nat} {Q : Int × Int × Nat → Shared → Prop} (hs : s.heap.IsSliceOf sl vl vu .none) (pl : IsPart vl lo) (pu : IsPart vu hi)
    (h : Q (((sIx n 0 lo : Nat) : Int), 1, sIx n n hi - sIx n 0 lo) s) : wpAny (model prog w) A (Builtin.Slice.sliceApplied (.ref sl) (pure (n : Int))) Q E s := by
  obtain ⟨os, hos, hcs, hds⟩ := id hs
  unfold Builtin.Slice.sliceApplied Builtin.Slice.sliceFields
  refine wpAny_bind (wpAny_bind (wpAny_field hos hds (x := vl) rfl (wpAny_bind (wpAny_field hos hds (x := vu) rfl (wpAny_bind (wpAny_field hos hds (x := .none) rfl (wpAny_pure ?_)))))))
  refine wpAny_bind (slicePart_none ?_)
  show wpAny _ _ (if ((1 : Int) == 0) = true then _ else _) _ _ s
  rw [if_neg (by decide)]
  refine wpAny_bind (slicePart_ pl (wpAny_bind (slicePart_ pu (wpAny_bind (wpAny_pure ?_)))))
  show wpAny _ _ (match Builtin.Slice.sliceAdjust lo hi 1 (n : Int) with | (lo, hi) => pure (lo, (1 : Int), Builtin.Slice.slicePlaces lo hi 1)) _ _ s
  rw [adjust_gen lo hi n]
  show wpAny _ _ (pure (((sIx n 0 lo : Nat) : Int), (1 : Int), Builtin.Slice.slicePlaces ((sIx n 0 lo : Nat) : Int) ((sIx n n hi : Nat) : Int) 1)) _ _ s
  rw [places_gen]
  exact wpAny_pure h
theorem pick_gen (xs : Array Value) (i k : Nat) : ((List.range k).filterMap fun (m : Nat) => xs[((i : Int) + (m : Int) * 1).toNat]?).toArray = ((xs.toList.drop i).take k).toArray := by
  have e : (fun (m : Nat) => xs[((i : Int) + (m : Int) * 1).toNat]?) = fun m => xs[i + m]? := by
    funext m
    have : ((i : Int) + (m : Int) * 1).toNat = i + m := by omega
    rw [this]
  rw [e]
  have := pick_run xs i k
  rw [List.filterMap_map] at this
  have e2 : ((fun x => xs[x]?) ∘ fun x => i + x) = fun m => xs[i + m]? := rfl
  rw [e2] at this
  rw [this]
theorem getItem_tuple_cut {t sl : Addr} {items : Array Value} {vl vu : Value} {lo hi : Option Int} {Q : Value → Shared → Prop} (ht : IsTup s.heap t items) (hs : s.heap.IsSliceOf sl vl vu .none) (pl : IsPart vl lo) (pu : IsPart vu hi)
    (hw : ¬ (sIx items.size 0 lo = 0 ∧ sIx items.size items.size hi = items.size))
    (h : Q (.ref s.heap.objs.size) { s with heap := s.heap.push { cls := .type "tuple", data := .seq ((items.toList.drop (sIx items.size 0 lo)).take (sIx items.size items.size hi - sIx items.size 0 lo)).toArray } })
    (hsz : items.size ≤ sizeLine) : wpAny (model prog w) A (getItem (.ref t) (.ref sl)) Q E s := by
  have htake : sizeOk (.seq ((items.toList.drop (sIx items.size 0 lo)).take (sIx items.size items.size hi - sIx items.size 0 lo)).toArray) := by
    show ((items.toList.drop (sIx items.size 0 lo)).take (sIx items.size items.size hi - sIx items.size 0 lo)).toArray.size ≤ sizeLine
    rw [List.size_toArray, List.length_take, List.length_drop, Array.length_toList]
    omega
  have hj : sIx items.size items.size hi ≤ items.size := sIx_le _ _ (Nat.le_refl _) hi
  obtain ⟨os, hos, hcs, hds⟩ := id hs
  have hTs : s.TypeIs (.ref sl) "slice" := ⟨os, hos, hcs⟩
  unfold getItem
  try with_reducible refine wpAny_holding ?_
  first | refine wpAny_bind (wpAny_pure ?_) | skip
  refine wpAny_bind (wpAny_sequenceKey ht.typeIs (by decide) ?_)
  refine wpAny_bind (wpAny_callSpecial?_slot (name := Str.ofString "__getitem__") ht.typeIs PyProof.Rows.slot_tuple_getitem
    (wpAny_call_entry PyProof.Rows.slot_tuple_getitem ht.typeIs entry_tuple_getitem ?_ (args_tuple_getitem _ _)))
  show wpAny _ _ (Builtin.Tuple.tupleItemsOf (.ref t) >>= _) _ _ s
  refine wpAny_bind (tupleItemsOf_ ht ?_)
  refine wpAny_bind (wpAny_typeOf hTs ?_)
  rw [if_pos (by decide)]
  refine wpAny_bind (sliceApplied_gen hs pl pu ?_)
  have hno : ¬ ((((sIx items.size 0 lo : Nat) : Int) == 0 && (1 : Int) == 1 && (sIx items.size items.size hi - sIx items.size 0 lo) == items.size) = true) := by
    intro q
    rw [Bool.and_eq_true, Bool.and_eq_true] at q
    have q1 : ((sIx items.size 0 lo : Nat) : Int) = 0 := eq_of_beq q.1.1
    have q2 : sIx items.size items.size hi - sIx items.size 0 lo = items.size := eq_of_beq q.2
    exact hw ⟨by omega, by omega⟩
  show wpAny _ _ (if (((sIx items.size 0 lo : Nat) : Int) == 0 && (1 : Int) == 1 && (sIx items.size items.size hi - sIx items.size 0 lo) == items.size) = true then _ else _) _ _ s
  rw [if_neg hno, pick_gen]
  first
    | exact wpAny_bind (m := Builtin.Tuple.tupleExact _) (wpAny_newObj_type (wpAny_pure ⟨_, rfl, wpAny_pure h⟩) htake)
    | exact wpAny_bind (m := Builtin.Tuple.tupleExact _) (wpAny_newObj_type (wpAny_bind (wpAny_pure (wpAny_pure ⟨_, rfl, wpAny_pure h⟩))) htake)
    | exact wpAny_bind (wpAny_bind (m := Builtin.Tuple.tupleExact _) (wpAny_newObj_type (wpAny_pure (wpAny_pure ⟨_, rfl, wpAny_pure h⟩)) htake))
    | exact wpAny_bind (wpAny_bind (m := Builtin.Tuple.tupleExact _) (wpAny_newObj_type (wpAny_pure ⟨_, rfl, wpAny_pure h⟩) htake))
end
end HT
namespace L2
open PySem PySem.Spec PyProof.Rows
abbrev TO := St → Hp → (Option Int → Hp → Prop) → Prop
def PO (X : Cx) (e : Option Expr) (t : TO) : Prop :=
  ∀ (pins : List (Addr × Obj)) (s : Shared) (σ : St) (H : Hp) (Q : Option Int → Hp → Prop), Inv X pins σ H s → t σ H Q →
    wpAny (model X.prog X.w) X.A (evalPart e X.env) (fun u s' => ∃ o H', Inv X pins σ H' s' ∧ IsPart u o ∧ Q o H') X.xe s
def tNoPart : TO := fun _ H Q => Q none H
def tPart (t : TE) : TO := fun σ H Q => t σ H fun x H1 => ∃ i, x = .int i ∧ Q (some i) H1
theorem intsAre_of {ns : List Int} : ∀ {us : List Value}, Vals (ns.map V.int) us → IntsAre us ns := by
  induction ns with
  | nil => intro us r; rw [List.map_nil] at r; cases r; exact .nil
  | cons n ns ih =>
    intro us r
    rw [List.map_cons] at r
    cases r with
    | cons r1 r2 =>
      obtain ⟨t, e⟩ := r1
      subst e
      exact .cons n t (ih r2)
section
variable {X : Cx} {e : Expr} {te : TE} {lo hi : Option Expr} {tl th : TO} {pos p2 : Pos}
theorem po_none : PO X none tNoPart := by
  intro pins s σ H Q I h
  rw [evalPart_none]
  exact wpAny_pure ⟨none, H, I, .none, h⟩
theorem po_some (h : PE X e te) : PO X (some e) (tPart te) := by
  intro pins s σ H Q I hw
  rw [evalPart_some]
  refine thn (h pins s σ H _ I hw) fun u s1 ⟨x, H1, I1, r1, q1⟩ => ?_
  obtain ⟨i, rfl, q⟩ := q1
  obtain ⟨t, rfl⟩ := r1
  exact ⟨some i, H1, I1, .int i t, q⟩
def SlR (X : Cx) (r : V → Option Int → Option Int → Hp → VK → Prop) : Prop :=
  ∀ (pins : List (Addr × Obj)) (s : Shared) (σ : St) (H : Hp) (x : V) (v vl vu : Value) (lo hi : Option Int) (sl : Addr) (Q : VK), Inv X pins σ H s → RelV x v → s.heap.IsSliceOf sl vl vu .none → IsPart vl lo → IsPart vu hi → r x lo hi H Q →
    ∃ T id, typeLookup (.type T) "__getitem__" = pure (some (.builtin id)) ∧ s.TypeIs v T ∧ wpAny (model X.prog X.w) X.A (getItem v (.ref sl)) (EP X pins σ Q) X.xe s
theorem SlR.or {r r' : V → Option Int → Option Int → Hp → VK → Prop} (h : SlR X r) (h' : SlR X r') : SlR X (fun x lo hi H Q => r x lo hi H Q ∨ r' x lo hi H Q) := by
  intro pins s σ H x v vl vu lo hi sl Q I rx hs pl pu q
  rcases q with q | q
  · exact h pins s σ H x v vl vu lo hi sl Q I rx hs pl pu q
  · exact h' pins s σ H x v vl vu lo hi sl Q I rx hs pl pu q
def tSl (r : V → Option Int → Option Int → Hp → VK → Prop) (te : TE) (tl th : TO) : TE := fun σ H Q => te σ H fun x H1 => tl σ H1 fun l H2 => th σ H2 fun u H3 => r x l u H3 Q
theorem pe_slice {r : V → Option Int → Option Int → Hp → VK → Prop} (hr : SlR X r) (he : PE X e te) (hl : PO X lo tl) (hu : PO X hi th) : PE X (.Subscript e (.Slice lo hi none p2) pos) (tSl r te tl th) := by
  intro pins s σ H Q I h
  refine Subscript_ (thn (he pins s σ H _ I h) fun v s1 ⟨x, H1, I1, r1, q1⟩ => ?_)
  refine wpAny_Slice (thn (hl pins s1 σ H1 _ I1 q1) fun vl s2 ⟨l, H2, I2, pl, q2⟩ => thn (hu pins s2 σ H2 _ I2 q2) fun vu s3 ⟨u, H3, I3, pu, q3⟩ => ?_)
  rw [evalPart_none]
  refine wpAny_pure ?_
  have I4 : Inv X pins σ H3 { s3 with heap := s3.heap.push { cls := .type "slice", data := .fields #[vl, vu, .none] } } := I3.kept (t' := s3.toks) fun b ob q => Heap.get?_push_of_some _ q
  obtain ⟨T, id, hT, ht, hg⟩ := hr pins { s3 with heap := s3.heap.push { cls := .type "slice", data := .fields #[vl, vu, .none] } } σ H3 x v vl vu l u s3.heap.objs.size Q I4 r1 (Heap.IsSliceOf.new ..) pl pu q3
  show wpAny (model X.prog X.w) X.A (subscriptTail e (.Slice lo hi none p2) v (.ref s3.heap.objs.size)) (EP X pins σ Q) X.xe { s3 with heap := s3.heap.push { cls := .type "slice", data := .fields #[vl, vu, .none] } }
  exact tail_any (ops := [.ref s3.heap.objs.size, v]) ht hT hg (by with_unfolding_all rfl)
def cutV (xs : List V) (lo hi : Option Int) : List V := (xs.drop (HT.sIx xs.length 0 lo)).take (HT.sIx xs.length xs.length hi - HT.sIx xs.length 0 lo)
theorem cutV_length (xs : List V) (lo hi : Option Int) : (cutV xs lo hi).length ≤ xs.length := by
  unfold cutV
  rw [List.length_take, List.length_drop]
  omega
def rSlT (K : PySem.W.Frag) : V → Option Int → Option Int → Hp → VK → Prop := fun x lo hi H Q => ∃ a xs, x = .ref a ∧ SqT K H a xs ∧
  ¬ (HT.sIx xs.length 0 lo = 0 ∧ HT.sIx xs.length xs.length hi = xs.length) ∧ ∀ p, H p = none → Q (.ref p) (upd H p (.tup (cutV xs lo hi)))
theorem sl_tup : SlR X (rSlT X.K) := by
  intro pins s σ H x v vl vu lo hi sl Q I rx hs pl pu h
  obtain ⟨a, xs, rfl, hx, hw, q⟩ := h
  cases rx
  obtain ⟨its, r, ht, hz⟩ := I.tuple hx
  have hlen : its.toArray.size = xs.length := by rw [List.size_toArray]; exact r.length.symm
  refine ⟨"tuple", _, PyProof.Rows.slot_tuple_getitem.lookup, ht.typeIs, ?_⟩
  refine HT.getItem_tuple_cut ht hs pl pu (by rw [hlen]; exact hw) ?_ (by rw [hlen]; exact hz)
  rw [hlen]
  refine ⟨.ref s.heap.objs.size, _, I.laid (t' := s.toks) (o := .tup (cutV xs lo hi)) (fun b ob q => Heap.get?_push_of_some _ q) (Nat.le_refl _) ?_, rfl, q _ (I.hok.fresh (Nat.le_refl _))⟩
  exact ⟨Nat.le_trans (cutV_length xs lo hi) hz, _, (r.drop (HT.sIx xs.length 0 lo)).take (HT.sIx xs.length xs.length hi - HT.sIx xs.length 0 lo), IsTupN.new _ _⟩
def rLtT (K : PySem.W.Frag) : R2 := fun x y H Q => ∃ a b ns ms, x = .ref a ∧ y = .ref b ∧ SqT K H a (ns.map V.int) ∧ SqT K H b (ms.map V.int) ∧ Q (.bl (HT.lexLt ns ms)) H
def rCatT (K : PySem.W.Frag) : R2 := fun x y H Q => ∃ a b xs ys, x = .ref a ∧ y = .ref b ∧ SqT K H a xs ∧ SqT K H b ys ∧ xs ≠ [] ∧ xs.length + ys.length ≤ sizeLine ∧
  (ys = [] → Q (.ref a) H) ∧ (ys ≠ [] → ∀ p, H p = none → Q (.ref p) (upd H p (.tup (xs ++ ys))))
theorem Vals.nil_iff {xs : List V} {us : List Value} (r : Vals xs us) : us = [] ↔ xs = [] := by
  cases r with
  | nil => simp
  | cons _ _ => simp
theorem op_catT : OpR X (binaryOp .Add) (rCatT X.K) := by
  intro pins s σ H x y v u Q I rx ry h
  obtain ⟨a, b, xs, ys, rfl, rfl, ha, hb, hx, hz, q1, q2⟩ := h
  cases rx
  cases ry
  obtain ⟨its, r1, p1, _⟩ := I.tuple ha
  obtain ⟨its2, r2, p2, _⟩ := I.tuple hb
  refine HT.cat_tup p1 p2 (fun z => hx (r1.nil_iff.mp z)) (fun z => ⟨.ref a, H, I, rfl, q1 (r2.nil_iff.mp z)⟩) (fun z => ?_) (by rw [← r1.length, ← r2.length]; exact hz)
  refine ⟨.ref s.heap.objs.size, _, I.laid (t' := s.toks) (o := .tup (xs ++ ys)) (fun b ob q => Heap.get?_push_of_some _ q) (Nat.le_refl _) ?_, rfl, q2 (fun w => z (r2.nil_iff.mpr w)) _ (I.hok.fresh (Nat.le_refl _))⟩
  exact ⟨by rw [List.length_append]; exact hz, _, r1.append r2, IsTupN.new _ _⟩
end
end L2
namespace L2
open PySem PySem.Spec PyProof.Rows
def ixN (n : Nat) (i : Int) : Option Nat := if 0 ≤ i then (if i < n then some i.toNat else none) else if -(n : Int) ≤ i then some (i + n).toNat else none
def atI {α : Type} (xs : List α) (i : Int) : Option α := (ixN xs.length i).bind fun j => xs[j]?
theorem ixN_seq {n : Nat} {i : Int} {j : Nat} (h : ixN n i = some j) : seqIndex? i n = some j ∧ j < n ∧ -(n : Int) ≤ i ∧ i < n := by
  unfold ixN at h
  by_cases h0 : 0 ≤ i
  · rw [if_pos h0] at h
    by_cases h1 : i < n
    · rw [if_pos h1] at h
      have e : i.toNat = j := Option.some.inj h
      exact ⟨by rw [seqIndex_of h0 h1, e], by omega, by omega, h1⟩
    · rw [if_neg h1] at h; cases h
  · rw [if_neg h0] at h
    by_cases h1 : -(n : Int) ≤ i
    · rw [if_pos h1] at h
      have e : (i + n).toNat = j := Option.some.inj h
      exact ⟨by rw [seqIndex_neg (by omega) h1, e], by omega, h1, by omega⟩
    · rw [if_neg h1] at h; cases h
theorem atI_get {α : Type} {xs : List α} {i : Int} {v : α} (h : atI xs i = some v) : ∃ j, seqIndex? i xs.length = some j ∧ xs[j]? = some v ∧ j < xs.length ∧ -(xs.length : Int) ≤ i ∧ i < xs.length := by
  unfold atI at h
  cases e : ixN xs.length i with
  | none => rw [e] at h; cases h
  | some j =>
    rw [e] at h
    obtain ⟨h1, h2, h3, h4⟩ := ixN_seq e
    exact ⟨j, h1, h, h2, h3, h4⟩
theorem atI_nat {α : Type} {xs : List α} {j : Nat} {v : α} (h : xs[j]? = some v) : atI xs (j : Int) = some v := by
  have hj : j < xs.length := (List.getElem?_eq_some_iff.mp h).1
  have e : ixN xs.length (j : Int) = some j := by
    unfold ixN
    rw [if_pos (by omega), if_pos (by omega)]; simp
  unfold atI; rw [e]; exact h
def PlainIx (b : Expr) : Prop := ∀ o i, subscripted b false o i = operate [o, i] (getItem o i)
def IxR (X : Cx) (r : R2) : Prop :=
  ∀ (value slice : Expr) (pins : List (Addr × Obj)) (s : Shared) (σ : St) (H : Hp) (x y : V) (v u : Value) (Q : VK), Inv X pins σ H s → RelV x v → RelV y u → r x y H Q →
    subscripted slice false v u = operate [v, u] (getItem v u) → wpAny (model X.prog X.w) X.A (subscriptTail value slice v u) (EP X pins σ Q) X.xe s
def MtR (X : Cx) (id : String) (r : V → List V → Hp → VK → Prop) : Prop :=
  ∀ (pins : List (Addr × Obj)) (s : Shared) (σ : St) (H : Hp) (x : V) (xs : List V) (v : Value) (us : List Value) (Q : VK), Inv X pins σ H s → RelV x v → Vals xs us → r x xs H Q →
    wpAny (model X.prog X.w) X.A (call (.builtin id) (v :: us)) (EP X pins σ Q) X.xe s
section
variable {X : Cx} {a b : Expr} {ta tb : TE} {pos : Pos}
theorem IxR.or {r r' : R2} (h : IxR X r) (h' : IxR X r') : IxR X (fun x y H Q => r x y H Q ∨ r' x y H Q) := by
  intro value slice pins s σ H x y v u Q I rx ry q hs
  rcases q with q | q
  · exact h value slice pins s σ H x y v u Q I rx ry q hs
  · exact h' value slice pins s σ H x y v u Q I rx ry q hs
theorem pe_ix {r : R2} (hr : IxR X r) (ha : PE X a ta) (hb : PE X b tb) (hs : PlainIx b) : PE X (.Subscript a b pos) (tOp r ta tb) := by
  intro pins s σ H Q I h
  exact Subscript_ (binT ha hb I h fun v u s2 x y H2 I2 rx ry q => hr a b pins s2 σ H2 x y v u Q I2 rx ry q (hs _ _))
def rIxL (K : PySem.W.Frag) : R2 := fun x y H Q => ∃ p xs i v, x = .ref p ∧ y = .int i ∧ SqL K H p xs ∧ atI xs i = some v ∧ Q v H
def rIxT (K : PySem.W.Frag) : R2 := fun x y H Q => ∃ p xs i v, x = .ref p ∧ y = .int i ∧ SqT K H p xs ∧ atI xs i = some v ∧ Q v H
def rIxS : R2 := fun x y H Q => ∃ z i c, x = .str z ∧ y = .int i ∧ z.length ≤ sizeLine ∧ atI z.cps.toList i = some c ∧ Q (.str ⟨#[c]⟩) H
theorem ix_list : IxR X (rIxL X.K) := by
  intro value slice pins s σ H x y v u Q I rx ry h hs
  obtain ⟨p, xs, i, z, rfl, rfl, hq, he, q⟩ := h
  cases rx
  obtain ⟨t, rfl⟩ := ry
  obtain ⟨its, r, pl, hz⟩ := I.list hq
  obtain ⟨j, h1, h2, h3, h4, h5⟩ := atI_get he
  obtain ⟨w, ew, rw'⟩ := r.get h2
  have hl := r.length
  have hn := line63
  have fin : EP X pins σ Q w s := ⟨z, H, I, rw', q⟩
  by_cases h0 : 0 ≤ i
  · have hj : i.toNat = j := by
      rw [seqIndex_of h0 h5] at h1
      exact Option.some.inj h1
    exact item_listR pl.isList h0 (by omega) (by rw [hj]; simpa using ew) fin hs
  · have hj : (i + (its.toArray.size : Int)).toNat = j := by
      rw [seqIndex_neg (by omega) h4] at h1
      rw [List.size_toArray, ← hl]
      exact Option.some.inj h1
    exact subscriptTail_builtinR (x := w) pl.isList.typeIs slot_list_getitem.lookup
      (wpAny_getItem_list_neg (Q := fun r s' => r = w ∧ EP X pins σ Q r s') pl.isList (by omega) (by rw [List.size_toArray] <;> omega) (by omega) (by rw [hj]; simpa using ew) ⟨rfl, fin⟩) hs
theorem ix_tup : IxR X (rIxT X.K) := by
  intro value slice pins s σ H x y v u Q I rx ry h hs
  obtain ⟨p, xs, i, z, rfl, rfl, hq, he, q⟩ := h
  cases rx
  obtain ⟨t, rfl⟩ := ry
  obtain ⟨its, r, pl, hz⟩ := I.tuple hq
  obtain ⟨j, h1, h2, h3, h4, h5⟩ := atI_get he
  obtain ⟨w, ew, rw'⟩ := r.get h2
  have hl := r.length
  have hn := line63
  have fin : EP X pins σ Q w s := ⟨z, H, I, rw', q⟩
  exact subscriptTail_builtinR (x := w) pl.typeIs slot_tuple_getitem.lookup
    (getItem_tuple (j := j) (Q := fun r s' => r = w ∧ EP X pins σ Q r s') pl (by omega) (by omega) (by rw [List.size_toArray, ← hl]; exact h1) (by simpa using ew) ⟨rfl, fin⟩) hs
theorem ix_str : IxR X rIxS := by
  intro value slice pins s σ H x y v u Q I rx ry h hs
  obtain ⟨z, i, c, rfl, rfl, hz, he, q⟩ := h
  obtain ⟨t, rfl⟩ := rx
  obtain ⟨t', rfl⟩ := ry
  obtain ⟨j, h1, h2, h3, h4, h5⟩ := atI_get he
  have hl : z.cps.toList.length = z.length := by simp [Str.length]
  rw [hl] at h1 h4 h5
  have hn := line63
  exact tail_any (typeIs_str s z t) slot_str_getitem.lookup (getItem_str (c := c) (by
    have e1 : decide (i < -(2 ^ 63 : Int)) = false := decide_eq_false (by omega)
    have e2 : decide (i ≥ 2 ^ 63) = false := decide_eq_false (by omega)
    rw [e1, e2, Bool.or_false]) (by rw [h1]; simpa using h2) ⟨.str ⟨#[c]⟩, H, I.tok _, ⟨_, rfl⟩, q⟩) hs
def rIx (K : PySem.W.Frag) : R2 := fun x y H Q => rIxL K x y H Q ∨ rIxT K x y H Q ∨ rIxS x y H Q
theorem ix_seq : IxR X (rIx X.K) := ix_list.or (ix_tup.or ix_str)
theorem mapSeq_set (its : List Value) (n j : Nat) (u : Value) : Obj.mapSeq (·.setIfInBounds j u) { cls := .type "list", data := .seq its.toArray n } = { cls := .type "list", data := .seq (its.set j u).toArray n } := by
  simp [Obj.mapSeq]
theorem Inv.lst {pins : List (Addr × Obj)} {σ : St} {H : Hp} {s : Shared} {p : Addr} {xs : List V} (I : Inv X pins σ H s) (h : H p = some (.lst xs)) :
    ∃ (its : List Value) (n : Nat), Vals xs its ∧ s.heap.get? p = some { cls := .type "list", data := .seq its.toArray n } ∧ xs.length ≤ sizeLine := by
  obtain ⟨z, its, n, r, e⟩ := I.hok p _ h
  exact ⟨its, n, r, e, z⟩
theorem Inv.lstUpd {pins : List (Addr × Obj)} {σ : St} {H : Hp} {s : Shared} {p : Addr} {xs ys : List V} {its its' : List Value} {n n' : Nat} {f : Obj → Obj} (I : Inv X pins σ H s) (h : H p = some (.lst xs))
    (ho : s.heap.get? p = some { cls := .type "list", data := .seq its.toArray n }) (hf : f { cls := .type "list", data := .seq its.toArray n } = { cls := .type "list", data := .seq its'.toArray n' }) (r : Vals ys its') (hz : ys.length ≤ sizeLine) (t : Nat) :
    Inv X pins σ (upd H p (.lst ys)) { s with heap := s.heap.update p f, toks := t } := by
  have e : (s.heap.update p f).get? p = some { cls := .type "list", data := .seq its'.toArray n' } := by
    rw [Heap.get?_update_self f ho (by rw [hf] <;> rfl), hf]
  refine I.write (x := p) (e := p) (by rw [h]; trivial) (.inl rfl) (fun b u hb q => (Heap.get?_update_other _ _ (Ne.symm hb)).trans q) ⟨_, e⟩ ?_
  exact ⟨hz, its', n', r, e⟩
def rSetL : V → V → V → Hp → (Hp → Prop) → Prop := fun o i v H Q => ∃ p xs k j, o = .ref p ∧ i = .int k ∧ H p = some (.lst xs) ∧ ixN xs.length k = some j ∧ Q (upd H p (.lst (xs.set j v)))
theorem set_list : PSet X rSetL := by
  intro pins s σ H o i v ov iv u Q I ro ri rv h
  obtain ⟨p, xs, k, j, rfl, rfl, hp, hj, q⟩ := h
  cases ro
  obtain ⟨t, rfl⟩ := ri
  obtain ⟨its, n, r, ho, hz⟩ := I.lst hp
  obtain ⟨h1, h2, h3, h4⟩ := ixN_seq hj
  have hl := r.length
  have hn := line63
  have I' : Inv X pins σ (upd H p (.lst (xs.set j v))) { s with heap := s.heap.update p (Obj.mapSeq (·.setIfInBounds j u)) } :=
    I.lstUpd hp ho (mapSeq_set its n j u) (r.set rv j) (by rw [List.length_set]; exact hz) s.toks
  by_cases h0 : 0 ≤ k
  · have hk : k.toNat = j := by
      rw [seqIndex_of h0 h4] at h1
      exact Option.some.inj h1
    exact PySem.W.ki_setAt ho h0 (by omega) (by rw [List.size_toArray, ← hl]; exact h4) (by rw [hk]; exact ⟨_, I', q⟩)
  · have hk : (k + (its.toArray.size : Int)).toNat = j := by
      rw [seqIndex_neg (by omega) h3] at h1
      rw [List.size_toArray, ← hl]
      exact Option.some.inj h1
    exact PySem.W.ki_setBack ho (by omega) (by rw [List.size_toArray, ← hl]; exact h3) (by omega) (by rw [hk]; exact ⟨_, I', q⟩)
theorem slice_bounds (lo hi : Option Int) (n : Nat) : (sliceBounds lo hi none n).1 = ((HT.sIx n 0 lo : Nat) : Int) ∧ (sliceBounds lo hi none n).2.1 = ((HT.sIx n n hi : Nat) : Int) ∧ (sliceBounds lo hi none n).2.2 = 1 := by
  refine ⟨?_, ?_, rfl⟩
  · cases lo with
    | none => simp [sliceBounds, HT.sIx]
    | some i =>
      simp only [sliceBounds, HT.sIx, Option.getD_none, show (1 : Int) > 0 by decide, if_true]
      by_cases h : i < 0
      · simp only [h, if_true] <;> omega
      · simp only [h, if_false] <;> omega
  · cases hi with
    | none => simp [sliceBounds, HT.sIx]
    | some i =>
      simp only [sliceBounds, HT.sIx, Option.getD_none, show (1 : Int) > 0 by decide, if_true]
      by_cases h : i < 0
      · simp only [h, if_true] <;> omega
      · simp only [h, if_false] <;> omega
theorem slicePick_cut (its : List Value) (lo hi : Option Int) : slicePick its.toArray lo hi none = ((its.drop (HT.sIx its.length 0 lo)).take (HT.sIx its.length its.length hi - HT.sIx its.length 0 lo)).toArray := by
  obtain ⟨h1, h2, h3⟩ := slice_bounds lo hi its.toArray.size
  unfold slicePick
  rw [h1, h2, h3]
  simp only [sliceRange_one, pick_run, List.size_toArray] <;> rfl
def rSlL (K : PySem.W.Frag) : V → Option Int → Option Int → Hp → VK → Prop := fun x lo hi H Q => ∃ a xs, x = .ref a ∧ SqL K H a xs ∧ ∀ p, H p = none → Q (.ref p) (upd H p (.lst (cutV xs lo hi)))
theorem sl_list : SlR X (rSlL X.K) := by
  intro pins s σ H x v vl vu lo hi sl Q I rx hs pl pu h
  obtain ⟨a, xs, rfl, hx, q⟩ := h
  cases rx
  obtain ⟨its, r, ht, hz⟩ := I.list hx
  have hlen := r.length
  refine ⟨"list", _, slot_list_getitem.lookup, ht.isList.typeIs, ?_⟩
  refine wpAny_getItem_list_slice ht.isList hs pl pu .none (by simp) ?_ (by rw [List.size_toArray] <;> omega)
  rw [slicePick_cut, ← hlen]
  refine ⟨.ref s.heap.objs.size, _, I.laid (t' := s.toks) (o := .lst (cutV xs lo hi)) (fun b ob q => Heap.get?_push_of_some _ q) (Nat.le_refl _) ?_, rfl, q _ (I.hok.fresh (Nat.le_refl _))⟩
  exact ⟨Nat.le_trans (cutV_length xs lo hi) hz, _, 0, (r.drop (HT.sIx xs.length 0 lo)).take (HT.sIx xs.length xs.length hi - HT.sIx xs.length 0 lo), Heap.get?_push_size _ rfl⟩
def flatV : V → Bool
  | .non => true
  | .bl _ => true
  | .int _ => true
  | .str _ => true
  | _ => false
def eqV : V → V → Bool
  | .non, .non => true
  | .bl a, .bl b => a == b
  | .bl a, .int b => (if a then 1 else 0) == b
  | .int a, .bl b => a == (if b then 1 else 0)
  | .int a, .int b => a == b
  | .str a, .str b => a == b
  | _, _ => false
theorem eqAt_V {A : Around} {s : Shared} {y x : V} {u v : Value} (ry : RelV y u) (rx : RelV x v) (fy : flatV y = true) (fx : flatV x = true) : SeqAt.EqAt A s u v (eqV y x) := by
  cases y with
  | non =>
    cases ry
    cases x with
    | non => cases rx; exact SeqAt.EqAt.same _
    | bl b => cases rx; exact SeqAt.EqAt.none_bool b
    | int b => obtain ⟨t, rfl⟩ := rx; exact SeqAt.EqAt.none_int b t
    | str b => obtain ⟨t, rfl⟩ := rx; exact SeqAt.EqAt.none_str b t
    | _ => exact absurd (show false = true from fx) Bool.false_ne_true
  | bl a =>
    cases ry
    cases x with
    | non => cases rx; exact SeqAt.EqAt.bool_none a
    | bl b => cases rx; exact SeqAt.EqAt.bool_bool a b
    | int b => obtain ⟨t, rfl⟩ := rx; exact SeqAt.EqAt.bool_int a b t
    | str b => obtain ⟨t, rfl⟩ := rx; exact SeqAt.EqAt.bool_str a b t
    | _ => exact absurd (show false = true from fx) Bool.false_ne_true
  | int a =>
    obtain ⟨t', rfl⟩ := ry
    cases x with
    | non => cases rx; exact SeqAt.EqAt.int_none a t'
    | bl b => cases rx; exact SeqAt.EqAt.int_bool a t' b
    | int b => obtain ⟨t, rfl⟩ := rx; exact SeqAt.EqAt.int_int a t' b t
    | str b => obtain ⟨t, rfl⟩ := rx; exact SeqAt.EqAt.int_str a t' b t
    | _ => exact absurd (show false = true from fx) Bool.false_ne_true
  | str a =>
    obtain ⟨t', rfl⟩ := ry
    cases x with
    | non => cases rx; exact SeqAt.EqAt.str_none a t'
    | bl b => cases rx; exact SeqAt.EqAt.str_bool a t' b
    | int b => obtain ⟨t, rfl⟩ := rx; exact SeqAt.EqAt.str_int a t' b t
    | str b => obtain ⟨t, rfl⟩ := rx; exact SeqAt.EqAt.str_str a t' b t
    | _ => exact absurd (show false = true from fx) Bool.false_ne_true
  | _ => exact absurd (show false = true from fy) Bool.false_ne_true
def eqU (x : V) (u : Value) : Bool := match u with
  | .none => eqV .non x
  | .bool b => eqV (.bl b) x
  | .int i _ => eqV (.int i) x
  | .str z _ => eqV (.str z) x
  | _ => false
theorem eqU_of {x y : V} {u : Value} (r : RelV y u) (f : flatV y = true) : eqU x u = eqV y x := by
  cases y with
  | non => cases r; rfl
  | bl b => cases r; rfl
  | int i => obtain ⟨t, rfl⟩ := r; rfl
  | str z => obtain ⟨t, rfl⟩ := r; rfl
  | _ => exact absurd (show false = true from f) Bool.false_ne_true
theorem any_eqU {x : V} : ∀ {xs : List V} {us : List Value}, Vals xs us → xs.all flatV = true → us.any (eqU x) = xs.any fun y => eqV y x
  | _, _, .nil, _ => rfl
  | y :: xs, u :: us, .cons r t, f => by
    rw [List.all_cons, Bool.and_eq_true] at f
    rw [List.any_cons, List.any_cons, eqU_of r f.1, any_eqU t f.2]
theorem mem_eqAt {A : Around} {s : Shared} {x : V} {v : Value} (rx : RelV x v) (fx : flatV x = true) : ∀ {xs : List V} {us : List Value}, Vals xs us → xs.all flatV = true → ∀ u ∈ us, SeqAt.EqAt A s u v (eqU x u)
  | _, _, .nil, _ => fun u hu => by cases hu
  | y :: xs, u :: us, .cons r t, f => fun u' hu => by
    rw [List.all_cons, Bool.and_eq_true] at f
    rcases List.mem_cons.mp hu with rfl | hu
    · rw [eqU_of r f.1]; exact eqAt_V r rx f.1 fx
    · exact mem_eqAt rx fx t f.2 u' hu
def inV (x : V) (xs : List V) : Bool := xs.any fun y => eqV y x
def rIn (K : PySem.W.Frag) (neg : Bool) : R2 := fun x y H Q => ∃ p xs, y = .ref p ∧ (SqL K H p xs ∨ SqT K H p xs) ∧ flatV x = true ∧ xs.all flatV = true ∧ Q (.bl (if neg then !inV x xs else inV x xs)) H
theorem op_in_seq : OpR X (compareOp .In) (rIn X.K false) := by
  intro pins s σ H x y v u Q I rx ry h
  obtain ⟨p, xs, rfl, hq, fx, fs, q⟩ := h
  cases ry
  rcases hq with hq | hq
  · obtain ⟨its, r, pl, hz⟩ := I.list hq
    refine SeqAt.in_listAt (eqU x) pl.isList (fun w hw => mem_eqAt rx fx r fs w (by simpa using hw)) ⟨.bl _, H, I, rfl, ?_⟩
    rw [show its.toArray.any (eqU x) = its.any (eqU x) by simp, any_eqU r fs]
    exact q
  · obtain ⟨its, r, pl, hz⟩ := I.tuple hq
    refine SeqAt.in_tupleAt (eqU x) pl (fun w hw => mem_eqAt rx fx r fs w (by simpa using hw)) ⟨.bl _, H, I, rfl, ?_⟩
    rw [show its.toArray.any (eqU x) = its.any (eqU x) by simp, any_eqU r fs]
    exact q
theorem op_notIn_seq : OpR X (compareOp .NotIn) (rIn X.K true) := by
  intro pins s σ H x y v u Q I rx ry h
  obtain ⟨p, xs, rfl, hq, fx, fs, q⟩ := h
  cases ry
  rcases hq with hq | hq
  · obtain ⟨its, r, pl, hz⟩ := I.list hq
    refine SeqAt.notIn_listAt (eqU x) pl.isList (fun w hw => mem_eqAt rx fx r fs w (by simpa using hw)) ⟨.bl _, H, I, rfl, ?_⟩
    rw [show its.toArray.any (eqU x) = its.any (eqU x) by simp, any_eqU r fs]
    exact q
  · obtain ⟨its, r, pl, hz⟩ := I.tuple hq
    refine SeqAt.notIn_tupleAt (eqU x) pl (fun w hw => mem_eqAt rx fx r fs w (by simpa using hw)) ⟨.bl _, H, I, rfl, ?_⟩
    rw [show its.toArray.any (eqU x) = its.any (eqU x) by simp, any_eqU r fs]
    exact q
theorem call_len_seq : CallR X (.builtin "len") (fun xs H Q => ∃ p ys, xs = [.ref p] ∧ (SqL X.K H p ys ∨ SqT X.K H p ys) ∧ Q (.int ys.length) H) := by
  intro pins s σ H xs us Q I r h
  obtain ⟨p, ys, rfl, hq, q⟩ := h
  obtain ⟨u, rfl, rx⟩ := vals1 r
  cases rx
  have hn := line63
  rcases hq with hq | hq
  · obtain ⟨its, r', pl, hz⟩ := I.list hq
    have hlen := r'.length
    exact Calls.call_len_list pl.isList (by simp only [List.size_toArray] <;> omega) ⟨.int ys.length, H, I.tok _, ⟨s.toks + 1, by rw [List.size_toArray, hlen]⟩, q⟩
  · obtain ⟨its, r', pl, hz⟩ := I.tuple hq
    have hlen := r'.length
    exact len_tuple pl (by simp only [List.size_toArray] <;> omega) ⟨.int ys.length, H, I.tok _, ⟨s.toks + 1, by rw [List.size_toArray, hlen]⟩, q⟩
theorem call_len_str : CallR X (.builtin "len") (fun xs H Q => ∃ z, xs = [.str z] ∧ z.length ≤ sizeLine ∧ Q (.int z.length) H) := by
  intro pins s σ H xs us Q I r h
  obtain ⟨z, rfl, hz, q⟩ := h
  obtain ⟨u, rfl, t, rfl⟩ := vals1 r
  have hn := line63
  exact len_str (by omega) ⟨.int z.length, H, I.tok _, ⟨_, rfl⟩, q⟩
theorem CallR.or {f : Value} {r r' : List V → Hp → VK → Prop} (h : CallR X f r) (h' : CallR X f r') : CallR X f (fun xs H Q => r xs H Q ∨ r' xs H Q) := by
  intro pins s σ H xs us Q I rs q
  rcases q with q | q
  · exact h pins s σ H xs us Q I rs q
  · exact h' pins s σ H xs us Q I rs q
theorem call_tuple_of : CallR X (.type "tuple") (fun xs H Q => ∃ p ys, xs = [.ref p] ∧ ((SqL X.K H p ys ∧ ∀ l, H l = none → Q (.ref l) (upd H l (.tup ys))) ∨ (SqT X.K H p ys ∧ Q (.ref p) H))) := by
  intro pins s σ H xs us Q I r h
  obtain ⟨p, ys, rfl, h⟩ := h
  obtain ⟨u, rfl, rx⟩ := vals1 r
  cases rx
  rcases h with ⟨hq, q⟩ | ⟨hq, q⟩
  · obtain ⟨its, r', pl, hz⟩ := I.list hq
    have hlen := r'.length
    refine call_tuple_list pl.isList (fun h' kp => ?_) (by simp only [List.size_toArray] <;> omega)
    have I1 : Inv X pins σ H { s with heap := h' } := I.kept (t' := s.toks) kp
    have I2 : Inv X pins σ (upd H h'.objs.size (.tup ys)) { s with heap := h'.push { cls := .type "tuple", data := .seq its.toArray } } :=
      I1.laid (t' := s.toks) (fun b o e => Heap.get?_push_of_some _ e) (Nat.le_refl _) (show ObjOk X.prog X.w _ _ _ (.tup ys) from ⟨hz, its, r', IsTupN.new _ _⟩)
    exact ⟨.ref h'.objs.size, _, I2, rfl, q _ (I1.hok.fresh (Nat.le_refl _))⟩
  · obtain ⟨its, r', pl, hz⟩ := I.tuple hq
    exact call_tuple_same pl ⟨.ref p, H, I, rfl, q⟩
def tyV (K : PySem.W.Frag) (T : String) (x : V) (H : Hp) : Prop := match x with
  | .str _ => T = "str"
  | .int _ => T = "int"
  | .ref p => (T = "list" ∧ ∃ xs, SqL K H p xs) ∨ (T = "tuple" ∧ ∃ o, K.lookup p = some o ∧ o.cls = .type "tuple" ∧ o.dict = none) ∨
      (T = "dict" ∧ ((∃ kvs, H p = some (.dK kvs)) ∨ ∃ kvs, H p = some (.dT kvs))) ∨ (T = "set" ∧ ∃ S n, H p = some (.set S n))
  | _ => False
theorem tyV_is {pins : List (Addr × Obj)} {σ : St} {H : Hp} {s : Shared} {T : String} {x : V} {v : Value} (I : Inv X pins σ H s) (r : RelV x v) (ty : tyV X.K T x H) :
    s.TypeIs v T ∧ ∀ a, v = .ref a → ∃ ob, s.heap.get? a = some ob ∧ ob.dict = none := by
  cases x with
  | str z =>
    obtain ⟨t, rfl⟩ := r
    cases (show T = "str" from ty)
    exact ⟨typeIs_str s z t, fun _ e => nomatch e⟩
  | int i =>
    obtain ⟨t, rfl⟩ := r
    cases (show T = "int" from ty)
    exact ⟨typeIs_int s i t, fun _ e => nomatch e⟩
  | ref p =>
    cases r
    rcases ty with ⟨rfl, xs, hq⟩ | ⟨rfl, o, hk, hc, hd⟩ | ⟨rfl, hk⟩ | ⟨rfl, S, n, hk⟩
    · obtain ⟨its, _, pl, _⟩ := I.list hq
      refine ⟨pl.isList.typeIs, fun a e => ?_⟩
      cases e
      obtain ⟨o, n, e, c, hd, _⟩ := pl
      exact ⟨o, e, hd⟩
    · refine ⟨⟨o, I.kIn p o hk, hc⟩, fun a e => ?_⟩
      cases e
      exact ⟨o, I.kIn _ o hk, hd⟩
    · have z : ∃ o, s.heap.get? p = some o ∧ o.ExactDict := by
        rcases hk with ⟨kvs, hk⟩ | ⟨kvs, hk⟩
        · obtain ⟨_, _, _, _, o, _, _, e, ex, _⟩ := I.hok p _ hk
          exact ⟨o, e, ex⟩
        · obtain ⟨_, _, _, _, o, _, _, e, ex, _⟩ := I.hok p _ hk
          exact ⟨o, e, ex⟩
      obtain ⟨o, e, ex⟩ := z
      refine ⟨⟨o, e, ex.1⟩, fun a e2 => ?_⟩
      cases e2
      exact ⟨o, e, ex.2.1⟩
    · obtain ⟨o, _, _, _, e, ex, _⟩ := I.hok p _ hk
      refine ⟨⟨o, e, ex.1⟩, fun a e2 => ?_⟩
      cases e2
      exact ⟨o, e, ex.2.1⟩
  | _ => exact False.elim ty
def tBM0 (K : PySem.W.Frag) (T : String) (r : V → List V → Hp → VK → Prop) (to : TE) : TE := fun σ H Q => to σ H fun x H1 => tyV K T x H1 ∧ r x [] H1 Q
def tBM (K : PySem.W.Frag) (T : String) (r : V → List V → Hp → VK → Prop) (to : TE) (t : TA) : TE := fun σ H Q => to σ H fun x H1 => tyV K T x H1 ∧ t σ H1 fun xs H2 => r x xs H2 Q
variable {o e : Expr} {es : List Expr} {to : TE} {t : TA} {name : Str} {apos cpos : Pos} {T id : String} {r : V → List V → Hp → VK → Prop}
theorem pe_bm (pa : PlainAttrs T) (slot : Slot T name id) (hty : typeOf (.builtin id) = pure (.type "method_descriptor")) (hm : MtR X id r) (ho : PE X o to) (ha : PA X (e :: es) t)
    (hbase : attributeBase o name X.env (eval o X.env) = eval o X.env := by rfl)
    (hfew : ((backTo cpos (starEach (e :: es) X.env)).all (fun x => !x.1) && (backToKw cpos (keywordEach [] X.env)).all (fun x => x.1.isSome)
      && decide ((e :: es).length + ([] : List Keyword).length + (if ([] : List Keyword).isEmpty then 0 else 1) < 30)) = true := by rfl)
    (hline : (apos.endLine == cpos.line) = true := by rfl) (hs : starEach (e :: es) X.env = (false, eval e X.env) :: starEach es X.env := by rfl) (hplain : (backTo cpos (starEach es X.env)).any (·.1) = false := by rfl) :
    PE X (.Call (.Attribute o name apos) (e :: es) [] cpos) (tBM X.K T r to t) := by
  intro pins s σ H Q I h
  refine wpAny_Call_method_late hbase hfew hline rfl (thn (ho pins s σ H _ I h) fun v s1 ⟨x, H1, I1, r1, ty, q1⟩ => ?_)
  obtain ⟨h1, h2⟩ := tyV_is I1 r1 ty
  refine ⟨T, id, pa, slot, hty, h1, h2, ?_⟩
  have hA := ha cpos pins s1 σ H1 _ I1 q1
  rw [hs] at hA ⊢
  refine Calls.callWith_builtin (by show (false || (backTo cpos (starEach es X.env)).any (·.1)) = false; rw [hplain] <;> rfl) (Calls.evalArgs_plain ?_)
  exact thn hA fun us s2 ⟨vs, H2, I2, r2, q2⟩ => hm pins s2 σ H2 x vs v us Q I2 r1 r2 q2
end
end L2
namespace L2
open PySem PySem.Spec PyProof.Rows
def MtM (X : Cx) (id : String) (r : V → List V → Hp → VK → Prop) : Prop :=
  ∀ (pins : List (Addr × Obj)) (s : Shared) (σ : St) (H : Hp) (x : V) (xs : List V) (v : Value) (us : List Value) (Q : VK), Inv X pins σ H s → RelV x v → Vals xs us → r x xs H Q →
    wpAny (model X.prog X.w) X.A (call (.builtin id) (v :: us)) (EP X pins σ Q) X.xe s
theorem Vals.one : ∀ {x : V} {us : List Value}, Vals [x] us → ∃ u, us = [u] ∧ RelV x u
  | _, _, .cons r .nil => ⟨_, rfl, r⟩
section
variable {X : Cx} {pins : List (Addr × Obj)} {σ : St} {H : Hp} {s : Shared} {l b : Addr} {xs ys zs : List V}
theorem Inv.lset {its its' : List Value} {n : Nat} {f : Array Value → Array Value} {t' : Nat} (I : Inv X pins σ H s) (hH : H l = some (.lst xs))
    (e : s.heap.get? l = some { cls := .type "list", data := .seq its.toArray n }) (hf : f its.toArray = its'.toArray) (hv : Vals ys its') (hz : ys.length ≤ sizeLine) :
    Inv X pins σ (upd H l (.lst ys)) { s with heap := s.heap.update l (Obj.mapSeq f), toks := t' } := by
  have q := PySem.IsL.update e f
  rw [hf] at q
  refine I.write (x := l) (e := l) (by rw [hH]; exact trivial) (.inl rfl) (fun b' u hb hu => (Heap.get?_update_other s.heap (Obj.mapSeq f) (Ne.symm hb)).trans hu) ⟨_, q⟩ ?_
  exact ⟨hz, its', _, hv, q⟩
theorem Inv.lnew {its : List Value} {t' : Nat} (I : Inv X pins σ H s) (hv : Vals ys its) (hz : ys.length ≤ sizeLine) :
    Inv X pins σ (upd H s.heap.objs.size (.lst ys)) { s with heap := s.heap.push { cls := .type "list", data := .seq its.toArray }, toks := t' } :=
  I.laid (fun _ _ q => Heap.get?_push_of_some _ q) (Nat.le_refl _) ⟨hz, its, 0, hv, Heap.get?_push_size _ rfl⟩
theorem Inv.fresh (I : Inv X pins σ H s) : H s.heap.objs.size = none := I.hok.fresh (Nat.le_refl _)
theorem Inv.lstM (I : Inv X pins σ H s) (hH : H l = some (.lst xs)) : xs.length ≤ sizeLine ∧ ∃ (its : List Value) (n : Nat), Vals xs its ∧ xs.length = its.length ∧ s.heap.get? l = some { cls := .type "list", data := .seq its.toArray n } := by
  obtain ⟨z, its, n, r, e⟩ := I.hok l _ hH
  exact ⟨z, its, n, r, r.length, e⟩
end
section
variable {X : Cx}
def rAppend : V → List V → Hp → VK → Prop := fun x vs H Q => ∃ l xs y, x = .ref l ∧ vs = [y] ∧ H l = some (.lst xs) ∧ xs.length < sizeLine ∧ Q .non (upd H l (.lst (xs ++ [y])))
theorem mt_append : MtM X "list.append" rAppend := by
  intro pins s σ H x vs v us Q I rx rv h
  obtain ⟨l, xs, y, rfl, rfl, hH, hz, q⟩ := h
  cases rx
  obtain ⟨u, rfl, ru⟩ := rv.one
  obtain ⟨z, its, n, r, hl, e⟩ := I.lstM hH
  refine call_meets F.slot_list_append ⟨_, e, rfl⟩ F.entry_list_append (F.args_list_append_2 _ _) (PySem.list_append l its.toArray n u (by rw [List.size_toArray]; omega)) ⟨e, ?_⟩
  refine ⟨.non, _, I.lset (its' := its ++ [u]) hH e (by simp) (r.append (.cons ru .nil)) ?_, rfl, q⟩
  rw [List.length_append, List.length_singleton]
  omega
def rExtend : V → List V → Hp → VK → Prop := fun x vs H Q => ∃ l b xs zs, x = .ref l ∧ vs = [.ref b] ∧ H l = some (.lst xs) ∧ H b = some (.lst zs) ∧ xs.length + zs.length ≤ sizeLine ∧ Q .non (upd H l (.lst (xs ++ zs)))
def rPop : V → List V → Hp → VK → Prop := fun x vs H Q => ∃ l xs y, x = .ref l ∧ vs = [] ∧ H l = some (.lst xs) ∧ xs[xs.length - 1]? = some y ∧ Q y (upd H l (.lst xs.dropLast))
def rPopAt : V → List V → Hp → VK → Prop := fun x vs H Q => ∃ l xs i k y, x = .ref l ∧ vs = [.int i] ∧ H l = some (.lst xs) ∧ -(2 ^ 63) ≤ i ∧ i < 2 ^ 63 ∧ seqIndex? i xs.length = some k ∧ xs[k]? = some y ∧ Q y (upd H l (.lst (xs.eraseIdx k)))
def rReverse : V → List V → Hp → VK → Prop := fun x vs H Q => ∃ l xs, x = .ref l ∧ vs = [] ∧ H l = some (.lst xs) ∧ Q .non (upd H l (.lst xs.reverse))
def rClear : V → List V → Hp → VK → Prop := fun x vs H Q => ∃ l xs, x = .ref l ∧ vs = [] ∧ H l = some (.lst xs) ∧ Q .non (upd H l (.lst []))
def rCat : R2 := fun x y H Q => ∃ l b xs zs, x = .ref l ∧ y = .ref b ∧ H l = some (.lst xs) ∧ H b = some (.lst zs) ∧ xs.length + zs.length ≤ sizeLine ∧ ∀ p, H p = none → Q (.ref p) (upd H p (.lst (xs ++ zs)))
theorem op_cat : OpR X (binaryOp .Add) rCat := by
  intro pins s σ H x y v u Q I rx ry h
  obtain ⟨l, b, xs, zs, rfl, rfl, hH, hB, hz, q⟩ := h
  cases rx
  cases ry
  obtain ⟨z, its, n, r, hl, e⟩ := I.lstM hH
  obtain ⟨z2, its2, n2, r2, hl2, e2⟩ := I.lstM hB
  refine PySem.P.add_list e e2 ?_ (by rw [List.size_toArray, List.size_toArray]; omega)
  have ea : its.toArray ++ its2.toArray = (its ++ its2).toArray := by simp
  rw [ea]
  exact ⟨.ref _, _, I.lnew (t' := s.toks) (r.append r2) (by rw [List.length_append]; omega), rfl, q _ I.fresh⟩
def rRep : R2 := fun x y H Q => ∃ l k xs, x = .ref l ∧ y = .int k ∧ H l = some (.lst xs) ∧ -(2 ^ 63) ≤ k ∧ k < 2 ^ 63 ∧ xs.length * k.toNat ≤ sizeLine ∧
  ∀ p, H p = none → Q (.ref p) (upd H p (.lst (List.replicate k.toNat xs).flatten))
end
section
variable {prog : Program} {w : World} {A : Around} {E : Value → Shared → Prop} {s : Shared}
set_option maxRecDepth 100000 in
end
section
variable {X : Cx}
end
end L2
namespace L2
open PySem PySem.Spec PyProof.Rows
section
variable {κ : Type} [DecidableEq κ]
def valV (kvs : List (κ × V)) (k : κ) : Option V := (kvs.find? fun kv => decide (kv.1 = k)).map (·.2)
def putK (kvs : List (κ × V)) (k : κ) (v : V) : List (κ × V) :=
  if (kvs.any fun kv => decide (kv.1 = k)) = true then kvs.map (fun kv => if kv.1 = k then (kv.1, v) else kv) else kvs ++ [(k, v)]
def dropK (kvs : List (κ × V)) (k : κ) : List (κ × V) := kvs.filter fun kv => decide (kv.1 ≠ k)
theorem valV_pos {p : κ × V} {r : List (κ × V)} {k : κ} (e : p.1 = k) : valV (p :: r) k = some p.2 := by simp [valV, List.find?_cons, e]
theorem valV_neg {p : κ × V} {r : List (κ × V)} {k : κ} (e : ¬ p.1 = k) : valV (p :: r) k = valV r k := by simp [valV, List.find?_cons, e]
theorem valV_any (k : κ) : ∀ kvs : List (κ × V), (kvs.any fun kv => decide (kv.1 = k)) = (valV kvs k).isSome
  | [] => rfl
  | p :: r => by
    rw [List.any_cons]
    by_cases e : p.1 = k
    · simp only [valV_pos e, decide_eq_true e, Bool.true_or, Option.isSome_some]
    · rw [valV_neg e, decide_eq_false e, Bool.false_or]; exact valV_any k r
theorem valV_map (k j : κ) (y : V) : ∀ kvs : List (κ × V), valV (kvs.map fun kv => if kv.1 = k then (kv.1, y) else kv) j = (valV kvs j).map fun x => if j = k then y else x
  | [] => rfl
  | p :: r => by
    have ih := valV_map k j y r
    rw [List.map_cons]
    by_cases h : p.1 = k
    · rw [if_pos h]
      by_cases e : p.1 = j
      · rw [valV_pos (p := (p.1, y)) e, valV_pos e, Option.map_some, if_pos (e.symm.trans h)]
      · rw [valV_neg (p := (p.1, y)) e, valV_neg e, ih]
    · rw [if_neg h]
      by_cases e : p.1 = j
      · rw [valV_pos (p := p) e, valV_pos e, Option.map_some, if_neg (fun z => h (e.trans z))]
      · rw [valV_neg (p := p) e, valV_neg e, ih]
theorem valV_snoc (k j : κ) (y : V) : ∀ kvs : List (κ × V), valV kvs k = none → valV (kvs ++ [(k, y)]) j = if j = k then some y else valV kvs j
  | [], _ => by
    by_cases e : k = j
    · rw [if_pos e.symm]; exact valV_pos (p := (k, y)) e
    · rw [if_neg (fun z => e z.symm)]; exact valV_neg (p := (k, y)) e
  | p :: r, hn => by
    rw [List.cons_append]
    have hk : ¬ p.1 = k := fun z => by rw [valV_pos z] at hn; cases hn
    rw [valV_neg hk] at hn
    have ih := valV_snoc k j y r hn
    by_cases e : p.1 = j
    · rw [valV_pos e, valV_pos e, if_neg (fun z => hk (e.trans z))]
    · rw [valV_neg e, valV_neg e, ih]
theorem valV_put (kvs : List (κ × V)) (k j : κ) (y : V) : valV (putK kvs k y) j = if j = k then some y else valV kvs j := by
  unfold putK
  by_cases a : (kvs.any fun kv => decide (kv.1 = k)) = true
  · rw [if_pos a, valV_map]
    rw [valV_any] at a
    by_cases e : j = k
    · obtain ⟨x, hx⟩ := Option.isSome_iff_exists.mp a
      rw [if_pos e, e, hx, Option.map_some, if_pos rfl]
    · rw [if_neg e]
      cases valV kvs j with
      | none => rfl
      | some x => rw [Option.map_some, if_neg e]
  · rw [if_neg a]
    refine valV_snoc k j y kvs ?_
    rw [valV_any] at a
    cases q : valV kvs k with
    | none => rfl
    | some x => rw [q] at a; exact (a rfl).elim
theorem length_putK (kvs : List (κ × V)) (k : κ) (v : V) : (putK kvs k v).length ≤ kvs.length + 1 := by
  unfold putK
  split
  · rw [List.length_map]; omega
  · rw [List.length_append, List.length_cons, List.length_nil]; omega
theorem RelO.isSome_eq {o : Option V} {u : Option Value} (r : RelO o u) : o.isSome = u.isSome := by
  cases o with
  | none => cases u with
    | none => rfl
    | some _ => exact (show False from r).elim
  | some _ => cases u with
    | none => exact (show False from r).elim
    | some _ => rfl
theorem RelO.getD {o : Option V} {u : Option Value} {d : V} {d' : Value} (r : RelO o u) (rd : RelV d d') : RelV (o.getD d) (u.getD d') := by
  cases o with
  | none => cases u with
    | none => exact rd
    | some _ => exact (show False from r).elim
  | some _ => cases u with
    | none => exact (show False from r).elim
    | some _ => exact r
theorem KV.val {kvs : List (κ × V)} {vs : List (κ × Value)} (r : KV kvs vs) (k : κ) : RelO (valV kvs k) (valueAt vs k) := by
  unfold KV at r
  induction r with
  | nil => exact True.intro
  | @cons p q ps qs h t ih =>
    obtain ⟨h1, h2⟩ := h
    by_cases e : p.1 = k
    · have e' : q.1 = k := h1.symm.trans e
      have b : valueAt (q :: qs) k = some q.2 := by simp [valueAt, List.find?_cons, e']
      rw [valV_pos e, b]; exact h2
    · have e' : ¬ q.1 = k := fun z => e (h1.trans z)
      have b : valueAt (q :: qs) k = valueAt qs k := by simp [valueAt, List.find?_cons, e']
      rw [valV_neg e, b]; exact ih
theorem KV.any {kvs : List (κ × V)} {vs : List (κ × Value)} (r : KV kvs vs) (k : κ) : (kvs.any fun kv => decide (kv.1 = k)) = vs.any fun kv => decide (kv.1 = k) := by
  unfold KV at r
  induction r with
  | nil => rfl
  | cons h t ih => rw [List.any_cons, List.any_cons, ih, h.1]
theorem KV.repl {kvs : List (κ × V)} {vs : List (κ × Value)} (r : KV kvs vs) (k : κ) {y : V} {u : Value} (ry : RelV y u) :
    KV (kvs.map fun kv => if kv.1 = k then (kv.1, y) else kv) (vs.map fun kv => if kv.1 = k then (kv.1, u) else kv) := by
  unfold KV at r ⊢
  induction r with
  | nil => exact .nil
  | @cons p q ps qs h t ih =>
    rw [List.map_cons, List.map_cons]
    refine .cons ?_ ih
    obtain ⟨h1, h2⟩ := h
    by_cases e : p.1 = k
    · rw [if_pos e, if_pos (h1.symm.trans e)]; exact ⟨h1, ry⟩
    · rw [if_neg e, if_neg (fun z => e (h1.trans z))]; exact ⟨h1, h2⟩
theorem KV.put {kvs : List (κ × V)} {vs : List (κ × Value)} (r : KV kvs vs) (k : κ) {y : V} {u : Value} (ry : RelV y u) : KV (putK kvs k y) (stored vs k u) := by
  unfold putK stored
  rw [r.any k]
  by_cases e : (vs.any fun kv => decide (kv.1 = k)) = true
  · rw [if_pos e, if_pos e]; exact r.repl k ry
  · rw [if_neg e, if_neg e]; exact Paired.snoc r ⟨rfl, ry⟩
theorem KV.drop {kvs : List (κ × V)} {vs : List (κ × Value)} (r : KV kvs vs) (k : κ) : KV (dropK kvs k) (without vs k) := by
  unfold KV at r ⊢
  unfold dropK without
  induction r with
  | nil => exact .nil
  | @cons p q ps qs h t ih =>
    obtain ⟨h1, h2⟩ := h
    rw [List.filter_cons, List.filter_cons]
    by_cases e : p.1 = k
    · have a : ¬ decide (p.1 ≠ k) = true := by simp [e]
      have b : ¬ decide (q.1 ≠ k) = true := by simp [h1.symm.trans e]
      rw [if_neg a, if_neg b]; exact ih
    · have e' : ¬ q.1 = k := fun z => e (h1.trans z)
      have a : decide (p.1 ≠ k) = true := by simp [e]
      have b : decide (q.1 ≠ k) = true := by simp [e']
      rw [if_pos a, if_pos b]; exact .cons ⟨h1, h2⟩ ih
theorem KV.length {kvs : List (κ × V)} {vs : List (κ × Value)} (r : KV kvs vs) : kvs.length = vs.length := Paired.length r
theorem dropK_le (kvs : List (κ × V)) (k : κ) : (dropK kvs k).length ≤ kvs.length := List.length_filter_le _ _
end
theorem kV_is {P : Program} {w : World} {k : Key} {u : Value} (r : RelV (kV k) u) : (mixKind P w).is k u = true := by
  cases k with
  | inl i => obtain ⟨t, e⟩ := (show ∃ t, u = Value.int i t from r); subst e; exact mixKind_int P w i t
  | inr x => obtain ⟨t, e⟩ := (show ∃ t, u = Value.str x t from r); subst e; exact mixKind_str P w x t
theorem items_are {P : Program} {w : World} : ∀ {ks : List Key} {us : List Value}, Vals (ks.map kV) us → ItemsAre (mixKind P w) ks us
  | [], _, r => by rw [List.map_nil] at r; cases r; exact .nil
  | k :: ks, _, r => by
    rw [List.map_cons] at r
    cases r with
    | cons h t => exact .cons (kV_is h) (items_are t)
abbrev KT (H : Hp) : List (List Key × V) → List (List Key × Addr × Value) → Prop := Paired fun p q => p.1 = q.1 ∧ H q.2.1 = some (.tup (p.1.map kV)) ∧ RelV p.2 q.2.2
theorem KT.val {H : Hp} {kvs : List (List Key × V)} {xs : List (List Key × Addr × Value)} (r : KT H kvs xs) (k : List Key) : RelO (valV kvs k) ((atKey xs k).map (·.2)) := by
  induction r with
  | nil => exact True.intro
  | @cons p q ps qs h t ih =>
    obtain ⟨h1, _, h2⟩ := h
    by_cases e : p.1 = k
    · have e' : q.1 = k := h1.symm.trans e
      have b : atKey (q :: qs) k = some q.2 := by simp [atKey, List.find?_cons, e']
      rw [valV_pos e, b]; exact h2
    · have e' : ¬ q.1 = k := fun z => e (h1.trans z)
      have b : atKey (q :: qs) k = atKey qs k := by simp [atKey, List.find?_cons, e']
      rw [valV_neg e, b]; exact ih
theorem KT.repl {H : Hp} {kvs : List (List Key × V)} {xs : List (List Key × Addr × Value)} (r : KT H kvs xs) (k : List Key) {y : V} {u : Value} (ry : RelV y u) :
    KT H (kvs.map fun kv => if kv.1 = k then (kv.1, y) else kv) (xs.map (putAt k u)) := by
  induction r with
  | nil => exact .nil
  | @cons p q ps qs h t ih =>
    rw [List.map_cons, List.map_cons]
    refine .cons ?_ ih
    obtain ⟨h1, h2, h3⟩ := h
    unfold putAt
    by_cases e : p.1 = k
    · rw [if_pos e, if_pos (h1.symm.trans e)]; exact ⟨h1, h2, ry⟩
    · rw [if_neg e, if_neg (fun z => e (h1.trans z))]; exact ⟨h1, h2, h3⟩
theorem KT.put {H : Hp} {kvs : List (List Key × V)} {xs : List (List Key × Addr × Value)} (r : KT H kvs xs) (k : List Key) {b : Addr} {y : V} {u : Value} (hb : H b = some (.tup (k.map kV))) (ry : RelV y u) :
    KT H (putK kvs k y) (storedH xs k b u) := by
  have e : (kvs.any fun kv => decide (kv.1 = k)) = (atKey xs k).isSome := by
    rw [valV_any, (r.val k).isSome_eq, Option.isSome_map]
  unfold putK storedH
  rw [e]
  by_cases q : (atKey xs k).isSome = true
  · rw [if_pos q, if_pos q]; exact r.repl k ry
  · rw [if_neg q, if_neg q]; exact Paired.snoc r ⟨rfl, hb, ry⟩
theorem KT.keeps {H H' : Hp} {kvs : List (List Key × V)} {xs : List (List Key × Addr × Value)} (r : KT H kvs xs) (ht : ∀ b ys, H b = some (.tup ys) → H' b = some (.tup ys)) : KT H' kvs xs :=
  Paired.mapP r fun _ _ z => ⟨z.1, ht _ _ z.2.1, z.2.2⟩
section
variable {P : Program} {w : World} {H : Hp} {h : Heap} {a : Addr}
theorem rd_of {u : HO} (ok : HOk P w H h) (e : Rd H a u) : ObjOk P w H h a u := e.ok ok
theorem dk_rd {kvs : List (Key × V)} (ok : HOk P w H h) (e : Rd H a (.dK kvs)) : kvs.length ≤ sizeLine ∧ (a == sysModules) = false ∧ ∃ vs, KV kvs vs ∧ h.DictOf (mixKind P w) a vs :=
  show ObjOk P w H h a (.dK kvs) from rd_of ok e
theorem dk_of {kvs : List (Key × V)} (ok : HOk P w H h) (e : H a = some (.dK kvs)) : kvs.length ≤ sizeLine ∧ (a == sysModules) = false ∧ ∃ vs, KV kvs vs ∧ h.DictOf (mixKind P w) a vs := dk_rd ok (.inl e)
theorem key_of {ks : List Key} (ok : HOk P w H h) (e : H a = some (.tup (ks.map kV))) : (tupleKind (mixKind P w)).is h ks a := by
  obtain ⟨_, its, r, ⟨o, h1, h2, n, h3⟩, _⟩ := (show ObjOk P w H h a (.tup (ks.map kV)) from ok a _ e)
  exact ⟨o, its.toArray, n, h1, h2, h3, by simpa using items_are r⟩
theorem dt_rd {kvs : List (List Key × V)} (ok : HOk P w H h) (e : Rd H a (.dT kvs)) : kvs.length ≤ sizeLine ∧ (a == sysModules) = false ∧
    ∃ xs, KT H kvs xs ∧ h.DictOfH (tupleKind (mixKind P w)) a xs := by
  obtain ⟨z, y, xs, r, o, es, ep, h1, h2, h3, h4, h5⟩ := (show ObjOk P w H h a (.dT kvs) from rd_of ok e)
  refine ⟨z, y, xs, r, o, es, ep, h1, h2, h3, h4, fun x hx => ?_, h5⟩
  have all : ∀ {l : List (List Key × V)} {m : List (List Key × Addr × Value)}, KT H l m → ∀ x ∈ m, (tupleKind (mixKind P w)).is h x.1 x.2.1 := by
    intro l m q
    induction q with
    | nil => intro x hx; exact nomatch hx
    | @cons p q ps qs hq t ih =>
      intro x hx
      rcases List.mem_cons.mp hx with e | hx
      · subst e
        exact key_of ok (by rw [← hq.1]; exact hq.2.1)
      · exact ih x hx
  exact all r x hx
theorem dt_of {kvs : List (List Key × V)} (ok : HOk P w H h) (e : H a = some (.dT kvs)) : kvs.length ≤ sizeLine ∧ (a == sysModules) = false ∧
    ∃ xs, KT H kvs xs ∧ h.DictOfH (tupleKind (mixKind P w)) a xs := dt_rd ok (.inl e)
end
def DGet (H : Hp) (a : Addr) (y : V) (r : Option V) : Prop :=
  (∃ kvs k, Rd H a (.dK kvs) ∧ y = kV k ∧ r = valV kvs k) ∨ ∃ kvs k b, Rd H a (.dT kvs) ∧ y = .ref b ∧ H b = some (.tup (k.map kV)) ∧ r = valV kvs k
def DPut (H : Hp) (a : Addr) (y v : V) (H' : Hp) : Prop :=
  (∃ kvs k, H a = some (.dK kvs) ∧ y = kV k ∧ kvs.length < sizeLine ∧ H' = upd H a (.dK (putK kvs k v))) ∨
  ∃ kvs k b, H a = some (.dT kvs) ∧ y = .ref b ∧ H b = some (.tup (k.map kV)) ∧ kvs.length < sizeLine ∧ H' = upd H a (.dT (putK kvs k v))
theorem DGet.k {H : Hp} {a : Addr} {kvs : List (Key × V)} {k : Key} (e : H a = some (.dK kvs)) : DGet H a (kV k) (valV kvs k) := .inl ⟨kvs, k, .inl e, rfl, rfl⟩
theorem DPut.k {H : Hp} {a : Addr} {kvs : List (Key × V)} {k : Key} {v : V} (e : H a = some (.dK kvs)) (hl : kvs.length < sizeLine) : DPut H a (kV k) v (upd H a (.dK (putK kvs k v))) := .inl ⟨kvs, k, e, rfl, hl, rfl⟩
section
variable {X : Cx} {pins : List (Addr × Obj)} {σ : St} {H : Hp} {s : Shared} {a : Addr} {y v : V} {u r : Value} {o : Option V} {A : Around} {E : Value → Shared → Prop}
theorem Inv.big (I : Inv X pins σ H s) : sysModules < s.heap.objs.size := by
  have h : mainGlobals < s.heap.objs.size := (I.mod.glob.keeps I.bk).lt
  exact Nat.lt_trans (by decide) h
theorem d_getItem {Q : Value → Shared → Prop} (hu : A.units + 1 < cLine) (I : Inv X pins σ H s) (g : DGet H a y (some v)) (ry : RelV y u) (h : ∀ w' s', Inv X pins σ H s' → RelV v w' → Q w' s') :
    wpAny (model X.prog X.w) A (getItem (.ref a) u) Q E s := by
  rcases g with ⟨kvs, k, e, ey, l⟩ | ⟨kvs, k, b, e, ey, eb, l⟩
  · subst ey
    obtain ⟨z, hd, vs, rel, dd⟩ := dk_rd I.hok e
    obtain ⟨w', hw, rw'⟩ := RelO.some_of (v := v) (o := valueAt vs k) (by rw [l]; exact rel.val k)
    exact wpAny_getItem_of (kV_is ry) dd.mapOf hw (h w' _ (I.tok _) rw')
  · subst ey
    cases (show u = Value.ref b from ry)
    obtain ⟨z, hd, xs, rel, dd⟩ := dt_rd I.hok e
    obtain ⟨w', hw, rw'⟩ := RelO.some_of (v := v) (o := (atKey xs k).map (·.2)) (by rw [l]; exact rel.val k)
    obtain ⟨p, hp, hp2⟩ := Option.map_eq_some_iff.mp hw
    refine wpAny_getItem_heap (tupleKind_room_in1 hu) (key_of I.hok eb) dd hp ?_
    rw [hp2]
    exact h w' _ (I.tok _) rw'
theorem d_in {Q : Value → Shared → Prop} (hu : A.units + 1 < cLine) (I : Inv X pins σ H s) (g : DGet H a y o) (ry : RelV y u) (h : ∀ s', Inv X pins σ H s' → Q (.bool o.isSome) s') :
    wpAny (model X.prog X.w) A (compareOp .In u (.ref a)) Q E s := by
  rcases g with ⟨kvs, k, e, ey, l⟩ | ⟨kvs, k, b, e, ey, eb, l⟩
  · subst ey
    obtain ⟨z, hd, vs, rel, dd⟩ := dk_rd I.hok e
    refine wpAny_in_of (kV_is ry) hd dd.mapOf ?_
    rw [← (rel.val k).isSome_eq, ← l]
    exact h _ (I.tok _)
  · subst ey
    cases (show u = Value.ref b from ry)
    obtain ⟨z, hd, xs, rel, dd⟩ := dt_rd I.hok e
    refine wpAny_in_heap (tupleKind_room_in1 hu) (key_of I.hok eb) hd dd ?_
    have q := (rel.val k).isSome_eq
    rw [Option.isSome_map] at q
    rw [← q, ← l]
    exact h _ (I.tok _)
theorem d_write {h' : Heap} {t' : Nat} {ob : HO} (I : Inv X pins σ H s) (mu : Mut (H a)) (hs : Heap.SameBut a s.heap h') (he : ∃ q, h'.get? a = some q) (new : ObjOk X.prog X.w (upd H a ob) h' a ob) :
    Inv X pins σ (upd H a ob) { s with heap := h', toks := t' } :=
  I.write (x := a) (e := a) mu (.inl rfl) (fun b q hb z => (hs.2 b hb).trans z) he new
theorem dk_new {P : Program} {w : World} {H' : Hp} {h' : Heap} {kvs : List (Key × V)} {vs : List (Key × Value)} (z : kvs.length ≤ sizeLine) (hd : (a == sysModules) = false) (rel : KV kvs vs) (dd : h'.DictOf (mixKind P w) a vs) :
    ObjOk P w H' h' a (.dK kvs) := ⟨z, hd, vs, rel, dd⟩
theorem d_setItem {H' : Hp} {Q : Unit → Shared → Prop} (hu : A.units + 1 < cLine) (I : Inv X pins σ H s) (g : DPut H a y v H') (ry : RelV y u) (rv : RelV v r) (h : ∀ s', Inv X pins σ H' s' → Q () s') :
    wpAny (model X.prog X.w) A (setItem (.ref a) u r) Q E s := by
  rcases g with ⟨kvs, k, e, ey, l, eH⟩ | ⟨kvs, k, b, e, ey, eb, l, eH⟩
  · subst ey eH
    obtain ⟨z, hd, vs, rel, dd⟩ := dk_of I.hok e
    have hz : vs.length ≤ sizeLine := by rw [← rel.length]; exact z
    have hl : (putK kvs k v).length ≤ sizeLine := by have := length_putK kvs k v; omega
    refine wpAny_setItem_pairs (hsz := hz) (kV_is ry) dd fun h' dd' hs => h _ ?_
    have he : ∃ q, h'.get? a = some q := let ⟨q, _, _, hq, _⟩ := dd'; ⟨q, hq⟩
    exact d_write I (by rw [e]; exact True.intro) hs he (dk_new hl hd (rel.put k rv) dd')
  · subst ey eH
    cases (show u = Value.ref b from ry)
    obtain ⟨z, hd, xs, rel, dd⟩ := dt_of I.hok e
    have hz : xs.length ≤ sizeLine := by rw [← Paired.length rel]; exact z
    have hl : (putK kvs k v).length ≤ sizeLine := by have := length_putK kvs k v; omega
    refine wpAny_setItem_heap (hsz := hz) (tupleKind_room_in1 hu) (key_of I.hok eb) dd fun h' dd' hs => h _ ?_
    obtain ⟨q, es, ep, hq, h2, h3, h4, _, h5⟩ := dd'
    refine d_write I (by rw [e]; exact True.intro) hs ⟨q, hq⟩ ⟨hl, hd, _, (rel.put k eb rv).keeps fun c ys ec => ?_, q, es, ep, hq, h2, h3, h4, h5⟩
    rw [upd_ne (ne_of ec e (fun z => nomatch z))]
    exact ec
end
section
variable {X : Cx} {pins : List (Addr × Obj)} {σ : St} {H : Hp} {s : Shared} {a : Addr} {kvs : List (Key × V)} {k : Key} {u : Value} {A : Around} {E : Value → Shared → Prop}
theorem d_pop {v : V} {more : List Value} {Q : Value → Shared → Prop} (I : Inv X pins σ H s) (e : H a = some (.dK kvs)) (ry : RelV (kV k) u) (l : valV kvs k = some v) (hm : more = [] ∨ ∃ x, more = [x])
    (h : ∀ w' s', Inv X pins σ (upd H a (.dK (dropK kvs k))) s' → RelV v w' → Q w' s') : wpAny (model X.prog X.w) A (call (.builtin "dict.pop") (.ref a :: u :: more)) Q E s := by
  obtain ⟨z, hd, vs, rel, dd⟩ := dk_of I.hok e
  obtain ⟨w', hw, rw'⟩ := RelO.some_of (v := v) (o := valueAt vs k) (by rw [← l]; exact rel.val k)
  have hp : (keyPart u).isSome = true := by
    cases k with
    | inl i => obtain ⟨t, q⟩ := (show ∃ t, u = Value.int i t from ry); subst q; rfl
    | inr x => obtain ⟨t, q⟩ := (show ∃ t, u = Value.str x t from ry); subst q; rfl
  have ha : argsOk "dict.pop" ⟨.ref a :: u :: more, []⟩ := by
    rcases hm with q | ⟨x, q⟩
    · subst q; exact PySem.F.args_dict_pop_2 _ _
    · subst q; exact PySem.F.args_dict_pop_3 _ _ _
  refine call_meetsIn PySem.F.slot_dict_pop dd.typeIs PySem.F.entry_dict_pop ha (meets_dict_pop_there (mixKind X.prog X.w) a (kV_is ry) more hm hp)
    ⟨vs, w', dd, by rw [← rel.length]; exact z, hw, fun h' dd' hs => h w' _ ?_ rw'⟩
  have he : ∃ q, h'.get? a = some q := let ⟨q, _, _, hq, _⟩ := dd'; ⟨q, hq⟩
  exact d_write I (by rw [e]; exact True.intro) hs he (dk_new (Nat.le_trans (dropK_le kvs k) z) hd (rel.drop k) dd')
end
def NoSl (i : Expr) : Prop := ∀ ov iv, subscripted i false ov iv = operate [ov, iv] (getItem ov iv)
theorem subD_of {prog : Program} {w : World} {A : Around} {E : Value → Shared → Prop} {s : Shared} {env : Env} {value slice : Expr} {pos : Pos} {T id : String} {Q : Value → Shared → Prop}
    (hl : typeLookup (.type T) "__getitem__" = pure (some (.builtin id))) (hs : NoSl slice)
    (h : wpAny (model prog w) A (eval value env) (fun o s₁ => wpAny (model prog w) A (eval slice env) (fun i s₂ => s₂.TypeIs o T ∧ wpAny (model prog w) A (getItem o i) Q E s₂) E s₁) E s) :
    wpAny (model prog w) A (eval (.Subscript value slice pos) env) Q E s := by
  refine Subscript_ (wpAny_mono h (fun o s₁ h₁ => wpAny_mono h₁ (fun i s₂ h₂ => ?_) fun _ _ x => x) fun _ _ x => x)
  obtain ⟨hT, h₂⟩ := h₂
  unfold subscriptTail
  refine wpAny_bind ?_
  rw [getitemInPython_of_ne hT.not_modules]
  refine wpAny_bind (wpAny_specialOf hT hl ?_)
  have fin : wpAny (model prog w) A (subscripted slice false o i) (fun r s₃ => wpAny (model prog w) A (letTemporaryGo value o r >>= fun _ => pure r) Q E s₃) E s₂ := by
    rw [hs o i]
    exact wpAny_operating (wpAny_mono h₂ (fun r s₃ h₃ => wpAny_bind (wpAny_letTemporaryGo (wpAny_pure h₃))) fun _ _ x => x)
  first
    | exact wpAny_pure (wpAny_bind fin)
    | exact wpAny_bind (wpAny_pure (wpAny_bind fin))
    | exact wpAny_bind fin
theorem dict_typeIs {X : Cx} {pins : List (Addr × Obj)} {σ : St} {H : Hp} {s : Shared} {a : Addr} {y : V} {o : Option V} (I : Inv X pins σ H s) (g : DGet H a y o) : s.TypeIs (.ref a) "dict" := by
  rcases g with ⟨kvs, k, e, _, _⟩ | ⟨kvs, k, b, e, _, _, _⟩
  · obtain ⟨_, _, vs, _, dd⟩ := dk_rd I.hok e
    exact dd.typeIs
  · obtain ⟨_, _, xs, _, dd⟩ := dt_rd I.hok e
    exact dd.typeIs
def tDGet (td ty : TE) : TE := fun σ H Q => td σ H fun x H1 => ty σ H1 fun y H2 => ∃ a v, x = .ref a ∧ DGet H2 a y (some v) ∧ Q v H2
def tDIn (ty td : TE) : TE := fun σ H Q => ty σ H fun y H1 => td σ H1 fun x H2 => ∃ a o, x = .ref a ∧ DGet H2 a y o ∧ Q (.bl o.isSome) H2
def tDNotIn (ty td : TE) : TE := fun σ H Q => ty σ H fun y H1 => td σ H1 fun x H2 => ∃ a o, x = .ref a ∧ DGet H2 a y o ∧ Q (.bl (!o.isSome)) H2
def sDPut (td ty tv : TE) : TS := fun D σ H => tv σ H fun v H1 => td σ H1 fun x H2 => ty σ H2 fun y H3 => ∃ a H4, x = .ref a ∧ DPut H3 a y v H4 ∧ D.nx σ H4
def sDAug (td ty tv : TE) (rd : V → V → Hp → VK → Prop) : TS := fun D σ H => td σ H fun x H1 => ty σ H1 fun y H2 => ∃ a v, x = .ref a ∧ DGet H2 a y (some v) ∧
  tv σ H2 fun y2 H3 => rd v y2 H3 fun z H4 => ∃ H5, DPut H4 a y z H5 ∧ D.nx σ H5
def sDDel (td ty : TE) : TS := fun D σ H => td σ H fun x H1 => ty σ H1 fun y H2 => ∃ a kvs k, x = .ref a ∧ H2 a = some (.dK kvs) ∧ y = kV k ∧ (valV kvs k).isSome = true ∧ D.nx σ (upd H2 a (.dK (dropK kvs k)))
section
variable {X : Cx} {o i e value : Expr} {pos pos' tpos : Pos} {td ty tv : TE}
theorem pe_dget (hu : X.A.units + 1 < cLine) (ho : PE X o td) (hi : PE X i ty) (hs : NoSl i) : PE X (.Subscript o i pos) (tDGet td ty) := by
  intro pins s σ H Q I h
  refine subD_of PySem.F.slot_dict_getitem.lookup hs (thn (ho pins s σ H _ I h) fun u s1 ⟨x, H1, I1, rx, q1⟩ => thn (hi pins s1 σ H1 _ I1 q1) fun iv s2 ⟨y, H2, I2, ry, a, v, ex, g, q2⟩ => ?_)
  subst ex
  obtain rfl : u = Value.ref a := rx
  exact ⟨dict_typeIs I2 g, d_getItem hu I2 g ry fun w' s3 I3 rw' => ⟨v, H2, I3, rw', q2⟩⟩
theorem pc_din (hu : X.A.units + 1 < cLine) (hi : PE X i ty) (ho : PE X o td) : PC X .In i o (tDIn ty td) := by
  intro pins s σ H Q I h
  refine thn (hi pins s σ H _ I h) fun iv s1 ⟨y, H1, I1, ry, q1⟩ => thn (ho pins s1 σ H1 _ I1 q1) fun u s2 ⟨x, H2, I2, rx, a, ov, ex, g, q2⟩ => ?_
  subst ex
  obtain rfl : u = Value.ref a := rx
  exact d_in hu I2 g ry fun s3 I3 => ⟨.bl ov.isSome, H2, I3, rfl, q2⟩
theorem ps_dput (hu : X.A.units + 1 < cLine) (ho : PE X o td) (hi : PE X i ty) (hv : PE X value tv) (hs : swapsWith value (some (.Subscript o i pos')) pos.line X.env = pure false) :
    PS X (.Assign [.Subscript o i pos'] value pos) (sDPut td ty tv) := by
  intro pins s σ H D I h
  refine wpAny_Assign_Subscript (thn (hv pins s σ H _ I h) fun r s1 ⟨v, H1, I1, rv, q1⟩ => thn (ho pins s1 σ H1 _ I1 q1) fun u s2 ⟨x, H2, I2, rx, q2⟩ => thn (hi pins s2 σ H2 _ I2 q2) fun iv s3 ⟨y, H3, I3, ry, a, H4, ex, g, q3⟩ => ?_) hs
  subst ex
  obtain rfl : u = Value.ref a := rx
  exact d_setItem hu I3 g ry rv fun s4 I4 => ⟨σ, H4, I4, q3⟩
end
theorem dk_empty {P : Program} {w : World} {H : Hp} (h : Heap) (hb : sysModules < h.objs.size) : ObjOk P w H (h.push { cls := .type "dict", data := .dict #[] }) h.objs.size (.dK []) :=
  ⟨Nat.zero_le _, beq_eq_false_iff_ne.mpr (Ne.symm (Nat.ne_of_lt hb)), [], .nil, Heap.DictOf.new h⟩
def tDNewK : TE := fun _ H Q => ∀ p, H p = none → Q (.ref p) (upd H p (.dK []))
def tDNewT : TE := fun _ H Q => ∀ p, H p = none → Q (.ref p) (upd H p (.dT []))
section
variable {X : Cx} {pos : Pos}
theorem pe_dnewK : PE X (.Dict [] [] pos) tDNewK := fun pins s σ H Q I h =>
  wpAny_Dict_empty ⟨.ref s.heap.objs.size, _, I.laid (a := s.heap.objs.size) (o := .dK []) (t' := s.toks) (fun _ _ q => Heap.get?_push_of_some _ q) (Nat.le_refl _) (dk_empty s.heap I.big), rfl, h _ (I.hok.fresh (Nat.le_refl _))⟩
end
def tPairs : List (TE × TE) → St → Hp → (List (V × V) → Hp → Prop) → Prop
  | [], _, H, Q => Q [] H
  | (tk, tv) :: r, σ, H, Q => tk σ H fun x H1 => tv σ H1 fun y H2 => tPairs r σ H2 fun ps H3 => Q ((x, y) :: ps) H3
abbrev VV : List (V × V) → List (Value × Value) → Prop := Paired fun p q => RelV p.1 q.1 ∧ RelV p.2 q.2
def PPs (X : Cx) (pos : Pos) (keys : List (Option Expr)) (values : List Expr) (trs : List (TE × TE)) : Prop :=
  ∀ (pins : List (Addr × Obj)) (s : Shared) (σ : St) (H : Hp) (Q : List (V × V) → Hp → Prop), Inv X pins σ H s → tPairs trs σ H Q →
    wpAny (model X.prog X.w) X.A (evalPairs (pairTrees keys values X.env pos)) (fun vs s' => ∃ ps H', Inv X pins σ H' s' ∧ VV ps vs ∧ Q ps H') X.xe s
theorem pps_nil {X : Cx} {pos : Pos} : PPs X pos [] [] [] := fun pins s σ H Q I h => pairTrees_nil_walk ⟨[], H, I, .nil, h⟩
theorem pps_cons {X : Cx} {pos : Pos} {k v : Expr} {ks : List (Option Expr)} {vs : List Expr} {tk tv : TE} {trs : List (TE × TE)} (hk : PE X k tk) (hv : PE X v tv) (hr : PPs X pos ks vs trs) :
    PPs X pos (some k :: ks) (v :: vs) ((tk, tv) :: trs) := fun pins s σ H Q I h =>
  pairTrees_cons_walk (thn (hk pins s σ H _ I h) fun u s1 ⟨x, H1, I1, rx, q1⟩ => thn (hv pins s1 σ H1 _ I1 q1) fun w2 s2 ⟨y, H2, I2, ry, q2⟩ =>
    thn (hr pins s2 σ H2 _ I2 q2) fun ws s3 ⟨ps, H3, I3, rel, q3⟩ => ⟨(x, y) :: ps, H3, I3, .cons ⟨rx, ry⟩ rel, q3⟩)
def mergeK (kvs more : List (Key × V)) : List (Key × V) := more.foldl (fun acc kv => putK acc kv.1 kv.2) kvs
theorem KV.merge : ∀ {more : List (Key × V)} {rs : List (Key × Value)} {kvs : List (Key × V)} {vs : List (Key × Value)}, KV more rs → KV kvs vs → KV (mergeK kvs more) (merged vs rs) := by
  intro more rs kvs vs r
  unfold KV at r
  induction r generalizing kvs vs with
  | nil => intro q; exact q
  | @cons p q ps qs h t ih =>
    intro r0
    have e : KV (putK kvs p.1 p.2) (stored vs q.1 q.2) := by
      have := r0.put p.1 h.2
      rw [← h.1]; exact this
    exact ih e
theorem length_mergeK : ∀ (more kvs : List (Key × V)), (mergeK kvs more).length ≤ kvs.length + more.length
  | [], kvs => by show kvs.length ≤ kvs.length + 0; omega
  | p :: r, kvs => by
    have h1 := length_mergeK r (putK kvs p.1 p.2)
    have h2 := length_putK kvs p.1 p.2
    show (mergeK (putK kvs p.1 p.2) r).length ≤ _
    rw [List.length_cons]; omega
theorem carries_of {P : Program} {w : World} : ∀ {kvs : List (Key × V)} {ws : List (Value × Value)}, VV (kvs.map fun kv => (kV kv.1, kv.2)) ws → ∃ rs, Carries (mixKind P w) ws rs ∧ KV kvs rs
  | [], _, r => by rw [List.map_nil] at r; cases r; exact ⟨[], True.intro, .nil⟩
  | p :: kvs, _, r => by
    rw [List.map_cons] at r
    cases r with
    | @cons a b as bs h t =>
      obtain ⟨rs, c, q⟩ := carries_of (P := P) (w := w) t
      obtain ⟨b1, b2⟩ := b
      exact ⟨(p.1, b2) :: rs, ⟨kV_is h.1, rfl, c⟩, .cons ⟨rfl, h.2⟩ q⟩
def tDisp (trs : List (TE × TE)) : TE := fun σ H Q => ∀ p, H p = none → tPairs trs σ (upd H p (.dK [])) fun ps H2 => H2 p = some (.dK []) ∧ ∃ kvs : List (Key × V), ps = kvs.map (fun kv => (kV kv.1, kv.2)) ∧ kvs.length ≤ 15 ∧ Q (.ref p) (upd H2 p (.dK (mergeK [] kvs)))
theorem pe_disp {X : Cx} {pos : Pos} {keys : List (Option Expr)} {values : List Expr} {trs : List (TE × TE)} (h : PPs X pos keys values trs) (hall : keys.all (·.isSome) = true) (hl : keys.length = values.length) (h0 : keys ≠ [])
    (h15 : keys.length ≤ 15) : PE X (.Dict keys values pos) (tDisp trs) := by
  intro pins s σ H Q I q
  have hn := I.hok.fresh (Nat.le_refl s.heap.objs.size)
  have I1 := I.laid (a := s.heap.objs.size) (o := .dK []) (h' := s.heap.push { cls := .type "dict", data := .dict #[] }) (t' := s.toks) (fun _ _ q => Heap.get?_push_of_some _ q) (Nat.le_refl _) (dk_empty s.heap I.big)
  refine wpAny_Dict_walk (knd := mixKind X.prog X.w) hall hl h0 h15 (thn (h pins _ σ _ _ I1 (q _ hn)) fun ws s2 ⟨ps, H2, I2, rel, e, kvs, ep, lk, q2⟩ => ?_)
  subst ep
  obtain ⟨rs, c, rk⟩ := carries_of (P := X.prog) (w := X.w) rel
  obtain ⟨z, hd, vs0, r0, dd⟩ := dk_of I2.hok e
  cases r0
  refine ⟨rs, c, dd, fun h' dd' hs => ⟨.ref s.heap.objs.size, _, ?_, rfl, q2⟩⟩
  have hz : (mergeK [] kvs).length ≤ sizeLine := by
    have h1 := length_mergeK kvs []
    rw [List.length_nil] at h1
    rw [sizeLine_eq]; omega
  have he : ∃ q, h'.get? s.heap.objs.size = some q := let ⟨q, _, _, hq, _⟩ := dd'; ⟨q, hq⟩
  exact d_write I2 (by rw [e]; exact True.intro) hs he (dk_new hz hd (rk.merge .nil) dd')
structure M1 (X : Cx) (o : Expr) (m : Str) (apos : Pos) (e : Expr) (cpos : Pos) : Prop where
  base : attributeBase o m X.env (eval o X.env) = eval o X.env
  few : ((backTo cpos (starEach [e] X.env)).all (fun x => !x.1) && (backToKw cpos (keywordEach [] X.env)).all (fun x => x.1.isSome)
    && decide (([e] : List Expr).length + ([] : List Keyword).length + (if ([] : List Keyword).isEmpty then 0 else 1) < 30)) = true
  line : (apos.endLine == cpos.line) = true
  trees : backTo cpos (starEach [e] X.env) = [(false, eval e X.env)]
structure M2 (X : Cx) (o : Expr) (m : Str) (apos : Pos) (e f : Expr) (cpos : Pos) : Prop where
  base : attributeBase o m X.env (eval o X.env) = eval o X.env
  few : ((backTo cpos (starEach [e, f] X.env)).all (fun x => !x.1) && (backToKw cpos (keywordEach [] X.env)).all (fun x => x.1.isSome)
    && decide (([e, f] : List Expr).length + ([] : List Keyword).length + (if ([] : List Keyword).isEmpty then 0 else 1) < 30)) = true
  line : (apos.endLine == cpos.line) = true
  trees : backTo cpos (starEach [e, f] X.env) = [(false, eval e X.env), (false, eval f X.env)]
def IsD (H : Hp) (a : Addr) : Prop := (∃ kvs, Rd H a (.dK kvs)) ∨ ∃ kvs, Rd H a (.dT kvs)
theorem isD_at {X : Cx} {pins : List (Addr × Obj)} {σ : St} {H : Hp} {s : Shared} {a : Addr} (I : Inv X pins σ H s) (d : IsD H a) :
    s.TypeIs (.ref a) "dict" ∧ (∀ b, Value.ref a = .ref b → ∃ ob, s.heap.get? b = some ob ∧ ob.dict = none) ∧ (a == sysModules) = false := by
  rcases d with ⟨kvs, e⟩ | ⟨kvs, e⟩
  · obtain ⟨_, hd, vs, _, dd⟩ := dk_rd I.hok e
    refine ⟨dd.typeIs, fun b q => ?_, hd⟩
    cases q
    obtain ⟨ob, _, _, h1, h2, _⟩ := dd
    exact ⟨ob, h1, h2.2.1⟩
  · obtain ⟨_, hd, xs, _, dd⟩ := dt_rd I.hok e
    refine ⟨dd.typeIs, fun b q => ?_, hd⟩
    cases q
    obtain ⟨ob, _, _, h1, h2, _⟩ := dd
    exact ⟨ob, h1, h2.2.1⟩
section
variable {X : Cx} {pins : List (Addr × Obj)} {σ : St} {H : Hp} {s : Shared} {a : Addr} {y d : V} {u r : Value} {o : Option V} {A : Around} {E : Value → Shared → Prop}
theorem d_get1 {Q : Value → Shared → Prop} (hu : A.units + 1 < cLine) (I : Inv X pins σ H s) (g : DGet H a y o) (ry : RelV y u) (h : ∀ w' s', Inv X pins σ H s' → RelV (o.getD .non) w' → Q w' s') :
    wpAny (model X.prog X.w) A (call (.builtin "dict.get") [.ref a, u]) Q E s := by
  rcases g with ⟨kvs, k, e, ey, l⟩ | ⟨kvs, k, b, e, ey, eb, l⟩
  · subst ey
    obtain ⟨z, hd, vs, rel, dd⟩ := dk_rd I.hok e
    refine call_meetsIn PySem.F.slot_dict_get dd.typeIs PySem.F.entry_dict_get (PySem.F.args_dict_get_2 _ _) (meets_dict_get (mixKind X.prog X.w) a (kV_is ry) hd) ⟨_, dd.mapOf, h _ _ (I.tok _) ?_⟩
    rw [l]
    exact (rel.val k).getD rfl
  · subst ey
    cases (show u = Value.ref b from ry)
    obtain ⟨z, hd, xs, rel, dd⟩ := dt_rd I.hok e
    refine call_meetsIn PySem.F.slot_dict_get dd.typeIs PySem.F.entry_dict_get (PySem.F.args_dict_get_2 _ _) (meetsH_dict_get (tupleKind (mixKind X.prog X.w)) a b hd) ⟨tupleKind_room_in1 hu, k, xs, key_of I.hok eb, dd, h _ _ (I.tok _) ?_⟩
    rw [l]
    exact (rel.val k).getD rfl
end
def tDGet1 (td ty : TE) : TE := fun σ H Q => td σ H fun x H1 => ∃ a, x = .ref a ∧ IsD H1 a ∧ ty σ H1 fun y H2 => ∃ o, DGet H2 a y o ∧ Q (o.getD .non) H2
def tDGet2 (td ty tx : TE) : TE := fun σ H Q => td σ H fun x H1 => ∃ a, x = .ref a ∧ IsD H1 a ∧ ty σ H1 fun y H2 => tx σ H2 fun z H3 => ∃ o, DGet H3 a y o ∧ Q (o.getD z) H3
def tDPop1 (td ty : TE) : TE := fun σ H Q => td σ H fun x H1 => ∃ a, x = .ref a ∧ IsD H1 a ∧ ty σ H1 fun y H2 => ∃ kvs k v, H2 a = some (.dK kvs) ∧ y = kV k ∧ valV kvs k = some v ∧ Q v (upd H2 a (.dK (dropK kvs k)))
def tDPop2 (td ty tx : TE) : TE := fun σ H Q => td σ H fun x H1 => ∃ a, x = .ref a ∧ IsD H1 a ∧ ty σ H1 fun y H2 => tx σ H2 fun z H3 => ∃ kvs k, H3 a = some (.dK kvs) ∧ y = kV k ∧
  (∀ v, valV kvs k = some v → Q v (upd H3 a (.dK (dropK kvs k)))) ∧ (valV kvs k = none → Q z H3)
section
variable {X : Cx} {o e f : Expr} {apos cpos : Pos} {td ty tx : TE}
theorem pe_dget1 (hu : X.A.units + 1 < cLine) (ho : PE X o td) (he : PE X e ty) (m : M1 X o "get" apos e cpos) : PE X (.Call (.Attribute o "get" apos) [e] [] cpos) (tDGet1 td ty) := by
  intro pins s σ H Q I h
  refine wpAny_Call_method m.base m.few m.line PySem.F.plainAttrs_dict PySem.F.slot_dict_get PySem.F.type_dict_get (thn (ho pins s σ H _ I h) fun u s1 ⟨x, H1, I1, rx, a, ex, d, q1⟩ => ?_)
  subst ex
  obtain rfl : u = Value.ref a := rx
  obtain ⟨t1, t2, _⟩ := isD_at I1 d
  refine ⟨t1, t2, ?_⟩
  rw [m.trees]
  refine Calls.callWith_builtin rfl (Calls.evalArgs_plain (Calls.spliced_cons (thn (he pins s1 σ H1 _ I1 q1) fun iv s2 ⟨y, H2, I2, ry, ov, g, q2⟩ => Calls.spliced_nil ?_)))
  exact d_get1 hu I2 g ry fun w' s3 I3 rw' => ⟨_, H2, I3, rw', q2⟩
theorem pe_dpop1 (ho : PE X o td) (he : PE X e ty) (m : M1 X o "pop" apos e cpos) : PE X (.Call (.Attribute o "pop" apos) [e] [] cpos) (tDPop1 td ty) := by
  intro pins s σ H Q I h
  refine wpAny_Call_method m.base m.few m.line PySem.F.plainAttrs_dict PySem.F.slot_dict_pop PySem.F.type_dict_pop (thn (ho pins s σ H _ I h) fun u s1 ⟨x, H1, I1, rx, a, ex, d, q1⟩ => ?_)
  subst ex
  obtain rfl : u = Value.ref a := rx
  obtain ⟨t1, t2, _⟩ := isD_at I1 d
  refine ⟨t1, t2, ?_⟩
  rw [m.trees]
  refine Calls.callWith_builtin rfl (Calls.evalArgs_plain (Calls.spliced_cons (thn (he pins s1 σ H1 _ I1 q1) fun iv s2 ⟨y, H2, I2, ry, kvs, k, v, ea, ey, l, q2⟩ => Calls.spliced_nil ?_)))
  subst ey
  exact d_pop I2 ea ry l (.inl rfl) fun w' s3 I3 rw' => ⟨v, _, I3, rw', q2⟩
end
section
variable {X : Cx} {pins : List (Addr × Obj)} {σ : St} {H : Hp} {s : Shared} {a : Addr} {kvs : List (Key × V)} {A : Around} {E : Value → Shared → Prop}
end
section
variable {X : Cx} {pins : List (Addr × Obj)} {σ : St} {H : Hp} {s : Shared} {a : Addr} {y : V} {u : Value} {A : Around} {E : Value → Shared → Prop}
end
end L2
namespace Att
open PySem PySem.W PySem.Calls PyProof.Rows
theorem ints_of_wellAll {P : Params} {h : Heap} : ∀ (ns : List Int) (vs : List Value), WellAll P h vs (ns.map WData.int) → IntsAre vs ns := by
  intro ns
  induction ns with
  | nil =>
    intro vs w
    rw [List.map_nil] at w
    cases w
    exact .nil
  | cons n ns ih =>
    intro vs w
    rw [List.map_cons] at w
    cases w with
    | cons a b =>
      cases a
      exact .cons _ _ (ih _ b)
theorem script_of {l : OpenLaw} {n : Nat} (hn : l.most = some n) {P : Params} {h : Heap} {args : List WData} {vals : List Value}
    (hpre : l.row.toRowW.claim.pre args = true) (hwl : WellAll P h vals args) :
    ∃ a vs ns, vals = [Value.ref a] ∧ args = [WData.list (ns.map WData.int)] ∧ h.get? a = some { cls := .type "list", data := .seq vs.toArray } ∧ IntsAre vs ns ∧ ns.length ≤ n := by
  have hsh : WShape.hasAll [] args [.list .int] = true := (pre_splitW hpre).1
  have hc : l.pre.holds [] { args := args } = true := (pre_splitW hpre).2
  obtain ⟨d, r, rfl, h1, h2⟩ := hasAllW_cons hsh
  obtain rfl := hasAllW_nil h2
  obtain ⟨xs, rfl, h3⟩ := hasW_list h1
  obtain ⟨ns, rfl⟩ := items_int h3
  have hlen : ns.length ≤ n := by
    unfold OpenLaw.pre at hc
    have h4 : (WTm.not (.lt (.lit (.int (n : Int))) (.len (.arg 0)))).holds [] { args := [.list (ns.map .int)] } = true := by
      have h4 := (holds_andW hc).1
      rw [hn] at h4
      exact h4
    have h5 := condW_of h4 (w_not (w_lt w_lit (w_len_list (w_arg rfl))))
    rw [List.length_map] at h5
    refine Nat.le_of_not_lt fun q => ?_
    have q' : (n : Int) < ((ns.length : Nat) : Int) := by omega
    first
      | (rw [decide_eq_true q'] at h5; exact absurd h5 (by decide))
      | (simp at h5; omega)
  cases hwl with
  | cons w1 w2 =>
    cases w2
    cases w1 with
    | list ho hall => exact ⟨_, _, ns, rfl, rfl, ho, ints_of_wellAll ns _ hall, hlen⟩
theorem post_true (l : OpenLaw) (args : List WData) : l.row.toRowW.claim.post args (.bool true) args = true :=
  postW_of (r := l.row.toRowW) (X := (true == true))
    (show WShape.has [] (.bool true) .bool = true by first | rfl | decide | simp [WShape.has, WShape.arms, WShape.armsAll])
    (show (WTm.eq .res (.lit (.bool true))).value [] { args := args, res := some (.bool true), after := args } = some (.bool (true == true)) from w_eq_bool (w_res rfl) w_lit) rfl
theorem attach_call {l : OpenLaw} {n : Nat} {q : Program} {loose : List Str} {XP : (Str → Option Value) → Heap → Prop} {YP : World → Heap → Prop} {d : DefRec}
    (hn : l.most = some n) (hdf : d.params.defaults = [])
    (call : ∀ (w : World) (s₀ s₁ : Shared) (mg mb : Str → Option Value) (fa : Addr) (o : Obj) (pm cd doc : Value) (a : Addr) (vs : List Value) (ns : List Int),
      Ground q loose [] XP w s₀ mg mb s₁.heap → YP w s₁.heap →
      s₁.heap.get? fa = some o → o.data = .func (docDef d.name d.params d.body d.scope pm cd doc) → s₁.heap.CodeRec cd d.name → mg d.name = some (.ref fa) →
      s₁.heap.get? a = some { cls := .type "list", data := .seq vs.toArray } → IntsAre vs ns → ns.length ≤ n → s₁.gens = #[] →
      codeAny (model l.prog w) callerA (.call (.ref fa) ⟨[.ref a], []⟩) (fun r s' => r = .ok (.ret (.bool true)) ∧ OldK s₁.heap s'.heap ∧ s'.os = s₁.os ∧ AllBare s'.gens) s₁) :
    WalkO q loose XP YP l.row.toRowW d [] (fun f vs => PySem.call f vs) := by
  intro w s₀ s₁ mg mb G Y fa o pm cd doc dV kV ho hd hcd hD hmg hg args vals as hpre hlay hrd hwl hlo
  obtain rfl : dV = .none := Dflts.none hD hdf
  obtain rfl : kV = .none := Dflts.noKw hD
  obtain ⟨a, vs, ns, rfl, rfl, hobj, hints, hlen⟩ := script_of hn hpre hwl
  refine enter_call (codeAny_mono (call w s₀ s₁ mg mb fa o pm cd doc a vs ns G Y ho (fd_plain hd) hcd hmg hobj hints hlen hg) fun r s' hq => ?_)
  obtain ⟨rfl, h2, h3, h4⟩ := hq
  exact ⟨.inl ⟨.bool true, .bool true, [], rfl, fun _ => rfl, .bool true, post_true l _, fun _ => ⟨List.Pairwise.nil, fun _ hm => (nomatch hm)⟩⟩, h2, h3, h4⟩
section
variable {prog : Program} {w : World} {A : Around} {E : Value → Shared → Prop} {s : Shared} {K : Frag}
def noObjs (h : Heap) : Heap := { h with objs := #[] }
def ledger (h : Heap) (L d : Addr) : List (Addr × Obj) := (List.range h.objs.size).filterMap fun a => if a = L ∨ a = d then none else (h.get? a).map fun o => (a, o)
end
end Att
namespace L2
open PySem PySem.Spec PyProof.Rows
theorem vals_ints : ∀ {vs : List Value} {ns : List Int}, IntsAre vs ns → Vals (ns.map V.int) vs
  | _, _, .nil => .nil
  | _, _, .cons n t h => .cons ⟨t, rfl⟩ (vals_ints h)
def Only (H : Hp) : Prop := ∀ b, H b = none ∨ ∃ o xs, H b = some (.frz o (.lst xs))
theorem law_call {P : Program} {w : World} {K : PySem.W.Frag} {mg mb : Str → Option Value} {CX : CXT} {k : Nat} {fa a : Addr} {fd : FuncData} {x : Str} {sp : Sp} {s₁ : Shared} {vs : List Value} {ns : List Int}
    (KX : K.In s₁.heap) (hns : s₁.heap.Ns mainGlobals mg) (hb : s₁.heap.Ns builtinsNs mb) (hbb : ∀ x : Str, x ≠ "__name__" → mb x = bootBuiltins x) (hlim : s₁.heap.NoLimit) (hg : s₁.gens = #[])
    (ha : s₁.heap.get? a = some { cls := .type "list", data := .seq vs.toArray }) (hi : IntsAre vs ns) (hl : ns.length ≤ sizeLine) (hr : Room k callerA)
    (F : ∀ base : Heap, K.In base → base.Ns mainGlobals mg → FnOk P w K mg base CX k fa fd [x] sp) (hbind : ∀ (s : Shared) (u : Value), BindsTo s fd ⟨[u], []⟩ [(x, u)])
    (hsp : ∀ H : Hp, Only H → SqL K H a (ns.map V.int) → sp [.ref a] H (fun v _ => v = .bl true) fun _ _ _ => False)
    (hCX : ∀ H e s', CX [] H s₁ (fun _ _ _ => False) e s' → False) :
    codeAny (model P w) callerA (.call (.ref fa) ⟨[.ref a], []⟩) (fun r s' => r = .ok (.ret (.bool true)) ∧ OldK s₁.heap s'.heap ∧ s'.os = s₁.os ∧ AllBare s'.gens) s₁ := by
  have rv := vals_ints hi
  have lenV := hi.length
  -- from an abstract heap in which nothing but the script may be tracked
  have core : ∀ H : Hp, Only H → SqL K H a (ns.map V.int) → HOk P w H s₁.heap → (∀ b, H b ≠ none → b = a) → (H a ≠ none → K.lookup a = none) →
      codeAny (model P w) callerA (.call (.ref fa) ⟨[.ref a], []⟩) (fun r s' => r = .ok (.ret (.bool true)) ∧ OldK s₁.heap s'.heap ∧ s'.os = s₁.os ∧ AllBare s'.gens) s₁ := by
    intro H hO hS hok hA hK
    have base_of : ∀ {b : Addr} {o : Obj}, s₁.heap.get? b = some o → H b = none → (hidT s₁.heap H).get? b = some o := fun e n => hidT_get e n
    have noA : ∀ {b : Addr} {o : Obj} {es : Array DictEntry} {ep : Nat}, s₁.heap.get? b = some o → o.data = .dict es ep → H b = none := fun {b o es ep} e d => by
      cases q : H b with
      | none => rfl
      | some u =>
        have e' : b = a := hA b (by rw [q]; simp)
        subst e'
        rw [ha] at e; cases e
        have d' : Data.seq vs.toArray _ = Data.dict es ep := d
        cases d'
    have nsK : ∀ {b : Addr} {m : Str → Option Value}, s₁.heap.Ns b m → (hidT s₁.heap H).Ns b m := fun {b m} ⟨o, es, ep, e, d, r⟩ => ⟨o, es, ep, base_of e (noA e d), d, r⟩
    have hKb : K.In (hidT s₁.heap H) := fun b o e => base_of (KX b o e) (by
      cases q : H b with
      | none => rfl
      | some u =>
        have e' : b = a := hA b (by rw [q]; simp)
        subst e'
        rw [hK (by rw [q]; simp)] at e; cases e)
    have hM : Mod K mg (hidT s₁.heap H) := ⟨hKb, nsK hns, ⟨mb, nsK hb, hbb⟩, let ⟨mc, h1, h2⟩ := hlim; ⟨mc, nsK h1, h2⟩⟩
    have e0 : Env0 P w K mg (hidT s₁.heap H) callerA [] s₁ H := ⟨rfl, hM, fun b o e => of_hidT e, Nat.le_of_eq (hidT_size _ _), trivial, fun b hb => absurd (show b ∈ ([] : List Addr) from hb) (by simp), hok, .of_eq hg⟩
    refine codeAny_mono ((F _ hKb (nsK hns)).run callerA [] s₁ H ⟨[.ref a], []⟩ [.ref a] [.ref a] _ _ hr e0 (hbind s₁ (.ref a)) (.cons rfl .nil) (hsp H hO hS)) fun r s' h => ?_
    cases r with
    | error e => exact (hCX H e s' h).elim
    | ok fl =>
      cases fl with
      | next => exact False.elim h
      | brk => exact False.elim h
      | cont => exact False.elim h
      | ret u =>
        obtain ⟨v, H', os, bare, un, hok', r', q⟩ := h
        have q' : v = .bl true := q
        subst q'
        obtain rfl : u = Value.bool true := r'
        refine ⟨rfl, OldK.of_keep fun b o e => ?_, os, bare⟩
        cases q : H b with
        | none => exact un.keep b o e q (by intro z; exact absurd (show b ∈ ([] : List Addr) from z) (by simp)) (by simp)
        | some u =>
          rcases hO b with z | ⟨ob, xs, z⟩
          · rw [q] at z; cases z
          · have z2 := un.frzs b ob _ z
            obtain ⟨e1, _⟩ := hok b _ z
            obtain ⟨e2, _⟩ := hok' b _ z2
            rw [e] at e1; cases e1
            exact e2
  cases hk : K.lookup a with
  | some o =>
    -- the script is one of the module's own objects
    have e := KX a o hk
    rw [ha] at e
    cases e
    refine core (fun _ => none) (fun _ => .inl rfl) (.inr ⟨_, vs.toArray, _, hk, rfl, rfl, rfl, by rw [List.size_toArray, lenV]; exact hl, by simpa using rv⟩) (fun b u z => by have z' : (none : Option HO) = some u := z; cases z') (fun b z => absurd rfl z) fun z => absurd rfl z
  | none =>
    refine core (fun b => if b = a then some (.frz { cls := .type "list", data := .seq vs.toArray } (.lst (ns.map V.int))) else none) (fun b => ?_) (.inl (.inr ⟨{ cls := .type "list", data := .seq vs.toArray }, if_pos rfl⟩)) (fun b u z => ?_) (fun b z => ?_) fun _ => hk
    · by_cases hb : b = a
      · exact .inr ⟨_, _, if_pos hb⟩
      · exact .inl (if_neg hb)
    · by_cases hb : b = a
      · have z' := (if_pos hb).symm.trans z
        cases z'
        subst hb
        exact ⟨ha, by rw [List.length_map]; exact hl, vs, _, rv, ha⟩
      · have z' := (if_neg hb).symm.trans z
        cases z'
    · by_cases hb : b = a
      · exact hb
      · exact absurd (if_neg hb) z
end L2
namespace L2
open PySem PySem.Spec PyProof.Rows
abbrev KOf {K : PySem.W.Frag} {h : Heap} (_ : K.In h) : PySem.W.Frag := K
theorem walk_of {l : PySem.W.OpenLaw} {n k : Nat} {q : Program} {loose : List Str} {XP : (Str → Option Value) → Heap → Prop} {YP : World → Heap → Prop} {d : DefRec} {K : Params → PySem.W.Frag} {CX : World → CXT} {sp : World → Sp} {x : Str}
    (hn : l.most = some n) (hn2 : n ≤ sizeLine) (hdf : d.params.defaults = []) (hr : Room k callerA)
    (hY : ∀ (w : World) (h : Heap), YP w h → (K w.params).In h)
    (F : ∀ (w : World) (mg : Str → Option Value) (fa : Addr) (h : Heap), (K w.params).In h → h.Ns mainGlobals mg → mg d.name = some (.ref fa) →
      ∃ fd : FuncData, (∀ (s : Shared) (u : Value), BindsTo s fd ⟨[u], []⟩ [(x, u)]) ∧
        ∀ base : Heap, (K w.params).In base → base.Ns mainGlobals mg → FnOk l.prog w (K w.params) mg base (CX w) k fa fd [x] (sp w))
    (hsp : ∀ (w : World) (H : Hp) (a : Addr) (ns : List Int), ns.length ≤ n → Only H → SqL (K w.params) H a (ns.map V.int) → sp w [.ref a] H (fun v _ => v = .bl true) fun _ _ _ => False)
    (hCX : ∀ (w : World) (H : Hp) (s : Shared) (e : Value) (s' : Shared), CX w [] H s (fun _ _ _ => False) e s' → False) :
    PySem.W.WalkO q loose XP YP l.row.toRowW d [] (fun f vs => PySem.call f vs) := by
  refine Att.attach_call hn hdf fun w s₀ s₁ mg mb fa o pm cd doc a vs ns G Y ho hd hcd hmg hobj hints hlen hg => ?_
  have KX := hY w _ Y
  obtain ⟨fd, hb, hF⟩ := F w mg fa _ KX G.T.g hmg
  exact law_call KX G.T.g G.T.b G.T.builtins G.T.nolimit hg hobj hints (Nat.le_trans hlen hn2) hr hF hb (fun H hO hS => hsp w H a ns hlen hO hS) fun H e s' => hCX w H s₁ e s'
end L2
namespace L2
open PySem PySem.Spec PyProof.Rows
def inClass (s : Stmt) (j : Nat) : Stmt := match s with
  | .ClassDef _ _ _ body _ _ _ _ _ _ _ => body.getD j (.Pass ⟨0, 0, 0, 0⟩)
  | _ => .Pass ⟨0, 0, 0, 0⟩
def defArgs (s : Stmt) : Arguments := match s with
  | .FunctionDef _ a _ _ _ _ _ _ _ _ => a
  | _ => { posonlyargs := [], args := [], vararg := none, kwonlyargs := [], kw_defaults := [], kwarg := none, defaults := [] }
def defBody (s : Stmt) : List Stmt := match s with
  | .FunctionDef _ _ b _ _ _ _ _ _ _ => b
  | _ => []
def defScope (s : Stmt) : Scope := match s with
  | .FunctionDef _ _ _ _ _ _ sc _ _ _ => sc
  | _ => { kind := .function, names := [], isGenerator := false, isCoroutine := false }
abbrev CX0 : CXT := fun _ _ _ _ _ _ => False
abbrev E0 : XK := fun _ _ _ => False
theorem pass0 {X : Cx} : Passes CX0 X E0 := fun _ _ _ _ _ _ _ h => h.elim
structure Fun (K : PySem.W.Frag) (x qual : Str) (st : Stmt) (f : Addr) (fd : FuncData) : Prop where
  ex : ∃ (oc : Value) (od : Option Addr) (kV doc pm : Value) (an : Option Addr) (cdv ct : Value) (osl : Array (Option Value)),
    fd = PySem.W.fnOf x qual (defArgs st) (defBody st) (defScope st) .none kV doc pm an cdv ct ∧ K.lookup f = some ⟨oc, od, .func fd, osl⟩ ∧ PySem.W.codeIn K cdv qual = true
  kp : PySem.W.keepIn K (.ref f) = true
section
variable {P : Program} {w : World} {K : PySem.W.Frag} {mg : Str → Option Value} {base : Heap}
theorem Fun.ok {x qual : Str} {st : Stmt} {f : Addr} {fd : FuncData} {N ps : List Str} {k : Nat} {sp : Sp} (F : Fun K x qual st f fd) (S : FnScope N ps (defScope st)) (len : ∀ vs H Q E, sp vs H Q E → vs.length = ps.length)
    (hbody : ∀ (cdv : Value) (A : Around) (outer : List Env) (s : Shared) (H : Hp) (vs : List V) (Q : VK) (E : XK), Room k (A.deeper (envOfC qual (defScope st) s.heap.objs.size f cdv)) → sp vs H Q E →
      ∃ t, PSs (cxOf CX0 P w K mg base N qual (defScope st) f cdv A outer s H E).nox (defBody st) t ∧ t { nx := fun _ H' => Q .non H', rt := Q } (start N vs) H) : FnOk P w K mg base CX0 (k + 1) f fd ps sp := by
  obtain ⟨oc, od, kV, doc, pm, an, cdv, ct, osl, rfl, lk, hcd⟩ := F.ex
  refine fn_of lk hcd S len fun A outer s H vs Q E hr hsp => ?_
  obtain ⟨t, h, q⟩ := hbody cdv A outer s H vs Q E hr hsp
  exact ⟨t, h.nox, q⟩
theorem Fun.binds {x qual : Str} {st : Stmt} {f : Addr} {fd : FuncData} {ps : List Str} (F : Fun K x qual st f fd)
    (h : ∀ (kV doc pm : Value) (an : Option Addr) (cdv ct : Value) (us : List Value), us.length = ps.length → bindArgs (PySem.W.fnOf x qual (defArgs st) (defBody st) (defScope st) .none kV doc pm an cdv ct) ⟨us, []⟩ = pure (ps.zip us)) : Binds K fd ps [] := by
  obtain ⟨oc, od, kV, doc, pm, an, cdv, ct, osl, rfl, lk, hcd⟩ := F.ex
  exact .all (h kV doc pm an cdv ct)
theorem fun_mk {x qual : Str} {st : Stmt} {f : Addr} {oc : Value} {od an : Option Addr} {osl : Array (Option Value)} {kV doc pm cdv ct : Value} (l : K.lookup f = some ⟨oc, od, .func (PySem.W.fnOf x qual (defArgs st) (defBody st) (defScope st) .none kV doc pm an cdv ct), osl⟩)
    (c : PySem.W.codeIn K cdv qual = true) (k : PySem.W.keepIn K (.ref f) = true) : Fun K x qual st f (PySem.W.fnOf x qual (defArgs st) (defBody st) (defScope st) .none kV doc pm an cdv ct) := ⟨⟨oc, od, kV, doc, pm, an, cdv, ct, osl, rfl, l, c⟩, k⟩
end
theorem hu_of {A : Around} {k : Nat} (hr : Room k A) : A.units + 1 < cLine := Nat.lt_of_le_of_lt (Nat.add_le_add_left (by decide : 1 ≤ 64) _) hr.units
section
variable {X : Cx}
theorem pv (i : Nat) {x : Str} {pos : Pos} (hN : X.N[i]? = some x := by rfl) (hv : Vis X.env.scope x := by first | exact Or.inl rfl | exact Or.inr (Or.inl rfl) | exact Or.inr (Or.inr rfl)) (hd : (x == ("__debug__" : Str)) = false := by decide)
    (hcd : (x == ("__classdict__" : Str)) = false := by decide) : PE X (.Name x pos) (tVar i) := pe_var hN hv hd hcd
end
theorem iteF {A B : Prop} (h : B) : if false = true then A else B := by
  rw [if_neg Bool.false_ne_true]
  exact h
theorem iteT {A B : Prop} (h : A) : if true = true then A else B := by
  rw [if_pos rfl]
  exact h
theorem ite2 {c A B : Prop} [Decidable c] (h1 : c → A) (h2 : ¬ c → B) : if c then A else B := by
  by_cases h : c
  · rw [if_pos h]
    exact h1 h
  · rw [if_neg h]
    exact h2 h
def Same (H H' : Hp) : Prop := ∀ b o, H b = some o → H' b = some o
theorem Same.refl (H : Hp) : Same H H := fun _ _ h => h
theorem Same.trans {H H1 H2 : Hp} (a : Same H H1) (b : Same H1 H2) : Same H H2 := fun c o h => b c o (a c o h)
theorem Same.free {H H' : Hp} (e : Same H H') {l : Addr} (h : H' l = Option.none) : H l = Option.none := by
  cases q : H l with
  | none => rfl
  | some o =>
    rw [e l o q] at h
    cases h
theorem Same.seq {K : PySem.W.Frag} {H H' : Hp} {a : Addr} {xs : List V} (e : Same H H') (h : SqL K H a xs) : SqL K H' a xs := by
  rcases h with (h | ⟨o, h⟩) | h
  · exact .inl (.inl (e _ _ h))
  · exact .inl (.inr ⟨o, e _ _ h⟩)
  · exact .inr h
end L2
namespace L2
open PySem PySem.Spec PyProof.Rows
section
variable {X : Cx}
end
section
variable {κ : Type} [DecidableEq κ]
theorem dropK_pos {p : κ × V} {r : List (κ × V)} {k : κ} (e : p.1 = k) : dropK (p :: r) k = dropK r k := by
  unfold dropK
  rw [List.filter_cons, if_neg (by simp [e])]
theorem dropK_neg {p : κ × V} {r : List (κ × V)} {k : κ} (e : ¬ p.1 = k) : dropK (p :: r) k = p :: dropK r k := by
  unfold dropK
  rw [List.filter_cons, if_pos (by simp [e])]
end
end L2
set_option Elab.async false
set_option linter.all false
set_option maxRecDepth 100000
set_option maxHeartbeats 4000000
namespace L2
open PySem PySem.Spec PyProof.Rows
section
variable {prog : Program} {w : World} {A : Around} {R : Result → Shared → Prop} {s : Shared}
theorem comp_loop {elt target iter : Expr} {ifs : List Expr} {scope : Scope} {pos : Pos} {it acc : Value} {env : Env} (J : Nat → Shared → Prop)
    (turn : ∀ n s, J n s → wpAny (model prog w) A (pyNext it) (fun r s₁ => match r with
      | none => R (.ok .next) s₁
      | some v => wpAny (model prog w) A (letOwnedTupleGo target it v) (fun _ s₂ => wpAny (model prog w) A (assign target env v) (fun _ s₃ =>
          wpAny (model prog w) A (forIn ifs true fun c r => if r = true then do let ok ← isTrue c env (eval c env); pure (ForInStep.yield ok) else pure (ForInStep.yield r)) (fun ok s₄ =>
            if ok = true then wpAny (model prog w) A (eval elt env) (fun x s₅ => wpAny (model prog w) A (call (.builtin "list.append") [acc, x]) (fun _ s₆ => ∃ m, m < n ∧ J m s₆) (fun _ _ => False) s₅) (fun _ _ => False) s₄
            else ∃ m, m < n ∧ J m s₄) (fun _ _ => False) s₃) (fun _ _ => False) s₂) (fun _ _ => False) s₁) (fun _ _ => False) s)
    (n : Nat) (h : J n s) : codeAny (model prog w) A (.compLoop (.ListComp elt [⟨target, iter, ifs, 0⟩] scope pos) 0 it acc env) R s := by
  refine codeAny_loop rfl J (fun n s hJ => ?_) n h
  show wpAny _ A ((compTurn (.ListComp elt [⟨target, iter, ifs, 0⟩] scope pos) 0 it acc env).onRaise (fun x => do noteFrame x env; theTreesLotGoes x)) _ _ s
  refine wpAny_noted ?_
  rw [compTurn_list]
  refine wpAny_bind (wpAny_standAt (wpAny_bind (wpAny_mono (turn n s hJ) (fun r s₁ h₁ => ?_) fun _ _ f => f.elim)))
  cases r with
  | none => exact wpAny_pure h₁
  | some v =>
    refine wpAny_bind (wpAny_mono h₁ (fun _ s₂ h₂ => wpAny_bind (wpAny_mono h₂ (fun _ s₃ h₃ => wpAny_bind (wpAny_mono h₃ (fun ok s₄ h₄ => ?_) fun _ _ f => f.elim)) fun _ _ f => f.elim)) fun _ _ f => f.elim)
    cases ok with
    | false => exact wpAny_pure ⟨rfl, h₄⟩
    | true => exact wpAny_bind (wpAny_bind (wpAny_mono h₄ (fun x s₅ h₅ => wpAny_bind (wpAny_mono h₅ (fun _ s₆ h₆ => wpAny_pure (wpAny_pure ⟨rfl, h₆⟩)) fun _ _ f => f.elim)) fun _ _ f => f.elim))
end
theorem closure_fold {env : Env} : ∀ (names : List (Str × NameKind)) (acc : List (Str × Addr)), (∀ y ∈ names, y.2 = NameKind.free → ∃ c, env.cells.lookup y.1 = some c) → (∀ y c, acc.lookup y = some c → env.cells.lookup y = some c) →
    ∃ cl, (forIn names acc fun (x : Str × NameKind) (r : List (Str × Addr)) => (match x with
        | (name, kind) => if (kind == NameKind.free) = true then do let c ← cellOf env name; pure (ForInStep.yield ((name, c) :: r)) else pure (ForInStep.yield r) : Sem (ForInStep (List (Str × Addr))))) = pure cl ∧
      (∀ y c, cl.lookup y = some c → env.cells.lookup y = some c) ∧ (∀ y, ((y, NameKind.free) ∈ names ∨ ∃ c, acc.lookup y = some c) → ∃ c, cl.lookup y = some c)
  | [], acc, _, ha => ⟨acc, by rw [List.forIn_nil], ha, fun y h => h.elim (fun z => nomatch z) id⟩
  | (n, k) :: r, acc, hf, ha => by
    rw [List.forIn_cons]
    dsimp only
    by_cases hk : k = NameKind.free
    · subst hk
      obtain ⟨c, hc⟩ := hf (n, .free) List.mem_cons_self rfl
      have e : cellOf env n = pure c := by unfold cellOf; rw [hc]
      rw [if_pos (by rfl), e]
      obtain ⟨cl, h1, h2, h3⟩ := closure_fold r ((n, c) :: acc) (fun y hy => hf y (List.mem_cons_of_mem _ hy)) (fun y d hd => by
        rw [List.lookup_cons] at hd
        by_cases hy : (y == n) = true
        · rw [hy] at hd
          have := eq_of_beq hy
          subst this
          cases hd
          exact hc
        · rw [Bool.not_eq_true] at hy
          rw [hy] at hd
          exact ha y d hd)
      refine ⟨cl, h1, h2, fun y hy => h3 y ?_⟩
      rcases hy with hy | ⟨d, hd⟩
      · rcases List.mem_cons.mp hy with z | z
        · cases z
          exact .inr ⟨c, by rw [List.lookup_cons]; simp⟩
        · exact .inl z
      · refine .inr ?_
        rw [List.lookup_cons]
        by_cases hy : (y == n) = true
        · rw [hy]; exact ⟨c, rfl⟩
        · rw [Bool.not_eq_true] at hy
          rw [hy]; exact ⟨d, hd⟩
    · rw [if_neg (by simpa using hk)]
      obtain ⟨cl, h1, h2, h3⟩ := closure_fold r acc (fun y hy => hf y (List.mem_cons_of_mem _ hy)) ha
      refine ⟨cl, h1, h2, fun y hy => h3 y ?_⟩
      rcases hy with hy | hy
      · rcases List.mem_cons.mp hy with z | z
        · cases z; exact absurd rfl hk
        · exact .inl z
      · exact .inr hy
theorem closure_ok {scope : Scope} {env : Env} (hf : ∀ y ∈ scope.names, y.2 = NameKind.free → ∃ c, env.cells.lookup y.1 = some c) :
    ∃ cl, closureFor scope env = pure cl ∧ (∀ y c, cl.lookup y = some c → env.cells.lookup y = some c) ∧ (∀ y, (y, NameKind.free) ∈ scope.names → ∃ c, cl.lookup y = some c) := by
  obtain ⟨cl, h1, h2, h3⟩ := closure_fold (env := env) scope.names [] hf (fun _ _ z => nomatch z)
  refine ⟨cl, ?_, h2, fun y hy => h3 y (.inl hy)⟩
  simp only [closureFor]
  rw [h1]
  rfl
theorem mem_of_lookup {κ : Type} {y : Str} {k : κ} : ∀ {l : List (Str × κ)}, l.lookup y = some k → (y, k) ∈ l
  | (n, c) :: r, h => by
    rw [List.lookup_cons] at h
    by_cases hy : (y == n) = true
    · rw [hy] at h; cases h; rw [eq_of_beq hy]; exact List.mem_cons_self
    · rw [Bool.not_eq_true] at hy; rw [hy] at h; exact List.mem_cons_of_mem _ (mem_of_lookup h)
theorem relabel_free {scope : Scope} {env : Env} (hcell : ∀ y ∈ scope.names, y.2 ≠ NameKind.cell) {y : Str} {k : NameKind} (h : (relabel scope env).names.lookup y = some k) (hk : k = .cell ∨ k = .free) : (y, NameKind.free) ∈ scope.names := by
  have m := mem_of_lookup h
  unfold relabel at m
  obtain ⟨⟨n, c⟩, hm, e⟩ := List.mem_map.mp m
  dsimp only at e
  by_cases hc : (c == NameKind.free) = true
  · have := eq_of_beq hc
    subst this
    split at e <;> (injection e with e1 e2; subst e1; exact hm)
  · rw [if_neg (by simp [hc])] at e
    injection e with e1 e2
    subst e1 e2
    rcases hk with rfl | rfl
    · exact absurd rfl (hcell _ hm)
    · exact absurd rfl hc
abbrev cxComp (X : Cx) (scope : Scope) (cl : List (Str × Addr)) (N : List Str) (C : Addr) (s₂ : Shared) (H₂ : Hp) (fp : List Addr) : Cx :=
  { X with N := N, s₀ := s₂, H₀ := H₂, env := compEnvC scope cl C X.env, outer := X.stack, stack := X.stack, ex := fp, fn := fun _ => false, pn := [], xe := fun _ _ => False }
def PF (X : Cx) (ifs : List Expr) (t : TT) : Prop :=
  ∀ (pins : List (Addr × Obj)) (s : Shared) (σ : St) (H : Hp) (Q : Bool → Hp → Prop), Inv X pins σ H s → t σ H Q →
    wpAny (model X.prog X.w) X.A (forIn ifs true fun c r => if r = true then do let ok ← isTrue c X.env (eval c X.env); pure (ForInStep.yield ok) else pure (ForInStep.yield r)) (TP X pins σ Q) X.xe s
theorem pf_nil {X : Cx} : PF X [] (fun _ H Q => Q true H) := fun _ _ _ H _ I h => wpAny_tests_nil ⟨H, I, h⟩
theorem pf_one {X : Cx} {c : Expr} {t : TT} (h : PT X c t) : PF X [c] t := fun pins s σ H Q I q => wpAny_tests_one (h pins s σ H Q I q)
def cSt (σ : St) (fr : List (Nat × Str)) (v : Option V) : St := v :: fr.map fun p => (σ[p.1]?).join
def tComp (wi : TI) (fr : List (Nat × Str)) (tc : TT) (te : TE) : TE := fun σ H Q => wi σ H fun J H1 => ∃ W : Nat → Nat → List V → Hp → Prop, (∃ m, W 0 m [] H1) ∧ ∀ i m ys H, W i m ys H →
  (J.stop i H ∧ ys.length ≤ sizeLine ∧ ∀ p, H p = none → Q (.ref p) (upd H p (.lst ys))) ∨
  (J.go i H ∧ ys.length ≤ sizeLine ∧ ∀ v H', J.yld i H v H' → tc (cSt σ fr (some v)) H' fun b H2 => if b = true then te (cSt σ fr (some v)) H2 fun y H3 => ∃ m', m' < m ∧ W (i + 1) m' (ys ++ [y]) H3 else ∃ m', m' < m ∧ W (i + 1) m' ys H2)
theorem Vals.snoc {xs : List V} {us : List Value} {x : V} {u : Value} (r : Vals xs us) (q : RelV x u) : Vals (xs ++ [x]) (us ++ [u]) := Vals.append r (.cons q .nil)
section
variable {X : Cx}
end
end L2
set_option Elab.async false
set_option linter.all false
set_option maxRecDepth 100000
set_option maxHeartbeats 4000000
namespace L2
open PySem PySem.Spec PyProof.Rows
def TagOf (H : Hp) (x : V) (T : String) : Prop := match x with
  | .non => T = "NoneType"
  | .bl _ => T = "bool"
  | .int _ => T = "int"
  | .str _ => T = "str"
  | .ref a => ((∃ xs, H a = some (.lst xs)) ∧ T = "list") ∨ ((∃ xs, H a = some (.tup xs)) ∧ T = "tuple") ∨ ((∃ kvs, H a = some (.dK kvs)) ∧ T = "dict")
  | _ => False
def instB (T C : String) : Bool := T == C || (T == "bool" && C == "int")
theorem TagOf.ty {K : PySem.W.Frag} {H : Hp} {x : V} {T : String} (h : TagOf H x T) : TyOf K H x (.type T) := by
  cases x with
  | non => cases (show T = "NoneType" from h); exact .non
  | bl b => cases (show T = "bool" from h); exact .bl b
  | int i => cases (show T = "int" from h); exact .int i
  | str z => cases (show T = "str" from h); exact .str z
  | ref a =>
    rcases h with ⟨⟨xs, e⟩, rfl⟩ | ⟨⟨xs, e⟩, rfl⟩ | ⟨⟨xs, e⟩, rfl⟩
    · exact .lst e
    · exact .tup e
    · exact .dK e
  | _ => exact h.elim
theorem TagOf.one {H : Hp} {x : V} {T : String} (h : TagOf H x T) : T = "NoneType" ∨ T = "bool" ∨ T = "int" ∨ T = "str" ∨ T = "list" ∨ T = "tuple" ∨ T = "dict" := by
  cases x with
  | non => exact .inl h
  | bl b => exact .inr (.inl h)
  | int i => exact .inr (.inr (.inl h))
  | str z => exact .inr (.inr (.inr (.inl h)))
  | ref a =>
    rcases h with ⟨_, rfl⟩ | ⟨_, rfl⟩ | ⟨_, rfl⟩ <;> simp
  | _ => exact h.elim
def isiC : List String := ["int", "str", "bool", "tuple", "list"]
theorem kit_of (K : PySem.W.Frag) {T C : String} (h : T = "NoneType" ∨ T = "bool" ∨ T = "int" ∨ T = "str" ∨ T = "list" ∨ T = "tuple" ∨ T = "dict") (hC : C ∈ isiC) : PySem.W.kitOne K (.type T) (.type C) = some (instB T C) := by
  have hC : C = "int" ∨ C = "str" ∨ C = "bool" ∨ C = "tuple" ∨ C = "list" := by simpa [isiC] using hC
  rcases h with rfl | rfl | rfl | rfl | rfl | rfl | rfl <;> rcases hC with rfl | rfl | rfl | rfl | rfl <;> kernel_rfl
section
variable {X : Cx}
theorem call_isinst : CallR X (.builtin "isinstance") (fun xs H Q => ∃ x C T, xs = [x, .ty C] ∧ TagOf H x T ∧ C ∈ isiC ∧ Q (.bl (instB T C)) H) := by
  intro pins s σ H xs us Q I r h
  obtain ⟨x, C, T, rfl, ht, hC, q⟩ := h
  obtain ⟨u, w', rfl, rx, ry⟩ := vals2 r
  cases (show w' = Value.type C from ry)
  exact isinst_ok I rx ht.ty (kit_of X.K ht.one hC) fun tk => ⟨.bl _, H, I.tok tk, rfl, q⟩
theorem all_range {ys : List V} {its : List Value} (rv : Vals ys its) (hb : ∀ y ∈ ys, ∃ b, y = V.bl b) : ((List.range its.length).all fun i => decide (ys[i]? = some (V.bl true))) = ys.all fun y => decide (y = V.bl true) := by
  have hl := rv.length
  rw [Bool.eq_iff_iff, List.all_eq_true, List.all_eq_true]
  constructor
  · intro h y hy
    obtain ⟨i, hi, rfl⟩ := List.getElem_of_mem hy
    have := h i (List.mem_range.mpr (by omega))
    simpa [hi] using this
  · intro h i hi
    have hi' : i < ys.length := by have := List.mem_range.mp hi; omega
    have := h ys[i] (List.getElem_mem hi')
    simpa [hi'] using this
theorem call_allL (hc : X.calm = true) : CallR X (.builtin "all") (fun xs H Q => ∃ p ys, xs = [.ref p] ∧ SqL X.K H p ys ∧ (∀ y ∈ ys, ∃ b, y = V.bl b) ∧ Q (.bl (ys.all fun y => decide (y = V.bl true))) H) := by
  intro pins s σ H xs us Q I r h
  obtain ⟨p, ys, rfl, hq, hb, q⟩ := h
  obtain ⟨u, rfl, rx⟩ := vals1 r
  cases rx
  obtain ⟨its, rv, pl, hz⟩ := I.list hq
  have hne : p ≠ s.heap.objs.size := by
    obtain ⟨o, e, _⟩ := pl.isList
    exact Nat.ne_of_lt (Heap.lt_size e)
  refine call_all_walk (wpAny_pyIter_list pl.isList ?_)
  refine ⟨s.heap.objs.size, _, _, _, _, _, fun i => decide (ys[i]? = some (V.bl true)), rfl, Walks.list (show X.A.in1.handled = none from I.ok.hd hc) s.heap.objs.size p hne its.toArray, ⟨⟨_, Heap.get?_push_size _ rfl, rfl, rfl⟩, pl.isList.at fun o e => Heap.get?_push_of_some _ e⟩, ?_, ?_⟩
  · intro i v s' Q' E' hv hQ'
    have hv : its[i]? = some v := by simpa using hv
    obtain ⟨hi, e⟩ := List.getElem?_eq_some_iff.mp hv
    have hi' : i < ys.length := by rw [rv.length]; exact hi
    obtain ⟨b, eb⟩ := hb ys[i] (List.getElem_mem hi')
    obtain ⟨u, e1, e2⟩ := rv.get (i := i) (x := ys[i]) (by simp [hi'])
    rw [hv] at e1
    cases e1
    rw [eb] at e2
    cases (show v = Value.bool b from e2)
    have : decide (ys[i]? = some (V.bl true)) = b := by
      rw [List.getElem?_eq_getElem hi', eb]
      cases b <;> simp
    exact wpAny_truthy_bool (this ▸ hQ')
  · intro h' tk hk
    have e := all_range rv hb
    rw [← List.size_toArray] at e
    refine ⟨.bl _, H, I.kept (t' := tk) fun b o z => hk b o ?_ (Heap.get?_push_of_some _ z), rfl, e.symm ▸ q⟩
    intro hb'
    rw [List.mem_singleton.mp hb'] at z
    exact absurd (Heap.lt_size z) (Nat.lt_irrefl _)
def CDivB (i j : Int) : Prop := 0 < j ∧ j < 2 ^ 64
theorem op_fdivB : OpR X (binaryOp .FloorDiv) (rI CDivB fun i j => .int (i / j)) := opI fun i j _ _ _ _ _ hc q => by
  obtain ⟨h0, h1⟩ := hc
  refine floordiv_int (by omega) ?_ (.inl (PyProof.noPylong_of_log2 ?_))
  · rw [Int.fdiv_eq_ediv_of_nonneg _ (by omega)]
    exact q
  · have : j.natAbs.log2 < 64 := (Nat.log2_lt (by omega)).mpr (by omega)
    omega
structure KDict (K : PySem.W.Frag) (P : Params) (a : Addr) (kvs : List (Str × V)) : Prop where
  ex : ∃ es n, K.lookup a = some ⟨.type "dict", none, .dict es n, #[]⟩ ∧ Paired (fun (p : Str × V) (e : DictEntry) => (∃ t, e.key = .str p.1 t) ∧ e.hash = PyData.keyHash P p.1 ∧ RelV p.2 e.val) kvs es.toList
  lo : (a == sysModules) = false
structure KDictT (K : PySem.W.Frag) (P : Params) (a : Addr) (kvs : List ((Str × Str) × V)) : Prop where
  ex : ∃ es n, K.lookup a = some ⟨.type "dict", none, .dict es n, #[]⟩ ∧ Paired (fun (p : (Str × Str) × V) (e : DictEntry) => (∃ (b : Addr) (t t' : Tok) (m : Nat), e.key = .ref b ∧ K.lookup b = some ⟨.type "tuple", none, .seq #[.str p.1.1 t, .str p.1.2 t'] m, #[]⟩) ∧
    e.hash = reduceHash (Builtin.Tuple.tupleHashOf [PyData.keyHash P p.1.1, PyData.keyHash P p.1.2]) ∧ RelV p.2 e.val) kvs es.toList
  nd : (kvs.map (·.1)).Nodup
  lo : (a == sysModules) = false
end
end L2
namespace L2
open PySem PySem.Spec PyProof.Rows
structure Cal (P : Program) (w : World) (K : PySem.W.Frag) (mg : Str → Option Value) (base : Heap) (x : Str) (ps : List Str) (k : Nat) (sp : Sp) : Prop where
  ex : ∃ f fd, FnOk P w K mg base CX0 k f fd ps sp ∧ mg x = some (.ref f) ∧ PySem.W.keepIn K (.ref f) = true ∧ Binds K fd ps []
section
variable {X : Cx} {x : Str} {ps : List Str} {k : Nat} {sp : Sp} {e : Expr} {es : List Expr} {t : TA} {p pos : Pos}
theorem pe_cal (c : Cal X.prog X.w X.K X.mg X.base x ps k sp) (hr : Room k X.A) (hg : Gl X x) (ha : PA X (e :: es) t) (hn : x ≠ "__name__" := by decide) (hdb : (x == ("__debug__" : Str)) = false := by decide)
    (he : starEach (e :: es) X.env = (false, eval e X.env) :: starEach es X.env := by rfl) (hpl : (backTo pos (starEach es X.env)).any (·.1) = false := by rfl) : PE X (.Call (.Name x p) (e :: es) [] pos) (tCall sp [] E0 t) := by
  obtain ⟨f, fd, F, hm, hk, hb⟩ := c.ex
  exact pe_call F hr hg hm hk hb .nil pass0 ha hdb he hpl
end
structure TX (K : PySem.W.Frag) (mg : Str → Option Value) : Prop where
  of : ∀ {n : Str} {v : Value}, PySem.W.nsIn K mainGlobals n = some (some v) → mg n = some v
  no : ∀ {n : Str}, PySem.W.nsIn K mainGlobals n = some none → mg n = none
theorem TX.mk' {K : PySem.W.Frag} {mg : Str → Option Value} {h : Heap} (X : K.In h) (G : h.Ns mainGlobals mg) : TX K mg := ⟨fun e => PySem.W.mg_of X G e, fun e => PySem.W.mg_none_of X G e⟩
end L2
namespace L2
open PySem PySem.Spec PyProof.Rows
section
variable {X : Cx}
def rAdd4 (K : PySem.W.Frag) : R2 := fun x y H Q => (∃ i j, x = .int i ∧ y = .int j ∧ Q (.int (i + j)) H) ∨ (∃ i j, x = .str i ∧ y = .str j ∧ i.length + j.length ≤ sizeLine ∧ Q (.str (i ++ j)) H) ∨ rCat x y H Q ∨ rCatT K x y H Q
theorem opAdd : OpR X (binaryOp .Add) (rAdd4 X.K) := op_add.or (op_add_str.or (op_cat.or op_catT))
theorem opEq : OpR X (compareOp .Eq) rEq := op_eq
theorem callLen : CallR X (.builtin "len") (fun xs H Q => (∃ p ys, xs = [.ref p] ∧ (SqL X.K H p ys ∨ SqT X.K H p ys) ∧ Q (.int ys.length) H) ∨ ∃ z, xs = [.str z] ∧ z.length ≤ sizeLine ∧ Q (.int z.length) H) := call_len_seq.or call_len_str
end
end L2
set_option Elab.async false
set_option linter.all false
set_option maxRecDepth 100000
set_option maxHeartbeats 4000000
namespace L2
open PySem PySem.Spec PyProof.Rows
def wholeIn (x : V) (g : Int) : Bool := match x with
  | .int i => decide (-g ≤ i) && decide (i ≤ g)
  | _ => false
def tupOf (H : Hp) (x : V) : Option (List V) := match x with
  | .ref a => (match H a with | some (.tup xs) => some xs | _ => none)
  | _ => none
def Flat (H : Hp) (x : V) : Prop := ∀ xs, tupOf H x = some xs → xs.length ≤ 1000 ∧ ∀ y ∈ xs, ∃ T, TagOf H y T
theorem free_none {names : List (Str × NameKind)} {Q : Str × NameKind → Prop} (h : (names.all fun y => y.2 != NameKind.free) = true) : ∀ y ∈ names, y.2 = NameKind.free → Q y := fun y hy e => by
  have := List.all_eq_true.mp h y hy
  rw [e] at this
  exact absurd this (by decide)
theorem Same.upd {H : Hp} {p : Addr} {o : HO} (h : H p = none) : Same H (upd H p o) := fun b u e => by
  rw [upd_ne (ne_of_none e h)]
  exact e
theorem Same.seqT {K : PySem.W.Frag} {H H' : Hp} {a : Addr} {xs : List V} (e : Same H H') (h : SqT K H a xs) : SqT K H' a xs := by
  rcases h with (h | ⟨o, h⟩) | h
  · exact .inl (.inl (e _ _ h))
  · exact .inl (.inr ⟨o, e _ _ h⟩)
  · exact .inr h
end L2
set_option Elab.async false
set_option linter.all false
set_option maxRecDepth 100000
set_option maxHeartbeats 4000000
namespace L2
open PySem PySem.Spec PyProof.Rows
open Builtin.Str (occurrences partsBetween strKind)
section
variable {X : Cx}
def rSplit : V → List V → Hp → VK → Prop := fun x vs H Q => ∃ z y, x = .str z ∧ vs = [.str y] ∧ (y.length == 0) = false ∧ z.length ≤ sizeLine ∧ (partsBetween z (occurrences z y 0 z.length (z.length + 1)) y.length).length ≤ sizeLine ∧
  ∀ p, H p = none → Q (.ref p) (upd H p (.lst ((Txt.split z y).map V.str)))
def rUpper : V → List V → Hp → VK → Prop := fun x vs H Q => ∃ z, x = .str z ∧ vs = [] ∧ z.length ≤ 5592405 ∧ ((Txt.upper z).length ≤ 3 * z.length → Q (.str (Txt.upper z)) H)
theorem isPart_of {vl : Value} {lo : Option Int} (p : IsPart vl lo) : ∃ l : Option (Int × Tok), vl = partValue l ∧ l.map (·.1) = lo := by
  cases p with
  | none => exact ⟨none, rfl, rfl⟩
  | int i t => exact ⟨some (i, t), rfl, rfl⟩
end
end L2
set_option Elab.async false
set_option linter.all false
set_option maxRecDepth 100000
set_option maxHeartbeats 4000000
namespace L2
open PySem PySem.Spec PyProof.Rows
section
variable {X : Cx}
def rSlS : V → Option Int → Option Int → Hp → VK → Prop := fun x lo hi H Q => ∃ z, x = .str z ∧ z.length ≤ sizeLine ∧ Q (.str (Txt.slice z lo hi)) H
theorem sl_str : SlR X rSlS := by
  intro pins s σ H x v vl vu lo hi sl Q I rx hs pl pu h
  obtain ⟨z, rfl, hz, q⟩ := h
  obtain ⟨t, rfl⟩ := rx
  obtain ⟨l, rfl, el⟩ := isPart_of pl
  obtain ⟨u, rfl, eu⟩ := isPart_of pu
  subst el eu
  refine ⟨"str", _, F.slot_str_getitem.lookup, typeIs_str _ _ _, wpAny_getItem_str_slice (l := l) (u := u) (st := none) hs rfl
    (post_val_or_str ⟨Nat.le_trans (Txt.slice_le z _ _) hz, fun t' k => ⟨.str (Txt.slice z _ _), H, I.tok k, ⟨t', rfl⟩, q⟩⟩)⟩
theorem slSeq : SlR X (fun x lo hi H Q => rSlL X.K x lo hi H Q ∨ rSlT X.K x lo hi H Q ∨ rSlS x lo hi H Q) := sl_list.or (sl_tup.or sl_str)
end
def Itr3 (lo c : Int) (n : Nat) : It := ⟨fun i _ => i < n, fun i H x H' => H' = H ∧ x = .int (lo + i * c), fun i _ => n ≤ i⟩
section
variable {X : Cx} {tg : Expr}
def iRng3 (ta : TA) : TI := fun σ H R => ta σ H fun vs H1 => ∃ i j c : Int, vs = [.int i, .int j, .int c] ∧ c ≠ 0 ∧ Builtin.divisionGoesByPylong (j - i) c = false ∧ Builtin.Range.small i j c = true ∧ 0 ≤ Builtin.Range.rangeSize i j c ∧ R (Itr3 i c (Builtin.Range.rangeSize i j c).toNat) H1
end
end L2
set_option Elab.async false
set_option linter.all false
set_option maxRecDepth 100000
set_option maxHeartbeats 4000000
namespace L2
open PySem PySem.Spec PyProof.Rows
def RowAt (H : Hp) (r : Addr) : Prop := ∃ a b c : Int, H r = some (.lst [.int a, .int b, .int c]) ∧ 0 ≤ c ∧ c < 536870909
def Kept (r : Addr) (H H' : Hp) : Prop := ∀ b o, b ≠ r → H b = some o → H' b = some o
theorem Kept.trans {r : Addr} {H H1 H2 : Hp} (a : Kept r H H1) (b : Kept r H1 H2) : Kept r H H2 := fun c o n h => b c o n (a c o n h)
theorem Same.kept {r : Addr} {H H' : Hp} (s : Same H H') : Kept r H H' := fun b o _ h => s b o h
theorem Kept.set {r : Addr} {H : Hp} {o : HO} : Kept r H (upd H r o) := fun b u n h => by rw [upd_ne n]; exact h
structure Rw (r : Addr) (H H' : Hp) : Prop where
  k : Kept r H H'
  r : RowAt H' r
theorem Rw.trans {r : Addr} {H H1 H2 : Hp} (a : Rw r H H1) (b : Rw r H1 H2) : Rw r H H2 := ⟨a.k.trans b.k, b.r⟩
theorem RowAt.same {r : Addr} {H H' : Hp} (h : RowAt H r) (s : Same H H') : RowAt H' r := by
  obtain ⟨a, b, c, e, h⟩ := h
  exact ⟨a, b, c, s _ _ e, h⟩
theorem Rw.same {r : Addr} {H H1 H2 : Hp} (a : Rw r H H1) (s : Same H1 H2) : Rw r H H2 := ⟨a.k.trans s.kept, a.r.same s⟩
theorem RowAt.fresh {r p : Addr} {H : Hp} (h : RowAt H r) (e : H p = none) : p ≠ r := by
  obtain ⟨a, b, c, e2, _⟩ := h
  intro z
  subst z
  rw [e] at e2
  cases e2
def Off (r : Addr) (H : Hp) (x : V) : Prop := ∃ T, TagOf H x T ∧ x ≠ .ref r
def Good (r : Addr) (H : Hp) (x : V) : Prop := Off r H x ∧ ∀ xs, tupOf H x = some xs → xs.length ≤ 1000 ∧ ∀ y ∈ xs, Off r H y
def GE (r : Addr) (te : TE) (σ : St) (H0 : Hp) : Prop := ∀ H, Same H0 H → ∀ Q : VK, (∀ x H', Same H H' → Good r H' x → Q x H') → te σ H Q
def GA (r : Addr) (n : Nat) (ta : TA) (σ : St) (H0 : Hp) : Prop := ∀ H, Same H0 H → ∀ Q : List V → Hp → Prop, (∀ xs H', Same H H' → xs.length = n → (∀ y ∈ xs, Good r H' y) → Q xs H') → ta σ H Q
section
variable {r : Addr} {σ : St} {H0 : Hp} {te : TE} {ta : TA} {n : Nat}
end
theorem atI_of {α : Type} {xs : List α} {t : Int} (h0 : 0 ≤ t) (h1 : t < xs.length) : ∃ v, atI xs t = some v ∧ v ∈ xs := by
  have hl : t.toNat < xs.length := by omega
  refine ⟨xs[t.toNat], ?_, List.getElem_mem hl⟩
  have := atI_nat (xs := xs) (j := t.toNat) (v := xs[t.toNat]) (by simp [hl])
  rw [Int.toNat_of_nonneg h0] at this
  exact this
theorem seq_if {c : TT} {t u rest : TS} {D : Ends} {σ : St} {H : Hp} (R : Hp → Prop) (hr : ∀ H1, R H1 → rest D σ H1) (h : (∀ H1, R H1 → rest D σ H1) → tIfS c t u { D with nx := rest D } σ H) : tSeq (tIfS c t u) rest D σ H := h hr
end L2
set_option Elab.async false
set_option linter.all false
set_option maxRecDepth 100000
set_option maxHeartbeats 4000000
namespace L2
open PySem PySem.Spec PyProof.Rows
section
variable {r : Addr} {σ : St} {H0 : Hp} {K : PySem.W.Frag}
theorem g_name {i : Nat} {v : V} {σ : St} {H : Hp} {Q : St → Hp → Prop} (h : Q (σ.set i (some v)) H) : gName i v σ H Q := h
theorem t_nx {nx ct bk : St → Hp → Prop} {rt : VK} {σ : St} {H : Hp} (h : nx σ H) : Ends.nx { nx := nx, rt := rt, bk := bk, ct := ct } σ H := h
end
end L2
set_option Elab.async false
set_option linter.all false
set_option maxRecDepth 100000
set_option maxHeartbeats 4000000
namespace L2
open PySem
section
variable {prog : Program} {w : World} {A : Around} {E : Value → Shared → Prop} {s : Shared}
theorem tupOn {it t : Addr} {i : Nat} {its : Array Value} {x : Value} {Q : Value → Shared → Prop} (a : s.heap.IsTupleIter it t i) (b : s.heap.IsTuple t its) (c : its[i]? = some x)
    (q : ∀ h', h'.IsTupleIter it t (i + 1) → Heap.SameBut it s.heap h' → Q x { s with heap := h' }) : wpAny (model prog w) A (Builtin.SmallTypes.nextOf (.ref it)) Q E s := by
  obtain ⟨o, o1, o2, o3⟩ := id a
  obtain ⟨p, p1, _, n, p2⟩ := b
  unfold Builtin.SmallTypes.nextOf
  refine wpAny_bind (wpAny_callSpecial?_slot (name := Str.ofString "__next__") a.typeIs F.slot_tuple_iterator_next (wpAny_call_entry F.slot_tuple_iterator_next a.typeIs F.entry_tuple_iterator_next (show wpAny _ _ (field (.ref it) 0 >>= _) _ _ s from wpAny_bind (wpAny_field o1 o3 (x := .ref t) rfl ?_)) (F.args_tuple_iterator_next_1 _)))
  show wpAny _ _ (if (Value.ref t == Value.none) = true then _ else (field (.ref it) 1 >>= _)) _ _ s
  rw [if_neg (by exact Bool.false_ne_true)]
  refine wpAny_bind (wpAny_field o1 o3 (x := .int i 0) rfl (show wpAny _ _ (seqItems? (.ref t) >>= _) _ _ s from wpAny_bind (wpAny_seqItems p1 p2 ?_)))
  simp only [Int.toNat_natCast, c]
  refine wpAny_bind (wpAny_setField o1 o3 (by simp) (wpAny_pure ⟨x, rfl, wpAny_pure (q _ ⟨_, Heap.get?_update_self _ o1 (Obj.isFreed_of_fields (Obj.data_mapFields o3 _)), (Obj.cls_mapFields ..).trans o2, ?_⟩ (Heap.SameBut.update ..))⟩))
  rw [Obj.data_mapFields o3]
  simp [rawInt]
theorem tupOff {it t : Addr} {i : Nat} {its : Array Value} {Q : Value → Shared → Prop} (hh : A.handled = none) (a : s.heap.IsTupleIter it t i) (b : s.heap.IsTuple t its) (c : its[i]? = none)
    (q : ∀ h' e, Heap.ExtBut it s.heap h' → (∃ o, h'.get? e = some o ∧ o.cls = .type "StopIteration") → E (.ref e) { s with heap := h' }) : wpAny (model prog w) A (Builtin.SmallTypes.nextOf (.ref it)) Q E s := by
  obtain ⟨o, o1, o2, o3⟩ := id a
  obtain ⟨p, p1, _, n, p2⟩ := b
  unfold Builtin.SmallTypes.nextOf
  refine wpAny_bind (wpAny_callSpecial?_slot (name := Str.ofString "__next__") a.typeIs F.slot_tuple_iterator_next (wpAny_call_entry F.slot_tuple_iterator_next a.typeIs F.entry_tuple_iterator_next (show wpAny _ _ (field (.ref it) 0 >>= _) _ _ s from wpAny_bind (wpAny_field o1 o3 (x := .ref t) rfl ?_)) (F.args_tuple_iterator_next_1 _)))
  show wpAny _ _ (if (Value.ref t == Value.none) = true then _ else (field (.ref it) 1 >>= _)) _ _ s
  rw [if_neg (by exact Bool.false_ne_true)]
  refine wpAny_bind (wpAny_field o1 o3 (x := .int i 0) rfl (show wpAny _ _ (seqItems? (.ref t) >>= _) _ _ s from wpAny_bind (wpAny_seqItems p1 p2 ?_)))
  simp only [Int.toNat_natCast, c]
  refine wpAny_bind (wpAny_rule (wpAny_bind (wpAny_setField o1 o3 (by simp) (show wpAny _ _ (newExc (.type "StopIteration") [] >>= _) _ _ _ from wpAny_bind ?_))))
  simp only [newExc, newTuple]
  refine wpAny_bind (wpAny_newObj_type (wpAny_bind (m := firstArgMember _ _) (wpAny_of_eq (a := Value.none) (by first | rfl | (simp only [firstArgMember]; rfl)) (wpAny_newObj_type ?_ (by size_fits)))) (by size_fits))
  simp only [raiseNew]
  refine wpAny_bind (wpAny_handled ?_)
  first | rw [show A.in1.handled = none from hh] | rw [hh]
  exact wpAny_bind (wpAny_pure (wpAny_throw (q _ _ (((Heap.SameBut.update ..).extBut.push _).push _) ⟨_, Heap.get?_push_size _ rfl, rfl⟩)))
structure ZApart (z T U i j a b : Addr) : Prop where
  dis : [z, T, U, i, j].Nodup
  fa : a ∉ [z, T, U, i, j]
  fb : b ∉ [z, T, U, i, j]
structure ZAt (h : Heap) (z T U i j a b : Addr) (n : Nat) (f : Value) : Prop where
  z : IsZip h z T U f
  t : IsPair h T (.ref i) (.ref j)
  u : ∃ p q, IsPair h U p q
  i : h.IsTupleIter i a n
  j : h.IsTupleIter j b n
def zObs (n a b : Addr) : List Obj := [{ cls := .type "tuple_iterator", data := .fields #[.ref a, .int 0 0] }, { cls := .type "tuple_iterator", data := .fields #[.ref b, .int 0 0] }, { cls := .type "tuple", data := .seq #[.ref n, .ref (n + 1)] },
  { cls := .type "tuple", data := .seq #[.none, .none] }, { cls := .type "zip", data := .fields #[.none, .bool false, .bool false, .ref (n + 2), .ref (n + 3)] }]
def zHeap (h : Heap) (a b : Addr) : Heap := (zObs h.objs.size a b).foldl Heap.push h
end
end L2
set_option Elab.async false
set_option linter.all false
set_option maxRecDepth 100000
set_option maxHeartbeats 4000000
namespace L2
open PySem PySem.Spec PyProof.Rows
inductive Dt where
  | non | bl (b : Bool) | int (i : Int) | str (z : Str) | tup (ds : List Dt)
mutual
def IsDt (K : PySem.W.Frag) (H : Hp) : Dt → V → Prop
  | .non, v => v = .non
  | .bl b, v => v = .bl b
  | .int i, v => v = .int i
  | .str z, v => v = .str z
  | .tup ds, v => ∃ a xs, v = .ref a ∧ SqT K H a xs ∧ IsDts K H ds xs
def IsDts (K : PySem.W.Frag) (H : Hp) : List Dt → List V → Prop
  | [], xs => xs = []
  | d :: ds, xs => ∃ x r, xs = x :: r ∧ IsDt K H d x ∧ IsDts K H ds r
end
mutual
theorem IsDt.same' {K : PySem.W.Frag} {H H' : Hp} (s : Same H H') : ∀ (d : Dt) (v : V), IsDt K H d v → IsDt K H' d v
  | .non, v, h => h
  | .bl b, v, h => h
  | .int i, v, h => h
  | .str z, v, h => h
  | .tup ds, v, h => by
    obtain ⟨a, xs, rfl, e, r⟩ := h
    exact ⟨a, xs, rfl, s.seqT e, IsDts.same' s ds xs r⟩
theorem IsDts.same' {K : PySem.W.Frag} {H H' : Hp} (s : Same H H') : ∀ (d : List Dt) (v : List V), IsDts K H d v → IsDts K H' d v
  | [], xs, h => h
  | d :: ds, xs, h => by
    obtain ⟨x, r, rfl, a, b⟩ := h
    exact ⟨x, r, rfl, IsDt.same' s d x a, IsDts.same' s ds r b⟩
end
mutual
def Dt.deep : Dt → Nat
  | .tup ds => Dt.deeps ds + 1
  | _ => 0
def Dt.deeps : List Dt → Nat
  | [] => 0
  | d :: ds => max d.deep (Dt.deeps ds)
def Dt.plain : Dt → Bool
  | .int _ => true
  | .str _ => true
  | .tup ds => Dt.plains ds
  | _ => false
def Dt.plains : List Dt → Bool
  | [] => true
  | d :: ds => d.plain && Dt.plains ds
end
def tagD : Dt → String
  | .non => "NoneType"
  | .bl _ => "bool"
  | .int _ => "int"
  | .str _ => "str"
  | .tup _ => "tuple"
section
variable {X : Cx}
theorem Inv.turnedL {pins : List (Addr × Obj)} {σ : St} {H : Hp} {s : Shared} {h' : Heap} {t' : Nat} {fp : List Addr} (I : Inv X pins σ H s) (k : ∀ b o, b ∉ fp → s.heap.get? b = some o → h'.get? b = some o) (hf : ∀ b ∈ fp, FpOk X pins H b) :
    Inv X pins σ H { s with heap := h', toks := t' } := by
  have nit : ∀ b u, H b = some u → b ∉ fp := fun b u e z => by
    have := (hf b z).1
    rw [this] at e
    cases e
  refine I.step (g' := s.gens) (d' := s.drawn) (ch := fp) (fun b hb => ⟨(hf b hb).2.2.2.1, (hf b hb).2.1, (hf b hb).2.2.2.2.1, (hf b hb).2.2.2.2.2⟩) (fun b o _ _ hc e _ => k b o hc e) (fun b o _ _ hc e _ => ⟨o.slots, k b o hc e⟩) (fun _ _ _ _ n => n)
    (fun b o hc e => ⟨o, k b o hc e⟩) (fun _ _ e => e) (fun _ _ _ e => e) (fun b ps e => ⟨#[], by rw [e]; simp⟩) (fun m hm => ?_) (fun b u e => ?_) I.bare
  · obtain ⟨o, es, ep, ho, r⟩ := hm
    exact ⟨o, es, ep, k _ o (fun z => (hf _ z).2.1 rfl) ho, r⟩
  · refine (I.hok b u e).stay (fun c v hc q => k c v ?_ q) (fun _ q => q) fun _ _ q => q
    rcases hc with z | z
    · rw [z]; exact nit b u e
    · exact nit c _ z
theorem Inv.turnedLaid {pins : List (Addr × Obj)} {σ : St} {H : Hp} {s : Shared} {h' : Heap} {t' : Nat} {fp : List Addr} {a : Addr} {o : HO} (I : Inv X pins σ H s) (k : ∀ b o, b ∉ fp → s.heap.get? b = some o → h'.get? b = some o) (hf : ∀ b ∈ fp, FpOk X pins H b)
    (hp : s.heap.objs.size ≤ a) (new : ObjOk X.prog X.w (upd H a o) h' a o) : Inv X pins σ (upd H a o) { s with heap := h', toks := t' } := by
  have hn : H a = none := I.hok.fresh hp
  have nit : ∀ b u, H b = some u → b ∉ fp := fun b u e z => by
    have := (hf b z).1
    rw [this] at e
    cases e
  have old : ∀ b u, H b = some u → upd H a o b = some u := fun b u e => by rw [upd_ne (ne_of_none e hn)]; exact e
  refine I.step (g' := s.gens) (d' := s.drawn) (ch := fp) (fun b hb => ⟨(hf b hb).2.2.2.1, (hf b hb).2.1, (hf b hb).2.2.2.2.1, (hf b hb).2.2.2.2.2⟩) (fun b o _ _ hc e _ => k b o hc e) (fun b o _ _ hc e _ => ⟨o.slots, k b o hc e⟩)
    (fun b u _ e n => by rw [upd_ne (fun z => by subst z; exact absurd (Heap.lt_size e) (Nat.not_lt.mpr hp))]; exact n)
    (fun b o hc e => ⟨o, k b o hc e⟩) (fun _ _ e => old _ _ e) (fun _ _ _ e => old _ _ e) (fun b ps e => ⟨#[], by rw [old _ _ e]; simp⟩) (fun m hm => ?_) (fun b u e => ?_) I.bare
  · obtain ⟨o, es, ep, ho, r⟩ := hm
    exact ⟨o, es, ep, k _ o (fun z => (hf _ z).2.1 rfl) ho, r⟩
  · by_cases hb : b = a
    · subst hb
      rw [upd_same] at e
      cases e
      exact new
    · rw [upd_ne hb] at e
      refine (I.hok b u e).stay (fun c v hc q => k c v ?_ q) (fun c q => old _ _ q) fun c xs q => old _ _ q
      rcases hc with z | z
      · rw [z]; exact nit b u e
      · exact nit c _ z
end
def Itz (K : PySem.W.Frag) (a b : Addr) : It :=
  ⟨fun i H => ∃ xs ys x y, SqT K H a xs ∧ SqT K H b ys ∧ xs[i]? = some x ∧ ys[i]? = some y,
   fun i H v H' => ∃ p, H p = none ∧ v = .ref p ∧ ∀ xs ys, SqT K H a xs → SqT K H b ys → ∃ x y, xs[i]? = some x ∧ ys[i]? = some y ∧ H' = upd H p (.tup [x, y]),
   fun i H => ∃ xs ys, SqT K H a xs ∧ SqT K H b ys ∧ (xs.length ≤ i ∨ ys.length ≤ i)⟩
section
variable {X : Cx}
def iZip (K : PySem.W.Frag) (ta : TA) : TI := fun σ H R => ta σ H fun vs H1 => ∃ a b xs ys, vs = [.ref a, .ref b] ∧ SqT K H1 a xs ∧ SqT K H1 b ys ∧ R (Itz K a b) H1
def eqVs (xs ys : List V) : Bool := ((List.range (min xs.length ys.length)).all fun j => match xs[j]?, ys[j]? with | some x, some y => eqV x y | _, _ => false) && xs.length == ys.length
def rEqT (K : PySem.W.Frag) : R2 := fun x y H Q => ∃ a b xs ys, x = .ref a ∧ y = .ref b ∧ SqT K H a xs ∧ SqT K H b ys ∧ xs.all flatV = true ∧ ys.all flatV = true ∧ Q (.bl (eqVs xs ys)) H
end
end L2
set_option Elab.async false
set_option linter.all false
set_option maxRecDepth 100000
set_option maxHeartbeats 4000000
namespace L2
open PySem PySem.Spec PyProof.Rows
section
variable {prog : Program} {w : World} {A : Around} {E : Value → Shared → Prop} {s : Shared}
end
section
variable {X : Cx} {pos p2 : Pos}
def gSlice (to : TE) (tl th : TO) : TG := fun v σ H Q => to σ H fun o H1 => tl σ H1 fun lo H2 => th σ H2 fun hi H3 => ∃ (l b : Addr) (xs ys : List V) (a c : Nat), o = .ref l ∧ v = .ref b ∧ H3 l = some (.lst xs) ∧ H3 b = some (.lst ys) ∧ l ≠ b ∧
  sliceBounds lo hi none xs.length = ((a : Int), (c : Int), 1) ∧ a ≤ c ∧ c ≤ xs.length ∧ xs.length + ys.length ≤ sizeLine ∧ Q σ (upd H3 l (.lst (xs.take a ++ ys ++ xs.drop c)))
end
section
variable {X : Cx}
def rCatS (K : PySem.W.Frag) : R2 := fun x y H Q => ∃ a b xs ys, x = .ref a ∧ y = .ref b ∧ SqT K H a xs ∧ SqT K H b ys ∧ ys ≠ [] ∧ xs.length + ys.length ≤ sizeLine ∧ ∀ p H', Same H H' → SqT K H' p (xs ++ ys) → Q (.ref p) H'
theorem pe_append {o e : Expr} {es : List Expr} {to : TE} {t : TA} {apos cpos : Pos} (ho : PE X o to) (ha : PA X (e :: es) t)
    (hbase : attributeBase o "append" X.env (eval o X.env) = eval o X.env := by rfl)
    (hfew : ((backTo cpos (starEach (e :: es) X.env)).all (fun x => !x.1) && (backToKw cpos (keywordEach [] X.env)).all (fun x => x.1.isSome)
      && decide ((e :: es).length + ([] : List Keyword).length + (if ([] : List Keyword).isEmpty then 0 else 1) < 30)) = true := by rfl)
    (hline : (apos.endLine == cpos.line) = true := by rfl) (hs : starEach (e :: es) X.env = (false, eval e X.env) :: starEach es X.env := by rfl) (hplain : (backTo cpos (starEach es X.env)).any (·.1) = false := by rfl) :
    PE X (.Call (.Attribute o "append" apos) (e :: es) [] cpos) (tBM X.K "list" rAppend to t) := pe_bm PySem.F.plainAttrs_list PySem.F.slot_list_append PySem.F.type_list_append mt_append ho ha hbase hfew hline hs hplain
end
def KeptL (L : List Addr) (H H' : Hp) : Prop := ∀ b o, b ∉ L → H b = some o → H' b = some o
theorem KeptL.trans {L : List Addr} {H H1 H2 : Hp} (a : KeptL L H H1) (b : KeptL L H1 H2) : KeptL L H H2 := fun c o n h => b c o n (a c o n h)
theorem KeptL.set {L : List Addr} {H : Hp} {l : Addr} {o : HO} (h : l ∈ L) : KeptL L H (upd H l o) := fun b u n e => by
  rw [upd_ne (fun z => n (by rw [z]; exact h))]
  exact e
mutual
theorem IsDt.mono' {K : PySem.W.Frag} {H H' : Hp} (s : ∀ a xs, SqT K H a xs → SqT K H' a xs) : ∀ (d : Dt) (v : V), IsDt K H d v → IsDt K H' d v
  | .non, v, h => h
  | .bl b, v, h => h
  | .int i, v, h => h
  | .str z, v, h => h
  | .tup ds, v, h => by
    obtain ⟨a, xs, rfl, e, r⟩ := h
    exact ⟨a, xs, rfl, s _ _ e, IsDts.mono' s ds xs r⟩
theorem IsDts.mono' {K : PySem.W.Frag} {H H' : Hp} (s : ∀ a xs, SqT K H a xs → SqT K H' a xs) : ∀ (d : List Dt) (v : List V), IsDts K H d v → IsDts K H' d v
  | [], xs, h => h
  | d :: ds, xs, h => by
    obtain ⟨x, r, rfl, a, b⟩ := h
    exact ⟨x, r, rfl, IsDt.mono' s d x a, IsDts.mono' s ds r b⟩
end
theorem SqT.wrote {K : PySem.W.Frag} {H : Hp} {l a : Addr} {o : HO} {zs xs : List V} (e : H l = some (.lst zs)) (h : SqT K H a xs) : SqT K (upd H l o) a xs := by
  rcases h with (h | ⟨ob, h⟩) | h
  · exact .inl (.inl (by rw [upd_ne (ne_of h e (by intro z; cases z))]; exact h))
  · exact .inl (.inr ⟨ob, by rw [upd_ne (ne_of h e (by intro z; cases z))]; exact h⟩)
  · exact .inr h
end L2
set_option Elab.async false
set_option linter.all false
set_option maxRecDepth 100000
set_option maxHeartbeats 4000000
namespace L2
open PySem PySem.Spec PyProof.Rows
section
variable {prog : Program} {w : World} {A : Around} {E : Value → Shared → Prop} {s : Shared}
end
section
variable {X : Cx}
def srt (ns : List Int) (H : Hp) (Q : VK) : Prop := ∀ (l : Addr) (ns' : List Int), H l = none → ns'.Perm ns → ns'.Pairwise (· ≤ ·) → Q (.ref l) (upd H l (.lst (ns'.map V.int)))
end
end L2
set_option Elab.async false
set_option linter.all false
set_option maxRecDepth 100000
set_option maxHeartbeats 4000000
namespace L2
open PySem PySem.Spec PyProof.Rows
theorem iteP {c A B : Prop} [Decidable c] (hc : c) (h : A) : if c then A else B := by rw [if_pos hc]; exact h
theorem iteN {c A B : Prop} [Decidable c] (hc : ¬ c) (h : B) : if c then A else B := by rw [if_neg hc]; exact h
theorem free_one {names : List (Str × NameKind)} {n : Str} {Q : Str × NameKind → Prop} (h : (names.all fun y => y.2 != NameKind.free || y.1 == n) = true) (q : ∀ k, Q (n, k)) : ∀ y ∈ names, y.2 = NameKind.free → Q y := fun y hy e => by
  have := List.all_eq_true.mp h y hy
  rw [e] at this
  have : (y.1 == n) = true := by simpa using this
  obtain ⟨a, b⟩ := y
  rw [beq_iff_eq] at this
  have : a = n := this
  subst this
  exact q b
section
variable {X : Cx}
def rEqNil (K : PySem.W.Frag) : R2 := fun x y H Q => ∃ a b xs, x = .ref a ∧ y = .ref b ∧ SqL K H a xs ∧ SqL K H b [] ∧ Q (.bl (decide (xs = []))) H
end
end L2
set_option Elab.async false
set_option linter.all false
set_option maxRecDepth 100000
set_option maxHeartbeats 4000000
namespace L2
open PySem PySem.Spec PyProof.Rows
def CXE (P : Program) (w : World) (base : Heap) : CXT := fun outer H s E e s' => ∃ (ea : Addr) (cls a0 : Value) (B : Heap) (H' : Hp), e = .ref ea ∧ s'.os = s.os ∧ AllBare s'.gens ∧ Un (frs outer) [] H H' s.heap s'.heap ∧ HOk P w H' s'.heap ∧ H' ea = none ∧
  base.StaysIn B ∧ Heap.FlyingW B outer ea cls a0 s'.heap ∧ (∀ b o, s'.heap.get? b = some o → b ∉ frs outer → ((∃ u, H' b = some u) ∨ ∃ u, s.heap.get? b = some u) → B.get? b = some o) ∧ E cls none H'
section
variable {P : Program} {w : World} {K : PySem.W.Frag} {mg : Str → Option Value} {base : Heap} {N : List Str} {qual : Str} {scope : Scope} {f : Addr} {cd : Value} {A : Around} {outer : List Env} {s : Shared} {H : Hp} {E : XK}
end
def tRaise (C : Addr) (E : XK) (t : TA) : TS := fun _ σ H => t σ H fun vs H1 => vs.length ≤ sizeLine ∧ E (.ref C) none H1
section
variable {P : Program} {w : World} {K : PySem.W.Frag} {mg : Str → Option Value} {base : Heap} {N : List Str} {qual : Str} {scope : Scope} {f : Addr} {cd : Value} {A : Around} {outer : List Env} {s : Shared} {H : Hp} {E : XK}
end
structure CalE (P : Program) (w : World) (K : PySem.W.Frag) (mg : Str → Option Value) (base : Heap) (x : Str) (ps : List Str) (k : Nat) (sp : Sp) : Prop where
  ex : ∃ f fd, FnOk P w K mg base (CXE P w base) k f fd ps sp ∧ mg x = some (.ref f) ∧ PySem.W.keepIn K (.ref f) = true ∧ Binds K fd ps []
section
variable {X : Cx} {x : Str} {ps : List Str} {k : Nat} {sp : Sp} {e : Expr} {es : List Expr} {t : TA} {p pos : Pos}
end
end L2
set_option Elab.async false
set_option linter.all false
set_option maxRecDepth 100000
set_option maxHeartbeats 4000000
namespace L2
open PySem PySem.Spec PyProof.Rows
def ExcO (ea : Addr) (cls : Value) : HO := .ext fun h => ∃ o, h.get? ea = some o ∧ o.cls = cls
section
variable {P : Program} {w : World} {base B : Heap} {outer : List Env} {H H' : Hp} {h h1 h6 : Heap} {ea : Addr} {cls a0 : Value}
end
def Cx.tryX (X : Cx) (pn : List (Addr × Obj)) (E : St → XK) : Cx :=
  ({ X with pn := pn } : Cx).wish fun e s' => ∃ pins σ1 H1 s1, Inv { X with pn := pn } pins σ1 H1 s1 ∧ CXE X.prog X.w X.base X.stack H1 s1 (E σ1) e s'
abbrev Cx.exc (X : Cx) (ea : Addr) : Cx := { X with A := X.A.mark (some (.ref ea)), calm := false, xe := fun _ _ => False }
section
variable {X : Cx} {pins pn : List (Addr × Obj)} {σ : St} {H : Hp} {s : Shared} {ea : Addr} {E : St → XK}
end
def tTry (K : PySem.W.Frag) (c : Value) (tb : (St → XK) → TS) (th : TS) : TS := fun D σ H => tb (fun σ1 cls _ H1 => PySem.W.exmOne K cls c = some true ∧ th D σ1 H1) D σ H
def tTryAs (K : PySem.W.Frag) (c : Value) (i : Nat) (tb : (St → XK) → TS) (th : TS) : TS := fun D σ H => tb (fun σ1 cls _ H1 => PySem.W.exmOne K cls c = some true ∧
  ∀ ea, H1 ea = none → th { nx := fun σ2 H2 => D.nx (σ2.set i none) H2, rt := D.rt, bk := fun σ2 H2 => D.bk (σ2.set i none) H2, ct := fun σ2 H2 => D.ct (σ2.set i none) H2 } (σ1.set i (some (.ref ea))) (upd H1 ea (ExcO ea cls))) D σ H
section
variable {X : Cx} {x n : Str} {c : Value} {i : Nat} {body suite : List Stmt} {b0 : Stmt} {np hpos pos : Pos} {tb : (St → XK) → TS} {th : TS}
end
section
variable {X : Cx} {x : Str} {ps : List Str} {k : Nat} {sp : Sp} {e : Expr} {es : List Expr} {t : TA} {p pos : Pos} {E : St → XK}
end
end L2
set_option Elab.async false
set_option linter.all false
set_option maxRecDepth 100000
set_option maxHeartbeats 400000
namespace L2
open PySem PySem.Spec PyProof.Rows PySem.W PySem.Calls PySem.Builtin PySem.Builtin.ObjectAttr PySem.Builtin.Getset_descriptor
section
variable {prog : Program} {w : World} {A : Around} {E : Value → Shared → Prop} {h : Heap} {g : Array GenState} {d : Drawn} {t : Nat} {os : OsState} {K : PySem.W.Frag} {a C : Addr} {o : Obj}
end
end L2
namespace L2
open PySem PySem.Spec PyProof.Rows PySem.W
section
variable {prog : Program} {w : World} {A : Around} {E : Value → Shared → Prop} {h : Heap} {g : Array GenState} {d : Drawn} {t : Nat} {os : OsState} {K : PySem.W.Frag} {a C : Addr} {o : Obj}
end
end L2
namespace L2
open PySem PySem.Spec PyProof.Rows PySem.W
def excCls (K : PySem.W.Frag) (C : Addr) : Bool := (clsIn K C).isSome && (findIn K (.ref C) "__class__" == some (some (.builtin "object.__class__")) && (mroIn K C (.type "object") == some true && (mroIn K C (.type "BaseException") == some true &&
  (findIn K (.ref C) "__getattribute__" == some (some (.builtin "BaseException.__getattribute__")) && findIn K (.ref C) "__getattr__" == some none))))
section
variable {X : Cx}
end
end L2
set_option Elab.async false
set_option linter.all false
set_option maxRecDepth 100000
set_option maxHeartbeats 400000
namespace L2
open PySem PySem.Spec PyProof.Rows
def tStrs (xs : List Str) : TA := fun _ H Q => Q (xs.map V.str) H
def cStr (p : Str × Nat × Pos) : Expr := .Constant (.str p.1) p.2.1 p.2.2
end L2
set_option Elab.async false
set_option linter.all false
set_option maxRecDepth 100000
set_option maxHeartbeats 400000
namespace L2
open PySem PySem.Spec PyProof.Rows
end L2
set_option Elab.async false
set_option linter.all false
set_option maxRecDepth 100000
set_option maxHeartbeats 4000000
namespace L2
open PySem PySem.Spec PyProof.Rows
def cStG (σ : St) (fr : List (Nat × Str)) (us : List (Option V)) : St := us ++ fr.map fun p => (σ[p.1]?).join
def tCompG (wi : TI) (n : Nat) (fr : List (Nat × Str)) (g : TG) (tc : TT) (te : TE) : TE := fun σ H Q => wi σ H fun J H1 => ∃ W : Nat → Nat → List V → Hp → Prop, (∃ m, W 0 m [] H1) ∧ ∀ i m ys H, W i m ys H →
  (J.stop i H ∧ ys.length ≤ sizeLine ∧ ∀ p, H p = none → Q (.ref p) (upd H p (.lst ys))) ∨
  (J.go i H ∧ ys.length ≤ sizeLine ∧ ∀ v H', J.yld i H v H' → g v (cStG σ fr (List.replicate n none)) H' fun σ6 H6 => ∃ us, us.length = n ∧ σ6 = cStG σ fr us ∧ tc (cStG σ fr us) H6 fun b H2 => if b = true then te (cStG σ fr us) H2 fun y H3 => ∃ m', m' < m ∧ W (i + 1) m' (ys ++ [y]) H3 else ∃ m', m' < m ∧ W (i + 1) m' ys H2)
section
variable {X : Cx}
theorem pg_cname {scope : Scope} {cl : List (Str × Addr)} {N : List Str} {C : Addr} {s₂ : Shared} {H₂ : Hp} {fp : List Addr} {x : Str} {px : Pos} (i : Nat) (hN : N.Nodup) (hi : N[i]? = some x) (hx : scope.names.lookup x = some .local) : PG (cxComp X scope cl N C s₂ H₂ fp) (.Name x px) (gName i) :=
  pg_name hN hi (.inl (lookup_relabel_local hx)) (.inr (lookup_relabel_local hx))
theorem comp_gen {xs : List Str} {tg : Expr} {g : TG} {pos : Pos} {elt iter : Expr} {ifs : List Expr} {scope : Scope} {fr : List (Nat × Str)} {wi : TI} {tc : TT} {te : TE} {use : Option (Value → Sem Unit)} {QQ : Value → Shared → Prop} {pins : List (Addr × Obj)} {s : Shared} {σ : St} {H : Hp} {Q : VK} {pp : Pos} (hcalm : X.calm = true) (hi : PI X tg iter wi)
    (hfr : ∀ p ∈ fr, X.N[p.1]? = some p.2 ∧ (X.env.kindOf p.2 = some .cell ∨ X.env.kindOf p.2 = some .free))
    (hfree : ∀ y ∈ scope.names, y.2 = NameKind.free → X.env.kindOf y.1 = some .cell ∨ X.env.kindOf y.1 = some .free)
    (hfs : ∀ p ∈ fr, (p.2, NameKind.free) ∈ scope.names ∧ ((relabel scope X.env).names.lookup p.2 = some .cell ∨ (relabel scope X.env).names.lookup p.2 = some .free))
    (hcell : ∀ y ∈ scope.names, y.2 ≠ NameKind.cell) (hkind : scope.kind = .function) (hnames : ∀ y ∈ scope.names, y.2 = NameKind.local → scope.names.lookup y.1 = some .local)
    (hg : ∀ cl C s₂ H₂ fp, PG (cxComp X scope cl (xs ++ fr.map (·.2)) C s₂ H₂ fp) tg g)
    (ht : ∀ cl C s₂ H₂ fp, PF (cxComp X scope cl (xs ++ fr.map (·.2)) C s₂ H₂ fp) ifs tc) (he : ∀ cl C s₂ H₂ fp, PE (cxComp X scope cl (xs ++ fr.map (·.2)) C s₂ H₂ fp) elt te)
    (hs : ∀ x, foldedSetIterable iter X.env x = pure x) (I : Inv X pins σ H s) (h : tCompG wi xs.length fr g tc te σ H Q)
    (hend : ∀ (D : Addr) (s4 : Shared) (H4 : Hp), Inv X pins σ H4 s4 → (∃ m, s4.heap.Ns (D + 1) m) → H4 (D + 1) = none → D + 1 ≠ X.env.locals → X.s₀.heap.objs.size ≤ D + 1 → (D + 1 ∉ X.fs ∧ (∀ x c, X.env.cells.lookup x = some c → c ≠ D + 1) ∧ ∀ p ∈ X.pn ++ pins, p.1 ≠ D + 1) → Q (.ref D) H4 → compPost (model X.prog X.w) X.A X.xe use QQ (.ref D) (D + 1) (.ok .next) s4) :
    wpAny (model X.prog X.w) X.A (comprehension (.ListComp elt [⟨tg, iter, ifs, 0⟩] scope pos) scope X.env pp (newList []) false (firstIter [⟨tg, iter, ifs, 0⟩] X.env) use) QQ X.xe s := by
  obtain ⟨cl, hcl, hc1, hc2⟩ := closure_ok (scope := scope) (env := X.env) fun y hy hk => I.ok.has y.1 (hfree y hy hk)
  refine wpAny_comprehension_free (use := use) rfl hs hcl hkind hnames (thn (hi pins s σ H _ I h) fun xv s₁ h₁ => thn h₁ fun itv s₂ h₂ => ?_)
  obtain ⟨it, fp, tn, J, H2, e, I2, T, st2, f2, W, ⟨m0, w0⟩, turn⟩ := h₂
  subst e
  -- the list that is filled, the block's names
  refine wpAny_newObj_type (wpAny_newFunctionEnv hcell (by intro y hy; simp at hy) (fun h₁ hns₁ hsb₁ => ?_) hkind)
  dsimp only at hns₁ hsb₁ ⊢
  generalize hD : s₂.heap.objs.size = D at hns₁ hsb₁ ⊢
  generalize hG : s₂.heap.push { cls := .type "list", dict := none, data := .seq ([] : List Value).toArray } = G at hns₁ hsb₁ ⊢
  have hC : G.objs.size = D + 1 := by rw [← hG, Heap.size_push, hD]
  generalize hCC : G.objs.size = C at hns₁ hsb₁ hC ⊢
  subst hC
  have fpD : ∀ b ∈ fp, b < D := fun b hb => by
    obtain ⟨o, e, _⟩ := T.obj _ _ st2 b hb
    rw [← hD]; exact Heap.lt_size e
  have old : ∀ b o, s₂.heap.get? b = some o → h₁.get? b = some o := fun b o e => hsb₁.extBut b o (Nat.ne_of_lt (Nat.lt_succ_of_lt (by rw [← hD]; exact Heap.lt_size e))) (Heap.get?_push_of_some _ (hG ▸ Heap.get?_push_of_some _ e))
  have hGD : G.get? D = some { cls := .type "list", dict := none, data := .seq ([] : List Value).toArray } := by
    rw [← hG, ← hD]
    exact Heap.get?_push_size _ rfl
  have hacc : h₁.PlainList D #[] := ⟨0, hsb₁.extBut _ _ (Nat.ne_of_lt (Nat.lt_succ_self D)) (Heap.get?_push_of_some _ hGD)⟩
  have clD : ∀ y c, cl.lookup y = some c → c < D := fun y c e => by
    obtain ⟨v, q⟩ := I2.cell y c (hc1 y c e)
    rw [← hD]; exact q.lt
  have stkD : ∀ b ∈ frs X.stack, b < D := fun b hb => by
    rcases List.mem_cons.mp (I2.stkSub b hb) with e | hb
    · rw [e, ← hD]; exact I2.lt
    · rw [← hD]
      exact Nat.lt_of_not_le fun z => I2.nofs z hb
  have fpS : ∀ b ∈ fp, b ∉ frs X.stack := fun b hb hb' => by
    rcases List.mem_cons.mp (I2.stkSub b hb') with e | z
    · exact (f2 b hb).2.1 e
    · exact (f2 b hb).2.2.1 z
  generalize hX' : cxComp X scope cl (xs ++ fr.map (·.2)) (D + 1) s₂ H2 fp = X'
  have ok' : X'.Ok := by
    subst hX'
    refine ⟨I2.ok.mod, hkind, I2.ok.glob, I2.ok.blt, (by show s₂.heap.objs.size ≤ D + 1; omega), fun y z c e1 e2 => I2.ok.inj y z c (hc1 _ _ e1) (hc1 _ _ e2), fun y hy => ?_, (fun _ _ z => Bool.noConfusion z), I2.ok.hd, I2.ok.frames, .inl rfl, fun b hb => ⟨?_, fun y c e => ?_⟩, fun b o e => I2.bs b o e, ?_, fun b o e hb => ?_, fpS, I2.env0.funs, I2.stkFree⟩
    · rcases hy with hy | hy
      · exact hc2 y (relabel_free hcell hy (.inl rfl))
      · exact hc2 y (relabel_free hcell hy (.inr rfl))
    · exact Nat.ne_of_lt (Nat.lt_succ_of_lt (fpD b hb))
    · exact (f2 b hb).2.2.2.2.1 y c (hc1 y c e)
    · exact Nat.le_trans I2.ok.bsz I2.sz
    · rcases (f2 b hb).2.2.2.1 with z | z
      · exact I2.ok.noex b o e z
      · exact absurd (Nat.lt_of_lt_of_le (Heap.lt_size (I2.ok.bs b o e).1) z) (Nat.lt_irrefl _)
  have hL' : X'.env.locals = D + 1 := by subst hX'; rfl
  have hcells' : X'.env.cells = cl := by subst hX'; rfl
  have hfs' : X'.fs = frs X.stack := by subst hX'; rfl
  have hpn' : X'.pn = [] := by subst hX'; rfl
  have hs0' : X'.s₀ = s₂ := by subst hX'; rfl
  have hH0' : X'.H₀ = H2 := by subst hX'; rfl
  have hex' : X'.ex = fp := by subst hX'; rfl
  have hN' : X'.N = xs ++ fr.map (·.2) := by subst hX'; rfl
  have hA' : X'.A = X.A := by subst hX'; rfl
  have hPr : X'.prog = X.prog ∧ X'.w = X.w ∧ X'.K = X.K ∧ X'.calm = true := by subst hX'; exact ⟨rfl, rfl, rfl, hcalm⟩
  have hxe' : X'.xe = fun _ _ => False := by subst hX'; rfl
  have henv' : X'.env = compEnvC scope cl (D + 1) X.env := by subst hX'; rfl
  have ht' : PF X' ifs tc := hX' ▸ ht cl (D + 1) s₂ H2 fp
  have he' : PE X' elt te := hX' ▸ he cl (D + 1) s₂ H2 fp
  have hg' : PG X' tg g := hX' ▸ hg cl (D + 1) s₂ H2 fp
  have fresh : ∀ b, D ≤ b → H2 b = none := fun b hb => I2.hok.fresh (by rw [hD]; exact hb)
  have start : ∀ t, Inv X' [] (cStG σ fr (List.replicate xs.length none)) H2 { s₂ with heap := h₁, toks := t } := fun t => by
    refine ⟨ok', by rw [hs0'], I2.bare, ?_, ⟨_, by rw [hL']; exact hns₁, fun i y v e1 e2 e3 => ?_⟩, fun y c e => ?_, by rw [hL']; exact fresh _ (Nat.le_succ _), fun y c e => ?_, fun p hp => ?_, ?_, ?_⟩
    · rw [hfs', hex', hH0', hs0']
      exact Un.kept old
    · rw [hN'] at e1
      by_cases hin : i < xs.length
      · exfalso
        unfold cStG at e2
        rw [List.getElem?_append_left (by rw [List.length_replicate]; exact hin), List.getElem?_replicate, if_pos hin] at e2
        cases e2
      · have hin : xs.length ≤ i := Nat.le_of_not_lt hin
        rw [List.getElem?_append_right hin, List.getElem?_map] at e1
        unfold cStG at e2
        rw [List.getElem?_append_right (by rw [List.length_replicate]; exact hin), List.length_replicate, List.getElem?_map] at e2
        generalize i - xs.length = i at e1 e2
        cases ej : fr[i]? with
        | none => rw [ej] at e1; cases e1
        | some p =>
          rw [ej] at e1
          obtain rfl : p.2 = y := Option.some.inj e1
          have e2' : (σ[p.1]?).join = some v := by
            rw [ej] at e2
            exact Option.some.inj e2
          have e2'' : σ[p.1]? = some (some v) := by
            cases q : σ[p.1]? with
            | none => rw [q] at e2'; cases e2'
            | some z => rw [q] at e2'; exact congrArg some e2'
          have hp := List.mem_of_getElem? ej
          obtain ⟨m, hn, hl⟩ := I2.loc
          obtain ⟨u, r, l⟩ := hl p.1 p.2 v (hfr p hp).1 e2'' (by rcases (hfr p hp).2 with z | z; exact .inr (.inl z); exact .inr (.inr z))
          refine ⟨u, r, .inr ⟨?_, ?_⟩⟩
          · rw [henv']; exact (hfs p hp).2
          · rcases l with ⟨z, _⟩ | ⟨_, c, ec, q⟩
            · exfalso
              rcases (hfr p hp).2 with z' | z' <;> (rw [z] at z'; cases z')
            · obtain ⟨c', ec'⟩ := hc2 p.2 (hfs p hp).1
              have := hc1 _ _ ec'
              rw [ec] at this
              cases this
              obtain ⟨o, ho, hd⟩ := q
              exact ⟨c, by rw [hcells']; exact ec', o, old _ _ ho, hd⟩
    · rw [hcells'] at e
      obtain ⟨v, o, ho, hd⟩ := I2.cell y c (hc1 y c e)
      exact ⟨v, o, old _ _ ho, hd⟩
    · rw [hcells'] at e
      exact I2.freeC y c (hc1 y c e)
    · rw [hpn'] at hp; exact nomatch hp
    · rw [hPr.1, hPr.2.1]
      exact I2.hok.kept old
    · rw [hN']; unfold cStG; simp
  have FP : ∀ {pins' : List (Addr × Obj)} {H' : Hp}, (∀ b ∈ fp, H' b = none) → (∀ p ∈ pins', p.1 = D) → ∀ b ∈ fp, FpOk X' pins' H' b := fun hn hp b hb => by
    refine ⟨hn b hb, ?_, ?_, .inl (by rw [hex']; exact hb), fun y c e => ?_, fun p hp' => ?_⟩
    · rw [hL']; exact Nat.ne_of_lt (Nat.lt_succ_of_lt (fpD b hb))
    · rw [hfs']; exact fpS b hb
    · rw [hcells'] at e; exact (f2 b hb).2.2.2.2.1 y c (hc1 y c e)
    · rw [hpn'] at hp'
      rw [hp p hp']
      exact Nat.ne_of_gt (fpD b hb)
  -- the turns
  have loop : ∀ s₃ : Shared, s₃ = { s₂ with heap := h₁, toks := s₂.toks + ([] : List (Str × Value)).length } →
      codeAny (model X.prog X.w) X.A (.compLoop (.ListComp elt [⟨tg, iter, ifs, 0⟩] scope pos) 0 (.ref it) (.ref D) (compEnvC scope cl (D + 1) X.env))
        (compPost (model X.prog X.w) X.A X.xe use QQ (.ref D) (D + 1)) s₃ := by
    rintro s₃ rfl
    rw [← henv', ← hPr.1, ← hPr.2.1, ← hA']
    refine comp_loop (fun k s' => ∃ i ys its H', Inv X' [] (cStG σ fr (List.replicate xs.length none)) H' s' ∧ tn i s'.heap ∧ (∀ b ∈ fp, H' b = none) ∧ s'.heap.PlainList D its.toArray ∧ Vals ys its ∧ H' D = none ∧ W i k ys H') ?_ m0
      ⟨0, [], [], H2, start _, T.keep _ _ _ st2 fun b hb o e => old b o e, fun b hb => (f2 b hb).1, hacc, .nil, fresh _ (Nat.le_refl _), w0⟩
    rintro n s3 ⟨i, ys, its, H3, I3, st3, fr3, ac3, rv3, hD3, w3⟩
    obtain ⟨na, ac3'⟩ := id ac3
    have I3' : Inv X' [(D, { cls := .type "list", data := .seq its.toArray na })] (cStG σ fr (List.replicate xs.length none)) H3 s3 := I3.pins_of fun p hp => by
      rw [List.mem_singleton] at hp
      subst hp
      refine ⟨ac3', hD3, by rw [hL']; exact Nat.ne_of_lt (Nat.lt_succ_self D), by rw [hfs']; exact fun z => Nat.lt_irrefl _ (stkD D z), fun v z => nomatch z⟩
    have hT := T
    rw [← hPr.1, ← hPr.2.1, ← hPr.2.2.1] at hT
    rcases turn i n ys H3 w3 with ⟨stop, hlen, qn⟩ | ⟨go, hlen, step⟩
    · refine thn (hT.done X' rfl rfl rfl hPr.2.2.2 i _ s3 _ H3 _ I3' (FP fr3 (by intro p hp; rw [List.mem_singleton.mp hp])) st3 stop) fun r s4 ⟨hr, I4⟩ => ?_
      subst hr
      obtain ⟨m4, hn4, _⟩ := id I4.loc
      obtain ⟨h', hh'⟩ : ∃ h', h' = s4.heap := ⟨_, rfl⟩
      have hs' : Heap.SameBut (D + 1) s4.heap h' := by rw [hh']; exact ⟨rfl, fun _ _ => rfl⟩
      have hneD : D ≠ D + 1 := Nat.ne_of_lt (Nat.lt_succ_self D)
      have ac4 := (I4.pin (D, _) (List.mem_append_right _ List.mem_cons_self))
      have ac5 : h'.get? D = some { cls := .type "list", data := .seq its.toArray na } := (hs'.2 D hneD).trans ac4.1
      have un : Un (frs X.stack) fp H2 H3 s₂.heap s4.heap := by
        have := I4.base
        rw [hfs', hex', hH0', hs0'] at this
        exact this
      have kp : ∀ b o, b ≠ D + 1 → s4.heap.get? b = some o → h'.get? b = some o := fun b o hb e => (hs'.2 b hb).trans e
      have neC : ∀ b o, s₂.heap.get? b = some o → b ≠ D + 1 ∧ b ≠ D := fun b o e => by
        have := Heap.lt_size e
        rw [hD] at this
        exact ⟨Nat.ne_of_lt (Nat.lt_succ_of_lt this), Nat.ne_of_lt this⟩
      have un' : Un (frs X.stack) fp H2 (upd H3 D (.lst ys)) s₂.heap h' := by
        refine ⟨fun b o e n hb hx => kp b o (neC b o e).1 (un.keep b o e n hb hx), fun b o e n hb hx => ?_, fun b o e n hx => by rw [upd_ne (neC b o e).2]; exact un.free b o e n hx, fun b o e hx => ?_, fun b xs e => ?_, fun b o u e => ?_, fun b ps e => ?_⟩
        · obtain ⟨sl, z⟩ := un.slot b o e n hb hx
          exact ⟨sl, kp _ _ (neC b o e).1 z⟩
        · obtain ⟨o', z⟩ := un.there b o e hx
          exact ⟨o', kp _ _ (neC b o e).1 z⟩
        · rw [upd_ne (ne_of_none e (fresh D (Nat.le_refl _)))]; exact un.tups b xs e
        · rw [upd_ne (ne_of_none e (fresh D (Nat.le_refl _)))]; exact un.frzs b o u e
        · rw [upd_ne (ne_of_none e (fresh D (Nat.le_refl _)))]; exact un.tbls b ps e
      have hfreeC : H3 (D + 1) = none := by have := I4.free; rw [hL'] at this; exact this
      have hok' : HOk X.prog X.w (upd H3 D (.lst ys)) h' := fun b u e => by
        by_cases hb : b = D
        · subst hb
          rw [upd_same] at e
          cases e
          exact ⟨hlen, its, na, rv3, ac5⟩
        · rw [upd_ne hb] at e
          have z := I4.hok b u e
          rw [hPr.1, hPr.2.1] at z
          refine z.stay (fun c v hc q => kp c v ?_ q) (fun c q => by rw [upd_ne (ne_of_none q hD3)]; exact q) fun c xs q => by rw [upd_ne (ne_of_none q hD3)]; exact q
          rintro rfl
          rcases hc with rfl | hc
          · rw [hfreeC] at e; cases e
          · rw [hfreeC] at hc; cases hc
      subst hh'
      have I5 : Inv X pins σ (upd H3 D (.lst ys)) s4 := I2.call' (s' := s4) (ch := fp) (by have := I4.os; rw [hs0'] at this; exact this) un' hok' I4.bare (fun b hb => ⟨(f2 b hb).2.2.2.1, (f2 b hb).2.1, (f2 b hb).2.2.2.2.1, (f2 b hb).2.2.2.2.2⟩)
      show compPost (model X'.prog X'.w) X'.A X.xe use QQ (.ref D) (D + 1) (.ok .next) s4
      rw [hPr.1, hPr.2.1, hA']
      refine hend D s4 _ I5 ⟨m4, hL' ▸ hn4⟩ ?_ ?_ ?_ ?_ (qn D hD3)
      · rw [upd_ne (Nat.ne_of_gt (Nat.lt_succ_self D))]; exact hfreeC
      · exact Nat.ne_of_gt (Nat.lt_succ_of_lt (by rw [← hD]; exact I2.lt))
      · exact Nat.le_trans I2.sz (by rw [hD]; exact Nat.le_succ D)
      · refine ⟨fun z => I2.nofs (by rw [hD]; exact Nat.le_succ D) z, fun y c e => ?_, fun p hp => ?_⟩
        · obtain ⟨v, q⟩ := I2.cell y c e
          exact Nat.ne_of_lt (Nat.lt_succ_of_lt (by rw [← hD]; exact q.lt))
        · exact Nat.ne_of_lt (Nat.lt_succ_of_lt (by rw [← hD]; exact Heap.lt_size (I2.pin p hp).1))
    · refine thn (hT.item X' rfl rfl rfl hPr.2.2.2 i _ s3 _ H3 _ I3' (FP fr3 (by intro p hp; rw [List.mem_singleton.mp hp])) st3 go) fun r s4 ⟨u, hr, h4⟩ => ?_
      subst hr
      refine thn h4 fun _ s5 ⟨v, H5, I5, r5, y5, st5, fr5⟩ => ?_
      have I5' := I5.pinned (FP fr5 (by intro p hp; rw [List.mem_singleton.mp hp])) (T.obj _ _ st5)
      have g5 := hg' _ s5 (cStG σ fr (List.replicate xs.length none)) H5 v u _ I5' r5 (step v H5 y5)
      rw [hxe'] at g5
      refine thn g5 fun _ s6 ⟨σ6, H6, I6, us, hus, e6, q6⟩ => ?_
      subst e6
      have t6 := ht' _ s6 _ H6 _ I6 q6
      rw [hxe'] at t6
      refine thn t6 fun ok s7 ⟨H7, I7, q7⟩ => ?_
      have back : ∀ {H8 : Hp} {s8 : Shared} {ys' : List V} {its' : List Value} {pl : List (Addr × Obj)}, Inv X' (pl ++ pinsAt fp s5.heap) (cStG σ fr us) H8 s8 → s8.heap.PlainList D its'.toArray → Vals ys' its' → H8 D = none → (∃ m', m' < n ∧ W (i + 1) m' ys' H8) →
          ∃ m, m < n ∧ ∃ i ys its H', Inv X' [] (cStG σ fr (List.replicate xs.length none)) H' s8 ∧ tn i s8.heap ∧ (∀ b ∈ fp, H' b = none) ∧ s8.heap.PlainList D its.toArray ∧ Vals ys its ∧ H' D = none ∧ W i m ys H' := fun {H8 s8 ys' its' pl} I8 ac8 rv8 hD8 ⟨m', hm, w8⟩ => by
        refine ⟨m', hm, i + 1, ys', its', H8, (I8.pins_of (pins' := []) (fun p hp => absurd hp List.not_mem_nil)).weak (by unfold cStG; simp [hus]) ?_, T.keep _ _ _ st5 fun b hb o e => (I8.pin (b, o) (List.mem_append_right _ (List.mem_append_right _ (mem_pinsAt hb e)))).1, fun b hb => ?_, ac8, rv8, hD8, w8⟩
        · intro j z e
          unfold cStG at e ⊢
          by_cases hj : j < xs.length
          · rw [List.getElem?_append_left (by rw [List.length_replicate]; exact hj), List.getElem?_replicate, if_pos hj] at e
            cases e
          · have hj : xs.length ≤ j := Nat.le_of_not_lt hj
            rw [List.getElem?_append_right (by rw [List.length_replicate]; exact hj), List.length_replicate] at e
            rw [List.getElem?_append_right (by rw [hus]; exact hj), hus]
            exact e
        · obtain ⟨o, e, d⟩ := T.obj _ _ st5 b hb
          exact (I8.pin (b, o) (List.mem_append_right _ (List.mem_append_right _ (mem_pinsAt hb e)))).2.1
      have accOf : ∀ {H8 : Hp} {s8 : Shared} {σ8 : St}, Inv X' ([(D, { cls := .type "list", data := .seq its.toArray na })] ++ pinsAt fp s5.heap) σ8 H8 s8 → s8.heap.PlainList D its.toArray ∧ H8 D = none := fun I8 =>
        have z := I8.pin (D, _) (List.mem_append_right _ (List.mem_append_left _ List.mem_cons_self))
        ⟨⟨na, z.1⟩, z.2.1⟩
      cases ok with
      | false =>
        rw [if_neg Bool.false_ne_true] at q7 ⊢
        exact back I7 (accOf I7).1 rv3 (accOf I7).2 q7
      | true =>
        rw [if_pos rfl] at q7 ⊢
        have t7 := he' _ s7 _ H7 _ I7 q7
        rw [hxe'] at t7
        refine thn t7 fun y s8 ⟨vy, H8, I8, r8, q8⟩ => ?_
        obtain ⟨ac8, hD8⟩ := accOf I8
        refine wpAny_list_append_plain (hsz := by have := rv3.length; rw [List.size_toArray, ← this]; exact hlen) ac8 fun h9 ac9 hs9 => ?_
        have I9 : Inv X' ([] ++ pinsAt fp s5.heap) (cStG σ fr us) H8 s8 := I8.pins_of fun p hp => (I8.pin p (List.mem_append_right _ (List.mem_append_right _ hp)))
        have I10 : Inv X' ([] ++ pinsAt fp s5.heap) (cStG σ fr us) H8 { s8 with heap := h9 } := by
          refine I9.turned (t' := s8.toks) (it := D) (fun b o hb e => (hs9.2 b hb).trans e) hD8 (by rw [hL']; exact Nat.ne_of_lt (Nat.lt_succ_self D)) (.inr (by rw [hs0', hD]; exact Nat.le_refl _)) (fun y' c e => ?_) fun p hp => ?_
          · rw [hcells'] at e; exact Nat.ne_of_lt (clD y' c e)
          · rw [hpn'] at hp
            exact Nat.ne_of_lt (fpD _ (of_pinsAt hp).1)
        have e9 : its.toArray.push y = (its ++ [y]).toArray := by simp
        rw [e9] at ac9
        exact back I10 ac9 (rv3.snoc r8) hD8 q8
  exact codeAny_compStart_list (loop _ rfl) (T.self _ 0 _ _ _ (T.keep _ _ _ st2 fun b hb o e => old b o e) (loop _ rfl))
theorem pe_compG {xs : List Str} {tg : Expr} {g : TG} {pos : Pos} {elt iter : Expr} {ifs : List Expr} {scope : Scope} {fr : List (Nat × Str)} {wi : TI} {tc : TT} {te : TE} (hcalm : X.calm = true) (hi : PI X tg iter wi)
    (hfr : ∀ p ∈ fr, X.N[p.1]? = some p.2 ∧ (X.env.kindOf p.2 = some .cell ∨ X.env.kindOf p.2 = some .free))
    (hfree : ∀ y ∈ scope.names, y.2 = NameKind.free → X.env.kindOf y.1 = some .cell ∨ X.env.kindOf y.1 = some .free)
    (hfs : ∀ p ∈ fr, (p.2, NameKind.free) ∈ scope.names ∧ ((relabel scope X.env).names.lookup p.2 = some .cell ∨ (relabel scope X.env).names.lookup p.2 = some .free))
    (hcell : ∀ y ∈ scope.names, y.2 ≠ NameKind.cell) (hkind : scope.kind = .function) (hnames : ∀ y ∈ scope.names, y.2 = NameKind.local → scope.names.lookup y.1 = some .local)
    (hg : ∀ cl C s₂ H₂ fp, PG (cxComp X scope cl (xs ++ fr.map (·.2)) C s₂ H₂ fp) tg g)
    (ht : ∀ cl C s₂ H₂ fp, PF (cxComp X scope cl (xs ++ fr.map (·.2)) C s₂ H₂ fp) ifs tc) (he : ∀ cl C s₂ H₂ fp, PE (cxComp X scope cl (xs ++ fr.map (·.2)) C s₂ H₂ fp) elt te)
    (hs : ∀ x, foldedSetIterable iter X.env x = pure x := by intro _; rfl) : PE X (.ListComp elt [⟨tg, iter, ifs, 0⟩] scope pos) (tCompG wi xs.length fr g tc te) := by
  intro pins s σ H Q I h
  rw [eval_ListComp]
  refine comp_gen hcalm hi hfr hfree hfs hcell hkind hnames hg ht he hs I h fun D s4 H4 I4 hn hf hl hz ⟨hb, hc, hp⟩ q => ?_
  obtain ⟨m, hn⟩ := hn
  exact ⟨m, hn, fun h' hs' => ⟨.ref D, H4, I4.turned (t' := s4.toks) (it := D + 1) (fun b o hb e => (hs'.2 b hb).trans e) hf hl (.inr hz) hc hp, rfl, q⟩⟩
theorem ps_setG {xs : List Str} {tg : Expr} {g : TG} {pos : Pos} {elt iter : Expr} {ifs : List Expr} {scope : Scope} {fr : List (Nat × Str)} {wi : TI} {tc : TT} {te : TE} {i : Nat} {y : Str} {py spos : Pos} (hNy : X.N.Nodup) (hiy : X.N[i]? = some y) (hy : Loc X.env.scope y) (hcalm : X.calm = true) (hi : PI X tg iter wi)
    (hfr : ∀ p ∈ fr, X.N[p.1]? = some p.2 ∧ (X.env.kindOf p.2 = some .cell ∨ X.env.kindOf p.2 = some .free))
    (hfree : ∀ y ∈ scope.names, y.2 = NameKind.free → X.env.kindOf y.1 = some .cell ∨ X.env.kindOf y.1 = some .free)
    (hfs : ∀ p ∈ fr, (p.2, NameKind.free) ∈ scope.names ∧ ((relabel scope X.env).names.lookup p.2 = some .cell ∨ (relabel scope X.env).names.lookup p.2 = some .free))
    (hcell : ∀ y ∈ scope.names, y.2 ≠ NameKind.cell) (hkind : scope.kind = .function) (hnames : ∀ y ∈ scope.names, y.2 = NameKind.local → scope.names.lookup y.1 = some .local)
    (hg : ∀ cl C s₂ H₂ fp, PG (cxComp X scope cl (xs ++ fr.map (·.2)) C s₂ H₂ fp) tg g)
    (ht : ∀ cl C s₂ H₂ fp, PF (cxComp X scope cl (xs ++ fr.map (·.2)) C s₂ H₂ fp) ifs tc) (he : ∀ cl C s₂ H₂ fp, PE (cxComp X scope cl (xs ++ fr.map (·.2)) C s₂ H₂ fp) elt te)
    (hs : ∀ x, foldedSetIterable iter X.env x = pure x := by intro _; rfl) (hw : swapsWith (.ListComp elt [⟨tg, iter, ifs, 0⟩] scope pos) (some (.Name y py)) spos.line X.env = pure true := by rfl) (hf : X.fn y = true ∨ X.env.scope.names.lookup y = some .local := by first | exact .inl rfl | exact .inr rfl | assumption) :
    PS X (.Assign [.Name y py] (.ListComp elt [⟨tg, iter, ifs, 0⟩] scope pos) spos) (tAsg (tCompG wi xs.length fr g tc te) (gName i)) := by
  intro pins s σ H D I h
  rw [exec_Assign_Name_used y py _ spos hw]
  refine wpAny_bind (wpAny_standAt (wpAny_bind ?_))
  show wpAny _ _ (do let _ ← comprehension (.ListComp elt [⟨tg, iter, ifs, 0⟩] scope pos) scope X.env (firstIterPos [⟨tg, iter, ifs, 0⟩] pos) (newList []) (firstAsync [⟨tg, iter, ifs, 0⟩]) (firstIter [⟨tg, iter, ifs, 0⟩] X.env) (some (assign (.Name y py) X.env)); pure ()) _ _ _
  refine wpAny_bind (comp_gen hcalm hi hfr hfree hfs hcell hkind hnames hg ht he hs I h fun A s4 H4 I4 hn hz hl hsz ⟨hb, hc, hp⟩ q => ?_)
  obtain ⟨m, hn⟩ := hn
  obtain ⟨o, es, ep, ho, hd, hk, hm⟩ := hn
  have I5 : Inv X ((A + 1, o) :: pins) σ H4 s4 := I4.pins_of fun p hp' => by
    rcases List.mem_cons.mp hp' with rfl | hp'
    · exact ⟨ho, hz, hl, hb, fun v z => by rw [hd] at z; cases z⟩
    · exact I4.pin p (List.mem_append_right _ hp')
  refine thn (pg_name (pos := py) hNy hiy hy hf _ s4 σ H4 (.ref A) (.ref A) D.nx I5 rfl q) fun _ s5 ⟨σ5, H5, I6, q6⟩ => ?_
  have po := I6.pin (A + 1, o) (List.mem_append_right _ List.mem_cons_self)
  have I7 : Inv X pins σ5 H5 s5 := I6.pins_of fun p hp' => I6.pin p (List.mem_append_right _ (List.mem_cons_of_mem _ hp'))
  refine ⟨m, ⟨o, es, ep, po.1, hd, hk, hm⟩, fun h' hs' => ?_⟩
  exact wpAny_pure (wpAny_pure ⟨σ5, H5, I7.turned (t' := s5.toks) (it := A + 1) (fun b o hb e => (hs'.2 b hb).trans e) po.2.1 hl (.inr hsz) hc hp, q6⟩)
end
end L2
set_option Elab.async false
set_option linter.all false
set_option maxRecDepth 100000
set_option maxHeartbeats 400000
namespace L2
open PySem PySem.Spec PyProof.Rows
theorem seq_any {t rest : TS} {D : Ends} {σ : St} {H : Hp} (R : St → Hp → Prop) (hr : ∀ σ1 H1, R σ1 H1 → rest D σ1 H1) (h : (∀ σ1 H1, R σ1 H1 → rest D σ1 H1) → t { D with nx := rest D } σ H) : tSeq t rest D σ H := h hr
theorem seq_asg {te : TE} {g : TG} {rest : TS} {D : Ends} {σ : St} {H : Hp} (h : te σ H fun x H1 => g x σ H1 (rest D)) : tSeq (tAsg te g) rest D σ H := h
structure Runs (J : It) (H1 : Hp) (n : Nat) (Item : Nat → V → Hp → Prop) : Prop where
  go : ∀ i, i < n → ∀ H, Same H1 H → J.go i H
  stop : ∀ H, Same H1 H → J.stop n H
  item : ∀ i, i < n → ∀ H v H', Same H1 H → J.yld i H v H' → Same H H' ∧ Item i v H'
theorem range_filter_succ (p : Nat → Bool) (n : Nat) : (List.range (n + 1)).filter p = (List.range n).filter p ++ (if p n = true then [n] else []) := by
  rw [List.range_succ, List.filter_append, List.filter_cons]
  cases p n <;> rfl
inductive All2 {α β : Type} (R : α → β → Prop) : List α → List β → Prop
  | nil : All2 R [] []
  | cons {a : α} {b : β} {xs : List α} {ys : List β} : R a b → All2 R xs ys → All2 R (a :: xs) (b :: ys)
theorem forall2_snoc {α β : Type} {R : α → β → Prop} : ∀ {xs : List α} {ys : List β} {x : α} {y : β}, All2 R xs ys → R x y → All2 R (xs ++ [x]) (ys ++ [y])
  | [], _, x, y, .nil, h => .cons h .nil
  | _ :: _, _, x, y, .cons a r, h => .cons a (forall2_snoc r h)
theorem forall2_mono {α β : Type} {R S : α → β → Prop} (h : ∀ a b, R a b → S a b) : ∀ {xs : List α} {ys : List β}, All2 R xs ys → All2 S xs ys
  | [], _, .nil => .nil
  | _ :: _, _, .cons a r => .cons (h _ _ a) (forall2_mono h r)
theorem forall2_len {α β : Type} {R : α → β → Prop} : ∀ {xs : List α} {ys : List β}, All2 R xs ys → ys.length = xs.length
  | [], _, .nil => rfl
  | _ :: _, _, .cons _ r => congrArg (· + 1) (forall2_len r)
theorem forall2_fun {α β : Type} {f : α → β} : ∀ {xs : List α} {ys : List β}, All2 (fun x y => y = f x) xs ys → ys = xs.map f
  | [], _, .nil => rfl
  | _ :: _, _, .cons a r => by rw [List.map_cons, forall2_fun r, a]
theorem filter_range_map {α β : Type} (p : α → Bool) (f : α → β) (d : α) : ∀ xs : List α, ((List.range xs.length).filter fun i => p (xs[i]?.getD d)).map (fun i => f (xs[i]?.getD d)) = (xs.filter p).map f := by
  intro xs
  have h : (List.range xs.length).map (fun i => xs[i]?.getD d) = xs := by
    apply List.ext_getElem
    · simp
    · intro i h1 h2
      simp only [List.getElem_map, List.getElem_range, List.getElem?_eq_getElem h2, Option.getD_some]
  have e : (xs.filter p).map f = ((((List.range xs.length).map (fun i => xs[i]?.getD d))).filter p).map f := by rw [h]
  rw [e, List.filter_map, List.map_map]
  rfl
end L2
set_option Elab.async false
set_option linter.all false
set_option maxRecDepth 100000
set_option maxHeartbeats 400000
namespace L2
open PySem PySem.Spec PyProof.Rows
section
variable {X : Cx}
def rSetD : TSet := fun x y v H Q => ∃ a H', x = .ref a ∧ DPut H a y v H' ∧ Q H'
end
end L2
set_option Elab.async false
set_option linter.all false
set_option maxRecDepth 100000
set_option maxHeartbeats 400000
namespace L2
open PySem PySem.Spec PyProof.Rows
structure QE (X : Cx) (e : Expr) (t : TE) : Prop where
  run : PE X e t
structure QA (X : Cx) (es : List Expr) (t : TA) : Prop where
  run : PA X es t
structure QPs (X : Cx) (pos : Pos) (ks : List (Option Expr)) (vs : List Expr) (t : List (TE × TE)) : Prop where
  run : PPs X pos ks vs t
structure QS (X : Cx) (st : Stmt) (t : TS) : Prop where
  run : PS X st t
structure QSs (X : Cx) (sts : List Stmt) (t : TS) : Prop where
  run : PSs X sts t
section
variable {X : Cx} {pos : Pos}
theorem q_of {sts : List Stmt} {t : TS} {G : TS → Prop} (q : QSs X sts t) (g : G t) : ∃ t, PSs X sts t ∧ G t := ⟨t, q.run, g⟩
theorem qss_one {st : Stmt} {t : TS} (h : QS X st t) : QSs X [st] t := ⟨pss_one h.run⟩
theorem qss_cons {st : Stmt} {rest : List Stmt} {t u : TS} (h : QS X st t) (r : QSs X rest u) : QSs X (st :: rest) (tSeq t u) := ⟨pss_cons h.run r.run⟩
theorem qs_set {i : Nat} {x : Str} {e : Expr} {te : TE} {pos' : Pos} (hN : X.N.Nodup) (hi : X.N[i]? = some x) (hx : Loc X.env.scope x) (he : QE X e te) (hs : swapsWith e (some (.Name x pos')) pos.line X.env = pure false := by rfl) (hf : X.fn x = true ∨ X.env.scope.names.lookup x = some .local := by first | exact .inl rfl | exact .inr rfl | assumption) :
    QS X (.Assign [.Name x pos'] e pos) (tAsg te (gName i)) := ⟨ps_set hN hi hx he.run hs hf⟩
theorem qe_lst {es : List Expr} {t : TA} (h : QA X es t) : QE X (.List es pos) (tLst t) := ⟨pe_lst h.run⟩
theorem qa_nil : QA X [] tNil := ⟨pa_nil⟩
theorem qa_cons {e : Expr} {es : List Expr} {te : TE} {t : TA} (ha : QE X e te) (hr : QA X es t) (hs : starEach (e :: es) X.env = (false, eval e X.env) :: starEach es X.env := by rfl) : QA X (e :: es) (tCons te t) := ⟨pa_cons ha.run hr.run hs⟩
theorem qe_ix {a b : Expr} {ta tb : TE} {r : R2} (hr : IxR X r) (ha : QE X a ta) (hb : QE X b tb) (hs : PlainIx b) : QE X (.Subscript a b pos) (tOp r ta tb) := ⟨pe_ix hr ha.run hb.run hs⟩
end
end L2
set_option Elab.async false
set_option linter.all false
set_option maxRecDepth 100000
set_option maxHeartbeats 400000
namespace L2
open PySem PySem.Spec PyProof.Rows
theorem ix_seqK {X : Cx} {K : PySem.W.Frag} (h : X.K = K) : IxR X (rIx K) := h ▸ ix_seq
theorem all2_get {α β : Type} {R : α → β → Prop} : ∀ {xs : List α} {ys : List β} {i : Nat} {y : β}, All2 R xs ys → ys[i]? = some y → ∃ x, xs[i]? = some x ∧ R x y
  | _, _, i, y, .nil, e => by simp at e
  | _, _, 0, y, .cons a _, e => by
    rw [List.getElem?_cons_zero] at e
    cases e
    exact ⟨_, List.getElem?_cons_zero, a⟩
  | _, _, i + 1, y, .cons _ r, e => by
    rw [List.getElem?_cons_succ] at e
    obtain ⟨x, h1, h2⟩ := all2_get r e
    exact ⟨x, by rw [List.getElem?_cons_succ]; exact h1, h2⟩
end L2
set_option Elab.async false
set_option linter.all false
set_option maxRecDepth 100000
set_option maxHeartbeats 4000000
namespace L2
open PySem PySem.Spec PyProof.Rows
section
variable {prog : Program} {w : World} {A : Around} {E : Value → Shared → Prop} {s : Shared}
theorem draws_tuple (hh : A.handled = none) (it t : Addr) (ne : t ≠ it) (items : Array Value) : Draws prog w A it [it, t] items.size (fun i v => items[i]? = some v) (fun i h => h.IsTupleIter it t i ∧ h.IsTuple t items) where
  live := fun i h st => st.1.elim fun o z => ⟨o, z.1⟩
  frame := fun i h h' st k => ⟨st.1.elim fun o z => ⟨o, k it (by simp) o z.1, z.2⟩, st.2.elim fun o z => ⟨o, k t (by simp) o z.1, z.2⟩⟩
  item := fun i s Q E hi st q => tupOn st.1 st.2 (Array.getElem?_eq_getElem hi) fun h' it' sb => q _ h' s.toks (Array.getElem?_eq_getElem hi) ⟨it', st.2.elim fun o z => ⟨o, (sb.2 t ne).trans z.1, z.2⟩⟩ sb
  done := fun s Q E st q => tupOff hh st.1 st.2 (by simp) fun h' e x y => q h' e x y
theorem enumNew (a : Addr) (xs : Array Value) : Meets (Builtin.«enumerate.__new__» ⟨[.type "enumerate", .ref a], []⟩) (fun _ R s => s.heap.IsTuple a xs ∧ R (.ok (.ret (.ref (s.heap.objs.size + 1))))
    { s with heap := (s.heap.push { cls := .type "tuple_iterator", data := .fields #[.ref a, .int 0 0] }).push { cls := .type "enumerate", data := .fields #[.none, .bool false, .ref s.heap.objs.size, rawInt 0, .none, .none] } }) :=
  .of_wp fun prog w A R s h => by
    obtain ⟨hp, g, d, tk, os⟩ := s
    obtain ⟨ha, h⟩ := h
    have sub := sub_enumerate
    have h1 : Heap.IsTuple (Shared.heap ⟨hp, g, d, tk, os⟩) a xs := ha
    wp_walk using wpAny_pyIter_tuple h1
    intro Γ p hΓ
    show wpAny (model prog w) A.in1 (pure _) _ _ _
    refine wpAny_pure ?_
    generalize List.drop 1 ((Γ.code, p) :: Γ.below) = L
    split
    · rename_i c _ _ _ _
      cases c == Value.type "enumerate" with
      | true =>
        wp_walk using wpAny_pyIter_tuple h1
        refine ⟨_, rfl, ?_⟩
        simpa [Heap.size_push, Builtin.SmallTypes.ownedTupleFields] using h
      | false =>
        wp_walk using wpAny_pyIter_tuple h1
        refine ⟨_, rfl, ?_⟩
        simpa [Heap.size_push, Builtin.SmallTypes.ownedTupleFields] using h
    · wp_walk using wpAny_pyIter_tuple h1
      refine ⟨_, rfl, ?_⟩
      simpa [Heap.size_push, Builtin.SmallTypes.ownedTupleFields] using h
theorem enumMade {a : Addr} {xs : Array Value} {Q : Value → Shared → Prop} (ha : s.heap.IsTuple a xs)
    (q : ∀ h', IsEnum h' (s.heap.objs.size + 1) s.heap.objs.size 0 .none → h'.IsTupleIter s.heap.objs.size a 0 → h'.objs.size = s.heap.objs.size + 2 → (∀ c o, s.heap.get? c = some o → h'.get? c = some o) → Q (.ref (s.heap.objs.size + 1)) { s with heap := h' }) :
    wpAny (model prog w) A (call (.type "enumerate") [.ref a]) Q E s := by
  refine callType_new F.called_enumerate (by decide) (F.typeCall_enumerate_1 _) (F.newCall_enumerate_1 _) (fun obj => F.args_object_init_2 obj _) F.entry_enumerate_new (enumNew a xs) ⟨ha, ?_⟩
  generalize hn : s.heap.objs.size = n at q ⊢
  generalize h0 : s.heap.push { cls := .type "tuple_iterator", data := .fields #[.ref a, .int 0 0] } = k0
  have z0 : k0.objs.size = n + 1 := by rw [← h0, Heap.size_push, hn]
  have g0 : k0.get? n = some { cls := .type "tuple_iterator", data := .fields #[.ref a, .int 0 0] } := by rw [← h0, ← hn]; exact Heap.get?_push_size _ rfl
  have g1 : (k0.push { cls := .type "enumerate", data := .fields #[.none, .bool false, .ref n, rawInt 0, .none, .none] }).get? (n + 1) = some { cls := .type "enumerate", data := .fields #[.none, .bool false, .ref n, rawInt 0, .none, .none] } := by rw [← z0]; exact Heap.get?_push_size _ rfl
  exact ⟨⟨_, g1, rfl⟩, q _ g1 ⟨_, Heap.get?_push_of_some _ g0, rfl, rfl⟩ (by rw [Heap.size_push, z0]) fun c o e => Heap.get?_push_of_some _ (by rw [← h0]; exact Heap.get?_push_of_some _ e)⟩
end
def IteL (K : PySem.W.Frag) (a : Addr) : It :=
  ⟨fun i H => ∃ xs x, SqL K H a xs ∧ xs[i]? = some x,
   fun i H v H' => ∃ p, H p = none ∧ v = .ref p ∧ ∀ xs, SqL K H a xs → ∃ x, xs[i]? = some x ∧ H' = upd H p (.tup [.int i, x]),
   fun i H => ∃ xs, SqL K H a xs ∧ xs.length = i⟩
theorem turn_enumL {P : Program} {w : World} {K : PySem.W.Frag} {elts : List Expr} {x1 : Nat} {pos : Pos} {e it a : Addr} (ne : e ≠ it) (nae : a ≠ e) (nai : a ≠ it) : Turn P w K (.Tuple elts x1 pos) (IteL K a) [e, it] e (fun n h => (∃ old, IsEnum h e it (n : Nat) old) ∧ h.IsListIter it a n) where
  mem := by simp
  obj := fun n h st c hc => by
    simp only [List.mem_cons, List.not_mem_nil, or_false] at hc
    rcases hc with rfl | rfl
    · obtain ⟨⟨old, z⟩, _⟩ := st
      exact ⟨_, z, fun v z => by cases (show Data.fields _ = Data.cell v from z)⟩
    · obtain ⟨_, o, e, _, d⟩ := st
      exact ⟨o, e, fun v z => by rw [d] at z; cases z⟩
  keep := fun n h h' st k => by
    obtain ⟨⟨old, z⟩, o, e1, e2⟩ := st
    exact ⟨⟨old, k e (by simp) _ z⟩, o, k it (by simp) _ e1, e2⟩
  item := by
    intro X hP hw hK hc n pins s σ H E I hf st hg
    subst hP hw hK
    obtain ⟨xs, x, sa, hx⟩ := hg
    obtain ⟨ia, ra, pa, _⟩ := I.list sa
    have pa : s.heap.IsList a ia.toArray := pa.isList
    obtain ⟨u, hu, ru⟩ := ra.get hx
    have D := Draws.list (prog := X.prog) (w := X.w) (A := X.A.in1) (I.ok.hd hc) it a nai ia.toArray
    have hlt : n < ia.toArray.size := by
      have := (List.getElem?_eq_some_iff.mp hu).1
      simpa using this
    obtain ⟨⟨old, se⟩, si⟩ := st
    refine wpAny_pyNext_enum_itemD D se ⟨si, pa⟩ hlt ne (by simp [ne, nae.symm]) fun y h' t hy out si' tT hz kk => ?_
    have hy : ia[n]? = some y := by simpa using hy
    rw [hu] at hy
    cases hy
    have lte : e < s.heap.objs.size := Heap.lt_size se
    have lti : it < s.heap.objs.size := by obtain ⟨o, z, _⟩ := si; exact Heap.lt_size z
    have nTe : s.heap.objs.size ≠ e := Nat.ne_of_gt lte
    have nT : s.heap.objs.size ∉ [e, it] := by simp only [List.mem_cons, List.not_mem_nil, or_false, not_or]; exact ⟨nTe, Nat.ne_of_gt lti⟩
    refine ⟨_, rfl, wpAny_letOwnedTupleGo_enum out fun h2 se2 sb => ?_⟩
    have k2 : ∀ b o, b ∉ [e, it] → s.heap.get? b = some o → h2.get? b = some o := fun b o hb z => by
      simp only [List.mem_cons, List.not_mem_nil, or_false, not_or] at hb
      exact (sb.2 b hb.1).trans (kk b o hb.1 hb.2 z)
    have tT2 := (sb.2 _ nTe).trans tT
    have st2 := si'.1.elim fun o z => (⟨o, (sb.2 it ne.symm).trans z.1, z.2⟩ : h2.IsListIter it a (n + 1))
    have fr : H s.heap.objs.size = none := I.hok.fresh (Nat.le_refl _)
    refine ⟨.ref s.heap.objs.size, upd H s.heap.objs.size (.tup [.int n, x]), I.turnedLaid (t' := t + 1) k2 hf (Nat.le_refl _) ⟨show (2 : Nat) ≤ sizeLine by decide, [.int n t, u], .cons ⟨t, rfl⟩ (.cons ru .nil), ⟨_, tT2, rfl, _, rfl⟩, _, tT2, rfl⟩, rfl, ⟨_, fr, rfl, fun xs' sa' => ⟨x, ?_, rfl⟩⟩, ⟨⟨_, se2⟩, st2⟩, fun c hc => ?_⟩
    · rw [I.list_inj sa' sa]; exact hx
    · rw [upd_ne (fun (z : c = s.heap.objs.size) => nT (z ▸ hc))]
      exact (hf c hc).1
  done := by
    intro X hP hw hK hc n pins s σ H E I hf st hg
    subst hP hw hK
    obtain ⟨xs, sa, rfl⟩ := hg
    obtain ⟨ia, ra, pa, _⟩ := I.list sa
    have pa : s.heap.IsList a ia.toArray := pa.isList
    have D := Draws.list (prog := X.prog) (w := X.w) (A := X.A.in1) (I.ok.hd hc) it a nai ia.toArray
    have W := WalksT.enumerateD D e ne (by simp [ne, nae.symm]) (by simp)
    have la : ia.toArray.size = xs.length := by simpa using ra.length.symm
    exact W.done s _ E (by rw [la]; exact ⟨st.1, st.2, pa⟩) fun h' tk kk => ⟨rfl, I.turnedL (t' := tk) (fun c o hc e => kk c o hc e) hf⟩
  self := fun _ _ _ _ _ st h => st.1.elim fun old z => wpAny_pyIter_enum z h
def ieL (K : PySem.W.Frag) (ta : TA) : TI := fun σ H R => ta σ H fun vs H1 => ∃ a xs, vs = [.ref a] ∧ SqL K H1 a xs ∧ R (IteL K a) H1
theorem pi_enumL {X : Cx} {elts : List Expr} {x1 : Nat} {tpos : Pos} {e : Expr} {ta : TA} {p pos : Pos} (hg : Gl X "enumerate") (hm : X.mg "enumerate" = none) (ha : PA X [e] ta) (hs : starEach [e] X.env = [(false, eval e X.env)] := by rfl) :
    PI X (.Tuple elts x1 tpos) (.Call (.Name "enumerate" p) [e] [] pos) (ieL X.K ta) := by
  intro pins s σ H R I h
  refine Call_ (ld_blt I hg hm boot_enumerate (PyProof.Rows.callWith_type1 (thn (ha pos pins s σ H _ I h) fun us s1 ⟨vs, H1, I1, r1, q1⟩ => ?_) (by rw [hs]; rfl) rfl))
  obtain ⟨a, xs, ev, sa, q⟩ := q1
  subst ev
  obtain ⟨u, rfl, ru⟩ := vals1 r1
  cases (show u = Value.ref a from ru)
  obtain ⟨ia, ra, pa, _⟩ := I1.list sa
  have pa : s1.heap.IsList a ia.toArray := pa.isList
  have la : a < s1.heap.objs.size := by obtain ⟨o, e, _⟩ := id pa; exact Heap.lt_size e
  refine call_enumerate_list pa fun h' st1 st2 _ kk => ?_
  refine wpAny_pyIter_enum st1 ?_
  refine ⟨_, _, _, _, H1, rfl, I1.kept (t' := s1.toks) kk, turn_enumL (Nat.ne_of_gt (Nat.lt_succ_self _)) (Nat.ne_of_lt (Nat.lt_succ_of_lt la)) (Nat.ne_of_lt la), ⟨⟨_, st1⟩, st2⟩, fun c hc => ?_, q⟩
  have hc' : s1.heap.objs.size ≤ c := by
    simp only [List.mem_cons, List.not_mem_nil, or_false] at hc
    rcases hc with rfl | rfl
    · exact Nat.le_add_right _ _
    · exact Nat.le_refl _
  exact I1.fpOk hc' (I1.hok.fresh hc')
def IteT (K : PySem.W.Frag) (a : Addr) : It :=
  ⟨fun i H => ∃ xs x, SqT K H a xs ∧ xs[i]? = some x,
   fun i H v H' => ∃ p, H p = none ∧ v = .ref p ∧ ∀ xs, SqT K H a xs → ∃ x, xs[i]? = some x ∧ H' = upd H p (.tup [.int i, x]),
   fun i H => ∃ xs, SqT K H a xs ∧ xs.length = i⟩
theorem turn_enumT {P : Program} {w : World} {K : PySem.W.Frag} {elts : List Expr} {x1 : Nat} {pos : Pos} {e it a : Addr} (ne : e ≠ it) (nae : a ≠ e) (nai : a ≠ it) : Turn P w K (.Tuple elts x1 pos) (IteT K a) [e, it] e (fun n h => (∃ old, IsEnum h e it (n : Nat) old) ∧ h.IsTupleIter it a n) where
  mem := by simp
  obj := fun n h st c hc => by
    simp only [List.mem_cons, List.not_mem_nil, or_false] at hc
    rcases hc with rfl | rfl
    · obtain ⟨⟨old, z⟩, _⟩ := st
      exact ⟨_, z, fun v z => by cases (show Data.fields _ = Data.cell v from z)⟩
    · obtain ⟨_, o, e, _, d⟩ := st
      exact ⟨o, e, fun v z => by rw [d] at z; cases z⟩
  keep := fun n h h' st k => by
    obtain ⟨⟨old, z⟩, o, e1, e2⟩ := st
    exact ⟨⟨old, k e (by simp) _ z⟩, o, k it (by simp) _ e1, e2⟩
  item := by
    intro X hP hw hK hc n pins s σ H E I hf st hg
    subst hP hw hK
    obtain ⟨xs, x, sa, hx⟩ := hg
    obtain ⟨ia, ra, pa, _⟩ := I.tuple sa
    have pa : s.heap.IsTuple a ia.toArray := pa
    obtain ⟨u, hu, ru⟩ := ra.get hx
    have D := draws_tuple (prog := X.prog) (w := X.w) (A := X.A.in1) (I.ok.hd hc) it a nai ia.toArray
    have hlt : n < ia.toArray.size := by
      have := (List.getElem?_eq_some_iff.mp hu).1
      simpa using this
    obtain ⟨⟨old, se⟩, si⟩ := st
    refine wpAny_pyNext_enum_itemD D se ⟨si, pa⟩ hlt ne (by simp [ne, nae.symm]) fun y h' t hy out si' tT hz kk => ?_
    have hy : ia[n]? = some y := by simpa using hy
    rw [hu] at hy
    cases hy
    have lte : e < s.heap.objs.size := Heap.lt_size se
    have lti : it < s.heap.objs.size := by obtain ⟨o, z, _⟩ := si; exact Heap.lt_size z
    have nTe : s.heap.objs.size ≠ e := Nat.ne_of_gt lte
    have nT : s.heap.objs.size ∉ [e, it] := by simp only [List.mem_cons, List.not_mem_nil, or_false, not_or]; exact ⟨nTe, Nat.ne_of_gt lti⟩
    refine ⟨_, rfl, wpAny_letOwnedTupleGo_enum out fun h2 se2 sb => ?_⟩
    have k2 : ∀ b o, b ∉ [e, it] → s.heap.get? b = some o → h2.get? b = some o := fun b o hb z => by
      simp only [List.mem_cons, List.not_mem_nil, or_false, not_or] at hb
      exact (sb.2 b hb.1).trans (kk b o hb.1 hb.2 z)
    have tT2 := (sb.2 _ nTe).trans tT
    have st2 := si'.1.elim fun o z => (⟨o, (sb.2 it ne.symm).trans z.1, z.2⟩ : h2.IsTupleIter it a (n + 1))
    have fr : H s.heap.objs.size = none := I.hok.fresh (Nat.le_refl _)
    refine ⟨.ref s.heap.objs.size, upd H s.heap.objs.size (.tup [.int n, x]), I.turnedLaid (t' := t + 1) k2 hf (Nat.le_refl _) ⟨show (2 : Nat) ≤ sizeLine by decide, [.int n t, u], .cons ⟨t, rfl⟩ (.cons ru .nil), ⟨_, tT2, rfl, _, rfl⟩, _, tT2, rfl⟩, rfl, ⟨_, fr, rfl, fun xs' sa' => ⟨x, ?_, rfl⟩⟩, ⟨⟨_, se2⟩, st2⟩, fun c hc => ?_⟩
    · rw [I.tuple_inj sa' sa]; exact hx
    · rw [upd_ne (fun (z : c = s.heap.objs.size) => nT (z ▸ hc))]
      exact (hf c hc).1
  done := by
    intro X hP hw hK hc n pins s σ H E I hf st hg
    subst hP hw hK
    obtain ⟨xs, sa, rfl⟩ := hg
    obtain ⟨ia, ra, pa, _⟩ := I.tuple sa
    have pa : s.heap.IsTuple a ia.toArray := pa
    have D := draws_tuple (prog := X.prog) (w := X.w) (A := X.A.in1) (I.ok.hd hc) it a nai ia.toArray
    have W := WalksT.enumerateD D e ne (by simp [ne, nae.symm]) (by simp)
    have la : ia.toArray.size = xs.length := by simpa using ra.length.symm
    exact W.done s _ E (by rw [la]; exact ⟨st.1, st.2, pa⟩) fun h' tk kk => ⟨rfl, I.turnedL (t' := tk) (fun c o hc e => kk c o hc e) hf⟩
  self := fun _ _ _ _ _ st h => st.1.elim fun old z => wpAny_pyIter_enum z h
def ieT (K : PySem.W.Frag) (ta : TA) : TI := fun σ H R => ta σ H fun vs H1 => ∃ a xs, vs = [.ref a] ∧ SqT K H1 a xs ∧ R (IteT K a) H1
theorem pi_enumT {X : Cx} {elts : List Expr} {x1 : Nat} {tpos : Pos} {e : Expr} {ta : TA} {p pos : Pos} (hg : Gl X "enumerate") (hm : X.mg "enumerate" = none) (ha : PA X [e] ta) (hs : starEach [e] X.env = [(false, eval e X.env)] := by rfl) :
    PI X (.Tuple elts x1 tpos) (.Call (.Name "enumerate" p) [e] [] pos) (ieT X.K ta) := by
  intro pins s σ H R I h
  refine Call_ (ld_blt I hg hm boot_enumerate (PyProof.Rows.callWith_type1 (thn (ha pos pins s σ H _ I h) fun us s1 ⟨vs, H1, I1, r1, q1⟩ => ?_) (by rw [hs]; rfl) rfl))
  obtain ⟨a, xs, ev, sa, q⟩ := q1
  subst ev
  obtain ⟨u, rfl, ru⟩ := vals1 r1
  cases (show u = Value.ref a from ru)
  obtain ⟨ia, ra, pa, _⟩ := I1.tuple sa
  have pa : s1.heap.IsTuple a ia.toArray := pa
  have la : a < s1.heap.objs.size := by obtain ⟨o, e, _⟩ := id pa; exact Heap.lt_size e
  refine enumMade pa fun h' st1 st2 _ kk => ?_
  refine wpAny_pyIter_enum st1 ?_
  refine ⟨_, _, _, _, H1, rfl, I1.kept (t' := s1.toks) kk, turn_enumT (Nat.ne_of_gt (Nat.lt_succ_self _)) (Nat.ne_of_lt (Nat.lt_succ_of_lt la)) (Nat.ne_of_lt la), ⟨⟨_, st1⟩, st2⟩, fun c hc => ?_, q⟩
  have hc' : s1.heap.objs.size ≤ c := by
    simp only [List.mem_cons, List.not_mem_nil, or_false] at hc
    rcases hc with rfl | rfl
    · exact Nat.le_add_right _ _
    · exact Nat.le_refl _
  exact I1.fpOk hc' (I1.hok.fresh hc')
theorem for_enumT {K : PySem.W.Frag} {a : Addr} {xs : List V} {g : TG} {tb : TS} {D : Ends} {σ : St} {H : Hp} (Pv : Nat → St → Hp → Prop) (h0 : Pv 0 σ H) (hl : ∀ i σ H, Pv i σ H → SqT K H a xs)
    (hs : ∀ i x σ H p, xs[i]? = some x → Pv i σ H → H p = none → g (.ref p) σ (upd H p (.tup [.int i, x])) fun σ2 H2 => tb { D with nx := Pv (i + 1), ct := Pv (i + 1), bk := D.nx } σ2 H2) (hd : ∀ σ H, Pv xs.length σ H → D.nx σ H) :
    ∃ W : Nat → Nat → St → Hp → Prop, (∃ m, W 0 m σ H) ∧ ∀ i m σ H, W i m σ H →
      ((IteT K a).stop i H ∧ D.nx σ H) ∨ ((IteT K a).go i H ∧ ∃ N : St → Hp → Prop, (∀ σ' H', N σ' H' → ∃ m', m' < m ∧ W (i + 1) m' σ' H') ∧ ∀ x H', (IteT K a).yld i H x H' → g x σ H' fun σ2 H2 => tb { D with nx := N, ct := N, bk := D.nx } σ2 H2) := by
  refine ⟨fun i m σ H => m = xs.length - i ∧ i ≤ xs.length ∧ Pv i σ H, ⟨xs.length, by simp, Nat.zero_le _, h0⟩, ?_⟩
  rintro i m σ H ⟨rfl, hi, p⟩
  have qa := hl i σ H p
  by_cases hlt : i < xs.length
  · refine .inr ⟨⟨xs, xs[i], qa, by simp [hlt]⟩, Pv (i + 1), fun σ' H' p' => ⟨xs.length - (i + 1), by omega, rfl, hlt, p'⟩, fun v H' y => ?_⟩
    obtain ⟨t, ht, rfl, yy⟩ := y
    obtain ⟨x', ex, rfl⟩ := yy xs qa
    exact hs i x' σ H t ex p ht
  · have e : i = xs.length := by omega
    subst e
    exact .inl ⟨⟨xs, qa, rfl⟩, hd σ H p⟩
end L2
set_option Elab.async false
set_option linter.all false
set_option maxRecDepth 100000
set_option maxHeartbeats 400000
namespace L2
open PySem PySem.Spec PyProof.Rows
section
variable {X : Cx}
end
end L2
set_option Elab.async false
set_option linter.all false
set_option maxRecDepth 100000
set_option maxHeartbeats 400000
namespace L2
open PySem PySem.Spec PyProof.Rows
mutual
def IsPd (K : PySem.W.Frag) (H : Hp) : PyData → V → Prop
  | .none, v => v = .non
  | .bool b, v => v = .bl b
  | .int i, v => v = .int i
  | .str z, v => v = .str z
  | .list ds, v => ∃ a xs, v = .ref a ∧ SqL K H a xs ∧ IsPds K H ds xs
  | .tuple ds, v => ∃ a xs, v = .ref a ∧ SqT K H a xs ∧ IsPds K H ds xs
  | .dict _, _ => False
def IsPds (K : PySem.W.Frag) (H : Hp) : List PyData → List V → Prop
  | [], xs => xs = []
  | d :: ds, xs => ∃ x r, xs = x :: r ∧ IsPd K H d x ∧ IsPds K H ds r
end
mutual
theorem IsPd.mono' {K : PySem.W.Frag} {H H' : Hp} (s : ∀ a xs, SqT K H a xs → SqT K H' a xs) (t : ∀ a xs, SqL K H a xs → SqL K H' a xs) : ∀ (d : PyData) (v : V), IsPd K H d v → IsPd K H' d v
  | .none, v, h => h
  | .bool _, v, h => h
  | .int _, v, h => h
  | .str _, v, h => h
  | .list ds, v, h => by
    obtain ⟨a, xs, rfl, e, r⟩ := h
    exact ⟨a, xs, rfl, t _ _ e, IsPds.mono' s t ds xs r⟩
  | .tuple ds, v, h => by
    obtain ⟨a, xs, rfl, e, r⟩ := h
    exact ⟨a, xs, rfl, s _ _ e, IsPds.mono' s t ds xs r⟩
  | .dict _, v, h => h.elim
theorem IsPds.mono' {K : PySem.W.Frag} {H H' : Hp} (s : ∀ a xs, SqT K H a xs → SqT K H' a xs) (t : ∀ a xs, SqL K H a xs → SqL K H' a xs) : ∀ (ds : List PyData) (xs : List V), IsPds K H ds xs → IsPds K H' ds xs
  | [], xs, h => h
  | d :: ds, xs, h => by
    obtain ⟨x, r, rfl, a, b⟩ := h
    exact ⟨x, r, rfl, IsPd.mono' s t d x a, IsPds.mono' s t ds r b⟩
end
section
variable {X : Cx} {pins : List (Addr × Obj)} {σ : St} {H : Hp} {s : Shared}
mutual
theorem pd_reads (I : Inv X pins σ H s) : ∀ (d : PyData) (v : V) (u : Value), IsPd X.K H d v → RelV v u → ∃ as, Reads s.heap u d as
  | .none, v, u, h, r => by
    cases (show v = .non from h)
    cases (show u = .none from r)
    exact ⟨_, .none⟩
  | .bool b, v, u, h, r => by
    cases (show v = .bl b from h)
    cases (show u = .bool b from r)
    exact ⟨_, .bool b⟩
  | .int i, v, u, h, r => by
    cases (show v = .int i from h)
    obtain ⟨t, rfl⟩ := r
    exact ⟨_, .int i t⟩
  | .str z, v, u, h, r => by
    cases (show v = .str z from h)
    obtain ⟨t, rfl⟩ := r
    exact ⟨_, .str z t⟩
  | .list ds, v, u, h, r => by
    obtain ⟨a, xs, rfl, e, hr⟩ := h
    cases (show u = .ref a from r)
    obtain ⟨its, rv, pl, _⟩ := I.list e
    obtain ⟨o, e1, e2, n, e3⟩ := pl.isList
    obtain ⟨as, ra⟩ := pds_reads I ds xs its hr rv
    exact ⟨_, .list e1 e2 e3 ra⟩
  | .tuple ds, v, u, h, r => by
    obtain ⟨a, xs, rfl, e, hr⟩ := h
    cases (show u = .ref a from r)
    obtain ⟨its, rv, pl, _⟩ := I.tuple e
    obtain ⟨o, e1, e2, n, e3⟩ := pl
    obtain ⟨as, ra⟩ := pds_reads I ds xs its hr rv
    exact ⟨_, .tuple e1 e2 e3 ra⟩
  | .dict _, v, u, h, r => h.elim
theorem pds_reads (I : Inv X pins σ H s) : ∀ (ds : List PyData) (xs : List V) (us : List Value), IsPds X.K H ds xs → Vals xs us → ∃ as, ReadsAll s.heap us ds as
  | [], xs, us, h, r => by
    cases (show xs = [] from h)
    cases r
    exact ⟨_, .nil⟩
  | d :: ds, xs, us, h, r => by
    obtain ⟨x, t, rfl, a, b⟩ := h
    cases r with
    | cons r1 r2 =>
      obtain ⟨as, ra⟩ := pd_reads I d x _ a r1
      obtain ⟨bs, rb⟩ := pds_reads I ds t _ b r2
      exact ⟨_, .cons ra rb⟩
end
end
mutual
def plainP : PyData → Bool
  | .none => true
  | .bool _ => false
  | .int _ => true
  | .str z => (PyData.str z).canLay0
  | .list ds => plainPs ds
  | .tuple ds => plainPs ds
  | .dict _ => false
def plainPs : List PyData → Bool
  | [] => true
  | d :: ds => plainP d && plainPs ds
end
mutual
theorem plain_lay : ∀ d : PyData, plainP d = true → d.canLay0 = true
  | .none, _ => rfl
  | .bool _, h => by cases h
  | .int _, _ => rfl
  | .str _, h => h
  | .list ds, h => plains_lay ds h
  | .tuple ds, h => plains_lay ds h
  | .dict _, h => by cases h
theorem plains_lay : ∀ ds : List PyData, plainPs ds = true → PyData.canLayAll0 ds = true
  | [], _ => rfl
  | d :: ds, h => by
    have h : (plainP d && plainPs ds) = true := h
    rw [Bool.and_eq_true] at h
    show (d.canLay0 && PyData.canLayAll0 ds) = true
    rw [plain_lay d h.1, plains_lay ds h.2]
    rfl
end
mutual
theorem eqv_iff : ∀ d e : PyData, plainP d = true → plainP e = true → (d.eqv e = true ↔ d = e)
  | .none, e, _, he => by
    cases e with
    | none => exact ⟨fun _ => rfl, fun _ => rfl⟩
    | bool b => cases he
    | dict _ => cases he
    | _ => exact ⟨fun z => (by cases z), fun z => (by cases z)⟩
  | .bool _, e, hd, _ => by cases hd
  | .int i, e, _, he => by
    cases e with
    | int j => exact ⟨fun z => congrArg _ (eq_of_beq (show (i == j) = true from z)), fun z => by cases z; exact beq_self_eq_true i⟩
    | bool b => cases he
    | dict _ => cases he
    | _ => exact ⟨fun z => (by cases z), fun z => (by cases z)⟩
  | .str i, e, _, he => by
    cases e with
    | str j => exact ⟨fun z => congrArg _ (eq_of_beq (show (i == j) = true from z)), fun z => by cases z; exact beq_self_eq_true i⟩
    | bool b => cases he
    | dict _ => cases he
    | _ => exact ⟨fun z => (by cases z), fun z => (by cases z)⟩
  | .list ds, e, hd, he => by
    cases e with
    | list es => exact ⟨fun z => congrArg _ ((eqvs_iff ds es hd he).mp z), fun z => (eqvs_iff ds es hd he).mpr (by cases z; rfl)⟩
    | bool b => cases he
    | dict _ => cases he
    | _ => exact ⟨fun z => (by cases z), fun z => (by cases z)⟩
  | .tuple ds, e, hd, he => by
    cases e with
    | tuple es => exact ⟨fun z => congrArg _ ((eqvs_iff ds es hd he).mp z), fun z => (eqvs_iff ds es hd he).mpr (by cases z; rfl)⟩
    | bool b => cases he
    | dict _ => cases he
    | _ => exact ⟨fun z => (by cases z), fun z => (by cases z)⟩
  | .dict _, e, hd, _ => by cases hd
theorem eqvs_iff : ∀ ds es : List PyData, plainPs ds = true → plainPs es = true → (PyData.eqvAll ds es = true ↔ ds = es)
  | [], [], _, _ => ⟨fun _ => rfl, fun _ => rfl⟩
  | [], e :: es, _, _ => ⟨fun z => (by cases z), fun z => (by cases z)⟩
  | d :: ds, [], _, _ => ⟨fun z => (by cases z), fun z => (by cases z)⟩
  | d :: ds, e :: es, hd, he => by
    have hd : (plainP d && plainPs ds) = true := hd
    have he : (plainP e && plainPs es) = true := he
    rw [Bool.and_eq_true] at hd he
    show (d.eqv e && PyData.eqvAll ds es) = true ↔ _
    rw [Bool.and_eq_true, eqv_iff d e hd.1 he.1, eqvs_iff ds es hd.2 he.2]
    exact ⟨fun z => by rw [z.1, z.2], fun z => by cases z; exact ⟨rfl, rfl⟩⟩
end
section
variable {X : Cx}
def rEqP (K : PySem.W.Frag) : R2 := fun x y H Q => ∃ d e, IsPd K H d x ∧ IsPd K H e y ∧ plainP d = true ∧ plainP e = true ∧ d.depth ≤ 60 ∧ Q (.bl (d.eqv e)) H
def rNeP (K : PySem.W.Frag) : R2 := fun x y H Q => ∃ d e, IsPd K H d x ∧ IsPd K H e y ∧ plainP d = true ∧ plainP e = true ∧ d.depth ≤ 60 ∧ Q (.bl (!d.eqv e)) H
theorem room60 {A : Around} {k m n : Nat} (hr : Room k A) (h : m ≤ 60) : A.units + min m n < cLine := Nat.lt_of_le_of_lt (Nat.add_le_add_left (Nat.le_trans (Nat.min_le_left _ _) (Nat.le_trans h (by decide : 60 ≤ 64))) _) hr.units
theorem room61 {A : Around} {k m n : Nat} (hr : Room k A) (h : n ≤ 60) : A.units + 1 + min m n < cLine := by
  have h1 := hr.units
  have h2 := Nat.min_le_right m n
  omega
theorem op_neP {k : Nat} (hr : Room k X.A) : OpR X (compareOp .NotEq) (rNeP X.K) := by
  intro pins s σ H x y v u Q I rx ry h
  obtain ⟨d, e, hd, he, pd, pe, dp, q⟩ := h
  obtain ⟨as, ra⟩ := pd_reads I d x v hd rx
  obtain ⟨bs, rb⟩ := pd_reads I e y u he ry
  exact SeqAt.compareNe_reads ra rb (plain_lay _ pd) (plain_lay _ pe) (room60 hr dp) ⟨.bl _, H, I, rfl, q⟩
def rInP (K : PySem.W.Frag) (neg : Bool) : R2 := fun x y H Q => ∃ d ds, IsPd K H d x ∧ (IsPd K H (.list ds) y ∨ IsPd K H (.tuple ds) y) ∧ plainP d = true ∧ plainPs ds = true ∧ d.depth ≤ 60 ∧ Q (.bl (if neg then !(ds.any fun e => e.eqv d) else ds.any fun e => e.eqv d)) H
theorem op_notInP {k : Nat} (hr : Room k X.A) : OpR X (compareOp .NotIn) (rInP X.K true) := by
  intro pins s σ H x y v u Q I rx ry h
  obtain ⟨d, ds, hd, hs, pd, ps, dp, q⟩ := h
  obtain ⟨as, ra⟩ := pd_reads I d x v hd rx
  rcases hs with hs | hs
  · obtain ⟨bs, rb⟩ := pd_reads I _ y u hs ry
    exact SeqAt.notIn_list_reads rb ra (plains_lay _ ps) (plain_lay _ pd) (room61 hr dp) ⟨.bl _, H, I, rfl, q⟩
  · obtain ⟨bs, rb⟩ := pd_reads I _ y u hs ry
    exact SeqAt.notIn_tuple_reads rb ra (plains_lay _ ps) (plain_lay _ pd) (room61 hr dp) ⟨.bl _, H, I, rfl, q⟩
end
end L2
set_option Elab.async false
set_option linter.all false
set_option maxRecDepth 100000
set_option maxHeartbeats 1000000
namespace L2
open PySem PySem.Spec PyProof.Rows
section
variable {prog : Program} {w : World} {A : Around} {E : Value → Shared → Prop} {s : Shared}
def PairOf (prog : Program) (w : World) (h : Heap) (p : Key × Value) (u : Value) : Prop := ∃ a kv, u = .ref a ∧ h.IsTuple a #[kv, p.2] ∧ (mixKind prog w).is p.1 kv = true
end
section
variable {X : Cx}
def rDictOf (K : PySem.W.Frag) : List V → Hp → VK → Prop := fun xs H Q => ∃ a ys kvs, xs = [.ref a] ∧ (H a = some (.lst ys) ∨ H a = some (.tup ys)) ∧ All2 (fun (p : Key × V) y => ∃ b, y = .ref b ∧ SqT K H b [kV p.1, p.2]) kvs ys ∧ ∀ p, H p = none → Q (.ref p) (upd H p (.dK (mergeK [] kvs)))
end
end L2
set_option Elab.async false
set_option linter.all false
set_option maxRecDepth 100000
set_option maxHeartbeats 1000000
namespace L2
open PySem PySem.Spec PyProof.Rows
section
variable {X : Cx}
def rNeD0 : R2 := fun x y H Q => ∃ a b kvs, x = .ref a ∧ y = .ref b ∧ H a = some (.dK kvs) ∧ H b = some (.dK []) ∧ Q (.bl (decide (kvs ≠ []))) H
end
end L2
set_option Elab.async false
set_option linter.all false
set_option maxRecDepth 100000
set_option maxHeartbeats 400000
namespace L2
open PySem PySem.Spec PyProof.Rows
structure RunsR (S : Hp → Hp → Prop) (J : It) (H1 : Hp) (n : Nat) (Item : Nat → V → Hp → Prop) : Prop where
  go : ∀ i, i < n → ∀ H, S H1 H → J.go i H
  stop : ∀ H, S H1 H → J.stop n H
  item : ∀ i, i < n → ∀ H v H', S H1 H → J.yld i H v H' → S H H' ∧ Item i v H'
theorem compG_rel {S : Hp → Hp → Prop} {J : It} {H1 : Hp} {n m : Nat} {Item : Nat → V → Hp → Prop} {fr : List (Nat × Str)} {g : TG} {tc : TT} {te : TE} {σ : St} {Q : VK} (s0 : S H1 H1) (st : ∀ a b c, S a b → S b c → S a c) (p : Nat → Bool) (R : Nat → V → Hp → Prop) (hR : ∀ i y H H', S H H' → R i y H → R i y H') (r : RunsR S J H1 n Item) (hn : n ≤ sizeLine)
    (body : ∀ i, i < n → ∀ v H, S H1 H → Item i v H → ∀ (KT : VK) (KF : Hp → Prop), (p i = true → ∀ y H', S H H' → R i y H' → KT y H') → (p i = false → ∀ H', S H H' → KF H') →
      g v (cStG σ fr (List.replicate m none)) H fun σ6 H6 => ∃ us, us.length = m ∧ σ6 = cStG σ fr us ∧ tc (cStG σ fr us) H6 fun b H2 => if b = true then te (cStG σ fr us) H2 KT else KF H2)
    (hQ : ∀ l H' ys, S H1 H' → H' l = none → All2 (fun i y => R i y H') ((List.range n).filter p) ys → Q (.ref l) (upd H' l (.lst ys))) :
    ∃ W : Nat → Nat → List V → Hp → Prop, (∃ m, W 0 m [] H1) ∧ ∀ i k ys H, W i k ys H →
      (J.stop i H ∧ ys.length ≤ sizeLine ∧ ∀ p, H p = none → Q (.ref p) (upd H p (.lst ys))) ∨
      (J.go i H ∧ ys.length ≤ sizeLine ∧ ∀ v H', J.yld i H v H' → g v (cStG σ fr (List.replicate m none)) H' fun σ6 H6 => ∃ us, us.length = m ∧ σ6 = cStG σ fr us ∧ tc (cStG σ fr us) H6 fun b H2 => if b = true then te (cStG σ fr us) H2 fun y H3 => ∃ m', m' < k ∧ W (i + 1) m' (ys ++ [y]) H3 else ∃ m', m' < k ∧ W (i + 1) m' ys H2) := by
  refine ⟨fun i k ys H' => k = n - i ∧ i ≤ n ∧ S H1 H' ∧ All2 (fun i y => R i y H') ((List.range i).filter p) ys, ⟨n, by simp, Nat.zero_le _, s0, .nil⟩, ?_⟩
  rintro i k ys H' ⟨rfl, hi, sm, fa⟩
  have hl2 : ys.length ≤ sizeLine := by
    rw [forall2_len fa]
    have := List.length_filter_le p (List.range i)
    rw [List.length_range] at this
    omega
  by_cases hlt : i < n
  · refine .inr ⟨r.go i hlt H' sm, hl2, fun v H2 y => ?_⟩
    obtain ⟨s2, it⟩ := r.item i hlt H' v H2 sm y
    refine body i hlt v H2 (st _ _ _ sm s2) it _ _ (fun hp y H3 s3 ry => ⟨n - (i + 1), by omega, rfl, hlt, st _ _ _ (st _ _ _ sm s2) s3, ?_⟩) (fun hp H3 s3 => ⟨n - (i + 1), by omega, rfl, hlt, st _ _ _ (st _ _ _ sm s2) s3, ?_⟩)
    · rw [range_filter_succ, if_pos hp]
      exact forall2_snoc (forall2_mono (fun a b z => hR a b _ _ (st _ _ _ s2 s3) z) fa) ry
    · rw [range_filter_succ, if_neg (by rw [hp]; decide), List.append_nil]
      exact forall2_mono (fun a b z => hR a b _ _ (st _ _ _ s2 s3) z) fa
  · have e : i = n := by omega
    subst e
    exact .inl ⟨r.stop H' sm, hl2, fun l hl => hQ l H' ys sm hl fa⟩
theorem runsR_list {S : Hp → Hp → Prop} {K : PySem.W.Frag} {a : Addr} {xs : List V} {H1 : Hp} (hs : ∀ H, S H1 H → S H H) (hq : ∀ H, S H1 H → SqL K H a xs) : RunsR S (Itl K a) H1 xs.length (fun i v _ => xs[i]? = some v) :=
  ⟨fun i hi H s => ⟨xs, xs[i], hq H s, by simp [hi]⟩, fun H s => ⟨xs, hq H s, Nat.le_refl _⟩, fun i hi H v H' s y => by
    obtain ⟨e, y⟩ := y
    subst e
    exact ⟨hs _ s, y xs (hq _ s)⟩⟩
theorem runsR_tup {S : Hp → Hp → Prop} {K : PySem.W.Frag} {a : Addr} {xs : List V} {H1 : Hp} (hs : ∀ H, S H1 H → S H H) (hq : ∀ H, S H1 H → SqT K H a xs) : RunsR S (Itt K a) H1 xs.length (fun i v _ => xs[i]? = some v) :=
  ⟨fun i hi H s => ⟨xs, xs[i], hq H s, by simp [hi]⟩, fun H s => ⟨xs, hq H s, Nat.le_refl _⟩, fun i hi H v H' s y => by
    obtain ⟨e, y⟩ := y
    subst e
    exact ⟨hs _ s, y xs (hq _ s)⟩⟩
end L2
set_option Elab.async false
set_option linter.all false
set_option maxRecDepth 100000
set_option maxHeartbeats 400000
namespace L2
open PySem PySem.Spec PyProof.Rows
def Ris (xs : Array Nat) : Prop := xs.toList.Pairwise (· < ·)
theorem Ris.lt {xs : Array Nat} (r : Ris xs) {i k : Nat} (h : i < k) (hk : k < xs.size) : xs[i]'(Nat.lt_trans h hk) < xs[k] := by
  have := (List.pairwise_iff_getElem.mp r) i k (by simpa using Nat.lt_trans h hk) (by simpa using hk) h
  simpa using this
theorem getD_in {xs : Array Nat} {i d : Nat} (h : i < xs.size) : xs.getD i d = xs[i] := by simp [Array.getD, h]
theorem below_go {xs : Array Nat} {j : Nat} (r : Ris xs) : ∀ (f lo hi : Nat), lo ≤ hi → hi ≤ xs.size → hi - lo ≤ f → (∀ i (h : i < xs.size), i < lo → xs[i] < j) → (∀ i (h : i < xs.size), hi ≤ i → j ≤ xs[i]) →
    SetTable.below.go xs j f lo hi ≤ xs.size ∧ (∀ i (h : i < xs.size), i < SetTable.below.go xs j f lo hi → xs[i] < j) ∧ (∀ i (h : i < xs.size), SetTable.below.go xs j f lo hi ≤ i → j ≤ xs[i])
  | 0, lo, hi, h1, h2, h3, ha, hb => by
    have : lo = hi := by omega
    subst this
    exact ⟨h2, ha, hb⟩
  | f + 1, lo, hi, h1, h2, h3, ha, hb => by
    unfold SetTable.below.go
    by_cases z : lo < hi
    · rw [if_pos z]
      have hm : (lo + hi) / 2 < xs.size := by omega
      dsimp only
      rw [getD_in hm]
      by_cases y : xs[(lo + hi) / 2] < j
      · rw [if_pos y]
        refine below_go r f _ _ (by omega) h2 (by omega) (fun i h hi' => ?_) hb
        by_cases e : i = (lo + hi) / 2
        · subst e; exact y
        · exact Nat.lt_trans (r.lt (by omega) hm) y
      · rw [if_neg y]
        refine below_go r f _ _ (by omega) (by omega) (by omega) ha fun i h hi' => ?_
        by_cases e : i = (lo + hi) / 2
        · subst e; omega
        · exact Nat.le_trans (Nat.not_lt.mp y) (Nat.le_of_lt (r.lt (by omega) h))
    · rw [if_neg z]
      have : lo = hi := by omega
      subst this
      exact ⟨h2, ha, hb⟩
theorem below_spec {xs : Array Nat} (r : Ris xs) (j : Nat) : SetTable.below xs j ≤ xs.size ∧ (∀ i (h : i < xs.size), i < SetTable.below xs j → xs[i] < j) ∧ (∀ i (h : i < xs.size), SetTable.below xs j ≤ i → j ≤ xs[i]) :=
  below_go r _ _ _ (Nat.zero_le _) (Nat.le_refl _) (Nat.le_refl _) (fun i h z => absurd z (Nat.not_lt_zero _)) (fun i h z => absurd h (Nat.not_lt.mpr z))
theorem insertAt_toList {α : Type} (xs : Array α) (p : Nat) (x : α) (hp : p ≤ xs.size) : (SetTable.insertAt xs p x).toList = xs.toList.take p ++ x :: xs.toList.drop p := by
  unfold SetTable.insertAt
  simp [List.take_of_length_le]
theorem Ris.insert {xs : Array Nat} (r : Ris xs) {j : Nat} (h : ¬ xs[SetTable.below xs j]? = some j) : Ris (SetTable.insertAt xs (SetTable.below xs j) j) := by
  obtain ⟨h1, h2, h3⟩ := below_spec r j
  unfold Ris
  rw [insertAt_toList _ _ _ h1]
  refine List.pairwise_append.mpr ⟨r.sublist (List.take_sublist _ _), List.pairwise_cons.mpr ⟨fun y hy => ?_, r.sublist (List.drop_sublist _ _)⟩, fun a ha b hb => ?_⟩
  · obtain ⟨i, hi, e⟩ := List.mem_drop_iff_getElem.mp hy
    have hi' : SetTable.below xs j + i < xs.size := by simpa [Nat.add_comm] using hi
    have e' : xs[SetTable.below xs j + i] = y := by simpa using e
    have le := h3 _ hi' (by omega)
    rw [e'] at le
    rcases Nat.lt_or_eq_of_le le with z | z
    · exact z
    · exfalso
      have hb : SetTable.below xs j < xs.size := by omega
      have ge := h3 _ hb (Nat.le_refl _)
      have : xs[SetTable.below xs j] = j := by
        by_cases i0 : i = 0
        · subst i0; exact e'.trans z.symm
        · have := r.lt (show SetTable.below xs j < SetTable.below xs j + i by omega) hi'
          rw [e'] at this
          omega
      exact h (by rw [Array.getElem?_eq_getElem hb, this])
  · obtain ⟨i, hi, e⟩ := List.mem_take_iff_getElem.mp ha
    have hi2 : i < xs.size := by have := hi; simp at this; omega
    have hi3 : i < SetTable.below xs j := by have := hi; simp at this; omega
    have lt := h2 i hi2 hi3
    have e' : xs[i] = a := by simpa using e
    rw [e'] at lt
    rcases List.mem_cons.mp hb with z | z
    · rw [z]; exact lt
    · obtain ⟨k, hk, e2⟩ := List.mem_drop_iff_getElem.mp z
      have hk' : SetTable.below xs j + k < xs.size := by simpa [Nat.add_comm] using hk
      have e2' : xs[SetTable.below xs j + k] = b := by simpa using e2
      have := h3 _ hk' (by omega)
      rw [e2'] at this
      omega
theorem ris_range (n : Nat) : Ris (Array.range n) := by
  unfold Ris
  rw [Array.toList_range]
  exact List.pairwise_lt_range
def Untaken (t : SetTable) (j : Nat) : Prop := ¬ t.place[SetTable.below t.place j]? = some j
theorem untaken_of {t : SetTable} {j : Nat} (h : ∀ i, t.slot j ≠ .live i) : Untaken t j := fun e => by
  refine h (SetTable.below t.place j) ?_
  unfold SetTable.slot
  dsimp only
  rw [if_pos (by rw [e]; exact beq_self_eq_true _)]
theorem probe_free {t : SetTable} {hs : Nat → Int} {h : Int} : ∀ (f : Nat) (p : SetTable.Probe) (j : Nat) (d : Option Nat), (∀ k, p.dummy = some k → Untaken t k) → SetTable.probe.go t hs h f p = some (.empty j d) → Untaken t j ∧ ∀ k, d = some k → Untaken t k
  | 0, p, j, d, hd, e => by cases e
  | f + 1, p, j, d, hd, e => by
    unfold SetTable.probe.go at e
    cases q : t.slot p.j with
    | empty =>
      rw [q] at e
      cases e
      exact ⟨untaken_of (fun i z => by rw [q] at z; cases z), hd⟩
    | dummy =>
      rw [q] at e
      refine probe_free f _ j d (fun k z => ?_) e
      unfold SetTable.advance at z
      dsimp only at z
      split at z <;> (cases z; exact untaken_of fun i z => by rw [q] at z; cases z)
    | live i =>
      rw [q] at e
      dsimp only at e
      split at e
      · cases e
      · refine probe_free f _ j d (fun k z => ?_) e
        unfold SetTable.advance at z
        dsimp only at z
        split at z <;> exact hd k z
theorem freeSlot_un {t : SetTable} {h : Int} {s : Nat} {b : Bool} (e : t.freeSlot h = some (s, b)) : Untaken t s := by
  unfold SetTable.freeSlot at e
  cases q : t.probe (fun _ => h + 1) h (t.probeStart h) with
  | none => rw [q] at e; cases e
  | some m =>
    rw [q] at e
    cases m with
    | candidate a b c => cases e
    | empty j d =>
      have := probe_free _ _ j d (fun k z => by cases z) q
      cases e
      cases d with
      | none => exact this.1
      | some k => exact this.2 k rfl
def Tidy (l : Bool) (t : SetTable) : Prop := t.led = l ∧ Ris t.place
theorem Tidy.standIn {l : Bool} {t : SetTable} (h : Tidy l t) (n : Nat) : Tidy l (t.standIn n) := ⟨h.1, ris_range n⟩
theorem Tidy.layNew {l : Bool} {t : SetTable} (h : Tidy l t) (es : Array (Int × Value)) (k : Int) (x : Value) : Tidy l (layNew t es k x).2.1 := by
  unfold PySem.layNew
  cases q : t.freeSlot k with
  | none => exact h.standIn _
  | some s =>
    obtain ⟨s, b⟩ := s
    dsimp only
    have ht : Tidy l (t.put s).1 := ⟨h.1, Ris.insert h.2 (freeSlot_un q)⟩
    unfold SetTable.orStandIn
    split
    · exact ht
    · exact ht.standIn _
theorem Tidy.relayAll {l : Bool} {t : SetTable} (h : Tidy l t) (es : Array (Int × Value)) (n : Nat) : Tidy l (relayAll t es n).2.1 := by
  unfold PySem.relayAll
  cases q : t.relaid (es.map (·.1)) n with
  | none => exact h.standIn _
  | some p =>
    obtain ⟨t', o⟩ := p
    dsimp only
    split
    · unfold SetTable.relaid SetTable.laid at q
      cases q2 : SetTable.layClean (SetTable.sizeAbove n - 1) (es.map (·.1)) with
      | none => rw [q2] at q; cases q
      | some ow =>
        rw [q2] at q
        cases q
        refine ⟨h.1, ?_⟩
        show (List.map _ _).Pairwise _
        rw [List.pairwise_map]
        refine List.Pairwise.filterMap _ (fun a b hab c hc d hd => ?_) (List.pairwise_lt_range)
        obtain ⟨c', _, e1⟩ := Option.map_eq_some_iff.mp hc
        obtain ⟨d', _, e2⟩ := Option.map_eq_some_iff.mp hd
        rw [← e1, ← e2]
        exact hab
    · exact h.standIn _
end L2
set_option Elab.async false
set_option linter.all false
set_option maxRecDepth 100000
set_option maxHeartbeats 1000000
namespace L2
open PySem PySem.Spec PyProof.Rows
def intOf : Value → Int
  | .int i _ => i
  | _ => 0
theorem ints_are {vs : List Value} {ns : List Int} (h : IntsAre vs ns) : ns = vs.map intOf ∧ ∀ v ∈ vs, ∃ i t, v = .int i t := by
  induction h with
  | nil => exact ⟨rfl, fun v hv => by cases hv⟩
  | cons n t r ih =>
    refine ⟨by rw [ih.1]; rfl, fun v hv => ?_⟩
    rcases List.mem_cons.mp hv with e | hv
    · exact ⟨n, t, e⟩
    · exact ih.2 v hv
theorem are_ints : ∀ vs : List Value, (∀ v ∈ vs, ∃ i t, v = .int i t) → IntsAre vs (vs.map intOf)
  | [], _ => .nil
  | v :: vs, h => by
    obtain ⟨i, t, e⟩ := h v (.head _)
    subst e
    exact .cons i t (are_ints vs fun v hv => h v (.tail _ hv))
theorem ints_perm {vs vs' : List Value} {ns : List Int} (h : IntsAre vs ns) (p : vs'.Perm vs) : ∃ ns', IntsAre vs' ns' ∧ ns'.Perm ns := by
  obtain ⟨e, k⟩ := ints_are h
  refine ⟨vs'.map intOf, are_ints vs' fun v hv => k v (p.mem_iff.mp hv), ?_⟩
  rw [e]
  exact p.map _
theorem ints_len {vs : List Value} {ns : List Int} (h : IntsAre vs ns) : ns.length = vs.length := by rw [(ints_are h).1, List.length_map]
theorem ints_snoc {vs : List Value} {ns : List Int} (h : IntsAre vs ns) (n : Int) (t : Tok) : IntsAre (vs ++ [.int n t]) (ns ++ [n]) := by
  induction h with
  | nil => exact .cons n t .nil
  | cons m u r ih => exact .cons m u ih
section
variable {prog : Program} {w : World} {A : Around} {E : Value → Shared → Prop} {s : Shared}
def SetAt (prog : Program) (w : World) (l : Bool) (h : Heap) (a : Addr) (ns : List Int) : Prop :=
  ∃ es ep t, h.get? a = some { cls := .type "set", dict := none, data := .set es ep t, slots := #[] } ∧ ElemsOf (intKind prog w) es.toList ∧ IntsAre (es.toList.map (·.2)) ns ∧ ns.Nodup ∧ es.size < scanBound ∧ t.fits es.size = true ∧ Tidy l t
theorem setAt_put {l : Bool} {h : Heap} {a : Addr} {es0 es : Array (Int × Value)} {ep : Nat} {t0 t : SetTable} {ns : List Int} (ho : h.get? a = some { cls := .type "set", dict := none, data := .set es0 ep t0, slots := #[] })
    (hel : ElemsOf (intKind prog w) es.toList) (hi : IntsAre (es.toList.map (·.2)) ns) (nd : ns.Nodup) (hb : es.size < scanBound) (hf : t.fits es.size = true) (ht : Tidy l t) :
    (h.update a (Obj.putSet es t)).get? a = some { cls := .type "set", dict := none, data := .set es (ep + 1) t, slots := #[] } ∧ SetAt prog w l (h.update a (Obj.putSet es t)) a ns := by
  have g : (h.update a (Obj.putSet es t)).get? a = some { cls := .type "set", dict := none, data := .set es (ep + 1) t, slots := #[] } := Heap.get?_update_self (Obj.putSet es t) ho rfl
  exact ⟨g, es, ep + 1, t, g, hel, hi, nd, hb, hf, ht⟩
theorem find_not {es : List (Int × Value)} {ns : List Int} {v : Int} (hi : IntsAre (es.map (·.2)) ns) (h : es.findIdx? (fun e => (intKind prog w).is v e.2) = none) : ¬ v ∈ ns := fun hv => by
  obtain ⟨e, k⟩ := ints_are hi
  rw [e] at hv
  obtain ⟨y, hy, e2⟩ := List.mem_map.mp hv
  obtain ⟨p, hp, e3⟩ := List.mem_map.mp hy
  obtain ⟨i, t, e4⟩ := k y hy
  have := List.findIdx?_eq_none_iff.mp h p hp
  have e5 : v = i := by rw [← e2, e4]; rfl
  have : (intKind prog w).is v p.2 = false := by simpa using this
  rw [e3, e4, e5, intKind_is] at this
  cases this
theorem find_in {es : List (Int × Value)} {ns : List Int} {v : Int} {j : Nat} (hi : IntsAre (es.map (·.2)) ns) (h : es.findIdx? (fun e => (intKind prog w).is v e.2) = some j) : v ∈ ns := by
  obtain ⟨hj, hp, _⟩ := List.findIdx?_eq_some_iff_getElem.mp h
  obtain ⟨t, e⟩ := Value.isInt_shape (show Value.isInt v es[j].2 = true from hp)
  rw [(ints_are hi).1]
  exact List.mem_map.mpr ⟨es[j].2, List.mem_map.mpr ⟨es[j], List.getElem_mem hj, rfl⟩, by rw [e]; rfl⟩
theorem nodup_snoc {ns : List Int} {v : Int} (h : ns.Nodup) (n : ¬ v ∈ ns) : (ns ++ [v]).Nodup := by
  refine List.nodup_append.mpr ⟨h, by simp, fun a ha b hb e => ?_⟩
  rw [List.mem_singleton.mp hb] at e
  exact n (e ▸ ha)
def addI (ns : List Int) (v : Int) : List Int := if v ∈ ns then ns else ns ++ [v]
theorem set_add {l : Bool} {a : Addr} {v : Int} {tk : Tok} {ns : List Int} {Q : Bool → Shared → Prop} (hS : SetAt prog w l s.heap a ns) (hroom : ns.length + 1 < scanBound)
    (h : ∀ b h' ns', Heap.SameBut a s.heap h' → SetAt prog w l h' a ns' → ns'.Perm (addI ns v) → Q b { s with heap := h' }) : wpAny (model prog w) A (setAddHashed a (.int v tk) ((intKind prog w).hash v)) Q E s := by
  obtain ⟨es, ep, t, ho, hel, hi, nd, hb, hf, ht⟩ := hS
  have hsz : es.size = ns.length := by rw [ints_len hi, List.length_map, Array.length_toList]
  have hk : (intKind prog w).is v (.int v tk) = true := intKind_is prog w v tk
  unfold setAddHashed setAddHashedIn
  refine wpAny_holding (wpAny_bind (wpAny_setState_of ho rfl hf ?_)); dsimp only
  rw [byScan_of rfl hb hel]; simp only [↓reduceIte]; unfold setAddByScan
  refine wpAny_bind (wpAny_bind (wpAny_rule (wpAny_bind (wpAny_setScan_of hk ho rfl hf hel ?_))))
  cases hr : List.findIdx? (fun e => (intKind prog w).is v e.2) es.toList with
  | some j =>
    refine wpAny_pure (wpAny_pure ?_)
    have := h false s.heap ns (Heap.SameBut.refl a s.heap) ⟨es, ep, t, ho, hel, hi, nd, hb, hf, ht⟩ (by unfold addI; rw [if_pos (find_in hi hr)])
    exact this
  | none =>
    dsimp only
    have hp := layNew_perm t es ((intKind prog w).hash v) (.int v tk)
    have hfi := layNew_fits t es ((intKind prog w).hash v) (.int v tk)
    have hti := ht.layNew es ((intKind prog w).hash v) (.int v tk)
    generalize layNew t es ((intKind prog w).hash v) (.int v tk) = L at hp hfi hti ⊢
    obtain ⟨es1, t1, wd, gave⟩ := L
    dsimp only at hp hfi hti ⊢; rw [Array.toList_push] at hp
    have hel1 : ElemsOf (intKind prog w) es1.toList := (hel.push hk rfl).perm hp
    have hi1 : ∃ ns1, IntsAre (es1.toList.map (·.2)) ns1 ∧ ns1.Perm (ns ++ [v]) := ints_perm (ints_snoc hi v tk) (by have := hp.map (fun e : Int × Value => e.2); rwa [List.map_append] at this)
    obtain ⟨ns1, hi1, pn⟩ := hi1
    have nin := find_not hi hr
    have nd1 : ns1.Nodup := pn.nodup_iff.mpr (nodup_snoc nd nin)
    have ea : addI ns v = ns ++ [v] := if_neg nin
    have hb1 : es1.size < scanBound := by rw [← Array.length_toList, hp.length_eq, List.length_append, Array.length_toList, hsz]; exact hroom
    have gw : ∀ (b : Bool) {s₁ : Shared} {Q' : Unit → Shared → Prop}, Q' () s₁ → wpAny (model prog w) A (match b with | true => rule "set.scan.the-table-gave-way" | false => pure ()) Q' E s₁ := fun b s₁ Q' q => by cases b with | false => exact wpAny_pure q | true => exact wpAny_rule q
    have last : wpAny (model prog w) A (do
        storeSet a es1 t1
        if (!wd && t1.tooFull) = true then do
            (match (relayAll t1 es1 (SetTable.grown es1.size)).2.2 with | true => rule "set.scan.the-table-gave-way" | false => pure ())
            storeSet a (relayAll t1 es1 (SetTable.grown es1.size)).1 (relayAll t1 es1 (SetTable.grown es1.size)).2.1
            pure (some true)
          else pure (some true)) (fun r s' => ∃ b, r = some b ∧ Q b s') E s := by
      obtain ⟨g1, S1⟩ := setAt_put (prog := prog) (w := w) ho hel1 hi1 nd1 hb1 hfi hti
      have sb := Heap.SameBut.update s.heap a (Obj.putSet es1 t1)
      refine wpAny_bind (wpAny_storeSet_of ho rfl ?_ (fits_of_scanBound hb1))
      split
      · have hp2 := relayAll_perm t1 es1 (SetTable.grown es1.size)
        have hf2 := relayAll_fits t1 es1 (SetTable.grown es1.size)
        have ht2 := hti.relayAll es1 (SetTable.grown es1.size)
        generalize relayAll t1 es1 (SetTable.grown es1.size) = L2 at hp2 hf2 ht2 ⊢
        obtain ⟨es2, t2, g2⟩ := L2
        dsimp only at hp2 hf2 ht2 ⊢
        obtain ⟨ns2, hi2, pn2⟩ := ints_perm hi1 (hp2.map (fun e : Int × Value => e.2))
        have hb2 : es2.size < scanBound := by rw [← Array.length_toList, hp2.length_eq, Array.length_toList]; exact hb1
        refine wpAny_bind (gw g2 (wpAny_bind (wpAny_storeSet_of g1 rfl ?_ (fits_of_scanBound hb2))))
        obtain ⟨_, S2⟩ := setAt_put (prog := prog) (w := w) g1 (hel1.perm hp2) hi2 (pn2.nodup_iff.mpr nd1) hb2 hf2 ht2
        exact wpAny_pure ⟨true, rfl, h true _ ns2 (sb.trans (Heap.SameBut.update _ a _)) S2 (by rw [ea]; exact pn2.trans pn)⟩
      · exact wpAny_pure ⟨true, rfl, h true _ ns1 sb S1 (by rw [ea]; exact pn)⟩
    refine wpAny_bind (gw gave ?_)
    have fin := wpAny_mono last (Q' := fun r s' => wpAny (model prog w) A (match r with | some added => pure added | none => setAddHashedIn a (.int v tk) ((intKind prog w).hash v) 99999) Q E s') (E' := E) (fun r s' x => by obtain ⟨b, e, q⟩ := x; subst e; exact wpAny_pure q) (fun e s' x => x)
    by_cases z : t1.plain = true
    · rw [if_pos z]; exact wpAny_bind (wpAny_of_eq (show hashByValue 8 (Value.int v tk) = pure true from rfl) fin)
    · rw [if_neg z]; exact wpAny_bind (wpAny_pure fin)
end
end L2
set_option Elab.async false
set_option linter.all false
set_option maxRecDepth 100000
set_option maxHeartbeats 1000000
namespace L2
open PySem PySem.Spec PyProof.Rows
theorem addI_perm {ns ms : List Int} (p : ns.Perm ms) (v : Int) : (addI ns v).Perm (addI ms v) := by
  unfold addI
  by_cases z : v ∈ ns
  · rw [if_pos z, if_pos (p.mem_iff.mp z)]; exact p
  · rw [if_neg z, if_neg (fun y => z (p.mem_iff.mpr y))]; exact p.append_right [v]
theorem addI_fold_perm : ∀ (vs : List Int) {ns ms : List Int}, ns.Perm ms → (vs.foldl addI ns).Perm (vs.foldl addI ms)
  | [], _, _, p => p
  | v :: vs, _, _, p => addI_fold_perm vs (addI_perm p v)
theorem addI_len (ns : List Int) (v : Int) : (addI ns v).length ≤ ns.length + 1 := by
  unfold addI
  split
  · exact Nat.le_succ _
  · rw [List.length_append]; exact Nat.le_refl _
section
variable {prog : Program} {w : World} {A : Around} {E : Value → Shared → Prop} {s : Shared}
theorem SetAt.at' {l : Bool} {h h' : Heap} {a : Addr} {ns : List Int} (k : ∀ o, h.get? a = some o → h'.get? a = some o) (x : SetAt prog w l h a ns) : SetAt prog w l h' a ns := by
  obtain ⟨es, ep, t, e, r⟩ := x
  exact ⟨es, ep, t, k _ e, r⟩
theorem quiet_sul (a : Args) : (Code.builtin "set.update.loop" a).quiet = true := plainId_quiet (by decide +kernel) _
def set0 (w : World) : Obj := { cls := .type "set", dict := none, data := .set #[] 0 (.fresh 0 0 (!w.params.followText "set-order")) }
theorem set_new (a : Value) {Q₁ : Value → Shared → Prop} (h : Q₁ (.ref s.heap.objs.size) { s with heap := s.heap.push (set0 w) }) : codeAny (model prog w) A (.call (.builtin "set.__new__") ⟨[.type "set", a], []⟩) (wants Q₁ E) s := by
  refine codeAny_call_builtin F.plain_set_new F.entry_set_new (wpAny_of_eq (F.newCall_set_1 a) ?_)
  show wpAny _ _ (Builtin.Frozenset.newClass "set" ⟨[.type "set", a], []⟩ >>= _) _ _ _
  refine wpAny_bind (wpAny_bind (show wpAny _ _ (pure true) _ _ _ from wpAny_pure ?_))
  show wpAny _ _ (isSubtype (.type "set") (.type "set") >>= _) _ _ _
  refine wpAny_bind (wpAny_of_eq sub_set_self ?_)
  refine wpAny_pure ?_
  show wpAny _ _ (newSet (.type "set") >>= _) _ _ _
  unfold newSet setsByText
  refine wpAny_bind (wpAny_bind (wpAny_bind (wpAny_askSetting (wpAny_pure ?_))))
  exact wpAny_bind (wpAny_alloc (wpAny_pure (wpAny_pure h)))
theorem set0_at {h : Heap} {a : Addr} (e : h.get? a = some (set0 w)) : SetAt prog w (!w.params.followText "set-order") h a [] :=
  ⟨#[], 0, _, e, fun x hx => by simp at hx, .nil, List.nodup_nil, by decide, by rfl, rfl, List.Pairwise.nil⟩
end
end L2
set_option Elab.async false
set_option linter.all false
set_option maxRecDepth 100000
set_option maxHeartbeats 1000000
namespace L2
open PySem PySem.Spec PyProof.Rows
section
variable {prog : Program} {w : World} {A : Around} {E : Value → Shared → Prop} {s : Shared}
abbrev setO (es : Array (Int × Value)) (ep : Nat) (t : SetTable) : Obj := { cls := .type "set", dict := none, data := .set es ep t, slots := #[] }
abbrev setItO (first : Value) (i : Nat) (S : Addr) (n ep : Nat) : Obj := { cls := .type "set_iterator", data := .fields #[first, .int i 0, .ref S, .int n 0, .int ep 0] }
end
end L2
set_option Elab.async false
set_option linter.all false
set_option maxRecDepth 100000
set_option maxHeartbeats 1000000
namespace L2
open PySem PySem.Spec PyProof.Rows
section
variable {prog : Program} {w : World} {A : Around} {E : Value → Shared → Prop}
def slotAt (t : SetTable) : Nat → Nat
  | 0 => 0
  | i + 1 => t.place.getD i 0 + 1
def atV (es : Array (Int × Value)) (k : Nat) : Value := ((es[k]?).map (·.2)).getD .none
end
end L2
set_option Elab.async false
set_option linter.all false
set_option maxRecDepth 100000
set_option maxHeartbeats 1000000
namespace L2
open PySem PySem.Spec PyProof.Rows
section
variable {prog : Program} {w : World} {A : Around} {E : Value → Shared → Prop} {s : Shared}
end
section
variable {X : Cx}
def tSSet (K : PySem.W.Frag) (te : TE) : TE := fun σ H Q => te σ H fun x H1 => ∃ (a : Addr) (ns : List Int), x = .ref a ∧ SqT K H1 a (ns.map V.int) ∧ ns.length < 64 ∧ srt (ns.foldl addI []) H1 Q
theorem addI_fold_len : ∀ (vs ns : List Int), (vs.foldl addI ns).length ≤ ns.length + vs.length
  | [], ns => Nat.le_refl _
  | v :: vs, ns => by
    have h1 := addI_fold_len vs (addI ns v)
    have h2 := addI_len ns v
    show (vs.foldl addI (addI ns v)).length ≤ _
    rw [List.length_cons]
    omega
end
end L2
set_option Elab.async false
set_option linter.all false
set_option maxRecDepth 100000
set_option maxHeartbeats 400000
namespace HT
open PySem PySem.Spec PyProof.Rows L2
variable {prog : Program} {w : World} {A : Around} {E : Value → Shared → Prop} {s : Shared}
end HT
namespace L2
open PySem PySem.Spec PyProof.Rows
section
variable {X : Cx}
def rCatQ (K : PySem.W.Frag) : R2 := fun x y H Q => ∃ a b xs ys, x = .ref a ∧ y = .ref b ∧ SqL K H a xs ∧ SqL K H b ys ∧ xs.length + ys.length ≤ sizeLine ∧ ∀ p, H p = none → Q (.ref p) (upd H p (.lst (xs ++ ys)))
def rSlW (K : PySem.W.Frag) : V → Option Int → Option Int → Hp → VK → Prop := fun x lo hi H Q => ∃ a xs, x = .ref a ∧ SqT K H a xs ∧ (HT.sIx xs.length 0 lo = 0 ∧ HT.sIx xs.length xs.length hi = xs.length) ∧ Q (.ref a) H
end
end L2
set_option Elab.async false
set_option linter.all false
set_option maxRecDepth 100000
set_option maxHeartbeats 400000
namespace L2
open PySem PySem.Spec PyProof.Rows
section
variable {prog : Program} {w : World} {A : Around} {E : Value → Shared → Prop} {s : Shared}
end
section
variable {X : Cx}
end
def rIndex : V → List V → Hp → VK → Prop := fun x vs H Q => ∃ (l : Addr) (ss : List Str) (z : Str) (j : Nat), x = .ref l ∧ vs = [.str z] ∧ H l = some (.lst (ss.map V.str)) ∧ ss.length ≤ 1000 ∧ ss[j]? = some z ∧ (∀ m, m < j → ss[m]? ≠ some z) ∧ Q (.int (j : Nat)) H
section
variable {X : Cx}
end
def pickV (xs : List V) (lo hi st : Option Int) : List V := (sliceRange (sliceBounds lo hi st xs.length).1 (sliceBounds lo hi st xs.length).2.1 (sliceBounds lo hi st xs.length).2.2).filterMap fun i => xs[i]?
def tSl3 (K : PySem.W.Frag) (te : TE) (tl th ts : TO) : TE := fun σ H Q => te σ H fun x H1 => tl σ H1 fun l H2 => th σ H2 fun u H3 => ts σ H3 fun k H4 => ∃ a xs, x = .ref a ∧ SqL K H4 a xs ∧ k ≠ some 0 ∧ (pickV xs l u k).length ≤ sizeLine ∧ ∀ p, H4 p = none → Q (.ref p) (upd H4 p (.lst (pickV xs l u k)))
def rEqC (K : PySem.W.Frag) : R2 := fun x y H Q => ∃ d e, IsPd K H d x ∧ IsPd K H e y ∧ d.canLay0 = true ∧ e.canLay0 = true ∧ d.depth ≤ 60 ∧ Q (.bl (d.eqv e)) H
def rNeC (K : PySem.W.Frag) : R2 := fun x y H Q => ∃ d e, IsPd K H d x ∧ IsPd K H e y ∧ d.canLay0 = true ∧ e.canLay0 = true ∧ d.depth ≤ 60 ∧ Q (.bl (!d.eqv e)) H
theorem op_neC {X : Cx} {k : Nat} (hr : Room k X.A) : OpR X (compareOp .NotEq) (rNeC X.K) := by
  intro pins s σ H x y v u Q I rx ry h
  obtain ⟨d, e, hd, he, pd, pe, dp, q⟩ := h
  obtain ⟨as, ra⟩ := pd_reads I d x v hd rx; obtain ⟨bs, rb⟩ := pd_reads I e y u he ry
  exact SeqAt.compareNe_reads ra rb pd pe (room60 hr dp) ⟨.bl _, H, I, rfl, q⟩
def rCatA (K : PySem.W.Frag) : R2 := fun x y H Q => ∃ a b xs ys, x = .ref a ∧ y = .ref b ∧ SqT K H a xs ∧ SqT K H b ys ∧ xs.length + ys.length ≤ sizeLine ∧ ∀ p H', Same H H' → SqT K H' p (xs ++ ys) → Q (.ref p) H'
end L2
set_option Elab.async false
set_option linter.all false
set_option maxRecDepth 100000
set_option maxHeartbeats 400000
namespace L2
open PySem PySem.Spec PyProof.Rows
section
variable {X : Cx}
def rExtendT (K : PySem.W.Frag) : V → List V → Hp → VK → Prop := fun x vs H Q => ∃ l b xs zs, x = .ref l ∧ vs = [.ref b] ∧ H l = some (.lst xs) ∧ SqT K H b zs ∧ xs.length + zs.length ≤ sizeLine ∧ Q .non (upd H l (.lst (xs ++ zs)))
end
theorem runsR_enumL {K : PySem.W.Frag} {a : Addr} {xs : List V} {H1 : Hp} (hq : SqL K H1 a xs) : RunsR Same (IteL K a) H1 xs.length (fun i v H => ∃ x p, xs[i]? = some x ∧ v = .ref p ∧ H p = some (.tup [.int (i : Nat), x])) := by
  refine ⟨fun i hi H s => ⟨xs, xs[i], s.seq hq, by simp [hi]⟩, fun H s => ⟨xs, s.seq hq, rfl⟩, fun i hi H v H' s y => ?_⟩
  obtain ⟨p, hp, rfl, f⟩ := y
  obtain ⟨x, hx, rfl⟩ := f xs (s.seq hq)
  exact ⟨Same.upd hp, x, p, hx, rfl, upd_same⟩
end L2
set_option Elab.async false
set_option linter.all false
set_option maxRecDepth 100000
set_option maxHeartbeats 1000000
namespace L2
open PySem PySem.Spec PyProof.Rows
section
variable {prog : Program} {w : World} {A : Around} {E : Value → Shared → Prop} {s : Shared}
theorem sul_list {b : Bool} {S it l : Addr} {items : Array Value} (nsi : S ≠ it) (nsl : S ≠ l) (nil' : it ≠ l) : ∀ (ms : List Int) (i : Nat) (ns : List Int) (A : Around) (R : Result → Shared → Prop) (s : Shared), A.handled = none → s.heap.IsListIter it l i → s.heap.IsList l items →
    IntsAre (items.toList.drop i) ms → SetAt prog w b s.heap S ns → ns.length + ms.length < scanBound →
    (∀ h' tk ns', SetAt prog w b h' S ns' → ns'.Perm (ms.foldl addI ns) → (∀ c o, c ≠ S → c ≠ it → s.heap.get? c = some o → h'.get? c = some o) → R (.ok (.ret .none)) { s with heap := h', toks := tk }) →
    codeAny (model prog w) A (Code.builtin "set.update.loop" { pos := [.ref S, .ref it], kw := [] }) R s
  | [], i, ns, A, R, s, hh, si, sl, al, dd, hz, q => by
    have hn : items[i]? = none := by
      cases hd : items.toList.drop i with
      | nil =>
        have := List.drop_eq_nil_iff.mp hd
        rw [Array.length_toList] at this
        exact Array.getElem?_eq_none this
      | cons u us => rw [hd] at al; cases al
    refine codeAny_builtin F.entry_set_update_loop ?_
    show wpAny _ _ (pyNext (.ref it) >>= _) _ _ s
    refine wpAny_bind (wpAny_pyNext_list_end (show (A.under _).handled = none from hh) si sl hn fun h' eb => ?_)
    exact wpAny_pure (q h' s.toks ns (dd.at' fun o e => eb S o nsi e) (List.Perm.refl _) fun c o _ hc e => eb c o hc e)
  | m :: ms, i, ns, A, R, s, hh, si, sl, al, dd, hz, q => by
    cases hd : items.toList.drop i with
    | nil => rw [hd] at al; cases al
    | cons u us =>
      rw [hd] at al
      cases al with
      | cons _ tk al =>
        have hi : items.toList[i]? = some (.int m tk) := by
          have := congrArg (fun l => l[0]?) hd
          simpa using this
        have hu : items[i]? = some (.int m tk) := by simpa using hi
        have hd1 : items.toList.drop (i + 1) = us := by
          have := congrArg List.tail hd
          simpa using this
        refine codeAny_builtin F.entry_set_update_loop ?_
        show wpAny _ _ (pyNext (.ref it) >>= _) _ _ s
        refine wpAny_bind (wpAny_pyNext_list_item si sl hu fun h1 si1 sb1 => ?_)
        have sl1 : h1.IsList l items := by
          obtain ⟨o, e1, e2⟩ := sl
          exact ⟨o, (sb1.2 l (Ne.symm nil')).trans e1, e2⟩
        have dd1 : SetAt prog w b h1 S ns := dd.at' fun o e => (sb1.2 S nsi).trans e
        rw [List.length_cons] at hz
        refine wpAny_bind (wpAny_holding (show wpAny _ _ (setAdd S (.int m tk)) _ _ _ from ?_))
        unfold setAdd
        refine wpAny_holding (wpAny_bind ((intKind prog w).pyHash (k := m) (intKind_is prog w m tk) ?_))
        refine set_add (s := { s with heap := h1, toks := s.toks + 1 }) dd1 (Nat.lt_of_le_of_lt (by omega) hz) fun c h2 ns2 sb2 dd2 p2 => ?_
        refine wpAny_pure ⟨quiet_sul _, ?_⟩
        have si2 : h2.IsListIter it l (i + 1) := by
          obtain ⟨o, e1, e2⟩ := si1
          exact ⟨o, (sb2.2 it (Ne.symm nsi)).trans e1, e2⟩
        have sl2 : h2.IsList l items := by
          obtain ⟨o, e1, e2⟩ := sl1
          exact ⟨o, (sb2.2 l (Ne.symm nsl)).trans e1, e2⟩
        have l2 : ns2.length ≤ ns.length + 1 := by rw [p2.length_eq]; exact addI_len ns m
        refine sul_list nsi nsl nil' ms (i + 1) ns2 A R { s with heap := h2, toks := s.toks + 1 } hh si2 sl2 (by rw [hd1]; exact al) dd2 (by omega) fun h' tk' ns' dd' pp kk => q h' tk' ns' dd' (pp.trans (addI_fold_perm ms p2)) fun c o hc1 hc2 e => kk c o hc1 hc2 ((sb2.2 c hc1).trans ((sb1.2 c hc2).trans e))
theorem lst_no_set : isSubtype (.type "list") (.type "set") = pure false := by rw [isSubtype_type]; kernel_rfl
theorem lst_no_fset : isSubtype (.type "list") (.type "frozenset") = pure false := by rw [isSubtype_type]; kernel_rfl
theorem call_set_ofL {l : Addr} {items : Array Value} {ns : List Int} {Q : Value → Shared → Prop} (hh : A.handled = none) (ht : s.heap.IsList l items) (hi : IntsAre items.toList ns) (hb : ns.length < scanBound)
    (h : ∀ h' tk ns', SetAt prog w (!w.params.followText "set-order") h' s.heap.objs.size ns' → ns'.Perm (ns.foldl addI []) → (∀ b o, s.heap.get? b = some o → h'.get? b = some o) → Q (.ref s.heap.objs.size) { s with heap := h', toks := tk }) :
    wpAny (model prog w) A (call (.type "set") [.ref l]) Q E s := by
  obtain ⟨c, tl, hmro⟩ := F.called_set.mro; have hmade := F.called_set.made; have hsub := F.called_set.sub
  refine wpAny_call (codeAny_of_tree (show wpAny _ _ (callAny (.type "set") _) _ _ _ from wpAny_pure ⟨Code.quiet_builtin _ (by decide +kernel), codeAny_builtin F.entry_type_call ?_⟩))
  rw [Around.under_plain (weight_type_call_type "set" [.ref l] []) rfl]; have h1 := F.called_set.notType; have h2 := F.called_set.canCreate; have hct := F.typeCall_set_1 (.ref l)
  (repeat (any_goals (first | assumption | wp_step))); refine codeAny_mono (set_new (.ref l) (E := E) (Q₁ := fun obj s₁ => obj = .ref s.heap.objs.size ∧ s₁ = { s with heap := s.heap.push (set0 w) }) ⟨rfl, rfl⟩) fun r s₁ hr => ?_
  cases r with
  | error e => exact hr
  | ok fl =>
    cases fl with
    | next => exact hr.elim
    | brk => exact hr.elim
    | cont => exact hr.elim
    | ret obj =>
      obtain ⟨rfl, rfl⟩ := hr
      have hS : (s.heap.push (set0 w)).get? s.heap.objs.size = some (set0 w) := Heap.get?_push_size _ rfl
      have hT : Shared.TypeIs { s with heap := s.heap.push (set0 w) } (.ref s.heap.objs.size) "set" := ⟨_, hS, rfl⟩
      have hli := F.called_set.init.lookup; have hbi := F.called_set.init.bind (.ref s.heap.objs.size)
      (repeat (any_goals (first | assumption | wp_step)))
      have inner : codeAny (model prog w) A.in1 (.call (.builtin "set.__init__") ⟨[.ref s.heap.objs.size, .ref l], []⟩) (wants (fun r s₂ => r = .none ∧ Q (.ref s.heap.objs.size) s₂) E) { s with heap := s.heap.push (set0 w) } := by
        refine codeAny_call_builtin F.called_set.init.plain F.entry_set_init (check_set_init_1 hT ?_)
        obtain ⟨o, ho, hc, n, hd⟩ := ht
        obtain ⟨oc, od, oda, osl⟩ := o
        dsimp only at hc hd; subst hc hd
        have ho1 : (s.heap.push (set0 w)).get? l = some { cls := .type "list", dict := od, data := .seq items n, slots := osl } := Heap.get?_push_of_some _ ho
        have hts := lst_no_set; have htf := lst_no_fset; have hne : (Value.type "list" == Value.type "dict") = false := by decide
        have hS' : (s.heap.push (set0 w)).get? s.heap.objs.size = some { cls := .type "set", dict := none, data := .set #[] 0 (.fresh 0 0 (!w.params.followText "set-order")), slots := #[] } := hS
        have ht1 : (s.heap.push (set0 w)).IsList l items := ⟨_, ho1, rfl, n, rfl⟩
        have ll : l < s.heap.objs.size := Heap.lt_size ho
        unfold Builtin.«set.__init__» noKeywords Builtin.Frozenset.updateFrom
        generalize hPI : pyIter = PI
        wp_walk
        subst hPI
        refine wpAny_pyIter_list ht1 (wpAny_bind (wpAny_runValue ?_))
        have k2 : ∀ b o, s.heap.get? b = some o → ((s.heap.push (set0 w)).push { cls := .type "list_iterator", data := .fields #[.ref l, .int 0 0] }).get? b = some o := fun b o e => Heap.get?_push_of_some _ (Heap.get?_push_of_some _ e)
        have ls : (s.heap.push (set0 w)).objs.size = s.heap.objs.size + 1 := Heap.size_push _ _
        refine sul_list (S := s.heap.objs.size) (it := (s.heap.push (set0 w)).objs.size) (l := l) (items := items) (by rw [ls]; exact Nat.ne_of_lt (Nat.lt_succ_self _)) (Nat.ne_of_gt ll) (by rw [ls]; exact Nat.ne_of_gt (Nat.lt_succ_of_lt ll)) ns 0 [] _ _ _ (by simp [hh]) ⟨_, Heap.get?_push_size _ rfl, rfl, rfl⟩ ⟨_, k2 _ _ ho, rfl, n, rfl⟩ (by rw [List.drop_zero]; exact hi) (set0_at (Heap.get?_push_of_some _ hS)) (by simpa using hb) fun h' tk ns' dd pp kk => ?_
        refine wpAny_pure (wpAny_pure ⟨rfl, h h' tk ns' dd pp fun b o e => kk b o (Nat.ne_of_lt (Heap.lt_size e)) (by rw [ls]; exact Nat.ne_of_lt (Nat.lt_succ_of_lt (Heap.lt_size e))) (k2 b o e)⟩)
      refine codeAny_mono inner fun r₂ s₂ hr₂ => ?_
      cases r₂ with
      | error e => exact hr₂
      | ok f2 =>
        cases f2 with
        | next => exact hr₂.elim
        | brk => exact hr₂.elim
        | cont => exact hr₂.elim
        | ret r => obtain ⟨rfl, hq⟩ := hr₂; exact wpAny_pure (wpAny_pure hq)
end
end L2
set_option Elab.async false
set_option linter.all false
set_option maxRecDepth 100000
set_option maxHeartbeats 1000000
namespace L2
open PySem PySem.Spec PyProof.Rows
section
variable {X : Cx}
def tLSet (K : PySem.W.Frag) (te : TE) : TE := fun σ H Q => te σ H fun x H1 => ∃ (a : Addr) (ns : List Int), x = .ref a ∧ SqL K H1 a (ns.map V.int) ∧ ns.length < 100 ∧ Q (.int ((ns.foldl addI []).length : Nat)) H1
theorem pe_lenSet {e : Expr} {te : TE} {p1 p2 c1 c2 : Pos} (hcalm : X.calm = true) (g1 : Gl X "len") (m1 : X.mg "len" = none) (g2 : Gl X "set") (m2 : X.mg "set" = none) (b1 : bootBuiltins "len" = some (.builtin "len")) (b2 : bootBuiltins "set" = some (.type "set")) (ha : PE X e te)
    (he : starEach [e] X.env = [(false, eval e X.env)] := by rfl) : PE X (.Call (.Name "len" p1) [.Call (.Name "set" p2) [e] [] c2] [] c1) (tLSet X.K te) := by
  intro pins s σ H Q I h
  have hh : X.A.handled = none := I.ok.hd hcalm
  refine wpAny_Call_Name_kw (ld_blt I g1 m1 b1 ?_ (by decide) (by decide))
  refine PyProof.Rows.callWith_builtin1 ?_ rfl rfl
  refine (show wpAny _ _ (spliced ((false, eval (.Call (.Name "set" p2) [e] [] c2) X.env) :: [])) _ _ s from Calls.spliced_cons ?_)
  refine wpAny_Call_Name_kw (ld_blt I g2 m2 b2 ?_ (by decide) (by decide))
  refine PyProof.Rows.callWith_type1 ?_ he rfl
  rw [he]
  refine (show wpAny _ _ (spliced ((false, eval e X.env) :: [])) _ _ s from Calls.spliced_cons (thn (ha pins s σ H _ I h) fun u s1 ⟨x, H1, I1, r1, a, ns, ex, sq, hl, q⟩ => ?_))
  subst ex
  cases r1
  refine Calls.spliced_nil ?_
  obtain ⟨its, rv, pl, hz⟩ := I1.list sq
  refine call_set_ofL hh pl.isList (by simpa using intsAre_of rv) (Nat.lt_trans hl (by decide)) fun h2 tk ns2 S2 pm k2 => Calls.spliced_nil ?_
  obtain ⟨es, ep, t, ho, _, im, nd, hb, hf, _⟩ := S2
  have ln : es.size = (ns.foldl addI []).length := by
    rw [← pm.length_eq, ints_len im, List.length_map, Array.length_toList]
  have lf : (ns.foldl addI []).length < 100 := by
    have := addI_fold_len ns []
    rw [List.length_nil, Nat.zero_add] at this
    omega
  refine call_len_set (s := { s1 with heap := h2, toks := tk }) ho ⟨rfl, rfl, rfl⟩ rfl hf (by omega) ?_
  rw [ln]
  exact ⟨.int ((ns.foldl addI []).length : Nat), H1, (I1.kept (t' := tk + 1 + 1) k2), ⟨_, rfl⟩, q⟩
end
section
variable {prog : Program} {w : World} {A : Around} {E : Value → Shared → Prop}
theorem drawL {I l : Addr} {xs : Array Value} (nl : l ≠ I) : ∀ (m k : Nat) (s : Shared) (R : List Value → Shared → Prop), s.heap.IsListIter I l k → s.heap.IsList l xs → k + m ≤ xs.size →
    (∀ g, g.IsListIter I l (k + m) → Heap.SameBut I s.heap g → R ((xs.toList.drop k).take m) { s with heap := g }) → wpAny (model prog w) A (draw (.ref I) m) R E s
  | 0, k, s, R, hI, _, _, hR => (show wpAny (model prog w) A (pure ([] : List Value)) R E s from wpAny_pure (by simpa using hR s.heap hI (Heap.SameBut.refl ..)))
  | m + 1, k, s, R, hI, hl, le, hR => by
    have lt : k < xs.size := by omega
    refine (show wpAny (model prog w) A (pyNext (.ref I) >>= _) R E s from wpAny_bind (wpAny_pyNext_list_item hI hl (x := xs[k]) (by simp [lt]) fun g1 I1 b1 => ?_))
    refine wpAny_bind (wpAny_holding (drawL nl m (k + 1) { s with heap := g1 } _ I1 (hl.extBut b1.extBut nl) (by omega) fun g2 I2 b2 => wpAny_pure ?_))
    have e : xs.toList.drop k = xs[k] :: xs.toList.drop (k + 1) := by simp [List.drop_eq_getElem_cons, lt]
    have z := hR g2 (by rw [show k + (m + 1) = k + 1 + m by omega]; exact I2) (b1.trans b2)
    rw [e, List.take_succ_cons] at z
    exact z
theorem unpackL {l : Addr} {xs : Array Value} {ts : List (Bool × (Value → Sem Unit))} {R : Unit → Shared → Prop} {s : Shared} (hh : A.handled = none) (hl : s.heap.IsList l xs) (hn : ts.length = xs.size) (hst : ts.findIdx? (·.1) = none)
    (q : ∀ g, Heap.ExtBut s.heap.objs.size s.heap g → wpAny (model prog w) A (assignInOrder (ts.map (·.2)) xs.toList) R E { s with heap := g }) : wpAny (model prog w) A (unpack (.ref l) ts) R E s := by
  have ne : l ≠ s.heap.objs.size := hl.elim fun o z => Nat.ne_of_lt (Heap.lt_size z.1)
  unfold unpack
  rw [hn, hst]
  refine wpAny_bind (wpAny_holding ?_)
  unfold unpackItems
  refine wpAny_bind ?_
  unfold notIterableAtAll
  refine wpAny_bind (wpAny_specialOf hl.typeIs slot_list_iter.lookup (wpAny_pure ?_))
  simp only [Bool.false_eq_true, if_false]
  refine wpAny_bind (wpAny_holding (wpAny_pyIter_list hl (wpAny_bind (wpAny_holding (drawL ne xs.size 0 _ _ ⟨_, Heap.get?_push_size _ rfl, rfl, rfl⟩ (hl.push _) (by omega) fun g1 I1 b1 => ?_)))))
  have all : List.take xs.size (List.drop 0 xs.toList) = xs.toList := by rw [List.drop_zero, List.take_of_length_le (by simp)]
  rw [all, if_neg (by simp)]
  have h1 : g1.IsList l xs := (hl.push _).extBut b1.extBut ne
  refine wpAny_bind (wpAny_holding (wpAny_pyNext_list_end hh I1 h1 (by simp) fun g2 b2 => ?_))
  simp only [Option.isSome_none, Bool.false_eq_true, if_false]
  exact wpAny_pure (q g2 fun b o hb e => b2 b o hb (b1.extBut b o hb (Heap.get?_push_of_some _ e)))
end
section
variable {X : Cx} {pos : Pos}
def gLst (K : PySem.W.Frag) (n : Nat) (t : TGs) : TG := fun v σ H Q => ∃ a xs, v = .ref a ∧ SqL K H a xs ∧ xs.length = n ∧ t xs σ H Q
theorem pg_lst {es : List Expr} {k : Nat} {t : TGs} {n : Nat} (hc : X.calm = true) (h : PGs X es t) (hn : (assignEach es X.env).length = n := by rfl) (hst : (assignEach es X.env).findIdx? (·.1) = none := by rfl) : PG X (.Tuple es k pos) (gLst X.K n t) := by
  intro pins s σ H v u Q I r ⟨a, xs, e1, hq, hl, hw⟩
  subst e1
  cases r
  obtain ⟨its, rv, pl, hz⟩ := I.list hq
  rw [assign_Tuple]
  refine wpAny_bind (wpAny_standAt (unpackL (I.ok.hd hc) pl.isList (by simp [hn, ← hl, rv.length]) hst fun g hx => ?_))
  exact h pins _ σ H xs _ Q (I.kept (t' := s.toks) fun b o e => hx b o (Nat.ne_of_lt (Heap.lt_size e)) e) (by simpa using rv) hw
end
theorem tcompF_L {K : PySem.W.Frag} {a : Addr} {xs : List V} {tl te : TE} {tc : TT} {g : TG} {m : Nat} {fr : List (Nat × Str)} {σ : L2.St} {H H1 : Hp} {Q : VK} (p : Nat → Bool) (R : Nat → V → Hp → Prop) (hR : ∀ i y H H', Same H H' → R i y H → R i y H') (htl : ∀ R : VK, R (.ref a) H1 → tl σ H R) (hq : SqL K H1 a xs) (hn : xs.length ≤ sizeLine)
    (body : ∀ i, i < xs.length → ∀ v H, Same H1 H → xs[i]? = some v → ∀ (KT : VK) (KF : Hp → Prop), (p i = true → ∀ y H', Same H H' → R i y H' → KT y H') → (p i = false → ∀ H', Same H H' → KF H') →
      g v (cStG σ fr (List.replicate m none)) H fun σ6 H6 => ∃ us, us.length = m ∧ σ6 = cStG σ fr us ∧ tc (cStG σ fr us) H6 fun b H2 => if b = true then te (cStG σ fr us) H2 KT else KF H2)
    (hQ : ∀ l H' ys, Same H1 H' → H' l = none → All2 (fun i y => R i y H') ((List.range xs.length).filter p) ys → Q (.ref l) (upd H' l (.lst ys))) : tCompG (iList K tl) m fr g tc te σ H Q :=
  htl _ ⟨a, rfl, ⟨xs, hq⟩, compG_rel (Same.refl _) (fun _ _ _ a b => a.trans b) p R hR (runsR_list (S := Same) (fun _ _ => Same.refl _) fun H s => s.seq hq) hn body hQ⟩
theorem tcompE_L1 {K : PySem.W.Frag} {a : Addr} {xs : List V} {ta : TA} {te : TE} {tc : TT} {g : TG} {m : Nat} {fr : List (Nat × Str)} {σ : L2.St} {H H1 : Hp} {Q : VK} (p : Nat → Bool) (R : Nat → V → Hp → Prop) (hR : ∀ i y H H', Same H H' → R i y H → R i y H') (hta : ∀ T : List V → Hp → Prop, T [.ref a] H1 → ta σ H T) (hq : SqL K H1 a xs) (hn : xs.length ≤ sizeLine)
    (body : ∀ i, i < xs.length → ∀ v H, Same H1 H → (∃ x p, xs[i]? = some x ∧ v = .ref p ∧ H p = some (.tup [.int (i : Nat), x])) → ∀ (KT : VK) (KF : Hp → Prop), (p i = true → ∀ y H', Same H H' → R i y H' → KT y H') → (p i = false → ∀ H', Same H H' → KF H') →
      g v (cStG σ fr (List.replicate m none)) H fun σ6 H6 => ∃ us, us.length = m ∧ σ6 = cStG σ fr us ∧ tc (cStG σ fr us) H6 fun b H2 => if b = true then te (cStG σ fr us) H2 KT else KF H2)
    (hQ : ∀ l H' ys, Same H1 H' → H' l = none → All2 (fun i y => R i y H') ((List.range xs.length).filter p) ys → Q (.ref l) (upd H' l (.lst ys))) : tCompG (ieL K ta) m fr g tc te σ H Q :=
  hta _ ⟨a, xs, rfl, hq, compG_rel (Same.refl _) (fun _ _ _ a b => a.trans b) p R hR (runsR_enumL hq) hn body hQ⟩
theorem tcompF_Tp {K : PySem.W.Frag} {a : Addr} {xs : List V} {tl te : TE} {tc : TT} {g : TG} {m : Nat} {fr : List (Nat × Str)} {σ : L2.St} {H H1 : Hp} {Q : VK} (p : Nat → Bool) (R : Nat → V → Hp → Prop) (hR : ∀ i y H H', Same H H' → R i y H → R i y H') (htl : ∀ R : VK, R (.ref a) H1 → tl σ H R) (hq : SqT K H1 a xs) (hn : xs.length ≤ sizeLine)
    (body : ∀ i, i < xs.length → ∀ v H, Same H1 H → xs[i]? = some v → ∀ (KT : VK) (KF : Hp → Prop), (p i = true → ∀ y H', Same H H' → R i y H' → KT y H') → (p i = false → ∀ H', Same H H' → KF H') →
      g v (cStG σ fr (List.replicate m none)) H fun σ6 H6 => ∃ us, us.length = m ∧ σ6 = cStG σ fr us ∧ tc (cStG σ fr us) H6 fun b H2 => if b = true then te (cStG σ fr us) H2 KT else KF H2)
    (hQ : ∀ l H' ys, Same H1 H' → H' l = none → All2 (fun i y => R i y H') ((List.range xs.length).filter p) ys → Q (.ref l) (upd H' l (.lst ys))) : tCompG (iTup K tl) m fr g tc te σ H Q :=
  htl _ ⟨a, rfl, ⟨xs, hq⟩, compG_rel (Same.refl _) (fun _ _ _ a b => a.trans b) p R hR (runsR_tup (S := Same) (fun _ _ => Same.refl _) fun H s => s.seqT hq) hn body hQ⟩
theorem e_cb1 {f : List V → Hp → VK → Prop} {te : TE} {σ : L2.St} {H : Hp} {Q : VK} (h : te σ H fun x H1 => f [x] H1 Q) : tCB f (tCons te tNil) σ H Q := h
theorem t_test {r : R2} {ta tb : TE} {σ : L2.St} {H : Hp} {Q : Bool → Hp → Prop} (h : ta σ H fun x H1 => tb σ H1 fun y H2 => r x y H2 fun x H3 => ∃ c, x = .bl c ∧ Q c H3) : tTest (tOp r ta tb) σ H Q := h
theorem t_lset {K : PySem.W.Frag} {te : TE} {σ : L2.St} {H : Hp} {Q : VK} (h : te σ H fun x H1 => ∃ (a : Addr) (ns : List Int), x = .ref a ∧ SqL K H1 a (ns.map V.int) ∧ ns.length < 100 ∧ Q (.int ((ns.foldl addI []).length : Nat)) H1) : tLSet K te σ H Q := h
theorem t_or {t u : TT} {σ : L2.St} {H : Hp} {Q : Bool → Hp → Prop} (h : t σ H fun c H1 => if c = true then Q true H1 else u σ H1 Q) : tOr t u σ H Q := h
theorem sq_if {c : TT} {a b rest : TS} {D : Ends} {σ : L2.St} {H : Hp} (h : c σ H fun k H1 => if k = true then a { D with nx := rest D } σ H1 else b { D with nx := rest D } σ H1) : tSeq (tIfS c a b) rest D σ H := h
theorem sq_ret {te : TE} {D : Ends} {σ : L2.St} {H : Hp} (h : te σ H D.rt) : tRet te D σ H := h
end L2
set_option Elab.async false
set_option linter.all false
set_option maxRecDepth 100000
set_option maxHeartbeats 1000000
namespace L2
open PySem PySem.Spec PyProof.Rows
section
variable {X : Cx} {pins : List (Addr × Obj)} {σ : St} {H : Hp} {s : Shared} {a : Addr} {u v : HO}
theorem Inv.retold (I : Inv X pins σ H s) (e : H a = some u) (nt : ∀ xs, u ≠ .tup xs) (nb : ∀ ps, u ≠ .tbl ps) (no : ∀ c, u ≠ .own c) (nf : ∀ o w, X.H₀ a ≠ some (.frz o w)) (ok : ObjOk X.prog X.w (upd H a v) s.heap a v) : Inv X pins σ (upd H a v) s := by
  have ne : ∀ {b : Addr}, H b = none → b ≠ a := fun n z => by rw [z, e] at n; cases n
  refine ⟨I.ok, I.os, I.bare, ⟨I.base.keep, I.base.slot, fun b o q n hx => ?_, I.base.there, fun b xs q => ?_, fun b o w q => ?_, fun b ps q => ?_⟩, I.loc, I.cell, ?_, fun x c q => ?_, fun p hp => ?_, fun b o q => ?_, I.len⟩
  · have z := I.base.free b o q n hx
    rw [upd_ne (ne z)]; exact z
  · have z := I.base.tups b xs q
    rw [upd_ne (fun y => by rw [y, e] at z; exact nt xs (Option.some.inj z))]; exact z
  · have z := I.base.frzs b o w q
    rw [upd_ne (fun y => by rw [y] at q; exact nf o w q)]; exact z
  · obtain ⟨more, z⟩ := I.base.tbls b ps q
    exact ⟨more, by rw [upd_ne (fun y => by rw [y, e] at z; exact nb _ (Option.some.inj z))]; exact z⟩
  · rw [upd_ne (ne I.free)]; exact I.free
  · rw [upd_ne (ne (I.freeC x c q))]; exact I.freeC x c q
  · obtain ⟨h1, h2, h3⟩ := I.pin p hp
    exact ⟨h1, by rw [upd_ne (ne h2)]; exact h2, h3⟩
  · by_cases z : b = a
    · subst z
      rw [upd_same] at q
      cases q
      exact ok
    · rw [upd_ne z] at q
      refine (I.hok b o q).stay (fun _ _ _ y => y) (fun c y => ?_) fun c xs y => ?_
      · rw [upd_ne (fun x => by rw [x, e] at y; exact no b (Option.some.inj y))]; exact y
      · rw [upd_ne (fun x => by rw [x, e] at y; exact nt xs (Option.some.inj y))]; exact y
theorem Inv.noFrz {kvs : List (Key × V)} (I : Inv X pins σ H s) (e : H a = some (.dK kvs)) : ∀ o w, X.H₀ a ≠ some (.frz o w) := fun o w q => by
  have z := I.base.frzs a o w q
  rw [e] at z
  cases z
theorem Inv.freeze {kvs : List (Key × V)} {ob : Obj} (I : Inv X pins σ H s) (e : H a = some (.dK kvs)) (ho : s.heap.get? a = some ob) : Inv X pins σ (upd H a (.frz ob (.dK kvs))) s :=
  I.retold e (fun _ z => by cases z) (fun _ z => by cases z) (fun _ z => by cases z) (I.noFrz e) ⟨ho, (show ObjOk X.prog X.w H s.heap a (.dK kvs) from I.hok a _ e)⟩
theorem Inv.thaw {kvs : List (Key × V)} {ob : Obj} (I : Inv X pins σ H s) (nf : ∀ o w, X.H₀ a ≠ some (.frz o w)) (e : H a = some (.frz ob (.dK kvs))) : Inv X pins σ (upd H a (.dK kvs)) s :=
  I.retold e (fun _ z => by cases z) (fun _ z => by cases z) (fun _ z => by cases z) nf (show ObjOk X.prog X.w H s.heap a (.frz ob (.dK kvs)) from I.hok a _ e).2
end
theorem paired_at {α β : Type} {F : α → β → Prop} : ∀ {l : List α} {m : List β} {i : Nat} {x : α}, Paired F l m → l[i]? = some x → ∃ y, m[i]? = some y ∧ F x y
  | _, _, i, x, .nil, e => by simp at e
  | _, _, 0, x, .cons a _, e => by
    rw [List.getElem?_cons_zero] at e
    cases e
    exact ⟨_, List.getElem?_cons_zero, a⟩
  | _, _, i + 1, x, .cons _ r, e => by
    rw [List.getElem?_cons_succ] at e
    obtain ⟨y, h1, h2⟩ := paired_at r e
    exact ⟨y, by rw [List.getElem?_cons_succ]; exact h1, h2⟩
def Itv (a : Addr) (ob : Obj) (kvs : List (Key × V)) : It :=
  ⟨fun i H => H a = some (.frz ob (.dK kvs)) ∧ i < kvs.length, fun i H x H' => H' = H ∧ ∃ k, kvs[i]? = some (k, x), fun i H => H a = some (.frz ob (.dK kvs)) ∧ kvs.length ≤ i⟩
theorem frz_at {X : Cx} {pins : List (Addr × Obj)} {σ : St} {H : Hp} {s : Shared} {a : Addr} {ob : Obj} {kvs : List (Key × V)} {es : Array DictEntry} {ep : Nat} (I : Inv X pins σ H s) (hob : ob.data = .dict es ep) (e : H a = some (.frz ob (.dK kvs))) :
    ∃ vs, KV kvs vs ∧ vs.length = kvs.length ∧ s.heap.DictAt (mixKind X.prog X.w) a vs ep := by
  obtain ⟨ho, _, _, vs, rel, dd⟩ := (show ObjOk X.prog X.w H s.heap a (.frz ob (.dK kvs)) from I.hok a _ e)
  obtain ⟨ep', da⟩ := dd.dictAt
  refine ⟨vs, rel, rel.length.symm, ?_⟩
  obtain ⟨o, es', h1, h2, h3, h4⟩ := id da
  rw [ho] at h1
  cases h1
  rw [hob] at h3
  cases h3
  exact da
theorem turn_vals {P : Program} {w : World} {K : PySem.W.Frag} {tg : Expr} {a it : Addr} {ob : Obj} {kvs : List (Key × V)} {es : Array DictEntry} {ep : Nat} (hob : ob.data = .dict es ep) : Turn P w K tg (Itv a ob kvs) [it] it (fun i h => h.IsValIter it a i kvs.length ep) where
  mem := by simp
  obj := fun i h st b hb => by
    obtain rfl : b = it := by simpa using hb
    obtain ⟨o, e, c, d⟩ := st
    exact ⟨o, e, fun v z => by rw [d] at z; cases z⟩
  keep := fun i h h' st k => by
    obtain ⟨o, e, r⟩ := st
    exact ⟨o, k it (by simp) o e, r⟩
  item := by
    intro X hP hw hK hc i pins s σ H E I hf st hg
    subst hP hw hK
    obtain ⟨ea, hi⟩ := hg
    obtain ⟨vs, rel, lv, da⟩ := frz_at I hob ea
    obtain ⟨f0, f1, f2, f3, f4, f5⟩ := hf it (by simp)
    have hk : kvs[i]? = some kvs[i] := List.getElem?_eq_getElem hi
    obtain ⟨⟨k', u⟩, hu, ek, ru⟩ := paired_at rel hk
    rw [← lv] at st
    refine wpAny_pyNext_values_item st da hu fun h' st' sb => ?_
    have I1 : Inv X pins σ H { s with heap := h' } := I.turned (t' := s.toks) (fun b o hb e => (sb.2 b hb).trans e) f0 f1 f3 f4 f5
    obtain ⟨o, e, c, d⟩ := id st'
    rw [lv] at st'
    exact ⟨u, rfl, go_of (s := { s with heap := h' }) e c d (by decide) ⟨kvs[i].2, H, I1, ru, ⟨rfl, kvs[i].1, hk⟩, st', fun b hb => (hf b hb).1⟩⟩
  done := by
    intro X hP hw hK hc i pins s σ H E I hf st hg
    subst hP hw hK
    obtain ⟨ea, hi⟩ := hg
    obtain ⟨vs, rel, lv, da⟩ := frz_at I hob ea
    obtain ⟨f0, f1, f2, f3, f4, f5⟩ := hf it (by simp)
    rw [← lv] at st
    exact wpAny_pyNext_values_end (I.ok.hd hc) st da (by rw [List.getElem?_eq_none]; omega) fun h' eb => ⟨rfl, I.turned (t' := s.toks) (fun b o hb e => eb b o hb e) f0 f1 f3 f4 f5⟩
  self := fun _ _ _ _ _ st h => wpAny_pyIter_valiter st h
def iVals (td : TE) : TI := fun σ H R => td σ H fun x H1 => ∃ a kvs, x = .ref a ∧ H1 a = some (.dK kvs) ∧ ∀ ob, R (Itv a ob kvs) (upd H1 a (.frz ob (.dK kvs)))
section
variable {X : Cx}
theorem pi_vals {tg o : Expr} {to : TE} {apos cpos : Pos} (ho : PE X o to) (hbase : attributeBase o "values" X.env (eval o X.env) = eval o X.env := by rfl) (hline : (apos.endLine == cpos.line) = true := by rfl) : PI X tg (.Call (.Attribute o "values" apos) [] [] cpos) (iVals to) := by
  intro pins s σ H R I h
  refine wpAny_Call_method0_late hbase hline (thn (ho pins s σ H _ I h) fun v s1 ⟨x, H1, I1, r1, a, kvs, ex, ea, q⟩ => ?_)
  subst ex
  cases r1
  obtain ⟨t1, t2, hd⟩ := isD_at I1 (.inl ⟨_, .inl ea⟩)
  obtain ⟨_, _, vs, rel, dd⟩ := dk_of I1.hok ea
  obtain ⟨ep, da⟩ := dd.dictAt
  obtain ⟨ob, es, ho, hcl, hob, _⟩ := id da
  refine ⟨"dict", "dict.values", PySem.F.plainAttrs_dict, PySem.F.slot_dict_values, PySem.F.type_dict_values, t1, t2, Calls.callWith_builtin rfl (PySem.evalArgs_none ?_)⟩
  refine call_meetsIn PySem.F.slot_dict_values t1 PySem.F.entry_dict_values (PySem.F.args_dict_values_1 _) (meets_dict_values (mixKind X.prog X.w) a hd) ⟨⟨_, dd⟩, ?_⟩
  have k1 : ∀ b o, s1.heap.get? b = some o → (s1.heap.push { cls := .type "dict_values", data := .fields #[.ref a] }).get? b = some o := fun b o e => Heap.get?_push_of_some _ e
  have I2 : Inv X pins σ (upd H1 a (.frz ob (.dK kvs))) { s1 with heap := s1.heap.push { cls := .type "dict_values", data := .fields #[.ref a] } } := (I1.freeze ea ho).kept (t' := s1.toks) k1
  have da2 : (s1.heap.push { cls := .type "dict_values", data := .fields #[.ref a] }).DictAt (mixKind X.prog X.w) a vs ep := by
    obtain ⟨o, es, h1, r⟩ := da
    exact ⟨o, es, k1 _ _ h1, r⟩
  refine wpAny_pyIter_values (s := { s1 with heap := s1.heap.push { cls := .type "dict_values", data := .fields #[.ref a] } }) ⟨_, Heap.get?_push_size _ rfl, rfl, rfl⟩ da2 ?_
  have lv : vs.length = kvs.length := rel.length.symm
  generalize hh2 : s1.heap.push { cls := .type "dict_values", data := .fields #[.ref a] } = h2 at I2 da2
  refine ⟨h2.objs.size, [h2.objs.size], _, _, _, rfl, I2.kept (t' := s1.toks) fun b o e => Heap.get?_push_of_some _ e, turn_vals hob, ⟨_, Heap.get?_push_size _ rfl, rfl, by rw [lv]; rfl⟩, fun b hb => ?_, q ob⟩
  obtain rfl : b = h2.objs.size := by simpa using hb
  exact I2.fpOk (Nat.le_refl _) (I2.hok.fresh (Nat.le_refl _))
def tThaw (t : TE) : TE := fun σ H Q => ∃ a kvs, H a = some (.dK kvs) ∧ t σ H fun v H4 => (∃ ob, H4 a = some (.frz ob (.dK kvs))) ∧ Q v (upd H4 a (.dK kvs))
theorem pe_thaw {e : Expr} {t : TE} (h : PE X e t) : PE X e (tThaw t) := by
  intro pins s σ H Q I ⟨a, kvs, ea, q⟩
  refine thn (h pins s σ H _ I q) fun u s1 ⟨v, H4, I4, r4, ⟨ob, e4⟩, q4⟩ => ?_
  exact ⟨v, _, I4.thaw (I.noFrz ea) e4, r4, q4⟩
def sThaw (t : TS) : TS := fun D σ H => ∃ a kvs, H a = some (.dK kvs) ∧ t { D with nx := fun σ' H4 => (∃ ob, H4 a = some (.frz ob (.dK kvs))) ∧ D.nx σ' (upd H4 a (.dK kvs)) } σ H
theorem ps_thaw {st : Stmt} {t : TS} (h : PS X st t) : PS X st (sThaw t) := by
  intro pins s σ H D I ⟨a, kvs, ea, q⟩
  refine thn (h pins s σ H _ I q) fun f s1 z => ?_
  cases f with
  | next =>
    obtain ⟨σ', H4, I4, ⟨ob, e4⟩, q4⟩ := z
    exact ⟨σ', _, I4.thaw (I.noFrz ea) e4, q4⟩
  | brk => exact z
  | cont => exact z
  | ret u => exact z
end
theorem runsR_vals {S : Hp → Hp → Prop} {a : Addr} {ob : Obj} {kvs : List (Key × V)} {H1 : Hp} (hs : ∀ H, S H1 H → S H H) (hq : ∀ H, S H1 H → H a = some (.frz ob (.dK kvs))) : RunsR S (Itv a ob kvs) H1 kvs.length (fun i v _ => ∃ k, kvs[i]? = some (k, v)) :=
  ⟨fun i hi H s => ⟨hq H s, hi⟩, fun H s => ⟨hq H s, Nat.le_refl _⟩, fun i hi H v H' s y => by
    obtain ⟨e, y⟩ := y
    subst e
    exact ⟨hs _ s, y⟩⟩
theorem seqT_retold {K : PySem.W.Frag} {H : Hp} {l c : Addr} {o : HO} {kvs : List (Key × V)} {xs : List V} (e : H l = some (.dK kvs)) (h : SqT K H c xs) : SqT K (upd H l o) c xs := by
  rcases h with (h | ⟨ob, h⟩) | h
  · exact .inl (.inl (by rw [upd_ne (ne_of h e (by intro z; cases z))]; exact h))
  · exact .inl (.inr ⟨ob, by rw [upd_ne (ne_of h e (by intro z; cases z))]; exact h⟩)
  · exact .inr h
theorem tcompV {K : PySem.W.Frag} {a : Addr} {kvs : List (Key × V)} {td te : TE} {tc : TT} {g : TG} {m : Nat} {fr : List (Nat × Str)} {σ : L2.St} {H : Hp} {Q : VK} (p : Nat → Bool) (R : Nat → V → Prop) (htd : ∀ R : VK, R (.ref a) H → td σ H R) (ea : H a = some (.dK kvs)) (hn : kvs.length ≤ sizeLine)
    (body : ∀ i k v, kvs[i]? = some (k, v) → ∀ H1, (∀ c xs, SqT K H c xs → SqT K H1 c xs) → ∀ (KT : VK) (KF : Hp → Prop), (p i = true → ∀ y H', Same H1 H' → R i y → KT y H') → (p i = false → ∀ H', Same H1 H' → KF H') →
      g v (cStG σ fr (List.replicate m none)) H1 fun σ6 H6 => ∃ us, us.length = m ∧ σ6 = cStG σ fr us ∧ tc (cStG σ fr us) H6 fun b H2 => if b = true then te (cStG σ fr us) H2 KT else KF H2)
    (hQ : ∀ l H' ys, Same H H' → H l = none → H' l = some (.lst ys) → All2 R ((List.range kvs.length).filter p) ys → Q (.ref l) H') : tThaw (tCompG (iVals td) m fr g tc te) σ H Q := by
  refine ⟨a, kvs, ea, htd _ ⟨a, kvs, rfl, ea, fun ob => ?_⟩⟩
  have f0 : ∀ {H' : Hp}, Same (upd H a (.frz ob (.dK kvs))) H' → H' a = some (.frz ob (.dK kvs)) := fun s => s _ _ upd_same
  refine compG_rel (S := Same) (H1 := upd H a (.frz ob (.dK kvs))) (Q := fun v H4 => (∃ ob, H4 a = some (.frz ob (.dK kvs))) ∧ Q v (upd H4 a (.dK kvs))) (fr := fr) (g := g) (tc := tc) (te := te) (σ := σ) (m := m) (Same.refl _) (fun _ _ _ a b => a.trans b) p (fun i y _ => R i y) (fun _ _ _ _ _ z => z) (runsR_vals (S := Same) (fun _ _ => Same.refl _) fun H s => f0 s) hn (fun i hi v H1 s1 it KT KF h1 h2 => ?_) fun l H' ys s' hl fa => ?_
  · obtain ⟨k, hk⟩ := it
    exact body i k v hk H1 (fun c xs z => s1.seqT (seqT_retold ea z)) KT KF h1 h2
  · have nla : l ≠ a := fun z => by rw [z, f0 s'] at hl; cases hl
    refine ⟨⟨ob, by rw [upd_ne nla.symm]; exact f0 s'⟩, hQ l _ ys (fun b o e => ?_) ?_ (by rw [upd_ne nla]; exact upd_same) fa⟩
    · by_cases z : b = a
      · rw [z] at e ⊢
        rw [ea] at e
        cases e
        exact upd_same
      · have e2 : H' b = some o := s' b o (by rw [upd_ne z]; exact e)
        rw [upd_ne z, upd_ne (fun y => by rw [y, hl] at e2; cases e2)]
        exact e2
    · cases hx : H l with
      | none => rfl
      | some o =>
        have := s' l o (by rw [upd_ne nla]; exact hx)
        rw [hl] at this
        cases this
theorem seq_thaw {te : TE} {i : Nat} {rest : TS} {D : Ends} {σ : L2.St} {H : Hp} (h : tThaw te σ H fun x H1 => rest D (σ.set i (some x)) H1) : tSeq (sThaw (tAsg te (gName i))) rest D σ H := h
end L2
set_option Elab.async false
set_option linter.all false
set_option maxRecDepth 100000
set_option maxHeartbeats 1000000
namespace L2
open PySem PySem.Spec PyProof.Rows
def TupI (h : Heap) (v : Value) (x : Int × Int) : Prop := ∃ (p : Addr) (o : Obj) (n : Nat) (t u : Tok), v = .ref p ∧ h.get? p = some o ∧ o.cls = .type "tuple" ∧ o.data = .seq #[.int x.1 t, .int x.2 u] n
def gtI (x y : Int × Int) : Bool := if x.1 = y.1 then decide (y.2 < x.2) else decide (y.1 < x.1)
section
variable {prog : Program} {w : World} {A : Around} {E : Value → Shared → Prop} {s : Shared}
theorem tup_gt {v z : Value} {x y : Int × Int} {Q : Value → Shared → Prop} (hx : TupI s.heap v x) (hy : TupI s.heap z y) (hu : A.units < cLine) (h : Q (.bool (gtI x y)) s) : wpAny (model prog w) A (richCompare .Gt v z) Q E s := by
  obtain ⟨p, o, n, t, u, rfl, ho, hc, hd⟩ := hx
  obtain ⟨p2, o2, n2, t2, u2, rfl, ho2, hc2, hd2⟩ := hy
  refine wpAny_richCompare_same_room (op := .Gt) (T := "tuple") ⟨o, ho, hc⟩ ⟨o2, ho2, hc2⟩ F.slot_tuple_gt (wpAny_call_entry F.slot_tuple_gt ⟨o, ho, hc⟩ F.entry_tuple_gt ?_ (F.args_tuple_gt_2 _ _)) hu
  refine (show wpAny _ _ (isInstance (.ref p2) (.type "tuple") >>= _) _ _ s from wpAny_bind (wpAny_isInstance (T := "tuple") ⟨o2, ho2, hc2⟩ isSubtype_tuple_tuple ?_))
  simp only [Bool.not_true, Bool.false_eq_true, if_false]
  refine wpAny_bind (wpAny_tupleItemsOf ho hd (wpAny_bind (wpAny_tupleItemsOf ho2 hd2 (wpAny_bind ?_))))
  simp only [List.zip_cons_cons, List.zip_nil_left, List.forIn_cons, List.forIn_nil]
  refine wpAny_bind (wpAny_bind ((intKind prog w).eqBool (a := x.1) (b := y.1) (intKind_is prog w _ _) (intKind_is prog w _ _) ?_))
  have gt : ∀ {i j : Int} {a b : Tok} {R : Value → Shared → Prop}, R (.bool (decide (j < i))) s → wpAny (model prog w) A.in1 (richCompare .Gt (.int i a) (.int j b)) R E s := fun q => (show wpAny _ _ (compareOp .Gt _ _) _ _ _ from gt_int q)
  by_cases e1 : x.1 = y.1
  · rw [decide_eq_true e1]
    simp only [Bool.not_true, Bool.false_eq_true, if_false]
    refine wpAny_pure (wpAny_bind (wpAny_bind ((intKind prog w).eqBool (a := x.2) (b := y.2) (intKind_is prog w _ _) (intKind_is prog w _ _) ?_)))
    unfold gtI at h
    rw [if_pos e1] at h
    by_cases e2 : x.2 = y.2
    · rw [decide_eq_true e2]
      simp only [Bool.not_true, Bool.false_eq_true, if_false]
      rw [decide_eq_false (by omega)] at h
      exact wpAny_pure (wpAny_pure (wpAny_pure ⟨_, rfl, (fun z => nomatch z), h⟩))
    · rw [decide_eq_false e2]
      simp only [Bool.not_false, if_true]
      exact wpAny_bind (wpAny_rule (wpAny_bind (gt (wpAny_bind (wpAny_pure (wpAny_pure (wpAny_pure (wpAny_pure ⟨_, rfl, (fun z => nomatch z), h⟩))))))))
  · rw [decide_eq_false e1]
    simp only [Bool.not_false, if_true]
    unfold gtI at h
    rw [if_neg e1] at h
    exact wpAny_bind (wpAny_rule (wpAny_bind (gt (wpAny_bind (wpAny_pure (wpAny_pure (wpAny_pure (wpAny_pure ⟨_, rfl, (fun z => nomatch z), h⟩))))))))
theorem TupI.kept {h h' : Heap} {v : Value} {x : Int × Int} {c : Addr} {oc : Obj} (q : TupI h v x) (e : h.get? c = some oc) (nc : oc.cls ≠ .type "tuple") (k : ∀ b o, b ≠ c → h.get? b = some o → h'.get? b = some o) : TupI h' v x := by
  obtain ⟨p, o, n, t, u, rfl, ho, hc, hd⟩ := q
  exact ⟨p, o, n, t, u, rfl, k p o (fun z => by rw [z, e] at ho; cases ho; exact nc hc) ho, hc, hd⟩
def bestI (m : Value × (Int × Int)) : List (Value × (Int × Int)) → Value × (Int × Int)
  | [] => m
  | x :: r => bestI (if gtI x.2 m.2 = true then x else m) r
theorem max_loopT {I l S : Addr} {its : Array Value} (nl : l ≠ I) (ns : S ≠ I) (nsl : l ≠ S) : ∀ (xs : List (Value × (Int × Int))) (k c : Nat) (m : Value × (Int × Int)) (A : Around) (R : Result → Shared → Prop) (s : Shared), A.handled = none → A.units + 1 < cLine → s.heap.IsListIter I l k → s.heap.IsList l its → its.toList.drop k = xs.map (·.1) →
    s.heap.get? S = some { cls := .type "list", dict := none, data := .seq #[m.1, m.1] c, slots := #[] } → TupI s.heap m.1 m.2 → (∀ x ∈ xs, TupI s.heap x.1 x.2) →
    (∀ h' tk, (∀ b o, b ≠ I → b ≠ S → s.heap.get? b = some o → h'.get? b = some o) → R (.ok (.ret (bestI m xs).1)) { s with heap := h', toks := tk }) →
    codeAny (model prog w) A (.builtin "max.loop" ⟨[.ref I, .none, .ref S], []⟩) R s
  | [], k, c, m, A, R, s, hh, hu, hI, hl, hd, hS, hm, hx, q => by
    have hn : its[k]? = none := by
      have := List.drop_eq_nil_iff.mp hd
      rw [Array.length_toList] at this
      exact Array.getElem?_eq_none this
    refine codeAny_builtin F.entry_max_loop ?_
    rw [Around.under_plainId F.plain_max_loop _]
    refine (show wpAny _ A.in1 (seqItems? (.ref S) >>= _) _ _ s from wpAny_bind (wpAny_seqItems hS rfl ?_))
    refine (show wpAny _ A.in1 (tryCatch (pyNext (.ref I)) _ >>= _) _ _ s from wpAny_bind (wpAny_tryCatch (wpAny_pyNext_list_end (show A.in1.handled = none from hh) hI hl hn fun h' eb => ?_)))
    have hS' := eb S _ ns hS
    refine (show wpAny _ A.in1 (updateSeq S (fun _ => #[]) >>= _) _ _ _ from wpAny_bind (wpAny_updateSeq hS' rfl (wpAny_bind (wpAny_letGo (wpAny_pure ?_)))))
    exact q _ _ fun b o n1 n2 e => (Heap.get?_update_other _ _ (Ne.symm n2)).trans (eb b o n1 e)
  | x :: xs, k, c, m, A, R, s, hh, hu, hI, hl, hd, hS, hm, hx, q => by
    have hk : its.toList[k]? = some x.1 := by
      have := congrArg (fun z => z[0]?) hd
      simpa using this
    have hk : its[k]? = some x.1 := by simpa using hk
    have hd1 : its.toList.drop (k + 1) = xs.map (·.1) := by
      have := congrArg List.tail hd
      simpa using this
    have hname : (toString "max" ++ toString ".loop" : String) = "max.loop" := by decide
    obtain ⟨oI, eI, cI, _⟩ := id hI
    have nI : oI.cls ≠ .type "tuple" := by rw [cI]; decide
    refine codeAny_builtin F.entry_max_loop ?_
    rw [Around.under_plainId F.plain_max_loop _]
    refine (show wpAny _ A.in1 (seqItems? (.ref S) >>= _) _ _ s from wpAny_bind (wpAny_seqItems hS rfl ?_))
    refine (show wpAny _ A.in1 (tryCatch (pyNext (.ref I)) _ >>= _) _ _ s from wpAny_bind (wpAny_tryCatch (wpAny_pyNext_list_item hI hl hk fun h' I' sb => ?_)))
    have k1 : ∀ b o, b ≠ I → s.heap.get? b = some o → h'.get? b = some o := fun b o n e => (sb.2 b n).trans e
    have hS' := k1 S _ ns hS
    have hl' : h'.IsList l its := hl.elim fun o z => ⟨o, k1 l o nl z.1, z.2⟩
    have hm' : TupI h' m.1 m.2 := hm.kept eI nI k1
    have hx' : ∀ y ∈ x :: xs, TupI h' y.1 y.2 := fun y hy => (hx y hy).kept eI nI k1
    refine (show wpAny _ A.in1 (tryCatch (holding [x.1, x.1] (richCompare .Gt x.1 m.1 >>= _)) _ >>= _) _ _ _ from wpAny_bind (wpAny_tryCatch (wpAny_holding (wpAny_bind (tup_gt (s := { s with heap := h' }) (hx' x (.head _)) hm' (by simpa using hu) (wpAny_bind (wpAny_holding (wpAny_truthy_bool (wpAny_bind (wpAny_letGo (wpAny_pure ?_)))))))))))
    have eb : bestI m (x :: xs) = bestI (if gtI x.2 m.2 = true then x else m) xs := rfl
    cases hg : gtI x.2 m.2 with
    | true =>
      rw [hg, if_pos rfl] at eb
      simp only [if_true]
      refine wpAny_bind (wpAny_updateSeq hS' rfl (wpAny_bind (wpAny_letGo ?_)))
      rw [hname]
      have k2 : ∀ b o, b ≠ S → h'.get? b = some o → (h'.update S (Obj.mapSeq fun _ => #[x.1, x.1])).get? b = some o := fun b o n e => (Heap.get?_update_other _ _ (Ne.symm n)).trans e
      refine wpAny_pure ⟨plainId_quiet F.plain_max_loop _, max_loopT nl ns nsl xs (k + 1) _ x A R { s with heap := h'.update S (Obj.mapSeq fun _ => #[x.1, x.1]) } hh hu (I'.elim fun o z => ⟨o, k2 I o (Ne.symm ns) z.1, z.2⟩) (hl'.elim fun o z => ⟨o, k2 l o nsl z.1, z.2⟩) hd1 (Heap.get?_update_self _ hS' rfl) ((hx' x (.head _)).kept hS' (show Value.type "list" ≠ .type "tuple" by decide) k2) (fun y hy => (hx' y (.tail _ hy)).kept hS' (show Value.type "list" ≠ .type "tuple" by decide) k2) fun h'' tk kk => ?_⟩
      rw [← eb]
      exact q h'' tk fun b o n1 n2 e => kk b o n1 n2 (k2 b o n2 (k1 b o n1 e))
    | false =>
      rw [hg, if_neg (by decide)] at eb
      simp only [Bool.false_eq_true, if_false]
      refine wpAny_bind (wpAny_letGo ?_)
      rw [hname]
      refine wpAny_pure ⟨plainId_quiet F.plain_max_loop _, max_loopT nl ns nsl xs (k + 1) c m A R { s with heap := h' } hh hu I' hl' hd1 hS' hm' (fun y hy => hx' y (.tail _ hy)) fun h'' tk kk => ?_⟩
      rw [← eb]
      exact q h'' tk fun b o n1 n2 e => kk b o n1 n2 (k1 b o n1 e)
theorem max_callT {l : Addr} {its : Array Value} {m : Value × (Int × Int)} {xs : List (Value × (Int × Int))} {Q : Value → Shared → Prop} (hh : A.handled = none) (hu : A.units + 1 < cLine) (hl : s.heap.IsList l its) (hi : its.toList = (m :: xs).map (·.1)) (ht : ∀ x ∈ m :: xs, TupI s.heap x.1 x.2)
    (q : ∀ h' tk, (∀ b o, s.heap.get? b = some o → h'.get? b = some o) → Q (bestI m xs).1 { s with heap := h', toks := tk }) : wpAny (model prog w) A (call (.builtin "max") [.ref l]) Q E s := by
  have hname : (toString "max" ++ toString ".loop" : String) = "max.loop" := by decide
  refine call_function_tree F.kind_max F.plain_max F.entry_max (F.args_max1 _) ?_
  refine (show wpAny _ A.in1 (Builtin.Builtins.bindParams "max" ["key", "default"] 0 ⟨[], []⟩ >>= _) _ _ s from wpAny_bind (wpAny_of_eq (show Builtin.Builtins.bindParams "max" ["key", "default"] 0 ⟨[], []⟩ = pure [none, none] from rfl) (wpAny_bind (wpAny_pure ?_))))
  refine wpAny_bind (wpAny_pyIter_list hl ?_)
  refine wpAny_bind (wpAny_newObj_type ?_)
  rw [hname]
  dsimp only
  generalize hI0 : s.heap.push { cls := .type "list_iterator", data := .fields #[.ref l, .int 0 0] } = h1
  have e1 : h1.get? s.heap.objs.size = some { cls := .type "list_iterator", data := .fields #[.ref l, .int 0 0] } := by rw [← hI0]; exact Heap.get?_push_size _ rfl
  have z1 : h1.objs.size = s.heap.objs.size + 1 := by rw [← hI0]; exact Heap.size_push _ _
  have k1 : ∀ b o, s.heap.get? b = some o → h1.get? b = some o := fun b o e => by rw [← hI0]; exact Heap.get?_push_of_some _ e
  generalize hS0 : h1.push { cls := .type "list", data := .seq #[] } = h2
  have eS : h2.get? h1.objs.size = some { cls := .type "list", data := .seq #[] } := by rw [← hS0]; exact Heap.get?_push_size _ rfl
  have k2 : ∀ b o, h1.get? b = some o → h2.get? b = some o := fun b o e => by rw [← hS0]; exact Heap.get?_push_of_some _ e
  have ll : l < s.heap.objs.size := hl.elim fun o z => Heap.lt_size z.1
  generalize hI : s.heap.objs.size = I at e1 z1 ll
  generalize hSS : h1.objs.size = S at eS z1
  have nsi : S ≠ I := by omega
  have nl : l ≠ I := Nat.ne_of_lt ll
  have nls : l ≠ S := Nat.ne_of_lt (by rw [z1]; exact Nat.lt_succ_of_lt ll)
  have ht2 : ∀ x ∈ m :: xs, TupI h2 x.1 x.2 := fun x hx => by
    obtain ⟨p, o, n, t, u, e, ho, r⟩ := ht x hx
    exact ⟨p, o, n, t, u, e, k2 _ _ (k1 _ _ ho), r⟩
  refine wpAny_pure ⟨plainId_quiet F.plain_max_loop _, codeAny_builtin F.entry_max_loop ?_⟩
  rw [Around.under_plainId F.plain_max_loop _]
  refine (show wpAny _ A.in1 (seqItems? (.ref S) >>= _) _ _ _ from wpAny_bind (wpAny_seqItems eS rfl ?_))
  have hk : its[0]? = some m.1 := by
    have := congrArg (fun z => z[0]?) hi
    simpa using this
  refine (show wpAny _ A.in1 (tryCatch (pyNext (.ref I)) _ >>= _) _ _ _ from wpAny_bind (wpAny_tryCatch (wpAny_pyNext_list_item (l := l) ⟨_, k2 _ _ e1, rfl, rfl⟩ (hl.elim fun o z => ⟨o, k2 _ _ (k1 _ _ z.1), z.2⟩) hk fun h3 I3 sb => ?_)))
  have k3 : ∀ b o, b ≠ I → h2.get? b = some o → h3.get? b = some o := fun b o n e => (sb.2 b n).trans e
  have eS3 := k3 S _ nsi eS
  refine (show wpAny _ A.in1 (updateSeq S (fun _ => #[m.1, m.1]) >>= _) _ _ _ from wpAny_bind (wpAny_updateSeq eS3 rfl ?_))
  rw [hname]
  have k4 : ∀ b o, b ≠ S → h3.get? b = some o → (h3.update S (Obj.mapSeq fun _ => #[m.1, m.1])).get? b = some o := fun b o n e => (Heap.get?_update_other _ _ (Ne.symm n)).trans e
  have ht4 : ∀ x ∈ m :: xs, TupI (h3.update S (Obj.mapSeq fun _ => #[m.1, m.1])) x.1 x.2 := fun x hx => ((ht2 x hx).kept (k2 _ _ e1) (show Value.type "list_iterator" ≠ .type "tuple" by decide) k3).kept eS3 (show Value.type "list" ≠ .type "tuple" by decide) k4
  refine wpAny_pure ⟨plainId_quiet F.plain_max_loop _, max_loopT nl nsi nls xs 1 _ m A _ { s with heap := h3.update S (Obj.mapSeq fun _ => #[m.1, m.1]) } hh hu (I3.elim fun o z => ⟨o, k4 I o (Ne.symm nsi) z.1, z.2⟩) (hl.elim fun o z => ⟨o, k4 l o nls (k3 _ _ nl (k2 _ _ (k1 _ _ z.1))), z.2⟩) ?_ (Heap.get?_update_self _ eS3 rfl) (ht4 m (.head _)) (fun x hx => ht4 x (.tail _ hx)) fun h' tk kk => ?_⟩
  · rw [hi]; rfl
  · refine q h' tk fun b o e => ?_
    have lb : b < I := by rw [← hI]; exact Heap.lt_size e
    have n1 : b ≠ I := Nat.ne_of_lt lb
    have n2 : b ≠ S := Nat.ne_of_lt (by rw [z1]; exact Nat.lt_succ_of_lt lb)
    exact kk b o n1 n2 (k4 _ _ n2 (k3 _ _ n1 (k2 _ _ (k1 _ _ e))))
end
section
variable {X : Cx}
theorem gtI_iff {x y : Int × Int} : gtI x y = true ↔ y.1 < x.1 ∨ (x.1 = y.1 ∧ y.2 < x.2) := by
  unfold gtI
  by_cases e : x.1 = y.1
  · rw [if_pos e, decide_eq_true_iff]; omega
  · rw [if_neg e, decide_eq_true_iff]; omega
theorem bestI_in : ∀ (xs : List (Value × (Int × Int))) (m : Value × (Int × Int)), bestI m xs ∈ m :: xs ∧ ∀ x ∈ m :: xs, gtI x.2 (bestI m xs).2 = false
  | [], m => ⟨.head _, fun x hx => by rw [List.mem_singleton.mp hx]; exact Bool.eq_false_iff.mpr fun z => by have : m.2.1 < m.2.1 ∨ (m.2.1 = m.2.1 ∧ m.2.2 < m.2.2) := gtI_iff.mp z; omega⟩
  | y :: xs, m => by
    show bestI (if gtI y.2 m.2 = true then y else m) xs ∈ m :: y :: xs ∧ ∀ x ∈ m :: y :: xs, gtI x.2 (bestI (if gtI y.2 m.2 = true then y else m) xs).2 = false
    by_cases z : gtI y.2 m.2 = true
    · rw [if_pos z]
      obtain ⟨h1, h2⟩ := bestI_in xs y
      refine ⟨.tail _ h1, fun x hx => ?_⟩
      rcases List.mem_cons.mp hx with e | hx
      · have a := h2 y (.head _)
        rw [e]
        refine Bool.eq_false_iff.mpr fun b => Bool.eq_false_iff.mp a ?_
        have b := gtI_iff.mp b
        have c := gtI_iff.mp z
        exact gtI_iff.mpr (by omega)
      · exact h2 x hx
    · rw [if_neg z]
      obtain ⟨h1, h2⟩ := bestI_in xs m
      refine ⟨?_, fun x hx => ?_⟩
      · rcases List.mem_cons.mp h1 with e | e
        · rw [e]; exact .head _
        · exact .tail _ (.tail _ e)
      · rcases List.mem_cons.mp hx with e | hx
        · rw [e]; exact h2 m (.head _)
        · rcases List.mem_cons.mp hx with e | hx
          · have a := h2 m (.head _)
            rw [e]
            refine Bool.eq_false_iff.mpr fun b => Bool.eq_false_iff.mp a ?_
            have b := gtI_iff.mp b
            have c : ¬ _ := fun c => z (gtI_iff.mpr c)
            exact gtI_iff.mpr (by omega)
          · exact h2 x (.tail _ hx)
theorem call_maxT (hcalm : X.calm = true) {k : Nat} (hr : Room k X.A) : CallR X (.builtin "max") (fun xs H Q => ∃ (l : Addr) (m : Addr × (Int × Int)) (r : List (Addr × (Int × Int))), xs = [.ref l] ∧ SqL X.K H l ((m :: r).map fun x => V.ref x.1) ∧ (∀ x ∈ m :: r, SqT X.K H x.1 [.int x.2.1, .int x.2.2]) ∧
    ∀ b, (b ∈ m :: r) → (∀ x ∈ m :: r, gtI x.2 b.2 = false) → Q (.ref b.1) H) := by
  intro pins s σ H xs us Q I rv h
  obtain ⟨l, m, r, rfl, sq, st, q⟩ := h
  obtain ⟨u, rfl, rx⟩ := vals1 rv
  cases rx
  obtain ⟨its, ri, pl, hz⟩ := I.list sq
  have hi : its.toArray.toList = (((Value.ref m.1, m.2) :: r.map fun x => (Value.ref x.1, x.2)) : List (Value × (Int × Int))).map (·.1) := by
    have go : ∀ (ys : List (Addr × (Int × Int))) (us : List Value), Vals (ys.map fun x => V.ref x.1) us → us = (ys.map fun x => (Value.ref x.1, x.2)).map (·.1) := by
      intro ys
      induction ys with
      | nil => intro us h; cases h; rfl
      | cons y ys ih =>
        intro us h
        cases h with
        | cons a b =>
          cases (show _ = Value.ref y.1 from a)
          rw [List.map_cons, List.map_cons, ← ih _ b]
    simpa using go (m :: r) its ri
  have ht : ∀ x ∈ (((Value.ref m.1, m.2) :: r.map fun x => (Value.ref x.1, x.2)) : List (Value × (Int × Int))), TupI s.heap x.1 x.2 := fun x hx => by
    obtain ⟨y, hy, rfl⟩ : ∃ y ∈ m :: r, x = (Value.ref y.1, y.2) := by
      rcases List.mem_cons.mp hx with e | hx
      · exact ⟨m, .head _, e⟩
      · obtain ⟨y, hy, e⟩ := List.mem_map.mp hx
        exact ⟨y, .tail _ hy, e.symm⟩
    obtain ⟨js, rj, ⟨o, ho, hc, n, hd⟩, _⟩ := I.tuple (st y hy)
    obtain ⟨u1, u2, rfl, r1, r2⟩ := vals2 rj
    obtain ⟨t1, rfl⟩ := r1
    obtain ⟨t2, rfl⟩ := r2
    exact ⟨y.1, o, n, t1, t2, rfl, ho, hc, hd⟩
  refine max_callT (I.ok.hd hcalm) (hu_of hr) pl.isList hi ht fun h' tk k => ?_
  obtain ⟨b1, b2⟩ := bestI_in (r.map fun x => (Value.ref x.1, x.2)) (Value.ref m.1, m.2)
  obtain ⟨y, hy, ey⟩ : ∃ y ∈ m :: r, bestI (Value.ref m.1, m.2) (r.map fun x => (Value.ref x.1, x.2)) = (Value.ref y.1, y.2) := by
    rcases List.mem_cons.mp b1 with e | hx
    · exact ⟨m, .head _, e⟩
    · obtain ⟨y, hy, e⟩ := List.mem_map.mp hx
      exact ⟨y, .tail _ hy, e.symm⟩
  rw [ey] at b2 ⊢
  refine ⟨.ref y.1, H, I.kept (t' := tk) k, rfl, q y hy fun x hx => ?_⟩
  rcases List.mem_cons.mp hx with e | hx
  · rw [e]; exact b2 _ (.head _)
  · exact b2 (Value.ref x.1, x.2) (.tail _ (List.mem_map.mpr ⟨x, hx, rfl⟩))
end
end L2
open PySem PySem.W PyProof.Rows
set_option Elab.async false
set_option maxRecDepth 100000
set_option maxHeartbeats 4000000
namespace TJ
section
variable (p : Program) (w : World) (n₀ : Nat) (ann : Option Value) (code : Code) (q : Pos)
def Steps (c : Nat) (s : Shared) (t : Thread) (s' : Shared) (t' : Thread) : Prop := ∃ n, n ≤ c ∧ segGo treeTable p w n₀ ann 1 n s t = some (s', t')
def Goes {α : Type} (c : Nat) (x : Sem α) (s : Shared) (pos : Pos) (a : α) (s' : Shared) (pos' : Pos) : Prop :=
  ∀ (K : α → Sem Fin) (H : Value → Sem Fin) (gd : Bool → Bool) (lv : List Value → List Value),
    Steps p w n₀ ann c s ⟨x.wrap K H gd lv, code, pos, [topFrame q]⟩ s' ⟨K a, code, pos', [topFrame q]⟩
end
section
variable {p : Program} {w : World} {n₀ : Nat} {ann : Option Value} {code : Code} {q : Pos}
variable {α β : Type} {s s' s'' : Shared} {pos pos' pos'' : Pos} {a : α} {b : β} {c d : Nat}
end
end TJ
open PySem PySem.W PyProof.Rows
set_option Elab.async false
set_option maxRecDepth 100000
set_option maxHeartbeats 4000000
namespace TJ
section
variable {p : Program} {w : World} {n₀ : Nat} {ann : Option Value} {code : Code} {q : Pos} {s : Shared} {pos : Pos}
end
end TJ
open PySem PySem.W PyProof.Rows
set_option Elab.async false
set_option maxRecDepth 100000
set_option maxHeartbeats 4000000
namespace TJ
abbrev dObj (es : Array DictEntry) (ep : Nat) : Obj := { cls := .type "dict", data := .dict es ep }
abbrev KV3 := Addr × Value × Int
def ent (x : KV3) : DictEntry := ⟨x.2.2, .ref x.1, x.2.1⟩
def unh (a : Addr) : Sem Value := do rule "hash.unhashable"; raiseError "TypeError" s!"unhashable type: '{← typeNameOf (.ref a)}'"
def storing (d : Addr) (vs : List (Value × Value)) : Sem PUnit := forIn vs PUnit.unit fun (x : Value × Value) (_ : PUnit) => (do dictSet d x.1 x.2; pure (ForInStep.yield PUnit.unit) : Sem (ForInStep PUnit))
section
variable {p : Program} {w : World} {n₀ : Nat} {ann : Option Value} {code : Code} {q : Pos} {pos : Pos} {F : Obj → Nat → SharedT} {d : Addr}
structure Fam (n₀ : Nat) (d : Addr) (F : Obj → Nat → SharedT) : Prop where
  le : Nat.ble n₀ d = true
  get : ∀ es ep tk, (F (dObj es ep) tk).abs.heap.get? d = some (dObj es ep)
  upd : ∀ es ep tk (e : DictEntry), ({ (F (dObj es ep) tk).abs with heap := (F (dObj es ep) tk).abs.heap.update d (Obj.mapDictKeys (·.push e)) } : Shared) = (F (dObj (es.push e) (ep + 1)) tk).abs
def foldHash (acc : Nat) : Int := if acc == 2 ^ 64 - 1 then 1546275796 else if acc < 2 ^ 63 then acc else (acc : Int) - (2 ^ 64 : Nat)
end
end TJ
namespace TJ
theorem leftO_by {p q : Program} {loose : List Str} {Xt : Shared → Bool} {α : Type} {Yf : Shared → α} {Ya : World → α} {N : Nat} {H₀ : Params → Heap} {gs₀ : Array GenState} {d₀ : Drawn} {k₀ m₀ : Nat} {ann : Option Value} {S : World → OsState → Shared}
    (opens : ∀ w : World, (fencedOpening treeTable p w N).map (fun s => (s.heap, s.gens, s.drawn, s.toks)) = some (H₀ w.params, gs₀, d₀, k₀))
    (sizes : ∀ w : World, (((H₀ w.params).isNs mainGlobals && gs₀.size == 0), (H₀ w.params).objs.size, (H₀ w.params).nsMap mainGlobals "__annotations__") = (true, m₀, ann))
    (runs : ∀ (w : World) (os : OsState), ∃ M, M ≤ N ∧ topRun treeTable p w m₀ ann M ⟨H₀ w.params, gs₀, d₀, k₀, os⟩ (topStub p) = some (S w os))
    (looks1 : ∀ (w : World) (os : OsState), (staticsOk (importedModules p.main.body) (H₀ w.params) (S w os).heap && namesBound p (S w os).heap && gensDone (S w os) && laidKept (H₀ w.params) (S w os).heap) = true)
    (looks2 : ∀ (w : World) (os : OsState), openSeen q loose (importedModules p.main.body) Xt true (S w os) = openGood q loose) (looks3 : ∀ (w : World) (os : OsState), Yf (S w os) = Ya w) : LeftO p q loose Xt Yf Ya N := by
  intro w
  obtain ⟨⟨h, gs, dr, k, os⟩, e, e'⟩ := Option.map_eq_some_iff.mp (opens w)
  simp only [Prod.mk.injEq] at e'
  obtain ⟨rfl, rfl, rfl, rfl⟩ := e'
  have z := sizes w
  simp only [Prod.mk.injEq] at z
  obtain ⟨z1, z2, z3⟩ := z
  obtain ⟨M, hM, r⟩ := runs w os
  have r := topRun_mono (N - M) _ _ _ _ r
  rw [Nat.add_sub_cancel' hM] at r
  have t : topFrom treeTable p w N ⟨H₀ w.params, gs, dr, k, os⟩ = some (S w os) := by
    unfold topFrom
    dsimp only
    rw [z1, z2, z3, r]
    show (match (staticsOk (importedModules p.main.body) (H₀ w.params) (S w os).heap && namesBound p (S w os).heap && gensDone (S w os) && laidKept (H₀ w.params) (S w os).heap) with | true => some (S w os) | false => none) = _
    rw [looks1 w os]
  unfold openEnds
  rw [e]
  show (topFrom treeTable p w N _).map _ = _
  rw [t]
  show some (_, _) = some (_, _)
  rw [looks2 w os, looks3 w os]
end TJ
set_option Elab.async false
set_option linter.all false
set_option maxRecDepth 100000
set_option maxHeartbeats 0
namespace K20
open PySem PySem.W PyProof.Rows TJ L2
abbrev PX : Program := PySem.Challenge.pw_talejudge_k20_regular_and_safe
noncomputable abbrev annX : Option Value := some (.ref 6)
noncomputable abbrev cdX : Code := .body (behindTheImports PX) K20.pre.env_1
noncomputable abbrev qX : Pos := ⟨0, 0, 0, 0⟩
noncomputable abbrev BX : List Frame := [topFrame qX]
noncomputable def sufX : List Stmt := (behindTheImports PX).drop 33
theorem bodyX : behindTheImports PX = K20.pre.sts_7 ++ (K20.pre.sts_26 ++ (K20.pre.sts_70 ++ (K20.pre.sts_152 ++ sufX))) := by kernel_rfl
noncomputable abbrev p3X : Pos := ⟨166, 0, 179, 16⟩
noncomputable abbrev S2X (w : World) (os : OsState) : SharedT := ⟨K20.pre.tree_211 w.params, 197, {}, ⟨[]⟩, {}, 463, os⟩
noncomputable abbrev pLX : Pos := ⟨180, 0, 195, 30⟩
noncomputable def R3X (w : World) (os : OsState) : Option (Flow × SharedT × Code × Pos) := PySem.W.Fast.tw10110043849684766642 PySem.W.Fast.tw14364793385576792824 PX w 11 annX 1 46 (S2X w os) ⟨(PySem.W.Fast.tw12563942051412417395 sufX K20.pre.env_1).wrap doneF deadEnd id id, cdX, p3X, BX⟩
noncomputable def S3X (w : World) (os : OsState) : SharedT := match R3X w os with | some r => r.2.1 | none => S2X w os
theorem R3X_eq (w : World) (os : OsState) : R3X w os = some (.next, S3X w os, cdX, pLX) := by kernel_rfl
theorem suf_run (w : World) (os : OsState) : segRun treeTable PX w 11 annX 1 46 (S2X w os).abs (piecesOf sufX K20.pre.env_1 cdX p3X BX) = some (.next, (S3X w os).abs, cdX, pLX) := by
  have e := R3X_eq w os
  unfold R3X at e
  rw [← PySem.W.Fast.te10110043849684766642, ← PySem.W.Fast.te14364793385576792824, ← PySem.W.Fast.te12563942051412417395] at e
  exact segRun_of e
noncomputable def S0X (w : World) (os : OsState) : SharedT := ⟨K20.pre.tree_6 w.params, 15, {}, ⟨[]⟩, {}, 187, os⟩
theorem pre_go (w : World) (os : OsState) : topGo treeTable PX w 11 annX 12 ⟨boot_heap w.params, Array.mk [], boot_drawn, boot_toks, os⟩ (topStub PX) = some ((S0X w os).abs, ⟨denote treeTable cdX, cdX, qX, BX⟩) := by
  rw [PySem.W.Fast.te15667345088766844465, PySem.W.Fast.te14364793385576792824, PySem.W.Fast.te11892475500146522536]
  kernel_rfl
theorem runX_all (w : World) (os : OsState) : ∃ M, M ≤ 200000 ∧ topRun treeTable PX w 11 annX M ⟨boot_heap w.params, Array.mk [], boot_drawn, boot_toks, os⟩ (topStub PX) = some (S3X w os).abs := by
  have f1 : topRun treeTable PX w 11 annX 2 (S3X w os).abs (restOf [] K20.pre.env_1 cdX pLX BX) = some (S3X w os).abs := rfl
  have f2 := piece_app (suf_run w os) f1
  rw [List.append_nil] at f2
  have f4 := K20.pre.chain PX (behindTheImports PX) w os _ _ _ f2
  rw [← bodyX] at f4
  have b1 : segRun treeTable PX w 11 annX 1 1 (S0X w os).abs (blockOf (behindTheImports PX) K20.pre.env_1 cdX qX BX) = some (.next, (S0X w os).abs, cdX, qX) := rfl
  have f5 := piece_block b1 f4
  have f6 := go_top (pre_go w os) f5
  refine ⟨_, ?_, f6⟩
  simp only [Nat.add_eq]
  omega
noncomputable def looseX : List Str := [("TaleError" : Str), ("NotPlain" : Str), ("is_whole" : Str), ("deeds" : Str), ("FIRST_WRITE" : Str), ("plain_deeds" : Str), ("are_plain" : Str), ("is_answered" : Str), ("writers" : Str), ("ended_reads" : Str), ("lone_writer_deeds" : Str), ("is_regular" : Str), ("is_safe" : Str), ("writes_beside" : Str), ("last_ahead" : Str), ("_law_cell_at" : Str), ("_law_stream" : Str), ("_law_take" : Str), ("_law_worth" : Str), ("_law_name" : Str), ("_law_fresh" : Str), ("_law_answer" : Str), ("_law_events" : Str), ("_law_tale" : Str), ("_law_deeds" : Str), ("_law_last" : Str), ("_law_beside" : Str)]
noncomputable def viewX : Program := { PX with main := { PX.main with body := (PX.main.body[33]?).toList } }
noncomputable def top (i : Nat) : Stmt := PX.main.body.getD i (.Pass ⟨0, 0, 0, 0⟩)
noncomputable def asX : List Addr := [3, 11, 13, 15, 17, 18, 20, 22, 23, 24, 28, 30, 31, 33, 35, 36, 37, 40, 42, 43, 45, 46, 47, 49, 50, 52, 53, 54, 55, 58, 59, 60, 63, 64, 65, 67, 68, 70, 71, 72, 74, 75, 77, 78, 79, 82, 83, 84, 87, 88, 89, 91, 92, 94, 95, 96, 98, 99, 101, 102, 103, 106, 107, 108, 111, 112, 113, 115, 116, 118, 119, 120, 122, 123, 125, 126, 127, 129, 130, 132, 133, 134, 136, 137, 139, 140, 141, 143, 144, 146, 147, 148, 150, 151, 153, 154, 155, 157, 158, 160, 161, 162, 164, 165, 167, 168, 169, 171, 172, 174, 175, 176, 178, 179, 181, 182, 183, 185, 186, 188, 189, 190, 192, 193, 195, 196, 197, 200, 201]
noncomputable def KX (P : Params) : Frag := [
  (3, ⟨(.type "dict"), none, (.dict #[⟨(PyData.keyHash P "__name__"), (.str "__name__" 165), (.str "law_talejudge_k20_regular_and_safe" 330)⟩, ⟨(PyData.keyHash P "__doc__"), (.str "__doc__" 166), .none⟩, ⟨(PyData.keyHash P "__package__"), (.str "__package__" 167), .none⟩, ⟨(PyData.keyHash P "__loader__"), (.str "__loader__" 168), (.builtin "__main__.__loader__#opaque")⟩, ⟨(PyData.keyHash P "__spec__"), (.str "__spec__" 169), .none⟩, ⟨(PyData.keyHash P "__annotations__"), (.str "__annotations__" 170), (.ref 6)⟩, ⟨(PyData.keyHash P "__builtins__"), (.str "__builtins__" 171), (.ref 4)⟩, ⟨(PyData.keyHash P "__file__"), (.str "__file__" 173), (.str "/claim/cut.py" 172)⟩, ⟨(PyData.keyHash P "__cached__"), (.str "__cached__" 174), .none⟩, ⟨(PyData.keyHash P "TaleError"), (.str "TaleError" 206), (.ref 24)⟩, ⟨(PyData.keyHash P "NotPlain"), (.str "NotPlain" 222), (.ref 37)⟩, ⟨(PyData.keyHash P "is_whole"), (.str "is_whole" 231), (.ref 46)⟩, ⟨(PyData.keyHash P "deeds"), (.str "deeds" 246), (.ref 53)⟩, ⟨(PyData.keyHash P "FIRST_WRITE"), (.str "FIRST_WRITE" 253), (.ref 54)⟩, ⟨(PyData.keyHash P "plain_deeds"), (.str "plain_deeds" 259), (.ref 59)⟩, ⟨(PyData.keyHash P "are_plain"), (.str "are_plain" 265), (.ref 64)⟩, ⟨(PyData.keyHash P "is_answered"), (.str "is_answered" 272), (.ref 71)⟩, ⟨(PyData.keyHash P "writers"), (.str "writers" 281), (.ref 78)⟩, ⟨(PyData.keyHash P "ended_reads"), (.str "ended_reads" 287), (.ref 83)⟩, ⟨(PyData.keyHash P "lone_writer_deeds"), (.str "lone_writer_deeds" 295), (.ref 88)⟩, ⟨(PyData.keyHash P "is_regular"), (.str "is_regular" 306), (.ref 95)⟩, ⟨(PyData.keyHash P "is_safe"), (.str "is_safe" 317), (.ref 102)⟩, ⟨(PyData.keyHash P "writes_beside"), (.str "writes_beside" 323), (.ref 107)⟩, ⟨(PyData.keyHash P "last_ahead"), (.str "last_ahead" 329), (.ref 112)⟩, ⟨(PyData.keyHash P "_law_cell_at"), (.str "_law_cell_at" 339), (.ref 119)⟩, ⟨(PyData.keyHash P "_law_stream"), (.str "_law_stream" 348), (.ref 126)⟩, ⟨(PyData.keyHash P "_law_take"), (.str "_law_take" 357), (.ref 133)⟩, ⟨(PyData.keyHash P "_law_worth"), (.str "_law_worth" 365), (.ref 140)⟩, ⟨(PyData.keyHash P "_law_name"), (.str "_law_name" 375), (.ref 147)⟩, ⟨(PyData.keyHash P "_law_fresh"), (.str "_law_fresh" 384), (.ref 154)⟩, ⟨(PyData.keyHash P "_law_answer"), (.str "_law_answer" 394), (.ref 161)⟩, ⟨(PyData.keyHash P "_law_events"), (.str "_law_events" 414), (.ref 168)⟩, ⟨(PyData.keyHash P "_law_tale"), (.str "_law_tale" 425), (.ref 175)⟩, ⟨(PyData.keyHash P "_law_deeds"), (.str "_law_deeds" 437), (.ref 182)⟩, ⟨(PyData.keyHash P "_law_last"), (.str "_law_last" 449), (.ref 189)⟩, ⟨(PyData.keyHash P "_law_beside"), (.str "_law_beside" 462), (.ref 196)⟩, ⟨(PyData.keyHash P "law"), (.str "law" 468), (.ref 201)⟩] 37), #[]⟩),
  (11, ⟨(.type "tuple"), none, (.seq #[] 0), #[]⟩),
  (13, ⟨(.type "code"), none, (.fields #[(.str "<module>" 182), (.str "<module>" 183), (.str "/claim/cut.py" 184), (.int (1) 0), (.int (0) 0), (.int (0) 0), (.int (0) 0), (.int (0) 0), (.ref 11), (.bool false), (.int (181) 0), (.ref 12), .none, .none, .none, .none, (.int (185) 0), (.int (1) 0), (.str "/claim/cut.py" 186)]), #[]⟩),
  (15, ⟨(.type "tuple"), none, (.seq #[(.type "ValueError")] 0), #[]⟩),
  (17, ⟨(.type "dict"), none, (.dict #[⟨(PyData.keyHash P "__module__"), (.str "__module__" 196), (.str "talejudge.errors" 187)⟩, ⟨(PyData.keyHash P "__qualname__"), (.str "__qualname__" 198), (.str "TaleError" 197)⟩, ⟨(PyData.keyHash P "__firstlineno__"), (.str "__firstlineno__" 200), (.int (2) 199)⟩, ⟨(PyData.keyHash P "__static_attributes__"), (.str "__static_attributes__" 201), (.ref 22)⟩] 4), #[]⟩),
  (18, ⟨(.type "tuple"), none, (.seq #[] 0), #[]⟩),
  (20, ⟨(.type "code"), none, (.fields #[(.str "TaleError" 191), (.str "TaleError" 192), (.str "/claim/cut.py" 193), (.int (2) 0), (.int (0) 0), (.int (0) 0), (.int (0) 0), (.int (0) 0), (.ref 18), (.bool false), (.int (181) 0), (.ref 19), .none, .none, .none, .none, (.int (194) 0), (.int (2) 0), (.str "/claim/cut.py" 195)]), #[]⟩),
  (22, ⟨(.type "tuple"), none, (.seq #[] 0), #[]⟩),
  (23, ⟨(.type "dict"), none, (.dict #[⟨(PyData.keyHash P "__module__"), (.str "__module__" 196), (.str "talejudge.errors" 187)⟩, ⟨(PyData.keyHash P "__firstlineno__"), (.str "__firstlineno__" 200), (.int (2) 199)⟩, ⟨(PyData.keyHash P "__static_attributes__"), (.str "__static_attributes__" 201), (.ref 22)⟩, ⟨(PyData.keyHash P "__weakref__"), (.str "__weakref__" 203), (.ref 25)⟩, ⟨(PyData.keyHash P "__doc__"), (.str "__doc__" 204), .none⟩] 3), #[]⟩),
  (24, ⟨(.type "type"), none, (.cls ⟨"TaleError", [(.type "ValueError")], [(.ref 24), (.type "ValueError"), (.type "Exception"), (.type "BaseException"), (.type "object")], 23, "TaleError", true, [], [(.ref 37)], false, none, false⟩), #[some (.ref 15), none, some (.str "TaleError" 189), some (.str "TaleError" 197), some (.builtin "ValueError.__new__"), some (.bool true)]⟩),
  (28, ⟨(.type "tuple"), none, (.seq #[(.ref 24)] 0), #[]⟩),
  (30, ⟨(.type "dict"), none, (.dict #[⟨(PyData.keyHash P "__module__"), (.str "__module__" 214), (.str "talejudge.errors" 187)⟩, ⟨(PyData.keyHash P "__qualname__"), (.str "__qualname__" 216), (.str "NotPlain" 215)⟩, ⟨(PyData.keyHash P "__firstlineno__"), (.str "__firstlineno__" 218), (.int (4) 217)⟩, ⟨(PyData.keyHash P "__static_attributes__"), (.str "__static_attributes__" 219), (.ref 35)⟩] 4), #[]⟩),
  (31, ⟨(.type "tuple"), none, (.seq #[] 0), #[]⟩),
  (33, ⟨(.type "code"), none, (.fields #[(.str "NotPlain" 209), (.str "NotPlain" 210), (.str "/claim/cut.py" 211), (.int (4) 0), (.int (0) 0), (.int (0) 0), (.int (0) 0), (.int (0) 0), (.ref 31), (.bool false), (.int (181) 0), (.ref 32), .none, .none, .none, .none, (.int (212) 0), (.int (4) 0), (.str "/claim/cut.py" 213)]), #[]⟩),
  (35, ⟨(.type "tuple"), none, (.seq #[] 0), #[]⟩),
  (36, ⟨(.type "dict"), none, (.dict #[⟨(PyData.keyHash P "__module__"), (.str "__module__" 214), (.str "talejudge.errors" 187)⟩, ⟨(PyData.keyHash P "__firstlineno__"), (.str "__firstlineno__" 218), (.int (4) 217)⟩, ⟨(PyData.keyHash P "__static_attributes__"), (.str "__static_attributes__" 219), (.ref 35)⟩, ⟨(PyData.keyHash P "__doc__"), (.str "__doc__" 220), .none⟩] 2), #[]⟩),
  (37, ⟨(.type "type"), none, (.cls ⟨"NotPlain", [(.ref 24)], [(.ref 37), (.ref 24), (.type "ValueError"), (.type "Exception"), (.type "BaseException"), (.type "object")], 36, "NotPlain", true, [], [], false, none, false⟩), #[some (.ref 28), none, some (.str "NotPlain" 207), some (.str "NotPlain" 215), some (.builtin "ValueError.__new__"), some (.bool true)]⟩),
  (40, ⟨(.type "tuple"), none, (.seq #[] 0), #[]⟩),
  (42, ⟨(.type "tuple"), none, (.seq #[(.str "value" 228)] 0), #[]⟩),
  (43, ⟨(.type "tuple"), none, (.seq #[] 0), #[]⟩),
  (45, ⟨(.type "code"), none, (.fields #[(.str "is_whole" 225), (.str "is_whole" 226), (.str "/claim/cut.py" 227), (.int (7) 0), (.int (1) 0), (.int (0) 0), (.int (0) 0), (.int (3) 0), (.ref 40), (.bool true), (.int (181) 0), (.ref 41), .none, (.ref 42), (.ref 43), (.ref 44), (.int (229) 0), (.int (7) 0), (.str "/claim/cut.py" 230)]), #[]⟩),
  (46, ⟨(.type "function"), none, (.func (PySem.W.fnOf "is_whole" "is_whole" (defArgs (top 4)) (defBody (top 4)) (defScope (top 4)) .none .none .none (.str "talejudge.basics" 223) none (.ref 45) .none)), #[]⟩),
  (47, ⟨(.type "tuple"), none, (.seq #[] 0), #[]⟩),
  (49, ⟨(.type "tuple"), none, (.seq #[(.str "tale" 237), (.str "told" 238), (.str "numbers" 239), (.str "place" 240), (.str "event" 241), (.str "number" 242), (.str "begun" 243)] 0), #[]⟩),
  (50, ⟨(.type "tuple"), none, (.seq #[] 0), #[]⟩),
  (52, ⟨(.type "code"), none, (.fields #[(.str "deeds" 234), (.str "deeds" 235), (.str "/claim/cut.py" 236), (.int (10) 0), (.int (1) 0), (.int (0) 0), (.int (0) 0), (.int (3) 0), (.ref 47), (.bool true), (.int (181) 0), (.ref 48), .none, (.ref 49), (.ref 50), (.ref 51), (.int (244) 0), (.int (10) 0), (.str "/claim/cut.py" 245)]), #[]⟩),
  (53, ⟨(.type "function"), none, (.func (PySem.W.fnOf "deeds" "deeds" (defArgs (top 6)) (defBody (top 6)) (defScope (top 6)) .none .none .none (.str "talejudge.tales" 232) none (.ref 52) .none)), #[]⟩),
  (54, ⟨(.type "tuple"), none, (.seq #[(.int (-2) 250), (.int (-1) 252)] 0), #[]⟩),
  (55, ⟨(.type "tuple"), none, (.seq #[] 0), #[]⟩),
  (58, ⟨(.type "code"), none, (.fields #[(.str "plain_deeds" 254), (.str "plain_deeds" 255), (.str "/claim/cut.py" 256), (.int (24) 0), (.int (1) 0), (.int (0) 0), (.int (0) 0), (.int (3) 0), (.ref 55), (.bool true), (.int (181) 0), (.ref 56), .none, .none, .none, (.ref 57), (.int (257) 0), (.int (24) 0), (.str "/claim/cut.py" 258)]), #[]⟩),
  (59, ⟨(.type "function"), none, (.func (PySem.W.fnOf "plain_deeds" "plain_deeds" (defArgs (top 9)) (defBody (top 9)) (defScope (top 9)) .none .none .none (.str "talejudge.zones" 247) none (.ref 58) .none)), #[]⟩),
  (60, ⟨(.type "tuple"), none, (.seq #[] 0), #[]⟩),
  (63, ⟨(.type "code"), none, (.fields #[(.str "are_plain" 260), (.str "are_plain" 261), (.str "/claim/cut.py" 262), (.int (29) 0), (.int (1) 0), (.int (0) 0), (.int (0) 0), (.int (3) 0), (.ref 60), (.bool true), (.int (181) 0), (.ref 61), .none, .none, .none, (.ref 62), (.int (263) 0), (.int (29) 0), (.str "/claim/cut.py" 264)]), #[]⟩),
  (64, ⟨(.type "function"), none, (.func (PySem.W.fnOf "are_plain" "are_plain" (defArgs (top 10)) (defBody (top 10)) (defScope (top 10)) .none .none .none (.str "talejudge.zones" 247) none (.ref 63) .none)), #[]⟩),
  (65, ⟨(.type "tuple"), none, (.seq #[] 0), #[]⟩),
  (67, ⟨(.type "tuple"), none, (.seq #[(.str "deed" 269)] 0), #[]⟩),
  (68, ⟨(.type "tuple"), none, (.seq #[] 0), #[]⟩),
  (70, ⟨(.type "code"), none, (.fields #[(.str "is_answered" 266), (.str "is_answered" 267), (.str "/claim/cut.py" 268), (.int (34) 0), (.int (1) 0), (.int (0) 0), (.int (0) 0), (.int (3) 0), (.ref 65), (.bool true), (.int (181) 0), (.ref 66), .none, (.ref 67), (.ref 68), (.ref 69), (.int (270) 0), (.int (34) 0), (.str "/claim/cut.py" 271)]), #[]⟩),
  (71, ⟨(.type "function"), none, (.func (PySem.W.fnOf "is_answered" "is_answered" (defArgs (top 11)) (defBody (top 11)) (defScope (top 11)) .none .none .none (.str "talejudge.zones" 247) none (.ref 70) .none)), #[]⟩),
  (72, ⟨(.type "tuple"), none, (.seq #[] 0), #[]⟩),
  (74, ⟨(.type "tuple"), none, (.seq #[(.str "told" 276), (.str "found" 277), (.str "deed" 278)] 0), #[]⟩),
  (75, ⟨(.type "tuple"), none, (.seq #[] 0), #[]⟩),
  (77, ⟨(.type "code"), none, (.fields #[(.str "writers" 273), (.str "writers" 274), (.str "/claim/cut.py" 275), (.int (38) 0), (.int (1) 0), (.int (0) 0), (.int (0) 0), (.int (3) 0), (.ref 72), (.bool true), (.int (181) 0), (.ref 73), .none, (.ref 74), (.ref 75), (.ref 76), (.int (279) 0), (.int (38) 0), (.str "/claim/cut.py" 280)]), #[]⟩),
  (78, ⟨(.type "function"), none, (.func (PySem.W.fnOf "writers" "writers" (defArgs (top 12)) (defBody (top 12)) (defScope (top 12)) .none .none .none (.str "talejudge.zones" 247) none (.ref 77) .none)), #[]⟩),
  (79, ⟨(.type "tuple"), none, (.seq #[] 0), #[]⟩),
  (82, ⟨(.type "code"), none, (.fields #[(.str "ended_reads" 282), (.str "ended_reads" 283), (.str "/claim/cut.py" 284), (.int (44) 0), (.int (1) 0), (.int (0) 0), (.int (0) 0), (.int (3) 0), (.ref 79), (.bool true), (.int (181) 0), (.ref 80), .none, .none, .none, (.ref 81), (.int (285) 0), (.int (44) 0), (.str "/claim/cut.py" 286)]), #[]⟩),
  (83, ⟨(.type "function"), none, (.func (PySem.W.fnOf "ended_reads" "ended_reads" (defArgs (top 13)) (defBody (top 13)) (defScope (top 13)) .none .none .none (.str "talejudge.zones" 247) none (.ref 82) .none)), #[]⟩),
  (84, ⟨(.type "tuple"), none, (.seq #[] 0), #[]⟩),
  (87, ⟨(.type "code"), none, (.fields #[(.str "lone_writer_deeds" 290), (.str "lone_writer_deeds" 291), (.str "/claim/cut.py" 292), (.int (47) 0), (.int (1) 0), (.int (0) 0), (.int (0) 0), (.int (3) 0), (.ref 84), (.bool true), (.int (181) 0), (.ref 85), .none, .none, .none, (.ref 86), (.int (293) 0), (.int (47) 0), (.str "/claim/cut.py" 294)]), #[]⟩),
  (88, ⟨(.type "function"), none, (.func (PySem.W.fnOf "lone_writer_deeds" "lone_writer_deeds" (defArgs (top 15)) (defBody (top 15)) (defScope (top 15)) .none .none .none (.str "talejudge.weaker" 288) none (.ref 87) .none)), #[]⟩),
  (89, ⟨(.type "tuple"), none, (.seq #[] 0), #[]⟩),
  (91, ⟨(.type "tuple"), none, (.seq #[(.str "tale" 299), (.str "told" 300), (.str "written" 301), (.str "number" 302), (.str "read" 303)] 0), #[]⟩),
  (92, ⟨(.type "tuple"), none, (.seq #[] 0), #[]⟩),
  (94, ⟨(.type "code"), none, (.fields #[(.str "is_regular" 296), (.str "is_regular" 297), (.str "/claim/cut.py" 298), (.int (52) 0), (.int (1) 0), (.int (0) 0), (.int (0) 0), (.int (3) 0), (.ref 89), (.bool true), (.int (181) 0), (.ref 90), .none, (.ref 91), (.ref 92), (.ref 93), (.int (304) 0), (.int (52) 0), (.str "/claim/cut.py" 305)]), #[]⟩),
  (95, ⟨(.type "function"), none, (.func (PySem.W.fnOf "is_regular" "is_regular" (defArgs (top 16)) (defBody (top 16)) (defScope (top 16)) .none .none .none (.str "talejudge.weaker" 288) none (.ref 94) .none)), #[]⟩),
  (96, ⟨(.type "tuple"), none, (.seq #[] 0), #[]⟩),
  (98, ⟨(.type "tuple"), none, (.seq #[(.str "tale" 310), (.str "told" 311), (.str "written" 312), (.str "number" 313), (.str "read" 314)] 0), #[]⟩),
  (99, ⟨(.type "tuple"), none, (.seq #[] 0), #[]⟩),
  (101, ⟨(.type "code"), none, (.fields #[(.str "is_safe" 307), (.str "is_safe" 308), (.str "/claim/cut.py" 309), (.int (59) 0), (.int (1) 0), (.int (0) 0), (.int (0) 0), (.int (3) 0), (.ref 96), (.bool true), (.int (181) 0), (.ref 97), .none, (.ref 98), (.ref 99), (.ref 100), (.int (315) 0), (.int (59) 0), (.str "/claim/cut.py" 316)]), #[]⟩),
  (102, ⟨(.type "function"), none, (.func (PySem.W.fnOf "is_safe" "is_safe" (defArgs (top 17)) (defBody (top 17)) (defScope (top 17)) .none .none .none (.str "talejudge.weaker" 288) none (.ref 101) .none)), #[]⟩),
  (103, ⟨(.type "tuple"), none, (.seq #[] 0), #[]⟩),
  (106, ⟨(.type "code"), none, (.fields #[(.str "writes_beside" 318), (.str "writes_beside" 319), (.str "/claim/cut.py" 320), (.int (66) 0), (.int (2) 0), (.int (0) 0), (.int (0) 0), (.int (3) 0), (.ref 103), (.bool true), (.int (181) 0), (.ref 104), .none, .none, .none, (.ref 105), (.int (321) 0), (.int (66) 0), (.str "/claim/cut.py" 322)]), #[]⟩),
  (107, ⟨(.type "function"), none, (.func (PySem.W.fnOf "writes_beside" "writes_beside" (defArgs (top 18)) (defBody (top 18)) (defScope (top 18)) .none .none .none (.str "talejudge.weaker" 288) none (.ref 106) .none)), #[]⟩),
  (108, ⟨(.type "tuple"), none, (.seq #[] 0), #[]⟩),
  (111, ⟨(.type "code"), none, (.fields #[(.str "last_ahead" 324), (.str "last_ahead" 325), (.str "/claim/cut.py" 326), (.int (69) 0), (.int (2) 0), (.int (0) 0), (.int (0) 0), (.int (3) 0), (.ref 108), (.bool true), (.int (181) 0), (.ref 109), .none, .none, .none, (.ref 110), (.int (327) 0), (.int (69) 0), (.str "/claim/cut.py" 328)]), #[]⟩),
  (112, ⟨(.type "function"), none, (.func (PySem.W.fnOf "last_ahead" "last_ahead" (defArgs (top 19)) (defBody (top 19)) (defScope (top 19)) .none .none .none (.str "talejudge.weaker" 288) none (.ref 111) .none)), #[]⟩),
  (113, ⟨(.type "tuple"), none, (.seq #[] 0), #[]⟩),
  (115, ⟨(.type "tuple"), none, (.seq #[(.str "script" 335), (.str "k" 336)] 0), #[]⟩),
  (116, ⟨(.type "tuple"), none, (.seq #[] 0), #[]⟩),
  (118, ⟨(.type "code"), none, (.fields #[(.str "_law_cell_at" 332), (.str "_law_cell_at" 333), (.str "/claim/cut.py" 334), (.int (72) 0), (.int (2) 0), (.int (0) 0), (.int (0) 0), (.int (3) 0), (.ref 113), (.bool true), (.int (181) 0), (.ref 114), .none, (.ref 115), (.ref 116), (.ref 117), (.int (337) 0), (.int (72) 0), (.str "/claim/cut.py" 338)]), #[]⟩),
  (119, ⟨(.type "function"), none, (.func (PySem.W.fnOf "_law_cell_at" "_law_cell_at" (defArgs (top 21)) (defBody (top 21)) (defScope (top 21)) .none .none .none (.str "law_talejudge_k20_regular_and_safe" 330) none (.ref 118) .none)), #[]⟩),
  (120, ⟨(.type "tuple"), none, (.seq #[] 0), #[]⟩),
  (122, ⟨(.type "tuple"), none, (.seq #[(.str "cell" 343), (.str "way" 344), (.str "low" 345)] 0), #[]⟩),
  (123, ⟨(.type "tuple"), none, (.seq #[] 0), #[]⟩),
  (125, ⟨(.type "code"), none, (.fields #[(.str "_law_stream" 340), (.str "_law_stream" 341), (.str "/claim/cut.py" 342), (.int (76) 0), (.int (2) 0), (.int (0) 0), (.int (0) 0), (.int (3) 0), (.ref 120), (.bool true), (.int (181) 0), (.ref 121), .none, (.ref 122), (.ref 123), (.ref 124), (.int (346) 0), (.int (76) 0), (.str "/claim/cut.py" 347)]), #[]⟩),
  (126, ⟨(.type "function"), none, (.func (PySem.W.fnOf "_law_stream" "_law_stream" (defArgs (top 22)) (defBody (top 22)) (defScope (top 22)) .none .none .none (.str "law_talejudge_k20_regular_and_safe" 330) none (.ref 125) .none)), #[]⟩),
  (127, ⟨(.type "tuple"), none, (.seq #[] 0), #[]⟩),
  (129, ⟨(.type "tuple"), none, (.seq #[(.str "row" 352), (.str "many" 353), (.str "told" 354)] 0), #[]⟩),
  (130, ⟨(.type "tuple"), none, (.seq #[] 0), #[]⟩),
  (132, ⟨(.type "code"), none, (.fields #[(.str "_law_take" 349), (.str "_law_take" 350), (.str "/claim/cut.py" 351), (.int (79) 0), (.int (2) 0), (.int (0) 0), (.int (0) 0), (.int (3) 0), (.ref 127), (.bool true), (.int (181) 0), (.ref 128), .none, (.ref 129), (.ref 130), (.ref 131), (.int (355) 0), (.int (79) 0), (.str "/claim/cut.py" 356)]), #[]⟩),
  (133, ⟨(.type "function"), none, (.func (PySem.W.fnOf "_law_take" "_law_take" (defArgs (top 23)) (defBody (top 23)) (defScope (top 23)) .none .none .none (.str "law_talejudge_k20_regular_and_safe" 330) none (.ref 132) .none)), #[]⟩),
  (134, ⟨(.type "tuple"), none, (.seq #[] 0), #[]⟩),
  (136, ⟨(.type "tuple"), none, (.seq #[(.str "row" 361), (.str "kind" 362)] 0), #[]⟩),
  (137, ⟨(.type "tuple"), none, (.seq #[] 0), #[]⟩),
  (139, ⟨(.type "code"), none, (.fields #[(.str "_law_worth" 358), (.str "_law_worth" 359), (.str "/claim/cut.py" 360), (.int (86) 0), (.int (1) 0), (.int (0) 0), (.int (0) 0), (.int (3) 0), (.ref 134), (.bool true), (.int (181) 0), (.ref 135), .none, (.ref 136), (.ref 137), (.ref 138), (.int (363) 0), (.int (86) 0), (.str "/claim/cut.py" 364)]), #[]⟩),
  (140, ⟨(.type "function"), none, (.func (PySem.W.fnOf "_law_worth" "_law_worth" (defArgs (top 24)) (defBody (top 24)) (defScope (top 24)) .none .none .none (.str "law_talejudge_k20_regular_and_safe" 330) none (.ref 139) .none)), #[]⟩),
  (141, ⟨(.type "tuple"), none, (.seq #[] 0), #[]⟩),
  (143, ⟨(.type "tuple"), none, (.seq #[(.str "row" 369), (.str "letters" 370), (.str "name" 371), (.str "k" 372)] 0), #[]⟩),
  (144, ⟨(.type "tuple"), none, (.seq #[] 0), #[]⟩),
  (146, ⟨(.type "code"), none, (.fields #[(.str "_law_name" 366), (.str "_law_name" 367), (.str "/claim/cut.py" 368), (.int (93) 0), (.int (1) 0), (.int (0) 0), (.int (0) 0), (.int (3) 0), (.ref 141), (.bool true), (.int (181) 0), (.ref 142), .none, (.ref 143), (.ref 144), (.ref 145), (.int (373) 0), (.int (93) 0), (.str "/claim/cut.py" 374)]), #[]⟩),
  (147, ⟨(.type "function"), none, (.func (PySem.W.fnOf "_law_name" "_law_name" (defArgs (top 25)) (defBody (top 25)) (defScope (top 25)) .none .none .none (.str "law_talejudge_k20_regular_and_safe" 330) none (.ref 146) .none)), #[]⟩),
  (148, ⟨(.type "tuple"), none, (.seq #[] 0), #[]⟩),
  (150, ⟨(.type "tuple"), none, (.seq #[(.str "row" 379), (.str "used" 380), (.str "worth" 381)] 0), #[]⟩),
  (151, ⟨(.type "tuple"), none, (.seq #[] 0), #[]⟩),
  (153, ⟨(.type "code"), none, (.fields #[(.str "_law_fresh" 376), (.str "_law_fresh" 377), (.str "/claim/cut.py" 378), (.int (99) 0), (.int (2) 0), (.int (0) 0), (.int (0) 0), (.int (3) 0), (.ref 148), (.bool true), (.int (181) 0), (.ref 149), .none, (.ref 150), (.ref 151), (.ref 152), (.int (382) 0), (.int (99) 0), (.str "/claim/cut.py" 383)]), #[]⟩),
  (154, ⟨(.type "function"), none, (.func (PySem.W.fnOf "_law_fresh" "_law_fresh" (defArgs (top 26)) (defBody (top 26)) (defScope (top 26)) .none .none .none (.str "law_talejudge_k20_regular_and_safe" 330) none (.ref 153) .none)), #[]⟩),
  (155, ⟨(.type "tuple"), none, (.seq #[] 0), #[]⟩),
  (157, ⟨(.type "tuple"), none, (.seq #[(.str "row" 388), (.str "worths" 389), (.str "kind" 390), (.str "back" 391)] 0), #[]⟩),
  (158, ⟨(.type "tuple"), none, (.seq #[] 0), #[]⟩),
  (160, ⟨(.type "code"), none, (.fields #[(.str "_law_answer" 385), (.str "_law_answer" 386), (.str "/claim/cut.py" 387), (.int (107) 0), (.int (2) 0), (.int (0) 0), (.int (0) 0), (.int (3) 0), (.ref 155), (.bool true), (.int (181) 0), (.ref 156), .none, (.ref 157), (.ref 158), (.ref 159), (.int (392) 0), (.int (107) 0), (.str "/claim/cut.py" 393)]), #[]⟩),
  (161, ⟨(.type "function"), none, (.func (PySem.W.fnOf "_law_answer" "_law_answer" (defArgs (top 27)) (defBody (top 27)) (defScope (top 27)) .none .none .none (.str "law_talejudge_k20_regular_and_safe" 330) none (.ref 160) .none)), #[]⟩),
  (162, ⟨(.type "tuple"), none, (.seq #[] 0), #[]⟩),
  (164, ⟨(.type "tuple"), none, (.seq #[(.str "cells" 398), (.str "way" 399), (.str "head" 400), (.str "name" 401), (.str "hands" 402), (.str "writer" 403), (.str "used" 404), (.str "worths" 405), (.str "busy" 406), (.str "events" 407), (.str "cell" 408), (.str "row" 409), (.str "hand" 410), (.str "answer" 411)] 0), #[]⟩),
  (165, ⟨(.type "tuple"), none, (.seq #[] 0), #[]⟩),
  (167, ⟨(.type "code"), none, (.fields #[(.str "_law_events" 395), (.str "_law_events" 396), (.str "/claim/cut.py" 397), (.int (113) 0), (.int (4) 0), (.int (0) 0), (.int (0) 0), (.int (3) 0), (.ref 162), (.bool true), (.int (181) 0), (.ref 163), .none, (.ref 164), (.ref 165), (.ref 166), (.int (412) 0), (.int (113) 0), (.str "/claim/cut.py" 413)]), #[]⟩),
  (168, ⟨(.type "function"), none, (.func (PySem.W.fnOf "_law_events" "_law_events" (defArgs (top 28)) (defBody (top 28)) (defScope (top 28)) .none .none .none (.str "law_talejudge_k20_regular_and_safe" 330) none (.ref 167) .none)), #[]⟩),
  (169, ⟨(.type "tuple"), none, (.seq #[] 0), #[]⟩),
  (171, ⟨(.type "tuple"), none, (.seq #[(.str "script" 418), (.str "most" 419), (.str "first" 420), (.str "head" 421), (.str "name" 422)] 0), #[]⟩),
  (172, ⟨(.type "tuple"), none, (.seq #[] 0), #[]⟩),
  (174, ⟨(.type "code"), none, (.fields #[(.str "_law_tale" 415), (.str "_law_tale" 416), (.str "/claim/cut.py" 417), (.int (136) 0), (.int (2) 0), (.int (0) 0), (.int (0) 0), (.int (3) 0), (.ref 169), (.bool true), (.int (181) 0), (.ref 170), .none, (.ref 171), (.ref 172), (.ref 173), (.int (423) 0), (.int (136) 0), (.str "/claim/cut.py" 424)]), #[]⟩),
  (175, ⟨(.type "function"), none, (.func (PySem.W.fnOf "_law_tale" "_law_tale" (defArgs (top 29)) (defBody (top 29)) (defScope (top 29)) .none .none .none (.str "law_talejudge_k20_regular_and_safe" 330) none (.ref 174) .none)), #[]⟩),
  (176, ⟨(.type "tuple"), none, (.seq #[] 0), #[]⟩),
  (178, ⟨(.type "tuple"), none, (.seq #[(.str "events" 429), (.str "found" 430), (.str "last" 431), (.str "place" 432), (.str "event" 433), (.str "deed" 434)] 0), #[]⟩),
  (179, ⟨(.type "tuple"), none, (.seq #[] 0), #[]⟩),
  (181, ⟨(.type "code"), none, (.fields #[(.str "_law_deeds" 426), (.str "_law_deeds" 427), (.str "/claim/cut.py" 428), (.int (141) 0), (.int (1) 0), (.int (0) 0), (.int (0) 0), (.int (3) 0), (.ref 176), (.bool true), (.int (181) 0), (.ref 177), .none, (.ref 178), (.ref 179), (.ref 180), (.int (435) 0), (.int (141) 0), (.str "/claim/cut.py" 436)]), #[]⟩),
  (182, ⟨(.type "function"), none, (.func (PySem.W.fnOf "_law_deeds" "_law_deeds" (defArgs (top 30)) (defBody (top 30)) (defScope (top 30)) .none .none .none (.str "law_talejudge_k20_regular_and_safe" 330) none (.ref 181) .none)), #[]⟩),
  (183, ⟨(.type "tuple"), none, (.seq #[] 0), #[]⟩),
  (185, ⟨(.type "tuple"), none, (.seq #[(.str "events" 441), (.str "begin" 442), (.str "worth" 443), (.str "open_one" 444), (.str "place" 445), (.str "event" 446)] 0), #[]⟩),
  (186, ⟨(.type "tuple"), none, (.seq #[] 0), #[]⟩),
  (188, ⟨(.type "code"), none, (.fields #[(.str "_law_last" 438), (.str "_law_last" 439), (.str "/claim/cut.py" 440), (.int (155) 0), (.int (2) 0), (.int (0) 0), (.int (0) 0), (.int (3) 0), (.ref 183), (.bool true), (.int (181) 0), (.ref 184), .none, (.ref 185), (.ref 186), (.ref 187), (.int (447) 0), (.int (155) 0), (.str "/claim/cut.py" 448)]), #[]⟩),
  (189, ⟨(.type "function"), none, (.func (PySem.W.fnOf "_law_last" "_law_last" (defArgs (top 31)) (defBody (top 31)) (defScope (top 31)) .none .none .none (.str "law_talejudge_k20_regular_and_safe" 330) none (.ref 188) .none)), #[]⟩),
  (190, ⟨(.type "tuple"), none, (.seq #[] 0), #[]⟩),
  (192, ⟨(.type "tuple"), none, (.seq #[(.str "events" 453), (.str "begin" 454), (.str "end" 455), (.str "found" 456), (.str "open_one" 457), (.str "place" 458), (.str "event" 459)] 0), #[]⟩),
  (193, ⟨(.type "tuple"), none, (.seq #[] 0), #[]⟩),
  (195, ⟨(.type "code"), none, (.fields #[(.str "_law_beside" 450), (.str "_law_beside" 451), (.str "/claim/cut.py" 452), (.int (166) 0), (.int (3) 0), (.int (0) 0), (.int (0) 0), (.int (3) 0), (.ref 190), (.bool true), (.int (181) 0), (.ref 191), .none, (.ref 192), (.ref 193), (.ref 194), (.int (460) 0), (.int (166) 0), (.str "/claim/cut.py" 461)]), #[]⟩),
  (196, ⟨(.type "function"), none, (.func (PySem.W.fnOf "_law_beside" "_law_beside" (defArgs (top 32)) (defBody (top 32)) (defScope (top 32)) .none .none .none (.str "law_talejudge_k20_regular_and_safe" 330) none (.ref 195) .none)), #[]⟩),
  (197, ⟨(.type "tuple"), none, (.seq #[] 0), #[]⟩),
  (200, ⟨(.type "code"), none, (.fields #[(.str "law" 463), (.str "law" 464), (.str "/claim/cut.py" 465), (.int (180) 0), (.int (1) 0), (.int (0) 0), (.int (0) 0), (.int (3) 0), (.ref 197), (.bool true), (.int (181) 0), (.ref 198), .none, .none, .none, (.ref 199), (.int (466) 0), (.int (180) 0), (.str "/claim/cut.py" 467)]), #[]⟩),
  (201, ⟨(.type "function"), none, (.func (PySem.W.fnOf "law" "law" (defArgs (top 33)) (defBody (top 33)) (defScope (top 33)) .none .none .none (.str "law_talejudge_k20_regular_and_safe" 330) none (.ref 200) .none)), #[]⟩)]
noncomputable def HX : Hook := kHook KX asX (fun _ => by kernel_rfl)
noncomputable abbrev XtX : Shared → Bool := fun s => xlAt viewX [] s && recOk (RowW.records (OpenRow.toRowW PySem.Challenge.rw_talejudge_k20_regular_and_safe.row)) s
theorem look1 (w : World) (os : OsState) : (staticsOk (importedModules PX.main.body) (boot_heap w.params) (S3X w os).abs.heap && namesBound PX (S3X w os).abs.heap && gensDone (S3X w os).abs && laidKept (boot_heap w.params) (S3X w os).abs.heap) = true := by kernel_rfl
theorem look2 (w : World) (os : OsState) : openSeen viewX looseX (importedModules PX.main.body) XtX true (S3X w os).abs = openGood viewX looseX := by
  rw [PySem.W.Fast.te4187177175401517315]
  kernel_rfl
theorem look3 (w : World) (os : OsState) : Hook.obs HX (S3X w os).abs = Hook.val HX w := by kernel_rfl
theorem leftX : LeftO PX viewX looseX XtX (Hook.obs HX) (Hook.val HX) 200000 :=
  leftO_by (H₀ := boot_heap) (gs₀ := Array.mk []) (boot_open (by kernel_rfl) (by decide) (fun s => rfl)) (fun w => by kernel_rfl) runX_all look1 look2 look3
end K20
set_option Elab.async false
set_option linter.all false
set_option maxRecDepth 100000
set_option maxHeartbeats 4000000
namespace K20
open PySem PySem.Spec PyProof.Rows TJ L2
theorem n_isinstance (P : Params) : PySem.W.nsIn (KX P) mainGlobals "isinstance" = some none := by kernel_rfl
theorem n_len (P : Params) : PySem.W.nsIn (KX P) mainGlobals "len" = some none := by kernel_rfl
theorem n_all (P : Params) : PySem.W.nsIn (KX P) mainGlobals "all" = some none := by kernel_rfl
theorem n_max (P : Params) : PySem.W.nsIn (KX P) mainGlobals "max" = some none := by kernel_rfl
theorem n_int (P : Params) : PySem.W.nsIn (KX P) mainGlobals "int" = some none := by kernel_rfl
theorem n_bool (P : Params) : PySem.W.nsIn (KX P) mainGlobals "bool" = some none := by kernel_rfl
theorem n_tuple (P : Params) : PySem.W.nsIn (KX P) mainGlobals "tuple" = some none := by kernel_rfl
theorem n_range (P : Params) : PySem.W.nsIn (KX P) mainGlobals "range" = some none := by kernel_rfl
theorem n_set (P : Params) : PySem.W.nsIn (KX P) mainGlobals "set" = some none := by kernel_rfl
theorem n_enumerate (P : Params) : PySem.W.nsIn (KX P) mainGlobals "enumerate" = some none := by kernel_rfl
theorem g_is_whole (P : Params) : PySem.W.nsIn (KX P) mainGlobals "is_whole" = some (some (.ref 46)) := by kernel_rfl
theorem g_deeds (P : Params) : PySem.W.nsIn (KX P) mainGlobals "deeds" = some (some (.ref 53)) := by kernel_rfl
theorem g_FIRST_WRITE (P : Params) : PySem.W.nsIn (KX P) mainGlobals "FIRST_WRITE" = some (some (.ref 54)) := by kernel_rfl
theorem g_plain_deeds (P : Params) : PySem.W.nsIn (KX P) mainGlobals "plain_deeds" = some (some (.ref 59)) := by kernel_rfl
theorem g_are_plain (P : Params) : PySem.W.nsIn (KX P) mainGlobals "are_plain" = some (some (.ref 64)) := by kernel_rfl
theorem g_is_answered (P : Params) : PySem.W.nsIn (KX P) mainGlobals "is_answered" = some (some (.ref 71)) := by kernel_rfl
theorem g_writers (P : Params) : PySem.W.nsIn (KX P) mainGlobals "writers" = some (some (.ref 78)) := by kernel_rfl
theorem g_ended_reads (P : Params) : PySem.W.nsIn (KX P) mainGlobals "ended_reads" = some (some (.ref 83)) := by kernel_rfl
theorem g_lone_writer_deeds (P : Params) : PySem.W.nsIn (KX P) mainGlobals "lone_writer_deeds" = some (some (.ref 88)) := by kernel_rfl
theorem g_is_regular (P : Params) : PySem.W.nsIn (KX P) mainGlobals "is_regular" = some (some (.ref 95)) := by kernel_rfl
theorem g_is_safe (P : Params) : PySem.W.nsIn (KX P) mainGlobals "is_safe" = some (some (.ref 102)) := by kernel_rfl
theorem g_writes_beside (P : Params) : PySem.W.nsIn (KX P) mainGlobals "writes_beside" = some (some (.ref 107)) := by kernel_rfl
theorem g_last_ahead (P : Params) : PySem.W.nsIn (KX P) mainGlobals "last_ahead" = some (some (.ref 112)) := by kernel_rfl
theorem g__law_cell_at (P : Params) : PySem.W.nsIn (KX P) mainGlobals "_law_cell_at" = some (some (.ref 119)) := by kernel_rfl
theorem g__law_stream (P : Params) : PySem.W.nsIn (KX P) mainGlobals "_law_stream" = some (some (.ref 126)) := by kernel_rfl
theorem g__law_take (P : Params) : PySem.W.nsIn (KX P) mainGlobals "_law_take" = some (some (.ref 133)) := by kernel_rfl
theorem g__law_worth (P : Params) : PySem.W.nsIn (KX P) mainGlobals "_law_worth" = some (some (.ref 140)) := by kernel_rfl
theorem g__law_name (P : Params) : PySem.W.nsIn (KX P) mainGlobals "_law_name" = some (some (.ref 147)) := by kernel_rfl
theorem g__law_fresh (P : Params) : PySem.W.nsIn (KX P) mainGlobals "_law_fresh" = some (some (.ref 154)) := by kernel_rfl
theorem g__law_answer (P : Params) : PySem.W.nsIn (KX P) mainGlobals "_law_answer" = some (some (.ref 161)) := by kernel_rfl
theorem g__law_events (P : Params) : PySem.W.nsIn (KX P) mainGlobals "_law_events" = some (some (.ref 168)) := by kernel_rfl
theorem g__law_tale (P : Params) : PySem.W.nsIn (KX P) mainGlobals "_law_tale" = some (some (.ref 175)) := by kernel_rfl
theorem g__law_deeds (P : Params) : PySem.W.nsIn (KX P) mainGlobals "_law_deeds" = some (some (.ref 182)) := by kernel_rfl
theorem g__law_last (P : Params) : PySem.W.nsIn (KX P) mainGlobals "_law_last" = some (some (.ref 189)) := by kernel_rfl
theorem g__law_beside (P : Params) : PySem.W.nsIn (KX P) mainGlobals "_law_beside" = some (some (.ref 196)) := by kernel_rfl
theorem g_law (P : Params) : PySem.W.nsIn (KX P) mainGlobals "law" = some (some (.ref 201)) := by kernel_rfl
noncomputable abbrev st_is_whole : Stmt := top 4
noncomputable abbrev fd_is_whole : FuncData := PySem.W.fnOf "is_whole" "is_whole" (defArgs (top 4)) (defBody (top 4)) (defScope (top 4)) .none .none .none (.str "talejudge.basics" 223) none (.ref 45) .none
theorem F_is_whole (P : Params) : Fun (KX P) "is_whole" "is_whole" st_is_whole 46 fd_is_whole := fun_mk (oc := .type "function") (od := none) (osl := #[]) (by kernel_rfl) (by kernel_rfl) (by kernel_rfl)
theorem b_is_whole (P : Params) : Binds (KX P) fd_is_whole ["value"] [] := (F_is_whole P).binds fun _ _ _ _ _ _ us hl => match us, hl with | [_], _ => rfl
theorem sc_is_whole : FnScope ["value"] ["value"] (defScope st_is_whole) := ⟨rfl, rfl, rfl, by decide +kernel, rfl, by decide +kernel, by decide +kernel⟩
theorem cal_is_whole {P : Program} {w : World} {mg : Str → Option Value} {base : Heap} {k : Nat} {sp : Sp} (T : TX (KX w.params) mg) (G : FnOk P w (KX w.params) mg base CX0 k 46 fd_is_whole ["value"] sp) : Cal P w (KX w.params) mg base "is_whole" ["value"] k sp := ⟨⟨_, _, G, T.of (g_is_whole _), by kernel_rfl, b_is_whole _⟩⟩
noncomputable abbrev st_deeds : Stmt := top 6
noncomputable abbrev fd_deeds : FuncData := PySem.W.fnOf "deeds" "deeds" (defArgs (top 6)) (defBody (top 6)) (defScope (top 6)) .none .none .none (.str "talejudge.tales" 232) none (.ref 52) .none
theorem F_deeds (P : Params) : Fun (KX P) "deeds" "deeds" st_deeds 53 fd_deeds := fun_mk (oc := .type "function") (od := none) (osl := #[]) (by kernel_rfl) (by kernel_rfl) (by kernel_rfl)
theorem b_deeds (P : Params) : Binds (KX P) fd_deeds ["tale"] [] := (F_deeds P).binds fun _ _ _ _ _ _ us hl => match us, hl with | [_], _ => rfl
theorem sc_deeds : FnScope ["tale", "told", "numbers", "place", "event", "number", "begun"] ["tale"] (defScope st_deeds) := ⟨rfl, rfl, rfl, by decide +kernel, rfl, by decide +kernel, by decide +kernel⟩
theorem cal_deeds {P : Program} {w : World} {mg : Str → Option Value} {base : Heap} {k : Nat} {sp : Sp} (T : TX (KX w.params) mg) (G : FnOk P w (KX w.params) mg base CX0 k 53 fd_deeds ["tale"] sp) : Cal P w (KX w.params) mg base "deeds" ["tale"] k sp := ⟨⟨_, _, G, T.of (g_deeds _), by kernel_rfl, b_deeds _⟩⟩
noncomputable abbrev st_plain_deeds : Stmt := top 9
noncomputable abbrev fd_plain_deeds : FuncData := PySem.W.fnOf "plain_deeds" "plain_deeds" (defArgs (top 9)) (defBody (top 9)) (defScope (top 9)) .none .none .none (.str "talejudge.zones" 247) none (.ref 58) .none
theorem F_plain_deeds (P : Params) : Fun (KX P) "plain_deeds" "plain_deeds" st_plain_deeds 59 fd_plain_deeds := fun_mk (oc := .type "function") (od := none) (osl := #[]) (by kernel_rfl) (by kernel_rfl) (by kernel_rfl)
theorem b_plain_deeds (P : Params) : Binds (KX P) fd_plain_deeds ["tale"] [] := (F_plain_deeds P).binds fun _ _ _ _ _ _ us hl => match us, hl with | [_], _ => rfl
theorem sc_plain_deeds : FnScope ["tale", "told"] ["tale"] (defScope st_plain_deeds) := ⟨rfl, rfl, rfl, by decide +kernel, rfl, by decide +kernel, by decide +kernel⟩
theorem cal_plain_deeds {P : Program} {w : World} {mg : Str → Option Value} {base : Heap} {k : Nat} {sp : Sp} (T : TX (KX w.params) mg) (G : FnOk P w (KX w.params) mg base CX0 k 59 fd_plain_deeds ["tale"] sp) : Cal P w (KX w.params) mg base "plain_deeds" ["tale"] k sp := ⟨⟨_, _, G, T.of (g_plain_deeds _), by kernel_rfl, b_plain_deeds _⟩⟩
noncomputable abbrev st_are_plain : Stmt := top 10
noncomputable abbrev fd_are_plain : FuncData := PySem.W.fnOf "are_plain" "are_plain" (defArgs (top 10)) (defBody (top 10)) (defScope (top 10)) .none .none .none (.str "talejudge.zones" 247) none (.ref 63) .none
theorem F_are_plain (P : Params) : Fun (KX P) "are_plain" "are_plain" st_are_plain 64 fd_are_plain := fun_mk (oc := .type "function") (od := none) (osl := #[]) (by kernel_rfl) (by kernel_rfl) (by kernel_rfl)
theorem b_are_plain (P : Params) : Binds (KX P) fd_are_plain ["told"] [] := (F_are_plain P).binds fun _ _ _ _ _ _ us hl => match us, hl with | [_], _ => rfl
theorem sc_are_plain : FnScope ["told", "worths"] ["told"] (defScope st_are_plain) := ⟨rfl, rfl, rfl, by decide +kernel, rfl, by decide +kernel, by decide +kernel⟩
theorem cal_are_plain {P : Program} {w : World} {mg : Str → Option Value} {base : Heap} {k : Nat} {sp : Sp} (T : TX (KX w.params) mg) (G : FnOk P w (KX w.params) mg base CX0 k 64 fd_are_plain ["told"] sp) : Cal P w (KX w.params) mg base "are_plain" ["told"] k sp := ⟨⟨_, _, G, T.of (g_are_plain _), by kernel_rfl, b_are_plain _⟩⟩
noncomputable abbrev st_is_answered : Stmt := top 11
noncomputable abbrev fd_is_answered : FuncData := PySem.W.fnOf "is_answered" "is_answered" (defArgs (top 11)) (defBody (top 11)) (defScope (top 11)) .none .none .none (.str "talejudge.zones" 247) none (.ref 70) .none
theorem F_is_answered (P : Params) : Fun (KX P) "is_answered" "is_answered" st_is_answered 71 fd_is_answered := fun_mk (oc := .type "function") (od := none) (osl := #[]) (by kernel_rfl) (by kernel_rfl) (by kernel_rfl)
theorem b_is_answered (P : Params) : Binds (KX P) fd_is_answered ["deed"] [] := (F_is_answered P).binds fun _ _ _ _ _ _ us hl => match us, hl with | [_], _ => rfl
theorem sc_is_answered : FnScope ["deed"] ["deed"] (defScope st_is_answered) := ⟨rfl, rfl, rfl, by decide +kernel, rfl, by decide +kernel, by decide +kernel⟩
theorem cal_is_answered {P : Program} {w : World} {mg : Str → Option Value} {base : Heap} {k : Nat} {sp : Sp} (T : TX (KX w.params) mg) (G : FnOk P w (KX w.params) mg base CX0 k 71 fd_is_answered ["deed"] sp) : Cal P w (KX w.params) mg base "is_answered" ["deed"] k sp := ⟨⟨_, _, G, T.of (g_is_answered _), by kernel_rfl, b_is_answered _⟩⟩
noncomputable abbrev st_writers : Stmt := top 12
noncomputable abbrev fd_writers : FuncData := PySem.W.fnOf "writers" "writers" (defArgs (top 12)) (defBody (top 12)) (defScope (top 12)) .none .none .none (.str "talejudge.zones" 247) none (.ref 77) .none
theorem F_writers (P : Params) : Fun (KX P) "writers" "writers" st_writers 78 fd_writers := fun_mk (oc := .type "function") (od := none) (osl := #[]) (by kernel_rfl) (by kernel_rfl) (by kernel_rfl)
theorem b_writers (P : Params) : Binds (KX P) fd_writers ["told"] [] := (F_writers P).binds fun _ _ _ _ _ _ us hl => match us, hl with | [_], _ => rfl
theorem sc_writers : FnScope ["told", "found", "deed"] ["told"] (defScope st_writers) := ⟨rfl, rfl, rfl, by decide +kernel, rfl, by decide +kernel, by decide +kernel⟩
theorem cal_writers {P : Program} {w : World} {mg : Str → Option Value} {base : Heap} {k : Nat} {sp : Sp} (T : TX (KX w.params) mg) (G : FnOk P w (KX w.params) mg base CX0 k 78 fd_writers ["told"] sp) : Cal P w (KX w.params) mg base "writers" ["told"] k sp := ⟨⟨_, _, G, T.of (g_writers _), by kernel_rfl, b_writers _⟩⟩
noncomputable abbrev st_ended_reads : Stmt := top 13
noncomputable abbrev fd_ended_reads : FuncData := PySem.W.fnOf "ended_reads" "ended_reads" (defArgs (top 13)) (defBody (top 13)) (defScope (top 13)) .none .none .none (.str "talejudge.zones" 247) none (.ref 82) .none
theorem F_ended_reads (P : Params) : Fun (KX P) "ended_reads" "ended_reads" st_ended_reads 83 fd_ended_reads := fun_mk (oc := .type "function") (od := none) (osl := #[]) (by kernel_rfl) (by kernel_rfl) (by kernel_rfl)
theorem b_ended_reads (P : Params) : Binds (KX P) fd_ended_reads ["told"] [] := (F_ended_reads P).binds fun _ _ _ _ _ _ us hl => match us, hl with | [_], _ => rfl
theorem sc_ended_reads : FnScope ["told"] ["told"] (defScope st_ended_reads) := ⟨rfl, rfl, rfl, by decide +kernel, rfl, by decide +kernel, by decide +kernel⟩
theorem cal_ended_reads {P : Program} {w : World} {mg : Str → Option Value} {base : Heap} {k : Nat} {sp : Sp} (T : TX (KX w.params) mg) (G : FnOk P w (KX w.params) mg base CX0 k 83 fd_ended_reads ["told"] sp) : Cal P w (KX w.params) mg base "ended_reads" ["told"] k sp := ⟨⟨_, _, G, T.of (g_ended_reads _), by kernel_rfl, b_ended_reads _⟩⟩
noncomputable abbrev st_lone_writer_deeds : Stmt := top 15
noncomputable abbrev fd_lone_writer_deeds : FuncData := PySem.W.fnOf "lone_writer_deeds" "lone_writer_deeds" (defArgs (top 15)) (defBody (top 15)) (defScope (top 15)) .none .none .none (.str "talejudge.weaker" 288) none (.ref 87) .none
theorem F_lone_writer_deeds (P : Params) : Fun (KX P) "lone_writer_deeds" "lone_writer_deeds" st_lone_writer_deeds 88 fd_lone_writer_deeds := fun_mk (oc := .type "function") (od := none) (osl := #[]) (by kernel_rfl) (by kernel_rfl) (by kernel_rfl)
theorem b_lone_writer_deeds (P : Params) : Binds (KX P) fd_lone_writer_deeds ["tale"] [] := (F_lone_writer_deeds P).binds fun _ _ _ _ _ _ us hl => match us, hl with | [_], _ => rfl
theorem sc_lone_writer_deeds : FnScope ["tale", "told"] ["tale"] (defScope st_lone_writer_deeds) := ⟨rfl, rfl, rfl, by decide +kernel, rfl, by decide +kernel, by decide +kernel⟩
theorem cal_lone_writer_deeds {P : Program} {w : World} {mg : Str → Option Value} {base : Heap} {k : Nat} {sp : Sp} (T : TX (KX w.params) mg) (G : FnOk P w (KX w.params) mg base CX0 k 88 fd_lone_writer_deeds ["tale"] sp) : Cal P w (KX w.params) mg base "lone_writer_deeds" ["tale"] k sp := ⟨⟨_, _, G, T.of (g_lone_writer_deeds _), by kernel_rfl, b_lone_writer_deeds _⟩⟩
noncomputable abbrev st_is_regular : Stmt := top 16
noncomputable abbrev fd_is_regular : FuncData := PySem.W.fnOf "is_regular" "is_regular" (defArgs (top 16)) (defBody (top 16)) (defScope (top 16)) .none .none .none (.str "talejudge.weaker" 288) none (.ref 94) .none
theorem F_is_regular (P : Params) : Fun (KX P) "is_regular" "is_regular" st_is_regular 95 fd_is_regular := fun_mk (oc := .type "function") (od := none) (osl := #[]) (by kernel_rfl) (by kernel_rfl) (by kernel_rfl)
theorem b_is_regular (P : Params) : Binds (KX P) fd_is_regular ["tale"] [] := (F_is_regular P).binds fun _ _ _ _ _ _ us hl => match us, hl with | [_], _ => rfl
theorem sc_is_regular : FnScope ["tale", "told", "written", "number", "read"] ["tale"] (defScope st_is_regular) := ⟨rfl, rfl, rfl, by decide +kernel, rfl, by decide +kernel, by decide +kernel⟩
theorem cal_is_regular {P : Program} {w : World} {mg : Str → Option Value} {base : Heap} {k : Nat} {sp : Sp} (T : TX (KX w.params) mg) (G : FnOk P w (KX w.params) mg base CX0 k 95 fd_is_regular ["tale"] sp) : Cal P w (KX w.params) mg base "is_regular" ["tale"] k sp := ⟨⟨_, _, G, T.of (g_is_regular _), by kernel_rfl, b_is_regular _⟩⟩
noncomputable abbrev st_is_safe : Stmt := top 17
noncomputable abbrev fd_is_safe : FuncData := PySem.W.fnOf "is_safe" "is_safe" (defArgs (top 17)) (defBody (top 17)) (defScope (top 17)) .none .none .none (.str "talejudge.weaker" 288) none (.ref 101) .none
theorem F_is_safe (P : Params) : Fun (KX P) "is_safe" "is_safe" st_is_safe 102 fd_is_safe := fun_mk (oc := .type "function") (od := none) (osl := #[]) (by kernel_rfl) (by kernel_rfl) (by kernel_rfl)
theorem b_is_safe (P : Params) : Binds (KX P) fd_is_safe ["tale"] [] := (F_is_safe P).binds fun _ _ _ _ _ _ us hl => match us, hl with | [_], _ => rfl
theorem sc_is_safe : FnScope ["tale", "told", "written", "number", "read"] ["tale"] (defScope st_is_safe) := ⟨rfl, rfl, rfl, by decide +kernel, rfl, by decide +kernel, by decide +kernel⟩
theorem cal_is_safe {P : Program} {w : World} {mg : Str → Option Value} {base : Heap} {k : Nat} {sp : Sp} (T : TX (KX w.params) mg) (G : FnOk P w (KX w.params) mg base CX0 k 102 fd_is_safe ["tale"] sp) : Cal P w (KX w.params) mg base "is_safe" ["tale"] k sp := ⟨⟨_, _, G, T.of (g_is_safe _), by kernel_rfl, b_is_safe _⟩⟩
noncomputable abbrev st_writes_beside : Stmt := top 18
noncomputable abbrev fd_writes_beside : FuncData := PySem.W.fnOf "writes_beside" "writes_beside" (defArgs (top 18)) (defBody (top 18)) (defScope (top 18)) .none .none .none (.str "talejudge.weaker" 288) none (.ref 106) .none
theorem F_writes_beside (P : Params) : Fun (KX P) "writes_beside" "writes_beside" st_writes_beside 107 fd_writes_beside := fun_mk (oc := .type "function") (od := none) (osl := #[]) (by kernel_rfl) (by kernel_rfl) (by kernel_rfl)
theorem b_writes_beside (P : Params) : Binds (KX P) fd_writes_beside ["written", "read"] [] := (F_writes_beside P).binds fun _ _ _ _ _ _ us hl => match us, hl with | [_, _], _ => rfl
theorem sc_writes_beside : FnScope ["written", "read", "begun"] ["written", "read"] (defScope st_writes_beside) := ⟨rfl, rfl, rfl, by decide +kernel, rfl, by decide +kernel, by decide +kernel⟩
theorem cal_writes_beside {P : Program} {w : World} {mg : Str → Option Value} {base : Heap} {k : Nat} {sp : Sp} (T : TX (KX w.params) mg) (G : FnOk P w (KX w.params) mg base CX0 k 107 fd_writes_beside ["written", "read"] sp) : Cal P w (KX w.params) mg base "writes_beside" ["written", "read"] k sp := ⟨⟨_, _, G, T.of (g_writes_beside _), by kernel_rfl, b_writes_beside _⟩⟩
noncomputable abbrev st_last_ahead : Stmt := top 19
noncomputable abbrev fd_last_ahead : FuncData := PySem.W.fnOf "last_ahead" "last_ahead" (defArgs (top 19)) (defBody (top 19)) (defScope (top 19)) .none .none .none (.str "talejudge.weaker" 288) none (.ref 111) .none
theorem F_last_ahead (P : Params) : Fun (KX P) "last_ahead" "last_ahead" st_last_ahead 112 fd_last_ahead := fun_mk (oc := .type "function") (od := none) (osl := #[]) (by kernel_rfl) (by kernel_rfl) (by kernel_rfl)
theorem b_last_ahead (P : Params) : Binds (KX P) fd_last_ahead ["written", "read"] [] := (F_last_ahead P).binds fun _ _ _ _ _ _ us hl => match us, hl with | [_, _], _ => rfl
theorem sc_last_ahead : FnScope ["written", "read"] ["written", "read"] (defScope st_last_ahead) := ⟨rfl, rfl, rfl, by decide +kernel, rfl, by decide +kernel, by decide +kernel⟩
theorem cal_last_ahead {P : Program} {w : World} {mg : Str → Option Value} {base : Heap} {k : Nat} {sp : Sp} (T : TX (KX w.params) mg) (G : FnOk P w (KX w.params) mg base CX0 k 112 fd_last_ahead ["written", "read"] sp) : Cal P w (KX w.params) mg base "last_ahead" ["written", "read"] k sp := ⟨⟨_, _, G, T.of (g_last_ahead _), by kernel_rfl, b_last_ahead _⟩⟩
noncomputable abbrev st__law_cell_at : Stmt := top 21
noncomputable abbrev fd__law_cell_at : FuncData := PySem.W.fnOf "_law_cell_at" "_law_cell_at" (defArgs (top 21)) (defBody (top 21)) (defScope (top 21)) .none .none .none (.str "law_talejudge_k20_regular_and_safe" 330) none (.ref 118) .none
theorem F__law_cell_at (P : Params) : Fun (KX P) "_law_cell_at" "_law_cell_at" st__law_cell_at 119 fd__law_cell_at := fun_mk (oc := .type "function") (od := none) (osl := #[]) (by kernel_rfl) (by kernel_rfl) (by kernel_rfl)
theorem b__law_cell_at (P : Params) : Binds (KX P) fd__law_cell_at ["script", "k"] [] := (F__law_cell_at P).binds fun _ _ _ _ _ _ us hl => match us, hl with | [_, _], _ => rfl
theorem sc__law_cell_at : FnScope ["script", "k"] ["script", "k"] (defScope st__law_cell_at) := ⟨rfl, rfl, rfl, by decide +kernel, rfl, by decide +kernel, by decide +kernel⟩
theorem cal__law_cell_at {P : Program} {w : World} {mg : Str → Option Value} {base : Heap} {k : Nat} {sp : Sp} (T : TX (KX w.params) mg) (G : FnOk P w (KX w.params) mg base CX0 k 119 fd__law_cell_at ["script", "k"] sp) : Cal P w (KX w.params) mg base "_law_cell_at" ["script", "k"] k sp := ⟨⟨_, _, G, T.of (g__law_cell_at _), by kernel_rfl, b__law_cell_at _⟩⟩
noncomputable abbrev st__law_stream : Stmt := top 22
noncomputable abbrev fd__law_stream : FuncData := PySem.W.fnOf "_law_stream" "_law_stream" (defArgs (top 22)) (defBody (top 22)) (defScope (top 22)) .none .none .none (.str "law_talejudge_k20_regular_and_safe" 330) none (.ref 125) .none
theorem F__law_stream (P : Params) : Fun (KX P) "_law_stream" "_law_stream" st__law_stream 126 fd__law_stream := fun_mk (oc := .type "function") (od := none) (osl := #[]) (by kernel_rfl) (by kernel_rfl) (by kernel_rfl)
theorem b__law_stream (P : Params) : Binds (KX P) fd__law_stream ["cell", "way"] [] := (F__law_stream P).binds fun _ _ _ _ _ _ us hl => match us, hl with | [_, _], _ => rfl
theorem sc__law_stream : FnScope ["cell", "way", "low"] ["cell", "way"] (defScope st__law_stream) := ⟨rfl, rfl, rfl, by decide +kernel, rfl, by decide +kernel, by decide +kernel⟩
theorem cal__law_stream {P : Program} {w : World} {mg : Str → Option Value} {base : Heap} {k : Nat} {sp : Sp} (T : TX (KX w.params) mg) (G : FnOk P w (KX w.params) mg base CX0 k 126 fd__law_stream ["cell", "way"] sp) : Cal P w (KX w.params) mg base "_law_stream" ["cell", "way"] k sp := ⟨⟨_, _, G, T.of (g__law_stream _), by kernel_rfl, b__law_stream _⟩⟩
noncomputable abbrev st__law_take : Stmt := top 23
noncomputable abbrev fd__law_take : FuncData := PySem.W.fnOf "_law_take" "_law_take" (defArgs (top 23)) (defBody (top 23)) (defScope (top 23)) .none .none .none (.str "law_talejudge_k20_regular_and_safe" 330) none (.ref 132) .none
theorem F__law_take (P : Params) : Fun (KX P) "_law_take" "_law_take" st__law_take 133 fd__law_take := fun_mk (oc := .type "function") (od := none) (osl := #[]) (by kernel_rfl) (by kernel_rfl) (by kernel_rfl)
theorem b__law_take (P : Params) : Binds (KX P) fd__law_take ["row", "many"] [] := (F__law_take P).binds fun _ _ _ _ _ _ us hl => match us, hl with | [_, _], _ => rfl
theorem sc__law_take : FnScope ["row", "many", "told"] ["row", "many"] (defScope st__law_take) := ⟨rfl, rfl, rfl, by decide +kernel, rfl, by decide +kernel, by decide +kernel⟩
theorem cal__law_take {P : Program} {w : World} {mg : Str → Option Value} {base : Heap} {k : Nat} {sp : Sp} (T : TX (KX w.params) mg) (G : FnOk P w (KX w.params) mg base CX0 k 133 fd__law_take ["row", "many"] sp) : Cal P w (KX w.params) mg base "_law_take" ["row", "many"] k sp := ⟨⟨_, _, G, T.of (g__law_take _), by kernel_rfl, b__law_take _⟩⟩
noncomputable abbrev st__law_worth : Stmt := top 24
noncomputable abbrev fd__law_worth : FuncData := PySem.W.fnOf "_law_worth" "_law_worth" (defArgs (top 24)) (defBody (top 24)) (defScope (top 24)) .none .none .none (.str "law_talejudge_k20_regular_and_safe" 330) none (.ref 139) .none
theorem F__law_worth (P : Params) : Fun (KX P) "_law_worth" "_law_worth" st__law_worth 140 fd__law_worth := fun_mk (oc := .type "function") (od := none) (osl := #[]) (by kernel_rfl) (by kernel_rfl) (by kernel_rfl)
theorem b__law_worth (P : Params) : Binds (KX P) fd__law_worth ["row"] [] := (F__law_worth P).binds fun _ _ _ _ _ _ us hl => match us, hl with | [_], _ => rfl
theorem sc__law_worth : FnScope ["row", "kind"] ["row"] (defScope st__law_worth) := ⟨rfl, rfl, rfl, by decide +kernel, rfl, by decide +kernel, by decide +kernel⟩
theorem cal__law_worth {P : Program} {w : World} {mg : Str → Option Value} {base : Heap} {k : Nat} {sp : Sp} (T : TX (KX w.params) mg) (G : FnOk P w (KX w.params) mg base CX0 k 140 fd__law_worth ["row"] sp) : Cal P w (KX w.params) mg base "_law_worth" ["row"] k sp := ⟨⟨_, _, G, T.of (g__law_worth _), by kernel_rfl, b__law_worth _⟩⟩
noncomputable abbrev st__law_name : Stmt := top 25
noncomputable abbrev fd__law_name : FuncData := PySem.W.fnOf "_law_name" "_law_name" (defArgs (top 25)) (defBody (top 25)) (defScope (top 25)) .none .none .none (.str "law_talejudge_k20_regular_and_safe" 330) none (.ref 146) .none
theorem F__law_name (P : Params) : Fun (KX P) "_law_name" "_law_name" st__law_name 147 fd__law_name := fun_mk (oc := .type "function") (od := none) (osl := #[]) (by kernel_rfl) (by kernel_rfl) (by kernel_rfl)
theorem b__law_name (P : Params) : Binds (KX P) fd__law_name ["row"] [] := (F__law_name P).binds fun _ _ _ _ _ _ us hl => match us, hl with | [_], _ => rfl
theorem sc__law_name : FnScope ["row", "letters", "name", "k"] ["row"] (defScope st__law_name) := ⟨rfl, rfl, rfl, by decide +kernel, rfl, by decide +kernel, by decide +kernel⟩
theorem cal__law_name {P : Program} {w : World} {mg : Str → Option Value} {base : Heap} {k : Nat} {sp : Sp} (T : TX (KX w.params) mg) (G : FnOk P w (KX w.params) mg base CX0 k 147 fd__law_name ["row"] sp) : Cal P w (KX w.params) mg base "_law_name" ["row"] k sp := ⟨⟨_, _, G, T.of (g__law_name _), by kernel_rfl, b__law_name _⟩⟩
noncomputable abbrev st__law_fresh : Stmt := top 26
noncomputable abbrev fd__law_fresh : FuncData := PySem.W.fnOf "_law_fresh" "_law_fresh" (defArgs (top 26)) (defBody (top 26)) (defScope (top 26)) .none .none .none (.str "law_talejudge_k20_regular_and_safe" 330) none (.ref 153) .none
theorem F__law_fresh (P : Params) : Fun (KX P) "_law_fresh" "_law_fresh" st__law_fresh 154 fd__law_fresh := fun_mk (oc := .type "function") (od := none) (osl := #[]) (by kernel_rfl) (by kernel_rfl) (by kernel_rfl)
theorem b__law_fresh (P : Params) : Binds (KX P) fd__law_fresh ["row", "used"] [] := (F__law_fresh P).binds fun _ _ _ _ _ _ us hl => match us, hl with | [_, _], _ => rfl
theorem sc__law_fresh : FnScope ["row", "used", "worth"] ["row", "used"] (defScope st__law_fresh) := ⟨rfl, rfl, rfl, by decide +kernel, rfl, by decide +kernel, by decide +kernel⟩
theorem cal__law_fresh {P : Program} {w : World} {mg : Str → Option Value} {base : Heap} {k : Nat} {sp : Sp} (T : TX (KX w.params) mg) (G : FnOk P w (KX w.params) mg base CX0 k 154 fd__law_fresh ["row", "used"] sp) : Cal P w (KX w.params) mg base "_law_fresh" ["row", "used"] k sp := ⟨⟨_, _, G, T.of (g__law_fresh _), by kernel_rfl, b__law_fresh _⟩⟩
noncomputable abbrev st__law_answer : Stmt := top 27
noncomputable abbrev fd__law_answer : FuncData := PySem.W.fnOf "_law_answer" "_law_answer" (defArgs (top 27)) (defBody (top 27)) (defScope (top 27)) .none .none .none (.str "law_talejudge_k20_regular_and_safe" 330) none (.ref 160) .none
theorem F__law_answer (P : Params) : Fun (KX P) "_law_answer" "_law_answer" st__law_answer 161 fd__law_answer := fun_mk (oc := .type "function") (od := none) (osl := #[]) (by kernel_rfl) (by kernel_rfl) (by kernel_rfl)
theorem b__law_answer (P : Params) : Binds (KX P) fd__law_answer ["row", "worths"] [] := (F__law_answer P).binds fun _ _ _ _ _ _ us hl => match us, hl with | [_, _], _ => rfl
theorem sc__law_answer : FnScope ["row", "worths", "kind", "back"] ["row", "worths"] (defScope st__law_answer) := ⟨rfl, rfl, rfl, by decide +kernel, rfl, by decide +kernel, by decide +kernel⟩
theorem cal__law_answer {P : Program} {w : World} {mg : Str → Option Value} {base : Heap} {k : Nat} {sp : Sp} (T : TX (KX w.params) mg) (G : FnOk P w (KX w.params) mg base CX0 k 161 fd__law_answer ["row", "worths"] sp) : Cal P w (KX w.params) mg base "_law_answer" ["row", "worths"] k sp := ⟨⟨_, _, G, T.of (g__law_answer _), by kernel_rfl, b__law_answer _⟩⟩
noncomputable abbrev st__law_events : Stmt := top 28
noncomputable abbrev fd__law_events : FuncData := PySem.W.fnOf "_law_events" "_law_events" (defArgs (top 28)) (defBody (top 28)) (defScope (top 28)) .none .none .none (.str "law_talejudge_k20_regular_and_safe" 330) none (.ref 167) .none
theorem F__law_events (P : Params) : Fun (KX P) "_law_events" "_law_events" st__law_events 168 fd__law_events := fun_mk (oc := .type "function") (od := none) (osl := #[]) (by kernel_rfl) (by kernel_rfl) (by kernel_rfl)
theorem b__law_events (P : Params) : Binds (KX P) fd__law_events ["cells", "way", "head", "name"] [] := (F__law_events P).binds fun _ _ _ _ _ _ us hl => match us, hl with | [_, _, _, _], _ => rfl
theorem sc__law_events : FnScope ["cells", "way", "head", "name", "hands", "writer", "used", "worths", "busy", "events", "cell", "row", "hand", "answer"] ["cells", "way", "head", "name"] (defScope st__law_events) := ⟨rfl, rfl, rfl, by decide +kernel, rfl, by decide +kernel, by decide +kernel⟩
theorem cal__law_events {P : Program} {w : World} {mg : Str → Option Value} {base : Heap} {k : Nat} {sp : Sp} (T : TX (KX w.params) mg) (G : FnOk P w (KX w.params) mg base CX0 k 168 fd__law_events ["cells", "way", "head", "name"] sp) : Cal P w (KX w.params) mg base "_law_events" ["cells", "way", "head", "name"] k sp := ⟨⟨_, _, G, T.of (g__law_events _), by kernel_rfl, b__law_events _⟩⟩
noncomputable abbrev st__law_tale : Stmt := top 29
noncomputable abbrev fd__law_tale : FuncData := PySem.W.fnOf "_law_tale" "_law_tale" (defArgs (top 29)) (defBody (top 29)) (defScope (top 29)) .none .none .none (.str "law_talejudge_k20_regular_and_safe" 330) none (.ref 174) .none
theorem F__law_tale (P : Params) : Fun (KX P) "_law_tale" "_law_tale" st__law_tale 175 fd__law_tale := fun_mk (oc := .type "function") (od := none) (osl := #[]) (by kernel_rfl) (by kernel_rfl) (by kernel_rfl)
theorem b__law_tale (P : Params) : Binds (KX P) fd__law_tale ["script", "most"] [] := (F__law_tale P).binds fun _ _ _ _ _ _ us hl => match us, hl with | [_, _], _ => rfl
theorem sc__law_tale : FnScope ["script", "most", "first", "head", "name"] ["script", "most"] (defScope st__law_tale) := ⟨rfl, rfl, rfl, by decide +kernel, rfl, by decide +kernel, by decide +kernel⟩
theorem cal__law_tale {P : Program} {w : World} {mg : Str → Option Value} {base : Heap} {k : Nat} {sp : Sp} (T : TX (KX w.params) mg) (G : FnOk P w (KX w.params) mg base CX0 k 175 fd__law_tale ["script", "most"] sp) : Cal P w (KX w.params) mg base "_law_tale" ["script", "most"] k sp := ⟨⟨_, _, G, T.of (g__law_tale _), by kernel_rfl, b__law_tale _⟩⟩
noncomputable abbrev st__law_deeds : Stmt := top 30
noncomputable abbrev fd__law_deeds : FuncData := PySem.W.fnOf "_law_deeds" "_law_deeds" (defArgs (top 30)) (defBody (top 30)) (defScope (top 30)) .none .none .none (.str "law_talejudge_k20_regular_and_safe" 330) none (.ref 181) .none
theorem F__law_deeds (P : Params) : Fun (KX P) "_law_deeds" "_law_deeds" st__law_deeds 182 fd__law_deeds := fun_mk (oc := .type "function") (od := none) (osl := #[]) (by kernel_rfl) (by kernel_rfl) (by kernel_rfl)
theorem b__law_deeds (P : Params) : Binds (KX P) fd__law_deeds ["events"] [] := (F__law_deeds P).binds fun _ _ _ _ _ _ us hl => match us, hl with | [_], _ => rfl
theorem sc__law_deeds : FnScope ["events", "found", "last", "place", "event", "deed"] ["events"] (defScope st__law_deeds) := ⟨rfl, rfl, rfl, by decide +kernel, rfl, by decide +kernel, by decide +kernel⟩
theorem cal__law_deeds {P : Program} {w : World} {mg : Str → Option Value} {base : Heap} {k : Nat} {sp : Sp} (T : TX (KX w.params) mg) (G : FnOk P w (KX w.params) mg base CX0 k 182 fd__law_deeds ["events"] sp) : Cal P w (KX w.params) mg base "_law_deeds" ["events"] k sp := ⟨⟨_, _, G, T.of (g__law_deeds _), by kernel_rfl, b__law_deeds _⟩⟩
noncomputable abbrev st__law_last : Stmt := top 31
noncomputable abbrev fd__law_last : FuncData := PySem.W.fnOf "_law_last" "_law_last" (defArgs (top 31)) (defBody (top 31)) (defScope (top 31)) .none .none .none (.str "law_talejudge_k20_regular_and_safe" 330) none (.ref 188) .none
theorem F__law_last (P : Params) : Fun (KX P) "_law_last" "_law_last" st__law_last 189 fd__law_last := fun_mk (oc := .type "function") (od := none) (osl := #[]) (by kernel_rfl) (by kernel_rfl) (by kernel_rfl)
theorem b__law_last (P : Params) : Binds (KX P) fd__law_last ["events", "begin"] [] := (F__law_last P).binds fun _ _ _ _ _ _ us hl => match us, hl with | [_, _], _ => rfl
theorem sc__law_last : FnScope ["events", "begin", "worth", "open_one", "place", "event"] ["events", "begin"] (defScope st__law_last) := ⟨rfl, rfl, rfl, by decide +kernel, rfl, by decide +kernel, by decide +kernel⟩
theorem cal__law_last {P : Program} {w : World} {mg : Str → Option Value} {base : Heap} {k : Nat} {sp : Sp} (T : TX (KX w.params) mg) (G : FnOk P w (KX w.params) mg base CX0 k 189 fd__law_last ["events", "begin"] sp) : Cal P w (KX w.params) mg base "_law_last" ["events", "begin"] k sp := ⟨⟨_, _, G, T.of (g__law_last _), by kernel_rfl, b__law_last _⟩⟩
noncomputable abbrev st__law_beside : Stmt := top 32
noncomputable abbrev fd__law_beside : FuncData := PySem.W.fnOf "_law_beside" "_law_beside" (defArgs (top 32)) (defBody (top 32)) (defScope (top 32)) .none .none .none (.str "law_talejudge_k20_regular_and_safe" 330) none (.ref 195) .none
theorem F__law_beside (P : Params) : Fun (KX P) "_law_beside" "_law_beside" st__law_beside 196 fd__law_beside := fun_mk (oc := .type "function") (od := none) (osl := #[]) (by kernel_rfl) (by kernel_rfl) (by kernel_rfl)
theorem b__law_beside (P : Params) : Binds (KX P) fd__law_beside ["events", "begin", "end"] [] := (F__law_beside P).binds fun _ _ _ _ _ _ us hl => match us, hl with | [_, _, _], _ => rfl
theorem sc__law_beside : FnScope ["events", "begin", "end", "found", "open_one", "place", "event"] ["events", "begin", "end"] (defScope st__law_beside) := ⟨rfl, rfl, rfl, by decide +kernel, rfl, by decide +kernel, by decide +kernel⟩
theorem cal__law_beside {P : Program} {w : World} {mg : Str → Option Value} {base : Heap} {k : Nat} {sp : Sp} (T : TX (KX w.params) mg) (G : FnOk P w (KX w.params) mg base CX0 k 196 fd__law_beside ["events", "begin", "end"] sp) : Cal P w (KX w.params) mg base "_law_beside" ["events", "begin", "end"] k sp := ⟨⟨_, _, G, T.of (g__law_beside _), by kernel_rfl, b__law_beside _⟩⟩
noncomputable abbrev st_law : Stmt := top 33
noncomputable abbrev fd_law : FuncData := PySem.W.fnOf "law" "law" (defArgs (top 33)) (defBody (top 33)) (defScope (top 33)) .none .none .none (.str "law_talejudge_k20_regular_and_safe" 330) none (.ref 200) .none
theorem F_law (P : Params) : Fun (KX P) "law" "law" st_law 201 fd_law := fun_mk (oc := .type "function") (od := none) (osl := #[]) (by kernel_rfl) (by kernel_rfl) (by kernel_rfl)
theorem sc_law : FnScope ["script", "tale", "events", "regular", "safe", "verb", "worth", "answer", "begin", "end", "last", "beside", "k", "told"] ["script"] (defScope st_law) := ⟨rfl, rfl, rfl, by decide +kernel, rfl, by decide +kernel, by decide +kernel⟩
end K20
namespace K20
open PySem PySem.Spec PyProof.Rows TJ L2
section
variable {P : Program} {w : World} {mg : Str → Option Value} {base : Heap}
def sp__law_cell_at (K : PySem.W.Frag) : Sp := fun vs H Q _ => ∃ (a : Addr) (ns : List Int), vs = [.ref a, .int 0] ∧ SqL K H a (ns.map V.int) ∧ ∀ i, Q (.int i) H
theorem ok__law_cell_at (T : TX (KX w.params) mg) : FnOk P w (KX w.params) mg base CX0 1 119 fd__law_cell_at ["script", "k"] (sp__law_cell_at (KX w.params)) := by
  refine (F__law_cell_at w.params).ok sc__law_cell_at (fun vs H Q E h => ?_) (fun cdv A outer s H vs Q E hr h => ?_)
  · obtain ⟨a, ns, rfl, _⟩ := h
    rfl
  · obtain ⟨a, ns, rfl, sq, q⟩ := h
    refine ⟨_, (pss_cons (ps_if (pt_cmpR op_lt (pv 1) (pe_callB callLen rfl (T.no (n_len _)) boot_len (pa_cons (pv 0) pa_nil)) (nomark _))
      (pss_one (ps_ret (pe_ix ix_seq (pv 0) (pv 1) (fun _ _ => rfl))))
      pss_nil)
      (pss_one (ps_ret pe_int))), ?_⟩
    refine ⟨_, rfl, _, rfl, .inl ⟨a, _, rfl, .inl sq, _, _, rfl, rfl, _, rfl, ?_⟩⟩
    cases ns with
    | nil => exact iteF (q 0)
    | cons n ns =>
      rw [if_pos (by simp)]
      exact ⟨_, rfl, _, rfl, .inl ⟨a, _, 0, .int n, rfl, rfl, sq, atI_nat (xs := (n :: ns).map V.int) (j := 0) rfl, q n⟩⟩
def sp__law_stream : Sp := fun vs H Q _ => ∃ (c d : Int), vs = [.int c, .int d] ∧ ∀ p t, H p = none → 0 ≤ t → t < 536870909 → Q (.ref p) (upd H p (.lst [.int c, .int d, .int t]))
theorem ok__law_stream (T : TX (KX w.params) mg) : FnOk P w (KX w.params) mg base CX0 1 126 fd__law_stream ["cell", "way"] sp__law_stream := by
  refine (F__law_stream w.params).ok sc__law_stream (fun vs H Q E h => ?_) (fun cdv A outer s H vs Q E hr h => ?_)
  · obtain ⟨c, d, rfl, _⟩ := h
    rfl
  · obtain ⟨c, d, rfl, q⟩ := h
    refine ⟨_, (pss_cons (ps_set (i := 2) sc__law_stream.nd rfl (by first | exact Or.inl rfl | exact Or.inr rfl) (pe_op op_mod (pv 0) pe_int))
      (pss_one (ps_ret (pe_lst (pa_cons (pv 0) (pa_cons (pv 1) (pa_cons (pe_op op_mod (pe_op opAdd (pe_op op_mul (pe_op op_mod (pe_op op_mul (pv 2) (pv 2)) pe_int) (pe_op opAdd (pv 2) pe_int)) pe_int) pe_int) pa_nil))))))), ?_⟩
    have h0 : 0 ≤ c % 536870909 := Int.emod_nonneg _ (by decide)
    have h1 : c % 536870909 < 536870909 := Int.emod_lt_of_pos _ (by decide)
    refine ⟨_, rfl, _, _, rfl, rfl, (show (0 : Int) < 536870909 by decide), ?_⟩
    refine ⟨_, rfl, _, rfl, _, rfl, _, rfl, _, _, rfl, rfl, .inl ⟨by omega, by omega⟩, _, _, rfl, rfl, (show (0 : Int) < 536870909 by decide), ?_⟩
    have h2 : 0 ≤ (c % 536870909 * (c % 536870909)) % 536870909 := Int.emod_nonneg _ (by decide)
    have h3 : (c % 536870909 * (c % 536870909)) % 536870909 < 536870909 := Int.emod_lt_of_pos _ (by decide)
    refine ⟨_, rfl, .inl ⟨_, _, rfl, rfl, _, _, rfl, rfl, .inl ⟨by omega, by omega⟩, .inl ⟨_, _, rfl, rfl, _, _, rfl, rfl, (show (0 : Int) < 536870909 by decide), ?_⟩⟩⟩
    exact ⟨(show (3 : Nat) ≤ sizeLine by decide), fun p hp => q p _ hp (Int.emod_nonneg _ (by decide)) (Int.emod_lt_of_pos _ (by decide))⟩
def sp__law_take : Sp := fun vs H Q _ => ∃ (r : Addr) (m : Int), vs = [.ref r, .int m] ∧ RowAt H r ∧ 0 < m ∧ m < 2 ^ 64 ∧ ∀ t H', Rw r H H' → 0 ≤ t → t < m → Q (.int t) H'
theorem ok__law_take (T : TX (KX w.params) mg) : FnOk P w (KX w.params) mg base CX0 1 133 fd__law_take ["row", "many"] sp__law_take := by
  refine (F__law_take w.params).ok sc__law_take (fun vs H Q E h => ?_) (fun cdv A outer s H vs Q E hr h => ?_)
  · obtain ⟨r, m, rfl, _⟩ := h
    rfl
  · obtain ⟨r, m, rfl, ⟨a, b, c, e, hc0, hc1⟩, hm, hm', q⟩ := h
    refine ⟨_, (pss_cons (ps_if (PW.pt (pw_and (pt_cmpR opEq (pe_ix ix_seq (pv 0) pe_int (fun _ _ => rfl)) pe_int (nomark _)) (pw_and1 (pt_cmpR op_notIn_seq (pe_ix ix_seq (pv 0) pe_int (fun _ _ => rfl)) (pe_tup (pa_cons pe_int (pa_cons (pe_un un_neg pe_int) pa_nil))) (by with_unfolding_all rfl)))))
      (pss_cons (ps_set (i := 2) sc__law_take.nd rfl (by first | exact Or.inl rfl | exact Or.inr rfl) (pe_op op_mod (pe_ix ix_seq (pv 0) pe_int (fun _ _ => rfl)) (pv 1)))
      (pss_cons (ps_asg (pe_op op_fdivB (pe_ix ix_seq (pv 0) pe_int (fun _ _ => rfl)) (pv 1)) (pg_sub (pv 0) pe_int set_list))
      (pss_one (ps_ret (pv 2)))))
      pss_nil)
      (pss_cons (ps_asg (pe_op op_mod (pe_op op_mul (pe_op opAdd (pe_ix ix_seq (pv 0) pe_int (fun _ _ => rfl)) pe_int) (pe_op opAdd (pe_ix ix_seq (pv 0) pe_int (fun _ _ => rfl)) pe_int)) pe_int) (pg_sub (pv 0) pe_int set_list))
      (pss_one (ps_ret (pe_op op_mod (pe_op opAdd (pe_op op_mul (pe_ix ix_seq (pv 0) pe_int (fun _ _ => rfl)) pe_int) pe_int) (pv 1)))))), ?_⟩
    have e0 : ∀ H1, Same H H1 → SqL (KX w.params) H1 r [.int a, .int b, .int c] := fun H1 s1 => SqL.of (s1 _ _ e)
    refine seq_if (fun H1 => Same H H1) (fun H1 s1 => ?_) fun late => ?_
    · have h0 : 0 ≤ ((c + 7919) * (c + 104729)) % 536870909 := Int.emod_nonneg _ (by decide)
      have h1 : ((c + 7919) * (c + 104729)) % 536870909 < 536870909 := Int.emod_lt_of_pos _ (by decide)
      refine ⟨_, rfl, .inl ⟨r, _, 2, .int c, rfl, rfl, e0 H1 s1, rfl, .inl ⟨_, _, rfl, rfl, ?_⟩⟩⟩
      refine ⟨_, rfl, .inl ⟨r, _, 2, .int c, rfl, rfl, e0 H1 s1, rfl, .inl ⟨_, _, rfl, rfl, ?_⟩⟩⟩
      refine ⟨_, _, rfl, rfl, .inl ⟨by omega, by omega⟩, _, _, rfl, rfl, (show (0 : Int) < 536870909 by decide), ?_⟩
      refine ⟨_, rfl, r, _, 2, 2, rfl, rfl, s1 _ _ e, rfl, ?_⟩
      refine ⟨_, rfl, .inl ⟨r, _, 2, .int _, rfl, rfl, SqL.of upd_same, rfl, ?_⟩⟩
      refine ⟨_, _, rfl, rfl, .inl ⟨by omega, by omega⟩, .inl ⟨_, _, rfl, rfl, _, rfl, _, _, rfl, rfl, hm, ?_⟩⟩
      exact q _ _ ⟨(Same.kept s1).trans .set, a, b, _, upd_same, h0, h1⟩ (Int.emod_nonneg _ (by omega)) (Int.emod_lt_of_pos _ hm)
    · refine ⟨_, rfl, .inl ⟨r, _, 1, .int b, rfl, rfl, SqL.of e, rfl, rfl, _, rfl, ?_⟩⟩
      by_cases hb : b = 0
      · subst hb
        refine iteT ⟨_, rfl, .inl ⟨r, _, 0, .int a, rfl, rfl, SqL.of e, rfl, ?_⟩⟩
        refine ⟨_, rfl, (show (2 : Nat) ≤ sizeLine by decide), fun p hp => ⟨p, _, rfl, .inr (SqT.of upd_same), rfl, rfl, _, rfl, ?_⟩⟩
        have s1 : Same H (upd H p (.tup [.int 0, .int (-1)])) := Same.upd hp
        refine ite2 (fun _ => ?_) fun _ => late _ s1
        refine ⟨_, rfl, .inl ⟨r, _, 0, .int a, rfl, rfl, e0 _ s1, rfl, _, rfl, _, _, rfl, rfl, hm, ?_⟩⟩
        refine ⟨_, rfl, .inl ⟨r, _, 0, .int a, rfl, rfl, e0 _ s1, rfl, _, rfl, _, _, rfl, rfl, ⟨hm, hm'⟩, ?_⟩⟩
        refine ⟨_, rfl, r, _, 0, 0, rfl, rfl, s1 _ _ e, rfl, ?_⟩
        exact ⟨_, rfl, q _ _ ⟨(Same.kept s1).trans .set, _, _, c, upd_same, hc0, hc1⟩ (Int.emod_nonneg _ (by omega)) (Int.emod_lt_of_pos _ hm)⟩
      · have : decide (V.int b = V.int 0) = false := by simp [hb]
        rw [this]
        exact iteF (late _ (Same.refl H))
end
end K20
namespace K20
open PySem PySem.Spec PyProof.Rows TJ L2
section
variable {P : Program} {w : World} {mg : Str → Option Value} {base : Heap}
theorem e9 : (10 : Int) ^ (9 : Int).toNat = 1000000000 := by decide
theorem p9 : CPow 10 9 := ⟨by decide, by decide, by decide⟩
def sp__law_worth : Sp := fun vs H Q _ => ∃ r : Addr, vs = [.ref r] ∧ RowAt H r ∧ ∀ i H', Rw r H H' → -1000000000 ≤ i → i ≤ 1000000000 → Q (.int i) H'
theorem ok__law_worth (T : TX (KX w.params) mg) (c__law_take : Cal P w (KX w.params) mg base "_law_take" ["row", "many"] 1 sp__law_take) : FnOk P w (KX w.params) mg base CX0 2 140 fd__law_worth ["row"] sp__law_worth := by
  refine (F__law_worth w.params).ok sc__law_worth (fun vs H Q E h => ?_) (fun cdv A outer s H vs Q E hr h => ?_)
  · obtain ⟨r, rfl, _⟩ := h
    rfl
  · obtain ⟨r, rfl, R, q⟩ := h
    refine ⟨_, (pss_cons (ps_set (i := 1) sc__law_worth.nd rfl (by first | exact Or.inl rfl | exact Or.inr rfl) (pe_cal c__law_take (hr.mono (by first | decide | omega)) rfl (pa_cons (pv 0) (pa_cons pe_int pa_nil))))
      (pss_cons (ps_if (pt_cmpR opEq (pv 1) pe_int (nomark _))
      (pss_one (ps_ret (pe_op op_sub (pe_cal c__law_take (hr.mono (by first | decide | omega)) rfl (pa_cons (pv 0) (pa_cons (pe_op opAdd (pe_op op_mul pe_int (pe_op op_pow pe_int pe_int)) pe_int) pa_nil))) (pe_op op_pow pe_int pe_int))))
      pss_nil)
      (pss_cons (ps_if (pt_cmpR opEq (pv 1) pe_int (nomark _))
      (pss_one (ps_ret (pe_ix ix_seq (pe_lst (pa_cons (pe_op op_pow pe_int pe_int) (pa_cons (pe_un un_neg (pe_op op_pow pe_int pe_int)) (pa_cons (pe_op op_sub (pe_op op_pow pe_int pe_int) pe_int) (pa_cons (pe_op op_sub pe_int (pe_op op_pow pe_int pe_int)) pa_nil))))) (pe_cal c__law_take (hr.mono (by first | decide | omega)) rfl (pa_cons (pv 0) (pa_cons pe_int pa_nil))) (fun _ _ => rfl))))
      pss_nil)
      (pss_one (ps_ret (pe_op op_sub (pe_cal c__law_take (hr.mono (by first | decide | omega)) rfl (pa_cons (pv 0) (pa_cons pe_int pa_nil))) pe_int)))))), ?_⟩
    refine ⟨_, rfl, r, 4, rfl, R, by decide, by decide, fun t H1 w1 h0 h1 => ?_⟩
    refine ⟨_, rfl, rfl, _, rfl, ?_⟩
    refine ite2 (fun _ => ?_) fun _ => ?_
    · refine ⟨_, rfl, _, _, rfl, rfl, p9, _, _, rfl, rfl, .inl ⟨by decide, by decide⟩, .inl ⟨_, _, rfl, rfl, r, _, rfl, w1.r, by decide, by decide, fun t2 H2 w2 h2 h3 => ?_⟩⟩
      rw [e9] at h3
      refine ⟨_, _, rfl, rfl, p9, _, _, rfl, rfl, ?_⟩
      rw [e9]
      exact q _ _ (w1.trans w2) (by omega) (by omega)
    · refine ⟨_, rfl, rfl, _, rfl, ?_⟩
      refine ite2 (fun _ => ?_) fun _ => ?_
      · refine ⟨_, _, rfl, rfl, p9, _, _, rfl, rfl, p9, _, rfl, _, _, rfl, rfl, p9, _, _, rfl, rfl, _, _, rfl, rfl, p9, _, _, rfl, rfl, (show (4 : Nat) ≤ sizeLine by decide), fun p hp => ?_⟩
        refine ⟨_, rfl, r, 4, rfl, w1.r.same (Same.upd hp), by decide, by decide, fun t2 H2 w2 h2 h3 => ?_⟩
        rw [e9] at w2
        obtain ⟨v, hv, hm⟩ := atI_of (xs := [V.int 1000000000, .int (-1000000000), .int (1000000000 - 1), .int (1 - 1000000000)]) h2 h3
        refine .inl ⟨p, _, _, v, rfl, rfl, SqL.of (w2.k _ _ (w1.r.fresh hp) upd_same), hv, ?_⟩
        have w3 : Rw r H H2 := (w1.same (Same.upd hp)).trans w2
        simp only [List.mem_cons, List.not_mem_nil, or_false] at hm
        rcases hm with rfl | rfl | rfl | rfl <;> exact q _ _ w3 (by decide) (by decide)
      · refine ⟨_, rfl, r, 7, rfl, w1.r, by decide, by decide, fun t2 H2 w2 h2 h3 => ?_⟩
        exact ⟨_, _, rfl, rfl, q _ _ (w1.trans w2) (by omega) (by omega)⟩
end
end K20
namespace K20
open PySem PySem.Spec PyProof.Rows TJ L2
section
variable {P : Program} {w : World} {mg : Str → Option Value} {base : Heap}
inductive Ev
  | beg (h : Int) (n v x : V)
  | fin (h : Int) (a : V)
def EvAt (K : PySem.W.Frag) (H : Hp) : Ev → V → Prop
  | .beg h n v x, y => ∃ p, y = .ref p ∧ SqT K H p [.str "begin", .int h, n, v, x]
  | .fin h a, y => ∃ p, y = .ref p ∧ SqT K H p [.str "end", .int h, a]
structure Rc where
  h : Int
  n : V
  v : V
  x : V
  a : V
  b : Nat
  e : Option Nat
def endV : Option Nat → V
  | none => .non
  | some i => .int i
def RcAt (K : PySem.W.Frag) (H : Hp) (r : Rc) (y : V) : Prop := ∃ p, y = .ref p ∧ SqT K H p [.int r.h, r.n, r.v, r.x, r.a, .int r.b, endV r.e]
def Tups (K : PySem.W.Frag) (H H' : Hp) : Prop := ∀ a xs, SqT K H a xs → SqT K H' a xs
theorem Tups.of {K : PySem.W.Frag} {H H' : Hp} (s : Same H H') : Tups K H H' := fun _ _ q => s.seqT q
theorem Tups.trans {K : PySem.W.Frag} {H H1 H2 : Hp} (a : Tups K H H1) (b : Tups K H1 H2) : Tups K H H2 := fun _ _ q => b _ _ (a _ _ q)
theorem Tups.lst {K : PySem.W.Frag} {H : Hp} {l : Addr} {o : HO} {zs : List V} (e : H l = some (.lst zs)) : Tups K H (upd H l o) := fun _ _ q => q.wrote e
theorem Tups.dict {K : PySem.W.Frag} {H : Hp} {l : Addr} {o : HO} {kvs : List (Key × V)} (e : H l = some (.dK kvs)) : Tups K H (upd H l o) := fun a xs h => by
  rcases h with (h | ⟨ob, h⟩) | h
  · exact .inl (.inl (by rw [upd_ne (ne_of h e (by intro z; cases z))]; exact h))
  · exact .inl (.inr ⟨ob, by rw [upd_ne (ne_of h e (by intro z; cases z))]; exact h⟩)
  · exact .inr h
theorem ixN_nat {n j : Nat} (h : j < n) : ixN n (j : Nat) = some j := by
  unfold ixN
  rw [if_pos (by omega), if_pos (by omega)]
  rfl
theorem Same.keep {H H' : Hp} {l : Addr} {o : HO} (s : Same H H') (n : H l = none) : Same H (upd H' l o) := fun a x e => by
  rw [upd_ne (ne_of_none e n)]
  exact s a x e
theorem all2_snoc {α β : Type} {R : α → β → Prop} {x : α} {y : β} : ∀ {xs : List α} {ys : List β}, All2 R xs ys → R x y → All2 R (xs ++ [x]) (ys ++ [y])
  | _, _, .nil, h => .cons h .nil
  | _, _, .cons a r, h => .cons a (all2_snoc r h)
theorem putK_len {κ : Type} [DecidableEq κ] {kvs : List (κ × V)} {k : κ} {v : V} : (putK kvs k v).length ≤ kvs.length + 1 := by
  unfold putK
  by_cases z : (kvs.any fun kv => decide (kv.1 = k)) = true
  · rw [if_pos z, List.length_map]; omega
  · rw [if_neg z, List.length_append]; exact Nat.le_refl _
def lastI (h : Int) (hs : List Int) : Option Nat := (hs.foldl (fun (acc : Nat × Option Nat) k => (acc.1 + 1, if k = h then some acc.1 else acc.2)) (0, none)).2
theorem lastF (h : Int) : ∀ hs : List Int, (hs.foldl (fun (acc : Nat × Option Nat) k => (acc.1 + 1, if k = h then some acc.1 else acc.2)) (0, none)).1 = hs.length := by
  have go : ∀ (hs : List Int) (a : Nat × Option Nat), (hs.foldl (fun (acc : Nat × Option Nat) k => (acc.1 + 1, if k = h then some acc.1 else acc.2)) a).1 = a.1 + hs.length := by
    intro hs
    induction hs with
    | nil => intro a; rfl
    | cons k hs ih => intro a; rw [List.foldl_cons, ih, List.length_cons]; show a.1 + 1 + hs.length = _; omega
  intro hs
  rw [go hs (0, none)]
  simp
theorem lastI_snoc (h k : Int) (hs : List Int) : lastI h (hs ++ [k]) = if k = h then some hs.length else lastI h hs := by
  unfold lastI
  rw [List.foldl_append]
  show (if k = h then some _ else _) = _
  rw [lastF]
theorem lastI_lt {h : Int} {hs : List Int} {j : Nat} (e : lastI h hs = some j) : j < hs.length := by
  have go : ∀ (hs : List Int) (a : Nat × Option Nat), (∀ j, a.2 = some j → j < a.1) → ∀ j, (hs.foldl (fun (acc : Nat × Option Nat) k => (acc.1 + 1, if k = h then some acc.1 else acc.2)) a).2 = some j → j < a.1 + hs.length := by
    intro hs
    induction hs with
    | nil => intro a ha j e; exact ha j e
    | cons k hs ih =>
      intro a ha j e
      rw [List.foldl_cons] at e
      have := ih (a.1 + 1, if k = h then some a.1 else a.2) (fun j e => by
        dsimp only at e ⊢
        by_cases z : k = h
        · rw [if_pos z] at e; cases e; omega
        · rw [if_neg z] at e; have := ha j e; omega) j e
      rw [List.length_cons]
      dsimp only at this
      omega
  have := go hs (0, none) (fun j e => by cases e) j e
  simpa using this
def dstep (i : Nat) (rs : List Rc) : Ev → List Rc
  | .beg h n v x => rs ++ [⟨h, n, v, x, .non, i, none⟩]
  | .fin h a => match lastI h (rs.map Rc.h) with | some j => rs.modify j (fun r => { r with a := a, e := some i }) | none => rs
def dAll : Nat → List Rc → List Ev → List Rc
  | _, rs, [] => rs
  | i, rs, e :: es => dAll (i + 1) (dstep i rs e) es
def dWf : Nat → List Rc → List Ev → Prop
  | _, _, [] => True
  | i, rs, e :: es => (∀ h a, e = .fin h a → (lastI h (rs.map Rc.h)).isSome = true) ∧ dWf (i + 1) (dstep i rs e) es
theorem RcAt.tups {K : PySem.W.Frag} {H H' : Hp} {r : Rc} {y : V} (t : Tups K H H') (h : RcAt K H r y) : RcAt K H' r y := h.elim fun p z => ⟨p, z.1, t _ _ z.2⟩
theorem EvAt.tups {K : PySem.W.Frag} {H H' : Hp} (t : Tups K H H') : ∀ {e : Ev} {y : V}, EvAt K H e y → EvAt K H' e y
  | .beg h n v x, _, z => z.elim fun p z => ⟨p, z.1, t _ _ z.2⟩
  | .fin h a, _, z => z.elim fun p z => ⟨p, z.1, t _ _ z.2⟩
theorem all2_modify {α β : Type} {R : α → β → Prop} {f : α → α} {y : β} : ∀ {xs : List α} {ys : List β} {j : Nat} {x : α}, All2 R xs ys → xs[j]? = some x → R (f x) y → All2 R (xs.modify j f) (ys.set j y)
  | _, _, _, _, .nil, e, _ => by simp at e
  | _, _, 0, x, .cons a r, e, h => by
    rw [List.getElem?_cons_zero] at e
    cases e
    exact .cons h r
  | _, _, j + 1, x, .cons a r, e, h => by
    rw [List.getElem?_cons_succ] at e
    exact .cons a (all2_modify r e h)
theorem all2_at {α β : Type} {R : α → β → Prop} : ∀ {xs : List α} {ys : List β} {i : Nat} {x : α}, All2 R xs ys → xs[i]? = some x → ∃ y, ys[i]? = some y ∧ R x y
  | _, _, i, x, .nil, e => by simp at e
  | _, _, 0, x, .cons a _, e => by
    rw [List.getElem?_cons_zero] at e
    cases e
    exact ⟨_, List.getElem?_cons_zero, a⟩
  | _, _, i + 1, x, .cons _ r, e => by
    rw [List.getElem?_cons_succ] at e
    obtain ⟨y, h1, h2⟩ := all2_at r e
    exact ⟨y, by rw [List.getElem?_cons_succ]; exact h1, h2⟩
end
end K20
namespace K20
open PySem PySem.Spec PyProof.Rows TJ L2
section
variable {P : Program} {w : World} {mg : Str → Option Value} {base : Heap}
def sp_deeds (K : PySem.W.Frag) : Sp := fun vs H Q _ => ∃ (t te : Addr) (th : V) (ys : List V) (es : List Ev), vs = [.ref t] ∧ SqT K H t [th, .ref te] ∧ SqT K H te ys ∧ All2 (EvAt K H) es ys ∧ es.length ≤ 100 ∧ dWf 0 [] es ∧
  ∀ l zs H', Same H H' → H l = none → H' l = some (.lst zs) → All2 (RcAt K H') (dAll 0 [] es) zs → Q (.ref l) H'
theorem ok_deeds (T : TX (KX w.params) mg) : FnOk P w (KX w.params) mg base CX0 1 53 fd_deeds ["tale"] (sp_deeds (KX w.params)) := by
  refine (F_deeds w.params).ok sc_deeds (fun vs H Q E h => ?_) (fun cdv A outer s H vs Q E hr h => ?_)
  · obtain ⟨t, te, th, ys, es, rfl, _⟩ := h
    rfl
  · obtain ⟨t, te, th, ys, es, rfl, st, se, al, hl, wf, q⟩ := h
    refine ⟨_, (pss_cons (ps_set (i := 1) sc_deeds.nd rfl (by first | exact Or.inl rfl | exact Or.inr rfl) (pe_lst pa_nil))
      (pss_cons (ps_set (i := 2) sc_deeds.nd rfl (by first | exact Or.inl rfl | exact Or.inr rfl) pe_dnewK)
      (pss_cons (ps_for PassesOwn.never rfl (pi_enumT rfl (T.no (n_enumerate _)) (pa_cons (pe_ix ix_seq (pv 0) pe_int (fun _ _ => rfl)) pa_nil)) (pg_tup rfl (pgs_cons (pg_name (i := 3) sc_deeds.nd rfl (by first | exact Or.inl rfl | exact Or.inr rfl)) (pgs_cons (pg_name (i := 4) sc_deeds.nd rfl (by first | exact Or.inl rfl | exact Or.inr rfl)) pgs_nil)))
      (pss_one (ps_if (pt_cmpR opEq (pe_ix ix_seq (pv 4) pe_int (fun _ _ => rfl)) pe_str (nomark _))
      (pss_cons (ps_dput (hu_of hr) (pv 2) (pe_ix ix_seq (pv 4) pe_int (fun _ _ => rfl)) (pe_callB callLen rfl (T.no (n_len _)) boot_len (pa_cons (pv 1) pa_nil)) rfl)
      (pss_one (ps_expr (pe_append (pv 1) (pa_cons (pe_op opAdd (pe_slice slSeq (pv 4) (po_some pe_int) po_none) (pe_tup (pa_cons pe_non (pa_cons (pv 3) (pa_cons pe_non pa_nil))))) pa_nil)))))
      (pss_cons (ps_set (i := 5) sc_deeds.nd rfl (by first | exact Or.inl rfl | exact Or.inr rfl) (pe_dget (hu_of hr) (pv 2) (pe_ix ix_seq (pv 4) pe_int (fun _ _ => rfl)) (fun _ _ => rfl)))
      (pss_cons (ps_set (i := 6) sc_deeds.nd rfl (by first | exact Or.inl rfl | exact Or.inr rfl) (pe_ix ix_seq (pv 1) (pv 5) (fun _ _ => rfl)))
      (pss_one (ps_asg (pe_op opAdd (pe_slice slSeq (pv 6) po_none (po_some pe_int)) (pe_tup (pa_cons (pe_ix ix_seq (pv 4) pe_int (fun _ _ => rfl)) (pa_cons (pe_ix ix_seq (pv 6) pe_int (fun _ _ => rfl)) (pa_cons (pv 3) pa_nil))))) (pg_sub (pv 1) (pv 5) set_list))))))))
      (pss_one (ps_ret (pv 1)))))), ?_⟩
    refine ⟨(show (0 : Nat) ≤ sizeLine by decide), fun l hl0 => ?_⟩
    intro d hd0
    have nld : l ≠ d := ne_of_none upd_same hd0
    have s0 : upd H l (.lst []) d = none → H d = none := fun z => by rwa [upd_ne nld.symm] at z
    have s2 : Same H (upd (upd H l (.lst [])) d (.dK [])) := (Same.upd hl0).trans (Same.upd hd0)
    have e1 : upd (upd H l (.lst [])) d (.dK []) l = some (.lst []) := by rw [upd_ne nld]; exact upd_same
    have e2 : upd (upd H l (.lst [])) d (.dK []) d = some (.dK []) := upd_same
    generalize upd (upd H l (.lst [])) d (.dK []) = H2 at s2 e1 e2 ⊢
    have len := forall2_len al
    refine ⟨_, rfl, .inr (.inl ⟨t, _, 1, .ref te, rfl, rfl, s2.seqT st, atI_nat (j := 1) rfl, te, ys, rfl, s2.seqT se, ?_⟩)⟩
    refine for_enumT (K := KX w.params) (a := te) (xs := ys) (fun i σ H' => ∃ rs zs kvs, H' l = some (.lst zs) ∧ All2 (RcAt (KX w.params) H') rs zs ∧ H' d = some (.dK kvs) ∧ kvs.length ≤ i ∧ rs.length ≤ i ∧ (∀ h, valV kvs (.inl h) = (lastI h (rs.map Rc.h)).map fun j => V.int (j : Nat)) ∧ dAll i rs (es.drop i) = dAll 0 [] es ∧ dWf i rs (es.drop i) ∧ Same H H' ∧ ∃ x3 x4 x5 x6, σ = [some (.ref t), some (.ref l), some (.ref d), x3, x4, x5, x6])
      ⟨[], [], [], e1, .nil, e2, Nat.le_refl _, Nat.le_refl _, fun h => rfl, by rw [List.drop_zero], by rw [List.drop_zero]; exact wf, s2, _, _, _, _, rfl⟩ (fun i σ H' h => ?_) ?_ ?_
    · obtain ⟨rs, zs, kvs, _, _, _, _, _, _, _, _, s', _⟩ := h
      exact s'.seqT se
    · rintro i y σ H3 p hy ⟨rs, zs, kvs, el, ar, ed, hk, hr', hv, da, dw, s3, x3, x4, x5, x6, rfl⟩ hp
      obtain ⟨e, he, ev⟩ := all2_get al hy
      obtain ⟨hi, ee⟩ := List.getElem?_eq_some_iff.mp he
      have dr : es.drop i = e :: es.drop (i + 1) := by rw [List.drop_eq_getElem_cons hi, ee]
      rw [dr] at da dw
      have s4 := s3.trans (Same.upd (o := .tup [.int i, y]) hp)
      have el4 := (Same.upd (o := .tup [.int i, y]) hp) _ _ el
      have ed4 := (Same.upd (o := .tup [.int i, y]) hp) _ _ ed
      have ar4 := forall2_mono (fun a b z => RcAt.tups (.of (Same.upd (o := .tup [.int i, y]) hp)) z) ar
      have ep4 : upd H3 p (.tup [.int i, y]) p = some (.tup [.int i, y]) := upd_same
      generalize upd H3 p (.tup [.int i, y]) = H4 at s4 el4 ed4 ar4 ep4 ⊢
      have ev4 := EvAt.tups (.of s4) ev
      refine ⟨p, _, rfl, SqT.of ep4, rfl, .int i, _, rfl, y, _, rfl, rfl, ?_⟩
      have lz : zs.length = rs.length := forall2_len ar4
      have hz0 : 100 ≤ sizeLine := by decide
      have few : i < 100 := Nat.lt_of_lt_of_le hi hl
      cases e with
      | beg h n v x =>
        obtain ⟨py, rfl, sy⟩ := ev4
        refine ⟨_, rfl, .inr (.inl ⟨py, _, 0, .str "begin", rfl, rfl, sy, atI_nat (j := 0) rfl, rfl, _, rfl, iteP (decide_eq_true rfl) ?_⟩)⟩
        refine ⟨_, rfl, .inl ⟨l, zs, rfl, .inl (SqL.of el4), ⟨_, rfl, ⟨_, rfl, .inr (.inl ⟨py, _, 1, .int h, rfl, rfl, sy, atI_nat (j := 1) rfl, d, _, rfl, DPut.k (k := .inl h) ed4 (Nat.lt_of_le_of_lt hk (Nat.lt_of_lt_of_le few hz0)), ?_⟩)⟩⟩⟩⟩
        have nhd : H d = none := s0 hd0
        have t5 : Tups (KX w.params) H4 (upd H4 d (.dK (putK kvs (.inl h) (.int (zs.length : Nat))))) := Tups.dict ed4
        have s5 := Same.keep (o := .dK (putK kvs (.inl h) (.int (zs.length : Nat)))) s4 nhd
        have el5 : upd H4 d (.dK (putK kvs (.inl h) (.int (zs.length : Nat)))) l = some (.lst zs) := by rw [upd_ne nld]; exact el4
        have ed5 : upd H4 d (.dK (putK kvs (.inl h) (.int (zs.length : Nat)))) d = some (.dK (putK kvs (.inl h) (.int (zs.length : Nat)))) := upd_same
        generalize upd H4 d (.dK (putK kvs (.inl h) (.int (zs.length : Nat)))) = H5 at t5 s5 el5 ed5 ⊢
        have sy5 := t5 _ _ sy
        have ar5 := forall2_mono (fun a b z => RcAt.tups t5 z) ar4
        refine ⟨_, rfl, .inl ⟨rfl, zs, SqL.of el5⟩, ⟨_, rfl, 1, rfl, .inr (.inl ⟨py, _, rfl, sy5, fun z => absurd z.1 (show ¬ HT.sIx 5 0 (some 1) = 0 by decide), fun p1 hp1 => ?_⟩)⟩⟩
        have c1 : cutV [V.str "begin", .int h, n, v, x] (some 1) none = [.int h, n, v, x] := rfl
        rw [c1]
        refine ⟨_, rfl, show (3 : Nat) ≤ sizeLine by decide, fun p2 hp2 => .inr (.inr (.inr ⟨p1, p2, _, _, rfl, rfl, (Same.upd hp2).seqT (SqT.of upd_same), SqT.of upd_same, by simp, (show (7 : Nat) ≤ sizeLine by decide), fun z => (by cases z), fun _ p3 hp3 => ?_⟩))⟩
        have s6 : Same H5 (upd (upd (upd H5 p1 (.tup [.int h, n, v, x])) p2 (.tup [.non, .int i, .non])) p3 (.tup ([.int h, n, v, x] ++ [.non, .int i, .non]))) := ((Same.upd hp1).trans (Same.upd hp2)).trans (Same.upd hp3)
        have e3 : upd (upd (upd H5 p1 (.tup [.int h, n, v, x])) p2 (.tup [.non, .int i, .non])) p3 (.tup ([.int h, n, v, x] ++ [.non, .int i, .non])) p3 = some (.tup ([.int h, n, v, x] ++ [.non, .int i, .non])) := upd_same
        generalize upd (upd (upd H5 p1 (.tup [.int h, n, v, x])) p2 (.tup [.non, .int i, .non])) p3 (.tup ([.int h, n, v, x] ++ [.non, .int i, .non])) = H6 at s6 e3 ⊢
        have el6 := s6 _ _ el5
        have ed6 := s6 _ _ ed5
        have ar6 := forall2_mono (fun a b z => RcAt.tups (.of s6) z) ar5
        have t7 : Tups (KX w.params) H6 (upd H6 l (.lst (zs ++ [.ref p3]))) := Tups.lst el6
        refine ⟨l, zs, _, rfl, rfl, el6, Nat.lt_of_le_of_lt (Nat.le_trans (Nat.le_of_eq lz) hr') (Nat.lt_of_lt_of_le few hz0), ?_⟩
        refine ⟨rs ++ [⟨h, n, v, x, .non, i, none⟩], zs ++ [.ref p3], putK kvs (.inl h) (.int (zs.length : Nat)), upd_same, ?_, ?_, ?_, ?_, ?_, (show dAll (i + 1) (dstep i rs (.beg h n v x)) _ = _ from da), dw.2, Same.keep (s5.trans s6) hl0, _, _, _, _, rfl⟩
        · exact all2_snoc (forall2_mono (fun a b z => RcAt.tups t7 z) ar6) ⟨p3, rfl, t7 _ _ (SqT.of e3)⟩
        · rw [upd_ne nld.symm]; exact ed6
        · exact Nat.le_trans putK_len (by omega)
        · rw [List.length_append]; show rs.length + 1 ≤ i + 1; omega
        · intro k
          rw [valV_put, List.map_append]
          show _ = Option.map _ (lastI k (rs.map Rc.h ++ [h]))
          rw [lastI_snoc, hv k, List.length_map, lz]
          by_cases z : h = k
          · rw [if_pos z, if_pos (by rw [z])]; rfl
          · rw [if_neg z, if_neg (fun y => z (Sum.inl.inj y).symm)]
      | fin h a =>
        obtain ⟨py, rfl, sy⟩ := ev4
        obtain ⟨j, hj⟩ := Option.isSome_iff_exists.mp (dw.1 h a rfl)
        have hvj : valV kvs (.inl h) = some (.int (j : Nat)) := by rw [hv h, hj]; rfl
        have hjl : j < rs.length := by have := lastI_lt hj; rwa [List.length_map] at this
        have hrj : rs[j]? = some rs[j] := List.getElem?_eq_getElem hjl
        obtain ⟨yj, hyj, pj, rfl, sj⟩ := all2_at ar4 hrj
        have dgj : DGet H4 d (.int h) (some (.int (j : Nat))) := hvj ▸ DGet.k (k := .inl h) ed4
        refine ⟨_, rfl, .inr (.inl ⟨py, _, 0, .str "end", rfl, rfl, sy, atI_nat (j := 0) rfl, rfl, _, rfl, iteN (by decide +kernel) ?_⟩)⟩
        refine ⟨_, rfl, ⟨_, rfl, .inr (.inl ⟨py, _, 1, .int h, rfl, rfl, sy, atI_nat (j := 1) rfl, d, _, rfl, dgj, ?_⟩)⟩⟩
        refine ⟨_, rfl, _, rfl, .inl ⟨l, zs, j, .ref pj, rfl, rfl, SqL.of el4, atI_nat hyj, ?_⟩⟩
        refine ⟨_, rfl, 4, rfl, .inr (.inl ⟨pj, _, rfl, sj, fun z => absurd z.2 (show ¬ HT.sIx 7 7 (some 4) = 7 by decide), fun p1 hp1 => ?_⟩)⟩
        have c1 : cutV [.int rs[j].h, rs[j].n, rs[j].v, rs[j].x, rs[j].a, .int rs[j].b, endV rs[j].e] none (some 4) = [.int rs[j].h, rs[j].n, rs[j].v, rs[j].x] := rfl
        rw [c1]
        refine ⟨_, rfl, .inr (.inl ⟨py, _, 2, a, rfl, rfl, (Same.upd hp1).seqT sy, atI_nat (j := 2) rfl, ?_⟩)⟩
        refine ⟨_, rfl, .inr (.inl ⟨pj, _, 5, .int rs[j].b, rfl, rfl, (Same.upd hp1).seqT sj, atI_nat (j := 5) rfl, ?_⟩)⟩
        refine ⟨_, rfl, show (3 : Nat) ≤ sizeLine by decide, fun p2 hp2 => .inr (.inr (.inr ⟨p1, p2, _, _, rfl, rfl, (Same.upd hp2).seqT (SqT.of upd_same), SqT.of upd_same, by simp, (show (7 : Nat) ≤ sizeLine by decide), fun z => (by cases z), fun _ p3 hp3 => ?_⟩))⟩
        have s6 : Same H4 _ := ((Same.upd hp1).trans (Same.upd hp2)).trans (Same.upd (o := .tup ([.int rs[j].h, rs[j].n, rs[j].v, rs[j].x] ++ [a, .int rs[j].b, .int (i : Nat)])) hp3)
        have e3 : upd (upd (upd H4 p1 (.tup [.int rs[j].h, rs[j].n, rs[j].v, rs[j].x])) p2 (.tup [a, .int rs[j].b, .int (i : Nat)])) p3 (.tup ([.int rs[j].h, rs[j].n, rs[j].v, rs[j].x] ++ [a, .int rs[j].b, .int (i : Nat)])) p3 = some (.tup ([.int rs[j].h, rs[j].n, rs[j].v, rs[j].x] ++ [a, .int rs[j].b, .int (i : Nat)])) := upd_same
        generalize upd (upd (upd H4 p1 (.tup [.int rs[j].h, rs[j].n, rs[j].v, rs[j].x])) p2 (.tup [a, .int rs[j].b, .int (i : Nat)])) p3 (.tup ([.int rs[j].h, rs[j].n, rs[j].v, rs[j].x] ++ [a, .int rs[j].b, .int (i : Nat)])) = H6 at s6 e3 ⊢
        have el6 := s6 _ _ el4
        have ed6 := s6 _ _ ed4
        have ar6 := forall2_mono (fun a b z => RcAt.tups (.of s6) z) ar4
        have t7 : Tups (KX w.params) H6 (upd H6 l (.lst (zs.set j (.ref p3)))) := Tups.lst el6
        refine ⟨_, rfl, _, rfl, l, zs, j, j, rfl, rfl, el6, ixN_nat (show j < zs.length by rw [lz]; exact hjl), ?_⟩
        have dd : dstep i rs (.fin h a) = rs.modify j (fun r => { r with a := a, e := some i }) := by unfold dstep; dsimp only; rw [hj]
        have da2 : dAll (i + 1) (dstep i rs (.fin h a)) (List.drop (i + 1) es) = _ := da
        have dw2 := dw.2
        rw [dd] at da2 dw2
        have mh : (rs.modify j (fun r => { r with a := a, e := some i })).map Rc.h = rs.map Rc.h := by
          apply List.ext_getElem?
          intro m
          rw [List.getElem?_map, List.getElem?_map, List.getElem?_modify]
          cases rs[m]? with
          | none => rfl
          | some r =>
            show some (if j = m then _ else r).h = some r.h
            by_cases z : j = m
            · rw [if_pos z]
            · rw [if_neg z]
        refine ⟨_, zs.set j (.ref p3), kvs, upd_same, ?_, ?_, ?_, ?_, ?_, da2, dw2, Same.keep (s4.trans s6) hl0, _, _, _, _, rfl⟩
        · exact all2_modify (forall2_mono (fun a b z => RcAt.tups t7 z) ar6) hrj ⟨p3, rfl, t7 _ _ (SqT.of e3)⟩
        · rw [upd_ne nld.symm]; exact ed6
        · omega
        · rw [List.length_modify]; omega
        · intro k
          rw [mh]
          exact hv k
    · rintro σ H3 ⟨rs, zs, kvs, el, ar, ed, hk, hr', hv, da, dw, s3, x3, x4, x5, x6, rfl⟩
      have : es.drop ys.length = [] := by rw [len]; exact List.drop_length
      rw [this] at da
      have da : rs = dAll 0 [] es := da
      rw [← da] at q
      exact ⟨_, rfl, q l zs H3 s3 hl0 el ar⟩
end
end K20
namespace K20
open PySem PySem.Spec PyProof.Rows TJ L2
section
def oStep (os : List Int) : Ev → List Int
  | .beg h _ _ _ => os ++ [h]
  | .fin h _ => os.filter fun k => decide (k ≠ h)
def oOk (os : List Int) : Ev → Prop
  | .beg h _ _ _ => h ∉ os
  | .fin h _ => h ∈ os
def EWf : List Int → List Ev → Prop
  | _, [] => True
  | os, e :: es => oOk os e ∧ EWf (oStep os e) es
theorem EWf.snoc : ∀ {es : List Ev} {os : List Int} {e : Ev}, EWf os es → oOk (es.foldl oStep os) e → EWf os (es ++ [e])
  | [], os, e, _, h => ⟨h, trivial⟩
  | x :: es, os, e, w, h => ⟨w.1, EWf.snoc w.2 h⟩
theorem lastI_get {h : Int} (hs : List Int) : ∀ {j : Nat}, lastI h hs = some j → hs[j]? = some h ∧ ∀ k, j < k → hs[k]? ≠ some h := by
  suffices key : ∀ n (hs : List Int), hs.length = n → ∀ {j : Nat}, lastI h hs = some j → hs[j]? = some h ∧ ∀ k, j < k → hs[k]? ≠ some h from fun {j} hj => key _ hs rfl hj
  intro n
  induction n with
  | zero => intro hs e j hj; have := lastI_lt hj; omega
  | succ n ih =>
    intro hs e j hj
    have ne : hs ≠ [] := fun z => by rw [z] at e; cases e
    obtain ⟨ts, t, rfl⟩ : ∃ ts t, hs = ts ++ [t] := ⟨hs.dropLast, hs.getLast ne, (List.dropLast_concat_getLast ne).symm⟩
    rw [List.length_append] at e
    have e : ts.length = n := by simpa using e
    rw [lastI_snoc] at hj
    by_cases z : t = h
    · rw [if_pos z] at hj
      cases hj
      refine ⟨by simp [z], fun k hk => ?_⟩
      rw [List.getElem?_eq_none (by rw [List.length_append]; show ts.length + 1 ≤ k; omega)]
      intro y; cases y
    · rw [if_neg z] at hj
      obtain ⟨h1, h2⟩ := ih ts e hj
      have lt := lastI_lt hj
      refine ⟨by rw [List.getElem?_append_left lt]; exact h1, fun k hk => ?_⟩
      by_cases y : k < ts.length
      · rw [List.getElem?_append_left y]; exact h2 k hk
      · by_cases y2 : k = ts.length
        · subst y2
          rw [List.getElem?_append_right (Nat.le_refl _)]
          simp
          exact z
        · rw [List.getElem?_eq_none (by rw [List.length_append]; show ts.length + 1 ≤ k; omega)]
          intro y; cases y
theorem lastI_some {h : Int} (hs : List Int) (hm : h ∈ hs) : (lastI h hs).isSome = true := by
  suffices key : ∀ n (hs : List Int), hs.length = n → h ∈ hs → (lastI h hs).isSome = true from key _ hs rfl hm
  intro n
  induction n with
  | zero => intro hs e hm; rw [List.length_eq_zero_iff.mp e] at hm; cases hm
  | succ n ih =>
    intro hs e hm
    have ne : hs ≠ [] := fun z => by rw [z] at e; cases e
    obtain ⟨ts, t, rfl⟩ : ∃ ts t, hs = ts ++ [t] := ⟨hs.dropLast, hs.getLast ne, (List.dropLast_concat_getLast ne).symm⟩
    rw [List.length_append] at e
    rw [lastI_snoc]
    by_cases z : t = h
    · rw [if_pos z]; rfl
    · rw [if_neg z]
      refine ih ts (by simpa using e) ?_
      rcases List.mem_append.mp hm with y | y
      · exact y
      · exact absurd (List.mem_singleton.mp y).symm z
structure DInv (i : Nat) (rs : List Rc) (os : List Int) : Prop where
  b : ∀ r ∈ rs, r.b < i
  e : ∀ r ∈ rs, ∀ e, r.e = some e → e < i
  p : ∀ (x y : Nat) (r q : Rc), x < y → rs[x]? = some r → rs[y]? = some q → r.b < q.b ∧ (r.h = q.h → ∃ e, r.e = some e ∧ e < q.b)
  o : ∀ r ∈ rs, r.h ∉ os → r.e.isSome = true
  m : ∀ h ∈ os, h ∈ rs.map Rc.h
theorem DInv.nil : DInv 0 [] [] := ⟨fun _ h => (by cases h), fun _ h => (by cases h), fun x y r q _ h => (by simp at h), fun _ h => (by cases h), fun _ h => (by cases h)⟩
theorem modify_h {rs : List Rc} {j : Nat} {f : Rc → Rc} (hf : ∀ r, (f r).h = r.h) : (rs.modify j f).map Rc.h = rs.map Rc.h := by
  apply List.ext_getElem?
  intro m
  rw [List.getElem?_map, List.getElem?_map, List.getElem?_modify]
  cases rs[m]? with
  | none => rfl
  | some r =>
    show some (if j = m then f r else r).h = some r.h
    by_cases z : j = m
    · rw [if_pos z, hf]
    · rw [if_neg z]
theorem DInv.step {i : Nat} {rs : List Rc} {os : List Int} (I : DInv i rs os) {e : Ev} (ok : oOk os e) : DInv (i + 1) (dstep i rs e) (oStep os e) ∧ ∀ h a, e = .fin h a → (lastI h (rs.map Rc.h)).isSome = true := by
  cases e with
  | beg h n v x =>
    have ok : h ∉ os := ok
    refine ⟨⟨fun r hr => ?_, fun r hr e he => ?_, fun x' y' r q hxy hx hy => ?_, fun r hr ho => ?_, fun k hk => ?_⟩, fun h a e => by cases e⟩
    · rcases List.mem_append.mp hr with z | z
      · have := I.b r z; omega
      · rw [List.mem_singleton.mp z]; exact Nat.lt_succ_self i
    · rcases List.mem_append.mp hr with z | z
      · have := I.e r z e he; omega
      · rw [List.mem_singleton.mp z] at he; cases he
    · have hy' : y' < (dstep i rs (.beg h n v x)).length := (List.getElem?_eq_some_iff.mp hy).1
      have hl : (dstep i rs (.beg h n v x)).length = rs.length + 1 := by show (rs ++ [_]).length = _; rw [List.length_append]; rfl
      have hx2 : rs[x']? = some r := by
        have : (rs ++ [_])[x']? = some r := hx
        rwa [List.getElem?_append_left (by omega)] at this
      by_cases z : y' < rs.length
      · have hy2 : rs[y']? = some q := by
          have : (rs ++ [_])[y']? = some q := hy
          rwa [List.getElem?_append_left z] at this
        exact I.p x' y' r q hxy hx2 hy2
      · have hy3 : (rs ++ [_])[y']? = some q := hy
        have ey : y' = rs.length := by omega
        subst ey
        rw [List.getElem?_append_right (Nat.le_refl _)] at hy3
        simp at hy3
        have mr := List.mem_of_getElem? hx2
        rw [← hy3]
        refine ⟨I.b r mr, fun hh => ?_⟩
        have : r.e.isSome = true := I.o r mr (by rw [hh]; exact ok)
        obtain ⟨e, he⟩ := Option.isSome_iff_exists.mp this
        exact ⟨e, he, I.e r mr e he⟩
    · rcases List.mem_append.mp hr with z | z
      · exact I.o r z fun y => ho (List.mem_append.mpr (.inl y))
      · rw [List.mem_singleton.mp z] at ho
        exact absurd (List.mem_append.mpr (.inr (List.mem_singleton.mpr rfl))) ho
    · show k ∈ (rs ++ [_]).map Rc.h
      rw [List.map_append]
      rcases List.mem_append.mp hk with z | z
      · exact List.mem_append.mpr (.inl (I.m k z))
      · rw [List.mem_singleton.mp z]
        exact List.mem_append.mpr (.inr (List.mem_singleton.mpr rfl))
  | fin h a =>
    have ok : h ∈ os := ok
    obtain ⟨j, hj⟩ := Option.isSome_iff_exists.mp (lastI_some _ (I.m h ok))
    refine ⟨?_, fun h' a' e => by cases e; rw [hj]; rfl⟩
    obtain ⟨g1, g2⟩ := lastI_get _ hj
    have hd : dstep i rs (.fin h a) = rs.modify j (fun r => { r with a := a, e := some i }) := by unfold dstep; dsimp only; rw [hj]
    rw [hd]
    have hs : oStep os (.fin h a) = os.filter fun k => decide (k ≠ h) := rfl
    rw [hs]
    rw [List.getElem?_map] at g1
    obtain ⟨rj, ej, hjh⟩ := Option.map_eq_some_iff.mp g1
    have get : ∀ m q, (rs.modify j (fun r => { r with a := a, e := some i }))[m]? = some q → ∃ r, rs[m]? = some r ∧ q.h = r.h ∧ q.b = r.b ∧ (m = j → q.e = some i) ∧ (m ≠ j → q = r) := fun m q hq => by
      rw [List.getElem?_modify] at hq
      obtain ⟨r, hr, e⟩ := Option.map_eq_some_iff.mp hq
      refine ⟨r, hr, ?_⟩
      by_cases z : j = m
      · rw [if_pos z] at e
        rw [← e]
        exact ⟨rfl, rfl, fun _ => rfl, fun y => absurd z.symm y⟩
      · rw [if_neg z] at e
        rw [← e]
        exact ⟨rfl, rfl, fun y => absurd y.symm z, fun _ => rfl⟩
    refine ⟨fun r hr => ?_, fun r hr e he => ?_, fun x' y' r q hxy hx hy => ?_, fun r hr ho => ?_, fun k hk => ?_⟩
    · obtain ⟨m, hm⟩ := List.mem_iff_getElem?.mp hr
      obtain ⟨r', h1, _, h3, _⟩ := get m r hm
      have := I.b r' (List.mem_of_getElem? h1)
      omega
    · obtain ⟨m, hm⟩ := List.mem_iff_getElem?.mp hr
      obtain ⟨r', h1, _, _, h4, h5⟩ := get m r hm
      by_cases z : m = j
      · rw [h4 z] at he
        cases he
        exact Nat.lt_succ_self i
      · rw [h5 z] at he
        have := I.e r' (List.mem_of_getElem? h1) e he
        omega
    · obtain ⟨r', r1, r2, r3, r4, r5⟩ := get x' r hx
      obtain ⟨q', q1, q2, q3, _⟩ := get y' q hy
      obtain ⟨p1, p2⟩ := I.p x' y' r' q' hxy r1 q1
      refine ⟨by omega, fun hh => ?_⟩
      by_cases z : x' = j
      · subst z
        rw [ej] at r1
        cases r1
        refine absurd ?_ (g2 y' hxy)
        rw [List.getElem?_map, q1]
        show some q'.h = some h
        rw [← q2, ← hh, r2, hjh]
      · rw [r5 z] at hh ⊢
        rw [q2] at hh
        obtain ⟨e, he, lt⟩ := p2 hh
        exact ⟨e, he, by omega⟩
    · obtain ⟨m, hm⟩ := List.mem_iff_getElem?.mp hr
      obtain ⟨r', h1, h2, _, h4, h5⟩ := get m r hm
      by_cases z : m = j
      · rw [h4 z]; rfl
      · rw [h5 z] at ho ⊢
        by_cases y : r'.h = h
        · have lt : m < j := by
            rcases Nat.lt_or_gt_of_ne z with l | l
            · exact l
            · exact absurd (by rw [List.getElem?_map, h1]; show some r'.h = _; rw [y]) (g2 m l)
          obtain ⟨_, p2⟩ := I.p m j r' rj lt h1 ej
          obtain ⟨e, he, _⟩ := p2 (by rw [y, hjh])
          rw [he]; rfl
        · exact I.o r' (List.mem_of_getElem? h1) fun w => ho (List.mem_filter.mpr ⟨w, decide_eq_true y⟩)
    · rw [modify_h (f := fun r => { r with a := a, e := some i }) (fun r => rfl)]
      exact I.m k (List.mem_filter.mp hk).1
theorem DInv.all : ∀ {es : List Ev} {i : Nat} {rs : List Rc} {os : List Int}, DInv i rs os → EWf os es → dWf i rs es ∧ ∃ os', DInv (i + es.length) (dAll i rs es) os'
  | [], i, rs, os, I, _ => ⟨trivial, os, I⟩
  | e :: es, i, rs, os, I, w => by
    obtain ⟨I1, h1⟩ := I.step w.1
    obtain ⟨h2, os', I2⟩ := DInv.all I1 w.2
    refine ⟨⟨h1, h2⟩, os', ?_⟩
    rw [List.length_cons, show i + (es.length + 1) = i + 1 + es.length by omega]
    exact I2
theorem valV_isSome {kvs : List (Key × V)} {k : Key} : (valV kvs k).isSome = true ↔ k ∈ kvs.map (·.1) := by
  induction kvs with
  | nil => simp [valV]
  | cons p r ih =>
    obtain ⟨pk, pv⟩ := p
    by_cases y : pk = k
    · subst y
      rw [valV_pos rfl]
      simp
    · rw [valV_neg y, ih, List.map_cons, List.mem_cons]
      exact ⟨fun z => .inr z, fun z => z.resolve_left fun x => y x.symm⟩
theorem putK_fresh {kvs : List (Key × V)} {k : Key} {v : V} (h : k ∉ kvs.map (·.1)) : putK kvs k v = kvs ++ [(k, v)] := by
  unfold putK
  rw [if_neg]
  intro z
  obtain ⟨p, hp, e⟩ := List.any_eq_true.mp z
  exact h (List.mem_map.mpr ⟨p, hp, of_decide_eq_true e⟩)
theorem forall2_mem {α β : Type} {R S : α → β → Prop} : ∀ {xs : List α} {ys : List β}, (∀ a b, b ∈ ys → R a b → S a b) → All2 R xs ys → All2 S xs ys
  | _, _, _, .nil => .nil
  | _, _, h, .cons a r => .cons (h _ _ List.mem_cons_self a) (forall2_mem (fun x y hy z => h x y (List.mem_cons_of_mem _ hy) z) r)
theorem all2_of_get {α β : Type} {R : α → β → Prop} : ∀ {xs : List α} {ys : List β}, ys.length = xs.length → (∀ (k : Nat) a b, xs[k]? = some a → ys[k]? = some b → R a b) → All2 R xs ys
  | [], [], _, _ => .nil
  | [], y :: ys, h, _ => by cases h
  | x :: xs, [], h, _ => by cases h
  | x :: xs, y :: ys, h, f => .cons (f 0 x y rfl rfl) (all2_of_get (by simpa using h) fun k a b ha hb => f (k + 1) a b (by rw [List.getElem?_cons_succ]; exact ha) (by rw [List.getElem?_cons_succ]; exact hb))
end
end K20
namespace K20
open PySem PySem.Spec PyProof.Rows TJ L2
section
variable {P : Program} {w : World} {mg : Str → Option Value} {base : Heap}
theorem nodup_le : ∀ {xs ys : List Int}, xs.Nodup → (∀ x ∈ xs, x ∈ ys) → xs.length ≤ ys.length
  | [], _, _, _ => Nat.zero_le _
  | x :: r, ys, nd, h => by
    rw [List.nodup_cons] at nd
    have hm := h x (List.mem_cons.mpr (.inl rfl))
    have := nodup_le (xs := r) (ys := ys.erase x) nd.2 fun y hy => (List.mem_erase_of_ne (fun e => nd.1 (by rw [← e]; exact hy))).mpr (h y (List.mem_cons.mpr (.inr hy)))
    rw [List.length_erase_of_mem hm] at this
    have pos : 0 < ys.length := List.length_pos_of_mem hm
    rw [List.length_cons]
    omega
def cyc (x : Int) : Int := if x > 1000000000 then x - 2000000001 else x
theorem nodup_range_map {f : Nat → Int} : ∀ n : Nat, (∀ i j, i < j → j < n → f i ≠ f j) → ((List.range n).map f).Nodup
  | 0, _ => .nil
  | n + 1, h => by
    rw [List.range_succ, List.map_append, List.nodup_append]
    refine ⟨nodup_range_map n fun i j a b => h i j a (by omega), by show [f n].Nodup; rw [List.nodup_cons]; exact ⟨List.not_mem_nil, .nil⟩, fun a ha b hb e => ?_⟩
    obtain ⟨i, hi, rfl⟩ := List.mem_map.mp ha
    rw [List.mem_singleton.mp hb] at e
    exact h i n (List.mem_range.mp hi) (Nat.lt_succ_self n) e
theorem cyc_few {s0 : Int} {ks : List Int} {j : Nat} (h1 : -1000000000 ≤ s0) (h2 : s0 ≤ 1000000000) (hj : j ≤ 1000) (h : ∀ i, i < j → cyc (s0 + i) ∈ ks) : j ≤ ks.length := by
  have := nodup_le (xs := (List.range j).map fun i => cyc (s0 + (i : Nat))) (ys := ks) (nodup_range_map j fun a b ab bj => by
    unfold cyc
    split <;> split <;> omega) fun x hx => by
    obtain ⟨i, hi, rfl⟩ := List.mem_map.mp hx
    exact h i (List.mem_range.mp hi)
  rwa [List.length_map, List.length_range] at this
def sp__law_name (K : PySem.W.Frag) : Sp := fun vs H Q _ => ∃ r : Addr, vs = [.ref r] ∧ RowAt H r ∧ ∀ (nm : Str) H', Rw r H H' → Q (.str nm) H'
theorem ok__law_name (T : TX (KX w.params) mg) (c__law_take : Cal P w (KX w.params) mg base "_law_take" ["row", "many"] 1 sp__law_take) : FnOk P w (KX w.params) mg base CX0 2 147 fd__law_name ["row"] (sp__law_name (KX w.params)) := by
  refine (F__law_name w.params).ok sc__law_name (fun vs H Q E h => ?_) (fun cdv A outer s H vs Q E hr h => ?_)
  · obtain ⟨r, rfl, _⟩ := h
    rfl
  · obtain ⟨r, rfl, R, q⟩ := h
    refine ⟨_, (pss_cons (ps_set (i := 1) sc__law_name.nd rfl (by first | exact Or.inl rfl | exact Or.inr rfl) pe_str)
      (pss_cons (ps_set (i := 2) sc__law_name.nd rfl (by first | exact Or.inl rfl | exact Or.inr rfl) pe_str)
      (pss_cons (ps_for PassesOwn.never rfl (pi_range1 rfl (T.no (n_range _)) (pa_cons (pe_op opAdd pe_int (pe_cal c__law_take (hr.mono (by first | decide | omega)) rfl (pa_cons (pv 0) (pa_cons pe_int pa_nil)))) pa_nil)) (pg_name (i := 3) sc__law_name.nd rfl (by first | exact Or.inl rfl | exact Or.inr rfl))
      (pss_one (ps_set (i := 2) sc__law_name.nd rfl (by first | exact Or.inl rfl | exact Or.inr rfl) (pe_op opAdd (pv 2) (pe_ix ix_seq (pv 1) (pe_cal c__law_take (hr.mono (by first | decide | omega)) rfl (pa_cons (pv 0) (pa_cons pe_int pa_nil))) (fun _ _ => rfl))))))
      (pss_one (ps_ret (pv 2)))))), ?_⟩
    have len26 : ("abcdefghijklmnopqrstuvwxyz" : Str).cps.toList.length = 26 := by decide +kernel
    have len26' : ("abcdefghijklmnopqrstuvwxyz" : Str).length ≤ sizeLine := by decide +kernel
    refine ⟨_, rfl, r, 8, rfl, R, by decide, by decide, fun t H1 w1 t0 t1 => .inl ⟨_, _, rfl, rfl, 1 + t, rfl, by omega, by omega, ?_⟩⟩
    refine for_range (lo := 0) (n := (1 + t).toNat) (fun i σ H' => Rw r H H' ∧ ∃ (nm : Str) (x3 : Option V), nm.length ≤ i ∧ σ = [some (.ref r), some (.str "abcdefghijklmnopqrstuvwxyz"), some (.str nm), x3]) ⟨w1, "", _, Nat.le_refl _, rfl⟩ ?_ ?_
    · rintro i σ H2 hi ⟨w2, nm, x3, ln, rfl⟩
      rw [Int.zero_add]
      refine g_name ?_
      refine ⟨_, rfl, _, rfl, _, rfl, r, 26, rfl, w2.r, by decide, by decide, fun t2 H3 w3 a b => ?_⟩
      obtain ⟨c, hc, _⟩ := atI_of (xs := ("abcdefghijklmnopqrstuvwxyz" : Str).cps.toList) a (by rw [len26]; exact b)
      have l1 : (⟨#[c]⟩ : Str).length = 1 := rfl
      refine .inr (.inr ⟨_, t2, c, rfl, rfl, len26', hc, .inr (.inl ⟨nm, ⟨#[c]⟩, rfl, rfl, by rw [l1]; exact Nat.le_trans (m := 100) (by omega) (by decide), ?_⟩)⟩)
      exact ⟨w2.trans w3, _, _, by rw [PySem.Str.length_append, l1]; omega, rfl⟩
    · rintro σ H2 ⟨w2, nm, x3, ln, rfl⟩
      exact ⟨_, rfl, q _ _ w2⟩
def sp__law_fresh (K : PySem.W.Frag) : Sp := fun vs H Q _ => ∃ (r u : Addr) (ks : List Int) (kvs : List (Key × V)), vs = [.ref r, .ref u] ∧ RowAt H r ∧ H u = some (.dK kvs) ∧ r ≠ u ∧ kvs.map (·.1) = ks.map Sum.inl ∧ ks.length ≤ 100 ∧ ∀ (i : Int) H', Rw r H H' → -1000000000 ≤ i → i ≤ 1000000000 → i ∉ ks → Q (.int i) (upd H' u (.dK (putK kvs (.inl i) (.bl true))))
theorem ok__law_fresh (T : TX (KX w.params) mg) (c__law_worth : Cal P w (KX w.params) mg base "_law_worth" ["row"] 2 sp__law_worth) : FnOk P w (KX w.params) mg base CX0 3 154 fd__law_fresh ["row", "used"] (sp__law_fresh (KX w.params)) := by
  refine (F__law_fresh w.params).ok sc__law_fresh (fun vs H Q E h => ?_) (fun cdv A outer s H vs Q E hr h => ?_)
  · obtain ⟨r, u, ks, kvs, rfl, _⟩ := h
    rfl
  · obtain ⟨r, u, ks, kvs, rfl, R, eu, nru, ek, lk, q⟩ := h
    refine ⟨_, (pss_cons (ps_set (i := 2) sc__law_fresh.nd rfl (by first | exact Or.inl rfl | exact Or.inr rfl) (pe_cal c__law_worth (hr.mono (by first | decide | omega)) rfl (pa_cons (pv 0) pa_nil)))
      (pss_cons (ps_while PassesOwn.never (pt_cmp (pc_din (hu_of hr) (pv 2) (pv 1)) (by with_unfolding_all rfl))
      (pss_cons (ps_set (i := 2) sc__law_fresh.nd rfl (by first | exact Or.inl rfl | exact Or.inr rfl) (pe_op opAdd (pv 2) pe_int))
      (pss_one (ps_if (pt_cmpR op_gt (pv 2) (pe_op op_pow pe_int pe_int) (nomark _))
      (pss_one (ps_set (i := 2) sc__law_fresh.nd rfl (by first | exact Or.inl rfl | exact Or.inr rfl) (pe_un un_neg (pe_op op_pow pe_int pe_int))))
      pss_nil))))
      (pss_cons (ps_dput (hu_of hr) (pv 1) (pv 2) pe_bl rfl)
      (pss_one (ps_ret (pv 2)))))), ?_⟩
    refine ⟨_, rfl, r, rfl, R, fun s0 H1 w1 b0 b1 => ?_⟩
    refine g_name ?_
    have eu1 : H1 u = some (.dK kvs) := w1.k _ _ (Ne.symm nru) eu
    have kin : ∀ i : Int, (valV kvs (.inl i)).isSome = true ↔ i ∈ ks := fun i => by
      rw [valV_isSome, ek]
      exact ⟨fun z => by obtain ⟨k, hk, e⟩ := List.mem_map.mp z; exact Sum.inl.inj e ▸ hk, fun z => List.mem_map.mpr ⟨i, z, rfl⟩⟩
    refine ⟨fun m σ H' => H' = H1 ∧ ∃ j : Nat, j ≤ ks.length ∧ m = 100 - j ∧ (∀ i : Nat, i < j → cyc (s0 + i) ∈ ks) ∧ σ = [some (.ref r), some (.ref u), some (.int (cyc (s0 + j)))], ⟨100, rfl, 0, Nat.zero_le _, rfl, fun _ z => absurd z (Nat.not_lt_zero _), ?_⟩, ?_⟩
    · have : cyc (s0 + ((0 : Nat) : Int)) = s0 := by unfold cyc; rw [if_neg (by omega)]; omega
      rw [this]
      rfl
    · rintro m σ H2 ⟨rfl, j, hj, rfl, hin, rfl⟩
      have cb : -1000000000 ≤ cyc (s0 + j) ∧ cyc (s0 + j) ≤ 1000000000 := by unfold cyc; split <;> omega
      have cs : cyc (s0 + ((j + 1 : Nat) : Int)) = if cyc (s0 + j) + 1 > 1000000000 then -1000000000 else cyc (s0 + j) + 1 := by
        unfold cyc
        split <;> split <;> split <;> omega
      refine ⟨_, rfl, _, rfl, u, _, rfl, DGet.k (k := .inl (cyc (s0 + j))) eu1, _, rfl, ?_⟩
      by_cases hk : cyc (s0 + j) ∈ ks
      · refine iteP ((kin _).mpr hk) ?_
        have hin' : ∀ i : Nat, i < j + 1 → cyc (s0 + i) ∈ ks := fun i hi => by
          rcases Nat.lt_or_ge i j with z | z
          · exact hin i z
          · have : i = j := by omega
            rw [this]; exact hk
        have hj' := cyc_few b0 b1 (j := j + 1) (by omega) hin'
        refine ⟨fun σ' H' => H' = H2 ∧ σ' = [some (.ref r), some (.ref u), some (.int (cyc (s0 + ((j + 1 : Nat) : Int))))], ?_, ?_⟩
        · rintro σ' H' ⟨rfl, rfl⟩
          exact ⟨100 - (j + 1), by omega, rfl, j + 1, hj', rfl, hin', rfl⟩
        · refine ⟨_, rfl, .inl ⟨_, _, rfl, rfl, ?_⟩⟩
          refine ⟨_, rfl, _, _, rfl, rfl, p9, _, _, rfl, rfl, _, rfl, ?_⟩
          rw [e9]
          by_cases z : cyc (s0 + j) + 1 > 1000000000
          · refine iteP (decide_eq_true z) ⟨_, _, rfl, rfl, p9, _, rfl, rfl, ?_⟩
            rw [cs, if_pos z, e9]
            rfl
          · refine iteN (fun e => z (of_decide_eq_true e)) ⟨rfl, ?_⟩
            rw [cs, if_neg z]
            rfl
      · refine iteN (fun e => hk ((kin _).mp e)) ?_
        refine ⟨_, rfl, _, rfl, u, _, rfl, DPut.k (k := .inl (cyc (s0 + j))) eu1 (Nat.lt_of_le_of_lt (m := 100) (by have := congrArg List.length ek; rw [List.length_map, List.length_map] at this; omega) (by decide)), ?_⟩
        exact ⟨_, rfl, q _ _ w1 cb.1 cb.2 hk⟩
end
end K20
namespace K20
open PySem PySem.Spec PyProof.Rows TJ L2
section
inductive TW (nm : Str) (wr : Int) : List Ev → List (Int × Bool) → List Int → Prop
  | nil : TW nm wr [] [] []
  | wri {es : List Ev} {os : List (Int × Bool)} {us : List Int} {i : Int} : TW nm wr es os us → wr ∉ os.map (·.1) → i ≠ 0 → i ∉ us → TW nm wr (es ++ [.beg wr (.str nm) (.str "write") (.int i)]) (os ++ [(wr, true)]) (us ++ [i])
  | rd {es : List Ev} {os : List (Int × Bool)} {us : List Int} {h : Int} : TW nm wr es os us → h ∉ os.map (·.1) → TW nm wr (es ++ [.beg h (.str nm) (.str "read") .non]) (os ++ [(h, false)]) us
  | fin {es : List Ev} {os : List (Int × Bool)} {us : List Int} {h : Int} {b : Bool} {a : V} : TW nm wr es os us → (h, b) ∈ os → (b = true → a = .str "ok") → (b = false → ∃ i, a = .int i) → TW nm wr (es ++ [.fin h a]) (os.filter fun k => decide (k.1 ≠ h)) us
theorem TW.us {nm : Str} {wr : Int} {es : List Ev} {os : List (Int × Bool)} {us : List Int} (h : TW nm wr es os us) : us.Nodup ∧ (0 : Int) ∉ us := by
  induction h with
  | nil => exact ⟨.nil, List.not_mem_nil⟩
  | wri _ _ h0 h1 ih =>
    refine ⟨List.nodup_append.mpr ⟨ih.1, by simp, fun a ha b hb e => ?_⟩, fun z => ?_⟩
    · rw [List.mem_singleton.mp hb] at e
      exact h1 (e ▸ ha)
    · rcases List.mem_append.mp z with z | z
      · exact ih.2 z
      · exact h0 (List.mem_singleton.mp z).symm
  | rd _ _ ih => exact ih
  | fin _ _ _ _ ih => exact ih
theorem map_filter_ne {os : List (Int × Bool)} {h : Int} : (os.filter fun k => decide (k.1 ≠ h)).map (·.1) = (os.map (·.1)).filter fun k => decide (k ≠ h) := by
  induction os with
  | nil => rfl
  | cons o os ih =>
    by_cases z : o.1 = h
    · rw [List.filter_cons_of_neg (by simp [z]), List.map_cons, List.filter_cons_of_neg (by simp [z]), ih]
    · rw [List.filter_cons_of_pos (by simp [z]), List.map_cons, List.map_cons, List.filter_cons_of_pos (by simp [z]), ih]
theorem TW.wf {nm : Str} {wr : Int} {es : List Ev} {os : List (Int × Bool)} {us : List Int} (h : TW nm wr es os us) : EWf [] es ∧ es.foldl oStep [] = os.map (·.1) := by
  induction h with
  | nil => exact ⟨trivial, rfl⟩
  | wri _ h0 _ _ ih =>
    refine ⟨ih.1.snoc (by rw [ih.2]; exact h0), ?_⟩
    rw [List.foldl_append, ih.2, List.map_append]
    rfl
  | rd _ h0 ih =>
    refine ⟨ih.1.snoc (by rw [ih.2]; exact h0), ?_⟩
    rw [List.foldl_append, ih.2, List.map_append]
    rfl
  | fin _ h0 _ _ ih =>
    refine ⟨ih.1.snoc (by rw [ih.2]; exact List.mem_map.mpr ⟨_, h0, rfl⟩), ?_⟩
    rw [List.foldl_append, ih.2, map_filter_ne]
    rfl
theorem dAll_snoc : ∀ {es : List Ev} {i : Nat} {rs : List Rc} {e : Ev}, dAll i rs (es ++ [e]) = dstep (i + es.length) (dAll i rs es) e
  | [], i, rs, e => rfl
  | x :: es, i, rs, e => by
    show dAll (i + 1) (dstep i rs x) (es ++ [e]) = dstep (i + (es.length + 1)) (dAll (i + 1) (dstep i rs x) es) e
    rw [dAll_snoc, show i + (es.length + 1) = i + 1 + es.length by omega]
def isW (r : Rc) : Bool := decide (r.v = .str "write")
def intV : V → Int
  | .int i => i
  | _ => 0
def RdG (r : Rc) : Prop := r.v = .str "read" ∧ r.x = .non ∧ ∀ e, r.e = some e → r.a = .int (intV r.a)
def WrG (wr : Int) (r : Rc) : Prop := r.v = .str "write" ∧ r.h = wr ∧ r.x = .int (intV r.x) ∧ ∀ e, r.e = some e → r.a = .str "ok"
theorem rd_ne_wr : (V.str "read") ≠ .str "write" := by decide +kernel
theorem WrG.w {wr : Int} {r : Rc} (h : WrG wr r) : isW r = true := decide_eq_true h.1
theorem RdG.w {r : Rc} (h : RdG r) : isW r = false := decide_eq_false fun e => rd_ne_wr (h.1.symm.trans e)
structure TWr (wr : Int) (rs : List Rc) (os : List (Int × Bool)) (us : List Int) : Prop where
  g : ∀ r ∈ rs, RdG r ∨ WrG wr r
  u : (rs.filter isW).map (fun r => intV r.x) = us
  o : ∀ h b, (h, b) ∈ os → ∃ j r, lastI h (rs.map Rc.h) = some j ∧ rs[j]? = some r ∧ r.v = .str (if b = true then "write" else "read")
theorem filter_modify {f : Rc → Rc} (hw : ∀ r, isW (f r) = isW r) (hx : ∀ r, (f r).x = r.x) : ∀ (rs : List Rc) (j : Nat), ((rs.modify j f).filter isW).map (fun r => intV r.x) = (rs.filter isW).map (fun r => intV r.x)
  | [], j => by cases j <;> rfl
  | r :: rs, 0 => by
    show (((f r) :: rs).filter isW).map _ = _
    cases h : isW r with
    | true => rw [List.filter_cons_of_pos (by rw [hw, h]), List.filter_cons_of_pos h, List.map_cons, List.map_cons, hx]
    | false => rw [List.filter_cons_of_neg (by rw [hw, h]; decide), List.filter_cons_of_neg (by rw [h]; decide)]
  | r :: rs, j + 1 => by
    show ((r :: rs.modify j f).filter isW).map _ = _
    cases h : isW r with
    | true => rw [List.filter_cons_of_pos h, List.filter_cons_of_pos h, List.map_cons, List.map_cons, filter_modify hw hx rs j]
    | false => rw [List.filter_cons_of_neg (by rw [h]; decide), List.filter_cons_of_neg (by rw [h]; decide), filter_modify hw hx rs j]
theorem TW.rs {nm : Str} {wr : Int} {es : List Ev} {os : List (Int × Bool)} {us : List Int} (h : TW nm wr es os us) : TWr wr (dAll 0 [] es) os us := by
  have beg : ∀ {rs : List Rc} {os : List (Int × Bool)} {us us' : List Int} (k : Int) (b : Bool) (r : Rc), TWr wr rs os us → k ∉ os.map (·.1) → r.h = k → (RdG r ∨ WrG wr r) → r.v = .str (if b = true then "write" else "read") → us' = us ++ (if b = true then [intV r.x] else []) → TWr wr (rs ++ [r]) (os ++ [(k, b)]) us' := by
    intro rs os us us' k b r I hk hr hg hv hu
    refine ⟨fun q hq => ?_, ?_, fun h c hc => ?_⟩
    · rcases List.mem_append.mp hq with z | z
      · exact I.g q z
      · rw [List.mem_singleton.mp z]; exact hg
    · rw [List.filter_append, List.map_append, I.u, hu]
      congr 1
      cases b with
      | true => rw [List.filter_cons_of_pos (show isW r = true from decide_eq_true hv)]; rfl
      | false => rw [List.filter_cons_of_neg (show ¬ isW r = true from fun z => rd_ne_wr (hv.symm.trans (of_decide_eq_true z)))]; rfl
    · rw [List.map_append]
      show ∃ j q, lastI h (rs.map Rc.h ++ [r.h]) = some j ∧ _
      rw [lastI_snoc, hr]
      rcases List.mem_append.mp hc with z | z
      · have ne : ¬ k = h := fun e => hk (e ▸ List.mem_map.mpr ⟨_, z, rfl⟩)
        obtain ⟨j, q, h1, h2, h3⟩ := I.o h c z
        refine ⟨j, q, by rw [if_neg ne]; exact h1, ?_, h3⟩
        rw [List.getElem?_append_left (List.getElem?_eq_some_iff.mp h2).1]
        exact h2
      · have e := List.mem_singleton.mp z
        cases e
        refine ⟨rs.length, r, by rw [if_pos rfl, List.length_map], ?_, hv⟩
        rw [List.getElem?_append_right (Nat.le_refl _), Nat.sub_self]
        rfl
  induction h with
  | nil => exact ⟨fun _ h => absurd h List.not_mem_nil, rfl, fun _ _ h => absurd h List.not_mem_nil⟩
  | @wri es os us i _ h0 _ _ ih =>
    rw [dAll_snoc]
    exact beg wr true ⟨wr, .str nm, .str "write", .int i, .non, 0 + es.length, none⟩ ih h0 rfl (.inr ⟨rfl, rfl, rfl, fun e z => by cases z⟩) rfl rfl
  | @rd es os us h _ h0 ih =>
    rw [dAll_snoc]
    exact beg h false ⟨h, .str nm, .str "read", .non, .non, 0 + es.length, none⟩ ih h0 rfl (.inl ⟨rfl, rfl, fun e z => by cases z⟩) rfl (List.append_nil _).symm
  | @fin es os us h b a _ h0 ht hf ih =>
    rw [dAll_snoc]
    obtain ⟨j, r, h1, h2, h3⟩ := ih.o h b h0
    have hd : ∀ i, dstep i (dAll 0 [] es) (.fin h a) = (dAll 0 [] es).modify j (fun r => { r with a := a, e := some i }) := fun i => by unfold dstep; dsimp only; rw [h1]
    rw [hd]
    generalize 0 + es.length = i
    generalize hrs : dAll 0 [] es = rs at ih h1 h2 h3
    refine ⟨fun q hq => ?_, ?_, fun k c hc => ?_⟩
    · obtain ⟨m, hm⟩ := List.mem_iff_getElem?.mp hq
      rw [List.getElem?_modify] at hm
      obtain ⟨q', hq', e⟩ := Option.map_eq_some_iff.mp hm
      have gq := ih.g q' (List.mem_of_getElem? hq')
      by_cases z : j = m
      · subst z
        rw [if_pos rfl] at e
        rw [h2] at hq'
        cases hq'
        subst e
        cases b with
        | true =>
          have v : r.v = .str "write" := h3
          rcases gq with g | g
          · exact absurd (g.1.symm.trans v) rd_ne_wr
          · exact .inr ⟨g.1, g.2.1, g.2.2.1, fun _ _ => ht rfl⟩
        | false =>
          have v : r.v = .str "read" := h3
          rcases gq with g | g
          · obtain ⟨x, hx⟩ := hf rfl
            exact .inl ⟨g.1, g.2.1, fun _ _ => by show a = .int (intV a); rw [hx]; rfl⟩
          · exact absurd (v.symm.trans g.1) rd_ne_wr
      · rw [if_neg z] at e
        rw [← e]
        exact gq
    · rw [filter_modify (f := fun r => { r with a := a, e := some i }) (fun _ => rfl) (fun _ => rfl)]
      exact ih.u
    · rw [modify_h (f := fun r => { r with a := a, e := some i }) (fun r => rfl)]
      obtain ⟨j', r', g1, g2, g3⟩ := ih.o k c (List.mem_filter.mp hc).1
      refine ⟨j', if j = j' then { r' with a := a, e := some i } else r', g1, ?_, ?_⟩
      · rw [List.getElem?_modify, g2]
        rfl
      · by_cases z : j = j'
        · rw [if_pos z]; exact g3
        · rw [if_neg z]; exact g3
def sinceF (rs : List Rc) (x : Int) : Option Int := rs.foldl (fun (o : Option Int) r => if isW r = true ∧ x = intV r.x then some (r.b : Int) else o) (if x = 0 then some (-1) else none)
theorem take_snoc {rs : List Rc} {i : Nat} {r : Rc} (h : rs[i]? = some r) : rs.take (i + 1) = rs.take i ++ [r] := by
  rw [List.take_succ, h]
  rfl
def Bad (rs : List Rc) (i j : Nat) : Prop := ∃ (r q : Rc) (e f : Nat) (s t : Int), rs[i]? = some r ∧ rs[j]? = some q ∧ r.v = .str "read" ∧ q.v = .str "read" ∧ r.e = some e ∧ q.e = some f ∧ e < q.b ∧ sinceF rs (intV r.a) = some s ∧ sinceF rs (intV q.a) = some t ∧ t < s
def FstB (rs : List Rc) (i j : Nat) : Prop := Bad rs i j ∧ ∀ i' j', Bad rs i' j' → i < i' ∨ (i = i' ∧ j ≤ j')
def EndsB (rs : List Rc) : Prop := ∀ r ∈ rs, ∀ e, r.e = some e → r.b < e
theorem EndsB.all : ∀ {es : List Ev} {i : Nat} {rs : List Rc}, EndsB rs → (∀ r ∈ rs, r.b < i) → EndsB (dAll i rs es) ∧ ∀ r ∈ dAll i rs es, r.b < i + es.length
  | [], i, rs, h, hb => ⟨h, hb⟩
  | e :: es, i, rs, h, hb => by
    have key : EndsB (dstep i rs e) ∧ ∀ r ∈ dstep i rs e, r.b < i + 1 := by
      cases e with
      | beg k n v x =>
        have hm : dstep i rs (.beg k n v x) = rs ++ [⟨k, n, v, x, .non, i, none⟩] := rfl
        rw [hm]
        refine ⟨fun r hr e he => ?_, fun r hr => ?_⟩
        · rcases List.mem_append.mp hr with z | z
          · exact h r z e he
          · rw [List.mem_singleton.mp z] at he; cases he
        · rcases List.mem_append.mp hr with z | z
          · have := hb r z; omega
          · rw [List.mem_singleton.mp z]; exact Nat.lt_succ_self i
      | fin k a =>
        cases hl : lastI k (rs.map Rc.h) with
        | none =>
          have hd : dstep i rs (.fin k a) = rs := by unfold dstep; dsimp only; rw [hl]
          rw [hd]
          exact ⟨h, fun r hr => Nat.lt_succ_of_lt (hb r hr)⟩
        | some j =>
          have hd : dstep i rs (.fin k a) = rs.modify j (fun r => { r with a := a, e := some i }) := by unfold dstep; dsimp only; rw [hl]
          rw [hd]
          have get : ∀ q ∈ rs.modify j (fun r => { r with a := a, e := some i }), ∃ r ∈ rs, q.b = r.b ∧ (q.e = some i ∨ q.e = r.e) := fun q hq => by
            obtain ⟨m, hm⟩ := List.mem_iff_getElem?.mp hq
            rw [List.getElem?_modify] at hm
            obtain ⟨r, hr, e⟩ := Option.map_eq_some_iff.mp hm
            refine ⟨r, List.mem_of_getElem? hr, ?_⟩
            by_cases z : j = m
            · rw [if_pos z] at e; rw [← e]; exact ⟨rfl, .inl rfl⟩
            · rw [if_neg z] at e; rw [← e]; exact ⟨rfl, .inr rfl⟩
          refine ⟨fun q hq e he => ?_, fun q hq => ?_⟩
          · obtain ⟨r, hr, e1, e2⟩ := get q hq
            rcases e2 with e2 | e2
            · rw [e2] at he; cases he; rw [e1]; exact hb r hr
            · rw [e1]; exact h r hr e (by rw [← e2]; exact he)
          · obtain ⟨r, hr, e1, _⟩ := get q hq
            have := hb r hr
            omega
    obtain ⟨h1, h2⟩ := EndsB.all (es := es) key.1 key.2
    refine ⟨h1, fun r hr => ?_⟩
    have := h2 r hr
    rw [List.length_cons]
    omega
theorem addI_nodup : ∀ (us ns : List Int), us.Nodup → (∀ u ∈ us, u ∉ ns) → (us.foldl addI ns).length = ns.length + us.length
  | [], ns, _, _ => rfl
  | u :: us, ns, nd, h => by
    rw [List.nodup_cons] at nd
    have e : addI ns u = ns ++ [u] := by unfold addI; rw [if_neg (h u (.head _))]
    rw [List.foldl_cons, e, addI_nodup us (ns ++ [u]) nd.2 fun v hv z => ?_]
    · simp only [List.length_append, List.length_cons, List.length_nil]; omega
    · rcases List.mem_append.mp z with z | z
      · exact h v (.tail _ hv) z
      · rw [List.mem_singleton.mp z] at hv
        exact nd.1 hv
theorem addI_alike {w : Int} : ∀ (us ns : List Int), (∀ u ∈ us, u = w) → (ns = [] ∨ ns = [w]) → (us.foldl addI ns).length ≤ 1
  | [], ns, _, h => by rcases h with rfl | rfl <;> simp
  | u :: us, ns, hu, h => by
    have e := hu u (.head _)
    subst e
    rw [List.foldl_cons]
    refine addI_alike (w := u) us _ (fun v hv => hu v (.tail _ hv)) (.inr ?_)
    rcases h with rfl | rfl
    · rfl
    · unfold addI; rw [if_pos (List.mem_singleton.mpr rfl)]
end
end K20
namespace K20
open PySem PySem.Spec PyProof.Rows TJ L2
section
variable {P : Program} {w : World} {mg : Str → Option Value} {base : Heap}
theorem e12 : (10 : Int) ^ (12 : Int).toNat = 1000000000000 := by decide
theorem p12 : CPow 10 12 := ⟨by decide, by decide, by decide⟩
def sp__law_answer (K : PySem.W.Frag) : Sp := fun vs H Q _ => ∃ (r l : Addr) (ws : List Int), vs = [.ref r, .ref l] ∧ RowAt H r ∧ H l = some (.lst (ws.map V.int)) ∧ r ≠ l ∧ 0 < ws.length ∧ ws.length ≤ 100 ∧ ∀ (i : Int) H', Rw r H H' → Q (.int i) H'
theorem ok__law_answer (T : TX (KX w.params) mg) (c__law_take : Cal P w (KX w.params) mg base "_law_take" ["row", "many"] 1 sp__law_take) (c__law_worth : Cal P w (KX w.params) mg base "_law_worth" ["row"] 2 sp__law_worth) : FnOk P w (KX w.params) mg base CX0 3 161 fd__law_answer ["row", "worths"] (sp__law_answer (KX w.params)) := by
  refine (F__law_answer w.params).ok sc__law_answer (fun vs H Q E h => ?_) (fun cdv A outer s H vs Q E hr h => ?_)
  · obtain ⟨r, l, ws, rfl, _⟩ := h
    rfl
  · obtain ⟨r, l, ws, rfl, R, el, nrl, w0, w1, q⟩ := h
    refine q_of (qss_cons (QS.mk (ps_set (i := 2) sc__law_answer.nd rfl (by first | exact Or.inl rfl | exact Or.inr rfl) (pe_cal c__law_take (hr.mono (by first | decide | omega)) rfl (pa_cons (pv 0) (pa_cons pe_int pa_nil)))))
      (qss_cons (QS.mk (ps_if (pt_cmpR opEq (pv 2) pe_int (nomark _))
      (pss_one (ps_ret (pe_ix ix_seq (pe_lst (pa_cons (pe_cal c__law_worth (hr.mono (by first | decide | omega)) rfl (pa_cons (pv 0) pa_nil)) (pa_cons (pe_cal c__law_worth (hr.mono (by first | decide | omega)) rfl (pa_cons (pv 0) pa_nil)) (pa_cons (pe_op op_pow pe_int pe_int) (pa_cons (pe_un un_neg (pe_op op_pow pe_int pe_int)) (pa_cons (pe_op opAdd (pe_op op_pow pe_int pe_int) pe_int) pa_nil)))))) (pe_cal c__law_take (hr.mono (by first | decide | omega)) rfl (pa_cons (pv 0) (pa_cons pe_int pa_nil))) (fun _ _ => rfl))))
      pss_nil))
      (qss_cons (qs_set (i := 3) sc__law_answer.nd rfl (by first | exact Or.inl rfl | exact Or.inr rfl) (qe_ix ix_seq (qe_lst (qa_cons (QE.mk pe_int) (qa_cons (QE.mk pe_int) (qa_cons (QE.mk pe_int) (qa_cons (QE.mk pe_int) (qa_cons (QE.mk pe_int) (qa_cons (QE.mk pe_int) (qa_cons (QE.mk pe_int) (qa_cons (QE.mk (pe_cal c__law_take (hr.mono (by first | decide | omega)) rfl (pa_cons (pv 0) (pa_cons pe_int pa_nil)))) qa_nil))))))))) (QE.mk (pv 2)) (fun _ _ => rfl)))
      (qss_one (QS.mk (ps_ret (pe_ix ix_seq (pv 1) (pe_callB (call_max2 rfl) rfl (T.no (n_max _)) boot_max (pa_cons pe_int (pa_cons (pe_op op_sub (pe_op op_sub (pe_callB callLen rfl (T.no (n_len _)) boot_len (pa_cons (pv 1) pa_nil)) pe_int) (pv 3)) pa_nil))) (fun _ _ => rfl)))))))) ?_
    refine seq_asg ?_
    refine ⟨_, rfl, r, 9, rfl, R, by decide, by decide, fun t H1 k1 h0 h1 => ?_⟩
    refine g_name ?_
    refine sq_if ?_
    refine ⟨_, rfl, rfl, _, rfl, ?_⟩
    by_cases z : t = 8
    · refine iteP (decide_eq_true (by rw [z])) ?_
      refine sq_ret ?_
      refine ⟨_, rfl, r, rfl, k1.r, fun i2 H2 k2 _ _ => ⟨_, rfl, r, rfl, k2.r, fun i3 H3 k3 _ _ => ?_⟩⟩
      refine ⟨_, _, rfl, rfl, p12, _, _, rfl, rfl, p12, _, rfl, _, _, rfl, rfl, p9, .inl ⟨_, _, rfl, rfl, (show (5 : Nat) ≤ sizeLine by decide), fun p hp => ?_⟩⟩
      refine ⟨_, rfl, r, 5, rfl, k3.r.same (Same.upd hp), by decide, by decide, fun t4 H4 k4 h40 h41 => ?_⟩
      rw [e9, e12] at k4
      obtain ⟨v, hv, hm⟩ := atI_of (xs := [V.int i2, .int i3, .int 1000000000000, .int (-1000000000000), .int (1000000000 + 1)]) h40 h41
      refine .inl ⟨p, _, _, v, rfl, rfl, SqL.of (k4.k _ _ (k3.r.fresh hp) upd_same), hv, ?_⟩
      have k5 : Rw r H H4 := (((k1.trans k2).trans k3).same (Same.upd hp)).trans k4
      simp only [List.mem_cons, List.not_mem_nil, or_false] at hm
      rcases hm with rfl | rfl | rfl | rfl | rfl <;> exact q _ _ k5
    · refine iteN (fun e => z (by have := of_decide_eq_true e; injection this)) ?_
      refine t_nx (seq_asg ?_)
      refine ⟨_, rfl, r, 24, rfl, k1.r, by decide, by decide, fun t5 H5 k5 h50 h51 => ?_⟩
      refine ⟨(show (8 : Nat) ≤ sizeLine by decide), fun p hp => ?_⟩
      obtain ⟨v, hv, hm⟩ := atI_of (xs := [V.int 0, .int 0, .int 0, .int 0, .int 1, .int 1, .int 2, .int t5]) h0 (show t < 8 by omega)
      obtain ⟨bk, rfl, b0⟩ : ∃ bk : Int, v = .int bk ∧ 0 ≤ bk := by
        simp only [List.mem_cons, List.not_mem_nil, or_false] at hm
        rcases hm with rfl | rfl | rfl | rfl | rfl | rfl | rfl | rfl <;> exact ⟨_, rfl, by omega⟩
      refine ⟨_, rfl, .inl ⟨p, _, t, _, rfl, rfl, SqL.of upd_same, hv, ?_⟩⟩
      refine g_name ?_
      have s6 := Same.upd (o := .lst [V.int 0, .int 0, .int 0, .int 0, .int 1, .int 1, .int 2, .int t5]) hp
      have k6 : Rw r H (upd H5 p (.lst [V.int 0, .int 0, .int 0, .int 0, .int 1, .int 1, .int 2, .int t5])) := (k1.trans k5).same s6
      have e6 := k6.k _ _ (Ne.symm nrl) el
      generalize upd H5 p (.lst [V.int 0, .int 0, .int 0, .int 0, .int 1, .int 1, .int 2, .int t5]) = H6 at k6 e6 ⊢
      have lm : (ws.map V.int).length = ws.length := List.length_map ..
      have hx : ∀ L : Int, 0 ≤ L → L < ws.length → ∃ i : Int, atI (ws.map V.int) L = some (.int i) := fun L a b => by
        obtain ⟨v, hv, hm⟩ := atI_of (xs := ws.map V.int) a (by rw [lm]; exact b)
        obtain ⟨i, _, rfl⟩ := List.mem_map.mp hm
        exact ⟨i, hv⟩
      have hL : ∀ n : Int, n = (ws.length : Int) → 0 ≤ (if n - 1 - bk > 0 then n - 1 - bk else 0) ∧ (if n - 1 - bk > 0 then n - 1 - bk else 0) < ws.length := fun n hn => by split <;> omega
      obtain ⟨l0, l1⟩ := hL ((ws.map V.int).length : Nat) (by rw [lm])
      obtain ⟨i, hi⟩ := hx _ l0 l1
      refine sq_ret ?_
      refine ⟨_, rfl, _, rfl, .inl ⟨l, _, rfl, .inl (SqL.of e6), ?_⟩⟩
      refine ⟨_, _, rfl, rfl, _, rfl, _, _, rfl, rfl, _, _, rfl, ?_⟩
      exact .inl ⟨l, _, _, _, rfl, rfl, SqL.of e6, hi, q _ _ k6⟩
end
end K20
namespace K20
open PySem PySem.Spec PyProof.Rows TJ L2
section
variable {P : Program} {w : World} {mg : Str → Option Value} {base : Heap}
def vbS (b : Bool) : Str := if b = true then "write" else "read"
def busyK (os : List (Int × Bool)) : List (Key × V) := os.map fun o => (Sum.inl o.1, V.str (vbS o.2))
theorem busy_keys (os : List (Int × Bool)) : (busyK os).map (·.1) = (os.map (·.1)).map Sum.inl := by unfold busyK; rw [List.map_map, List.map_map]; rfl
theorem busy_in {os : List (Int × Bool)} {h : Int} : (valV (busyK os) (.inl h)).isSome = true ↔ h ∈ os.map (·.1) := by
  rw [valV_isSome, busy_keys]
  exact ⟨fun z => by obtain ⟨k, hk, e⟩ := List.mem_map.mp z; exact Sum.inl.inj e ▸ hk, fun z => List.mem_map.mpr ⟨h, z, rfl⟩⟩
theorem busy_get : ∀ {os : List (Int × Bool)} {h : Int}, h ∈ os.map (·.1) → ∃ b, (h, b) ∈ os ∧ valV (busyK os) (.inl h) = some (.str (vbS b))
  | [], _, z => absurd z List.not_mem_nil
  | (k, c) :: os, h, z => by
    by_cases e : k = h
    · subst e
      exact ⟨c, .head _, valV_pos rfl⟩
    · rcases List.mem_cons.mp z with y | y
      · exact absurd y.symm e
      · obtain ⟨b, h1, h2⟩ := busy_get (os := os) y
        exact ⟨b, .tail _ h1, by show valV ((Sum.inl k, _) :: busyK os) _ = _; rw [valV_neg (fun e' => e (Sum.inl.inj e'))]; exact h2⟩
theorem busy_drop : ∀ {os : List (Int × Bool)} {h : Int}, dropK (busyK os) (.inl h) = busyK (os.filter fun k => decide (k.1 ≠ h))
  | [], _ => rfl
  | (k, c) :: os, h => by
    show dropK ((Sum.inl k, _) :: busyK os) _ = _
    by_cases e : k = h
    · rw [dropK_pos (by rw [e]), List.filter_cons_of_neg (by simp [e]), busy_drop]
    · rw [dropK_neg (fun e' => e (Sum.inl.inj e')), List.filter_cons_of_pos (by simp [e]), busy_drop]
      rfl
theorem busy_put {os : List (Int × Bool)} {h : Int} {b : Bool} (n : h ∉ os.map (·.1)) : putK (busyK os) (.inl h) (.str (vbS b)) = busyK (os ++ [(h, b)]) := by
  rw [putK_fresh (by rw [busy_keys]; exact fun z => n (by obtain ⟨k, hk, e⟩ := List.mem_map.mp z; exact Sum.inl.inj e ▸ hk))]
  unfold busyK
  rw [List.map_append]
  rfl
theorem atI_last {α : Type} (xs : List α) (x : α) : atI (xs ++ [x]) (-1) = some x := by
  unfold atI ixN
  rw [if_neg (by decide), if_pos (by rw [List.length_append, List.length_singleton]; omega)]
  show (xs ++ [x])[((-1 : Int) + ((xs ++ [x]).length : Nat)).toNat]? = _
  rw [show ((-1 : Int) + ((xs ++ [x]).length : Nat)).toNat = xs.length by rw [List.length_append, List.length_singleton]; omega, List.getElem?_append_right (Nat.le_refl _), Nat.sub_self]
  rfl
theorem rw_tups {K : PySem.W.Frag} {r : Addr} {H H' : Hp} (R : RowAt H r) (h : Rw r H H') : Tups K H H' := fun a xs z => by
  obtain ⟨x, y, c, e, _⟩ := R
  rcases z with (z | ⟨ob, z⟩) | z
  · exact .inl (.inl (h.k _ _ (fun n => by rw [n, e] at z; cases z) z))
  · exact .inl (.inr ⟨ob, h.k _ _ (fun n => by rw [n, e] at z; cases z) z⟩)
  · exact .inr z
def EvJ (K : PySem.W.Frag) (nm : Str) (wr : Int) (H : Hp) (u wl bz ev : Addr) (i : Nat) : Prop :=
  ∃ ku os us ys es, H u = some (.dK ku) ∧ ku.map (·.1) = ((0 : Int) :: us).map Sum.inl ∧ H wl = some (.lst (((0 : Int) :: us).map V.int)) ∧ H bz = some (.dK (busyK os)) ∧ H ev = some (.lst ys) ∧ All2 (EvAt K H) es ys ∧ TW nm wr es os us ∧ es.length ≤ i ∧ us.length ≤ i ∧ os.length ≤ i
def sp__law_events (K : PySem.W.Frag) : Sp := fun vs H Q _ => ∃ (c hd : Addr) (wy : Int) (nm : Str) (ns : List Int), vs = [.ref c, .int wy, .ref hd, .str nm] ∧ SqL K H c (ns.map V.int) ∧ c ≠ hd ∧ ns.length ≤ 63 ∧ RowAt H hd ∧
  ∀ l ys es os us wr H', Rw hd H H' → H' l = some (.lst ys) → All2 (EvAt K H') es ys → TW nm wr es os us → es.length ≤ 63 → Q (.ref l) H'
theorem ok__law_events (T : TX (KX w.params) mg) (c__law_take : Cal P w (KX w.params) mg base "_law_take" ["row", "many"] 1 sp__law_take) (c__law_stream : Cal P w (KX w.params) mg base "_law_stream" ["cell", "way"] 1 sp__law_stream) (c__law_answer : Cal P w (KX w.params) mg base "_law_answer" ["row", "worths"] 3 (sp__law_answer (KX w.params))) (c__law_fresh : Cal P w (KX w.params) mg base "_law_fresh" ["row", "used"] 3 (sp__law_fresh (KX w.params))) : FnOk P w (KX w.params) mg base CX0 4 168 fd__law_events ["cells", "way", "head", "name"] (sp__law_events (KX w.params)) := by
  refine (F__law_events w.params).ok sc__law_events (fun vs H Q E h => ?_) (fun cdv A outer s H vs Q E hr h => ?_)
  · obtain ⟨c, hd, wy, nm, ns, rfl, _⟩ := h
    rfl
  · obtain ⟨c, hd, wy, nm, ns, rfl, sc0, nch, ln, R0, q⟩ := h
    refine ⟨_, (pss_cons (ps_set (i := 4) sc__law_events.nd rfl (by first | exact Or.inl rfl | exact Or.inr rfl) (pe_op opAdd pe_int (pe_cal c__law_take (hr.mono (by first | decide | omega)) rfl (pa_cons (pv 2) (pa_cons pe_int pa_nil)))))
      (pss_cons (ps_set (i := 5) sc__law_events.nd rfl (by first | exact Or.inl rfl | exact Or.inr rfl) (pe_cal c__law_take (hr.mono (by first | decide | omega)) rfl (pa_cons (pv 2) (pa_cons (pv 4) pa_nil))))
      (pss_cons (ps_set (i := 6) sc__law_events.nd rfl (by first | exact Or.inl rfl | exact Or.inr rfl) (pe_disp (pps_cons pe_int pe_bl pps_nil) rfl rfl (by simp) (by decide)))
      (pss_cons (ps_set (i := 7) sc__law_events.nd rfl (by first | exact Or.inl rfl | exact Or.inr rfl) (pe_lst (pa_cons pe_int pa_nil)))
      (pss_cons (ps_set (i := 8) sc__law_events.nd rfl (by first | exact Or.inl rfl | exact Or.inr rfl) pe_dnewK)
      (pss_cons (ps_set (i := 9) sc__law_events.nd rfl (by first | exact Or.inl rfl | exact Or.inr rfl) (pe_lst pa_nil))
      (pss_cons (ps_for PassesOwn.never rfl (pi_list (pv 0)) (pg_name (i := 10) sc__law_events.nd rfl (by first | exact Or.inl rfl | exact Or.inr rfl))
      (pss_cons (ps_set (i := 11) sc__law_events.nd rfl (by first | exact Or.inl rfl | exact Or.inr rfl) (pe_cal c__law_stream (hr.mono (by first | decide | omega)) rfl (pa_cons (pe_op op_fdivB (pv 10) pe_int) (pa_cons (pv 1) pa_nil))))
      (pss_cons (ps_set (i := 12) sc__law_events.nd rfl (by first | exact Or.inl rfl | exact Or.inr rfl) (pe_cal c__law_take (hr.mono (by first | decide | omega)) rfl (pa_cons (pv 11) (pa_cons (pv 4) pa_nil))))
      (pss_one (ps_if (pt_cmp (pc_din (hu_of hr) (pv 12) (pv 8)) (by with_unfolding_all rfl))
      (pss_cons (ps_set (i := 13) sc__law_events.nd rfl (by first | exact Or.inl rfl | exact Or.inr rfl) pe_str)
      (pss_cons (ps_if (pt_cmpR opEq (pe_dpop1 (pv 8) (pv 12) ⟨rfl, rfl, rfl, rfl⟩) pe_str (nomark _))
      (pss_one (ps_set (i := 13) sc__law_events.nd rfl (by first | exact Or.inl rfl | exact Or.inr rfl) (pe_cal c__law_answer (hr.mono (by first | decide | omega)) rfl (pa_cons (pv 11) (pa_cons (pv 7) pa_nil)))))
      pss_nil)
      (pss_one (ps_expr (pe_append (pv 9) (pa_cons (pe_tup (pa_cons pe_str (pa_cons (pv 12) (pa_cons (pv 13) pa_nil)))) pa_nil))))))
      (pss_one (ps_if (PW.pt (pw_and (pt_cmpR opEq (pv 12) (pv 5) (nomark _)) (pw_and1 (pt_cmpR op_gt (pe_cal c__law_take (hr.mono (by first | decide | omega)) rfl (pa_cons (pv 11) (pa_cons pe_int pa_nil))) pe_int (nomark _)))))
      (pss_cons (ps_expr (pe_append (pv 7) (pa_cons (pe_cal c__law_fresh (hr.mono (by first | decide | omega)) rfl (pa_cons (pv 11) (pa_cons (pv 6) pa_nil))) pa_nil)))
      (pss_cons (ps_dput (hu_of hr) (pv 8) (pv 12) pe_str rfl)
      (pss_one (ps_expr (pe_append (pv 9) (pa_cons (pe_tup (pa_cons pe_str (pa_cons (pv 12) (pa_cons (pv 3) (pa_cons pe_str (pa_cons (pe_ix ix_seq (pv 7) (pe_un un_neg pe_int) (fun _ _ => rfl)) pa_nil)))))) pa_nil))))))
      (pss_cons (ps_dput (hu_of hr) (pv 8) (pv 12) pe_str rfl)
      (pss_one (ps_expr (pe_append (pv 9) (pa_cons (pe_tup (pa_cons pe_str (pa_cons (pv 12) (pa_cons (pv 3) (pa_cons pe_str (pa_cons pe_non pa_nil)))))) pa_nil))))))))))))
      (pss_one (ps_ret (pv 9)))))))))), ?_⟩
    refine ⟨_, rfl, hd, 5, rfl, R0, by decide, by decide, fun t1 H1 k1 h10 h11 => .inl ⟨2, t1, rfl, rfl, ?_⟩⟩
    refine ⟨_, rfl, _, rfl, hd, 2 + t1, rfl, k1.r, by omega, by omega, fun wr H2 k2 h20 h21 => ?_⟩
    have k12 := k1.trans k2
    intro u hu
    refine ⟨upd_same, [(.inl 0, .bl true)], rfl, (show (1 : Nat) ≤ 15 by decide), ?_⟩
    have fu : H2 u = none := hu
    have s3 : Same H2 (upd (upd H2 u (.dK [])) u (.dK (mergeK [] [(.inl 0, .bl true)]))) := Same.keep (Same.upd hu) fu
    have eu3 : upd (upd H2 u (.dK [])) u (.dK (mergeK [] [(.inl 0, .bl true)])) u = some (.dK [(.inl 0, .bl true)]) := upd_same
    generalize upd (upd H2 u (.dK [])) u (.dK (mergeK [] [(.inl 0, .bl true)])) = H3 at s3 eu3 ⊢
    refine ⟨(show (1 : Nat) ≤ sizeLine by decide), fun wl hwl => ?_⟩
    have s4 := Same.upd (o := .lst [V.int 0]) hwl
    have ew4 : upd H3 wl (.lst [V.int 0]) wl = some (.lst [V.int 0]) := upd_same
    have eu4 := s4 _ _ eu3
    have s24 := s3.trans s4
    have fw : H2 wl = none := s3.free hwl
    generalize upd H3 wl (.lst [V.int 0]) = H4 at s4 ew4 eu4 s24 ⊢
    intro bz hbz
    have s5 := Same.upd (o := .dK []) hbz
    have eb5 : upd H4 bz (.dK []) bz = some (.dK []) := upd_same
    have ew5 := s5 _ _ ew4
    have eu5 := s5 _ _ eu4
    have s25 := s24.trans s5
    have fb : H2 bz = none := s24.free hbz
    have nbu : bz ≠ u := fun z => by rw [z, eu4] at hbz; cases hbz
    have nbw : bz ≠ wl := fun z => by rw [z, ew4] at hbz; cases hbz
    have nwu : wl ≠ u := fun z => by rw [z, eu3] at hwl; cases hwl
    generalize upd H4 bz (.dK []) = H5 at s5 eb5 ew5 eu5 s25 ⊢
    refine ⟨(show (0 : Nat) ≤ sizeLine by decide), fun ev hev => ?_⟩
    have s6 := Same.upd (o := .lst []) hev
    have ee6 : upd H5 ev (.lst []) ev = some (.lst []) := upd_same
    have eb6 := s6 _ _ eb5
    have ew6 := s6 _ _ ew5
    have eu6 := s6 _ _ eu5
    have s26 := s25.trans s6
    have fe : H2 ev = none := s25.free hev
    have neb : ev ≠ bz := fun z => by rw [z, eb5] at hev; cases hev
    have neu : ev ≠ u := fun z => by rw [z, eu5] at hev; cases hev
    have new : ev ≠ wl := fun z => by rw [z, ew5] at hev; cases hev
    generalize upd H5 ev (.lst []) = H6 at s6 ee6 eb6 ew6 eu6 s26 ⊢
    have sc2 : SqL (KX w.params) H2 c (ns.map V.int) := (by
      rcases sc0 with (z | ⟨ob, z⟩) | z
      · exact .inl (.inl (k12.k _ _ nch z))
      · exact .inl (.inr ⟨ob, k12.k _ _ nch z⟩)
      · exact .inr z)
    have J0 : EvJ (KX w.params) nm wr H6 u wl bz ev 0 := ⟨[(.inl 0, .bl true)], [], [], [], [], eu6, rfl, ew6, eb6, ee6, .nil, .nil, Nat.le_refl _, Nat.le_refl _, Nat.le_refl _⟩
    refine ⟨_, rfl, c, rfl, ⟨_, s26.seq sc2⟩, ?_⟩
    refine for_list (K := KX w.params) (a := c) (xs := ns.map V.int) (fun i σ H' => Same H2 H' ∧ EvJ (KX w.params) nm wr H' u wl bz ev i ∧ ∃ x10 x11 x12 x13, σ = [some (.ref c), some (.int wy), some (.ref hd), some (.str nm), some (.int (2 + t1)), some (.int wr), some (.ref u), some (.ref wl), some (.ref bz), some (.ref ev), x10, x11, x12, x13])
      ⟨s26, J0, _, _, _, _, rfl⟩ (fun _ σ H' _ h => h.1.seq sc2) ?_ ?_
    · rintro i y σ H7 hy ⟨s7, ⟨ku, os, us, ys, es, eu, eku, ew, eb, ee, al, tw, le, lu, lo⟩, x10, x11, x12, x13, rfl⟩
      obtain ⟨cl, _, rfl⟩ := List.mem_map.mp (List.mem_of_getElem? hy)
      have hi : i < 63 := by have := (List.getElem?_eq_some_iff.mp hy).1; rw [List.length_map] at this; omega
      refine g_name ?_
      refine ⟨_, rfl, _, _, rfl, rfl, ⟨by decide, by decide⟩, _, rfl, _, _, rfl, fun r tr hr0 b0 b1 => ?_⟩
      have s8 := Same.upd (o := .lst [.int (cl / 2), .int wy, .int tr]) hr0
      have R8 : RowAt (upd H7 r (.lst [.int (cl / 2), .int wy, .int tr])) r := ⟨_, _, _, upd_same, b0, b1⟩
      have fr : H2 r = none := s7.free hr0
      have nru : r ≠ u := fun z => by rw [z, eu] at hr0; cases hr0
      have nrw : r ≠ wl := fun z => by rw [z, ew] at hr0; cases hr0
      have nrb : r ≠ bz := fun z => by rw [z, eb] at hr0; cases hr0
      have nre : r ≠ ev := fun z => by rw [z, ee] at hr0; cases hr0
      generalize upd H7 r (.lst [.int (cl / 2), .int wy, .int tr]) = H8 at s8 R8 ⊢
      refine ⟨_, rfl, _, rfl, r, 2 + t1, rfl, R8, by omega, by omega, fun h H9 k9 h90 h91 => ?_⟩
      have k79 : ∀ {a : Addr} {o : HO}, a ≠ r → H7 a = some o → H9 a = some o := fun n e => k9.k _ _ n (s8 _ _ e)
      have s29 : Same H2 H9 := fun a o e => k9.k _ _ (fun z => by rw [z, fr] at e; cases e) ((s7.trans s8) a o e)
      have t79 : Tups (KX w.params) H7 H9 := (Tups.of s8).trans (rw_tups R8 k9)
      have eu9 := k79 nru.symm eu
      have ew9 := k79 nrw.symm ew
      have eb9 := k79 nrb.symm eb
      have ee9 := k79 nre.symm ee
      have al9 := forall2_mono (fun _ _ z => EvAt.tups t79 z) al
      have R9 := k9.r
      have ly : ys.length = es.length := forall2_len al
      refine ⟨_, rfl, _, rfl, bz, _, rfl, DGet.k (k := .inl h) eb9, _, rfl, ?_⟩
      by_cases hb : h ∈ os.map (·.1)
      · refine iteP (busy_in.mpr hb) ?_
        obtain ⟨b, hbo, hbv⟩ := busy_get hb
        have fin : ∀ (a : V) (Hx : Hp), (b = true → a = .str "ok") → (b = false → ∃ i, a = .int i) → Same H2 Hx → Tups (KX w.params) H9 Hx → Hx u = some (.dK ku) → Hx wl = some (.lst (((0 : Int) :: us).map V.int)) → Hx bz = some (.dK (busyK (os.filter fun k => decide (k.1 ≠ h)))) → Hx ev = some (.lst ys) → ∀ p, Hx p = none → Same H2 (upd (upd Hx p (.tup [.str "end", .int h, a])) ev (.lst (ys ++ [.ref p]))) ∧ EvJ (KX w.params) nm wr (upd (upd Hx p (.tup [.str "end", .int h, a])) ev (.lst (ys ++ [.ref p]))) u wl bz ev (i + 1) := by
          intro a Hx ha1 ha2 sx tx xu xw xb xe p hp
          have q1 := Same.upd (o := .tup [.str "end", .int h, a]) hp
          have e1 : upd Hx p (.tup [.str "end", .int h, a]) p = some (.tup [.str "end", .int h, a]) := upd_same
          have xe1 := q1 _ _ xe
          have xu1 := q1 _ _ xu
          have xw1 := q1 _ _ xw
          have xb1 := q1 _ _ xb
          have sx1 := sx.trans q1
          have tx1 := tx.trans (.of q1)
          generalize upd Hx p (.tup [.str "end", .int h, a]) = Hy at q1 e1 xe1 xu1 xw1 xb1 sx1 tx1 ⊢
          have ty : Tups (KX w.params) Hy (upd Hy ev (.lst (ys ++ [.ref p]))) := Tups.lst xe1
          refine ⟨Same.keep sx1 fe, ku, os.filter fun k => decide (k.1 ≠ h), us, ys ++ [.ref p], es ++ [.fin h a], by rw [upd_ne neu.symm]; exact xu1, eku, by rw [upd_ne new.symm]; exact xw1, by rw [upd_ne neb.symm]; exact xb1, upd_same, ?_, .fin tw hbo ha1 ha2, by rw [List.length_append]; show es.length + 1 ≤ i + 1; omega, by omega, Nat.le_trans (List.length_filter_le _ _) (by omega)⟩
          exact all2_snoc (forall2_mono (fun _ _ z => EvAt.tups (tx1.trans ty) z) al9) ⟨p, rfl, ty _ _ (SqT.of e1)⟩
        have kb : Tups (KX w.params) H9 (upd H9 bz (.dK (dropK (busyK os) (.inl h)))) := Tups.dict eb9
        refine ⟨_, rfl, bz, rfl, .inl ⟨_, .inl eb9⟩, _, rfl, busyK os, .inl h, .str (vbS b), eb9, rfl, hbv, rfl, _, rfl, ?_⟩
        have eu10 : upd H9 bz (.dK (dropK (busyK os) (.inl h))) u = some (.dK ku) := by rw [upd_ne nbu.symm]; exact eu9
        have ew10 : upd H9 bz (.dK (dropK (busyK os) (.inl h))) wl = some (.lst (((0 : Int) :: us).map V.int)) := by rw [upd_ne nbw.symm]; exact ew9
        have ee10 : upd H9 bz (.dK (dropK (busyK os) (.inl h))) ev = some (.lst ys) := by rw [upd_ne neb]; exact ee9
        have eb10 : upd H9 bz (.dK (dropK (busyK os) (.inl h))) bz = some (.dK (busyK (os.filter fun k => decide (k.1 ≠ h)))) := by rw [busy_drop]; exact upd_same
        have R10 : RowAt (upd H9 bz (.dK (dropK (busyK os) (.inl h)))) r := R9.elim fun a z => z.elim fun b z => z.elim fun c z => ⟨a, b, c, by rw [upd_ne nrb]; exact z.1, z.2⟩
        have s210 : Same H2 (upd H9 bz (.dK (dropK (busyK os) (.inl h)))) := Same.keep s29 fb
        generalize upd H9 bz (.dK (dropK (busyK os) (.inl h))) = H10 at kb eu10 ew10 ee10 eb10 R10 s210 ⊢
        cases b with
        | true =>
          refine iteN (by decide +kernel) ?_
          refine ⟨_, rfl, .inl ⟨rfl, ys, SqL.of ee10⟩, _, rfl, _, rfl, (show (3 : Nat) ≤ sizeLine by decide), fun p hp => ?_⟩
          refine ⟨ev, ys, _, rfl, rfl, (Same.upd hp) _ _ ee10, Nat.lt_of_le_of_lt (m := 100) (by omega) (by decide), ?_⟩
          obtain ⟨f1, f2⟩ := fin (.str "ok") H10 (fun _ => rfl) (fun z => by cases z) s210 kb eu10 ew10 eb10 ee10 p hp
          exact ⟨f1, f2, _, _, _, _, rfl⟩
        | false =>
          refine iteP (by decide +kernel) ?_
          refine ⟨_, rfl, _, rfl, r, wl, (0 : Int) :: us, rfl, R10, ew10, nrw, by simp, by show us.length + 1 ≤ 100; omega, fun a H11 k11 => ?_⟩
          have k : ∀ {a : Addr} {o : HO}, a ≠ r → H10 a = some o → H11 a = some o := fun n e => k11.k _ _ n e
          refine ⟨_, rfl, .inl ⟨rfl, ys, SqL.of (k nre.symm ee10)⟩, _, rfl, _, rfl, (show (3 : Nat) ≤ sizeLine by decide), fun p hp => ?_⟩
          refine ⟨ev, ys, _, rfl, rfl, (Same.upd hp) _ _ (k nre.symm ee10), Nat.lt_of_le_of_lt (m := 100) (by omega) (by decide), ?_⟩
          obtain ⟨f1, f2⟩ := fin (.int a) H11 (fun z => by cases z) (fun _ => ⟨a, rfl⟩) (fun c o e => k11.k _ _ (fun z => by rw [z, fr] at e; cases e) (s210 c o e)) (kb.trans (rw_tups R10 k11)) (k nru.symm eu10) (k nrw.symm ew10) (k nrb.symm eb10) (k nre.symm ee10) p hp
          exact ⟨f1, f2, _, _, _, _, rfl⟩
      · refine iteN (fun z => hb (busy_in.mp z)) ?_
        have rd : ∀ (Hx : Hp), Same H2 Hx → Tups (KX w.params) H9 Hx → Hx u = some (.dK ku) → Hx wl = some (.lst (((0 : Int) :: us).map V.int)) → Hx bz = some (.dK (busyK os)) → Hx ev = some (.lst ys) → ∀ p, upd Hx bz (.dK (putK (busyK os) (.inl h) (.str (vbS false)))) p = none → upd Hx bz (.dK (putK (busyK os) (.inl h) (.str (vbS false)))) ev = some (.lst ys) ∧ Same H2 (upd (upd (upd Hx bz (.dK (putK (busyK os) (.inl h) (.str (vbS false))))) p (.tup [.str "begin", .int h, .str nm, .str "read", .non])) ev (.lst (ys ++ [.ref p]))) ∧ EvJ (KX w.params) nm wr (upd (upd (upd Hx bz (.dK (putK (busyK os) (.inl h) (.str (vbS false))))) p (.tup [.str "begin", .int h, .str nm, .str "read", .non])) ev (.lst (ys ++ [.ref p]))) u wl bz ev (i + 1) := by
          intro Hx sx tx xu xw xb xe p hp
          rw [busy_put hb] at hp ⊢
          have t1 : Tups (KX w.params) Hx (upd Hx bz (.dK (busyK (os ++ [(h, false)])))) := Tups.dict xb
          have xb1 : upd Hx bz (.dK (busyK (os ++ [(h, false)]))) bz = some (.dK (busyK (os ++ [(h, false)]))) := upd_same
          have xu1 : upd Hx bz (.dK (busyK (os ++ [(h, false)]))) u = some (.dK ku) := by rw [upd_ne nbu.symm]; exact xu
          have xw1 : upd Hx bz (.dK (busyK (os ++ [(h, false)]))) wl = some (.lst (((0 : Int) :: us).map V.int)) := by rw [upd_ne nbw.symm]; exact xw
          have xe1 : upd Hx bz (.dK (busyK (os ++ [(h, false)]))) ev = some (.lst ys) := by rw [upd_ne neb]; exact xe
          have sx1 : Same H2 (upd Hx bz (.dK (busyK (os ++ [(h, false)])))) := Same.keep sx fb
          refine ⟨xe1, ?_⟩
          generalize upd Hx bz (.dK (busyK (os ++ [(h, false)]))) = Hy at t1 xb1 xu1 xw1 xe1 sx1 hp ⊢
          have q1 := Same.upd (o := .tup [.str "begin", .int h, .str nm, .str "read", .non]) hp
          have e1 : upd Hy p (.tup [.str "begin", .int h, .str nm, .str "read", .non]) p = some (.tup [.str "begin", .int h, .str nm, .str "read", .non]) := upd_same
          generalize upd Hy p (.tup [.str "begin", .int h, .str nm, .str "read", .non]) = Hz at q1 e1 ⊢
          have ty : Tups (KX w.params) Hz (upd Hz ev (.lst (ys ++ [.ref p]))) := Tups.lst (q1 _ _ xe1)
          refine ⟨Same.keep (sx1.trans q1) fe, ku, os ++ [(h, false)], us, ys ++ [.ref p], es ++ [.beg h (.str nm) (.str "read") .non], by rw [upd_ne neu.symm]; exact q1 _ _ xu1, eku, by rw [upd_ne new.symm]; exact q1 _ _ xw1, by rw [upd_ne neb.symm]; exact q1 _ _ xb1, upd_same, ?_, .rd tw hb, by rw [List.length_append]; show es.length + 1 ≤ i + 1; omega, by omega, by rw [List.length_append]; show os.length + 1 ≤ i + 1; omega⟩
          exact all2_snoc (forall2_mono (fun _ _ z => EvAt.tups ((tx.trans t1).trans ((Tups.of q1).trans ty)) z) al9) ⟨p, rfl, ty _ _ (SqT.of e1)⟩
        have els : ∀ (Hx : Hp) (x13 : Option V), Same H2 Hx → Tups (KX w.params) H9 Hx → Hx u = some (.dK ku) → Hx wl = some (.lst (((0 : Int) :: us).map V.int)) → Hx bz = some (.dK (busyK os)) → Hx ev = some (.lst ys) → True := fun _ _ _ _ _ _ _ _ => trivial
        refine ⟨_, rfl, _, rfl, rfl, _, rfl, ?_⟩
        by_cases hw : h = wr
        · refine iteP (decide_eq_true (by rw [hw])) ?_
          refine ⟨_, rfl, r, 5, rfl, R9, by decide, by decide, fun t5 H10 k10 h50 h51 => ⟨_, _, rfl, rfl, _, rfl, ?_⟩⟩
          have k : ∀ {a : Addr} {o : HO}, a ≠ r → H9 a = some o → H10 a = some o := fun n e => k10.k _ _ n e
          have s210 : Same H2 H10 := fun c o e => k10.k _ _ (fun z => by rw [z, fr] at e; cases e) (s29 c o e)
          have t910 := rw_tups (K := KX w.params) R9 k10
          have eu10 := k nru.symm eu9
          have ew10 := k nrw.symm ew9
          have eb10 := k nrb.symm eb9
          have ee10 := k nre.symm ee9
          by_cases hz : t5 > 0
          · refine iteP (decide_eq_true hz) ?_
            refine ⟨_, rfl, .inl ⟨rfl, _, SqL.of ew10⟩, _, rfl, _, rfl, r, u, (0 : Int) :: us, ku, rfl, k10.r, eu10, nru, eku, by show us.length + 1 ≤ 100; omega, fun x H11 k11 _ _ hx => ?_⟩
            have kk : ∀ {a : Addr} {o : HO}, a ≠ r → H10 a = some o → H11 a = some o := fun n e => k11.k _ _ n e
            have s211 : Same H2 H11 := fun c o e => k11.k _ _ (fun z => by rw [z, fr] at e; cases e) (s210 c o e)
            have t1011 := rw_tups (K := KX w.params) k10.r k11
            have eu11 := kk nru.symm eu10
            have ew11 := kk nrw.symm ew10
            have eb11 := kk nrb.symm eb10
            have ee11 := kk nre.symm ee10
            have xk : putK ku (.inl x) (.bl true) = ku ++ [(.inl x, .bl true)] := putK_fresh (by rw [eku]; exact fun z => hx (by obtain ⟨k, hk, e⟩ := List.mem_map.mp z; exact Sum.inl.inj e ▸ hk))
            have t12 : Tups (KX w.params) H11 (upd H11 u (.dK (putK ku (.inl x) (.bl true)))) := Tups.dict eu11
            have s212 : Same H2 (upd H11 u (.dK (putK ku (.inl x) (.bl true)))) := Same.keep s211 fu
            have eu12 : upd H11 u (.dK (putK ku (.inl x) (.bl true))) u = some (.dK (putK ku (.inl x) (.bl true))) := upd_same
            have ew12 : upd H11 u (.dK (putK ku (.inl x) (.bl true))) wl = some (.lst (((0 : Int) :: us).map V.int)) := by rw [upd_ne nwu]; exact ew11
            have eb12 : upd H11 u (.dK (putK ku (.inl x) (.bl true))) bz = some (.dK (busyK os)) := by rw [upd_ne nbu]; exact eb11
            have ee12 : upd H11 u (.dK (putK ku (.inl x) (.bl true))) ev = some (.lst ys) := by rw [upd_ne neu]; exact ee11
            generalize upd H11 u (.dK (putK ku (.inl x) (.bl true))) = H12 at t12 s212 eu12 ew12 eb12 ee12 ⊢
            refine ⟨wl, _, _, rfl, rfl, ew12, Nat.lt_of_le_of_lt (m := 100) (by rw [List.length_map]; show us.length + 1 ≤ 100; omega) (by decide), ?_⟩
            have t13 : Tups (KX w.params) H12 (upd H12 wl (.lst (((0 : Int) :: us).map V.int ++ [.int x]))) := Tups.lst ew12
            have s213 : Same H2 (upd H12 wl (.lst (((0 : Int) :: us).map V.int ++ [.int x]))) := Same.keep s212 fw
            have ew13 : upd H12 wl (.lst (((0 : Int) :: us).map V.int ++ [.int x])) wl = some (.lst (((0 : Int) :: us).map V.int ++ [.int x])) := upd_same
            have eu13 : upd H12 wl (.lst (((0 : Int) :: us).map V.int ++ [.int x])) u = some (.dK (putK ku (.inl x) (.bl true))) := by rw [upd_ne nwu.symm]; exact eu12
            have eb13 : upd H12 wl (.lst (((0 : Int) :: us).map V.int ++ [.int x])) bz = some (.dK (busyK os)) := by rw [upd_ne nbw]; exact eb12
            have ee13 : upd H12 wl (.lst (((0 : Int) :: us).map V.int ++ [.int x])) ev = some (.lst ys) := by rw [upd_ne new]; exact ee12
            generalize upd H12 wl (.lst (((0 : Int) :: us).map V.int ++ [.int x])) = H13 at t13 s213 ew13 eu13 eb13 ee13 ⊢
            refine ⟨_, rfl, _, rfl, bz, _, rfl, DPut.k (k := .inl h) eb13 (Nat.lt_of_le_of_lt (m := 100) (by unfold busyK; rw [List.length_map]; omega) (by decide)), ?_⟩
            rw [show putK (busyK os) (.inl h) (.str "write") = busyK (os ++ [(h, true)]) from busy_put (b := true) hb]
            have t14 : Tups (KX w.params) H13 (upd H13 bz (.dK (busyK (os ++ [(h, true)])))) := Tups.dict eb13
            have s214 : Same H2 (upd H13 bz (.dK (busyK (os ++ [(h, true)])))) := Same.keep s213 fb
            have eb14 : upd H13 bz (.dK (busyK (os ++ [(h, true)]))) bz = some (.dK (busyK (os ++ [(h, true)]))) := upd_same
            have eu14 : upd H13 bz (.dK (busyK (os ++ [(h, true)]))) u = some (.dK (putK ku (.inl x) (.bl true))) := by rw [upd_ne nbu.symm]; exact eu13
            have ew14 : upd H13 bz (.dK (busyK (os ++ [(h, true)]))) wl = some (.lst (((0 : Int) :: us).map V.int ++ [.int x])) := by rw [upd_ne nbw.symm]; exact ew13
            have ee14 : upd H13 bz (.dK (busyK (os ++ [(h, true)]))) ev = some (.lst ys) := by rw [upd_ne neb]; exact ee13
            generalize upd H13 bz (.dK (busyK (os ++ [(h, true)]))) = H14 at t14 s214 eb14 eu14 ew14 ee14 ⊢
            refine ⟨_, rfl, .inl ⟨rfl, ys, SqL.of ee14⟩, _, rfl, _, rfl, _, rfl, _, rfl, .inl ⟨wl, _, -1, .int x, rfl, rfl, SqL.of ew14, atI_last _ _, (show (5 : Nat) ≤ sizeLine by decide), fun p hp => ?_⟩⟩
            have q1 := Same.upd (o := .tup [.str "begin", .int h, .str nm, .str "write", .int x]) hp
            have e1 : upd H14 p (.tup [.str "begin", .int h, .str nm, .str "write", .int x]) p = some (.tup [.str "begin", .int h, .str nm, .str "write", .int x]) := upd_same
            generalize upd H14 p (.tup [.str "begin", .int h, .str nm, .str "write", .int x]) = H15 at q1 e1 ⊢
            refine ⟨ev, ys, _, rfl, rfl, q1 _ _ ee14, Nat.lt_of_le_of_lt (m := 100) (by omega) (by decide), ?_⟩
            have ty : Tups (KX w.params) H15 (upd H15 ev (.lst (ys ++ [.ref p]))) := Tups.lst (q1 _ _ ee14)
            have ux : x ≠ 0 ∧ x ∉ us := ⟨fun z => hx (by rw [z]; exact .head _), fun z => hx (.tail _ z)⟩
            refine ⟨Same.keep (s214.trans q1) fe, ⟨putK ku (.inl x) (.bl true), os ++ [(h, true)], us ++ [x], ys ++ [.ref p], es ++ [.beg h (.str nm) (.str "write") (.int x)], by rw [upd_ne neu.symm]; exact q1 _ _ eu14, ?_, ?_, by rw [upd_ne neb.symm]; exact q1 _ _ eb14, upd_same, ?_, ?_, by rw [List.length_append]; show es.length + 1 ≤ i + 1; omega, by rw [List.length_append]; show us.length + 1 ≤ i + 1; omega, by rw [List.length_append]; show os.length + 1 ≤ i + 1; omega⟩, _, _, _, _, rfl⟩
            · rw [xk, List.map_append, eku]
              show ((0 : Int) :: us).map Sum.inl ++ [Sum.inl x] = (((0 : Int) :: us) ++ [x]).map Sum.inl
              rw [List.map_append]
              rfl
            · rw [upd_ne new.symm]
              have := q1 _ _ ew14
              rw [this]
              show some (HO.lst (((0 : Int) :: us).map V.int ++ [.int x])) = some (.lst ((((0 : Int) :: us) ++ [x]).map V.int))
              rw [List.map_append]
              rfl
            · exact all2_snoc (forall2_mono (fun _ _ z => EvAt.tups ((((t910.trans t1011).trans t12).trans (t13.trans t14)).trans ((Tups.of q1).trans ty)) z) al9) ⟨p, rfl, ty _ _ (SqT.of e1)⟩
            · rw [hw]
              exact .wri tw (by rw [← hw]; exact hb) ux.1 ux.2
          · refine iteN (fun e => hz (of_decide_eq_true e)) ?_
            refine ⟨_, rfl, _, rfl, bz, _, rfl, DPut.k (k := .inl h) eb10 (Nat.lt_of_le_of_lt (m := 100) (by unfold busyK; rw [List.length_map]; omega) (by decide)), ?_⟩
            have er := fun p hp => rd H10 s210 t910 eu10 ew10 eb10 ee10 p hp
            refine ⟨_, rfl, .inl ⟨rfl, ys, SqL.of (by rw [upd_ne neb]; exact ee10)⟩, _, rfl, _, rfl, (show (5 : Nat) ≤ sizeLine by decide), fun p hp => ?_⟩
            obtain ⟨f0, f1, f2⟩ := er p hp
            refine ⟨ev, ys, _, rfl, rfl, (Same.upd hp) _ _ f0, Nat.lt_of_le_of_lt (m := 100) (by omega) (by decide), ?_⟩
            exact ⟨f1, f2, _, _, _, _, rfl⟩
        · refine iteN (fun e => hw (by have := of_decide_eq_true e; injection this)) ?_
          refine iteN (by decide) ?_
          refine ⟨_, rfl, _, rfl, bz, _, rfl, DPut.k (k := .inl h) eb9 (Nat.lt_of_le_of_lt (m := 100) (by unfold busyK; rw [List.length_map]; omega) (by decide)), ?_⟩
          refine ⟨_, rfl, .inl ⟨rfl, ys, SqL.of (by rw [upd_ne neb]; exact ee9)⟩, _, rfl, _, rfl, (show (5 : Nat) ≤ sizeLine by decide), fun p hp => ?_⟩
          obtain ⟨f0, f1, f2⟩ := rd H9 s29 (fun _ _ z => z) eu9 ew9 eb9 ee9 p hp
          refine ⟨ev, ys, _, rfl, rfl, (Same.upd hp) _ _ f0, Nat.lt_of_le_of_lt (m := 100) (by omega) (by decide), ?_⟩
          exact ⟨f1, f2, _, _, _, _, rfl⟩
    · rintro σ H7 ⟨s7, ⟨ku, os, us, ys, es, eu, eku, ew, eb, ee, al, tw, le, lu, lo⟩, x10, x11, x12, x13, rfl⟩
      rw [List.length_map] at le
      exact ⟨_, rfl, q ev ys es os us wr H7 ⟨k12.k.trans s7.kept, k12.r.same s7⟩ ee al tw (by omega)⟩
def sp__law_tale (K : PySem.W.Frag) : Sp := fun vs H Q _ => ∃ (sc : Addr) (ns : List Int), vs = [.ref sc, .int 42] ∧ SqL K H sc (ns.map V.int) ∧ ns.length ≤ 63 ∧
  ∀ t pt th te ys es os us wr nm H', Same H H' → H' t = some (.tup [.ref pt, .ref te]) → H' pt = some (.tup [.ref th]) → H' th = some (.tup [.str nm, .str "register"]) → H' te = some (.tup ys) → All2 (EvAt K H') es ys → TW nm wr es os us → es.length ≤ 63 → Q (.ref t) H'
theorem cut_ints (ns : List Int) (a b : Option Int) : ∃ ms : List Int, cutV (ns.map V.int) a b = ms.map V.int ∧ ms.length ≤ ns.length := by
  refine ⟨(ns.drop (HT.sIx (ns.map V.int).length 0 a)).take (HT.sIx (ns.map V.int).length (ns.map V.int).length b - HT.sIx (ns.map V.int).length 0 a), ?_, ?_⟩
  · unfold cutV
    rw [List.map_take, List.map_drop]
  · rw [List.length_take, List.length_drop]
    omega
theorem ok__law_tale (T : TX (KX w.params) mg) (c__law_cell_at : Cal P w (KX w.params) mg base "_law_cell_at" ["script", "k"] 1 (sp__law_cell_at (KX w.params))) (c__law_stream : Cal P w (KX w.params) mg base "_law_stream" ["cell", "way"] 1 sp__law_stream) (c__law_name : Cal P w (KX w.params) mg base "_law_name" ["row"] 2 (sp__law_name (KX w.params))) (c__law_events : Cal P w (KX w.params) mg base "_law_events" ["cells", "way", "head", "name"] 4 (sp__law_events (KX w.params))) : FnOk P w (KX w.params) mg base CX0 5 175 fd__law_tale ["script", "most"] (sp__law_tale (KX w.params)) := by
  refine (F__law_tale w.params).ok sc__law_tale (fun vs H Q E h => ?_) (fun cdv A outer s H vs Q E hr h => ?_)
  · obtain ⟨sc, ns, rfl, _⟩ := h
    rfl
  · obtain ⟨sc, ns, rfl, sq, hn, q⟩ := h
    refine ⟨_, (pss_cons (ps_set (i := 2) sc__law_tale.nd rfl (by first | exact Or.inl rfl | exact Or.inr rfl) (pe_cal c__law_cell_at (hr.mono (by first | decide | omega)) rfl (pa_cons (pv 0) (pa_cons pe_int pa_nil))))
      (pss_cons (ps_set (i := 3) sc__law_tale.nd rfl (by first | exact Or.inl rfl | exact Or.inr rfl) (pe_cal c__law_stream (hr.mono (by first | decide | omega)) rfl (pa_cons (pe_op op_fdivB (pv 2) pe_int) (pa_cons (pe_op op_mod (pv 2) pe_int) pa_nil))))
      (pss_cons (ps_set (i := 4) sc__law_tale.nd rfl (by first | exact Or.inl rfl | exact Or.inr rfl) (pe_cal c__law_name (hr.mono (by first | decide | omega)) rfl (pa_cons (pv 3) pa_nil)))
      (pss_one (ps_ret (pe_tup (pa_cons (pe_tup (pa_cons (pe_tup (pa_cons (pv 4) (pa_cons pe_str pa_nil))) pa_nil)) (pa_cons (pe_callTy call_tuple_of rfl (T.no (n_tuple _)) boot_tuple (pa_cons (pe_cal c__law_events (hr.mono (by first | decide | omega)) rfl (pa_cons (pe_slice slSeq (pv 0) (po_some pe_int) (po_some (pe_op opAdd pe_int (pv 1)))) (pa_cons (pe_op op_mod (pv 2) pe_int) (pa_cons (pv 3) (pa_cons (pv 4) pa_nil))))) pa_nil)) pa_nil)))))))), ?_⟩
    refine ⟨_, rfl, sc, ns, rfl, sq, fun c0 => ?_⟩
    refine ⟨_, rfl, _, _, rfl, rfl, ⟨by decide, by decide⟩, _, rfl, _, _, rfl, rfl, (show (0 : Int) < 2 by decide), _, _, rfl, fun hd th hh0 b0 b1 => ?_⟩
    have s1 := Same.upd (o := .lst [.int (c0 / 2), .int (c0 % 2), .int th]) hh0
    have R1 : RowAt (upd H hd (.lst [.int (c0 / 2), .int (c0 % 2), .int th])) hd := ⟨_, _, _, upd_same, b0, b1⟩
    have nsh : ∀ {xs : List V}, H sc = some (.lst xs) → sc ≠ hd := fun e z => by rw [z, hh0] at e; cases e
    generalize upd H hd (.lst [.int (c0 / 2), .int (c0 % 2), .int th]) = H1 at s1 R1 ⊢
    refine ⟨_, rfl, hd, rfl, R1, fun nm H2 k2 => ?_⟩
    have s2 : Same H H2 := fun c o e => k2.k _ _ (fun z => by rw [z, hh0] at e; cases e) (s1 c o e)
    refine ⟨_, rfl, (show (2 : Nat) ≤ sizeLine by decide), fun tn htn => ⟨(show (1 : Nat) ≤ sizeLine by decide), fun pt hpt => ?_⟩⟩
    have q3 := Same.upd (o := .tup [.str nm, .str "register"]) htn
    have e3 : upd H2 tn (.tup [.str nm, .str "register"]) tn = some (.tup [.str nm, .str "register"]) := upd_same
    generalize upd H2 tn (.tup [.str nm, .str "register"]) = H3 at q3 e3 hpt ⊢
    have q4 := Same.upd (o := .tup [.ref tn]) hpt
    have e4 : upd H3 pt (.tup [.ref tn]) pt = some (.tup [.ref tn]) := upd_same
    have e34 := q4 _ _ e3
    generalize upd H3 pt (.tup [.ref tn]) = H4 at q4 e4 e34 ⊢
    have s4 := s2.trans (q3.trans q4)
    have R4 := k2.r.same (q3.trans q4)
    refine ⟨_, rfl, 1, rfl, _, rfl, .inl ⟨1, 42, rfl, rfl, _, rfl, .inl ⟨sc, _, rfl, s4.seq sq, fun cs hcs => ?_⟩⟩⟩
    obtain ⟨ms, em, lm⟩ := cut_ints ns (some 1) (some (1 + 42))
    rw [em]
    have q5 := Same.upd (o := .lst (ms.map V.int)) hcs
    have e5 : upd H4 cs (.lst (ms.map V.int)) cs = some (.lst (ms.map V.int)) := upd_same
    have ncs : cs ≠ hd := R4.fresh hcs
    have R5 := R4.same q5
    have s5 := s4.trans q5
    have e34' := q5 _ _ e34
    have e4' := q5 _ _ e4
    generalize upd H4 cs (.lst (ms.map V.int)) = H5 at q5 e5 R5 s5 e34' e4' ⊢
    refine ⟨_, rfl, _, _, rfl, rfl, (show (0 : Int) < 2 by decide), _, rfl, _, rfl, cs, hd, _, nm, ms, rfl, SqL.of e5, ncs, by omega, R5, fun l ys es os us wr H6 k6 el al tw le => ?_⟩
    have s6 : Same H H6 := fun c o e => k6.k _ _ (fun z => by rw [z, hh0] at e; cases e) (s5 c o e)
    have rt : ∀ {a : Addr} {xs : List V}, H5 a = some (.tup xs) → H6 a = some (.tup xs) := fun e => k6.k _ _ (fun z => by
      obtain ⟨x, y, c, e', _⟩ := R5
      rw [z, e'] at e
      cases e) e
    refine ⟨l, _, rfl, .inl ⟨SqL.of el, fun te hte => ⟨(show (2 : Nat) ≤ sizeLine by decide), fun t ht => ?_⟩⟩⟩
    have q7 := Same.upd (o := .tup ys) hte
    have e7 : upd H6 te (.tup ys) te = some (.tup ys) := upd_same
    generalize upd H6 te (.tup ys) = H7 at q7 e7 ht ⊢
    have q8 := Same.upd (o := .tup [.ref pt, .ref te]) ht
    have s78 := q7.trans q8
    exact q t pt tn te ys es os us wr nm _ (s6.trans s78) upd_same (s78 _ _ (rt e4')) (s78 _ _ (rt e34')) (q8 _ _ e7) (forall2_mono (fun _ _ z => EvAt.tups (.of s78) z) al) tw le
end
end K20
namespace K20
open PySem PySem.Spec PyProof.Rows TJ L2
section
variable {P : Program} {w : World} {mg : Str → Option Value} {base : Heap}
def xaV (r : Rc) : V := if r.v = .str "read" ∧ r.e.isSome = true then r.a else r.x
def ActAt (H : Hp) (r : Rc) (y : V) : Prop := ∃ p, y = .ref p ∧ H p = some (.lst [r.v, xaV r, r.a, .int r.b, endV r.e])
theorem ActAt.same {H H' : Hp} {r : Rc} {y : V} (s : Same H H') (h : ActAt H r y) : ActAt H' r y := h.elim fun p z => ⟨p, z.1, s _ _ z.2⟩
theorem ActAt.wrote {H : Hp} {l : Addr} {o : HO} {r : Rc} {y : V} (n : y ≠ .ref l) (h : ActAt H r y) : ActAt (upd H l o) r y := h.elim fun p z => ⟨p, z.1, by rw [upd_ne (fun e => n (by rw [z.1, e]))]; exact z.2⟩
def EvV : Ev → Prop
  | .beg _ _ v _ => ∃ z, v = .str z
  | .fin _ _ => True
def sp__law_deeds (K : PySem.W.Frag) : Sp := fun vs H Q _ => ∃ (te : Addr) (es : List Ev) (ys : List V), vs = [.ref te] ∧ SqT K H te ys ∧ All2 (EvAt K H) es ys ∧ es.length ≤ 100 ∧ dWf 0 [] es ∧ (∀ e ∈ es, EvV e) ∧ ∀ l zs H', Same H H' → H' l = some (.lst zs) → All2 (ActAt H') (dAll 0 [] es) zs → Q (.ref l) H'
theorem ok__law_deeds (T : TX (KX w.params) mg) : FnOk P w (KX w.params) mg base CX0 1 182 fd__law_deeds ["events"] (sp__law_deeds (KX w.params)) := by
  refine (F__law_deeds w.params).ok sc__law_deeds (fun vs H Q E h => ?_) (fun cdv A outer s H vs Q E hr h => ?_)
  · obtain ⟨te, es, ys, rfl, _⟩ := h
    rfl
  · obtain ⟨te, es, ys, rfl, se, al, hl, wf, evv, q⟩ := h
    refine ⟨_, (pss_cons (ps_set (i := 1) sc__law_deeds.nd rfl (by first | exact Or.inl rfl | exact Or.inr rfl) (pe_lst pa_nil))
      (pss_cons (ps_set (i := 2) sc__law_deeds.nd rfl (by first | exact Or.inl rfl | exact Or.inr rfl) pe_dnewK)
      (pss_cons (ps_for PassesOwn.never rfl (pi_enumT rfl (T.no (n_enumerate _)) (pa_cons (pv 0) pa_nil)) (pg_tup rfl (pgs_cons (pg_name (i := 3) sc__law_deeds.nd rfl (by first | exact Or.inl rfl | exact Or.inr rfl)) (pgs_cons (pg_name (i := 4) sc__law_deeds.nd rfl (by first | exact Or.inl rfl | exact Or.inr rfl)) pgs_nil)))
      (pss_one (ps_if (pt_cmpR opEq (pe_ix ix_seq (pv 4) pe_int (fun _ _ => rfl)) pe_str (nomark _))
      (pss_cons (ps_dput (hu_of hr) (pv 2) (pe_ix ix_seq (pv 4) pe_int (fun _ _ => rfl)) (pe_callB callLen rfl (T.no (n_len _)) boot_len (pa_cons (pv 1) pa_nil)) rfl)
      (pss_one (ps_expr (pe_append (pv 1) (pa_cons (pe_lst (pa_cons (pe_ix ix_seq (pv 4) pe_int (fun _ _ => rfl)) (pa_cons (pe_ix ix_seq (pv 4) pe_int (fun _ _ => rfl)) (pa_cons pe_non (pa_cons (pv 3) (pa_cons pe_non pa_nil)))))) pa_nil)))))
      (pss_cons (ps_set (i := 5) sc__law_deeds.nd rfl (by first | exact Or.inl rfl | exact Or.inr rfl) (pe_ix ix_seq (pv 1) (pe_dget (hu_of hr) (pv 2) (pe_ix ix_seq (pv 4) pe_int (fun _ _ => rfl)) (fun _ _ => rfl)) (fun _ _ => rfl)))
      (pss_cons (ps_asg (pv 3) (pg_sub (pv 5) pe_int set_list))
      (pss_cons (ps_asg (pe_ix ix_seq (pv 4) pe_int (fun _ _ => rfl)) (pg_sub (pv 5) pe_int set_list))
      (pss_one (ps_if (pt_cmpR opEq (pe_ix ix_seq (pv 5) pe_int (fun _ _ => rfl)) pe_str (nomark _))
      (pss_one (ps_asg (pe_ix ix_seq (pv 4) pe_int (fun _ _ => rfl)) (pg_sub (pv 5) pe_int set_list)))
      pss_nil))))))))
      (pss_one (ps_ret (pv 1)))))), ?_⟩
    refine ⟨(show (0 : Nat) ≤ sizeLine by decide), fun l hl0 => ?_⟩
    intro d hd0
    have nld : l ≠ d := ne_of_none upd_same hd0
    have nhd : H d = none := by rwa [upd_ne nld.symm] at hd0
    have s2 : Same H (upd (upd H l (.lst [])) d (.dK [])) := (Same.upd hl0).trans (Same.upd hd0)
    have e1 : upd (upd H l (.lst [])) d (.dK []) l = some (.lst []) := by rw [upd_ne nld]; exact upd_same
    have e2 : upd (upd H l (.lst [])) d (.dK []) d = some (.dK []) := upd_same
    generalize upd (upd H l (.lst [])) d (.dK []) = H2 at s2 e1 e2 ⊢
    have len := forall2_len al
    refine ⟨_, rfl, te, ys, rfl, s2.seqT se, ?_⟩
    refine for_enumT (K := KX w.params) (a := te) (xs := ys) (fun i σ H' => ∃ rs zs kvs, H' l = some (.lst zs) ∧ All2 (ActAt H') rs zs ∧ zs.Nodup ∧ (∀ p, V.ref p ∈ zs → p ≠ l ∧ H p = none) ∧ H' d = some (.dK kvs) ∧ kvs.length ≤ i ∧ rs.length ≤ i ∧ (∀ h, valV kvs (.inl h) = (lastI h (rs.map Rc.h)).map fun j => V.int (j : Nat)) ∧ dAll i rs (es.drop i) = dAll 0 [] es ∧ dWf i rs (es.drop i) ∧ (∀ (k : Nat) (r : Rc), rs[k]? = some r → ∃ z, r.v = V.str z) ∧ Same H H' ∧ ∃ x3 x4 x5, σ = [some (.ref te), some (.ref l), some (.ref d), x3, x4, x5])
      ⟨[], [], [], e1, .nil, .nil, fun _ z => absurd z List.not_mem_nil, e2, Nat.le_refl _, Nat.le_refl _, fun h => rfl, by rw [List.drop_zero], by rw [List.drop_zero]; exact wf, (fun k r z => by simp at z), s2, _, _, _, rfl⟩ (fun i σ H' h => ?_) ?_ ?_
    · obtain ⟨rs, zs, kvs, _, _, _, _, _, _, _, _, _, _, _, s', _⟩ := h
      exact s'.seqT se
    · rintro i y σ H3 pe hy ⟨rs, zs, kvs, el3, ar3, nd, nzl, ed3, hk, hr', hv, da, dw, rv, s3, x3, x4, x5, rfl⟩ hpe
      obtain ⟨e, he, ev⟩ := all2_get al hy
      obtain ⟨hie, ee⟩ := List.getElem?_eq_some_iff.mp he
      have dr : es.drop i = e :: es.drop (i + 1) := by rw [List.drop_eq_getElem_cons hie, ee]
      rw [dr] at da dw
      have q4 := Same.upd (o := .tup [.int i, y]) hpe
      have s4 := s3.trans q4
      have el4 := q4 _ _ el3
      have ed4 := q4 _ _ ed3
      have ar4 := forall2_mono (fun a b z => ActAt.same q4 z) ar3
      have ep4 : upd H3 pe (.tup [.int i, y]) pe = some (.tup [.int i, y]) := upd_same
      generalize upd H3 pe (.tup [.int i, y]) = H4 at q4 s4 el4 ed4 ar4 ep4 ⊢
      have ev4 := EvAt.tups (.of s4) ev
      have few : i < 100 := Nat.lt_of_lt_of_le hie hl
      have lz : zs.length = rs.length := forall2_len ar4
      refine ⟨pe, _, rfl, SqT.of ep4, rfl, .int i, _, rfl, y, _, rfl, rfl, ?_⟩
      cases e with
      | beg h n v x =>
        obtain ⟨py, rfl, sy⟩ := ev4
        refine ⟨_, rfl, .inr (.inl ⟨py, _, 0, .str "begin", rfl, rfl, sy, atI_nat (j := 0) rfl, rfl, _, rfl, iteP (decide_eq_true rfl) ?_⟩)⟩
        refine ⟨_, rfl, .inl ⟨l, zs, rfl, .inl (SqL.of el4), ⟨_, rfl, ⟨_, rfl, .inr (.inl ⟨py, _, 1, .int h, rfl, rfl, sy, atI_nat (j := 1) rfl, d, _, rfl, DPut.k (k := .inl h) ed4 (Nat.lt_of_le_of_lt (m := 100) (by omega) (by decide)), ?_⟩)⟩⟩⟩⟩
        have t5 : Tups (KX w.params) H4 (upd H4 d (.dK (putK kvs (.inl h) (.int (zs.length : Nat))))) := Tups.dict ed4
        have s5 := Same.keep (o := .dK (putK kvs (.inl h) (.int (zs.length : Nat)))) s4 nhd
        have el5 : upd H4 d (.dK (putK kvs (.inl h) (.int (zs.length : Nat)))) l = some (.lst zs) := by rw [upd_ne nld]; exact el4
        have ed5 : upd H4 d (.dK (putK kvs (.inl h) (.int (zs.length : Nat)))) d = some (.dK (putK kvs (.inl h) (.int (zs.length : Nat)))) := upd_same
        have ar5 : All2 (ActAt (upd H4 d (.dK (putK kvs (.inl h) (.int (zs.length : Nat)))))) rs zs := forall2_mono (fun a b z => z.wrote (fun e => by
          obtain ⟨p, e1, e2⟩ := z
          rw [e1] at e
          cases e
          rw [ed4] at e2
          cases e2)) ar4
        generalize upd H4 d (.dK (putK kvs (.inl h) (.int (zs.length : Nat)))) = H5 at t5 s5 el5 ed5 ar5 ⊢
        have sy5 := t5 _ _ sy
        refine ⟨_, rfl, .inl ⟨rfl, zs, SqL.of el5⟩, ?_⟩
        refine ⟨_, rfl, .inr (.inl ⟨py, _, 3, v, rfl, rfl, sy5, atI_nat (j := 3) rfl, _, rfl, .inr (.inl ⟨py, _, 4, x, rfl, rfl, sy5, atI_nat (j := 4) rfl, _, rfl, (show (5 : Nat) ≤ sizeLine by decide), fun p3 hp3 => ?_⟩)⟩)⟩
        have s6 := Same.upd (o := .lst [v, x, .non, .int (i : Nat), .non]) hp3
        have e6 : upd H5 p3 (.lst [v, x, .non, .int (i : Nat), .non]) p3 = some (.lst [v, x, .non, .int (i : Nat), .non]) := upd_same
        have fr : ∀ z ∈ zs, z ≠ .ref p3 := fun z hz e => by
          obtain ⟨m, hm⟩ := List.mem_iff_getElem?.mp hz
          obtain ⟨_, _, p, e1, e2⟩ := all2_get ar5 hm
          rw [e1] at e
          cases e
          rw [hp3] at e2
          cases e2
        have np3 : p3 ≠ l := fun z => by rw [z, el5] at hp3; cases hp3
        generalize upd H5 p3 (.lst [v, x, .non, .int (i : Nat), .non]) = H6 at s6 e6 ⊢
        have el6 := s6 _ _ el5
        have ed6 := s6 _ _ ed5
        have ar6 := forall2_mono (fun a b z => ActAt.same s6 z) ar5
        refine ⟨l, zs, _, rfl, rfl, el6, Nat.lt_of_le_of_lt (m := 100) (by omega) (by decide), ?_⟩
        refine ⟨rs ++ [⟨h, n, v, x, .non, i, none⟩], zs ++ [.ref p3], putK kvs (.inl h) (.int (zs.length : Nat)), upd_same, ?_, ?_, ?_, ?_, ?_, ?_, ?_, (show dAll (i + 1) (dstep i rs (.beg h n v x)) _ = _ from da), dw.2, ?_, Same.keep (s5.trans s6) hl0, _, _, _, rfl⟩
        · refine all2_snoc ?_ ⟨p3, rfl, by rw [upd_ne np3, e6]; unfold xaV; rw [if_neg (fun z => by cases z.2)]; rfl⟩
          refine forall2_mem (fun a b hb z => ActAt.wrote (fun e => (nzl l (e ▸ hb)).1 rfl) z) ar6
        · rw [List.nodup_append]
          refine ⟨nd, by simp, fun a ha b hb => ?_⟩
          rw [List.mem_singleton.mp hb]
          exact fr a ha
        · intro p hz
          rcases List.mem_append.mp hz with y | y
          · exact nzl p y
          · have e := List.mem_singleton.mp y
            cases e
            exact ⟨np3, s5.free hp3⟩
        · rw [upd_ne nld.symm]; exact ed6
        · exact Nat.le_trans putK_len (by omega)
        · rw [List.length_append]; show rs.length + 1 ≤ i + 1; omega
        · intro k
          rw [valV_put, List.map_append]
          show _ = Option.map _ (lastI k (rs.map Rc.h ++ [h]))
          rw [lastI_snoc, List.length_map, lz]
          by_cases z : h = k
          · rw [if_pos z, if_pos (by rw [z])]; rfl
          · rw [if_neg z, if_neg (fun y => z (Sum.inl.inj y).symm)]
            exact hv k
        · intro k r hk'
          by_cases z : k < rs.length
          · rw [List.getElem?_append_left z] at hk'
            exact rv k r hk'
          · rw [List.getElem?_append_right (Nat.not_lt.mp z)] at hk'
            have hk' := List.mem_singleton.mp (List.mem_of_getElem? hk')
            rw [hk']
            exact evv _ (List.mem_of_getElem? he)
      | fin h a =>
        obtain ⟨py, rfl, sy⟩ := ev4
        obtain ⟨j, hj⟩ := Option.isSome_iff_exists.mp (dw.1 h a rfl)
        have hvj : valV kvs (.inl h) = some (.int (j : Nat)) := by rw [hv h, hj]; rfl
        have hjl : j < rs.length := by have := lastI_lt hj; rwa [List.length_map] at this
        have hrj : rs[j]? = some rs[j] := List.getElem?_eq_getElem hjl
        obtain ⟨yj, hyj, pj, rfl, ej⟩ := all2_at ar4 hrj
        have dgj : DGet H4 d (.int h) (some (.int (j : Nat))) := hvj ▸ DGet.k (k := .inl h) ed4
        refine ⟨_, rfl, .inr (.inl ⟨py, _, 0, .str "end", rfl, rfl, sy, atI_nat (j := 0) rfl, rfl, _, rfl, iteN (by decide +kernel) ?_⟩)⟩
        obtain ⟨npl, fpj⟩ := nzl pj (List.mem_of_getElem? hyj)
        have npd : pj ≠ d := fun z => by rw [z, ed4] at ej; cases ej
        refine ⟨_, rfl, _, rfl, _, rfl, .inr (.inl ⟨py, _, 1, .int h, rfl, rfl, sy, atI_nat (j := 1) rfl, d, _, rfl, dgj, .inl ⟨l, zs, j, .ref pj, rfl, rfl, SqL.of el4, atI_nat hyj, ?_⟩⟩)⟩
        refine ⟨_, rfl, _, rfl, pj, _, 4, 4, rfl, rfl, ej, rfl, ?_⟩
        rw [show [rs[j].v, xaV rs[j], rs[j].a, V.int rs[j].b, endV rs[j].e].set 4 (.int (i : Nat)) = [rs[j].v, xaV rs[j], rs[j].a, .int rs[j].b, .int (i : Nat)] from rfl]
        have k5 : KeptL [pj] H4 (upd H4 pj (.lst [rs[j].v, xaV rs[j], rs[j].a, .int rs[j].b, .int (i : Nat)])) := KeptL.set (by simp)
        have t5 : Tups (KX w.params) H4 (upd H4 pj (.lst [rs[j].v, xaV rs[j], rs[j].a, .int rs[j].b, .int (i : Nat)])) := Tups.lst ej
        have ej5 : upd H4 pj (.lst [rs[j].v, xaV rs[j], rs[j].a, .int rs[j].b, .int (i : Nat)]) pj = some (.lst [rs[j].v, xaV rs[j], rs[j].a, .int rs[j].b, .int (i : Nat)]) := upd_same
        generalize upd H4 pj (.lst [rs[j].v, xaV rs[j], rs[j].a, .int rs[j].b, .int (i : Nat)]) = H5 at k5 t5 ej5 ⊢
        have sy5 := t5 _ _ sy
        refine ⟨_, rfl, .inr (.inl ⟨py, _, 2, a, rfl, rfl, sy5, atI_nat (j := 2) rfl, ?_⟩)⟩
        refine ⟨_, rfl, pj, _, 2, 2, rfl, rfl, ej5, rfl, ?_⟩
        rw [show [rs[j].v, xaV rs[j], rs[j].a, V.int rs[j].b, .int (i : Nat)].set 2 a = [rs[j].v, xaV rs[j], a, .int rs[j].b, .int (i : Nat)] from rfl]
        have k6 : KeptL [pj] H5 (upd H5 pj (.lst [rs[j].v, xaV rs[j], a, .int rs[j].b, .int (i : Nat)])) := KeptL.set (by simp)
        have t6 : Tups (KX w.params) H5 (upd H5 pj (.lst [rs[j].v, xaV rs[j], a, .int rs[j].b, .int (i : Nat)])) := Tups.lst ej5
        have ej6 : upd H5 pj (.lst [rs[j].v, xaV rs[j], a, .int rs[j].b, .int (i : Nat)]) pj = some (.lst [rs[j].v, xaV rs[j], a, .int rs[j].b, .int (i : Nat)]) := upd_same
        generalize upd H5 pj (.lst [rs[j].v, xaV rs[j], a, .int rs[j].b, .int (i : Nat)]) = H6 at k6 t6 ej6 ⊢
        have k46 := k5.trans k6
        have hd : dstep i rs (.fin h a) = rs.modify j (fun r => { r with a := a, e := some i }) := by unfold dstep; dsimp only; rw [hj]
        have da : dAll (i + 1) (dstep i rs (.fin h a)) (es.drop (i + 1)) = _ := da
        have dw2 : dWf (i + 1) (dstep i rs (.fin h a)) (es.drop (i + 1)) := dw.2
        rw [hd] at da dw2
        have fin : ∀ Hx, KeptL [pj] H4 Hx → Hx pj = some (.lst [rs[j].v, xaV { rs[j] with a := a, e := some i }, a, .int rs[j].b, .int (i : Nat)]) → ∃ rs' zs kvs, Hx l = some (.lst zs) ∧ All2 (ActAt Hx) rs' zs ∧ zs.Nodup ∧ (∀ p, V.ref p ∈ zs → p ≠ l ∧ H p = none) ∧ Hx d = some (.dK kvs) ∧ kvs.length ≤ i + 1 ∧ rs'.length ≤ i + 1 ∧ (∀ h, valV kvs (.inl h) = (lastI h (rs'.map Rc.h)).map fun j => V.int (j : Nat)) ∧ dAll (i + 1) rs' (es.drop (i + 1)) = dAll 0 [] es ∧ dWf (i + 1) rs' (es.drop (i + 1)) ∧ (∀ (k : Nat) (r : Rc), rs'[k]? = some r → ∃ z, r.v = V.str z) ∧ Same H Hx := by
          intro Hx kx ex
          refine ⟨rs.modify j (fun r => { r with a := a, e := some i }), zs, kvs, kx _ _ (by simp [npl.symm]) el4, ?_, nd, nzl, kx _ _ (by simp [npd.symm]) ed4, by omega, by rw [List.length_modify]; omega, ?_, da, dw2, ?_, ?_⟩
          · refine all2_of_get (by rw [List.length_modify]; exact forall2_len ar4) fun k r y hk hy' => ?_
            rw [List.getElem?_modify] at hk
            obtain ⟨r', hr1, hr2⟩ := Option.map_eq_some_iff.mp hk
            obtain ⟨y2, hy2, p2, rfl, e2⟩ := all2_at ar4 hr1
            rw [hy'] at hy2
            cases hy2
            by_cases z : j = k
            · subst z
              rw [hyj] at hy'
              cases hy'
              rw [if_pos rfl] at hr2
              rw [hrj] at hr1
              cases hr1
              subst hr2
              exact ⟨pj, rfl, ex⟩
            · rw [if_neg z] at hr2
              subst hr2
              refine ⟨p2, rfl, kx _ _ (fun e => z ?_) e2⟩
              have e := List.mem_singleton.mp e
              subst e
              have h1 : j < zs.length := (List.getElem?_eq_some_iff.mp hyj).1
              exact (List.getElem?_inj h1 nd).mp (hyj.trans hy'.symm)
          · intro k
            rw [modify_h (f := fun r => { r with a := a, e := some i }) (fun r => rfl)]
            exact hv k
          · intro k r hk'
            rw [List.getElem?_modify] at hk'
            obtain ⟨r', hr1, hr2⟩ := Option.map_eq_some_iff.mp hk'
            obtain ⟨z', hz'⟩ := rv k r' hr1
            refine ⟨z', ?_⟩
            rw [← hr2]
            by_cases z : j = k
            · rw [if_pos z]; exact hz'
            · rw [if_neg z]; exact hz'
          · intro b o e
            exact kx b o (fun z => by rw [List.mem_singleton.mp z, fpj] at e; cases e) (s4 b o e)
        obtain ⟨z0, hz0⟩ := rv j _ hrj
        refine ⟨_, rfl, .inl ⟨pj, _, 0, rs[j].v, rfl, rfl, SqL.of ej6, atI_nat (j := 0) rfl, by rw [hz0]; rfl, _, rfl, ?_⟩⟩
        by_cases z : rs[j].v = .str "read"
        · refine iteP (decide_eq_true z) ?_
          refine ⟨_, rfl, .inr (.inl ⟨py, _, 2, a, rfl, rfl, t6 _ _ sy5, atI_nat (j := 2) rfl, ?_⟩)⟩
          refine ⟨_, rfl, pj, _, 1, 1, rfl, rfl, ej6, rfl, ?_⟩
          rw [show [rs[j].v, xaV rs[j], a, V.int rs[j].b, .int (i : Nat)].set 1 a = [rs[j].v, a, a, .int rs[j].b, .int (i : Nat)] from rfl]
          have xa : xaV { rs[j] with a := a, e := some i } = a := by unfold xaV; rw [if_pos ⟨z, rfl⟩]
          obtain ⟨r1, r2, r3, f⟩ := fin (upd H6 pj (.lst [rs[j].v, a, a, .int rs[j].b, .int (i : Nat)])) (k46.trans (KeptL.set (by simp))) (by rw [xa]; exact upd_same)
          obtain ⟨g1, g2, g3, g4, g5, g6, g7, g8, g9, g10, g11, g12⟩ := f
          exact ⟨r1, r2, r3, g1, g2, g3, g4, g5, g6, g7, g8, g9, g10, g11, g12, _, _, _, rfl⟩
        · refine iteN (fun e => z (of_decide_eq_true e)) ?_
          have xa : xaV { rs[j] with a := a, e := some i } = xaV rs[j] := by unfold xaV; rw [if_neg (fun y => z y.1), if_neg (fun y => z y.1)]
          obtain ⟨r1, r2, r3, f⟩ := fin _ k46 (by rw [xa]; exact ej6)
          obtain ⟨g1, g2, g3, g4, g5, g6, g7, g8, g9, g10, g11, g12⟩ := f
          exact ⟨r1, r2, r3, g1, g2, g3, g4, g5, g6, g7, g8, g9, g10, g11, g12, _, _, _, rfl⟩
    · rintro σ H3 ⟨rs, zs, kvs, el, ar, _, _, _, _, _, _, da, _, _, s3, x3, x4, x5, rfl⟩
      have : es.drop ys.length = [] := by rw [len]; exact List.drop_length
      rw [this] at da
      have da : rs = dAll 0 [] es := da
      rw [← da] at q
      exact ⟨_, rfl, q l zs H3 s3 el ar⟩
end
end K20
namespace K20
open PySem PySem.Spec PyProof.Rows TJ L2
section
variable {P : Program} {w : World} {mg : Str → Option Value} {base : Heap}
def sp_is_whole : Sp := fun vs H Q _ => ∃ i, vs = [.int i] ∧ Q (.bl true) H
theorem ok_is_whole (T : TX (KX w.params) mg) : FnOk P w (KX w.params) mg base CX0 1 46 fd_is_whole ["value"] sp_is_whole := by
  refine (F_is_whole w.params).ok sc_is_whole (fun vs H Q E h => ?_) (fun cdv A outer s H vs Q E hr h => ?_)
  · obtain ⟨i, rfl, _⟩ := h
    rfl
  · obtain ⟨i, rfl, q⟩ := h
    refine ⟨_, (pss_one (ps_ret (pe_and (pe_callB call_isinst rfl (T.no (n_isinstance _)) boot_isinstance (pa_cons (pv 0) (pa_cons (pe_bltn (v := .ty "int") rfl (T.no (n_int _)) boot_int rfl) pa_nil))) (pe_one (pe_not (pe_callB call_isinst rfl (T.no (n_isinstance _)) boot_isinstance (pa_cons (pv 0) (pa_cons (pe_bltn (v := .ty "bool") rfl (T.no (n_bool _)) boot_bool rfl) pa_nil)))))))), ?_⟩
    refine ⟨_, rfl, _, _, "int", rfl, rfl, by decide, _, rfl, iteP (by decide) ?_⟩
    exact ⟨_, rfl, _, _, "int", rfl, rfl, by decide, _, rfl, q⟩
def sp_is_answered (K : PySem.W.Frag) : Sp := fun vs H Q _ => ∃ y r wr e, vs = [y] ∧ RcAt K H r y ∧ (RdG r ∨ WrG wr r) ∧ r.e = some e ∧ Q (.bl true) H
theorem ok_is_answered (T : TX (KX w.params) mg) (c_is_whole : Cal P w (KX w.params) mg base "is_whole" ["value"] 1 sp_is_whole) : FnOk P w (KX w.params) mg base CX0 2 71 fd_is_answered ["deed"] (sp_is_answered (KX w.params)) := by
  refine (F_is_answered w.params).ok sc_is_answered (fun vs H Q E h => ?_) (fun cdv A outer s H vs Q E hr h => ?_)
  · obtain ⟨y, r, wr, e, rfl, _⟩ := h
    rfl
  · obtain ⟨y, r, wr, e, rfl, ⟨p, rfl, sp⟩, g, he, q⟩ := h
    refine ⟨_, (pss_cons (ps_if (pt_cmpR opEq (pe_ix ix_seq (pv 0) pe_int (fun _ _ => rfl)) pe_str (nomark _))
      (pss_one (ps_ret (pe_cmpR opEq (pe_ix ix_seq (pv 0) pe_int (fun _ _ => rfl)) pe_str (nomark _))))
      pss_nil)
      (pss_one (ps_ret (pe_cal c_is_whole (hr.mono (by first | decide | omega)) rfl (pa_cons (pe_ix ix_seq (pv 0) pe_int (fun _ _ => rfl)) pa_nil))))), ?_⟩
    rcases g with g | g
    · refine ⟨_, rfl, .inr (.inl ⟨p, _, 2, .str "read", rfl, rfl, sp, by rw [g.1]; exact atI_nat (j := 2) rfl, rfl, _, rfl, iteN (by decide +kernel) ?_⟩)⟩
      exact ⟨_, rfl, .inr (.inl ⟨p, _, 4, .int (intV r.a), rfl, rfl, sp, by rw [g.2.2 e he]; exact atI_nat (j := 4) rfl, _, rfl, q⟩)⟩
    · refine ⟨_, rfl, .inr (.inl ⟨p, _, 2, .str "write", rfl, rfl, sp, by rw [g.1]; exact atI_nat (j := 2) rfl, rfl, _, rfl, iteP (by decide +kernel) ?_⟩)⟩
      exact ⟨_, rfl, .inr (.inl ⟨p, _, 4, .str "ok", rfl, rfl, sp, by rw [g.2.2.2 e he]; exact atI_nat (j := 4) rfl, rfl, q⟩)⟩
structure ToldAt (K : PySem.W.Frag) (H : Hp) (l : Addr) (wr : Int) (rs : List Rc) (zs : List V) : Prop where
  l : H l = some (.lst zs)
  a : All2 (RcAt K H) rs zs
  g : ∀ r ∈ rs, RdG r ∨ WrG wr r
  n : rs.length ≤ 63
theorem ToldAt.same {K : PySem.W.Frag} {H H' : Hp} {l : Addr} {wr : Int} {rs : List Rc} {zs : List V} (s : Same H H') (h : ToldAt K H l wr rs zs) : ToldAt K H' l wr rs zs := ⟨s _ _ h.l, forall2_mono (fun _ _ z => RcAt.tups (.of s) z) h.a, h.g, h.n⟩
def r00 : Rc := ⟨0, .non, .non, .non, .non, 0, none⟩
theorem getD_some {rs : List Rc} {i : Nat} {r : Rc} (h : rs[i]? = some r) : rs[i]?.getD r00 = r := by rw [h]; rfl
theorem inV_ints (x : Int) : ∀ ns : List Int, inV (.int x) (ns.map V.int) = decide (x ∈ ns)
  | [] => by rw [decide_eq_false List.not_mem_nil]; rfl
  | n :: r => by
    show ((n == x) || inV (.int x) (r.map V.int)) = _
    rw [inV_ints x r]
    by_cases e : n = x
    · rw [beq_iff_eq.mpr e, Bool.true_or, decide_eq_true (List.mem_cons.mpr (.inl e.symm))]
    · rw [Bool.eq_false_iff.mpr (fun h => e (beq_iff_eq.mp h)), Bool.false_or]
      by_cases m : x ∈ r
      · rw [decide_eq_true m, decide_eq_true (List.mem_cons.mpr (.inr m))]
      · rw [decide_eq_false m, decide_eq_false (fun h => (List.mem_cons.mp h).elim (fun y => e y.symm) m)]
theorem ints_flat : ∀ ns : List Int, (ns.map V.int).all flatV = true
  | [] => rfl
  | _ :: r => by show (true && (r.map V.int).all flatV) = true; rw [ints_flat r]; rfl
theorem writes_of {f : Rc → V} {rs : List Rc} {zs ys : List V} (lz : zs.length = rs.length) (h : All2 (fun (i : Nat) y => y = f (rs[i]?.getD r00)) ((List.range zs.length).filter fun i => isW (rs[i]?.getD r00)) ys) : ys = (rs.filter isW).map f := by
  rw [lz] at h
  rw [forall2_fun h]
  exact filter_range_map isW f r00 rs
def sp_are_plain (K : PySem.W.Frag) : Sp := fun vs H Q _ => ∃ l zs rs wr, vs = [.ref l] ∧ ToldAt K H l wr rs zs ∧ ((rs.filter isW).map (fun r => intV r.x)).Nodup ∧ (0 : Int) ∉ (rs.filter isW).map (fun r => intV r.x) ∧ ∀ H', Same H H' → Q (.bl true) H'
theorem ok_are_plain (T : TX (KX w.params) mg) (c_is_answered : Cal P w (KX w.params) mg base "is_answered" ["deed"] 2 (sp_is_answered (KX w.params))) : FnOk P w (KX w.params) mg base CX0 3 64 fd_are_plain ["told"] (sp_are_plain (KX w.params)) := by
  refine (F_are_plain w.params).ok sc_are_plain (fun vs H Q E h => ?_) (fun cdv A outer s H vs Q E hr h => ?_)
  · obtain ⟨l, zs, rs, wr, rfl, _⟩ := h
    rfl
  · obtain ⟨l, zs, rs, wr, rfl, ta, nd, n0, q⟩ := h
    refine ⟨_, (pss_cons (ps_setG (i := 1) sc_are_plain.nd rfl (by first | exact Or.inl rfl | exact Or.inr rfl) (xs := ["deed"]) (g := gName 0) (fr := []) rfl (pi_list (pv 0)) (fun _ z => absurd z List.not_mem_nil) (free_none rfl) (fun _ z => absurd z List.not_mem_nil) (by decide +kernel) rfl (by decide +kernel) (fun _ _ _ _ _ => (pg_cname (N := ["deed"]) 0 (by decide +kernel) rfl rfl)) (fun _ _ _ _ _ => (pf_one (pt_cmpR opEq (pe_ix (ix_seqK (K := KX w.params) rfl) (pv 0) pe_int (fun _ _ => rfl)) pe_str (nomark _)))) (fun _ _ _ _ _ => (pe_ix (ix_seqK (K := KX w.params) rfl) (pv 0) pe_int (fun _ _ => rfl))))
      (pss_cons (ps_if (PW.pt (pw_or (pt_cmpR op_in_seq pe_int (pv 1) (by with_unfolding_all rfl)) (pw_or1 (pt_cmpR op_lt (pe_lenSet rfl rfl (T.no (n_len _)) rfl (T.no (n_set _)) boot_len boot_set (pv 1)) (pe_callB callLen rfl (T.no (n_len _)) boot_len (pa_cons (pv 1) pa_nil)) (nomark _)))))
      (pss_one (ps_ret pe_bl))
      pss_nil)
      (pss_one (ps_ret (pe_callB (call_allL rfl) rfl (T.no (n_all _)) boot_all (pa_cons (pe_compG (xs := ["deed"]) (g := gName 0) (fr := []) rfl (pi_list (pv 0)) (fun _ z => absurd z List.not_mem_nil) (free_none rfl) (fun _ z => absurd z List.not_mem_nil) (by decide +kernel) rfl (by decide +kernel) (fun _ _ _ _ _ => (pg_cname (N := ["deed"]) 0 (by decide +kernel) rfl rfl)) (fun _ _ _ _ _ => pf_nil) (fun _ _ _ _ _ => (pe_or (pe_cmpR op_isN (pe_ix (ix_seqK (K := KX w.params) rfl) (pv 0) pe_int (fun _ _ => rfl)) pe_non (nomark _)) (pe_one (pe_cal c_is_answered (hr.mono (by first | decide | omega)) rfl (pa_cons (pv 0) pa_nil)))))) pa_nil)))))), ?_⟩
    have lz : zs.length = rs.length := forall2_len ta.a
    have l63 := ta.n
    refine seq_asg ?_
    refine tcompF_L (K := KX w.params) (a := l) (xs := zs) (H1 := H) (fun i => isW (rs[i]?.getD r00)) (fun i y _ => y = .int (intV (rs[i]?.getD r00).x)) (fun _ _ _ _ _ z => z) (fun R h => ⟨_, rfl, h⟩) (SqL.of ta.l) (Nat.le_trans (m := 63) (by omega) (by decide)) ?_ ?_
    · intro i hi v H1 s1 hv KT KF h1 h2
      obtain ⟨r, hri, p, rfl, sp⟩ := all2_get ta.a hv
      have sp1 := s1.seqT sp
      rw [getD_some hri] at h1 h2
      refine ⟨[some (.ref p)], rfl, rfl, ?_⟩
      rcases ta.g r (List.mem_of_getElem? hri) with g | g
      · refine ⟨_, rfl, .inr (.inl ⟨p, _, 2, .str "read", rfl, rfl, sp1, by rw [g.1]; exact atI_nat (j := 2) rfl, rfl, _, rfl, iteN (by decide +kernel) (h2 g.w _ (Same.refl _))⟩)⟩
      · refine ⟨_, rfl, .inr (.inl ⟨p, _, 2, .str "write", rfl, rfl, sp1, by rw [g.1]; exact atI_nat (j := 2) rfl, rfl, _, rfl, iteP (by decide +kernel) ?_⟩)⟩
        exact ⟨_, rfl, .inr (.inl ⟨p, _, 3, .int (intV r.x), rfl, rfl, sp1, by rw [← g.2.2.1]; exact atI_nat (j := 3) rfl, h1 g.w _ _ (Same.refl _) rfl⟩)⟩
    intro l1 H1 ys s1 hl1 al1
    have ey := writes_of (f := fun r => V.int (intV r.x)) lz al1
    have ey2 : ys = ((rs.filter isW).map (fun r => intV r.x)).map V.int := by rw [ey, List.map_map]; rfl
    have lu : ((rs.filter isW).map (fun r => intV r.x)).length ≤ 63 := by rw [List.length_map]; exact Nat.le_trans (List.length_filter_le _ _) l63
    subst ey2
    generalize (rs.filter isW).map (fun r => intV r.x) = us at nd n0 lu ⊢
    have s2 := Same.upd (o := .lst (us.map V.int)) hl1
    have e2 : upd H1 l1 (.lst (us.map V.int)) l1 = some (.lst (us.map V.int)) := upd_same
    have s02 := s1.trans s2
    generalize upd H1 l1 (.lst (us.map V.int)) = H2 at s2 e2 s02 ⊢
    refine g_name ?_
    refine sq_if ?_
    refine t_or ?_
    refine ⟨_, rfl, l1, _, rfl, .inl (SqL.of e2), rfl, ints_flat _, _, rfl, iteN (by show ¬ inV _ _ = true; rw [inV_ints, decide_eq_false n0]; decide) ?_⟩
    refine ⟨_, rfl, l1, us, rfl, SqL.of e2, by omega, _, rfl, .inl ⟨l1, _, rfl, .inl (SqL.of e2), _, _, rfl, rfl, _, rfl, iteN ?_ ?_⟩⟩
    · rw [addI_nodup us [] nd (fun _ _ => List.not_mem_nil), List.length_nil, List.length_map]
      exact fun e => absurd (of_decide_eq_true e) (by omega)
    refine t_nx (sq_ret (e_cb1 ?_))
    have ta2 := ta.same s02
    refine tcompF_L (K := KX w.params) (a := l) (xs := zs) (H1 := H2) (fun _ => true) (fun i y _ => y = .bl true) (fun _ _ _ _ _ z => z) (fun R h => ⟨_, rfl, h⟩) (SqL.of ta2.l) (Nat.le_trans (m := 63) (by omega) (by decide)) ?_ ?_
    · intro i hi v H3 s3 hv KT KF h1 h2
      obtain ⟨r, hri, p, rfl, sp⟩ := all2_get ta2.a hv
      have sp1 := s3.seqT sp
      refine ⟨[some (.ref p)], rfl, rfl, iteT ?_⟩
      cases he : r.e with
      | none => exact ⟨_, rfl, .inr (.inl ⟨p, _, 6, .non, rfl, rfl, sp1, by rw [he]; exact atI_nat (j := 6) rfl, rfl, _, rfl, iteP (by decide) (h1 rfl _ _ (Same.refl _) rfl)⟩)⟩
      | some e =>
        refine ⟨_, rfl, .inr (.inl ⟨p, _, 6, .int e, rfl, rfl, sp1, by rw [he]; exact atI_nat (j := 6) rfl, rfl, _, rfl, iteN (by simp) ?_⟩)⟩
        exact ⟨_, rfl, _, r, wr, e, rfl, ⟨p, rfl, sp1⟩, ta.g r (List.mem_of_getElem? hri), he, h1 rfl _ _ (Same.refl _) rfl⟩
    intro l3 H3 bs s3 hl3 al3
    have hb : ∀ y ∈ bs, y = .bl true := fun y hy => by
      obtain ⟨m, hm⟩ := List.mem_iff_getElem?.mp hy
      obtain ⟨_, _, z⟩ := all2_get al3 hm
      exact z
    refine ⟨l3, bs, rfl, SqL.of upd_same, fun y hy => ⟨true, hb y hy⟩, ?_⟩
    rw [List.all_eq_true.mpr (fun y hy => decide_eq_true (hb y hy))]
    exact q _ (s02.trans (s3.trans (Same.upd hl3)))
structure TalR (K : PySem.W.Frag) (H : Hp) (t : Addr) (nm : Str) (wr : Int) (es : List Ev) (ys : List V) : Prop where
  t : ∃ pt te th, SqT K H t [.ref pt, .ref te] ∧ SqT K H pt [.ref th] ∧ SqT K H th [.str nm, .str "register"] ∧ SqT K H te ys
  ev : All2 (EvAt K H) es ys
  tw : ∃ os us, TW nm wr es os us
  ln : es.length ≤ 63
theorem TalR.same {K : PySem.W.Frag} {H H' : Hp} {t : Addr} {nm : Str} {wr : Int} {es : List Ev} {ys : List V} (s : Same H H') (h : TalR K H t nm wr es ys) : TalR K H' t nm wr es ys := by
  obtain ⟨pt, te, th, a, b, c, d⟩ := h.t
  exact ⟨⟨pt, te, th, s.seqT a, s.seqT b, s.seqT c, s.seqT d⟩, forall2_mono (fun _ _ z => EvAt.tups (.of s) z) h.ev, h.tw, h.ln⟩
theorem dAll_len : ∀ {es : List Ev} {i : Nat} {rs : List Rc}, (dAll i rs es).length ≤ rs.length + es.length
  | [], _, _ => Nat.le_refl _
  | e :: es, i, rs => by
    have h := dAll_len (es := es) (i := i + 1) (rs := dstep i rs e)
    have h2 : (dstep i rs e).length ≤ rs.length + 1 := by
      cases e with
      | beg k n v x => exact Nat.le_of_eq (List.length_append ..)
      | fin k a =>
        unfold dstep
        dsimp only
        cases lastI k (rs.map Rc.h) with
        | none => exact Nat.le_succ _
        | some j => dsimp only; rw [List.length_modify]; exact Nat.le_succ _
    show (dAll (i + 1) (dstep i rs e) es).length ≤ _
    rw [List.length_cons]
    omega
def sp_plain_deeds (K : PySem.W.Frag) : Sp := fun vs H Q _ => ∃ t nm wr es ys, vs = [.ref t] ∧ TalR K H t nm wr es ys ∧ ∀ l zs H', Same H H' → ToldAt K H' l wr (dAll 0 [] es) zs → Q (.ref l) H'
theorem reg_plain : plainP (.list [.str "register"]) = true := by decide +kernel
theorem reg_eqv : PyData.eqv (.list [.str "register"]) (.list [.str "register"]) = true := by decide +kernel
theorem ok_plain_deeds (T : TX (KX w.params) mg) (c_deeds : Cal P w (KX w.params) mg base "deeds" ["tale"] 1 (sp_deeds (KX w.params))) (c_are_plain : Cal P w (KX w.params) mg base "are_plain" ["told"] 3 (sp_are_plain (KX w.params))) : FnOk P w (KX w.params) mg base CX0 4 59 fd_plain_deeds ["tale"] (sp_plain_deeds (KX w.params)) := by
  refine (F_plain_deeds w.params).ok sc_plain_deeds (fun vs H Q E h => ?_) (fun cdv A outer s H vs Q E hr h => ?_)
  · obtain ⟨t, nm, wr, es, ys, rfl, _⟩ := h
    rfl
  · obtain ⟨t, nm, wr, es, ys, rfl, ta, q⟩ := h
    refine ⟨_, (pss_cons (ps_set (i := 1) sc_plain_deeds.nd rfl (by first | exact Or.inl rfl | exact Or.inr rfl) (pe_cal c_deeds (hr.mono (by first | decide | omega)) rfl (pa_cons (pv 0) pa_nil)))
      (pss_cons (ps_if (PW.pt (pw_or (pt_cmpR (op_neP hr) (pe_compG (xs := ["name", "kind"]) (g := gTup (KX w.params) 2 (gCons (gName 0) (gCons (gName 1) gNil))) (fr := []) rfl (pi_tup (pe_ix ix_seq (pv 0) pe_int (fun _ _ => rfl))) (fun _ z => absurd z List.not_mem_nil) (free_none rfl) (fun _ z => absurd z List.not_mem_nil) (by decide +kernel) rfl (by decide +kernel) (fun _ _ _ _ _ => (pg_tup rfl (pgs_cons (pg_cname (N := ["name", "kind"]) 0 (by decide +kernel) rfl rfl) (pgs_cons (pg_cname (N := ["name", "kind"]) 1 (by decide +kernel) rfl rfl) pgs_nil)))) (fun _ _ _ _ _ => pf_nil) (fun _ _ _ _ _ => (pv 1))) (pe_lst (pa_cons pe_str pa_nil)) (nomark _)) (pw_or1 (pt_not (pt_val (pe_cal c_are_plain (hr.mono (by first | decide | omega)) rfl (pa_cons (pv 1) pa_nil)) (fun _ => rfl))))))
      (pss_one ps_never)
      pss_nil)
      (pss_one (ps_ret (pv 1))))), ?_⟩
    obtain ⟨pt, te, th, st, sp, sh, se⟩ := ta.t
    obtain ⟨os, us, tw⟩ := ta.tw
    have wf := (DInv.nil.all tw.wf.1).1
    have l63 := ta.ln
    have rn : (dAll 0 [] es).length ≤ 63 := Nat.le_trans dAll_len (by simpa using l63)
    refine seq_asg ?_
    refine ⟨_, rfl, t, te, .ref pt, ys, es, rfl, st, se, ta.ev, by omega, wf, fun l zs H1 s1 hl0 el al => ?_⟩
    refine g_name ?_
    have tl : ToldAt (KX w.params) H1 l wr (dAll 0 [] es) zs := ⟨el, al, tw.rs.g, rn⟩
    refine sq_if (t_or (t_test ?_))
    refine tcompF_Tp (K := KX w.params) (a := pt) (xs := [.ref th]) (H1 := H1) (fun _ => true) (fun i y _ => y = .str "register") (fun _ _ _ _ _ z => z) (fun R h => ⟨_, rfl, .inr (.inl ⟨t, _, 0, .ref pt, rfl, rfl, s1.seqT st, atI_nat (j := 0) rfl, h⟩)⟩) (s1.seqT sp) (show (1 : Nat) ≤ sizeLine by decide) ?_ ?_
    · intro i hi v H2 s2 hv KT KF h1 h2
      have : v = .ref th := List.mem_singleton.mp (List.mem_of_getElem? hv)
      subst this
      refine ⟨th, _, rfl, (s1.trans s2).seqT sh, rfl, _, _, rfl, _, _, rfl, rfl, [some (.str nm), some (.str "register")], rfl, rfl, iteT ⟨_, rfl, h1 rfl _ _ (Same.refl _) rfl⟩⟩
    intro l2 H2 ks s2 hl2 al2
    have ek : ks = [.str "register"] := by
      replace al2 : All2 (fun (_ : Nat) (y : V) => y = .str "register") [0] ks := al2
      cases al2 with
      | cons a r => cases r; rw [a]
    subst ek
    have s3 := Same.upd (o := .lst [V.str "register"]) hl2
    have e3 : upd H2 l2 (.lst [V.str "register"]) l2 = some (.lst [V.str "register"]) := upd_same
    have s13 := s2.trans s3
    generalize upd H2 l2 (.lst [V.str "register"]) = H3 at s3 e3 s13 ⊢
    refine ⟨(show (1 : Nat) ≤ sizeLine by decide), fun l4 hl4 => ?_⟩
    have s4 := Same.upd (o := .lst [V.str "register"]) hl4
    refine ⟨.list [.str "register"], .list [.str "register"], ⟨l2, _, rfl, SqL.of (s4 _ _ e3), ⟨_, _, rfl, rfl, rfl⟩⟩, ⟨l4, _, rfl, SqL.of upd_same, ⟨_, _, rfl, rfl, rfl⟩⟩, reg_plain, reg_plain, (show (1 : Nat) ≤ 60 by decide), _, rfl, iteN (by rw [reg_eqv]; decide) ?_⟩
    have s14 := s13.trans s4
    generalize upd H3 l4 (.lst [V.str "register"]) = H4 at s4 s14 ⊢
    refine ⟨_, rfl, l, zs, _, wr, rfl, tl.same s14, by rw [tw.rs.u]; exact tw.us.1, by rw [tw.rs.u]; exact tw.us.2, fun H5 s5 => ⟨true, rfl, iteN (by decide) ?_⟩⟩
    exact ⟨_, rfl, q l zs H5 (s1.trans (s14.trans s5)) (tl.same (s14.trans s5))⟩
end
end K20
namespace K20
open PySem PySem.Spec PyProof.Rows TJ L2
section
structure EvR (es : List Ev) (rs : List Rc) : Prop where
  a : ∀ r ∈ rs, es[r.b]? = some (.beg r.h r.n r.v r.x)
  b : ∀ r ∈ rs, ∀ k, r.e = some k → es[k]? = some (.fin r.h r.a)
  c : ∀ (i : Nat) h n v x, es[i]? = some (.beg h n v x) → ∃ r ∈ rs, r.b = i
  d : ∀ (i : Nat) h a, es[i]? = some (.fin h a) → ∃ r ∈ rs, r.e = some i ∧ r.h = h
theorem TW.open {nm : Str} {wr : Int} {es : List Ev} {os : List (Int × Bool)} {us : List Int} (h : TW nm wr es os us) : ∀ k b, (k, b) ∈ os → ∃ j r, lastI k ((dAll 0 [] es).map Rc.h) = some j ∧ (dAll 0 [] es)[j]? = some r ∧ r.h = k ∧ r.e = none := by
  have beg : ∀ {rs : List Rc} {os : List (Int × Bool)} (k : Int) (b : Bool) (r : Rc), (∀ k b, (k, b) ∈ os → ∃ j r, lastI k (rs.map Rc.h) = some j ∧ rs[j]? = some r ∧ r.h = k ∧ r.e = none) → k ∉ os.map (·.1) → r.h = k → r.e = none → ∀ k' b', (k', b') ∈ os ++ [(k, b)] → ∃ j r', lastI k' ((rs ++ [r]).map Rc.h) = some j ∧ (rs ++ [r])[j]? = some r' ∧ r'.h = k' ∧ r'.e = none := by
    intro rs os k b r I hk hr he k' b' hm
    rw [List.map_append]
    show ∃ j q, lastI k' (rs.map Rc.h ++ [r.h]) = some j ∧ _
    rw [lastI_snoc, hr]
    rcases List.mem_append.mp hm with z | z
    · have ne : ¬ k = k' := fun e => hk (e ▸ List.mem_map.mpr ⟨_, z, rfl⟩)
      obtain ⟨j, q, h1, h2, h3⟩ := I k' b' z
      refine ⟨j, q, by rw [if_neg ne]; exact h1, ?_, h3⟩
      rw [List.getElem?_append_left (List.getElem?_eq_some_iff.mp h2).1]
      exact h2
    · have e := List.mem_singleton.mp z
      cases e
      refine ⟨rs.length, r, by rw [if_pos rfl, List.length_map], ?_, hr, he⟩
      rw [List.getElem?_append_right (Nat.le_refl _), Nat.sub_self]
      rfl
  induction h with
  | nil => exact fun _ _ h => absurd h List.not_mem_nil
  | @wri es os us i _ h0 _ _ ih => rw [dAll_snoc]; exact beg wr true ⟨wr, .str nm, .str "write", .int i, .non, 0 + es.length, none⟩ ih h0 rfl rfl
  | @rd es os us h _ h0 ih => rw [dAll_snoc]; exact beg h false ⟨h, .str nm, .str "read", .non, .non, 0 + es.length, none⟩ ih h0 rfl rfl
  | @fin es os us h b a _ h0 ht hf ih =>
    intro k c hc
    rw [dAll_snoc]
    obtain ⟨j, r, h1, h2, h3, _⟩ := ih h b h0
    have hd : ∀ i, dstep i (dAll 0 [] es) (.fin h a) = (dAll 0 [] es).modify j (fun r => { r with a := a, e := some i }) := fun i => by unfold dstep; dsimp only; rw [h1]
    rw [hd, modify_h (f := fun r => { r with a := a, e := some (0 + es.length) }) (fun r => rfl)]
    obtain ⟨hm, hn⟩ := List.mem_filter.mp hc
    have hn := of_decide_eq_true hn
    obtain ⟨j', r', g1, g2, g3, g4⟩ := ih k c hm
    refine ⟨j', r', g1, ?_, g3, g4⟩
    rw [List.getElem?_modify, g2]
    show some (if j = j' then _ else r') = some r'
    rw [if_neg (show ¬ j = j' from fun e => by rw [e, g2] at h2; cases h2; exact hn (g3.symm.trans h3))]
theorem TW.evr {nm : Str} {wr : Int} {es : List Ev} {os : List (Int × Bool)} {us : List Int} (h : TW nm wr es os us) : EvR es (dAll 0 [] es) := by
  have beg : ∀ {es : List Ev} {rs : List Rc} (h : Int) (n v x : V), EvR es rs → EvR (es ++ [.beg h n v x]) (rs ++ [⟨h, n, v, x, .non, 0 + es.length, none⟩]) := by
    intro es rs h n v x I
    have lt : ∀ {i : Nat} {e : Ev}, es[i]? = some e → (es ++ [Ev.beg h n v x])[i]? = some e := fun z => by rw [List.getElem?_append_left (List.getElem?_eq_some_iff.mp z).1]; exact z
    have me : (es ++ [Ev.beg h n v x])[0 + es.length]? = some (.beg h n v x) := by rw [Nat.zero_add, List.getElem?_append_right (Nat.le_refl _), Nat.sub_self]; rfl
    have back : ∀ {i : Nat} {e : Ev}, (es ++ [Ev.beg h n v x])[i]? = some e → es[i]? = some e ∨ (i = 0 + es.length ∧ e = .beg h n v x) := fun {i e} z => by
      by_cases y : i < es.length
      · rw [List.getElem?_append_left y] at z; exact .inl z
      · have hl := (List.getElem?_eq_some_iff.mp z).1
        rw [List.length_append] at hl
        have : i = 0 + es.length := by simp at hl; omega
        rw [this, me] at z
        exact .inr ⟨this, (Option.some.inj z).symm⟩
    refine ⟨fun r hr => ?_, fun r hr k hk => ?_, fun i h' n' v' x' z => ?_, fun i h' a z => ?_⟩
    · rcases List.mem_append.mp hr with y | y
      · exact lt (I.a r y)
      · rw [List.mem_singleton.mp y]; exact me
    · rcases List.mem_append.mp hr with y | y
      · exact lt (I.b r y k hk)
      · rw [List.mem_singleton.mp y] at hk; cases hk
    · rcases back z with y | ⟨y, _⟩
      · obtain ⟨r, hr, e⟩ := I.c i _ _ _ _ y
        exact ⟨r, List.mem_append.mpr (.inl hr), e⟩
      · exact ⟨_, List.mem_append.mpr (.inr (List.mem_singleton.mpr rfl)), y.symm⟩
    · rcases back z with y | ⟨_, y⟩
      · obtain ⟨r, hr, e⟩ := I.d i _ _ y
        exact ⟨r, List.mem_append.mpr (.inl hr), e⟩
      · cases y
  induction h with
  | nil => exact ⟨fun _ h => absurd h List.not_mem_nil, fun _ h => absurd h List.not_mem_nil, fun _ _ _ _ _ h => by simp at h, fun _ _ _ h => by simp at h⟩
  | wri _ _ _ _ ih => rw [dAll_snoc]; exact beg _ _ _ _ ih
  | rd _ _ ih => rw [dAll_snoc]; exact beg _ _ _ _ ih
  | @fin es os us h b a t h0 ht hf I =>
    rw [dAll_snoc]
    obtain ⟨j, r, h1, h2, h3, h4⟩ := t.open h b h0
    have hd : ∀ i, dstep i (dAll 0 [] es) (.fin h a) = (dAll 0 [] es).modify j (fun r => { r with a := a, e := some i }) := fun i => by unfold dstep; dsimp only; rw [h1]
    rw [hd]
    generalize dAll 0 [] es = rs at I h1 h2
    have lt : ∀ {i : Nat} {e : Ev}, es[i]? = some e → (es ++ [Ev.fin h a])[i]? = some e := fun z => by rw [List.getElem?_append_left (List.getElem?_eq_some_iff.mp z).1]; exact z
    have me : (es ++ [Ev.fin h a])[0 + es.length]? = some (.fin h a) := by rw [Nat.zero_add, List.getElem?_append_right (Nat.le_refl _), Nat.sub_self]; rfl
    have back : ∀ {i : Nat} {e : Ev}, (es ++ [Ev.fin h a])[i]? = some e → es[i]? = some e ∨ (i = 0 + es.length ∧ e = .fin h a) := fun {i e} z => by
      by_cases y : i < es.length
      · rw [List.getElem?_append_left y] at z; exact .inl z
      · have hl := (List.getElem?_eq_some_iff.mp z).1
        rw [List.length_append] at hl
        have : i = 0 + es.length := by simp at hl; omega
        rw [this, me] at z
        exact .inr ⟨this, (Option.some.inj z).symm⟩
    have get : ∀ q ∈ rs.modify j (fun r => { r with a := a, e := some (0 + es.length) }), (q = { r with a := a, e := some (0 + es.length) }) ∨ q ∈ rs := fun q hq => by
      obtain ⟨m, hm⟩ := List.mem_iff_getElem?.mp hq
      rw [List.getElem?_modify] at hm
      obtain ⟨q', hq', e⟩ := Option.map_eq_some_iff.mp hm
      by_cases z : j = m
      · rw [if_pos z] at e
        rw [← z, h2] at hq'
        cases hq'
        exact .inl e.symm
      · rw [if_neg z] at e
        rw [← e]
        exact .inr (List.mem_of_getElem? hq')
    have put : ∀ q ∈ rs, q ∈ rs.modify j (fun r => { r with a := a, e := some (0 + es.length) }) ∨ q = r := fun q hq => by
      obtain ⟨m, hm⟩ := List.mem_iff_getElem?.mp hq
      by_cases z : j = m
      · rw [← z, h2] at hm
        cases hm
        exact .inr rfl
      · refine .inl (List.mem_of_getElem? (i := m) ?_)
        rw [List.getElem?_modify, hm]
        show some (if j = m then _ else q) = some q
        rw [if_neg z]
    have new : { r with a := a, e := some (0 + es.length) } ∈ rs.modify j (fun r => { r with a := a, e := some (0 + es.length) }) := List.mem_of_getElem? (i := j) (by rw [List.getElem?_modify, h2]; show some (if j = j then _ else r) = _; rw [if_pos rfl])
    have mr := List.mem_of_getElem? h2
    refine ⟨fun q hq => ?_, fun q hq k hk => ?_, fun i h' n' v' x' z => ?_, fun i h' a' z => ?_⟩
    · rcases get q hq with e | e
      · rw [e]; exact lt (I.a r mr)
      · exact lt (I.a q e)
    · rcases get q hq with e | e
      · rw [e] at hk ⊢
        cases hk
        show (es ++ [Ev.fin h a])[0 + es.length]? = some (.fin r.h a)
        rw [h3]; exact me
      · exact lt (I.b q e k hk)
    · rcases back z with y | ⟨_, y⟩
      · obtain ⟨q, hq, e⟩ := I.c i _ _ _ _ y
        rcases put q hq with x | x
        · exact ⟨q, x, e⟩
        · exact ⟨_, new, by rw [← e, x]⟩
      · cases y
    · rcases back z with y | ⟨y1, y2⟩
      · obtain ⟨q, hq, e1, e2⟩ := I.d i _ _ y
        rcases put q hq with x | x
        · exact ⟨q, x, e1, e2⟩
        · rw [x, h4] at e1; cases e1
      · cases y2
        exact ⟨_, new, by rw [y1], h3⟩
structure Sq1 (wr : Int) (es : List Ev) (rs : List Rc) : Prop where
  R : EvR es rs
  G : ∀ r ∈ rs, RdG r ∨ WrG wr r
  D : ∀ (x y : Nat) (r q : Rc), x < y → rs[x]? = some r → rs[y]? = some q → r.b < q.b ∧ (r.h = q.h → ∃ e, r.e = some e ∧ e < q.b)
  E : EndsB rs
theorem TW.sq {nm : Str} {wr : Int} {es : List Ev} {os : List (Int × Bool)} {us : List Int} (h : TW nm wr es os us) : Sq1 wr es (dAll 0 [] es) := by
  obtain ⟨_, os', DI⟩ := DInv.nil.all h.wf.1
  exact ⟨h.evr, h.rs.g, DI.p, (EndsB.all (es := es) (i := 0) (rs := []) (fun _ h => absurd h List.not_mem_nil) (fun _ h => absurd h List.not_mem_nil)).1⟩
variable {wr : Int} {es : List Ev} {rs : List Rc}
theorem Sq1.hand (S : Sq1 wr es rs) {w w' : Rc} (h : w ∈ rs) (h' : w' ∈ rs) (e : w.h = w'.h) : w = w' ∨ (w.b < w'.b ∧ ∃ k, w.e = some k ∧ k < w'.b) ∨ (w'.b < w.b ∧ ∃ k, w'.e = some k ∧ k < w.b) := by
  obtain ⟨i, hi⟩ := List.mem_iff_getElem?.mp h
  obtain ⟨j, hj⟩ := List.mem_iff_getElem?.mp h'
  rcases Nat.lt_trichotomy i j with z | z | z
  · obtain ⟨a, b⟩ := S.D i j w w' z hi hj; exact .inr (.inl ⟨a, b e⟩)
  · subst z; rw [hi] at hj; cases hj; exact .inl rfl
  · obtain ⟨a, b⟩ := S.D j i w' w z hj hi; exact .inr (.inr ⟨a, b e.symm⟩)
theorem Sq1.same_b (S : Sq1 wr es rs) {w w' : Rc} (h : w ∈ rs) (h' : w' ∈ rs) (e : w.b = w'.b) : w = w' := by
  obtain ⟨i, hi⟩ := List.mem_iff_getElem?.mp h
  obtain ⟨j, hj⟩ := List.mem_iff_getElem?.mp h'
  rcases Nat.lt_trichotomy i j with z | z | z
  · have := (S.D i j w w' z hi hj).1; omega
  · subst z; rw [hi] at hj; cases hj; rfl
  · have := (S.D j i w' w z hj hi).1; omega
theorem Sq1.wh (S : Sq1 wr es rs) {w : Rc} (h : w ∈ rs) (hw : isW w = true) : w.h = wr ∧ w.v = .str "write" := by
  rcases S.G w h with g | g
  · rw [g.w] at hw; cases hw
  · exact ⟨g.2.1, g.1⟩
def OpW (rs : List Rc) (i : Nat) (w : Rc) : Prop := w ∈ rs ∧ isW w = true ∧ w.b < i ∧ ∀ e, w.e = some e → i ≤ e
theorem Sq1.op1 (S : Sq1 wr es rs) {i : Nat} {w w' : Rc} (h : OpW rs i w) (h' : OpW rs i w') : w = w' := by
  rcases S.hand h.1 h'.1 ((S.wh h.1 h.2.1).1.trans (S.wh h'.1 h'.2.1).1.symm) with z | ⟨_, k, e, lt⟩ | ⟨_, k, e, lt⟩
  · exact z
  · have := h.2.2.2 k e; have := h'.2.2.1; omega
  · have := h'.2.2.2 k e; have := h.2.2.1; omega
def OpI (rs : List Rc) (i : Nat) (o : Option Rc) : Prop := match o with | none => ∀ w, ¬ OpW rs i w | some w => OpW rs i w
theorem Sq1.begW (S : Sq1 wr es rs) {i : Nat} {h : Int} {n x : V} (e : es[i]? = some (.beg h n (.str "write") x)) : ∃ w, OpW rs (i + 1) w ∧ w.b = i ∧ w.x = x ∧ w.h = h ∧ w.n = n := by
  obtain ⟨r, hr, rfl⟩ := S.R.c i _ _ _ _ e
  have := S.R.a r hr
  rw [e] at this
  injection this with this
  injection this with h1 h2 h3 h4
  exact ⟨r, ⟨hr, decide_eq_true h3.symm, Nat.lt_succ_self _, fun k hk => S.E r hr k hk⟩, rfl, h4.symm, h1.symm, h2.symm⟩
theorem Sq1.noE (S : Sq1 wr es rs) {i : Nat} {h : Int} {n v x : V} (e : es[i]? = some (.beg h n v x)) : ∀ w ∈ rs, w.e ≠ some i := fun w hw z => by
  have := S.R.b w hw i z
  rw [e] at this
  cases this
theorem Sq1.noB (S : Sq1 wr es rs) {i : Nat} {h : Int} {a : V} (e : es[i]? = some (.fin h a)) : ∀ w ∈ rs, w.b ≠ i := fun w hw z => by
  have := S.R.a w hw
  rw [z, e] at this
  cases this
theorem Sq1.noW (S : Sq1 wr es rs) {i : Nat} {h : Int} {n v x : V} (e : es[i]? = some (.beg h n v x)) (hv : v ≠ .str "write") : ∀ w ∈ rs, isW w = true → w.b ≠ i := fun w hw hi z => by
  have := S.R.a w hw
  rw [z, e] at this
  injection this with this
  injection this with _ _ h3 _
  exact hv (h3.trans (of_decide_eq_true hi))
theorem OpI.on {i : Nat} {o : Option Rc} (h : OpI rs i o) (nb : ∀ w ∈ rs, isW w = true → w.b ≠ i) (ne : ∀ w ∈ rs, isW w = true → w.e ≠ some i) : OpI rs (i + 1) o := by
  cases o with
  | none =>
    intro w hw
    refine h w ⟨hw.1, hw.2.1, ?_, fun e z => ?_⟩
    · have := hw.2.2.1; have := nb w hw.1 hw.2.1; omega
    · have := hw.2.2.2 e z; omega
  | some w =>
    refine ⟨h.1, h.2.1, ?_, fun e z => ?_⟩
    · have := h.2.2.1; omega
    · have := h.2.2.2 e z
      rcases Nat.lt_or_ge i e with y | y
      · exact y
      · have : e = i := by omega
        subst this
        exact absurd z (ne w h.1 h.2.1)
theorem Sq1.finY (S : Sq1 wr es rs) {i : Nat} {w : Rc} {a : V} (e : es[i]? = some (.fin w.h a)) (h : OpW rs i w) : w.e = some i ∧ OpI rs (i + 1) none := by
  obtain ⟨r, hr, h1, h2⟩ := S.R.d i _ _ e
  have hb := S.E r hr i h1
  have ew : r = w := by
    rcases S.hand hr h.1 h2 with z | ⟨_, k, e1, lt⟩ | ⟨_, k, e1, lt⟩
    · exact z
    · rw [h1] at e1; cases e1; have := h.2.2.1; omega
    · have := h.2.2.2 k e1; omega
  subst ew
  refine ⟨h1, fun w' hw' => ?_⟩
  have hb' : w'.b ≠ i := S.noB e w' hw'.1
  rcases S.hand hr hw'.1 ((S.wh hr h.2.1).1.trans (S.wh hw'.1 hw'.2.1).1.symm) with z | ⟨_, k, e1, lt⟩ | ⟨_, k, e1, lt⟩
  · subst z; have := hw'.2.2.2 i h1; omega
  · rw [h1] at e1; cases e1; have := hw'.2.2.1; omega
  · have := hw'.2.2.2 k e1; omega
theorem Sq1.finN (S : Sq1 wr es rs) {i : Nat} {h : Int} {a : V} {o : Option Rc} (e : es[i]? = some (.fin h a)) (ho : OpI rs i o) (hn : ∀ w, o = some w → h ≠ w.h) : ∀ w ∈ rs, isW w = true → w.e ≠ some i := fun w hw hi z => by
  have he := S.R.b w hw i z
  rw [e] at he
  injection he with he
  injection he with h1 _
  have op : OpW rs i w := ⟨hw, hi, S.E w hw i z, fun k hk => by rw [z] at hk; cases hk; exact Nat.le_refl _⟩
  cases o with
  | none => exact ho w op
  | some w' =>
    have : w' = w := S.op1 ho op
    subst this
    exact hn w' rfl h1
def LastI (rs : List Rc) (i : Nat) (x : Int) : Prop := (x = 0 ∧ ∀ w ∈ rs, isW w = true → ∀ e, w.e = some e → ¬ e < i) ∨ ∃ w ∈ rs, isW w = true ∧ intV w.x = x ∧ (∃ e, w.e = some e ∧ e < i) ∧ ∀ w' ∈ rs, isW w' = true → (∃ e, w'.e = some e ∧ e < i) → w'.b ≤ w.b
theorem LastI.zero : LastI rs 0 0 := .inl ⟨rfl, fun _ _ _ _ _ => Nat.not_lt_zero _⟩
theorem LastI.on {i : Nat} {x : Int} (h : LastI rs i x) (ne : ∀ w ∈ rs, isW w = true → w.e ≠ some i) : LastI rs (i + 1) x := by
  have key : ∀ w ∈ rs, isW w = true → ∀ e, w.e = some e → e < i + 1 → e < i := fun w hw hi e z lt => by
    rcases Nat.lt_or_ge e i with y | y
    · exact y
    · have : e = i := by omega
      subst this
      exact absurd z (ne w hw hi)
  rcases h with ⟨h1, h2⟩ | ⟨w, hw, h1, h2, ⟨e, h3, h4⟩, h5⟩
  · exact .inl ⟨h1, fun w hw hi e z lt => h2 w hw hi e z (key w hw hi e z lt)⟩
  · exact .inr ⟨w, hw, h1, h2, ⟨e, h3, by omega⟩, fun w' hw' hi ⟨e', z, lt⟩ => h5 w' hw' hi ⟨e', z, key w' hw' hi e' z lt⟩⟩
theorem Sq1.lastY (S : Sq1 wr es rs) {i : Nat} {w : Rc} (hw : w ∈ rs) (hi : isW w = true) (e : w.e = some i) : LastI rs (i + 1) (intV w.x) := by
  refine .inr ⟨w, hw, hi, rfl, ⟨i, e, Nat.lt_succ_self _⟩, fun w' hw' hi' ⟨k, z, lt⟩ => ?_⟩
  rcases S.hand hw hw' ((S.wh hw hi).1.trans (S.wh hw' hi').1.symm) with y | ⟨_, k', e1, l1⟩ | ⟨l, _⟩
  · rw [y]; exact Nat.le_refl _
  · rw [e] at e1
    cases e1
    have := S.E w' hw' k z
    omega
  · omega
theorem Sq1.last1 (S : Sq1 wr es rs) {i : Nat} {x y : Int} (a : LastI rs i x) (b : LastI rs i y) : x = y := by
  rcases a with ⟨a1, a2⟩ | ⟨w, hw, a1, a2, ⟨e, a3, a4⟩, a5⟩
  · rcases b with ⟨b1, b2⟩ | ⟨w, hw, b1, b2, ⟨e, b3, b4⟩, b5⟩
    · rw [a1, b1]
    · exact absurd b4 (a2 w hw b1 e b3)
  · rcases b with ⟨b1, b2⟩ | ⟨w', hw', b1, b2, ⟨e', b3, b4⟩, b5⟩
    · exact absurd a4 (b2 w hw a1 e a3)
    · have h1 := a5 w' hw' b1 ⟨e', b3, b4⟩
      have h2 := b5 w hw a1 ⟨e, a3, a4⟩
      have : w = w' := S.same_b hw hw' (by omega)
      rw [← a2, ← b2, this]
def BesI (rs : List Rc) (rb i : Nat) (x : Int) : Prop := ∃ w ∈ rs, isW w = true ∧ intV w.x = x ∧ ((rb < w.b ∧ w.b < i) ∨ (rb < i ∧ w.b < rb ∧ ∀ e, w.e = some e → rb < e))
theorem BesI.le {rb i : Nat} {x : Int} (h : i ≤ rb) : ¬ BesI rs rb i x := fun ⟨w, _, _, _, z⟩ => by omega
theorem BesI.on {rb i : Nat} {x : Int} (nr : i ≠ rb) (nb : ∀ w ∈ rs, isW w = true → w.b ≠ i) : BesI rs rb (i + 1) x ↔ BesI rs rb i x := by
  constructor
  · rintro ⟨w, hw, h1, h2, h3⟩
    have := nb w hw h1
    exact ⟨w, hw, h1, h2, h3.elim (fun z => .inl ⟨z.1, by omega⟩) fun z => .inr ⟨by omega, z.2⟩⟩
  · rintro ⟨w, hw, h1, h2, h3⟩
    exact ⟨w, hw, h1, h2, h3.elim (fun z => .inl ⟨z.1, by omega⟩) fun z => .inr ⟨by omega, z.2⟩⟩
theorem Sq1.besW (S : Sq1 wr es rs) {rb i : Nat} {x : Int} {w : Rc} (hw : w ∈ rs) (hi : isW w = true) (hb : w.b = i) (nr : i ≠ rb) : BesI rs rb (i + 1) x ↔ BesI rs rb i x ∨ (rb < i ∧ x = intV w.x) := by
  constructor
  · rintro ⟨w', hw', h1, h2, h3⟩
    rcases h3 with ⟨h3, h4⟩ | ⟨h3, h4⟩
    · by_cases z : w'.b = i
      · have : w' = w := S.same_b hw' hw (by rw [z, hb])
        exact .inr ⟨by omega, by rw [← h2, this]⟩
      · exact .inl ⟨w', hw', h1, h2, .inl ⟨h3, by omega⟩⟩
    · exact .inl ⟨w', hw', h1, h2, .inr ⟨by omega, h4⟩⟩
  · rintro (⟨w', hw', h1, h2, h3⟩ | ⟨h1, h2⟩)
    · exact ⟨w', hw', h1, h2, h3.elim (fun z => .inl ⟨z.1, by omega⟩) fun z => .inr ⟨by omega, z.2⟩⟩
    · exact ⟨w, hw, hi, h2.symm, .inl ⟨by omega, by omega⟩⟩
theorem Sq1.besB (S : Sq1 wr es rs) {rb : Nat} {x : Int} {o : Option Rc} (ho : OpI rs rb o) (ne : ∀ w ∈ rs, w.e ≠ some rb) : BesI rs rb (rb + 1) x ↔ ∃ w, o = some w ∧ x = intV w.x := by
  constructor
  · rintro ⟨w, hw, h1, h2, h3⟩
    rcases h3 with h3 | ⟨_, h4, h5⟩
    · omega
    · have op : OpW rs rb w := ⟨hw, h1, h4, fun e z => Nat.le_of_lt (h5 e z)⟩
      cases o with
      | none => exact absurd op (ho w)
      | some w' =>
        have : w' = w := S.op1 ho op
        exact ⟨w', rfl, by rw [this, h2]⟩
  · rintro ⟨w, rfl, h⟩
    refine ⟨w, ho.1, ho.2.1, h.symm, .inr ⟨Nat.lt_succ_self _, ho.2.2.1, fun e z => ?_⟩⟩
    have h1 := ho.2.2.2 e z
    rcases Nat.lt_or_ge rb e with y | y
    · exact y
    · have : e = rb := by omega
      subst this
      exact absurd z (ne w ho.1)
theorem Sq1.besE (S : Sq1 wr es rs) {rb re : Nat} {x : Int} (lt : rb < re) (nb : ∀ w ∈ rs, isW w = true → w.b ≠ rb) : BesI rs rb re x ↔ ∃ w ∈ rs, isW w = true ∧ intV w.x = x ∧ w.b < re ∧ ∀ e, w.e = some e → rb < e := by
  constructor
  · rintro ⟨w, hw, h1, h2, h3⟩
    refine ⟨w, hw, h1, h2, ?_⟩
    rcases h3 with ⟨h3, h4⟩ | ⟨_, h4, h5⟩
    · exact ⟨h4, fun e z => by have := S.E w hw e z; omega⟩
    · exact ⟨by omega, h5⟩
  · rintro ⟨w, hw, h1, h2, h3, h4⟩
    refine ⟨w, hw, h1, h2, ?_⟩
    have := nb w hw h1
    rcases Nat.lt_or_ge rb w.b with z | z
    · exact .inl ⟨z, h3⟩
    · exact .inr ⟨lt, by omega, h4⟩
end
end K20
namespace K20
open PySem PySem.Spec PyProof.Rows TJ L2
section
structure Ent where
  x : Int
  b : Int
  e : Option Int
def ent0 : Ent := ⟨0, -2, some (-1)⟩
def entW (r : Rc) : Ent := ⟨intV r.x, r.b, r.e.map fun n => (n : Int)⟩
def ents (rs : List Rc) : List Ent := ent0 :: (rs.filter isW).map entW
theorem ents_mem {rs : List Rc} {t : Ent} : t ∈ ents rs ↔ t = ent0 ∨ ∃ w ∈ rs, isW w = true ∧ t = entW w := by
  unfold ents
  rw [List.mem_cons, List.mem_map]
  constructor
  · rintro (h | ⟨w, hw, e⟩)
    · exact .inl h
    · exact .inr ⟨w, (List.mem_filter.mp hw).1, (List.mem_filter.mp hw).2, e.symm⟩
  · rintro (h | ⟨w, hw, hi, e⟩)
    · exact .inl h
    · exact .inr ⟨w, List.mem_filter.mpr ⟨hw, hi⟩, e.symm⟩
theorem ents_snoc (rs : List Rc) (r : Rc) : ents (rs ++ [r]) = ents rs ++ if isW r = true then [entW r] else [] := by
  unfold ents
  rw [List.filter_append, List.map_append, List.cons_append]
  by_cases z : isW r = true
  · rw [if_pos z, List.filter_cons_of_pos z]; rfl
  · rw [if_neg z, List.filter_cons_of_neg z]; rfl
def besB (rb re : Int) (t : Ent) : Bool := (match t.e with | none => true | some e => decide (rb < e)) && decide (t.b < re)
def ahdB (rb : Int) (t : Ent) : Bool := match t.e with | none => false | some e => decide (e < rb)
variable {wr : Int} {es : List Ev} {rs : List Rc}
theorem Sq1.ents_b (S : Sq1 wr es rs) {t t' : Ent} (h : t ∈ ents rs) (h' : t' ∈ ents rs) (e : t.b = t'.b) : t = t' := by
  rcases ents_mem.mp h with rfl | ⟨w, hw, _, rfl⟩
  · rcases ents_mem.mp h' with rfl | ⟨w', hw', _, rfl⟩
    · rfl
    · have : (-2 : Int) = (w'.b : Int) := e; omega
  · rcases ents_mem.mp h' with rfl | ⟨w', hw', _, rfl⟩
    · have : (w.b : Int) = -2 := e; omega
    · have : (w.b : Int) = (w'.b : Int) := e
      rw [S.same_b hw hw' (by omega)]
theorem map_inj_nodup {α : Type} {f : α → Int} : ∀ {l : List α}, (l.map f).Nodup → ∀ a ∈ l, ∀ b ∈ l, f a = f b → a = b
  | [], _, _, h, _, _, _ => absurd h List.not_mem_nil
  | x :: l, nd, a, ha, b, hb, e => by
    rw [List.map_cons, List.nodup_cons] at nd
    rcases List.mem_cons.mp ha with rfl | ha'
    · rcases List.mem_cons.mp hb with rfl | hb'
      · rfl
      · exact absurd (List.mem_map.mpr ⟨b, hb', e.symm⟩) nd.1
    · rcases List.mem_cons.mp hb with rfl | hb'
      · exact absurd (List.mem_map.mpr ⟨a, ha', e⟩) nd.1
      · exact map_inj_nodup nd.2 a ha' b hb' e
theorem ents_x (nd : ((rs.filter isW).map (fun r => intV r.x)).Nodup) (n0 : (0 : Int) ∉ (rs.filter isW).map (fun r => intV r.x)) {t t' : Ent} (h : t ∈ ents rs) (h' : t' ∈ ents rs) (e : t.x = t'.x) : t = t' := by
  have ne : ∀ w ∈ rs, isW w = true → intV w.x ≠ 0 := fun w hw hi z => n0 (List.mem_map.mpr ⟨w, List.mem_filter.mpr ⟨hw, hi⟩, z⟩)
  rcases ents_mem.mp h with rfl | ⟨w, hw, hi, rfl⟩
  · rcases ents_mem.mp h' with rfl | ⟨w', hw', hi', rfl⟩
    · rfl
    · exact absurd e.symm (ne w' hw' hi')
  · rcases ents_mem.mp h' with rfl | ⟨w', hw', hi', rfl⟩
    · exact absurd e (ne w hw hi)
    · rw [map_inj_nodup nd w (List.mem_filter.mpr ⟨hw, hi⟩) w' (List.mem_filter.mpr ⟨hw', hi'⟩) e]
theorem besW {rb re : Nat} {w : Rc} : besB rb re (entW w) = true ↔ w.b < re ∧ ∀ k, w.e = some k → rb < k := by
  unfold besB entW
  cases h : w.e with
  | none => simp
  | some k =>
    rw [Bool.and_eq_true_iff]
    constructor
    · rintro ⟨a, b⟩
      have a : (rb : Int) < (k : Int) := of_decide_eq_true a
      have b : (w.b : Int) < (re : Int) := of_decide_eq_true b
      exact ⟨by omega, fun k' z => by cases z; omega⟩
    · rintro ⟨a, b⟩
      have b := b k rfl
      exact ⟨decide_eq_true (show (rb : Int) < (k : Int) by omega), decide_eq_true (show (w.b : Int) < (re : Int) by omega)⟩
theorem bes0 {rb re : Nat} : besB rb re ent0 = false := by
  have : decide ((rb : Int) < -1) = false := decide_eq_false (by omega)
  show (decide ((rb : Int) < -1) && _) = false
  rw [this]
  rfl
theorem ahdW {rb : Nat} {w : Rc} : ahdB rb (entW w) = true ↔ ∃ e, w.e = some e ∧ e < rb := by
  unfold ahdB entW
  cases h : w.e with
  | none => simp
  | some k =>
    constructor
    · intro a
      have a : (k : Int) < (rb : Int) := of_decide_eq_true a
      exact ⟨k, rfl, by omega⟩
    · rintro ⟨e, z, lt⟩
      cases z
      exact decide_eq_true (show (k : Int) < (rb : Int) by omega)
theorem ahd0 {rb : Nat} : ahdB rb ent0 = true := decide_eq_true (show (-1 : Int) < (rb : Int) by omega)
theorem bes_iff (nd : ((rs.filter isW).map (fun r => intV r.x)).Nodup) (n0 : (0 : Int) ∉ (rs.filter isW).map (fun r => intV r.x)) {rb re : Nat} {t : Ent} (h : t ∈ ents rs) : besB rb re t = true ↔ ∃ w ∈ rs, isW w = true ∧ intV w.x = t.x ∧ w.b < re ∧ ∀ k, w.e = some k → rb < k := by
  constructor
  · intro b
    rcases ents_mem.mp h with rfl | ⟨w, hw, hi, rfl⟩
    · rw [bes0] at b; cases b
    · exact ⟨w, hw, hi, rfl, besW.mp b⟩
  · rintro ⟨w, hw, hi, hx, r⟩
    have : t = entW w := ents_x nd n0 h (ents_mem.mpr (.inr ⟨w, hw, hi, rfl⟩)) hx.symm
    rw [this]
    exact besW.mpr r
theorem Sq1.last_iff (S : Sq1 wr es rs) (nd : ((rs.filter isW).map (fun r => intV r.x)).Nodup) (n0 : (0 : Int) ∉ (rs.filter isW).map (fun r => intV r.x)) {rb : Nat} {t l : Ent} (h : t ∈ ents rs) (hl : l ∈ ents rs) (la : ahdB rb l = true) (lm : ∀ t' ∈ ents rs, ahdB rb t' = true → t'.b ≤ l.b) : t = l ↔ LastI rs rb t.x := by
  have self : LastI rs rb l.x := by
    rcases ents_mem.mp hl with rfl | ⟨w, hw, hi, rfl⟩
    · refine .inl ⟨rfl, fun w hw hi e z lt => ?_⟩
      have := lm (entW w) (ents_mem.mpr (.inr ⟨w, hw, hi, rfl⟩)) (ahdW.mpr ⟨e, z, lt⟩)
      have : (w.b : Int) ≤ -2 := this
      omega
    · refine .inr ⟨w, hw, hi, rfl, ahdW.mp la, fun w' hw' hi' z => ?_⟩
      have : (w'.b : Int) ≤ (w.b : Int) := lm (entW w') (ents_mem.mpr (.inr ⟨w', hw', hi', rfl⟩)) (ahdW.mpr z)
      omega
  constructor
  · rintro rfl; exact self
  · intro a
    exact ents_x nd n0 h hl (S.last1 a self)
theorem last_in {rb : Nat} {x : Int} (h : LastI rs rb x) : ∃ t ∈ ents rs, t.x = x := by
  rcases h with ⟨h, _⟩ | ⟨w, hw, hi, hx, _⟩
  · exact ⟨ent0, .head _, h.symm⟩
  · exact ⟨entW w, ents_mem.mpr (.inr ⟨w, hw, hi, rfl⟩), hx⟩
def RegR (rs : List Rc) (r : Rc) (e : Nat) : Prop := (∃ w ∈ rs, isW w = true ∧ intV w.x = intV r.a ∧ w.b < e ∧ ∀ k, w.e = some k → r.b < k) ∨ LastI rs r.b (intV r.a)
def SafR (rs : List Rc) (r : Rc) (e : Nat) : Prop := (∃ w ∈ rs, isW w = true ∧ w.b < e ∧ ∀ k, w.e = some k → r.b < k) ∨ LastI rs r.b (intV r.a)
theorem RegR.safe {r : Rc} {e : Nat} (h : RegR rs r e) : SafR rs r e := h.imp (fun ⟨w, hw, hi, _, z⟩ => ⟨w, hw, hi, z⟩) id
def AllR (P : List Rc → Rc → Nat → Prop) (rs : List Rc) : Prop := ∀ r ∈ rs, ∀ e, r.v = .str "read" → r.e = some e → P rs r e
end
end K20
namespace K20
open PySem PySem.Spec PyProof.Rows TJ L2
section
variable {P : Program} {w : World} {mg : Str → Option Value} {base : Heap}
def endO : Option Int → V
  | none => .non
  | some i => .int i
theorem endV_O (o : Option Nat) : endV o = endO (o.map fun n => (n : Int)) := by cases o <;> rfl
def EntV (K : PySem.W.Frag) (H : Hp) (t : Ent) (v : V) : Prop := ∃ p, v = .ref p ∧ SqT K H p [.int t.b, endO t.e]
def EntAt (K : PySem.W.Frag) (H : Hp) (t : Ent) (kv : Key × V) : Prop := kv.1 = .inl t.x ∧ EntV K H t kv.2
theorem EntV.tups {K : PySem.W.Frag} {H H' : Hp} {t : Ent} {v : V} (f : ∀ c xs, SqT K H c xs → SqT K H' c xs) (h : EntV K H t v) : EntV K H' t v := h.elim fun p z => ⟨p, z.1, f _ _ z.2⟩
theorem EntAt.tups {K : PySem.W.Frag} {H H' : Hp} {t : Ent} {kv : Key × V} (f : ∀ c xs, SqT K H c xs → SqT K H' c xs) (h : EntAt K H t kv) : EntAt K H' t kv := ⟨h.1, h.2.tups f⟩
theorem ent_keys {K : PySem.W.Frag} {H : Hp} : ∀ {ts : List Ent} {kvs : List (Key × V)}, All2 (EntAt K H) ts kvs → kvs.map (·.1) = ts.map fun t => Sum.inl t.x
  | _, _, .nil => rfl
  | _, _, .cons a r => by rw [List.map_cons, List.map_cons, ent_keys r, a.1]
theorem ents_len (rs : List Rc) : (ents rs).length ≤ rs.length + 1 := by
  unfold ents
  rw [List.length_cons, List.length_map]
  exact Nat.succ_le_succ (List.length_filter_le _ _)
theorem fresh_x {rs : List Rc} {i : Nat} {r : Rc} (nd : ((rs.filter isW).map (fun r => intV r.x)).Nodup) (n0 : (0 : Int) ∉ (rs.filter isW).map (fun r => intV r.x)) (h : rs[i]? = some r) (hw : isW r = true) : (Sum.inl (intV r.x) : Key) ∉ (ents (rs.take i)).map fun t => (Sum.inl t.x : Key) := fun z => by
  obtain ⟨t, ht, e⟩ := List.mem_map.mp z
  have e := Sum.inl.inj e
  rcases ents_mem.mp ht with rfl | ⟨w, hm, hi, rfl⟩
  · exact n0 (List.mem_map.mpr ⟨r, List.mem_filter.mpr ⟨List.mem_of_getElem? h, hw⟩, e.symm⟩)
  · have sp : rs = rs.take i ++ r :: rs.drop (i + 1) := by
      obtain ⟨hi', ee⟩ := List.getElem?_eq_some_iff.mp h
      rw [← ee, ← List.drop_eq_getElem_cons hi', List.take_append_drop]
    rw [sp, List.filter_append, List.map_append, List.nodup_append] at nd
    exact nd.2.2 _ (List.mem_map.mpr ⟨w, List.mem_filter.mpr ⟨hm, hi⟩, rfl⟩) _ (List.mem_map.mpr ⟨r, List.mem_filter.mpr ⟨.head _, hw⟩, rfl⟩) e
theorem sq_first {H : Hp} : SqT (KX w.params) H 54 [.int (-2), .int (-1)] :=
  .inr ⟨⟨(.type "tuple"), none, (.seq #[(.int (-2) 250), (.int (-1) 252)] 0), #[]⟩, #[(.int (-2) 250), (.int (-1) 252)], 0, by kernel_rfl, rfl, rfl, (show (2 : Nat) ≤ sizeLine by decide), .cons ⟨_, rfl⟩ (.cons ⟨_, rfl⟩ .nil)⟩
def sp_writers (K : PySem.W.Frag) : Sp := fun vs H Q _ => ∃ l zs rs wr, vs = [.ref l] ∧ ToldAt K H l wr rs zs ∧ ((rs.filter isW).map (fun r => intV r.x)).Nodup ∧ (0 : Int) ∉ (rs.filter isW).map (fun r => intV r.x) ∧ ∀ d kvs H', Same H H' → H' d = some (.dK kvs) → All2 (EntAt K H') (ents rs) kvs → Q (.ref d) H'
theorem ok_writers (T : TX (KX w.params) mg) : FnOk P w (KX w.params) mg base CX0 1 78 fd_writers ["told"] (sp_writers (KX w.params)) := by
  refine (F_writers w.params).ok sc_writers (fun vs H Q E h => ?_) (fun cdv A outer s H vs Q E hr h => ?_)
  · obtain ⟨l, zs, rs, wr, rfl, _⟩ := h
    rfl
  · obtain ⟨l, zs, rs, wr, rfl, ta, nd, n0, q⟩ := h
    refine ⟨_, (pss_cons (ps_set (i := 1) sc_writers.nd rfl (by first | exact Or.inl rfl | exact Or.inr rfl) (pe_disp (pps_cons pe_int (pe_glob (v := .ref 54) rfl (T.of (g_FIRST_WRITE _)) rfl) pps_nil) rfl rfl (by simp) (by decide)))
      (pss_cons (ps_for PassesOwn.never rfl (pi_list (pv 0)) (pg_name (i := 2) sc_writers.nd rfl (by first | exact Or.inl rfl | exact Or.inr rfl))
      (pss_one (ps_if (pt_cmpR opEq (pe_ix ix_seq (pv 2) pe_int (fun _ _ => rfl)) pe_str (nomark _))
      (pss_one (ps_dput (hu_of hr) (pv 1) (pe_ix ix_seq (pv 2) pe_int (fun _ _ => rfl)) (pe_slice slSeq (pv 2) (po_some pe_int) po_none) rfl))
      pss_nil)))
      (pss_one (ps_ret (pv 1))))), ?_⟩
    have lz : zs.length = rs.length := forall2_len ta.a
    have l63 := ta.n
    intro d hd
    refine ⟨upd_same, [(.inl 0, .ref 54)], rfl, (show (1 : Nat) ≤ 15 by decide), ?_⟩
    have s1 : Same H (upd (upd H d (.dK [])) d (.dK (mergeK [] [(.inl 0, .ref 54)]))) := Same.keep (Same.upd hd) hd
    have e1 : upd (upd H d (.dK [])) d (.dK (mergeK [] [(.inl 0, .ref 54)])) d = some (.dK [(.inl 0, .ref 54)]) := upd_same
    generalize upd (upd H d (.dK [])) d (.dK (mergeK [] [(.inl 0, .ref 54)])) = H1 at s1 e1 ⊢
    refine ⟨_, rfl, l, rfl, ⟨_, SqL.of (s1 _ _ ta.l)⟩, ?_⟩
    refine for_list (K := KX w.params) (a := l) (xs := zs) (fun i σ H' => Same H H' ∧ (∃ kvs, H' d = some (.dK kvs) ∧ All2 (EntAt (KX w.params) H') (ents (rs.take i)) kvs) ∧ ∃ x2, σ = [some (.ref l), some (.ref d), x2])
      ⟨s1, ⟨_, e1, .cons ⟨rfl, 54, rfl, sq_first⟩ .nil⟩, _, rfl⟩ (fun _ σ H' _ h => SqL.of (h.1 _ _ ta.l)) ?_ ?_
    · rintro i y σ H2 hy ⟨s2, ⟨kvs, ed, wk⟩, x2, rfl⟩
      obtain ⟨r, hri, p, rfl, sp⟩ := all2_get ta.a hy
      have hi : i < 63 := by have := (List.getElem?_eq_some_iff.mp hri).1; omega
      have lk : kvs.length ≤ 64 := by
        rw [forall2_len wk]
        refine Nat.le_trans (ents_len _) ?_
        rw [List.length_take]
        omega
      have sp2 := s2.seqT sp
      refine g_name ?_
      rcases ta.g r (List.mem_of_getElem? hri) with g | g
      · refine ⟨_, rfl, .inr (.inl ⟨p, _, 2, .str "read", rfl, rfl, sp2, by rw [g.1]; exact atI_nat (j := 2) rfl, rfl, _, rfl, iteN (by decide +kernel) ?_⟩)⟩
        refine ⟨s2, ⟨kvs, ed, ?_⟩, _, rfl⟩
        rw [take_snoc hri, ents_snoc, if_neg (by rw [g.w]; decide), List.append_nil]
        exact wk
      · refine ⟨_, rfl, .inr (.inl ⟨p, _, 2, .str "write", rfl, rfl, sp2, by rw [g.1]; exact atI_nat (j := 2) rfl, rfl, _, rfl, iteP (by decide +kernel) ?_⟩)⟩
        refine ⟨_, rfl, 5, rfl, .inr (.inl ⟨p, _, rfl, sp2, fun z => absurd z.1 (show ¬ HT.sIx 7 0 (some 5) = 0 by decide), fun p1 hp1 => ?_⟩)⟩
        have c1 : cutV [.int r.h, r.n, r.v, r.x, r.a, .int r.b, endV r.e] (some 5) none = [.int r.b, endV r.e] := rfl
        rw [c1]
        have s3 := Same.upd (o := .tup [.int r.b, endV r.e]) hp1
        have e3 : upd H2 p1 (.tup [.int r.b, endV r.e]) p1 = some (.tup [.int r.b, endV r.e]) := upd_same
        generalize upd H2 p1 (.tup [.int r.b, endV r.e]) = H3 at s3 e3 ⊢
        have ed3 := s3 _ _ ed
        refine ⟨_, rfl, _, rfl, .inr (.inl ⟨p, _, 3, .int (intV r.x), rfl, rfl, s3.seqT sp2, by rw [← g.2.2.1]; exact atI_nat (j := 3) rfl, d, _, rfl, DPut.k (k := .inl (intV r.x)) ed3 (Nat.lt_of_le_of_lt (m := 100) (by omega) (by decide)), ?_⟩)⟩
        have t4 : Tups (KX w.params) H3 (upd H3 d (.dK (putK kvs (.inl (intV r.x)) (.ref p1)))) := Tups.dict ed3
        have fx := fresh_x nd n0 hri g.w
        rw [← ent_keys wk] at fx
        refine ⟨Same.keep (s2.trans s3) hd, ⟨_, upd_same, ?_⟩, _, rfl⟩
        rw [take_snoc hri, ents_snoc, if_pos g.w, putK_fresh fx]
        rw [putK_fresh fx] at t4
        refine all2_snoc (forall2_mono (fun _ _ z => EntAt.tups (fun c xs y => t4 _ _ (s3.seqT y)) z) wk) ⟨rfl, p1, rfl, ?_⟩
        have := t4 _ _ (SqT.of e3)
        rw [endV_O] at this
        exact this
    · rintro σ H2 ⟨s2, ⟨kvs, ed, wk⟩, x2, rfl⟩
      rw [lz, List.take_length] at wk
      exact ⟨_, rfl, q d kvs H2 s2 ed wk⟩
def NumAt (H : Hp) (zs : List V) (i : Nat) (y : V) : Prop := ∃ p z, y = .ref p ∧ H p = some (.tup [.int (i : Nat), z]) ∧ zs[i]? = some z
theorem NumAt.same {H H' : Hp} {zs : List V} {i : Nat} {y : V} (s : Same H H') (h : NumAt H zs i y) : NumAt H' zs i y := by
  obtain ⟨p, z, h1, h2, h3⟩ := h
  exact ⟨p, z, h1, s _ _ h2, h3⟩
def isRE (r : Rc) : Bool := decide (r.v = .str "read") && r.e.isSome
def sp_ended_reads (K : PySem.W.Frag) : Sp := fun vs H Q _ => ∃ l zs rs wr, vs = [.ref l] ∧ ToldAt K H l wr rs zs ∧ ∀ a ws H', Same H H' → H' a = some (.lst ws) → All2 (NumAt H' zs) ((List.range rs.length).filter fun i => isRE (rs[i]?.getD r00)) ws → Q (.ref a) H'
theorem ok_ended_reads (T : TX (KX w.params) mg) : FnOk P w (KX w.params) mg base CX0 1 83 fd_ended_reads ["told"] (sp_ended_reads (KX w.params)) := by
  refine (F_ended_reads w.params).ok sc_ended_reads (fun vs H Q E h => ?_) (fun cdv A outer s H vs Q E hr h => ?_)
  · obtain ⟨l, zs, rs, wr, rfl, _⟩ := h
    rfl
  · obtain ⟨l, zs, rs, wr, rfl, ta, q⟩ := h
    refine ⟨_, (pss_one (ps_ret (pe_compG (xs := ["number", "deed"]) (g := gTup (KX w.params) 2 (gCons (gName 0) (gCons (gName 1) gNil))) (fr := []) rfl (pi_enumL rfl (T.no (n_enumerate _)) (pa_cons (pv 0) pa_nil)) (fun _ z => absurd z List.not_mem_nil) (free_none rfl) (fun _ z => absurd z List.not_mem_nil) (by decide +kernel) rfl (by decide +kernel) (fun _ _ _ _ _ => (pg_tup rfl (pgs_cons (pg_cname (N := ["number", "deed"]) 0 (by decide +kernel) rfl rfl) (pgs_cons (pg_cname (N := ["number", "deed"]) 1 (by decide +kernel) rfl rfl) pgs_nil)))) (fun _ _ _ _ _ => (pf_one (PW.pt (pw_and (pt_cmpR opEq (pe_ix (ix_seqK (K := KX w.params) rfl) (pv 1) pe_int (fun _ _ => rfl)) pe_str (nomark _)) (pw_and1 (pt_cmpR op_notN (pe_ix (ix_seqK (K := KX w.params) rfl) (pv 1) pe_int (fun _ _ => rfl)) pe_non (nomark _))))))) (fun _ _ _ _ _ => (pe_tup (pa_cons (pv 0) (pa_cons (pv 1) pa_nil))))))), ?_⟩
    have lz : zs.length = rs.length := forall2_len ta.a
    have l63 := ta.n
    refine sq_ret ?_
    refine tcompE_L1 (K := KX w.params) (a := l) (xs := zs) (H1 := H) (fun i => isRE (rs[i]?.getD r00)) (fun i y H' => NumAt H' zs i y) (fun _ _ _ _ s z => z.same s) (fun R h => ⟨_, rfl, h⟩) (SqL.of ta.l) (Nat.le_trans (m := 63) (by omega) (by decide)) ?_ ?_
    · intro i hi v H1 s1 hx KT KF h1 h2
      obtain ⟨x, p0, hv, rfl, e0⟩ := hx
      obtain ⟨r, hri, p, rfl, sp⟩ := all2_get ta.a hv
      have sp1 := s1.seqT sp
      rw [getD_some hri] at h1 h2
      refine ⟨p0, _, rfl, SqT.of e0, rfl, _, _, rfl, _, _, rfl, rfl, [some (.int (i : Nat)), some (.ref p)], rfl, rfl, ?_⟩
      rcases ta.g r (List.mem_of_getElem? hri) with g | g
      · refine ⟨_, rfl, .inr (.inl ⟨p, _, 2, .str "read", rfl, rfl, sp1, by rw [g.1]; exact atI_nat (j := 2) rfl, rfl, _, rfl, iteP (by decide +kernel) ?_⟩)⟩
        cases he : r.e with
        | none => exact ⟨_, rfl, .inr (.inl ⟨p, _, 6, .non, rfl, rfl, sp1, by rw [he]; exact atI_nat (j := 6) rfl, rfl, _, rfl, iteN (by decide) (h2 (by unfold isRE; rw [he]; exact Bool.and_false _) _ (Same.refl _))⟩)⟩
        | some e =>
          refine ⟨_, rfl, .inr (.inl ⟨p, _, 6, .int e, rfl, rfl, sp1, by rw [he]; exact atI_nat (j := 6) rfl, rfl, _, rfl, iteP (by simp) ?_⟩)⟩
          refine ⟨_, rfl, _, rfl, (show (2 : Nat) ≤ sizeLine by decide), fun p2 hp2 => h1 (by unfold isRE; rw [he, decide_eq_true g.1]; rfl) _ _ (Same.upd hp2) ⟨p2, _, rfl, upd_same, hv⟩⟩
      · refine ⟨_, rfl, .inr (.inl ⟨p, _, 2, .str "write", rfl, rfl, sp1, by rw [g.1]; exact atI_nat (j := 2) rfl, rfl, _, rfl, iteN (by decide +kernel) ?_⟩)⟩
        refine iteN (by decide) (h2 ?_ _ (Same.refl _))
        unfold isRE
        rw [decide_eq_false (fun e => rd_ne_wr (e.symm.trans g.1))]
        rfl
    intro l1 H1 ws s1 hl1 al1
    rw [lz] at al1
    have s2 := Same.upd (o := .lst ws) hl1
    exact q l1 ws _ (s1.trans s2) upd_same (forall2_mono (fun _ _ z => z.same s2) al1)
def sp_lone_writer_deeds (K : PySem.W.Frag) : Sp := fun vs H Q _ => ∃ t nm wr es ys, vs = [.ref t] ∧ TalR K H t nm wr es ys ∧ ∀ l zs H', Same H H' → ToldAt K H' l wr (dAll 0 [] es) zs → Q (.ref l) H'
theorem ok_lone_writer_deeds (T : TX (KX w.params) mg) (c_plain_deeds : Cal P w (KX w.params) mg base "plain_deeds" ["tale"] 4 (sp_plain_deeds (KX w.params))) : FnOk P w (KX w.params) mg base CX0 5 88 fd_lone_writer_deeds ["tale"] (sp_lone_writer_deeds (KX w.params)) := by
  refine (F_lone_writer_deeds w.params).ok sc_lone_writer_deeds (fun vs H Q E h => ?_) (fun cdv A outer s H vs Q E hr h => ?_)
  · obtain ⟨t, nm, wr, es, ys, rfl, _⟩ := h
    rfl
  · obtain ⟨t, nm, wr, es, ys, rfl, ta, q⟩ := h
    refine ⟨_, (pss_cons (ps_set (i := 1) sc_lone_writer_deeds.nd rfl (by first | exact Or.inl rfl | exact Or.inr rfl) (pe_cal c_plain_deeds (hr.mono (by first | decide | omega)) rfl (pa_cons (pv 0) pa_nil)))
      (pss_cons (ps_if (pt_cmpR op_gt (pe_lenSet rfl rfl (T.no (n_len _)) rfl (T.no (n_set _)) boot_len boot_set (pe_compG (xs := ["deed"]) (g := gName 0) (fr := []) rfl (pi_list (pv 1)) (fun _ z => absurd z List.not_mem_nil) (free_none rfl) (fun _ z => absurd z List.not_mem_nil) (by decide +kernel) rfl (by decide +kernel) (fun _ _ _ _ _ => (pg_cname (N := ["deed"]) 0 (by decide +kernel) rfl rfl)) (fun _ _ _ _ _ => (pf_one (pt_cmpR opEq (pe_ix (ix_seqK (K := KX w.params) rfl) (pv 0) pe_int (fun _ _ => rfl)) pe_str (nomark _)))) (fun _ _ _ _ _ => (pe_ix (ix_seqK (K := KX w.params) rfl) (pv 0) pe_int (fun _ _ => rfl))))) pe_int (nomark _))
      (pss_one ps_never)
      pss_nil)
      (pss_one (ps_ret (pv 1))))), ?_⟩
    refine seq_asg ?_
    refine ⟨_, rfl, t, nm, wr, es, ys, rfl, ta, fun l zs H1 s1 tl => ?_⟩
    refine g_name ?_
    generalize dAll 0 [] es = rs at tl q
    have lz : zs.length = rs.length := forall2_len tl.a
    have l63 := tl.n
    refine sq_if (t_test (t_lset ?_))
    refine tcompF_L (K := KX w.params) (a := l) (xs := zs) (H1 := H1) (fun i => isW (rs[i]?.getD r00)) (fun i y _ => y = .int ((rs[i]?.getD r00).h)) (fun _ _ _ _ _ z => z) (fun R h => ⟨_, rfl, h⟩) (SqL.of tl.l) (Nat.le_trans (m := 63) (by omega) (by decide)) ?_ ?_
    · intro i hi v H2 s2 hv KT KF h1 h2
      obtain ⟨r, hri, p, rfl, sp⟩ := all2_get tl.a hv
      have sp1 := s2.seqT sp
      rw [getD_some hri] at h1 h2
      refine ⟨[some (.ref p)], rfl, rfl, ?_⟩
      rcases tl.g r (List.mem_of_getElem? hri) with g | g
      · refine ⟨_, rfl, .inr (.inl ⟨p, _, 2, .str "read", rfl, rfl, sp1, by rw [g.1]; exact atI_nat (j := 2) rfl, rfl, _, rfl, iteN (by decide +kernel) (h2 g.w _ (Same.refl _))⟩)⟩
      · refine ⟨_, rfl, .inr (.inl ⟨p, _, 2, .str "write", rfl, rfl, sp1, by rw [g.1]; exact atI_nat (j := 2) rfl, rfl, _, rfl, iteP (by decide +kernel) ?_⟩)⟩
        exact ⟨_, rfl, .inr (.inl ⟨p, _, 0, .int r.h, rfl, rfl, sp1, atI_nat (j := 0) rfl, h1 g.w _ _ (Same.refl _) rfl⟩)⟩
    intro l2 H2 hs s2 hl2 al2
    have ey := writes_of (f := fun r => V.int r.h) lz al2
    have ey2 : hs = ((rs.filter isW).map (fun r => r.h)).map V.int := by rw [ey, List.map_map]; rfl
    subst ey2
    have al : ∀ u ∈ (rs.filter isW).map (fun r => r.h), u = wr := fun u hu => by
      obtain ⟨r, hr1, rfl⟩ := List.mem_map.mp hu
      obtain ⟨hm, hw⟩ := List.mem_filter.mp hr1
      rcases tl.g r hm with g | g
      · rw [g.w] at hw; cases hw
      · exact g.2.1
    have lh : ((rs.filter isW).map (fun r => r.h)).length ≤ 63 := by rw [List.length_map]; exact Nat.le_trans (List.length_filter_le _ _) l63
    have le1 := addI_alike _ [] al (.inl rfl)
    have s3 := Same.upd (o := .lst (((rs.filter isW).map (fun r => r.h)).map V.int)) hl2
    refine ⟨l2, _, rfl, SqL.of upd_same, by omega, _, _, rfl, rfl, _, rfl, iteN (fun e => absurd (of_decide_eq_true e) (by omega)) ?_⟩
    exact ⟨_, rfl, q l zs _ (s1.trans (s2.trans s3)) (tl.same (s2.trans s3))⟩
end
end K20
namespace K20
open PySem PySem.Spec PyProof.Rows TJ L2
section
variable {P : Program} {w : World} {mg : Str → Option Value} {base : Heap}
def t00 : Ent := ⟨0, 0, none⟩
theorem getD_ent {ts : List Ent} {i : Nat} {t : Ent} (h : ts[i]? = some t) : ts[i]?.getD t00 = t := by rw [h]; rfl
theorem ent_at {K : PySem.W.Frag} {H : Hp} {ts : List Ent} {kvs : List (Key × V)} {i : Nat} {k : Key} {v : V} (al : All2 (EntAt K H) ts kvs) (h : kvs[i]? = some (k, v)) : ∃ t, ts[i]? = some t ∧ EntV K H t v := by
  obtain ⟨t, ht, z⟩ := all2_get al h
  exact ⟨t, ht, z.2⟩
theorem fil_all2 {P : Ent → V → Prop} {ts : List Ent} {q : Ent → Bool} {n : Nat} {us : List V} (hn : n = ts.length) (h : All2 (fun (i : Nat) y => P (ts[i]?.getD t00) y) ((List.range n).filter fun i => q (ts[i]?.getD t00)) us) : All2 P (ts.filter q) us := by
  subst hn
  have go : ∀ (ks : List Nat) (us : List V), All2 (fun (k : Nat) y => P (ts[k]?.getD t00) y) ks us → All2 P (ks.map fun k => ts[k]?.getD t00) us := by
    intro ks
    induction ks with
    | nil => intro us h; cases h; exact .nil
    | cons k ks ih => intro us h; cases h with | cons a r => exact .cons a (ih _ r)
  have z := go _ _ h
  have e := filter_range_map q (fun i => i) t00 ts
  rw [e, List.map_id'] at z
  exact z
structure WrAt (K : PySem.W.Frag) (H : Hp) (d : Addr) (kvs : List (Key × V)) (ts : List Ent) : Prop where
  d : H d = some (.dK kvs)
  a : All2 (EntAt K H) ts kvs
  n : ts.length ≤ 64
theorem WrAt.same {K : PySem.W.Frag} {H H' : Hp} {d : Addr} {kvs : List (Key × V)} {ts : List Ent} (s : Same H H') (h : WrAt K H d kvs ts) : WrAt K H' d kvs ts := ⟨s _ _ h.d, forall2_mono (fun _ _ z => EntAt.tups (fun _ _ y => s.seqT y) z) h.a, h.n⟩
def sp_writes_beside (K : PySem.W.Frag) : Sp := fun vs H Q _ => ∃ d kvs ts y r re, vs = [.ref d, y] ∧ WrAt K H d kvs ts ∧ RcAt K H r y ∧ r.e = some re ∧ ∀ l ps H', Same H H' → H' l = some (.lst ps) → All2 (EntV K H') (ts.filter (besB r.b re)) ps → Q (.ref l) H'
theorem ok_writes_beside (T : TX (KX w.params) mg) : FnOk P w (KX w.params) mg base CX0 1 107 fd_writes_beside ["written", "read"] (sp_writes_beside (KX w.params)) := by
  refine (F_writes_beside w.params).ok sc_writes_beside (fun vs H Q E h => ?_) (fun cdv A outer s H vs Q E hr h => ?_)
  · obtain ⟨d, kvs, ts, y, r, re, rfl, _⟩ := h
    rfl
  · obtain ⟨d, kvs, ts, y, r, re, rfl, wa, ⟨pr, rfl, sr⟩, he, q⟩ := h
    refine ⟨_, (pss_cons (ps_thaw (ps_setG (i := 2) sc_writes_beside.nd rfl (by first | exact Or.inl rfl | exact Or.inr rfl) (xs := ["write"]) (g := gName 0) (fr := [(1, "read")]) rfl (pi_vals (pv 0)) (by intro p hp; obtain rfl := List.mem_singleton.mp hp; first | exact ⟨rfl, .inl rfl⟩ | exact ⟨rfl, .inr rfl⟩) (free_one (n := "read") (by decide +kernel) (fun _ => by first | exact .inl rfl | exact .inr rfl)) (by intro p hp; obtain rfl := List.mem_singleton.mp hp; exact ⟨by decide +kernel, by first | exact .inl rfl | exact .inr rfl⟩) (by decide +kernel) rfl (by decide +kernel) (fun _ _ _ _ _ => (pg_cname (N := ["write", "read"]) 0 (by decide +kernel) rfl rfl)) (fun _ _ _ _ _ => (pf_one (pt_cmpR op_lt (pe_ix (ix_seqK (K := KX w.params) rfl) (pv 0) pe_int (fun _ _ => rfl)) (pe_ix (ix_seqK (K := KX w.params) rfl) (pv 1) pe_int (fun _ _ => rfl)) (nomark _)))) (fun _ _ _ _ _ => (pv 0))))
      (pss_one (ps_ret (pe_compG (xs := ["write"]) (g := gName 0) (fr := [(1, "read")]) rfl (pi_list (pv 2)) (by intro p hp; obtain rfl := List.mem_singleton.mp hp; first | exact ⟨rfl, .inl rfl⟩ | exact ⟨rfl, .inr rfl⟩) (free_one (n := "read") (by decide +kernel) (fun _ => by first | exact .inl rfl | exact .inr rfl)) (by intro p hp; obtain rfl := List.mem_singleton.mp hp; exact ⟨by decide +kernel, by first | exact .inl rfl | exact .inr rfl⟩) (by decide +kernel) rfl (by decide +kernel) (fun _ _ _ _ _ => (pg_cname (N := ["write", "read"]) 0 (by decide +kernel) rfl rfl)) (fun _ _ _ _ _ => (pf_one (PW.pt (pw_or (pt_cmpR op_isN (pe_ix (ix_seqK (K := KX w.params) rfl) (pv 0) pe_int (fun _ _ => rfl)) pe_non (nomark _)) (pw_or1 (pt_cmpR op_lt (pe_ix (ix_seqK (K := KX w.params) rfl) (pv 1) pe_int (fun _ _ => rfl)) (pe_ix (ix_seqK (K := KX w.params) rfl) (pv 0) pe_int (fun _ _ => rfl)) (nomark _))))))) (fun _ _ _ _ _ => (pv 0)))))), ?_⟩
    have lk : kvs.length = ts.length := forall2_len wa.a
    have l64 := wa.n
    refine seq_thaw ?_
    refine tcompV (K := KX w.params) (a := d) (kvs := kvs) (fun i => decide ((ts[i]?.getD t00).b < (re : Int))) (fun i y => EntV (KX w.params) H (ts[i]?.getD t00) y) (fun R h => ⟨_, rfl, h⟩) wa.d (Nat.le_trans (m := 64) (by omega) (by decide)) ?_ ?_
    · intro i k v hk H1 kt KT KF h1 h2
      obtain ⟨t, ht, p, rfl, sp⟩ := ent_at wa.a hk
      rw [getD_ent ht] at h1 h2
      refine ⟨[some (.ref p)], rfl, rfl, ?_⟩
      refine ⟨_, rfl, .inr (.inl ⟨p, _, 0, .int t.b, rfl, rfl, kt _ _ sp, atI_nat (j := 0) rfl, ?_⟩)⟩
      refine ⟨_, rfl, .inr (.inl ⟨pr, _, 6, .int (re : Nat), rfl, rfl, kt _ _ sr, by rw [he]; exact atI_nat (j := 6) rfl, _, _, rfl, rfl, _, rfl, ?_⟩)⟩
      by_cases z : t.b < (re : Int)
      · exact iteP (decide_eq_true z) ⟨_, rfl, h1 (decide_eq_true z) _ _ (Same.refl _) ⟨p, rfl, sp⟩⟩
      · exact iteN (fun e => z (of_decide_eq_true e)) (h2 (decide_eq_false z) _ (Same.refl _))
    intro l1 H1 ys s1 hl1 el1 al1
    have al1 := fil_all2 (P := fun t y => EntV (KX w.params) H t y) (q := fun t => decide (t.b < (re : Int))) lk al1
    have al2 := forall2_mono (fun _ _ z => EntV.tups (fun _ _ y => s1.seqT y) z) al1
    have e2 : ts.filter (besB r.b re) = (ts.filter fun t => decide (t.b < (re : Int))).filter fun t => (match t.e with | none => true | some e => decide ((r.b : Int) < e)) := by
      rw [List.filter_filter]
      rfl
    rw [e2] at q
    generalize hts : (ts.filter fun t => decide (t.b < (re : Int))) = ts1 at al2 q
    have ly : ys.length = ts1.length := forall2_len al2
    have l1n : ts1.length ≤ 64 := by rw [← hts]; exact Nat.le_trans (List.length_filter_le _ _) l64
    refine sq_ret ?_
    refine tcompF_L (K := KX w.params) (a := l1) (xs := ys) (H1 := H1) (fun i => (match (ts1[i]?.getD t00).e with | none => true | some e => decide ((r.b : Int) < e))) (fun i y H' => EntV (KX w.params) H' (ts1[i]?.getD t00) y) (fun _ _ _ _ s z => z.tups fun _ _ y => s.seqT y) (fun R h => ⟨_, rfl, h⟩) (SqL.of el1) (Nat.le_trans (m := 64) (by omega) (by decide)) ?_ ?_
    · intro i hi v H2 s2 hv KT KF h1 h2
      obtain ⟨t, ht, p, rfl, sp⟩ := all2_get al2 hv
      rw [getD_ent ht] at h1 h2
      have sp2 := s2.seqT sp
      refine ⟨[some (.ref p)], rfl, rfl, ?_⟩
      cases te : t.e with
      | none =>
        rw [te] at h1
        exact ⟨_, rfl, .inr (.inl ⟨p, _, 1, .non, rfl, rfl, sp2, by rw [te]; exact atI_nat (j := 1) rfl, rfl, _, rfl, iteP (by decide) (iteP rfl ⟨_, rfl, h1 rfl _ _ (Same.refl _) ⟨p, rfl, sp2⟩⟩)⟩)⟩
      | some e =>
        rw [te] at h1 h2
        refine ⟨_, rfl, .inr (.inl ⟨p, _, 1, .int e, rfl, rfl, sp2, by rw [te]; exact atI_nat (j := 1) rfl, rfl, _, rfl, iteN (by simp) ?_⟩)⟩
        refine ⟨_, rfl, .inr (.inl ⟨pr, _, 5, .int (r.b : Nat), rfl, rfl, (s1.trans s2).seqT sr, atI_nat (j := 5) rfl, ?_⟩)⟩
        refine ⟨_, rfl, .inr (.inl ⟨p, _, 1, .int e, rfl, rfl, sp2, by rw [te]; exact atI_nat (j := 1) rfl, _, _, rfl, rfl, _, rfl, ?_⟩)⟩
        by_cases z : (r.b : Int) < e
        · exact iteP (decide_eq_true z) ⟨_, rfl, h1 (decide_eq_true z) _ _ (Same.refl _) ⟨p, rfl, sp2⟩⟩
        · exact iteN (fun e => z (of_decide_eq_true e)) (h2 (decide_eq_false z) _ (Same.refl _))
    intro l2 H2 ps s2 hl2 al3
    have s3 := Same.upd (o := .lst ps) hl2
    refine q l2 ps _ (s1.trans (s2.trans s3)) upd_same ?_
    exact forall2_mono (fun _ _ z => EntV.tups (fun _ _ y => s3.seqT y) z) (fil_all2 (P := fun t y => EntV (KX w.params) H2 t y) (q := fun t => (match t.e with | none => true | some e => decide ((r.b : Int) < e))) ly al3)
theorem ent_pairs {K : PySem.W.Frag} {H : Hp} : ∀ {us : List Ent} {ys : List V}, All2 (EntV K H) us ys → (∀ t ∈ us, t.e ≠ none) → ∃ L : List (Addr × (Int × Int)), ys = L.map (fun x => V.ref x.1) ∧ (∀ x ∈ L, SqT K H x.1 [.int x.2.1, .int x.2.2] ∧ ∃ t ∈ us, t.b = x.2.1 ∧ t.e = some x.2.2) ∧ ∀ t ∈ us, ∃ x ∈ L, x.2.1 = t.b
  | _, _, .nil, _ => ⟨[], rfl, fun _ h => absurd h List.not_mem_nil, fun _ h => absurd h List.not_mem_nil⟩
  | t :: us, _, .cons a r, h => by
    obtain ⟨L, h1, h2, h3⟩ := ent_pairs r fun t ht => h t (.tail _ ht)
    obtain ⟨p, rfl, sp⟩ := a
    cases te : t.e with
    | none => exact absurd te (h t (.head _))
    | some e =>
      rw [te] at sp
      refine ⟨(p, (t.b, e)) :: L, by rw [h1]; rfl, fun x hx => ?_, fun t' ht' => ?_⟩
      · rcases List.mem_cons.mp hx with rfl | hx
        · exact ⟨sp, t, .head _, rfl, te⟩
        · obtain ⟨a, t', ht', b⟩ := h2 x hx
          exact ⟨a, t', .tail _ ht', b⟩
      · rcases List.mem_cons.mp ht' with rfl | ht'
        · exact ⟨_, .head _, rfl⟩
        · obtain ⟨x, hx, e⟩ := h3 t' ht'
          exact ⟨x, .tail _ hx, e⟩
def sp_last_ahead (K : PySem.W.Frag) : Sp := fun vs H Q _ => ∃ d kvs ts y r, vs = [.ref d, y] ∧ WrAt K H d kvs ts ∧ RcAt K H r y ∧ (∃ t ∈ ts, ahdB r.b t = true) ∧ ∀ p t H', Same H H' → SqT K H' p [.int t.b, endO t.e] → t ∈ ts → ahdB r.b t = true → (∀ t' ∈ ts, ahdB r.b t' = true → t'.b ≤ t.b) → Q (.ref p) H'
theorem ok_last_ahead (T : TX (KX w.params) mg) : FnOk P w (KX w.params) mg base CX0 1 112 fd_last_ahead ["written", "read"] (sp_last_ahead (KX w.params)) := by
  refine (F_last_ahead w.params).ok sc_last_ahead (fun vs H Q E h => ?_) (fun cdv A outer s H vs Q E hr h => ?_)
  · obtain ⟨d, kvs, ts, y, r, rfl, _⟩ := h
    rfl
  · obtain ⟨d, kvs, ts, y, r, rfl, wa, ⟨pr, rfl, sr⟩, ⟨t1, ht1, ha1⟩, q⟩ := h
    refine ⟨_, (pss_one (ps_ret (pe_callB (call_maxT rfl hr) rfl (T.no (n_max _)) boot_max (pa_cons (pe_thaw (pe_compG (xs := ["write"]) (g := gName 0) (fr := [(1, "read")]) rfl (pi_vals (pv 0)) (by intro p hp; obtain rfl := List.mem_singleton.mp hp; first | exact ⟨rfl, .inl rfl⟩ | exact ⟨rfl, .inr rfl⟩) (free_one (n := "read") (by decide +kernel) (fun _ => by first | exact .inl rfl | exact .inr rfl)) (by intro p hp; obtain rfl := List.mem_singleton.mp hp; exact ⟨by decide +kernel, by first | exact .inl rfl | exact .inr rfl⟩) (by decide +kernel) rfl (by decide +kernel) (fun _ _ _ _ _ => (pg_cname (N := ["write", "read"]) 0 (by decide +kernel) rfl rfl)) (fun _ _ _ _ _ => (pf_one (PW.pt (pw_and (pt_cmpR op_notN (pe_ix (ix_seqK (K := KX w.params) rfl) (pv 0) pe_int (fun _ _ => rfl)) pe_non (nomark _)) (pw_and1 (pt_cmpR op_lt (pe_ix (ix_seqK (K := KX w.params) rfl) (pv 0) pe_int (fun _ _ => rfl)) (pe_ix (ix_seqK (K := KX w.params) rfl) (pv 1) pe_int (fun _ _ => rfl)) (nomark _))))))) (fun _ _ _ _ _ => (pv 0)))) pa_nil)))), ?_⟩
    have lk : kvs.length = ts.length := forall2_len wa.a
    have l64 := wa.n
    refine sq_ret (e_cb1 ?_)
    refine tcompV (K := KX w.params) (a := d) (kvs := kvs) (fun i => ahdB r.b (ts[i]?.getD t00)) (fun i y => EntV (KX w.params) H (ts[i]?.getD t00) y) (fun R h => ⟨_, rfl, h⟩) wa.d (Nat.le_trans (m := 64) (by omega) (by decide)) ?_ ?_
    · intro i k v hk H1 kt KT KF h1 h2
      obtain ⟨t, ht, p, rfl, sp⟩ := ent_at wa.a hk
      rw [getD_ent ht] at h1 h2
      unfold ahdB at h1 h2
      refine ⟨[some (.ref p)], rfl, rfl, ?_⟩
      cases te : t.e with
      | none =>
        rw [te] at h2
        exact ⟨_, rfl, .inr (.inl ⟨p, _, 1, .non, rfl, rfl, kt _ _ sp, by rw [te]; exact atI_nat (j := 1) rfl, rfl, _, rfl, iteN (by decide) (iteN (by decide) (h2 rfl _ (Same.refl _)))⟩)⟩
      | some e =>
        rw [te] at h1 h2
        refine ⟨_, rfl, .inr (.inl ⟨p, _, 1, .int e, rfl, rfl, kt _ _ sp, by rw [te]; exact atI_nat (j := 1) rfl, rfl, _, rfl, iteP (by simp) ?_⟩)⟩
        refine ⟨_, rfl, .inr (.inl ⟨p, _, 1, .int e, rfl, rfl, kt _ _ sp, by rw [te]; exact atI_nat (j := 1) rfl, ?_⟩)⟩
        refine ⟨_, rfl, .inr (.inl ⟨pr, _, 5, .int (r.b : Nat), rfl, rfl, kt _ _ sr, atI_nat (j := 5) rfl, _, _, rfl, rfl, _, rfl, ?_⟩)⟩
        by_cases z : e < (r.b : Int)
        · exact iteP (decide_eq_true z) ⟨_, rfl, h1 (decide_eq_true z) _ _ (Same.refl _) ⟨p, rfl, sp⟩⟩
        · exact iteN (fun e => z (of_decide_eq_true e)) (h2 (decide_eq_false z) _ (Same.refl _))
    intro l1 H1 ys s1 hl1 el1 al1
    have al1 := fil_all2 (P := fun t y => EntV (KX w.params) H t y) (q := ahdB r.b) lk al1
    have al2 := forall2_mono (fun _ _ z => EntV.tups (fun _ _ y => s1.seqT y) z) al1
    obtain ⟨L, h1, h2, h3⟩ := ent_pairs al2 fun t ht z => by
      have := (List.mem_filter.mp ht).2
      unfold ahdB at this
      rw [z] at this
      cases this
    obtain ⟨x0, hx0, _⟩ := h3 t1 (List.mem_filter.mpr ⟨ht1, ha1⟩)
    cases L with
    | nil => exact absurd hx0 List.not_mem_nil
    | cons m L =>
      subst h1
      refine ⟨l1, m, L, rfl, SqL.of el1, fun x hx => (h2 x hx).1, fun b hb mx => ?_⟩
      obtain ⟨sb, t, ht, e1, e2⟩ := h2 b hb
      obtain ⟨ht, ha⟩ := List.mem_filter.mp ht
      refine q b.1 t H1 s1 (by rw [e1, e2]; exact sb) ht ha fun t' ht' ha' => ?_
      obtain ⟨x, hx, e⟩ := h3 t' (List.mem_filter.mpr ⟨ht', ha'⟩)
      have := mx x hx
      rw [e1, ← e]
      rcases Int.lt_or_le b.2.1 x.2.1 with z | z
      · have := gtI_iff.mpr (.inl z : b.2.1 < x.2.1 ∨ (x.2.1 = b.2.1 ∧ b.2.2 < x.2.2))
        rw [mx x hx] at this
        cases this
      · exact z
end
end K20
namespace K20
open PySem PySem.Spec PyProof.Rows TJ L2
section
variable {P : Program} {w : World} {mg : Str → Option Value} {base : Heap}
theorem get_ent {K : PySem.W.Frag} {H : Hp} : ∀ {ts : List Ent} {kvs : List (Key × V)}, All2 (EntAt K H) ts kvs → ∀ x : Int, (∃ t ∈ ts, t.x = x ∧ ∃ p, valV kvs (.inl x) = some (.ref p) ∧ SqT K H p [.int t.b, endO t.e]) ∨ ((∀ t ∈ ts, t.x ≠ x) ∧ valV kvs (.inl x) = none)
  | _, _, .nil, x => .inr ⟨fun _ h => absurd h List.not_mem_nil, rfl⟩
  | t :: ts, (k, v) :: kvs, .cons a r, x => by
    obtain ⟨e, p, e2, sp⟩ := a
    have e : k = .inl t.x := e
    have e2 : v = .ref p := e2
    subst e e2
    by_cases z : t.x = x
    · subst z
      exact .inl ⟨t, .head _, rfl, p, valV_pos rfl, sp⟩
    · rw [valV_neg (fun e => z (Sum.inl.inj e))]
      rcases get_ent r x with ⟨t', h1, h2⟩ | ⟨h1, h2⟩
      · exact .inl ⟨t', .tail _ h1, h2⟩
      · refine .inr ⟨fun t' ht' => ?_, h2⟩
        rcases List.mem_cons.mp ht' with rfl | y
        · exact z
        · exact h1 t' y
def endD : Option Int → PyData
  | none => .none
  | some i => .int i
def entD (t : Ent) : PyData := .tuple [.int t.b, endD t.e]
theorem end_pd {K : PySem.W.Frag} {H : Hp} : ∀ o : Option Int, IsPd K H (endD o) (endO o)
  | none => rfl
  | some _ => rfl
theorem ent_pd {K : PySem.W.Frag} {H : Hp} {t : Ent} {v : V} (h : EntV K H t v) : IsPd K H (entD t) v := h.elim fun p z => ⟨p, _, z.1, z.2, ⟨_, _, rfl, rfl, _, _, rfl, end_pd _, rfl⟩⟩
theorem ent_pds {K : PySem.W.Frag} {H : Hp} : ∀ {us : List Ent} {ps : List V}, All2 (EntV K H) us ps → IsPds K H (us.map entD) ps
  | _, _, .nil => rfl
  | _, _, .cons a r => ⟨_, _, rfl, ent_pd a, ent_pds r⟩
theorem ent_plain (t : Ent) : plainP (entD t) = true := by
  unfold entD
  cases t.e <;> rfl
theorem ents_plain : ∀ us : List Ent, plainPs (us.map entD) = true
  | [] => rfl
  | t :: us => by show (plainP (entD t) && plainPs (us.map entD)) = true; rw [ent_plain, ents_plain us]; rfl
theorem ent_depth (t : Ent) : (entD t).depth ≤ 60 := by
  unfold entD
  cases t.e <;> exact (show (1 : Nat) ≤ 60 by decide)
theorem entD_b {t t' : Ent} (h : entD t = entD t') : t.b = t'.b := by
  unfold entD at h
  injection h with h
  injection h with h _
  injection h with h
theorem any_ent (us : List Ent) (d : PyData) (hd : plainP d = true) : ((us.map entD).any fun e => e.eqv d) = true ↔ ∃ t ∈ us, entD t = d := by
  rw [List.any_eq_true]
  constructor
  · rintro ⟨e, he, z⟩
    obtain ⟨t, ht, rfl⟩ := List.mem_map.mp he
    exact ⟨t, ht, (eqv_iff _ _ (ent_plain t) hd).mp z⟩
  · rintro ⟨t, ht, rfl⟩
    exact ⟨_, List.mem_map.mpr ⟨t, ht, rfl⟩, (eqv_iff _ _ (ent_plain t) (ent_plain t)).mpr rfl⟩
structure Seen (K : PySem.W.Frag) (H : Hp) (l d : Addr) (wr : Int) (es : List Ev) (rs : List Rc) (zs : List V) (kvs : List (Key × V)) : Prop where
  S : Sq1 wr es rs
  nd : ((rs.filter isW).map (fun r => intV r.x)).Nodup
  n0 : (0 : Int) ∉ (rs.filter isW).map (fun r => intV r.x)
  t : ToldAt K H l wr rs zs
  w : WrAt K H d kvs (ents rs)
theorem Seen.same {K : PySem.W.Frag} {H H' : Hp} {l d : Addr} {wr : Int} {es : List Ev} {rs : List Rc} {zs : List V} {kvs : List (Key × V)} (s : Same H H') (h : Seen K H l d wr es rs zs kvs) : Seen K H' l d wr es rs zs kvs := ⟨h.S, h.nd, h.n0, h.t.same s, h.w.same s⟩
theorem ahead_there {rs : List Rc} {rb : Nat} : ∃ t ∈ ents rs, ahdB rb t = true := ⟨ent0, .head _, ahd0⟩
theorem re_read {K : PySem.W.Frag} {H : Hp} {l : Addr} {wr : Int} {rs : List Rc} {zs : List V} (ta : ToldAt K H l wr rs zs) {k : Nat} {ws : List V} {y : V} (al : All2 (NumAt H zs) ((List.range rs.length).filter fun i => isRE (rs[i]?.getD r00)) ws) (hy : ws[k]? = some y) :
    ∃ i p pz r e, ((List.range rs.length).filter fun i => isRE (rs[i]?.getD r00))[k]? = some i ∧ y = .ref p ∧ H p = some (.tup [.int (i : Nat), .ref pz]) ∧ rs[i]? = some r ∧ SqT K H pz [.int r.h, r.n, r.v, r.x, r.a, .int r.b, endV r.e] ∧ r.v = .str "read" ∧ r.e = some e ∧ r.a = .int (intV r.a) := by
  obtain ⟨i, hi, p, z, rfl, ep, hz⟩ := all2_get al hy
  obtain ⟨r, hri, pz, rfl, sz⟩ := all2_get ta.a hz
  have him := (List.mem_filter.mp (List.mem_of_getElem? hi)).2
  rw [getD_some hri] at him
  obtain ⟨rv, re⟩ := Bool.and_eq_true_iff.mp him
  have rv := of_decide_eq_true rv
  obtain ⟨e, he⟩ := Option.isSome_iff_exists.mp re
  have g : RdG r := (ta.g r (List.mem_of_getElem? hri)).resolve_right fun g => rd_ne_wr (rv.symm.trans g.1)
  exact ⟨i, p, pz, r, e, hi, rfl, ep, hri, sz, rv, he, g.2.2 e he⟩
theorem re_all {rs : List Rc} {r : Rc} {e : Nat} (hr : r ∈ rs) (rv : r.v = .str "read") (re : r.e = some e) : ∃ m i : Nat, ((List.range rs.length).filter fun i => isRE (rs[i]?.getD r00))[m]? = some i ∧ rs[i]? = some r := by
  obtain ⟨i, hi⟩ := List.mem_iff_getElem?.mp hr
  have : i ∈ (List.range rs.length).filter fun i => isRE (rs[i]?.getD r00) := by
    refine List.mem_filter.mpr ⟨List.mem_range.mpr (List.getElem?_eq_some_iff.mp hi).1, ?_⟩
    rw [getD_some hi]
    unfold isRE
    rw [re, decide_eq_true rv]
    rfl
  obtain ⟨m, hm⟩ := List.mem_iff_getElem?.mp this
  exact ⟨m, i, hm, hi⟩
def sp_is_regular (K : PySem.W.Frag) : Sp := fun vs H Q _ => ∃ t nm wr es ys, vs = [.ref t] ∧ TalR K H t nm wr es ys ∧ ∀ b H', Same H H' → (b = true ↔ AllR RegR (dAll 0 [] es)) → Q (.bl b) H'
theorem ok_is_regular (T : TX (KX w.params) mg) (c_lone_writer_deeds : Cal P w (KX w.params) mg base "lone_writer_deeds" ["tale"] 5 (sp_lone_writer_deeds (KX w.params))) (c_writers : Cal P w (KX w.params) mg base "writers" ["told"] 1 (sp_writers (KX w.params))) (c_ended_reads : Cal P w (KX w.params) mg base "ended_reads" ["told"] 1 (sp_ended_reads (KX w.params))) (c_writes_beside : Cal P w (KX w.params) mg base "writes_beside" ["written", "read"] 1 (sp_writes_beside (KX w.params))) (c_last_ahead : Cal P w (KX w.params) mg base "last_ahead" ["written", "read"] 1 (sp_last_ahead (KX w.params))) : FnOk P w (KX w.params) mg base CX0 6 95 fd_is_regular ["tale"] (sp_is_regular (KX w.params)) := by
  refine (F_is_regular w.params).ok sc_is_regular (fun vs H Q E h => ?_) (fun cdv A outer s H vs Q E hr h => ?_)
  · obtain ⟨t, nm, wr, es, ys, rfl, _⟩ := h
    rfl
  · obtain ⟨t, nm, wr, es, ys, rfl, ta, q⟩ := h
    refine ⟨_, (pss_cons (ps_set (i := 1) sc_is_regular.nd rfl (by first | exact Or.inl rfl | exact Or.inr rfl) (pe_cal c_lone_writer_deeds (hr.mono (by first | decide | omega)) rfl (pa_cons (pv 0) pa_nil)))
      (pss_cons (ps_set (i := 2) sc_is_regular.nd rfl (by first | exact Or.inl rfl | exact Or.inr rfl) (pe_cal c_writers (hr.mono (by first | decide | omega)) rfl (pa_cons (pv 1) pa_nil)))
      (pss_cons (ps_for PassesOwn.never rfl (pi_list (pe_cal c_ended_reads (hr.mono (by first | decide | omega)) rfl (pa_cons (pv 1) pa_nil))) (pg_tup rfl (pgs_cons (pg_name (i := 3) sc_is_regular.nd rfl (by first | exact Or.inl rfl | exact Or.inr rfl)) (pgs_cons (pg_name (i := 4) sc_is_regular.nd rfl (by first | exact Or.inl rfl | exact Or.inr rfl)) pgs_nil)))
      (pss_one (ps_if (pt_cmpR (op_notInP hr) (pe_dget1 (hu_of hr) (pv 2) (pe_ix ix_seq (pv 4) pe_int (fun _ _ => rfl)) ⟨rfl, rfl, rfl, rfl⟩) (pe_op opAdd (pe_cal c_writes_beside (hr.mono (by first | decide | omega)) rfl (pa_cons (pv 2) (pa_cons (pv 4) pa_nil))) (pe_lst (pa_cons (pe_cal c_last_ahead (hr.mono (by first | decide | omega)) rfl (pa_cons (pv 2) (pa_cons (pv 4) pa_nil))) pa_nil))) (by with_unfolding_all rfl))
      (pss_one (ps_ret pe_bl))
      pss_nil)))
      (pss_one (ps_ret pe_bl))))), ?_⟩
    obtain ⟨os, us, tw⟩ := ta.tw
    have S := tw.sq
    have nd := tw.rs.u ▸ tw.us.1
    have n0 := tw.rs.u ▸ tw.us.2
    refine seq_asg ?_
    refine ⟨_, rfl, t, nm, wr, es, ys, rfl, ta, fun l zs H1 s1 tl => ?_⟩
    refine g_name ?_
    generalize dAll 0 [] es = rs at tl q S nd n0
    have l63 := tl.n
    refine seq_asg ?_
    refine ⟨_, rfl, l, zs, rs, wr, rfl, tl, nd, n0, fun d kvs H2 s2 ed al => ?_⟩
    refine g_name ?_
    have se : Seen (KX w.params) H2 l d wr es rs zs kvs := ⟨S, nd, n0, tl.same s2, ed, al, Nat.le_trans (ents_len rs) (by omega)⟩
    refine ⟨_, rfl, l, zs, rs, wr, rfl, se.t, fun a ws H3 s3 ea aw => ⟨a, rfl, ⟨_, SqL.of ea⟩, ?_⟩⟩
    have s03 := (s1.trans s2).trans s3
    have se3 := se.same s3
    have lw : ws.length = ((List.range rs.length).filter fun i => isRE (rs[i]?.getD r00)).length := forall2_len aw
    refine for_list (K := KX w.params) (a := a) (xs := ws) (fun k σ H' => Same H3 H' ∧ (∀ (m i : Nat) r e, m < k → ((List.range rs.length).filter fun i => isRE (rs[i]?.getD r00))[m]? = some i → rs[i]? = some r → r.e = some e → RegR rs r e) ∧ ∃ x3 x4, σ = [some (.ref t), some (.ref l), some (.ref d), x3, x4]) ⟨Same.refl _, fun m i r e h => absurd h (Nat.not_lt_zero _), _, _, rfl⟩ (fun _ σ H' _ h => SqL.of (h.1 _ _ ea)) ?_ ?_
    · rintro k y σ H4 hy ⟨s4, al4, x3, x4, rfl⟩
      obtain ⟨i, p, pz, r, e, hi, rfl, ep, hri, sz, rv, re, ra⟩ := re_read se3.t aw hy
      have hrm := List.mem_of_getElem? hri
      have sz4 := s4.seqT sz
      have se4 := se3.same s4
      refine ⟨p, _, rfl, SqT.of (s4 _ _ ep), rfl, _, _, rfl, _, _, rfl, rfl, ?_⟩
      have fin : RegR rs r e → ∀ (m i : Nat) r e, m < k + 1 → ((List.range rs.length).filter fun i => isRE (rs[i]?.getD r00))[m]? = some i → rs[i]? = some r → r.e = some e → RegR rs r e := fun ok m i' r' e' hm h1 h2 h3 => by
        rcases Nat.lt_or_ge m k with z | z
        · exact al4 m i' r' e' z h1 h2 h3
        · have : m = k := by omega
          subst this
          rw [hi] at h1
          cases h1
          rw [hri] at h2
          cases h2
          rw [re] at h3
          cases h3
          exact ok
      have bad : ¬ RegR rs r e → ∀ H', Same H4 H' → Q (.bl false) H' := fun n H' s' => q false H' (s03.trans (s4.trans s')) ⟨(fun z => by cases z), fun z => absurd (z r hrm e rv re) n⟩
      have dg := DGet.k (k := .inl (intV r.a)) se4.w.d
      refine ⟨_, rfl, d, rfl, .inl ⟨_, .inl se4.w.d⟩, _, rfl, .inr (.inl ⟨pz, _, 4, .int (intV r.a), rfl, rfl, sz4, by rw [ra]; exact atI_nat (j := 4) rfl, _, dg, ?_⟩)⟩
      refine ⟨_, rfl, _, rfl, d, kvs, ents rs, _, r, e, rfl, se4.w, ⟨pz, rfl, sz4⟩, re, fun lb ps H5 s5 elb alb => ?_⟩
      refine ⟨_, rfl, _, rfl, d, kvs, ents rs, _, r, rfl, se4.w.same s5, ⟨pz, rfl, s5.seqT sz4⟩, ahead_there, fun pl tl' H6 s6 sq6 htl hal hmx => ⟨(show (1 : Nat) ≤ sizeLine by decide), fun l7 hl7 => ?_⟩⟩
      have s7 := Same.upd (o := .lst [V.ref pl]) hl7
      have e7 : upd H6 l7 (.lst [V.ref pl]) l7 = some (.lst [V.ref pl]) := upd_same
      generalize upd H6 l7 (.lst [V.ref pl]) = H7 at s7 e7 ⊢
      have s57 := s6.trans s7
      have lp : ps.length ≤ 64 := by
        rw [forall2_len alb]
        exact Nat.le_trans (List.length_filter_le _ _) se4.w.n
      refine .inr (.inr (.inl ⟨lb, l7, ps, [V.ref pl], rfl, rfl, s57 _ _ elb, e7, Nat.le_trans (m := 65) (by show ps.length + 1 ≤ 65; omega) (by decide), fun l8 hl8 => ?_⟩))
      have s8 := Same.upd (o := .lst (ps ++ [V.ref pl])) hl8
      have e8 : upd H7 l8 (.lst (ps ++ [V.ref pl])) l8 = some (.lst (ps ++ [V.ref pl])) := upd_same
      generalize upd H7 l8 (.lst (ps ++ [V.ref pl])) = H8 at s8 e8 ⊢
      have s58 := s57.trans s8
      have s48 := s5.trans s58
      have alx : All2 (EntV (KX w.params) H8) ((ents rs).filter (besB r.b e) ++ [tl']) (ps ++ [V.ref pl]) := all2_snoc (forall2_mono (fun _ _ z => EntV.tups (fun _ _ y => s58.seqT y) z) alb) ⟨pl, rfl, (s7.trans s8).seqT sq6⟩
      have lpd : IsPd (KX w.params) H8 (.list (((ents rs).filter (besB r.b e) ++ [tl']).map entD)) (.ref l8) := ⟨l8, _, rfl, SqL.of e8, ent_pds alx⟩
      rcases get_ent se4.w.a (intV r.a) with ⟨t1, ht1, hx1, p1, hv1, sp1⟩ | ⟨hno, hv1⟩
      · rw [hv1]
        have iff : (((((ents rs).filter (besB r.b e) ++ [tl']).map entD).any fun z => z.eqv (entD t1)) = true) ↔ RegR rs r e := by
          rw [any_ent _ _ (ent_plain t1)]
          have e1 := bes_iff nd n0 (rb := r.b) (re := e) ht1
          have e2 := S.last_iff nd n0 (rb := r.b) ht1 htl hal hmx
          rw [hx1] at e1 e2
          unfold RegR
          rw [← e1, ← e2]
          constructor
          · rintro ⟨t', ht', ee⟩
            rcases List.mem_append.mp ht' with z | z
            · obtain ⟨z1, z2⟩ := List.mem_filter.mp z
              have : t' = t1 := S.ents_b z1 ht1 (entD_b ee)
              exact .inl (this ▸ z2)
            · rw [List.mem_singleton.mp z] at ee
              exact .inr (S.ents_b htl ht1 (entD_b ee)).symm
          · rintro (z | z)
            · exact ⟨t1, List.mem_append.mpr (.inl (List.mem_filter.mpr ⟨ht1, z⟩)), rfl⟩
            · exact ⟨t1, List.mem_append.mpr (.inr (by rw [z]; exact List.mem_singleton.mpr rfl)), rfl⟩
        refine ⟨entD t1, _, ent_pd ⟨p1, rfl, s48.seqT sp1⟩, .inl lpd, ent_plain t1, ents_plain _, ent_depth t1, _, rfl, ?_⟩
        by_cases z : RegR rs r e
        · refine iteN (by rw [if_pos rfl, iff.mpr z]; decide) ⟨s4.trans s48, fin z, _, _, rfl⟩
        · refine iteP (by rw [if_pos rfl, Bool.eq_false_iff.mpr (fun y => z (iff.mp y))]; decide) (bad z _ s48)
      · rw [hv1]
        have nr : ¬ RegR rs r e := by
          rintro (⟨w0, hw0, hi0, hx0, _⟩ | z)
          · exact hno _ (ents_mem.mpr (.inr ⟨w0, hw0, hi0, rfl⟩)) hx0
          · obtain ⟨t', h1, h2⟩ := last_in z
            exact hno t' h1 h2
        have an : ((((ents rs).filter (besB r.b e) ++ [tl']).map entD).any fun z => z.eqv .none) = false := Bool.eq_false_iff.mpr fun y => by
          obtain ⟨t', _, ee⟩ := (any_ent _ _ rfl).mp y
          cases ee
        refine ⟨.none, _, rfl, .inl lpd, rfl, ents_plain _, Nat.zero_le _, _, rfl, iteP (by rw [if_pos rfl, an]; decide) (bad nr _ s48)⟩
    · rintro σ H4 ⟨s4, al4, x3, x4, rfl⟩
      refine q true H4 (s03.trans s4) ⟨fun _ => fun r hrm e rv re => ?_, fun _ => rfl⟩
      obtain ⟨m, i, h1, h2⟩ := re_all hrm rv re
      exact al4 m i r e (by rw [lw]; exact (List.getElem?_eq_some_iff.mp h1).1) h1 h2 re
def sp_is_safe (K : PySem.W.Frag) : Sp := fun vs H Q _ => ∃ t nm wr es ys, vs = [.ref t] ∧ TalR K H t nm wr es ys ∧ ∀ b H', Same H H' → (b = true ↔ AllR SafR (dAll 0 [] es)) → Q (.bl b) H'
theorem ok_is_safe (T : TX (KX w.params) mg) (c_lone_writer_deeds : Cal P w (KX w.params) mg base "lone_writer_deeds" ["tale"] 5 (sp_lone_writer_deeds (KX w.params))) (c_writers : Cal P w (KX w.params) mg base "writers" ["told"] 1 (sp_writers (KX w.params))) (c_ended_reads : Cal P w (KX w.params) mg base "ended_reads" ["told"] 1 (sp_ended_reads (KX w.params))) (c_writes_beside : Cal P w (KX w.params) mg base "writes_beside" ["written", "read"] 1 (sp_writes_beside (KX w.params))) (c_last_ahead : Cal P w (KX w.params) mg base "last_ahead" ["written", "read"] 1 (sp_last_ahead (KX w.params))) : FnOk P w (KX w.params) mg base CX0 6 102 fd_is_safe ["tale"] (sp_is_safe (KX w.params)) := by
  refine (F_is_safe w.params).ok sc_is_safe (fun vs H Q E h => ?_) (fun cdv A outer s H vs Q E hr h => ?_)
  · obtain ⟨t, nm, wr, es, ys, rfl, _⟩ := h
    rfl
  · obtain ⟨t, nm, wr, es, ys, rfl, ta, q⟩ := h
    refine ⟨_, (pss_cons (ps_set (i := 1) sc_is_safe.nd rfl (by first | exact Or.inl rfl | exact Or.inr rfl) (pe_cal c_lone_writer_deeds (hr.mono (by first | decide | omega)) rfl (pa_cons (pv 0) pa_nil)))
      (pss_cons (ps_set (i := 2) sc_is_safe.nd rfl (by first | exact Or.inl rfl | exact Or.inr rfl) (pe_cal c_writers (hr.mono (by first | decide | omega)) rfl (pa_cons (pv 1) pa_nil)))
      (pss_cons (ps_for PassesOwn.never rfl (pi_list (pe_cal c_ended_reads (hr.mono (by first | decide | omega)) rfl (pa_cons (pv 1) pa_nil))) (pg_tup rfl (pgs_cons (pg_name (i := 3) sc_is_safe.nd rfl (by first | exact Or.inl rfl | exact Or.inr rfl)) (pgs_cons (pg_name (i := 4) sc_is_safe.nd rfl (by first | exact Or.inl rfl | exact Or.inr rfl)) pgs_nil)))
      (pss_one (ps_if (PW.pt (pw_and (pt_cmpR opEq (pe_callB callLen rfl (T.no (n_len _)) boot_len (pa_cons (pe_cal c_writes_beside (hr.mono (by first | decide | omega)) rfl (pa_cons (pv 2) (pa_cons (pv 4) pa_nil))) pa_nil)) pe_int (nomark _)) (pw_and1 (pt_cmpR (op_neP hr) (pe_dget1 (hu_of hr) (pv 2) (pe_ix ix_seq (pv 4) pe_int (fun _ _ => rfl)) ⟨rfl, rfl, rfl, rfl⟩) (pe_cal c_last_ahead (hr.mono (by first | decide | omega)) rfl (pa_cons (pv 2) (pa_cons (pv 4) pa_nil))) (nomark _)))))
      (pss_one (ps_ret pe_bl))
      pss_nil)))
      (pss_one (ps_ret pe_bl))))), ?_⟩
    obtain ⟨os, us, tw⟩ := ta.tw
    have S := tw.sq
    have nd := tw.rs.u ▸ tw.us.1
    have n0 := tw.rs.u ▸ tw.us.2
    refine seq_asg ?_
    refine ⟨_, rfl, t, nm, wr, es, ys, rfl, ta, fun l zs H1 s1 tl => ?_⟩
    refine g_name ?_
    generalize dAll 0 [] es = rs at tl q S nd n0
    have l63 := tl.n
    refine seq_asg ?_
    refine ⟨_, rfl, l, zs, rs, wr, rfl, tl, nd, n0, fun d kvs H2 s2 ed al => ?_⟩
    refine g_name ?_
    have se : Seen (KX w.params) H2 l d wr es rs zs kvs := ⟨S, nd, n0, tl.same s2, ed, al, Nat.le_trans (ents_len rs) (by omega)⟩
    refine ⟨_, rfl, l, zs, rs, wr, rfl, se.t, fun a ws H3 s3 ea aw => ⟨a, rfl, ⟨_, SqL.of ea⟩, ?_⟩⟩
    have s03 := (s1.trans s2).trans s3
    have se3 := se.same s3
    have lw : ws.length = ((List.range rs.length).filter fun i => isRE (rs[i]?.getD r00)).length := forall2_len aw
    refine for_list (K := KX w.params) (a := a) (xs := ws) (fun k σ H' => Same H3 H' ∧ (∀ (m i : Nat) r e, m < k → ((List.range rs.length).filter fun i => isRE (rs[i]?.getD r00))[m]? = some i → rs[i]? = some r → r.e = some e → SafR rs r e) ∧ ∃ x3 x4, σ = [some (.ref t), some (.ref l), some (.ref d), x3, x4]) ⟨Same.refl _, fun m i r e h => absurd h (Nat.not_lt_zero _), _, _, rfl⟩ (fun _ σ H' _ h => SqL.of (h.1 _ _ ea)) ?_ ?_
    · rintro k y σ H4 hy ⟨s4, al4, x3, x4, rfl⟩
      obtain ⟨i, p, pz, r, e, hi, rfl, ep, hri, sz, rv, re, ra⟩ := re_read se3.t aw hy
      have hrm := List.mem_of_getElem? hri
      have sz4 := s4.seqT sz
      have se4 := se3.same s4
      refine ⟨p, _, rfl, SqT.of (s4 _ _ ep), rfl, _, _, rfl, _, _, rfl, rfl, ?_⟩
      have fin : SafR rs r e → ∀ (m i : Nat) r e, m < k + 1 → ((List.range rs.length).filter fun i => isRE (rs[i]?.getD r00))[m]? = some i → rs[i]? = some r → r.e = some e → SafR rs r e := fun ok m i' r' e' hm h1 h2 h3 => by
        rcases Nat.lt_or_ge m k with z | z
        · exact al4 m i' r' e' z h1 h2 h3
        · have : m = k := by omega
          subst this
          rw [hi] at h1
          cases h1
          rw [hri] at h2
          cases h2
          rw [re] at h3
          cases h3
          exact ok
      have bad : ¬ SafR rs r e → ∀ H', Same H4 H' → Q (.bl false) H' := fun n H' s' => q false H' (s03.trans (s4.trans s')) ⟨(fun z => by cases z), fun z => absurd (z r hrm e rv re) n⟩
      have dg : ∀ {H' : Hp}, Same H4 H' → DGet H' d (.int (intV r.a)) (valV kvs (.inl (intV r.a))) := fun s' => DGet.k (k := .inl (intV r.a)) (s' _ _ se4.w.d)
      refine ⟨_, rfl, _, rfl, d, kvs, ents rs, _, r, e, rfl, se4.w, ⟨pz, rfl, sz4⟩, re, fun lb ps H5 s5 elb alb => .inl ⟨lb, ps, rfl, .inl (SqL.of elb), rfl, _, rfl, ?_⟩⟩
      have lp : ps.length = ((ents rs).filter (besB r.b e)).length := forall2_len alb
      by_cases hz : ps.length = 0
      rotate_left
      · refine iteN (fun y => hz (by have := of_decide_eq_true y; injection this with this; omega)) (iteN (by decide) ⟨s4.trans s5, fin (.inl ?_), _, _, rfl⟩)
        rw [lp] at hz
        obtain ⟨t', ht'⟩ := List.exists_mem_of_length_pos (Nat.pos_of_ne_zero hz)
        obtain ⟨h1, h2⟩ := List.mem_filter.mp ht'
        obtain ⟨w0, a1, a2, _, a3⟩ := (bes_iff nd n0 h1).mp h2
        exact ⟨w0, a1, a2, a3⟩
      refine iteP (decide_eq_true (by rw [hz]; rfl)) ?_
      have nob : ∀ w0 ∈ rs, isW w0 = true → ¬ (w0.b < e ∧ ∀ k, w0.e = some k → r.b < k) := fun w0 h1 h2 h3 => by
        have hm : entW w0 ∈ (ents rs).filter (besB r.b e) := List.mem_filter.mpr ⟨ents_mem.mpr (.inr ⟨w0, h1, h2, rfl⟩), besW.mpr h3⟩
        have := List.length_pos_of_mem hm
        omega
      refine ⟨_, rfl, d, rfl, .inl ⟨_, .inl (s5 _ _ se4.w.d)⟩, _, rfl, .inr (.inl ⟨pz, _, 4, .int (intV r.a), rfl, rfl, s5.seqT sz4, by rw [ra]; exact atI_nat (j := 4) rfl, _, dg s5, ?_⟩)⟩
      refine ⟨_, rfl, _, rfl, d, kvs, ents rs, _, r, rfl, se4.w.same s5, ⟨pz, rfl, s5.seqT sz4⟩, ahead_there, fun pl tl' H6 s6 sq6 htl hal hmx => ?_⟩
      have s46 := s5.trans s6
      rcases get_ent se4.w.a (intV r.a) with ⟨t1, ht1, hx1, p1, hv1, sp1⟩ | ⟨hno, hv1⟩
      · rw [hv1]
        have iff : (entD t1).eqv (entD tl') = true ↔ SafR rs r e := by
          rw [eqv_iff _ _ (ent_plain t1) (ent_plain tl')]
          have e2 := S.last_iff nd n0 (rb := r.b) ht1 htl hal hmx
          rw [hx1] at e2
          constructor
          · intro z
            exact .inr (e2.mp (S.ents_b ht1 htl (entD_b z)))
          · rintro (⟨w0, a1, a2, a3⟩ | z)
            · exact absurd a3 (nob w0 a1 a2)
            · rw [e2.mpr z]
        refine ⟨entD t1, entD tl', ent_pd ⟨p1, rfl, s46.seqT sp1⟩, ent_pd ⟨pl, rfl, sq6⟩, ent_plain t1, ent_plain tl', ent_depth t1, _, rfl, ?_⟩
        by_cases z : SafR rs r e
        · refine iteN (by rw [iff.mpr z]; decide) ⟨s4.trans s46, fin z, _, _, rfl⟩
        · refine iteP (by rw [Bool.eq_false_iff.mpr (fun y => z (iff.mp y))]; decide) (bad z _ s46)
      · rw [hv1]
        have nr : ¬ SafR rs r e := by
          rintro (⟨w0, a1, a2, a3⟩ | z)
          · exact nob w0 a1 a2 a3
          · obtain ⟨t', h1, h2⟩ := last_in z
            exact hno t' h1 h2
        have an : PyData.eqv .none (entD tl') = false := Bool.eq_false_iff.mpr fun y => by
          have := (eqv_iff _ _ rfl (ent_plain tl')).mp y
          cases this
        refine ⟨.none, entD tl', rfl, ent_pd ⟨pl, rfl, sq6⟩, rfl, ent_plain tl', Nat.zero_le _, _, rfl, iteP (by rw [an]; decide) (bad nr _ s46)⟩
    · rintro σ H4 ⟨s4, al4, x3, x4, rfl⟩
      refine q true H4 (s03.trans s4) ⟨fun _ => fun r hrm e rv re => ?_, fun _ => rfl⟩
      obtain ⟨m, i, h1, h2⟩ := re_all hrm rv re
      exact al4 m i r e (by rw [lw]; exact (List.getElem?_eq_some_iff.mp h1).1) h1 h2 re
end
end K20
namespace K20
open PySem PySem.Spec PyProof.Rows TJ L2
section
variable {P : Program} {w : World} {mg : Str → Option Value} {base : Heap}
def EvV2 : Ev → Prop
  | .beg _ _ v _ => ∃ z, v = .str z
  | .fin _ _ => True
structure Evs (K : PySem.W.Frag) (H : Hp) (te : Addr) (wr : Int) (es : List Ev) (ys : List V) (rs : List Rc) : Prop where
  t : SqT K H te ys
  a : All2 (EvAt K H) es ys
  S : Sq1 wr es rs
  v : ∀ e ∈ es, EvV e
  n : es.length ≤ 63
theorem Evs.same {K : PySem.W.Frag} {H H' : Hp} {te : Addr} {wr : Int} {es : List Ev} {ys : List V} {rs : List Rc} (s : Same H H') (h : Evs K H te wr es ys rs) : Evs K H' te wr es ys rs := ⟨s.seqT h.t, forall2_mono (fun _ _ z => EvAt.tups (.of s) z) h.a, h.S, h.v, h.n⟩
def OvAt (K : PySem.W.Frag) (H : Hp) : Option Rc → V → Prop
  | none, v => v = .non
  | some w, v => ∃ p, v = .ref p ∧ SqT K H p [.str "begin", .int w.h, w.n, w.v, w.x]
theorem Sq1.wx {wr : Int} {es : List Ev} {rs : List Rc} (S : Sq1 wr es rs) {w : Rc} (h : w ∈ rs) (hw : isW w = true) : w.x = .int (intV w.x) := by
  rcases S.G w h with g | g
  · rw [g.w] at hw; cases hw
  · exact g.2.2.1
def sp__law_last (K : PySem.W.Frag) : Sp := fun vs H Q _ => ∃ (te : Addr) (rb : Nat) (wr : Int) (es : List Ev) (ys : List V) (rs : List Rc), vs = [.ref te, .int rb] ∧ Evs K H te wr es ys rs ∧ rb ≤ es.length ∧ ∀ x, LastI rs rb x → Q (.int x) H
theorem ok__law_last (T : TX (KX w.params) mg) : FnOk P w (KX w.params) mg base CX0 1 189 fd__law_last ["events", "begin"] (sp__law_last (KX w.params)) := by
  refine (F__law_last w.params).ok sc__law_last (fun vs H Q E h => ?_) (fun cdv A outer s H vs Q E hr h => ?_)
  · obtain ⟨te, rb, wr, es, ys, rs, rfl, _⟩ := h
    rfl
  · obtain ⟨te, rb, wr, es, ys, rs, rfl, ev, hb, q⟩ := h
    refine ⟨_, (pss_cons (ps_set (i := 2) sc__law_last.nd rfl (by first | exact Or.inl rfl | exact Or.inr rfl) pe_int)
      (pss_cons (ps_set (i := 3) sc__law_last.nd rfl (by first | exact Or.inl rfl | exact Or.inr rfl) pe_non)
      (pss_cons (ps_for PassesOwn.never rfl (pi_range1 rfl (T.no (n_range _)) (pa_cons (pv 1) pa_nil)) (pg_name (i := 4) sc__law_last.nd rfl (by first | exact Or.inl rfl | exact Or.inr rfl))
      (pss_cons (ps_set (i := 5) sc__law_last.nd rfl (by first | exact Or.inl rfl | exact Or.inr rfl) (pe_ix ix_seq (pv 0) (pv 4) (fun _ _ => rfl)))
      (pss_one (ps_if (PW.pt (pw_and (pt_cmpR opEq (pe_ix ix_seq (pv 5) pe_int (fun _ _ => rfl)) pe_str (nomark _)) (pw_and1 (pt_cmpR opEq (pe_ix ix_seq (pv 5) pe_int (fun _ _ => rfl)) pe_str (nomark _)))))
      (pss_one (ps_set (i := 3) sc__law_last.nd rfl (by first | exact Or.inl rfl | exact Or.inr rfl) (pv 5)))
      (pss_one (ps_if (PW.pt (pw_and (pt_cmpR opEq (pe_ix ix_seq (pv 5) pe_int (fun _ _ => rfl)) pe_str (nomark _)) (pw_and (pt_cmpR op_notN (pv 3) pe_non (nomark _)) (pw_and1 (pt_cmpR opEq (pe_ix ix_seq (pv 5) pe_int (fun _ _ => rfl)) (pe_ix ix_seq (pv 3) pe_int (fun _ _ => rfl)) (nomark _))))))
      (pss_cons (ps_set (i := 2) sc__law_last.nd rfl (by first | exact Or.inl rfl | exact Or.inr rfl) (pe_ix ix_seq (pv 3) pe_int (fun _ _ => rfl)))
      (pss_one (ps_set (i := 3) sc__law_last.nd rfl (by first | exact Or.inl rfl | exact Or.inr rfl) pe_non)))
      pss_nil))))))
      (pss_one (ps_ret (pv 2)))))), ?_⟩
    have ln := ev.n
    have ly : ys.length = es.length := forall2_len ev.a
    have S := ev.S
    refine seq_asg ?_
    refine g_name ?_
    refine seq_asg ?_
    refine g_name ?_
    refine ⟨_, rfl, rb, rfl, by omega, by omega, ?_⟩
    refine for_range (lo := 0) (n := rb) (fun i σ H' => H' = H ∧ ∃ (x : Int) (o : Option Rc) (ov : V), LastI rs i x ∧ OpI rs i o ∧ OvAt (KX w.params) H o ov ∧ ∃ x4 x5, σ = [some (.ref te), some (.int (rb : Nat)), some (.int x), some ov, x4, x5])
      ⟨rfl, 0, none, .non, LastI.zero, fun w hw => absurd hw.2.2.1 (Nat.not_lt_zero _), rfl, _, _, rfl⟩ ?_ ?_
    · rintro i σ H' hi ⟨rfl, x, o, ov, la, op, oa, x4, x5, rfl⟩
      rw [Int.zero_add]
      have hie : i < es.length := by omega
      have hy : ys[i]? = some (ys[i]'(by omega)) := List.getElem?_eq_getElem (by omega)
      generalize ys[i]'(by omega) = y at hy
      obtain ⟨e, he, ea⟩ := all2_get ev.a hy
      refine g_name ?_
      refine seq_asg ?_
      refine ⟨_, rfl, _, rfl, .inr (.inl ⟨te, ys, _, y, rfl, rfl, ev.t, atI_nat hy, ?_⟩)⟩
      refine g_name ?_
      cases e with
      | beg h n v x1 =>
        obtain ⟨py, rfl, sy⟩ := ea
        obtain ⟨z, rfl⟩ := ev.v _ (List.mem_of_getElem? he)
        refine ⟨_, rfl, .inr (.inl ⟨py, _, 0, .str "begin", rfl, rfl, sy, atI_nat (j := 0) rfl, rfl, _, rfl, iteP (by decide +kernel) ?_⟩)⟩
        refine ⟨_, rfl, .inr (.inl ⟨py, _, 3, .str z, rfl, rfl, sy, atI_nat (j := 3) rfl, rfl, _, rfl, ?_⟩)⟩
        by_cases hz : z = "write"
        · subst hz
          refine iteP (decide_eq_true rfl) ⟨_, rfl, ?_⟩
          obtain ⟨w0, ow, hb0, hx0, hh0, hn0⟩ := S.begW he
          refine ⟨rfl, x, some w0, .ref py, la.on fun w hw _ => S.noE he w hw, ow, ⟨py, rfl, ?_⟩, _, _, rfl⟩
          rw [hx0, hh0, hn0, (S.wh ow.1 ow.2.1).2]
          exact sy
        · refine iteN (fun e => hz (by have := of_decide_eq_true e; injection this)) ?_
          refine ⟨_, rfl, .inr (.inl ⟨py, _, 0, .str "begin", rfl, rfl, sy, atI_nat (j := 0) rfl, rfl, _, rfl, iteN (by decide +kernel) (iteN (by decide) ?_)⟩)⟩
          have nw := S.noW he (fun e => hz (by injection e))
          exact ⟨rfl, x, o, ov, la.on fun w hw _ => S.noE he w hw, op.on nw fun w hw _ => S.noE he w hw, oa, _, _, rfl⟩
      | fin h a =>
        obtain ⟨py, rfl, sy⟩ := ea
        have nb : ∀ w ∈ rs, isW w = true → w.b ≠ i := fun w hw _ => S.noB he w hw
        have keep : (∀ w, o = some w → h ≠ w.h) → LastI rs (i + 1) x ∧ OpI rs (i + 1) o := fun hn => by
          have ne := S.finN he op hn
          exact ⟨la.on ne, op.on nb ne⟩
        refine ⟨_, rfl, .inr (.inl ⟨py, _, 0, .str "end", rfl, rfl, sy, atI_nat (j := 0) rfl, rfl, _, rfl, iteN (by decide +kernel) (iteN (by decide) ?_)⟩)⟩
        refine ⟨_, rfl, .inr (.inl ⟨py, _, 0, .str "end", rfl, rfl, sy, atI_nat (j := 0) rfl, rfl, _, rfl, iteP (by decide +kernel) ?_⟩)⟩
        cases o with
        | none =>
          have oa : ov = .non := oa
          subst oa
          obtain ⟨k1, k2⟩ := keep fun _ z => by cases z
          exact ⟨_, rfl, rfl, _, rfl, iteN (by decide) (iteN (by decide) ⟨rfl, x, none, .non, k1, k2, rfl, _, _, rfl⟩)⟩
        | some w0 =>
          obtain ⟨p, rfl, sp⟩ := oa
          refine ⟨_, rfl, rfl, _, rfl, iteP (by simp) ?_⟩
          refine ⟨_, rfl, .inr (.inl ⟨py, _, 1, .int h, rfl, rfl, sy, atI_nat (j := 1) rfl, ?_⟩)⟩
          refine ⟨_, rfl, .inr (.inl ⟨p, _, 1, .int w0.h, rfl, rfl, sp, atI_nat (j := 1) rfl, rfl, _, rfl, ?_⟩)⟩
          by_cases hz : h = w0.h
          · subst hz
            refine iteP (decide_eq_true rfl) ?_
            obtain ⟨f1, f2⟩ := S.finY he op
            refine seq_asg ?_
            refine ⟨_, rfl, .inr (.inl ⟨p, _, 4, .int (intV w0.x), rfl, rfl, sp, by rw [← S.wx op.1 op.2.1]; exact atI_nat (j := 4) rfl, ?_⟩)⟩
            refine g_name ?_
            exact ⟨rfl, intV w0.x, none, .non, S.lastY op.1 op.2.1 f1, f2, rfl, _, _, rfl⟩
          · refine iteN (fun e => hz (by have := of_decide_eq_true e; injection this)) ?_
            obtain ⟨k1, k2⟩ := keep fun w1 z => by cases z; exact hz
            exact ⟨rfl, x, some w0, .ref p, k1, k2, ⟨p, rfl, sp⟩, _, _, rfl⟩
    · rintro σ H' ⟨rfl, x, o, ov, la, op, oa, x4, x5, rfl⟩
      exact ⟨_, rfl, q x la⟩
def sp__law_beside (K : PySem.W.Frag) : Sp := fun vs H Q _ => ∃ (te : Addr) (rb re : Nat) (wr : Int) (es : List Ev) (ys : List V) (rs : List Rc), vs = [.ref te, .int rb, .int re] ∧ Evs K H te wr es ys rs ∧ rb < re ∧ re ≤ es.length ∧ (∃ h n x, es[rb]? = some (.beg h n (.str "read") x)) ∧ ∀ l (fs : List Int) H', Same H H' → H' l = some (.lst (fs.map V.int)) → fs.length ≤ 200 → (∀ x, x ∈ fs ↔ BesI rs rb re x) → Q (.ref l) H'
theorem ok__law_beside (T : TX (KX w.params) mg) : FnOk P w (KX w.params) mg base CX0 1 196 fd__law_beside ["events", "begin", "end"] (sp__law_beside (KX w.params)) := by
  refine (F__law_beside w.params).ok sc__law_beside (fun vs H Q E h => ?_) (fun cdv A outer s H vs Q E hr h => ?_)
  · obtain ⟨te, rb, re, wr, es, ys, rs, rfl, _⟩ := h
    rfl
  · obtain ⟨te, rb, re, wr, es, ys, rs, rfl, ev, hbe, hb, ⟨hh, hn, hx, hrd⟩, q⟩ := h
    refine ⟨_, (pss_cons (ps_set (i := 3) sc__law_beside.nd rfl (by first | exact Or.inl rfl | exact Or.inr rfl) (pe_lst pa_nil))
      (pss_cons (ps_set (i := 4) sc__law_beside.nd rfl (by first | exact Or.inl rfl | exact Or.inr rfl) pe_non)
      (pss_cons (ps_for PassesOwn.never rfl (pi_range1 rfl (T.no (n_range _)) (pa_cons (pv 2) pa_nil)) (pg_name (i := 5) sc__law_beside.nd rfl (by first | exact Or.inl rfl | exact Or.inr rfl))
      (pss_cons (ps_set (i := 6) sc__law_beside.nd rfl (by first | exact Or.inl rfl | exact Or.inr rfl) (pe_ix ix_seq (pv 0) (pv 5) (fun _ _ => rfl)))
      (pss_cons (ps_if (PW.pt (pw_and (pt_cmpR opEq (pe_ix ix_seq (pv 6) pe_int (fun _ _ => rfl)) pe_str (nomark _)) (pw_and1 (pt_cmpR opEq (pe_ix ix_seq (pv 6) pe_int (fun _ _ => rfl)) pe_str (nomark _)))))
      (pss_cons (ps_set (i := 4) sc__law_beside.nd rfl (by first | exact Or.inl rfl | exact Or.inr rfl) (pv 6))
      (pss_one (ps_if (pt_cmpR op_gt (pv 5) (pv 1) (nomark _))
      (pss_one (ps_expr (pe_append (pv 3) (pa_cons (pe_ix ix_seq (pv 6) pe_int (fun _ _ => rfl)) pa_nil))))
      pss_nil)))
      (pss_one (ps_if (PW.pt (pw_and (pt_cmpR opEq (pe_ix ix_seq (pv 6) pe_int (fun _ _ => rfl)) pe_str (nomark _)) (pw_and (pt_cmpR op_notN (pv 4) pe_non (nomark _)) (pw_and1 (pt_cmpR opEq (pe_ix ix_seq (pv 6) pe_int (fun _ _ => rfl)) (pe_ix ix_seq (pv 4) pe_int (fun _ _ => rfl)) (nomark _))))))
      (pss_one (ps_set (i := 4) sc__law_beside.nd rfl (by first | exact Or.inl rfl | exact Or.inr rfl) pe_non))
      pss_nil)))
      (pss_one (ps_if (PW.pt (pw_and (pt_cmpR opEq (pv 5) (pv 1) (nomark _)) (pw_and1 (pt_cmpR op_notN (pv 4) pe_non (nomark _)))))
      (pss_one (ps_expr (pe_append (pv 3) (pa_cons (pe_ix ix_seq (pv 4) pe_int (fun _ _ => rfl)) pa_nil))))
      pss_nil)))))
      (pss_one (ps_ret (pv 3)))))), ?_⟩
    have ln := ev.n
    have ly : ys.length = es.length := forall2_len ev.a
    have S := ev.S
    refine seq_asg ?_
    refine ⟨(show (0 : Nat) ≤ sizeLine by decide), fun lf hlf => ?_⟩
    refine g_name ?_
    have s0 := Same.upd (o := .lst []) hlf
    have e0 : upd H lf (.lst []) lf = some (.lst (([] : List Int).map V.int)) := upd_same
    generalize upd H lf (.lst []) = H0 at s0 e0 ⊢
    refine seq_asg ?_
    refine g_name ?_
    refine ⟨_, rfl, re, rfl, by omega, by omega, ?_⟩
    refine for_range (lo := 0) (n := re) (fun i σ H' => Same H H' ∧ ∃ (fs : List Int) (o : Option Rc) (ov : V), H' lf = some (.lst (fs.map V.int)) ∧ fs.length ≤ i + i ∧ (∀ x, x ∈ fs ↔ BesI rs rb i x) ∧ OpI rs i o ∧ OvAt (KX w.params) H o ov ∧ ∃ x5 x6, σ = [some (.ref te), some (.int (rb : Nat)), some (.int (re : Nat)), some (.ref lf), some ov, x5, x6])
      ⟨s0, [], none, .non, e0, Nat.zero_le _, fun x => ⟨fun z => absurd z List.not_mem_nil, fun z => absurd z (BesI.le (Nat.zero_le _))⟩, fun w hw => absurd hw.2.2.1 (Nat.not_lt_zero _), rfl, _, _, rfl⟩ ?_ ?_
    · rintro i σ H1 hi ⟨s1, fs, o, ov, el, lf2, bs, op, oa, x5, x6, rfl⟩
      rw [Int.zero_add]
      have hie : i < es.length := by omega
      have hy : ys[i]? = some (ys[i]'(by omega)) := List.getElem?_eq_getElem (by omega)
      generalize ys[i]'(by omega) = y at hy
      obtain ⟨e, he, ea⟩ := all2_get ev.a hy
      refine g_name ?_
      refine seq_asg ?_
      refine ⟨_, rfl, _, rfl, .inr (.inl ⟨te, ys, _, y, rfl, rfl, s1.seqT ev.t, atI_nat hy, ?_⟩)⟩
      refine g_name ?_
      refine seq_any (fun σ1 H2 => Same H H2 ∧ ∃ (fs : List Int) (o : Option Rc) (ov : V), H2 lf = some (.lst (fs.map V.int)) ∧ fs.length ≤ i + i + 1 ∧ (i ≠ rb → ∀ x, x ∈ fs ↔ BesI rs rb (i + 1) x) ∧ (i = rb → (∀ x, x ∉ fs) ∧ OpI rs i o ∧ ∀ w ∈ rs, w.e ≠ some i) ∧ OpI rs (i + 1) o ∧ OvAt (KX w.params) H o ov ∧ σ1 = [some (.ref te), some (.int (rb : Nat)), some (.int (re : Nat)), some (.ref lf), some ov, some (.int (i : Nat)), some y]) ?_ (fun tl => ?_)
      rotate_left
      · have z0 : i = rb → ∀ x, x ∉ fs := fun e x hx => BesI.le (Nat.le_of_eq e) ((bs x).mp hx)
        cases e with
        | beg h n v x1 =>
          obtain ⟨py, rfl, sy⟩ := ea
          obtain ⟨z, rfl⟩ := ev.v _ (List.mem_of_getElem? he)
          have sy1 := s1.seqT sy
          refine ⟨_, rfl, .inr (.inl ⟨py, _, 0, .str "begin", rfl, rfl, sy1, atI_nat (j := 0) rfl, rfl, _, rfl, iteP (by decide +kernel) ?_⟩)⟩
          refine ⟨_, rfl, .inr (.inl ⟨py, _, 3, .str z, rfl, rfl, sy1, atI_nat (j := 3) rfl, rfl, _, rfl, ?_⟩)⟩
          by_cases hz : z = "write"
          · subst hz
            refine iteP (decide_eq_true rfl) ?_
            obtain ⟨w0, ow, hb0, hx0, hh0, hn0⟩ := S.begW he
            have nr : i ≠ rb := fun e => by
              rw [e, hrd] at he
              injection he with he
              injection he with _ _ he _
              exact absurd he (by decide +kernel)
            have ov0 : OvAt (KX w.params) H (some w0) (.ref py) := ⟨py, rfl, by rw [hx0, hh0, hn0, (S.wh ow.1 ow.2.1).2]; exact sy⟩
            have hxi : x1 = .int (intV w0.x) := by rw [← S.wx ow.1 ow.2.1, hx0]
            refine seq_asg ?_
            refine ⟨_, rfl, ?_⟩
            refine g_name ?_
            refine ⟨_, rfl, _, rfl, _, _, rfl, rfl, _, rfl, ?_⟩
            by_cases hgt : rb < i
            · refine iteP (decide_eq_true (by omega)) ?_
              refine ⟨_, rfl, .inl ⟨rfl, _, SqL.of el⟩, _, rfl, .inr (.inl ⟨py, _, 4, .int (intV w0.x), rfl, rfl, sy1, by rw [← hxi]; exact atI_nat (j := 4) rfl, lf, _, _, rfl, rfl, el, Nat.lt_of_le_of_lt (m := 200) (by rw [List.length_map]; omega) (by decide), ?_⟩)⟩
              refine tl _ _ ⟨Same.keep s1 hlf, fs ++ [intV w0.x], some w0, .ref py, by rw [List.map_append]; exact upd_same, by rw [List.length_append]; show fs.length + 1 ≤ _; omega, fun _ x => ?_, fun e => absurd e nr, ow, ov0, rfl⟩
              rw [S.besW ow.1 ow.2.1 hb0 nr, List.mem_append, bs x, List.mem_singleton]
              exact ⟨fun z => z.imp id fun y => ⟨hgt, y⟩, fun z => z.imp id fun y => y.2⟩
            · refine iteN (fun e => hgt (by have := of_decide_eq_true e; omega)) ?_
              refine tl _ _ ⟨s1, fs, some w0, .ref py, el, by omega, fun _ x => ?_, fun e => absurd e nr, ow, ov0, rfl⟩
              rw [S.besW ow.1 ow.2.1 hb0 nr, bs x]
              exact ⟨.inl, fun z => z.elim id fun y => absurd y.1 hgt⟩
          · refine iteN (fun e => hz (by have := of_decide_eq_true e; injection this)) ?_
            refine ⟨_, rfl, .inr (.inl ⟨py, _, 0, .str "begin", rfl, rfl, sy1, atI_nat (j := 0) rfl, rfl, _, rfl, iteN (by decide +kernel) (iteN (by decide) ?_)⟩)⟩
            have nw := S.noW he (fun e => hz (by injection e))
            refine tl _ _ ⟨s1, fs, o, ov, el, by omega, fun nr x => ?_, fun e => ⟨z0 e, op, fun w hw => S.noE he w hw⟩, op.on nw fun w hw _ => S.noE he w hw, oa, rfl⟩
            rw [BesI.on nr nw, bs x]
        | fin h a =>
          obtain ⟨py, rfl, sy⟩ := ea
          have sy1 := s1.seqT sy
          have nb : ∀ w ∈ rs, isW w = true → w.b ≠ i := fun w hw _ => S.noB he w hw
          have nr : i ≠ rb := fun e => by rw [e, hrd] at he; cases he
          have bs' : ∀ x, x ∈ fs ↔ BesI rs rb (i + 1) x := fun x => by rw [BesI.on nr nb, bs x]
          refine ⟨_, rfl, .inr (.inl ⟨py, _, 0, .str "end", rfl, rfl, sy1, atI_nat (j := 0) rfl, rfl, _, rfl, iteN (by decide +kernel) (iteN (by decide) ?_)⟩)⟩
          refine ⟨_, rfl, .inr (.inl ⟨py, _, 0, .str "end", rfl, rfl, sy1, atI_nat (j := 0) rfl, rfl, _, rfl, iteP (by decide +kernel) ?_⟩)⟩
          cases o with
          | none =>
            have oa : ov = .non := oa
            subst oa
            have ne := S.finN he op (fun _ z => by cases z)
            exact ⟨_, rfl, rfl, _, rfl, iteN (by decide) (iteN (by decide) (tl _ _ ⟨s1, fs, none, .non, el, by omega, fun _ => bs', fun e => absurd e nr, op.on nb ne, rfl, rfl⟩))⟩
          | some w0 =>
            obtain ⟨p, rfl, sp⟩ := oa
            have sp1 := s1.seqT sp
            refine ⟨_, rfl, rfl, _, rfl, iteP (by simp) ?_⟩
            refine ⟨_, rfl, .inr (.inl ⟨py, _, 1, .int h, rfl, rfl, sy1, atI_nat (j := 1) rfl, ?_⟩)⟩
            refine ⟨_, rfl, .inr (.inl ⟨p, _, 1, .int w0.h, rfl, rfl, sp1, atI_nat (j := 1) rfl, rfl, _, rfl, ?_⟩)⟩
            by_cases hz : h = w0.h
            · subst hz
              refine iteP (decide_eq_true rfl) ?_
              obtain ⟨f1, f2⟩ := S.finY he op
              exact tl _ _ ⟨s1, fs, none, .non, el, by omega, fun _ => bs', fun e => absurd e nr, f2, rfl, rfl⟩
            · refine iteN (fun e => hz (by have := of_decide_eq_true e; injection this)) ?_
              have ne := S.finN he op (fun w1 z => by cases z; exact hz)
              exact tl _ _ ⟨s1, fs, some w0, .ref p, el, by omega, fun _ => bs', fun e => absurd e nr, op.on nb ne, ⟨p, rfl, sp⟩, rfl⟩
      rintro σ1 H2 ⟨s2, fs2, o2, ov2, el2, ln2, b1, b2, op2, oa2, rfl⟩
      refine ⟨_, rfl, _, rfl, rfl, _, rfl, ?_⟩
      by_cases er : i = rb
      rotate_left
      · refine iteN (fun e => er (by have := of_decide_eq_true e; injection this with this; omega)) (iteN (by decide) ?_)
        exact ⟨s2, fs2, o2, ov2, el2, by omega, b1 er, op2, oa2, _, _, rfl⟩
      · refine iteP (decide_eq_true (by rw [er])) ?_
        obtain ⟨c1, c2, c3⟩ := b2 er
        subst er
        cases o2 with
        | none =>
          have oa2 : ov2 = .non := oa2
          subst oa2
          refine ⟨_, rfl, rfl, _, rfl, iteN (by decide) ?_⟩
          refine ⟨s2, fs2, none, .non, el2, by omega, fun x => ?_, op2, rfl, _, _, rfl⟩
          rw [S.besB c2 c3]
          exact ⟨fun z => absurd z (c1 x), fun ⟨_, z, _⟩ => by cases z⟩
        | some w0 =>
          obtain ⟨p, rfl, sp⟩ := oa2
          refine ⟨_, rfl, rfl, _, rfl, iteP (by simp) ?_⟩
          refine ⟨_, rfl, .inl ⟨rfl, _, SqL.of el2⟩, _, rfl, .inr (.inl ⟨p, _, 4, .int (intV w0.x), rfl, rfl, s2.seqT sp, by rw [← S.wx op2.1 op2.2.1]; exact atI_nat (j := 4) rfl, lf, _, _, rfl, rfl, el2, Nat.lt_of_le_of_lt (m := 200) (by rw [List.length_map]; omega) (by decide), ?_⟩)⟩
          refine ⟨Same.keep s2 hlf, fs2 ++ [intV w0.x], some w0, .ref p, by rw [List.map_append]; exact upd_same, by rw [List.length_append]; show fs2.length + 1 ≤ _; omega, fun x => ?_, op2, ⟨p, rfl, sp⟩, _, _, rfl⟩
          rw [S.besB c2 c3, List.mem_append, List.mem_singleton]
          constructor
          · rintro (z | z)
            · exact absurd z (c1 x)
            · exact ⟨w0, rfl, z⟩
          · rintro ⟨w1, z, e⟩
            cases z
            exact .inr e
    · rintro σ H1 ⟨s1, fs, o, ov, el, lf2, bs, op, oa, x5, x6, rfl⟩
      exact ⟨_, rfl, q lf fs H1 s1 el (by omega) bs⟩
end
end K20
namespace K20
open PySem PySem.Spec PyProof.Rows TJ L2
section
variable {P : Program} {w : World} {mg : Str → Option Value} {base : Heap}
theorem good_v {wr : Int} {r : Rc} (h : RdG r ∨ WrG wr r) : r.v = .str (vbS (isW r)) := by
  rcases h with g | g
  · rw [g.w]; exact g.1
  · rw [g.w]; exact g.1
theorem TW.evv {nm : Str} {wr : Int} {es : List Ev} {os : List (Int × Bool)} {us : List Int} (h : TW nm wr es os us) : ∀ e ∈ es, EvV e := by
  induction h with
  | nil => exact fun _ h => absurd h List.not_mem_nil
  | wri _ _ _ _ ih =>
    intro e he
    rcases List.mem_append.mp he with z | z
    · exact ih e z
    · rw [List.mem_singleton.mp z]; exact ⟨_, rfl⟩
  | rd _ _ ih =>
    intro e he
    rcases List.mem_append.mp he with z | z
    · exact ih e z
    · rw [List.mem_singleton.mp z]; exact ⟨_, rfl⟩
  | fin _ _ _ _ ih =>
    intro e he
    rcases List.mem_append.mp he with z | z
    · exact ih e z
    · rw [List.mem_singleton.mp z]; exact trivial
def twoD (a b : Bool) : PyData := .list [.bool a, .bool b]
theorem two_pd {K : PySem.W.Frag} {H : Hp} {l : Addr} {a b : Bool} (e : H l = some (.lst [V.bl a, .bl b])) : IsPd K H (twoD a b) (.ref l) := ⟨l, _, rfl, SqL.of e, ⟨_, _, rfl, rfl, _, _, rfl, rfl, rfl⟩⟩
theorem two_lay : ∀ a b, (twoD a b).canLay0 = true := by decide
theorem two_depth : ∀ a b, (twoD a b).depth ≤ 60 := by decide
theorem two_eqv : ∀ a b, (twoD a b).eqv (twoD a b) = true := by decide
theorem ints_pds {K : PySem.W.Frag} {H : Hp} : ∀ fs : List Int, IsPds K H (fs.map PyData.int) (fs.map V.int)
  | [] => rfl
  | _ :: r => ⟨_, _, rfl, rfl, ints_pds r⟩
theorem ints_plain : ∀ fs : List Int, plainPs (fs.map PyData.int) = true
  | [] => rfl
  | _ :: r => by show (true && plainPs (r.map PyData.int)) = true; rw [ints_plain r]; rfl
theorem ints_depth : ∀ fs : List Int, (PyData.list (fs.map PyData.int)).depth ≤ 60 := fun fs => by
  have : ∀ fs : List Int, PyData.depthAll (fs.map PyData.int) = 0 := by
    intro fs
    induction fs with
    | nil => rfl
    | cons x r ih => show max 0 (PyData.depthAll (r.map PyData.int)) = 0; rw [ih]; rfl
  show PyData.depthAll (fs.map PyData.int) + 1 ≤ 60
  rw [this fs]
  decide
theorem Sq1.reg_iff {wr : Int} {es : List Ev} {rs : List Rc} (S : Sq1 wr es rs) {r : Rc} {e : Nat} {x : Int} {fs : List Int} (hr : r ∈ rs) (rv : r.v = .str "read") (re : r.e = some e) (la : LastI rs r.b x) (bs : ∀ y, y ∈ fs ↔ BesI rs r.b e y) : (RegR rs r e ↔ intV r.a = x ∨ intV r.a ∈ fs) ∧ (SafR rs r e ↔ intV r.a = x ∨ fs ≠ []) := by
  have lt := S.E r hr e re
  have nb : ∀ w ∈ rs, isW w = true → w.b ≠ r.b := fun w hw hi z => by
    have := S.same_b hw hr z
    rw [this] at hi
    exact rd_ne_wr (rv.symm.trans (of_decide_eq_true hi))
  have l : LastI rs r.b (intV r.a) ↔ intV r.a = x := ⟨fun z => S.last1 z la, fun z => by rw [z]; exact la⟩
  have b : ∀ y, y ∈ fs ↔ ∃ w ∈ rs, isW w = true ∧ intV w.x = y ∧ w.b < e ∧ ∀ k, w.e = some k → r.b < k := fun y => (bs y).trans (S.besE lt nb)
  constructor
  · unfold RegR
    rw [l, ← b]
    exact ⟨fun z => z.symm, fun z => z.symm⟩
  · unfold SafR
    rw [l]
    constructor
    · rintro (⟨w0, h1, h2, h3⟩ | z)
      · refine .inr fun e => ?_
        have := (b (intV w0.x)).mpr ⟨w0, h1, h2, rfl, h3⟩
        rw [e] at this
        exact absurd this List.not_mem_nil
      · exact .inl z
    · rintro (z | z)
      · exact .inr z
      · obtain ⟨y, hy⟩ := List.exists_mem_of_ne_nil fs z
        obtain ⟨w0, h1, h2, _, h3⟩ := (b y).mp hy
        exact .inl ⟨w0, h1, h2, h3⟩
def sp_law (K : PySem.W.Frag) : Sp := fun vs H Q _ => ∃ (a : Addr) (ns : List Int), vs = [.ref a] ∧ SqL K H a (ns.map V.int) ∧ ns.length ≤ 63 ∧ ∀ H', Q (.bl true) H'
theorem ok_law (T : TX (KX w.params) mg) (c__law_tale : Cal P w (KX w.params) mg base "_law_tale" ["script", "most"] 5 (sp__law_tale (KX w.params))) (c__law_deeds : Cal P w (KX w.params) mg base "_law_deeds" ["events"] 1 (sp__law_deeds (KX w.params))) (c__law_last : Cal P w (KX w.params) mg base "_law_last" ["events", "begin"] 1 (sp__law_last (KX w.params))) (c__law_beside : Cal P w (KX w.params) mg base "_law_beside" ["events", "begin", "end"] 1 (sp__law_beside (KX w.params))) (c_is_regular : Cal P w (KX w.params) mg base "is_regular" ["tale"] 6 (sp_is_regular (KX w.params))) (c_is_safe : Cal P w (KX w.params) mg base "is_safe" ["tale"] 6 (sp_is_safe (KX w.params))) : FnOk P w (KX w.params) mg base CX0 7 201 fd_law ["script"] (sp_law (KX w.params)) := by
  refine (F_law w.params).ok sc_law (fun vs H Q E h => ?_) (fun cdv A outer s H vs Q E hr h => ?_)
  · obtain ⟨sc, ns, rfl, _⟩ := h
    rfl
  · obtain ⟨sc, ns, rfl, sq, hn, q⟩ := h
    refine ⟨_, (pss_cons (ps_set (i := 1) sc_law.nd rfl (by first | exact Or.inl rfl | exact Or.inr rfl) (pe_cal c__law_tale (hr.mono (by first | decide | omega)) rfl (pa_cons (pv 0) (pa_cons pe_int pa_nil))))
      (pss_cons (ps_set (i := 2) sc_law.nd rfl (by first | exact Or.inl rfl | exact Or.inr rfl) (pe_ix ix_seq (pv 1) pe_int (fun _ _ => rfl)))
      (pss_cons (ps_set (i := 3) sc_law.nd rfl (by first | exact Or.inl rfl | exact Or.inr rfl) pe_bl)
      (pss_cons (ps_set (i := 4) sc_law.nd rfl (by first | exact Or.inl rfl | exact Or.inr rfl) pe_bl)
      (pss_cons (ps_for PassesOwn.never rfl (pi_list (pe_cal c__law_deeds (hr.mono (by first | decide | omega)) rfl (pa_cons (pv 2) pa_nil))) (pg_lst rfl (pgs_cons (pg_name (i := 5) sc_law.nd rfl (by first | exact Or.inl rfl | exact Or.inr rfl)) (pgs_cons (pg_name (i := 6) sc_law.nd rfl (by first | exact Or.inl rfl | exact Or.inr rfl)) (pgs_cons (pg_name (i := 7) sc_law.nd rfl (by first | exact Or.inl rfl | exact Or.inr rfl)) (pgs_cons (pg_name (i := 8) sc_law.nd rfl (by first | exact Or.inl rfl | exact Or.inr rfl)) (pgs_cons (pg_name (i := 9) sc_law.nd rfl (by first | exact Or.inl rfl | exact Or.inr rfl)) pgs_nil))))))
      (pss_one (ps_if (PW.pt (pw_and (pt_cmpR opEq (pv 5) pe_str (nomark _)) (pw_and1 (pt_cmpR op_notN (pv 9) pe_non (nomark _)))))
      (pss_cons (ps_set (i := 10) sc_law.nd rfl (by first | exact Or.inl rfl | exact Or.inr rfl) (pe_cal c__law_last (hr.mono (by first | decide | omega)) rfl (pa_cons (pv 2) (pa_cons (pv 8) pa_nil))))
      (pss_cons (ps_set (i := 11) sc_law.nd rfl (by first | exact Or.inl rfl | exact Or.inr rfl) (pe_cal c__law_beside (hr.mono (by first | decide | omega)) rfl (pa_cons (pv 2) (pa_cons (pv 8) (pa_cons (pv 9) pa_nil)))))
      (pss_cons (ps_set (i := 3) sc_law.nd rfl (by first | exact Or.inl rfl | exact Or.inr rfl) (pe_and (pv 3) (pe_one (pe_or (pe_cmpR opEq (pv 7) (pv 10) (nomark _)) (pe_one (pe_cmpR op_in_seq (pv 7) (pv 11) (by with_unfolding_all rfl)))))))
      (pss_one (ps_set (i := 4) sc_law.nd rfl (by first | exact Or.inl rfl | exact Or.inr rfl) (pe_and (pv 4) (pe_one (pe_or (pe_cmpR opEq (pv 7) (pv 10) (nomark _)) (pe_one (pe_cmpR (op_neP hr) (pv 11) (pe_lst pa_nil) (nomark _)))))))))))
      pss_nil)))
      (pss_cons (ps_for PassesOwn.never rfl (pi_range1 rfl (T.no (n_range _)) (pa_cons pe_int pa_nil)) (pg_name (i := 12) sc_law.nd rfl (by first | exact Or.inl rfl | exact Or.inr rfl))
      (pss_cons (ps_set (i := 13) sc_law.nd rfl (by first | exact Or.inl rfl | exact Or.inr rfl) (pe_lst (pa_cons (pe_cal c_is_regular (hr.mono (by first | decide | omega)) rfl (pa_cons (pv 1) pa_nil)) (pa_cons (pe_cal c_is_safe (hr.mono (by first | decide | omega)) rfl (pa_cons (pv 1) pa_nil)) pa_nil))))
      (pss_one (ps_if (PW.pt (pw_or (pt_cmpR (op_neC hr) (pv 13) (pe_lst (pa_cons (pv 3) (pa_cons (pv 4) pa_nil))) (nomark _)) (pw_or1 (pt_cmpR (op_neP hr) (pe_compG (xs := ["one"]) (g := gName 0) (fr := []) rfl (pi_list (pv 13)) (fun _ z => absurd z List.not_mem_nil) (free_none rfl) (fun _ z => absurd z List.not_mem_nil) (by decide +kernel) rfl (by decide +kernel) (fun _ _ _ _ _ => (pg_cname (N := ["one"]) 0 (by decide +kernel) rfl rfl)) (fun _ _ _ _ _ => (pf_one (pt_not (pt_val (pe_callB call_isinst rfl (T.no (n_isinstance _)) boot_isinstance (pa_cons (pv 0) (pa_cons (pe_bltn (v := .ty "bool") rfl (T.no (n_bool _)) boot_bool rfl) pa_nil))) (fun _ => rfl))))) (fun _ _ _ _ _ => (pv 0))) (pe_lst pa_nil) (nomark _)))))
      (pss_one (ps_ret pe_bl))
      pss_nil))))
      (pss_one (ps_ret (pe_or (pv 4) (pe_one (pe_not (pv 3)))))))))))), ?_⟩
    refine seq_asg ?_
    refine ⟨_, rfl, sc, ns, rfl, sq, hn, fun t pt th te ys es os us wr nm H1 s1 et ept eth ete al tw le => ?_⟩
    refine g_name ?_
    have ta : TalR (KX w.params) H1 t nm wr es ys := ⟨⟨pt, te, th, SqT.of et, SqT.of ept, SqT.of eth, SqT.of ete⟩, al, ⟨os, us, tw⟩, le⟩
    have wf := (DInv.nil.all tw.wf.1).1
    have S := tw.sq
    have G := tw.rs.g
    have l63 : (dAll 0 [] es).length ≤ 63 := Nat.le_trans dAll_len (by simpa using le)
    refine seq_asg ?_
    refine ⟨_, rfl, .inr (.inl ⟨t, _, 1, .ref te, rfl, rfl, SqT.of et, atI_nat (j := 1) rfl, ?_⟩)⟩
    refine g_name ?_
    refine seq_asg ?_
    refine g_name ?_
    refine seq_asg ?_
    refine g_name ?_
    refine ⟨_, rfl, te, es, ys, rfl, SqT.of ete, al, by omega, wf, tw.evv, fun l zs H2 s2 el ac => ⟨l, rfl, ⟨_, SqL.of el⟩, ?_⟩⟩
    have ev : Evs (KX w.params) H2 te wr es ys (dAll 0 [] es) := ⟨SqT.of (s2 _ _ ete), forall2_mono (fun _ _ z => EvAt.tups (.of s2) z) al, S, tw.evv, le⟩
    have ta2 := ta.same s2
    generalize hrs : dAll 0 [] es = rs at S G l63 ac ev
    have lz : zs.length = rs.length := forall2_len ac
    have ale : ∀ r ∈ rs, r.b < es.length := fun r hr => (List.getElem?_eq_some_iff.mp (S.R.a r hr)).1
    have ele : ∀ r ∈ rs, ∀ e, r.e = some e → e < es.length := fun r hr e he => (List.getElem?_eq_some_iff.mp (S.R.b r hr e he)).1
    refine for_list (K := KX w.params) (a := l) (xs := zs) (fun i σ H' => Same H2 H' ∧ ∃ b1 b2 : Bool, (b1 = true ↔ ∀ (m : Nat) (r : Rc) e, m < i → rs[m]? = some r → r.v = .str "read" → r.e = some e → RegR rs r e) ∧ (b2 = true ↔ ∀ (m : Nat) (r : Rc) e, m < i → rs[m]? = some r → r.v = .str "read" → r.e = some e → SafR rs r e) ∧ ∃ x5 x6 x7 x8 x9 x10 x11, σ = [some (.ref sc), some (.ref t), some (.ref te), some (.bl b1), some (.bl b2), x5, x6, x7, x8, x9, x10, x11, none, none])
      ⟨Same.refl _, true, true, ⟨fun _ m r e h => absurd h (Nat.not_lt_zero _), fun _ => rfl⟩, ⟨fun _ m r e h => absurd h (Nat.not_lt_zero _), fun _ => rfl⟩, _, _, _, _, _, _, _, rfl⟩ (fun _ σ H' _ h => SqL.of (h.1 _ _ el)) ?_ ?_
    · rintro i y σ H3 hy ⟨s3, b1, b2, ib1, ib2, x5, x6, x7, x8, x9, x10, x11, rfl⟩
      obtain ⟨r, hri, p, rfl, ep⟩ := all2_get ac hy
      have hrm := List.mem_of_getElem? hri
      have hg := G r hrm
      have ep3 := s3 _ _ ep
      have step : ∀ (P : Rc → Nat → Prop) (b b' : Bool), (b = true ↔ ∀ (m : Nat) (r : Rc) e, m < i → rs[m]? = some r → r.v = .str "read" → r.e = some e → P r e) → (b' = true ↔ b = true ∧ ∀ e, r.v = .str "read" → r.e = some e → P r e) → (b' = true ↔ ∀ (m : Nat) (r : Rc) e, m < i + 1 → rs[m]? = some r → r.v = .str "read" → r.e = some e → P r e) := fun P b b' h1 h2 => by
        rw [h2, h1]
        constructor
        · rintro ⟨a1, a2⟩ m r' e hm hr' hv he
          rcases Nat.lt_or_ge m i with z | z
          · exact a1 m r' e z hr' hv he
          · have : m = i := by omega
            subst this
            rw [hri] at hr'
            cases hr'
            exact a2 e hv he
        · intro a
          exact ⟨fun m r' e hm => a m r' e (by omega), fun e hv he => a i r e (Nat.lt_succ_self _) hri hv he⟩
      rw [good_v hg] at ep3
      cases hw : isW r with
      | true =>
        rw [hw] at ep3
        have nv : r.v ≠ .str "read" := fun z => by rw [good_v hg, hw] at z; exact rd_ne_wr z.symm
        refine ⟨p, _, rfl, SqL.of ep3, rfl, _, _, rfl, _, _, rfl, _, _, rfl, _, _, rfl, _, _, rfl, rfl, ?_⟩
        refine ⟨_, rfl, rfl, _, rfl, iteN (by decide +kernel) (iteN (by decide) ?_)⟩
        exact ⟨s3, b1, b2, step _ b1 b1 ib1 ⟨fun z => ⟨z, fun e z => absurd z nv⟩, fun z => z.1⟩, step _ b2 b2 ib2 ⟨fun z => ⟨z, fun e z => absurd z nv⟩, fun z => z.1⟩, _, _, _, _, _, _, _, rfl⟩
      | false =>
        rw [hw] at ep3
        have rv : r.v = .str "read" := by rw [good_v hg, hw]; rfl
        have g : RdG r := hg.resolve_right fun g => by rw [g.w] at hw; cases hw
        cases he : r.e with
        | none =>
          rw [he] at ep3
          refine ⟨p, _, rfl, SqL.of ep3, rfl, _, _, rfl, _, _, rfl, _, _, rfl, _, _, rfl, _, _, rfl, rfl, ?_⟩
          refine ⟨_, rfl, rfl, _, rfl, iteP (by decide +kernel) ⟨_, rfl, rfl, _, rfl, iteN (by decide) ?_⟩⟩
          exact ⟨s3, b1, b2, step _ b1 b1 ib1 ⟨fun z => ⟨z, fun e _ z => by rw [he] at z; cases z⟩, fun z => z.1⟩, step _ b2 b2 ib2 ⟨fun z => ⟨z, fun e _ z => by rw [he] at z; cases z⟩, fun z => z.1⟩, _, _, _, _, _, _, _, rfl⟩
        | some e =>
          have ra := g.2.2 e he
          rw [he, ra] at ep3
          refine ⟨p, _, rfl, SqL.of ep3, rfl, _, _, rfl, _, _, rfl, _, _, rfl, _, _, rfl, _, _, rfl, rfl, ?_⟩
          refine ⟨_, rfl, rfl, _, rfl, iteP (by decide +kernel) ⟨_, rfl, rfl, _, rfl, iteP (by simp [endV]) ?_⟩⟩
          have ev3 := ev.same s3
          refine seq_asg ?_
          refine ⟨_, rfl, _, rfl, te, r.b, wr, es, ys, rs, rfl, ev3, Nat.le_of_lt (ale r hrm), fun x la => ?_⟩
          refine g_name ?_
          refine seq_asg ?_
          refine ⟨_, rfl, _, rfl, _, rfl, te, r.b, e, wr, es, ys, rs, rfl, ev3, S.E r hrm e he, Nat.le_of_lt (ele r hrm e he), ⟨_, _, _, by rw [← rv]; exact S.R.a r hrm⟩, fun lb fs H4 s4 elb lfs bs => ?_⟩
          refine g_name ?_
          obtain ⟨rg, sf⟩ := S.reg_iff hrm rv he la bs
          refine seq_any (fun σ1 H5 => H5 = H4 ∧ ∃ nb : Bool, (nb = true ↔ b1 = true ∧ RegR rs r e) ∧ ∃ x5 x6 x8 x9, σ1 = [some (.ref sc), some (.ref t), some (.ref te), some (.bl nb), some (.bl b2), x5, x6, some (.int (intV r.a)), x8, x9, some (.int x), some (.ref lb), none, none]) ?_ (fun tl => ?_)
          rotate_left
          · refine ⟨_, rfl, b1, rfl, ?_⟩
            cases b1 with
            | false => exact iteN (by decide) (tl _ _ ⟨rfl, false, ⟨(fun z => by cases z), fun z => z.1⟩, _, _, _, _, rfl⟩)
            | true =>
              refine iteP rfl ?_
              refine ⟨_, rfl, _, rfl, rfl, _, rfl, ?_⟩
              by_cases ex : intV r.a = x
              · refine iteP (decide_eq_true (by rw [ex])) ?_
                exact tl _ _ ⟨rfl, true, ⟨fun _ => ⟨rfl, rg.mpr (.inl ex)⟩, fun _ => rfl⟩, _, _, _, _, rfl⟩
              · refine iteN (fun z => ex (by have := of_decide_eq_true z; injection this)) ?_
                refine ⟨_, rfl, _, rfl, lb, _, rfl, .inl (SqL.of elb), rfl, ints_flat _, ?_⟩
                refine tl _ _ ⟨rfl, _, ?_, _, _, _, _, rfl⟩
                show inV _ _ = true ↔ _
                rw [inV_ints, decide_eq_true_iff, rg]
                exact ⟨fun z => ⟨rfl, .inr z⟩, fun z => z.2.resolve_left ex⟩
          rintro σ1 H5 ⟨rfl, nb, inb, y5, y6, y8, y9, rfl⟩
          have i1 := step (RegR rs) b1 nb ib1 (inb.trans ⟨fun z => ⟨z.1, fun e' _ h => by rw [he] at h; cases h; exact z.2⟩, fun z => ⟨z.1, z.2 e rv he⟩⟩)
          refine ⟨_, rfl, b2, rfl, ?_⟩
          have fin : ∀ (n2 : Bool) (H6 : Hp), Same H5 H6 → (n2 = true ↔ b2 = true ∧ SafR rs r e) → Same H2 H6 ∧ (n2 = true ↔ ∀ (m : Nat) (r : Rc) e, m < i + 1 → rs[m]? = some r → r.v = .str "read" → r.e = some e → SafR rs r e) := fun n2 H6 s6 h2 => ⟨(s3.trans s4).trans s6, step _ b2 n2 ib2 (h2.trans ⟨fun z => ⟨z.1, fun e' _ h => by rw [he] at h; cases h; exact z.2⟩, fun z => ⟨z.1, z.2 e rv he⟩⟩)⟩
          cases b2 with
          | false =>
            refine iteN (by decide) ?_
            obtain ⟨f1, f2⟩ := fin false H5 (Same.refl _) ⟨(fun z => by cases z), fun z => z.1⟩
            exact ⟨f1, nb, false, i1, f2, _, _, _, _, _, _, _, rfl⟩
          | true =>
            refine iteP rfl ?_
            refine ⟨_, rfl, _, rfl, rfl, _, rfl, ?_⟩
            by_cases ex : intV r.a = x
            · refine iteP (decide_eq_true (by rw [ex])) ?_
              obtain ⟨f1, f2⟩ := fin true H5 (Same.refl _) ⟨fun _ => ⟨rfl, sf.mpr (.inl ex)⟩, fun _ => rfl⟩
              exact ⟨f1, nb, true, i1, f2, _, _, _, _, _, _, _, rfl⟩
            · refine iteN (fun z => ex (by have := of_decide_eq_true z; injection this)) ?_
              refine ⟨_, rfl, (show (0 : Nat) ≤ sizeLine by decide), fun l6 hl6 => ?_⟩
              have s6 := Same.upd (o := .lst []) hl6
              refine ⟨.list (fs.map PyData.int), .list [], ⟨lb, _, rfl, SqL.of (s6 _ _ elb), ints_pds fs⟩, ⟨l6, [], rfl, SqL.of upd_same, rfl⟩, ints_plain fs, rfl, ints_depth fs, ?_⟩
              have eqn : (!(PyData.list (fs.map PyData.int)).eqv (.list [])) = true ↔ fs ≠ [] := by
                rw [Bool.not_eq_true', ← Bool.not_eq_true, eqv_iff (.list (fs.map PyData.int)) (.list []) (ints_plain fs) rfl]
                constructor
                · intro z e
                  exact z (by rw [e]; rfl)
                · intro z e
                  injection e with e
                  exact z (List.map_eq_nil_iff.mp e)
              obtain ⟨f1, f2⟩ := fin _ _ s6 (eqn.trans ⟨fun z => ⟨rfl, sf.mpr (.inr z)⟩, fun z => (sf.mp z.2).resolve_left ex⟩)
              exact ⟨f1, nb, _, i1, f2, _, _, _, _, _, _, _, rfl⟩
    rintro σ H3 ⟨s3, b1, b2, ib1, ib2, x5, x6, x7, x8, x9, x10, x11, rfl⟩
    have all1 : b1 = true ↔ AllR RegR rs := by
      rw [ib1]
      constructor
      · intro z r hr' e hv he
        obtain ⟨m, hm⟩ := List.mem_iff_getElem?.mp hr'
        exact z m r e (by rw [lz]; exact (List.getElem?_eq_some_iff.mp hm).1) hm hv he
      · intro z m r e _ hm hv he
        exact z r (List.mem_of_getElem? hm) e hv he
    have all2 : b2 = true ↔ AllR SafR rs := by
      rw [ib2]
      constructor
      · intro z r hr' e hv he
        obtain ⟨m, hm⟩ := List.mem_iff_getElem?.mp hr'
        exact z m r e (by rw [lz]; exact (List.getElem?_eq_some_iff.mp hm).1) hm hv he
      · intro z m r e _ hm hv he
        exact z r (List.mem_of_getElem? hm) e hv he
    refine t_nx ?_
    refine ⟨2, rfl, by omega, by omega, ?_⟩
    refine for_range (lo := 0) (n := 2) (fun i σ H' => Same H2 H' ∧ ∃ x12 x13, σ = [some (.ref sc), some (.ref t), some (.ref te), some (.bl b1), some (.bl b2), x5, x6, x7, x8, x9, x10, x11, x12, x13]) ⟨s3, _, _, rfl⟩ ?_ ?_
    · rintro i σ H4 hi ⟨s4, x12, x13, rfl⟩
      refine g_name ?_
      refine seq_asg ?_
      refine ⟨_, rfl, t, nm, wr, es, ys, rfl, ta2.same s4, fun c1 H5 s5 hc1 => ⟨_, rfl, t, nm, wr, es, ys, rfl, ta2.same (s4.trans s5), fun c2 H6 s6 hc2 => ⟨(show (2 : Nat) ≤ sizeLine by decide), fun l7 hl7 => ?_⟩⟩⟩
      rw [hrs] at hc1 hc2
      have e1 : c1 = b1 := Bool.eq_iff_iff.mpr (hc1.trans all1.symm)
      have e2 : c2 = b2 := Bool.eq_iff_iff.mpr (hc2.trans all2.symm)
      subst e1 e2
      refine g_name ?_
      have s7 := Same.upd (o := .lst [V.bl c1, .bl c2]) hl7
      have e7 : upd H6 l7 (.lst [V.bl c1, .bl c2]) l7 = some (.lst [V.bl c1, .bl c2]) := upd_same
      generalize upd H6 l7 (.lst [V.bl c1, .bl c2]) = H7 at s7 e7 ⊢
      have s27 := ((s4.trans s5).trans s6).trans s7
      refine t_or ?_
      refine ⟨_, rfl, _, rfl, _, rfl, (show (2 : Nat) ≤ sizeLine by decide), fun l8 hl8 => ?_⟩
      have s8 := Same.upd (o := .lst [V.bl c1, .bl c2]) hl8
      refine ⟨twoD c1 c2, twoD c1 c2, two_pd (s8 _ _ e7), two_pd upd_same, two_lay _ _, two_lay _ _, two_depth _ _, _, rfl, iteN (by rw [two_eqv]; decide) ?_⟩
      have e78 := s8 _ _ e7
      generalize upd H7 l8 (.lst [V.bl c1, .bl c2]) = H8 at s8 e78 ⊢
      refine t_test ?_
      refine tcompF_L (K := KX w.params) (a := l7) (xs := [V.bl c1, .bl c2]) (H1 := H8) (fun _ => false) (fun i y _ => True) (fun _ _ _ _ _ z => z) (fun R h => ⟨_, rfl, h⟩) (SqL.of e78) (show (2 : Nat) ≤ sizeLine by decide) ?_ ?_
      · intro k hk v H9 s9 hv KT KF h1 h2
        obtain ⟨x, rfl⟩ : ∃ x : Bool, v = .bl x := by
          have := List.mem_of_getElem? hv
          simp only [List.mem_cons, List.not_mem_nil, or_false] at this
          rcases this with rfl | rfl <;> exact ⟨_, rfl⟩
        exact ⟨[some (.bl x)], rfl, rfl, _, rfl, _, _, "bool", rfl, rfl, by decide, _, rfl, iteN (by decide) (h2 rfl _ (Same.refl _))⟩
      intro l9 H9 bs s9 hl9 al9
      have eb : bs = [] := by
        replace al9 : All2 (fun (_ : Nat) (_ : V) => True) [] bs := al9
        cases al9
        rfl
      subst eb
      have s10 := Same.upd (o := .lst []) hl9
      have e10 : upd H9 l9 (.lst []) l9 = some (.lst []) := upd_same
      generalize upd H9 l9 (.lst []) = H10 at s10 e10 ⊢
      refine ⟨(show (0 : Nat) ≤ sizeLine by decide), fun l11 hl11 => ?_⟩
      have s11 := Same.upd (o := .lst []) hl11
      refine ⟨.list [], .list [], ⟨l9, [], rfl, SqL.of (s11 _ _ e10), rfl⟩, ⟨l11, [], rfl, SqL.of upd_same, rfl⟩, rfl, rfl, by decide, _, rfl, iteN (by decide) ?_⟩
      exact ⟨s27.trans (s8.trans (s9.trans (s10.trans s11))), _, _, rfl⟩
    · rintro σ H4 ⟨s4, x12, x13, rfl⟩
      refine t_nx (sq_ret ?_)
      refine ⟨_, rfl, b2, rfl, ?_⟩
      cases hb2 : b2 with
      | true => exact iteP rfl (q _)
      | false =>
        refine iteN (by decide) ⟨_, rfl, b1, rfl, ?_⟩
        have : b1 = false := Bool.eq_false_iff.mpr fun z => by
          have := all2.mpr fun r hr' e hv he => (all1.mp z r hr' e hv he).safe
          rw [hb2] at this
          cases this
        rw [this]
        exact q _
end
end K20
namespace K20
open PySem PySem.Spec PyProof.Rows TJ L2
theorem all_law {P : Program} {w : World} {mg : Str → Option Value} {base : Heap} (T : TX (KX w.params) mg) : FnOk P w (KX w.params) mg base CX0 7 201 fd_law ["script"] (sp_law (KX w.params)) := by
  have c__law_cell_at := cal__law_cell_at (P := P) (w := w) (base := base) T (ok__law_cell_at T )
  have c__law_stream := cal__law_stream (P := P) (w := w) (base := base) T (ok__law_stream T )
  have c__law_take := cal__law_take (P := P) (w := w) (base := base) T (ok__law_take T )
  have c__law_worth := cal__law_worth (P := P) (w := w) (base := base) T (ok__law_worth T c__law_take)
  have c_deeds := cal_deeds (P := P) (w := w) (base := base) T (ok_deeds T )
  have c__law_name := cal__law_name (P := P) (w := w) (base := base) T (ok__law_name T c__law_take)
  have c__law_fresh := cal__law_fresh (P := P) (w := w) (base := base) T (ok__law_fresh T c__law_worth)
  have c__law_answer := cal__law_answer (P := P) (w := w) (base := base) T (ok__law_answer T c__law_take c__law_worth)
  have c__law_events := cal__law_events (P := P) (w := w) (base := base) T (ok__law_events T c__law_take c__law_stream c__law_answer c__law_fresh)
  have c__law_tale := cal__law_tale (P := P) (w := w) (base := base) T (ok__law_tale T c__law_cell_at c__law_stream c__law_name c__law_events)
  have c__law_deeds := cal__law_deeds (P := P) (w := w) (base := base) T (ok__law_deeds T )
  have c_is_whole := cal_is_whole (P := P) (w := w) (base := base) T (ok_is_whole T )
  have c_is_answered := cal_is_answered (P := P) (w := w) (base := base) T (ok_is_answered T c_is_whole)
  have c_are_plain := cal_are_plain (P := P) (w := w) (base := base) T (ok_are_plain T c_is_answered)
  have c_plain_deeds := cal_plain_deeds (P := P) (w := w) (base := base) T (ok_plain_deeds T c_deeds c_are_plain)
  have c_writers := cal_writers (P := P) (w := w) (base := base) T (ok_writers T )
  have c_ended_reads := cal_ended_reads (P := P) (w := w) (base := base) T (ok_ended_reads T )
  have c_lone_writer_deeds := cal_lone_writer_deeds (P := P) (w := w) (base := base) T (ok_lone_writer_deeds T c_plain_deeds)
  have c_writes_beside := cal_writes_beside (P := P) (w := w) (base := base) T (ok_writes_beside T )
  have c_last_ahead := cal_last_ahead (P := P) (w := w) (base := base) T (ok_last_ahead T )
  have c_is_regular := cal_is_regular (P := P) (w := w) (base := base) T (ok_is_regular T c_lone_writer_deeds c_writers c_ended_reads c_writes_beside c_last_ahead)
  have c_is_safe := cal_is_safe (P := P) (w := w) (base := base) T (ok_is_safe T c_lone_writer_deeds c_writers c_ended_reads c_writes_beside c_last_ahead)
  have c__law_last := cal__law_last (P := P) (w := w) (base := base) T (ok__law_last T )
  have c__law_beside := cal__law_beside (P := P) (w := w) (base := base) T (ok__law_beside T )
  exact ok_law T c__law_tale c__law_deeds c__law_last c__law_beside c_is_regular c_is_safe
end K20
open PySem PySem.W PyProof.Rows
set_option maxRecDepth 100000 in
set_option maxHeartbeats 0 in
theorem PySem.Challenge.cw_talejudge_k20_regular_and_safe_holds : PySem.Challenge.rw_talejudge_k20_regular_and_safe.Holds := by
  w_on; o_law
  refine holds_open (q := K20.viewX) (loose := K20.looseX) (Xt := K20.XtX) (XP := XL K20.viewX []) (Yf := Hook.obs K20.HX) (Ya := Hook.val K20.HX) (YP := Hook.says K20.HX) (N := 200000) K20.leftX (Hook.of K20.HX) (Hook.keeps K20.HX) (fun s e => xl_of s (Bool.and_eq_true_iff.mp e).1) XL.keeps (by rfl) (by rfl) (by rfl) (fun s e => recFacts_of (Bool.and_eq_true_iff.mp e).2) (by rfl) (by assumption) (by decide +kernel) ⟨rfl, rfl, rfl, rfl, rfl, by decide +kernel⟩ ?hw ?hc
  case hw => w_witness2
  case hc =>
    refine L2.walk_of (l := PySem.Challenge.rw_talejudge_k20_regular_and_safe) (n := 63) (k := 7) (x := "script") (K := K20.KX) (CX := fun _ => L2.CX0) (sp := fun w => K20.sp_law (K20.KX w.params)) rfl (by decide) rfl ⟨rfl, by decide, by decide⟩ (fun w h Y => PySem.W.kIn_of Y) ?F ?S ?C
    case F =>
      intro w mg fa h KX G hmg
      have T := L2.TX.mk' KX G
      have e0 := hmg.symm.trans (T.of (K20.g_law _))
      cases e0
      exact ⟨K20.fd_law, fun s u => .of_eq rfl, fun base kb nb => K20.all_law T⟩
    case S => exact fun w H a ns hl hO hS => ⟨a, ns, rfl, hS, hl, fun _ => rfl⟩
    case C => exact fun _ _ _ _ _ z => z
