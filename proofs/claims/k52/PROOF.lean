import PyProof.Rows.All
import Wide.All
import OpenK.AllK
import Wide.FinOn
import Lean
import PyProof.EqAt
import PyProof.EqKinds
import PyProof.TupleCall
import Open.Tops
import KE.KIntText
import PyProof.ZipIter
import PyProof.Draws
import KE.KDictSum
import KE.KSortedM
import OpenK.KRaise
import OpenK.KOwn
import PyProof.ExcBaseAll.ValueError
import KE.KTryMore
import PyProof.NsDelKeeps
import KE.KDictOf
import KE.KEqDict
import PySem.Challenge.RW_talejudge_k52_no_strictness
set_option maxRecDepth 100000
set_option maxHeartbeats 0
namespace K52
open_shared pre for PySem.Challenge.pw_talejudge_k52_no_strictness leaving 46
end K52
set_option maxHeartbeats 200000
-- CHANGE: your row's module here, as the last of these rows
set_option Elab.async false
set_option linter.all false
set_option maxRecDepth 100000
namespace L2
open PySem PySem.Spec PyProof.Rows
abbrev Key := Sum Int Str
def keyIs : Key → Value → Bool
  | .inl k, v => Value.isInt k v
  | .inr x, v => Value.isStrOf x v
def keyH (w : World) : Key → Int
  | .inl k => hashInt k
  | .inr x => hashStr w x
theorem keyIs_shape : ∀ {k : Key} {v : Value}, keyIs k v = true → (∃ i t, k = Sum.inl i ∧ v = Value.int i t) ∨ (∃ x t, k = Sum.inr x ∧ v = Value.str x t)
  | .inl i, v, h => by
    obtain ⟨t, e⟩ := Value.isInt_shape (k := i) (v := v) h
    exact .inl ⟨i, t, rfl, e⟩
  | .inr x, v, h => by
    obtain ⟨t, e⟩ := Value.isStrOf_shape (x := x) (v := v) h
    exact .inr ⟨x, t, rfl, e⟩
theorem keyIs_int (i : Int) (t : Tok) : keyIs (.inl i) (.int i t) = true := by simp [keyIs, Value.isInt]
theorem keyIs_str (x : Str) (t : Tok) : keyIs (.inr x) (.str x t) = true := by simp [keyIs, Value.isStrOf]
theorem key_ll (a b : Int) : decide ((Sum.inl a : Key) = Sum.inl b) = (a == b) := by
  by_cases e : a = b
  · subst e; simp
  · have h : ¬ (Sum.inl a : Key) = Sum.inl b := fun q => e (Sum.inl.inj q)
    rw [decide_eq_false h]
    exact (beq_eq_false_iff_ne.mpr e).symm
theorem key_rr (a b : Str) : decide ((Sum.inr a : Key) = Sum.inr b) = decide (a = b) := by
  by_cases e : a = b
  · subst e; simp
  · have h : ¬ (Sum.inr a : Key) = Sum.inr b := fun q => e (Sum.inr.inj q)
    rw [decide_eq_false h, decide_eq_false e]
theorem key_lr (a : Int) (b : Str) : decide ((Sum.inl a : Key) = Sum.inr b) = false := decide_eq_false (fun q => nomatch q)
theorem key_rl (a : Str) (b : Int) : decide ((Sum.inr a : Key) = Sum.inl b) = false := decide_eq_false (fun q => nomatch q)
def mixKind (prog : Program) (w : World) : PySem.KeyKind prog w Key where
  is := keyIs
  hash := keyH w
  inj := fun v a b ha hb => by
    rcases keyIs_shape ha with ⟨i, t, rfl, rfl⟩ | ⟨x, t, rfl, rfl⟩
    · rcases keyIs_shape hb with ⟨j, u, rfl, e⟩ | ⟨y, u, rfl, e⟩
      · injection e with e1 _; rw [e1]
      · exact nomatch e
    · rcases keyIs_shape hb with ⟨j, u, rfl, e⟩ | ⟨y, u, rfl, e⟩
      · exact nomatch e
      · injection e with e1 _; rw [e1]
  byValue := fun k v h => by
    rcases keyIs_shape h with ⟨i, t, rfl, rfl⟩ | ⟨x, t, rfl, rfl⟩ <;> rfl
  pyHash := fun hv h => by
    rcases keyIs_shape hv with ⟨i, t, rfl, rfl⟩ | ⟨x, t, rfl, rfl⟩
    · exact wpAny_pyHash_int h
    · exact wpAny_pyHash_str h
  eqBool := fun hu hv h => by
    rcases keyIs_shape hu with ⟨i, t, rfl, rfl⟩ | ⟨x, t, rfl, rfl⟩
    · rcases keyIs_shape hv with ⟨j, u, rfl, rfl⟩ | ⟨y, u, rfl, rfl⟩
      · rw [key_ll] at h; exact wpAny_eqBool_int h
      · rw [key_lr] at h; exact SeqAt.EqAt.int_str i t y u _ _ _ _ h
    · rcases keyIs_shape hv with ⟨j, u, rfl, rfl⟩ | ⟨y, u, rfl, rfl⟩
      · rw [key_rl] at h; exact SeqAt.EqAt.str_int x t j u _ _ _ _ h
      · rw [key_rr] at h; exact wpAny_eqBool_str h
  «strs» := fun k x t v h => by
    rcases keyIs_shape h with ⟨i, u, rfl, e⟩ | ⟨y, u, rfl, e⟩
    · exact nomatch e
    · injection e with e1 _
      subst e1
      cases v <;> rfl
theorem mixKind_int (prog : Program) (w : World) (i : Int) (t : Tok) : (mixKind prog w).is (.inl i) (.int i t) = true := keyIs_int i t
theorem mixKind_str (prog : Program) (w : World) (x : Str) (t : Tok) : (mixKind prog w).is (.inr x) (.str x t) = true := keyIs_str x t
end L2
namespace L2
open PySem PySem.Spec PyProof.Rows
inductive V where
  | non | bl (b : Bool) | int (i : Int) | str (x : Str) | byt (b : Array UInt8) | flt (b : UInt64) | ref (a : Addr) | ty (n : String)
  deriving DecidableEq
def RelV : V → Value → Prop
  | .non, u => u = Value.none
  | .bl b, u => u = Value.bool b
  | .int i, u => ∃ t, u = Value.int i t
  | .str x, u => ∃ t, u = Value.str x t
  | .byt b, u => ∃ t, u = Value.bytes b t
  | .flt b, u => ∃ t, u = Value.float b t
  | .ref a, u => u = Value.ref a
  | .ty n, u => u = Value.type n
abbrev Vals : List V → List Value → Prop := Paired RelV
theorem Vals.length {xs : List V} {us : List Value} (r : Vals xs us) : xs.length = us.length := Paired.length r
theorem Vals.get : ∀ {xs : List V} {us : List Value} {i : Nat} {x : V}, Vals xs us → xs[i]? = some x → ∃ u, us[i]? = some u ∧ RelV x u
  | _, _, _, _, .nil, e => by simp at e
  | _, _, 0, _, .cons r _, e => by simp at e; subst e; exact ⟨_, rfl, r⟩
  | _, _, i + 1, x, .cons _ t, e => by
    obtain ⟨u, h1, h2⟩ := Vals.get (i := i) (x := x) t (by simpa using e)
    exact ⟨u, by simpa using h1, h2⟩
theorem Vals.set {x : V} {u : Value} (r : RelV x u) : ∀ {xs : List V} {us : List Value} (i : Nat), Vals xs us → Vals (xs.set i x) (us.set i u)
  | _, _, _, .nil => .nil
  | _, _, 0, .cons _ t => .cons r t
  | _, _, i + 1, .cons q t => .cons q (Vals.set r i t)
theorem Vals.append : ∀ {xs ys : List V} {us ws : List Value}, Vals xs us → Vals ys ws → Vals (xs ++ ys) (us ++ ws)
  | _, _, _, _, .nil, s => s
  | _, _, _, _, .cons r t, s => .cons r (Vals.append t s)
theorem Vals.take : ∀ {xs : List V} {us : List Value} (n : Nat), Vals xs us → Vals (xs.take n) (us.take n)
  | _, _, 0, _ => .nil
  | _, _, _ + 1, .nil => .nil
  | _, _, n + 1, .cons r t => .cons r (Vals.take n t)
theorem Vals.drop : ∀ {xs : List V} {us : List Value} (n : Nat), Vals xs us → Vals (xs.drop n) (us.drop n)
  | _, _, 0, r => r
  | _, _, _ + 1, .nil => .nil
  | _, _, n + 1, .cons _ t => Vals.drop n t
def RelO : Option V → Option Value → Prop
  | some v, some u => RelV v u
  | none, none => True
  | _, _ => False
def KV {κ : Type} : List (κ × V) → List (κ × Value) → Prop := Paired fun (p : κ × V) (q : κ × Value) => p.1 = q.1 ∧ RelV p.2 q.2
def kV : Key → V
  | .inl i => .int i
  | .inr x => .str x
inductive HO where
  | lst (xs : List V)
  | tup (xs : List V)
  | dK (kvs : List (Key × V)) | dT (kvs : List (List Key × V))
  | set (S : Int → Bool) (n : Nat)
  | ins (C dx : Addr) (fs : List (Str × V))
  | own (x : Addr)
  | xd (fs : List (Str × V))
  | met (f x : Addr)
  | rng (lo hi : Int)
  | frz (o : Obj) (u : HO)
  | tbl (ps : Array Value)
  | ext (φ : Heap → Prop)
abbrev Hp := Addr → Option HO
def upd (H : Hp) (a : Addr) (o : HO) : Hp := fun b => if b = a then some o else H b
theorem upd_same {H : Hp} {a : Addr} {o : HO} : upd H a o a = some o := by unfold upd; rw [if_pos rfl]
theorem upd_ne {H : Hp} {a b : Addr} {o : HO} (h : b ≠ a) : upd H a o b = H b := by unfold upd; rw [if_neg h]
theorem ne_of {H : Hp} {a b : Addr} {o u : HO} (h : H a = some o) (h' : H b = some u) (d : o ≠ u) : a ≠ b := by
  intro e; subst e; rw [h] at h'; exact d (Option.some.inj h')
theorem ne_of_none {H : Hp} {a b : Addr} {o : HO} (h : H a = some o) (h' : H b = none) : a ≠ b := by
  intro e; subst e; rw [h] at h'; cases h'
section
variable (P : Program) (w : World)
def IsTupN (h : Heap) (a : Addr) (items : Array Value) : Prop := IsTup h a items ∧ ∃ o, h.get? a = some o ∧ o.dict = none
theorem IsTupN.new (h : Heap) (items : Array Value) : IsTupN (h.push { cls := .type "tuple", data := .seq items }) h.objs.size items := ⟨IsTup.new _ _, _, Heap.get?_push_size _ rfl, rfl⟩
def ObjOk (H : Hp) (h : Heap) (a : Addr) : HO → Prop
  | .lst xs => xs.length ≤ sizeLine ∧ ∃ (its : List Value) (n : Nat), Vals xs its ∧ h.get? a = some { cls := .type "list", data := .seq its.toArray n }
  | .tup xs => xs.length ≤ sizeLine ∧ ∃ its : List Value, Vals xs its ∧ IsTupN h a its.toArray
  | .dK kvs => kvs.length ≤ sizeLine ∧ (a == sysModules) = false ∧ ∃ vs, KV kvs vs ∧ h.DictOf (mixKind P w) a vs
  | .dT kvs => kvs.length ≤ sizeLine ∧ (a == sysModules) = false ∧ ∃ xs : List (List Key × Addr × Value),
      Paired (fun (p : List Key × V) (q : List Key × Addr × Value) => p.1 = q.1 ∧ H q.2.1 = some (.tup (p.1.map kV)) ∧ RelV p.2 q.2.2) kvs xs ∧
      ∃ o es ep, h.get? a = some o ∧ o.ExactDict ∧ o.data = .dict es ep ∧ es.toList = xs.map (entryOfKey (tupleKind (mixKind P w))) ∧ (xs.map (·.1)).Nodup
  | .set S n => h.SetOf (intKind P w) a S n
  | .ins C dx fs => H dx = some (.own a) ∧ fs.length ≤ 1000 ∧ dx ≠ a ∧ h.get? a = some (PySem.W.instObj C dx) ∧
      ∃ mA, h.Ns1 dx mA ∧ (∀ f, RelO (fs.lookup f) (mA f)) ∧ PySem.Within mA (fs.map (·.1))
  | .own _ => ∃ o, h.get? a = some o
  | .xd fs => ∃ mA, h.Ns1 a mA ∧ ∀ f, RelO (fs.lookup f) (mA f)
  | .rng lo hi => ∃ t u v, h.get? a = some { cls := .type "range", data := .fields #[.int lo t, .int hi u, .int 1 v] }
  | .frz o u => h.get? a = some o ∧ ObjOk H h a u
  | .tbl ps => h.get? a = some { cls := .none, data := .fields ps }
  | .met f x => h.get? a = some (PySem.W.methodObj (.ref f) (.ref x))
  | .ext φ => φ h ∧ (∃ o, h.get? a = some o) ∧ ∀ h1 h2 : Heap, φ h1 → (∀ o, h1.get? a = some o → h2.get? a = some o) → φ h2
def HOk (H : Hp) (h : Heap) : Prop := ∀ a o, H a = some o → ObjOk P w H h a o
end
section
variable {P : Program} {w : World} {H H' : Hp} {h h' : Heap} {a : Addr} {o : HO}
theorem ObjOk.lt (x : ObjOk P w H h a o) : a < h.objs.size := by
  cases o with
  | lst xs => obtain ⟨_, _, _, _, e⟩ := x; exact Heap.lt_size e
  | tup xs => obtain ⟨_, _, _, p⟩ := x; exact p.1.lt
  | dK kvs => obtain ⟨_, _, _, _, o, _, _, e, _⟩ := x; exact Heap.lt_size e
  | dT kvs => obtain ⟨_, _, _, _, o, _, _, e, _⟩ := x; exact Heap.lt_size e
  | set S n => obtain ⟨o, _, _, _, e, _⟩ := x; exact Heap.lt_size e
  | ins C dx fs => obtain ⟨_, _, _, e, _⟩ := x; exact Heap.lt_size e
  | own y => obtain ⟨_, e⟩ := x; exact Heap.lt_size e
  | xd fs => obtain ⟨_, ⟨_, _, _, e, _⟩, _⟩ := x; exact Heap.lt_size e
  | rng lo hi => obtain ⟨_, _, _, e⟩ := x; exact Heap.lt_size e
  | frz ob u => obtain ⟨e, _⟩ := x; exact Heap.lt_size e
  | tbl ps => exact Heap.lt_size (show h.get? a = some _ from x)
  | met f y => exact Heap.lt_size (show h.get? a = some _ from x)
  | ext φ => obtain ⟨_, ⟨_, e⟩, _⟩ := x; exact Heap.lt_size e
theorem Paired.mapP {α β : Type} {F G : α → β → Prop} : ∀ {l₁ : List α} {l₂ : List β}, Paired F l₁ l₂ → (∀ a b, F a b → G a b) → Paired G l₁ l₂
  | _, _, .nil, _ => .nil
  | _, _, .cons r t, f => .cons (f _ _ r) (Paired.mapP t f)
theorem ObjOk.stay (x : ObjOk P w H h a o) (k : ∀ b u, (b = a ∨ H b = some (.own a)) → h.get? b = some u → h'.get? b = some u)
    (ho : ∀ b, H b = some (.own a) → H' b = some (.own a)) (ht : ∀ b xs, H b = some (.tup xs) → H' b = some (.tup xs)) : ObjOk P w H' h' a o := by
  induction o with
  | lst xs => obtain ⟨z, its, n, r, e⟩ := x; exact ⟨z, its, n, r, k _ _ (.inl rfl) e⟩
  | tup xs => obtain ⟨z, its, r, ⟨ob, e, c⟩, o2, e2, d2⟩ := x; exact ⟨z, its, r, ⟨ob, k _ _ (.inl rfl) e, c⟩, o2, k _ _ (.inl rfl) e2, d2⟩
  | dK kvs => obtain ⟨z, y, vs, r, ob, es, ep, e, c⟩ := x; exact ⟨z, y, vs, r, ob, es, ep, k _ _ (.inl rfl) e, c⟩
  | dT kvs =>
    obtain ⟨z, y, xs, r, ob, es, ep, e, c⟩ := x
    exact ⟨z, y, xs, Paired.mapP r fun p q z => ⟨z.1, ht _ _ z.2.1, z.2.2⟩, ob, es, ep, k _ _ (.inl rfl) e, c⟩
  | set S n => obtain ⟨ob, es, ep, t, e, c⟩ := x; exact ⟨ob, es, ep, t, k _ _ (.inl rfl) e, c⟩
  | ins C dx fs =>
    obtain ⟨d, z, ne, e, mA, ⟨od, es, ep, e2, c⟩, r⟩ := x
    exact ⟨ho _ d, z, ne, k _ _ (.inl rfl) e, mA, ⟨od, es, ep, k _ _ (.inr d) e2, c⟩, r⟩
  | own y => obtain ⟨ob, e⟩ := x; exact ⟨ob, k _ _ (.inl rfl) e⟩
  | xd fs => obtain ⟨mA, ⟨od, es, ep, e, c⟩, r⟩ := x; exact ⟨mA, ⟨od, es, ep, k _ _ (.inl rfl) e, c⟩, r⟩
  | rng lo hi => obtain ⟨t, u, v, e⟩ := x; exact ⟨t, u, v, k _ _ (.inl rfl) e⟩
  | frz ob u ih => obtain ⟨e, q⟩ := x; exact ⟨k _ _ (.inl rfl) e, ih q⟩
  | tbl ps =>
    have e : h.get? a = some { cls := .none, data := .fields ps } := x
    show h'.get? a = some { cls := .none, data := .fields ps }
    exact k a _ (.inl rfl) e
  | met f y =>
    have e : h.get? a = some (PySem.W.methodObj (.ref f) (.ref y)) := x
    show h'.get? a = some (PySem.W.methodObj (.ref f) (.ref y))
    exact k a _ (.inl rfl) e
  | ext φ => obtain ⟨p, ⟨o, e⟩, st⟩ := x; exact ⟨st _ _ p fun o q => k _ _ (.inl rfl) q, ⟨o, k _ _ (.inl rfl) e⟩, st⟩
theorem HOk.lt (x : HOk P w H h) (e : H a = some o) : a < h.objs.size := (x a o e).lt
theorem HOk.fresh (x : HOk P w H h) (e : h.objs.size ≤ a) : H a = none := by
  cases q : H a with
  | none => rfl
  | some u => exact absurd (Nat.lt_of_lt_of_le (x.lt q) e) (Nat.lt_irrefl _)
theorem HOk.kept (x : HOk P w H h) (k : ∀ b u, h.get? b = some u → h'.get? b = some u) : HOk P w H h' := fun a o e =>
  (x a o e).stay (fun b u _ q => k b u q) (fun _ q => q) fun _ _ q => q
theorem HOk.laid (x : HOk P w H h) (k : ∀ b u, h.get? b = some u → h'.get? b = some u) (hp : h.objs.size ≤ a) (new : ObjOk P w (upd H a o) h' a o) : HOk P w (upd H a o) h' := fun b u e => by
  have hn := x.fresh hp
  by_cases hb : b = a
  · subst hb; rw [upd_same] at e; cases e; exact new
  · rw [upd_ne hb] at e
    exact (x b u e).stay (fun c v _ q => k c v q) (fun c q => by rw [upd_ne (ne_of_none q hn)]; exact q) fun c xs q => by rw [upd_ne (ne_of_none q hn)]; exact q
end
def Rd (H : Hp) (a : Addr) (u : HO) : Prop := H a = some u ∨ ∃ o, H a = some (.frz o u)
theorem Rd.ok {P : Program} {w : World} {H : Hp} {h : Heap} {a : Addr} {u : HO} (r : Rd H a u) (x : HOk P w H h) : ObjOk P w H h a u := by
  rcases r with r | ⟨o, r⟩
  · exact x a u r
  · obtain ⟨_, q⟩ := x a _ r
    exact q
def Mut : Option HO → Prop
  | some (.lst _) => True
  | some (.dK _) => True
  | some (.dT _) => True
  | some (.set _ _) => True
  | some (.ins _ _ _) => True
  | some (.ext _) => True
  | _ => False
section
variable {P : Program} {w : World} {H : Hp} {h h' : Heap} {x e : Addr} {o' : HO}
theorem HOk.write (ok : HOk P w H h) (mu : Mut (H x)) (he : e = x ∨ H e = some (.own x)) (k : ∀ b u, b ≠ e → h.get? b = some u → h'.get? b = some u) (heo : ∃ u, h'.get? e = some u)
    (new : ObjOk P w (upd H x o') h' x o') : HOk P w (upd H x o') h' := fun b u q => by
  have nown : ∀ c y, H c = some (.own y) → c ≠ x := fun c y r z => by subst z; rw [r] at mu; exact mu
  have ntup : ∀ c xs, H c = some (.tup xs) → c ≠ x := fun c xs r z => by subst z; rw [r] at mu; exact mu
  by_cases hb : b = x
  · subst hb; rw [upd_same] at q; cases q; exact new
  · rw [upd_ne hb] at q
    by_cases hbe : b = e
    · have q' : H b = some (.own x) := by
        rcases he with z | z
        · exact absurd (hbe.trans z) hb
        · rw [hbe]; exact z
      rw [q] at q'; cases q'
      obtain ⟨v, hv⟩ := heo
      exact ⟨v, by rw [hbe]; exact hv⟩
    · refine (ok b u q).stay (fun c v hc r => k c v ?_ r) (fun c r => by rw [upd_ne (nown c b r)]; exact r) fun c xs r => by rw [upd_ne (ntup c xs r)]; exact r
      rcases hc with rfl | hc
      · exact hbe
      · rintro rfl
        rcases he with z | z
        · exact nown c b hc z
        · rw [hc] at z; cases z; exact hb rfl
end
structure Un (fs ex : List Addr) (H H' : Hp) (h h' : Heap) : Prop where
  keep : ∀ b o, h.get? b = some o → H b = none → b ∉ fs → b ∉ ex → h'.get? b = some o
  slot : ∀ b o, h.get? b = some o → H b = none → b ∈ fs → b ∉ ex → ∃ sl, h'.get? b = some { o with slots := sl }
  free : ∀ b o, h.get? b = some o → H b = none → b ∉ ex → H' b = none
  there : ∀ b o, h.get? b = some o → b ∉ ex → ∃ o', h'.get? b = some o'
  tups : ∀ b xs, H b = some (.tup xs) → H' b = some (.tup xs)
  frzs : ∀ b o u, H b = some (.frz o u) → H' b = some (.frz o u)
  tbls : ∀ b ps, H b = some (.tbl ps) → ∃ more, H' b = some (.tbl (ps ++ more))
section
variable {fs fs' ex ex' : List Addr} {H H1 H2 : Hp} {h h1 h2 h' : Heap} {a x e : Addr} {o : HO}
theorem Un.any (u : Un fs ex H H1 h h1) {b : Addr} {ob : Obj} (q : h.get? b = some ob) (n : H b = none) (hx : b ∉ ex) : ∃ sl, h1.get? b = some { ob with slots := sl } := by
  by_cases hb : b ∈ fs
  · exact u.slot b ob q n hb hx
  · exact ⟨ob.slots, u.keep b ob q n hb hx⟩
theorem Un.kept (k : ∀ b u, h.get? b = some u → h'.get? b = some u) : Un fs ex H H h h' :=
  ⟨fun b ob q _ _ _ => k b ob q, fun b ob q _ _ _ => ⟨ob.slots, k b ob q⟩, fun _ _ _ n _ => n, fun b ob q _ => ⟨ob, k b ob q⟩, fun _ _ q => q, fun _ _ _ q => q, fun _ ps q => ⟨#[], by rw [q]; simp⟩⟩
theorem Un.refl : Un fs ex H H h h := Un.kept fun _ _ q => q
theorem Un.laid (k : ∀ b u, h.get? b = some u → h'.get? b = some u) (hp : h.objs.size ≤ a) (hn : H a = none) : Un fs ex H (upd H a o) h h' where
  keep := fun b u q _ _ _ => k b u q
  slot := fun b u q _ _ _ => ⟨u.slots, k b u q⟩
  free := fun b u q n _ => by rw [upd_ne (Nat.ne_of_lt (Nat.lt_of_lt_of_le (Heap.lt_size q) hp))]; exact n
  there := fun b u q _ => ⟨u, k b u q⟩
  tups := fun b xs q => by rw [upd_ne (ne_of_none q hn)]; exact q
  frzs := fun b u xs q => by rw [upd_ne (ne_of_none q hn)]; exact q
  tbls := fun b ps q => ⟨#[], by rw [upd_ne (ne_of_none q hn), q]; simp⟩
theorem Un.write (mu : Mut (H x)) (he : e = x ∨ H e = some (.own x)) (k : ∀ b u, b ≠ e → h.get? b = some u → h'.get? b = some u) (heo : ∃ u, h'.get? e = some u) : Un fs ex H (upd H x o) h h' := by
  have hx : ∀ b, H b = none → b ≠ x := fun b n z => by subst z; rw [n] at mu; exact mu
  have hb : ∀ b, H b = none → b ≠ e := fun b n z => by
    subst z
    rcases he with r | r
    · exact hx b n r
    · rw [n] at r; cases r
  have hm : ∀ b u, H b = some u → ¬ Mut (some u) → b ≠ x := fun b u q nm z => by subst z; rw [q] at mu; exact nm mu
  refine ⟨fun b u q n _ _ => k b u (hb b n) q, fun b u q n _ _ => ⟨u.slots, k b u (hb b n) q⟩, fun b u q n _ => by rw [upd_ne (hx b n)]; exact n, fun b u q _ => ?_,
    fun b xs q => by rw [upd_ne (hm b _ q fun z => z)]; exact q, fun b u xs q => by rw [upd_ne (hm b _ q fun z => z)]; exact q, fun b ps q => ⟨#[], by rw [upd_ne (hm b _ q fun z => z), q]; simp⟩⟩
  by_cases hbe : b = e
  · subst hbe; exact heo
  · exact ⟨u, k b u hbe q⟩
end
def trk (h : Heap) (H : Hp) : List Addr := (List.range h.objs.size).filter fun a => (H a).isSome
def hidT (h : Heap) (H : Hp) : Heap := PySem.W.hideAll h (trk h H)
theorem hidT_size (h : Heap) (H : Hp) : (hidT h H).objs.size = h.objs.size := PySem.W.hideAll_size _ _
theorem hidT_get {h : Heap} {H : Hp} {b : Addr} {o : Obj} (e : h.get? b = some o) (n : H b = none) : (hidT h H).get? b = some o :=
  PySem.W.hideAll_get _ e fun hm => by
    have q : (H b).isSome = true := (List.mem_filter.mp hm).2
    rw [n] at q; simp at q
theorem of_hidT {h : Heap} {H : Hp} {b : Addr} {o : Obj} (e : (hidT h H).get? b = some o) : h.get? b = some o ∧ H b = none := by
  have e' : h.get? b = some o := PySem.W.of_hideAll (trk h H) e
  refine ⟨e', ?_⟩
  cases q : H b with
  | none => rfl
  | some x =>
    have hm : b ∈ trk h H := List.mem_filter.mpr ⟨List.mem_range.mpr (Heap.lt_size e'), by simp [q]⟩
    have z : (hidT h H).get? b = none := PySem.W.hideAll_none (trk h H) hm
    rw [z] at e; cases e
def allNews (g h : Heap) (L : Addr) : List (Addr × Obj) := (List.range h.objs.size).filterMap fun a => if a = L ∨ (g.get? a).isSome = true then none else (h.get? a).map fun o => (a, o)
def rest (g h : Heap) (L d : Addr) : List (Addr × Obj) := (allNews g h L).filter fun p => decide (p.1 ≠ d)
end L2
namespace L2
open PySem PySem.Spec PyProof.Rows
structure Mod (K : PySem.W.Frag) (mg : Str → Option Value) (base : Heap) : Prop where
  kin : K.In base
  glob : base.Ns mainGlobals mg
  blt : ∃ mb, base.Ns builtinsNs mb ∧ ∀ x : Str, x ≠ "__name__" → mb x = bootBuiltins x
  nolimit : base.NoLimit
structure Cx where
  prog : Program
  w : World
  K : PySem.W.Frag
  mg : Str → Option Value
  base : Heap
  A : Around
  N : List Str
  s₀ : Shared
  H₀ : Hp
  env : Env
  outer : List Env
  stack : List Env
  ex : List Addr
  fn : Str → Bool
  calm : Bool
  pn : List (Addr × Obj)
  xe : Value → Shared → Prop
def frs (l : List Env) : List Addr := l.filterMap (·.frame)
abbrev Cx.fs (X : Cx) : List Addr := frs X.outer
def Vis (sc : Scope) (x : Str) : Prop := sc.names.lookup x = some .local ∨ sc.names.lookup x = some .cell ∨ sc.names.lookup x = some .free
def Loc (sc : Scope) (x : Str) : Prop := sc.names.lookup x = some .local ∨ sc.names.lookup x = some .cell
def Look (env : Env) (h : Heap) (m : Str → Option Value) (x : Str) (u : Value) : Prop :=
  (env.kindOf x = some .local ∧ m x = some u) ∨ ((env.kindOf x = some .cell ∨ env.kindOf x = some .free) ∧ ∃ c, env.cells.lookup x = some c ∧ h.IsCell c (some u))
structure Cx.Ok (X : Cx) : Prop where
  mod : Mod X.K X.mg X.base
  kind : X.env.scope.kind = .function
  glob : X.env.globals = mainGlobals
  blt : X.env.builtins = builtinsNs
  above : X.s₀.heap.objs.size ≤ X.env.locals
  inj : ∀ x y c, X.env.cells.lookup x = some c → X.env.cells.lookup y = some c → x = y
  has : ∀ x, (X.env.kindOf x = some .cell ∨ X.env.kindOf x = some .free) → ∃ c, X.env.cells.lookup x = some c
  cab : ∀ x c, X.fn x = true → X.env.cells.lookup x = some c → X.s₀.heap.objs.size ≤ c
  hd : X.calm = true → X.A.handled = none
  frames : X.A.frames = some X.stack
  stk : X.stack = X.outer ∨ (X.stack = X.env :: X.outer ∧ X.env.frame = some X.env.locals)
  exf : ∀ b ∈ X.ex, b ≠ X.env.locals ∧ ∀ x c, X.env.cells.lookup x = some c → c ≠ b
  bs : ∀ b o, X.base.get? b = some o → X.s₀.heap.get? b = some o ∧ X.H₀ b = none
  bsz : X.base.objs.size ≤ X.s₀.heap.objs.size
  noex : ∀ b o, X.base.get? b = some o → b ∉ X.ex
  exfs : ∀ b ∈ X.ex, b ∉ X.fs
  funs : X.s₀.heap.FunFrames X.base X.outer
  frf : ∀ b ∈ X.fs, X.H₀ b = none
structure Inv (X : Cx) (pins : List (Addr × Obj)) (σ : List (Option V)) (H : Hp) (s : Shared) : Prop where
  ok : X.Ok
  os : s.os = X.s₀.os
  bare : AllBare s.gens
  base : Un X.fs X.ex X.H₀ H X.s₀.heap s.heap
  loc : ∃ m, s.heap.Ns X.env.locals m ∧ ∀ (i : Nat) (x : Str) (v : V), X.N[i]? = some x → σ[i]? = some (some v) → Vis X.env.scope x → ∃ u, RelV v u ∧ Look X.env s.heap m x u
  cell : ∀ x c, X.env.cells.lookup x = some c → ∃ v, s.heap.IsCell c v
  free : H X.env.locals = none
  freeC : ∀ x c, X.env.cells.lookup x = some c → H c = none
  pin : ∀ p ∈ X.pn ++ pins, s.heap.get? p.1 = some p.2 ∧ H p.1 = none ∧ p.1 ≠ X.env.locals ∧ p.1 ∉ X.fs ∧ ∀ v, p.2.data ≠ .cell v
  hok : HOk X.prog X.w H s.heap
  len : σ.length = X.N.length
section
variable {X : Cx} {pins : List (Addr × Obj)} {σ : List (Option V)} {H H' : Hp} {s : Shared} {h' : Heap}
theorem Cx.Ok.nofr (ok : X.Ok) {b : Addr} {o : Obj} (e : X.base.get? b = some o) : b ∉ X.fs := fun hb => by
  have := (ok.funs.mem hb).1
  rw [e] at this; cases this
theorem Inv.bs (I : Inv X pins σ H s) : ∀ b o, X.base.get? b = some o → s.heap.get? b = some o ∧ H b = none := fun b o e =>
  ⟨I.base.keep b o (I.ok.bs b o e).1 (I.ok.bs b o e).2 (I.ok.nofr e) (I.ok.noex b o e), I.base.free b o (I.ok.bs b o e).1 (I.ok.bs b o e).2 (I.ok.noex b o e)⟩
theorem Inv.bk (I : Inv X pins σ H s) : ∀ b o, X.base.get? b = some o → s.heap.get? b = some o := fun b o e => (I.bs b o e).1
theorem Inv.mod (I : Inv X pins σ H s) : Mod X.K X.mg X.base := I.ok.mod
theorem Inv.kIn (I : Inv X pins σ H s) : X.K.In s.heap := I.ok.mod.kin.keeps I.bk
theorem Inv.lt (I : Inv X pins σ H s) : X.env.locals < s.heap.objs.size := let ⟨_, hn, _⟩ := I.loc; hn.lt
theorem Inv.sz (I : Inv X pins σ H s) : X.s₀.heap.objs.size ≤ s.heap.objs.size := Nat.le_trans I.ok.above (Nat.le_of_lt I.lt)
theorem Inv.nofs (I : Inv X pins σ H s) {a : Addr} (h : s.heap.objs.size ≤ a) : a ∉ X.fs := fun hb => by
  obtain ⟨_, o, ho, _⟩ := I.ok.funs.mem hb
  exact absurd (Nat.lt_of_lt_of_le (Heap.lt_size ho) (Nat.le_trans I.sz h)) (Nat.lt_irrefl _)
theorem Inv.cne (I : Inv X pins σ H s) : ∀ x c, X.env.cells.lookup x = some c → c ≠ X.env.locals := fun x c e z => by
  obtain ⟨v, o, ho, hd⟩ := I.cell x c e
  obtain ⟨m, ⟨o', es, ep, ho', hd', _⟩, _⟩ := I.loc
  rw [z, ho'] at ho; cases ho; rw [hd'] at hd; cases hd
theorem Inv.funs (I : Inv X pins σ H s) : s.heap.FunFrames X.base X.outer := by
  have all : ∀ (l : List Env), (∀ b ∈ frs l, b ∈ X.fs) → X.s₀.heap.FunFrames X.base l → s.heap.FunFrames X.base l := by
    intro l
    induction l with
    | nil => intro _ _; trivial
    | cons env r ih =>
      intro hs hl
      obtain ⟨hk, ⟨L, o, hf, hn, ho, hd⟩, hr⟩ := hl
      have hL : L ∈ X.fs := hs L (by unfold frs; rw [List.filterMap_cons, hf]; exact List.mem_cons_self)
      obtain ⟨sl, e⟩ := I.base.slot L o ho (I.ok.frf L hL) hL fun z => I.ok.exfs L z hL
      exact ⟨hk, ⟨L, _, hf, hn, e, hd⟩, ih (fun b hb => hs b (by unfold frs; rw [List.filterMap_cons, hf]; exact List.mem_cons_of_mem _ hb)) hr⟩
  exact all X.outer (fun _ hb => hb) I.ok.funs
theorem Inv.stack (I : Inv X pins σ H s) : s.heap.FunFrames X.base X.stack := by
  rcases I.ok.stk with e | ⟨e, hf⟩
  · rw [e]; exact I.funs
  · rw [e]
    obtain ⟨m, hn, _⟩ := I.loc
    refine .cons (by rw [I.ok.kind]; decide) hf hn ?_ I.funs
    exact Heap.get?_none_of_le (Nat.le_trans I.ok.bsz I.ok.above)
theorem Inv.stkSub (I : Inv X pins σ H s) : ∀ b ∈ frs X.stack, b ∈ X.env.locals :: X.fs := fun b hb => by
  rcases I.ok.stk with e | ⟨e, hf⟩
  · rw [e] at hb; exact List.mem_cons_of_mem _ hb
  · rw [e] at hb
    unfold frs at hb
    rw [List.filterMap_cons, hf] at hb
    exact hb
theorem Inv.stkFree (I : Inv X pins σ H s) : ∀ b ∈ frs X.stack, H b = none := fun b hb => by
  rcases List.mem_cons.mp (I.stkSub b hb) with e | hb
  · rw [e]; exact I.free
  · obtain ⟨_, o, ho, _⟩ := I.ok.funs.mem hb
    exact I.base.free b o ho (I.ok.frf b hb) fun z => I.ok.exfs b z hb
theorem Inv.step {g' : Array GenState} {t' : Nat} {d' : Drawn} {ch : List Addr} (I : Inv X pins σ H s)
    (hch : ∀ b ∈ ch, (b ∈ X.ex ∨ X.s₀.heap.objs.size ≤ b) ∧ b ≠ X.env.locals ∧ (∀ x c, X.env.cells.lookup x = some c → c ≠ b) ∧ ∀ p ∈ X.pn ++ pins, p.1 ≠ b)
    (keep : ∀ b o, b ≠ X.env.locals → b ∉ X.fs → b ∉ ch → s.heap.get? b = some o → H b = none → h'.get? b = some o)
    (slot : ∀ b o, b ≠ X.env.locals → b ∈ X.fs → b ∉ ch → s.heap.get? b = some o → H b = none → ∃ sl, h'.get? b = some { o with slots := sl }) (free : ∀ b o, b ∉ ch → s.heap.get? b = some o → H b = none → H' b = none)
    (there : ∀ b o, b ∉ ch → s.heap.get? b = some o → ∃ o', h'.get? b = some o')
    (tups : ∀ b xs, H b = some (.tup xs) → H' b = some (.tup xs)) (frzs : ∀ b o u, H b = some (.frz o u) → H' b = some (.frz o u)) (tbls : ∀ b ps, H b = some (.tbl ps) → ∃ more, H' b = some (.tbl (ps ++ more)))
    (ns : ∀ m, s.heap.Ns X.env.locals m → h'.Ns X.env.locals m) (hok : HOk X.prog X.w H' h') (hg : AllBare g') :
    Inv X pins σ H' { s with heap := h', gens := g', drawn := d', toks := t' } := by
  have neL : ∀ b o, X.s₀.heap.get? b = some o → b ≠ X.env.locals := fun b o e => Nat.ne_of_lt (Nat.lt_of_lt_of_le (Heap.lt_size e) I.ok.above)
  have neC : ∀ b o, X.s₀.heap.get? b = some o → b ∉ X.ex → b ∉ ch := fun b o e hx hb => by
    rcases (hch b hb).1 with z | z
    · exact hx z
    · exact absurd (Nat.lt_of_lt_of_le (Heap.lt_size e) z) (Nat.lt_irrefl _)
  have cellK : ∀ x c, X.env.cells.lookup x = some c → ∀ v, s.heap.IsCell c v → h'.IsCell c v := fun x c e v ⟨o, ho, hd⟩ => by
    have nch : c ∉ ch := fun z => (hch c z).2.2.1 x c e rfl
    by_cases hc : c ∈ X.fs
    · obtain ⟨sl, q⟩ := slot c o (I.cne x c e) hc nch ho (I.freeC x c e)
      exact ⟨_, q, hd⟩
    · exact ⟨o, keep c o (I.cne x c e) hc nch ho (I.freeC x c e), hd⟩
  refine ⟨I.ok, I.os, hg, ⟨fun b o e n hb hx => ?_, fun b o e n hb hx => ?_, fun b o e n hx => ?_, fun b o e hx => ?_, fun b xs e => tups b xs (I.base.tups b xs e), fun b o xs e => frzs b o xs (I.base.frzs b o xs e), fun b ps e => ?_⟩, ?_, fun x c e => ?_, ?_, fun x c e => ?_, fun p hp => ?_, hok, I.len⟩
  · exact keep b o (neL b o e) hb (neC b o e hx) (I.base.keep b o e n hb hx) (I.base.free b o e n hx)
  · obtain ⟨sl, e1⟩ := I.base.slot b o e n hb hx
    obtain ⟨sl', e2⟩ := slot b _ (neL b o e) hb (neC b o e hx) e1 (I.base.free b o e n hx)
    exact ⟨sl', e2⟩
  · obtain ⟨o', e1⟩ := I.base.there b o e hx
    exact free b o' (neC b o e hx) e1 (I.base.free b o e n hx)
  · obtain ⟨o', e1⟩ := I.base.there b o e hx
    exact there b o' (neC b o e hx) e1
  · obtain ⟨m1, e1⟩ := I.base.tbls b ps e
    obtain ⟨m2, e2⟩ := tbls b _ e1
    exact ⟨m1 ++ m2, by rw [e2, Array.append_assoc]⟩
  · obtain ⟨m, hn, hl⟩ := I.loc
    refine ⟨m, ns m hn, fun i x v e1 e2 e3 => ?_⟩
    obtain ⟨u, r, l⟩ := hl i x v e1 e2 e3
    refine ⟨u, r, ?_⟩
    rcases l with l | ⟨k, c, e, z⟩
    · exact .inl l
    · exact .inr ⟨k, c, e, cellK x c e _ z⟩
  · obtain ⟨v, z⟩ := I.cell x c e
    exact ⟨v, cellK x c e v z⟩
  · obtain ⟨m, ⟨o, _, _, ho, _⟩, _⟩ := I.loc
    exact free _ o (fun z => (hch _ z).2.1 rfl) ho I.free
  · obtain ⟨v, o, ho, hd⟩ := I.cell x c e
    exact free c o (fun z => (hch c z).2.2.1 x c e rfl) ho (I.freeC x c e)
  · obtain ⟨e, n, ne, nf, d⟩ := I.pin p hp
    have nch : p.1 ∉ ch := fun z => (hch p.1 z).2.2.2 p hp rfl
    exact ⟨keep p.1 p.2 ne nf nch e n, free p.1 p.2 nch e n, ne, nf, d⟩
theorem Inv.un {t' : Nat} (I : Inv X pins σ H s) (u : Un X.fs [] H H' s.heap h') (hok : HOk X.prog X.w H' h') : Inv X pins σ H' { s with heap := h', toks := t' } := by
  obtain ⟨m, ⟨o, es, ep, ho, r⟩, _⟩ := id I.loc
  obtain ⟨sl, hL⟩ := u.any ho I.free (by simp)
  exact I.step (g' := s.gens) (d' := s.drawn) (ch := []) (fun _ z => nomatch z) (fun b o _ hb _ e n => u.keep b o e n hb (by simp)) (fun b o _ hb _ e n => u.slot b o e n hb (by simp)) (fun b o _ e n => u.free b o e n (by simp)) (fun b o _ e => u.there b o e (by simp)) u.tups u.frzs u.tbls (fun m' hm => by
    obtain ⟨o', es', ep', ho', r'⟩ := hm
    rw [ho] at ho'; cases ho'
    exact ⟨_, es', ep', hL, r'⟩) hok I.bare
theorem Inv.call {g' : Array GenState} {t' : Nat} {d' : Drawn} {ch : List Addr} (I : Inv X pins σ H s) (u : Un (frs X.stack) ch H H' s.heap h') (hok : HOk X.prog X.w H' h') (hg : AllBare g')
    (hch : ∀ b ∈ ch, (b ∈ X.ex ∨ X.s₀.heap.objs.size ≤ b) ∧ b ≠ X.env.locals ∧ (∀ x c, X.env.cells.lookup x = some c → c ≠ b) ∧ ∀ p ∈ X.pn ++ pins, p.1 ≠ b) :
    Inv X pins σ H' { s with heap := h', gens := g', drawn := d', toks := t' } := by
  obtain ⟨m, ⟨o, es, ep, ho, r⟩, _⟩ := id I.loc
  obtain ⟨sl, hL⟩ := u.any ho I.free fun z => (hch _ z).2.1 rfl
  exact I.step (ch := ch) hch (fun b o hL hb hc e n => u.keep b o e n (fun z => (List.mem_cons.mp (I.stkSub b z)).elim hL hb) hc) (fun b o _ _ hc e n => u.any e n hc) (fun b o hc e n => u.free b o e n hc) (fun b o hc e => u.there b o e hc) u.tups u.frzs u.tbls (fun m' hm => by
    obtain ⟨o', es', ep', ho', r'⟩ := hm
    rw [ho] at ho'; cases ho'
    exact ⟨_, es', ep', hL, r'⟩) hok hg
theorem Inv.turned {t' : Nat} {it : Addr} (I : Inv X pins σ H s) (k : ∀ b o, b ≠ it → s.heap.get? b = some o → h'.get? b = some o) (hn : H it = none) (hL : it ≠ X.env.locals)
    (h1 : it ∈ X.ex ∨ X.s₀.heap.objs.size ≤ it) (h2 : ∀ x c, X.env.cells.lookup x = some c → c ≠ it) (h3 : ∀ p ∈ X.pn ++ pins, p.1 ≠ it) : Inv X pins σ H { s with heap := h', toks := t' } := by
  have nit : ∀ b u, H b = some u → b ≠ it := fun b u e z => by rw [z, hn] at e; cases e
  refine I.step (g' := s.gens) (d' := s.drawn) (ch := [it]) (fun b hb => ?_) (fun b o _ _ hc e _ => k b o (fun z => hc (by simp [z])) e) (fun b o _ _ hc e _ => ⟨o.slots, k b o (fun z => hc (by simp [z])) e⟩) (fun _ _ _ _ n => n)
    (fun b o hc e => ⟨o, k b o (fun z => hc (by simp [z])) e⟩) (fun _ _ e => e) (fun _ _ _ e => e) (fun b ps e => ⟨#[], by rw [e]; simp⟩) (fun m hm => ?_) (fun b u e => ?_) I.bare
  · have e : b = it := by simpa using hb
    subst e
    exact ⟨h1, hL, h2, h3⟩
  · obtain ⟨o, es, ep, ho, r⟩ := hm
    exact ⟨o, es, ep, k _ o (Ne.symm hL) ho, r⟩
  · refine (I.hok b u e).stay (fun c v hc q => k c v ?_ q) (fun _ q => q) fun _ _ q => q
    rcases hc with z | z
    · rw [z]; exact nit b u e
    · exact nit c _ z
theorem Inv.tok (I : Inv X pins σ H s) (t : Nat) : Inv X pins σ H { s with toks := t } := I.un (h' := s.heap) (t' := t) Un.refl I.hok
theorem Inv.kept {t' : Nat} (I : Inv X pins σ H s) (k : ∀ b u, s.heap.get? b = some u → h'.get? b = some u) : Inv X pins σ H { s with heap := h', toks := t' } := I.un (Un.kept k) (I.hok.kept k)
theorem Inv.laid {a : Addr} {o : HO} {t' : Nat} (I : Inv X pins σ H s) (k : ∀ b u, s.heap.get? b = some u → h'.get? b = some u) (hp : s.heap.objs.size ≤ a) (new : ObjOk X.prog X.w (upd H a o) h' a o) :
    Inv X pins σ (upd H a o) { s with heap := h', toks := t' } := I.un (Un.laid k hp (I.hok.fresh hp)) (I.hok.laid k hp new)
theorem Inv.write {x e : Addr} {o : HO} {t' : Nat} (I : Inv X pins σ H s) (mu : Mut (H x)) (he : e = x ∨ H e = some (.own x)) (k : ∀ b u, b ≠ e → s.heap.get? b = some u → h'.get? b = some u) (heo : ∃ u, h'.get? e = some u)
    (new : ObjOk X.prog X.w (upd H x o) h' x o) : Inv X pins σ (upd H x o) { s with heap := h', toks := t' } := I.un (Un.write mu he k heo) (I.hok.write mu he k heo new)
theorem Inv.weak {σ' : List (Option V)} (I : Inv X pins σ H s) (hl : σ'.length = σ.length) (w : ∀ (i : Nat) v, σ'[i]? = some (some v) → σ[i]? = some (some v)) : Inv X pins σ' H s :=
  ⟨I.ok, I.os, I.bare, I.base, let ⟨m, hn, hl'⟩ := I.loc; ⟨m, hn, fun i x v e1 e2 e3 => hl' i x v e1 (w i v e2) e3⟩, I.cell, I.free, I.freeC, I.pin, I.hok, hl.trans I.len⟩
theorem Inv.pins_of {pins' : List (Addr × Obj)} (I : Inv X pins σ H s) (h : ∀ p ∈ pins', s.heap.get? p.1 = some p.2 ∧ H p.1 = none ∧ p.1 ≠ X.env.locals ∧ p.1 ∉ X.fs ∧ ∀ v, p.2.data ≠ .cell v) : Inv X pins' σ H s :=
  ⟨I.ok, I.os, I.bare, I.base, I.loc, I.cell, I.free, I.freeC, fun p hp => (List.mem_append.mp hp).elim (fun z => I.pin p (List.mem_append_left _ z)) (h p), I.hok, I.len⟩
theorem nodup_ix {N : List Str} (hN : N.Nodup) {i j : Nat} {x : Str} (a : N[i]? = some x) (b : N[j]? = some x) : i = j := by
  obtain ⟨h1, e1⟩ := List.getElem?_eq_some_iff.mp a
  obtain ⟨h2, e2⟩ := List.getElem?_eq_some_iff.mp b
  exact (List.getElem_inj hN).mp (e1.trans e2.symm)
theorem store_ok2 {M : Model} {A : Around} {E : Value → Shared → Prop} {i : Nat} {x : Str} {v : V} {u : Value} {Q : Unit → Shared → Prop} (I : Inv X pins σ H s) (hN : X.N.Nodup) (hi : X.N[i]? = some x) (hx : Loc X.env.scope x) (r : RelV v u)
    (h : ∀ s', Inv X pins (σ.set i (some v)) H s' → (∃ a, Heap.SameBut a s.heap s'.heap ∧ (a = X.env.locals ∨ X.env.cells.lookup x = some a)) → Q () s') (hf : X.fn x = true ∨ X.env.scope.names.lookup x = some .local := by first | exact .inl rfl | exact .inr rfl | assumption) : wpAny M A (storeName X.env x u) Q E s := by
  obtain ⟨m, hn, hl⟩ := id I.loc
  have hcls : (X.env.scope.kind == .class || (X.env.scope.kind == .module && X.env.locals != X.env.globals)) = false := by rw [I.ok.kind]; rfl
  have hiσ : i < σ.length := by rw [I.len]; exact (List.getElem?_eq_some_iff.mp hi).1
  have cne := I.cne
  have tracked : ∀ {a : Addr} {h' : Heap}, (∃ o, s.heap.get? a = some o ∧ H a = none) → Heap.SameBut a s.heap h' → HOk X.prog X.w H h' := fun {a h'} ha hs b ob e => by
    obtain ⟨_, _, hfree⟩ := ha
    refine (I.hok b ob e).stay (fun c w' hc q => (hs.2 c ?_).trans q) (fun _ q => q) fun _ _ q => q
    rintro rfl
    rcases hc with rfl | hc
    · rw [hfree] at e; cases e
    · rw [hfree] at hc; cases hc
  rcases hx with hk | hk
  · refine wpAny_storeName_local hk hn (fun h' hn' hs => ?_) hcls
    obtain ⟨oL, _, _, hoL, _⟩ := id hn
    refine h _ ⟨I.ok, I.os, I.bare, ⟨fun b o e n hb hx => ?_, fun b o e n hb hx => ?_, I.base.free, fun b o e hx => ?_, I.base.tups, I.base.frzs, I.base.tbls⟩, ⟨_, hn', fun j y v' e1 e2 e3 => ?_⟩, fun y c e => ?_, I.free, I.freeC, fun p hp => ?_, tracked ⟨oL, hoL, I.free⟩ hs, by simpa using I.len⟩ ⟨_, hs, .inl rfl⟩
    · exact (hs.2 b (Nat.ne_of_lt (Nat.lt_of_lt_of_le (Heap.lt_size e) I.ok.above))).trans (I.base.keep b o e n hb hx)
    · obtain ⟨sl, e1⟩ := I.base.slot b o e n hb hx
      exact ⟨sl, (hs.2 b (Nat.ne_of_lt (Nat.lt_of_lt_of_le (Heap.lt_size e) I.ok.above))).trans e1⟩
    · obtain ⟨o', e1⟩ := I.base.there b o e hx
      exact ⟨o', (hs.2 b (Nat.ne_of_lt (Nat.lt_of_lt_of_le (Heap.lt_size e) I.ok.above))).trans e1⟩
    · by_cases hj : j = i
      · subst hj
        rw [hi] at e1; cases e1
        rw [List.getElem?_set_self hiσ] at e2
        cases e2
        exact ⟨u, r, .inl ⟨hk, by simp⟩⟩
      · rw [List.getElem?_set_ne (Ne.symm hj)] at e2
        obtain ⟨u', r', q⟩ := hl j y v' e1 e2 e3
        refine ⟨u', r', ?_⟩
        rcases q with ⟨k, e⟩ | ⟨k, c, e, z⟩
        · refine .inl ⟨k, ?_⟩
          have : y ≠ x := fun e => hj (nodup_ix hN e1 (e ▸ hi))
          simp [this, e]
        · exact .inr ⟨k, c, e, z.sameBut hs (cne y c e)⟩
    · obtain ⟨w', z⟩ := I.cell y c e
      exact ⟨w', z.sameBut hs (cne y c e)⟩
    · obtain ⟨e, n, ne, nf, d⟩ := I.pin p hp
      exact ⟨(hs.2 p.1 ne).trans e, n, ne, nf, d⟩
  · have hfn : X.fn x = true := by
      rcases hf with z | z
      · exact z
      · rw [z] at hk; cases hk
    obtain ⟨c, hc⟩ := I.ok.has x (.inl hk)
    obtain ⟨w', z⟩ := I.cell x c hc
    refine wpAny_storeName_cell I.ok.kind hk hc z (fun h' hc' hs => ?_)
    obtain ⟨oc, hoc, hocd⟩ := id z
    refine h { s with heap := h' } ⟨I.ok, I.os, I.bare, ⟨fun b o e n hb hx => ?_, fun b o e n hb hx => ?_, I.base.free, fun b o e hx => ?_, I.base.tups, I.base.frzs, I.base.tbls⟩, ⟨m, hn.sameBut hs (Ne.symm (cne x c hc)), fun j y v' e1 e2 e3 => ?_⟩, fun y c' e => ?_, I.free, I.freeC, fun p hp => ?_, tracked ⟨oc, hoc, I.freeC x c hc⟩ hs, by simpa using I.len⟩ ⟨c, hs, .inr hc⟩
    · exact (hs.2 b (Nat.ne_of_lt (Nat.lt_of_lt_of_le (Heap.lt_size e) (I.ok.cab x c hfn hc)))).trans (I.base.keep b o e n hb hx)
    · obtain ⟨sl, e1⟩ := I.base.slot b o e n hb hx
      exact ⟨sl, (hs.2 b (Nat.ne_of_lt (Nat.lt_of_lt_of_le (Heap.lt_size e) (I.ok.cab x c hfn hc)))).trans e1⟩
    · obtain ⟨o', e1⟩ := I.base.there b o e hx
      exact ⟨o', (hs.2 b (Nat.ne_of_lt (Nat.lt_of_lt_of_le (Heap.lt_size e) (I.ok.cab x c hfn hc)))).trans e1⟩
    · by_cases hj : j = i
      · subst hj
        rw [hi] at e1; cases e1
        rw [List.getElem?_set_self hiσ] at e2
        cases e2
        exact ⟨u, r, .inr ⟨.inl hk, c, hc, hc'⟩⟩
      · rw [List.getElem?_set_ne (Ne.symm hj)] at e2
        obtain ⟨u', r', q⟩ := hl j y v' e1 e2 e3
        refine ⟨u', r', ?_⟩
        rcases q with q | ⟨k, c', e, z'⟩
        · exact .inl q
        · refine .inr ⟨k, c', e, z'.sameBut hs ?_⟩
          rintro rfl
          exact hj (nodup_ix hN e1 (I.ok.inj _ _ _ e hc ▸ hi))
    · by_cases hcc : c' = c
      · subst hcc; exact ⟨_, hc'⟩
      · obtain ⟨w2, z2⟩ := I.cell y c' e
        exact ⟨w2, z2.sameBut hs hcc⟩
    · obtain ⟨e, n, ne, nf, d⟩ := I.pin p hp
      refine ⟨(hs.2 p.1 ?_).trans e, n, ne, nf, d⟩
      intro q
      rw [q, hoc] at e
      have q' : oc = p.2 := Option.some.inj e
      exact d w' (by rw [← q']; exact hocd)
theorem store_ok {M : Model} {A : Around} {E : Value → Shared → Prop} {i : Nat} {x : Str} {v : V} {u : Value} {Q : Unit → Shared → Prop} (I : Inv X pins σ H s) (hN : X.N.Nodup) (hi : X.N[i]? = some x) (hx : Loc X.env.scope x) (r : RelV v u)
    (h : ∀ s', Inv X pins (σ.set i (some v)) H s' → Q () s') (hf : X.fn x = true ∨ X.env.scope.names.lookup x = some .local := by first | exact .inl rfl | exact .inr rfl | assumption) : wpAny M A (storeName X.env x u) Q E s :=
  store_ok2 I hN hi hx r (fun s' I' _ => h s' I') hf
theorem Inv.call' {s' : Shared} {ch : List Addr} (I : Inv X pins σ H s) (ho : s'.os = s.os) (u : Un (frs X.stack) ch H H' s.heap s'.heap) (hok : HOk X.prog X.w H' s'.heap) (hg : AllBare s'.gens)
    (hch : ∀ b ∈ ch, (b ∈ X.ex ∨ X.s₀.heap.objs.size ≤ b) ∧ b ≠ X.env.locals ∧ (∀ x c, X.env.cells.lookup x = some c → c ≠ b) ∧ ∀ p ∈ X.pn ++ pins, p.1 ≠ b) : Inv X pins σ H' s' := by
  obtain ⟨h', g', d', t', o'⟩ := s'
  have e : o' = s.os := ho
  subst e
  exact I.call (g' := g') (t' := t') (d' := d') u hok hg hch
end
abbrev XK := Value → Option Addr → Hp → Prop
abbrev St := List (Option V)
abbrev VK := V → Hp → Prop
abbrev TE := St → Hp → VK → Prop
abbrev TT := St → Hp → (Bool → Hp → Prop) → Prop
abbrev TA := St → Hp → (List V → Hp → Prop) → Prop
structure Ends where
  nx : St → Hp → Prop
  rt : VK
  bk : St → Hp → Prop := fun _ _ => False
  ct : St → Hp → Prop := fun _ _ => False
abbrev TS := Ends → St → Hp → Prop
def EP (X : Cx) (pins : List (Addr × Obj)) (σ : St) (Q : VK) (u : Value) (s' : Shared) : Prop := ∃ v H', Inv X pins σ H' s' ∧ RelV v u ∧ Q v H'
def TP (X : Cx) (pins : List (Addr × Obj)) (σ : St) (Q : Bool → Hp → Prop) (b : Bool) (s' : Shared) : Prop := ∃ H', Inv X pins σ H' s' ∧ Q b H'
def AP (X : Cx) (pins : List (Addr × Obj)) (σ : St) (Q : List V → Hp → Prop) (us : List Value) (s' : Shared) : Prop := ∃ vs H', Inv X pins σ H' s' ∧ Vals vs us ∧ Q vs H'
def SP (X : Cx) (pins : List (Addr × Obj)) (D : Ends) (f : Flow) (s' : Shared) : Prop :=
  match f with
  | .next => ∃ σ' H', Inv X pins σ' H' s' ∧ D.nx σ' H'
  | .brk => ∃ σ' H', Inv X pins σ' H' s' ∧ D.bk σ' H'
  | .cont => ∃ σ' H', Inv X pins σ' H' s' ∧ D.ct σ' H'
  | .ret u => ∃ v σ' H', Inv X pins σ' H' s' ∧ RelV v u ∧ D.rt v H'
def PE (X : Cx) (e : Expr) (t : TE) : Prop :=
  ∀ (pins : List (Addr × Obj)) (s : Shared) (σ : St) (H : Hp) (Q : VK), Inv X pins σ H s → t σ H Q → wpAny (model X.prog X.w) X.A (eval e X.env) (EP X pins σ Q) X.xe s
def PT (X : Cx) (e : Expr) (t : TT) : Prop :=
  ∀ (pins : List (Addr × Obj)) (s : Shared) (σ : St) (H : Hp) (Q : Bool → Hp → Prop), Inv X pins σ H s → t σ H Q → wpAny (model X.prog X.w) X.A (isTrue e X.env (eval e X.env)) (TP X pins σ Q) X.xe s
def PW (X : Cx) (e : Expr) (t : TT) : Prop :=
  ∀ (whole : Sem Value) (pins : List (Addr × Obj)) (s : Shared) (σ : St) (H : Hp) (Q : Bool → Hp → Prop), Inv X pins σ H s → t σ H Q → wpAny (model X.prog X.w) X.A (isTrue e X.env whole) (TP X pins σ Q) X.xe s
theorem PW.pt {X : Cx} {e : Expr} {t : TT} (h : PW X e t) : PT X e t := h _
def PA (X : Cx) (es : List Expr) (t : TA) : Prop :=
  ∀ (pos : Pos) (pins : List (Addr × Obj)) (s : Shared) (σ : St) (H : Hp) (Q : List V → Hp → Prop), Inv X pins σ H s → t σ H Q → wpAny (model X.prog X.w) X.A (spliced (backTo pos (starEach es X.env))) (AP X pins σ Q) X.xe s
def PS (X : Cx) (st : Stmt) (t : TS) : Prop :=
  ∀ (pins : List (Addr × Obj)) (s : Shared) (σ : St) (H : Hp) (D : Ends), Inv X pins σ H s → t D σ H → wpAny (model X.prog X.w) X.A (exec st X.env) (SP X pins D) X.xe s
def PSs (X : Cx) (st : List Stmt) (t : TS) : Prop :=
  ∀ (pins : List (Addr × Obj)) (s : Shared) (σ : St) (H : Hp) (D : Ends), Inv X pins σ H s → t D σ H → wpAny (model X.prog X.w) X.A (execs st X.env) (SP X pins D) X.xe s
theorem thn {α : Type} {t : Sem α} {Q Q' : α → Shared → Prop} {M : Model} {A : Around} {E : Value → Shared → Prop} {s : Shared} (h : wpAny M A t Q E s) (hQ : ∀ a s, Q a s → Q' a s) : wpAny M A t Q' E s := wpAny_mono h hQ fun _ _ x => x
end L2
namespace L2
open PySem PySem.Spec PyProof.Rows
section
variable {X : Cx}
def tVar (i : Nat) : TE := fun σ H Q => ∃ v, σ[i]? = some (some v) ∧ Q v H
def tC (v : V) : TE := fun _ H Q => Q v H
theorem pe_var {i : Nat} {x : Str} {pos : Pos} (hN : X.N[i]? = some x) (hv : Vis X.env.scope x) (hd : (x == ("__debug__" : Str)) = false := by decide) (hcd : (x == ("__classdict__" : Str)) = false := by decide) : PE X (.Name x pos) (tVar i) := by
  intro pins s σ H Q I h
  obtain ⟨v, e, h⟩ := h
  obtain ⟨m, hn, hl⟩ := I.loc
  obtain ⟨u, r, l⟩ := hl i x v hN e hv
  have fin : EP X pins σ Q u s := ⟨v, H, I, r, h⟩
  rcases l with ⟨hk, hm⟩ | ⟨hk, c, hc, hcell⟩
  · exact wpAny_Name (wpAny_loadName_local I.ok.kind hk hn hm fin) hd
  · rcases hk with hk | hk
    · exact wpAny_Name (wpAny_loadName_cell I.ok.kind hk hc hcell fin) hd
    · exact wpAny_Name (wpAny_loadName_free I.ok.kind hk hc hcell fin hcd) hd
theorem pe_int {i j pos} : PE X (.Constant (.int i) j pos) (tC (.int i)) := fun _ _ _ H _ I h => wpAny_Constant_int ⟨.int i, H, I.tok _, ⟨_, rfl⟩, h⟩
theorem pe_bl {b j pos} : PE X (.Constant (.bool b) j pos) (tC (.bl b)) := fun _ _ _ H _ I h => Constant_bool ⟨.bl b, H, I, rfl, h⟩
theorem pe_non {j pos} : PE X (.Constant .none j pos) (tC .non) := fun _ _ _ H _ I h => Constant_none ⟨.non, H, I, rfl, h⟩
theorem pe_str {x j pos} : PE X (.Constant (.str x) j pos) (tC (.str x)) := fun _ _ _ H _ I h => Calls.Constant_str ⟨.str x, H, I.tok _, ⟨_, rfl⟩, h⟩
def Gl (X : Cx) (x : Str) : Prop := X.env.kindOf x = some .globalImplicit
theorem ld_glob {E : Value → Shared → Prop} {pins : List (Addr × Obj)} {s : Shared} {σ : St} {H : Hp} {x : Str} {u : Value} {pos : Pos} {Q : Value → Shared → Prop} (I : Inv X pins σ H s) (hg : Gl X x) (hm : X.mg x = some u) (h : Q u s)
    (hd : (x == ("__debug__" : Str)) = false := by decide) : wpAny (model X.prog X.w) X.A (eval (.Name x pos) X.env) Q E s :=
  Calls.Name_function_global I.ok.kind hg (Calls.loadGlobal_global (by rw [I.ok.glob]; exact I.mod.glob.keeps I.bk) hm h) hd
theorem ld_blt {E : Value → Shared → Prop} {pins : List (Addr × Obj)} {s : Shared} {σ : St} {H : Hp} {x : Str} {u : Value} {pos : Pos} {Q : Value → Shared → Prop} (I : Inv X pins σ H s) (hg : Gl X x) (hm : X.mg x = none) (hv : bootBuiltins x = some u) (h : Q u s)
    (hn : x ≠ "__name__" := by decide) (hd : (x == ("__debug__" : Str)) = false := by decide) : wpAny (model X.prog X.w) X.A (eval (.Name x pos) X.env) Q E s := by
  obtain ⟨mb, h1, h2⟩ := I.mod.blt
  exact Calls.Name_function_global I.ok.kind hg (Calls.loadGlobal_builtin (by rw [I.ok.glob]; exact I.mod.glob.keeps I.bk) hm (by rw [I.ok.blt]; exact h1.keeps I.bk) ((h2 x hn).trans hv) h) hd
theorem pe_glob {x : Str} {v : V} {u : Value} {pos : Pos} (hg : Gl X x) (hm : X.mg x = some u) (r : RelV v u) (hd : (x == ("__debug__" : Str)) = false := by decide) : PE X (.Name x pos) (tC v) :=
  fun _ _ _ H _ I h => ld_glob I hg hm ⟨v, H, I, r, h⟩ hd
theorem pe_bltn {x : Str} {v : V} {u : Value} {pos : Pos} (hg : Gl X x) (hm : X.mg x = none) (hv : bootBuiltins x = some u) (r : RelV v u) (hn : x ≠ "__name__" := by decide) (hd : (x == ("__debug__" : Str)) = false := by decide) : PE X (.Name x pos) (tC v) :=
  fun _ _ _ H _ I h => ld_blt I hg hm hv ⟨v, H, I, r, h⟩ hn hd
def t2I (ta tb : TE) (k : Int → Int → Hp → Prop) : St → Hp → Prop := fun σ H => ta σ H fun x H1 => tb σ H1 fun y H2 => ∃ i j, x = .int i ∧ y = .int j ∧ k i j H2
def tAdd (ta tb : TE) : TE := fun σ H Q => t2I ta tb (fun i j H2 => Q (.int (i + j)) H2) σ H
def tSub (ta tb : TE) : TE := fun σ H Q => t2I ta tb (fun i j H2 => Q (.int (i - j)) H2) σ H
def tMul (ta tb : TE) : TE := fun σ H Q => t2I ta tb (fun i j H2 => (-(2 ^ 64) < i ∧ i < 2 ^ 64) ∧ Q (.int (i * j)) H2) σ H
variable {a b : Expr} {ta tb : TE} {pos : Pos}
def PC (X : Cx) (op : CmpOp) (a b : Expr) (t : TE) : Prop :=
  ∀ (pins : List (Addr × Obj)) (s : Shared) (σ : St) (H : Hp) (Q : VK), Inv X pins σ H s → t σ H Q →
    wpAny (model X.prog X.w) X.A (eval a X.env) (fun v s₁ => wpAny (model X.prog X.w) X.A (eval b X.env) (fun u s₂ => wpAny (model X.prog X.w) X.A (compareOp op v u) (EP X pins σ Q) X.xe s₂) X.xe s₁) X.xe s
def tCmp (p : Int → Int → Bool) (ta tb : TE) : TE := fun σ H Q => t2I ta tb (fun i j H2 => Q (.bl (p i j)) H2) σ H
abbrev tLt : TE → TE → TE := tCmp fun i j => decide (i < j)
abbrev tLe : TE → TE → TE := tCmp fun i j => decide (i ≤ j)
abbrev tGt : TE → TE → TE := tCmp fun i j => decide (j < i)
abbrev tGe : TE → TE → TE := tCmp fun i j => decide (j ≤ i)
abbrev tEqI : TE → TE → TE := tCmp fun i j => decide (i = j)
abbrev tNeI : TE → TE → TE := tCmp fun i j => !decide (i = j)
def tIsN (ta : TE) : TE := fun σ H Q => ta σ H fun x H1 => Q (.bl (decide (x = .non))) H1
def tNotN (ta : TE) : TE := fun σ H Q => ta σ H fun x H1 => Q (.bl (!decide (x = .non))) H1
def tB (t : TE) : TT := fun σ H Q => t σ H fun x H1 => ∃ c, x = .bl c ∧ Q c H1
theorem pt_cmp {op : CmpOp} {t : TE} (h : PC X op a b t) (h1 : behindInMarks op b = false := by first | exact nobehind _ (by decide) (by decide) | rfl) : PT X (.Compare a [op] [b] pos) (tB t) := by
  intro pins s σ H Q I hw
  refine wpAny_isTrue_Compare1 (thn (h pins s σ H _ I hw) fun v s1 h1 => thn h1 fun u s2 h2 => thn h2 fun c s3 ⟨x, H1, I1, r1, q1⟩ => ?_) h1
  obtain ⟨d, rfl, q⟩ := q1
  cases r1
  exact wpAny_truthy_bool ⟨H1, I1, q⟩
theorem pt_val {e : Expr} {t : TE} (h : PE X e t) (he : ∀ whole, isTrue e X.env whole = (do let v ← whole; standAt e.pos; holding [v] (truthy v)) := by intro _; rfl) : PT X e (tB t) := by
  intro pins s σ H Q I hw
  refine isTrue_plain (thn (h pins s σ H _ I hw) fun v s1 ⟨x, H1, I1, r1, q1⟩ => ?_) (he _)
  obtain ⟨d, rfl, q⟩ := q1
  cases r1
  exact wpAny_truthy_bool ⟨H1, I1, q⟩
variable {tA tB' : TT} {rest : List Expr}
def tAnd (t u : TT) : TT := fun σ H Q => t σ H fun c H1 => if c = true then u σ H1 Q else Q false H1
def tOr (t u : TT) : TT := fun σ H Q => t σ H fun c H1 => if c = true then Q true H1 else u σ H1 Q
def tNot (t : TT) : TT := fun σ H Q => t σ H fun c H1 => Q (!c) H1
theorem pw_and1 (ha : PT X a tA) : PW X (.BoolOp .And [a] pos) tA := by
  intro wh pins s σ H Q I h
  refine isTrue_and (thn (ha pins s σ H Q I h) fun c s1 e => ?_)
  cases c with
  | true => exact isTrue_and_nil e
  | false => exact e
theorem pw_or1 (ha : PT X a tA) : PW X (.BoolOp .Or [a] pos) tA := by
  intro wh pins s σ H Q I h
  refine isTrue_or (thn (ha pins s σ H Q I h) fun c s1 e => ?_)
  cases c with
  | false => exact isTrue_or_nil e
  | true => exact e
theorem pw_and (ha : PT X a tA) (hb : PW X (.BoolOp .And (b :: rest) pos) tB') : PW X (.BoolOp .And (a :: b :: rest) pos) (tAnd tA tB') := by
  intro wh pins s σ H Q I h
  refine isTrue_and (thn (ha pins s σ H _ I h) fun c s1 ⟨H1, I1, q1⟩ => ?_)
  cases c with
  | true => exact hb wh pins s1 σ H1 Q I1 q1
  | false => exact ⟨H1, I1, q1⟩
theorem pw_or (ha : PT X a tA) (hb : PW X (.BoolOp .Or (b :: rest) pos) tB') : PW X (.BoolOp .Or (a :: b :: rest) pos) (tOr tA tB') := by
  intro wh pins s σ H Q I h
  refine isTrue_or (thn (ha pins s σ H _ I h) fun c s1 ⟨H1, I1, q1⟩ => ?_)
  cases c with
  | true => exact ⟨H1, I1, q1⟩
  | false => exact hb wh pins s1 σ H1 Q I1 q1
theorem pt_not (ha : PT X a tA) : PT X (.UnaryOp .Not a pos) (tNot tA) := by
  intro pins s σ H Q I h
  exact isTrue_not (ha pins s σ H (fun c H1 => Q (!c) H1) I h)
def tAndV (ta tb : TE) : TE := fun σ H Q => ta σ H fun x H1 => ∃ c, x = .bl c ∧ if c = true then tb σ H1 Q else Q (.bl false) H1
def tOrV (ta tb : TE) : TE := fun σ H Q => ta σ H fun x H1 => ∃ c, x = .bl c ∧ if c = true then Q (.bl true) H1 else tb σ H1 Q
def tNotV (ta : TE) : TE := fun σ H Q => ta σ H fun x H1 => ∃ c, x = .bl c ∧ Q (.bl (!c)) H1
theorem pe_one {op} {t : TE} (h : PE X a t) : PE X (.BoolOp op [a] pos) t := fun pins s σ H Q I hw => BoolOp_one (h pins s σ H Q I hw)
theorem pe_and (ha : PE X a ta) (hb : PE X (.BoolOp .And (b :: rest) pos) tb) : PE X (.BoolOp .And (a :: b :: rest) pos) (tAndV ta tb) := by
  intro pins s σ H Q I h
  refine BoolOp_and (thn (ha pins s σ H _ I h) fun v s1 ⟨x, H1, I1, r1, q1⟩ => ?_)
  obtain ⟨c, rfl, q1⟩ := q1
  cases r1
  refine wpAny_truthy_bool ?_
  cases c with
  | true => exact hb pins s1 σ H1 Q I1 q1
  | false => exact ⟨.bl false, H1, I1, rfl, q1⟩
theorem pe_not (ha : PE X a ta) : PE X (.UnaryOp .Not a pos) (tNotV ta) := by
  intro pins s σ H Q I h
  refine UnaryOp_ (thn (ha pins s σ H _ I h) fun v s1 ⟨x, H1, I1, r1, q1⟩ => ?_)
  obtain ⟨c, rfl, q1⟩ := q1
  cases r1
  exact not_of (wpAny_truthy_bool ⟨.bl (!c), H1, I1, rfl, q1⟩)
def tIf (t : TT) (ta tb : TE) : TE := fun σ H Q => t σ H fun c H1 => if c = true then ta σ H1 Q else tb σ H1 Q
end
end L2
namespace L2
open PySem PySem.Spec PyProof.Rows
def SqL (K : PySem.W.Frag) (H : Hp) (a : Addr) (xs : List V) : Prop :=
  Rd H a (.lst xs) ∨
    ∃ (o : Obj) (its : Array Value) (n : Nat), K.lookup a = some o ∧ o.cls = .type "list" ∧ o.dict = none ∧ o.data = .seq its n ∧ its.size ≤ sizeLine ∧ Vals xs its.toList
def SqT (K : PySem.W.Frag) (H : Hp) (a : Addr) (xs : List V) : Prop :=
  Rd H a (.tup xs) ∨
    ∃ (o : Obj) (its : Array Value) (n : Nat), K.lookup a = some o ∧ o.cls = .type "tuple" ∧ o.data = .seq its n ∧ its.size ≤ sizeLine ∧ Vals xs its.toList
def absV : Value → Option V
  | .none => some .non
  | .bool b => some (.bl b)
  | .int i _ => some (.int i)
  | .str x _ => some (.str x)
  | .bytes b _ => some (.byt b)
  | .float b _ => some (.flt b)
  | .ref a => some (.ref a)
  | .type n => some (.ty n)
  | _ => none
theorem RelV.abs {x : V} {u : Value} (r : RelV x u) : absV u = some x := by
  cases x with
  | non => cases r; rfl
  | bl _ => cases r; rfl
  | int _ => obtain ⟨t, rfl⟩ := r; rfl
  | str _ => obtain ⟨t, rfl⟩ := r; rfl
  | byt _ => obtain ⟨t, rfl⟩ := r; rfl
  | flt _ => obtain ⟨t, rfl⟩ := r; rfl
  | ref _ => cases r; rfl
  | ty _ => cases r; rfl
theorem RelV.inj {x y : V} {u : Value} (r : RelV x u) (q : RelV y u) : x = y := Option.some.inj (r.abs.symm.trans q.abs)
theorem Vals.inj : ∀ {xs ys : List V} {us : List Value}, Vals xs us → Vals ys us → xs = ys
  | _, _, _, .nil, .nil => rfl
  | _, _, _, .cons r t, .cons r' t' => by rw [r.inj r', Vals.inj t t']
section
variable {X : Cx} {pins : List (Addr × Obj)} {σ : St} {H : Hp} {s : Shared} {a : Addr} {xs ys : List V}
theorem SqL.of {K : PySem.W.Frag} (h : H a = some (.lst xs)) : SqL K H a xs := .inl (.inl h)
theorem SqT.of {K : PySem.W.Frag} (h : H a = some (.tup xs)) : SqT K H a xs := .inl (.inl h)
theorem Inv.list (I : Inv X pins σ H s) (h : SqL X.K H a xs) : ∃ its : List Value, Vals xs its ∧ PlainL s.heap a its.toArray ∧ xs.length ≤ sizeLine := by
  rcases h with h | ⟨o, its, n, hk, hc, hd, hs, hz, r⟩
  · obtain ⟨z, its, n, r, e⟩ := h.ok I.hok
    exact ⟨its, r, ⟨_, n, e, rfl, rfl, rfl⟩, z⟩
  · refine ⟨its.toList, r, ⟨o, n, I.kIn a o hk, hc, hd, by simpa using hs⟩, ?_⟩
    have e := r.length
    simp only [Array.length_toList] at e
    omega
theorem Inv.tuple (I : Inv X pins σ H s) (h : SqT X.K H a xs) : ∃ its : List Value, Vals xs its ∧ IsTup s.heap a its.toArray ∧ xs.length ≤ sizeLine := by
  rcases h with h | ⟨o, its, n, hk, hc, hs, hz, r⟩
  · obtain ⟨z, its, r, p⟩ := h.ok I.hok
    exact ⟨its, r, p.1, z⟩
  · refine ⟨its.toList, r, ⟨o, I.kIn a o hk, hc, n, by simpa using hs⟩, ?_⟩
    have e := r.length
    simp only [Array.length_toList] at e
    omega
theorem Inv.list_inj (I : Inv X pins σ H s) (h : SqL X.K H a xs) (h' : SqL X.K H a ys) : xs = ys := by
  obtain ⟨its, r, ⟨o, n, e, _, _, d⟩, _⟩ := I.list h
  obtain ⟨its', r', ⟨o', n', e', _, _, d'⟩, _⟩ := I.list h'
  rw [e] at e'; cases e'
  rw [d] at d'
  injection d' with d1 _
  have : its = its' := by simpa using congrArg Array.toList d1
  subst this
  exact r.inj r'
theorem Inv.tuple_inj (I : Inv X pins σ H s) (h : SqT X.K H a xs) (h' : SqT X.K H a ys) : xs = ys := by
  obtain ⟨its, r, ⟨o, e, _, n, d⟩, _⟩ := I.tuple h
  obtain ⟨its', r', ⟨o', e', _, n', d'⟩, _⟩ := I.tuple h'
  rw [e] at e'; cases e'
  rw [d] at d'
  injection d' with d1 _
  have : its = its' := by simpa using congrArg Array.toList d1
  subst this
  exact r.inj r'
end
abbrev Cx.wish (X : Cx) (E : Value → Shared → Prop) : Cx := { X with xe := E }
abbrev Cx.nox (X : Cx) : Cx := X.wish fun _ _ => False
theorem Cx.Ok.wish {X : Cx} (ok : X.Ok) (E : Value → Shared → Prop) : (X.wish E).Ok :=
  ⟨ok.mod, ok.kind, ok.glob, ok.blt, ok.above, ok.inj, ok.has, ok.cab, ok.hd, ok.frames, ok.stk, ok.exf, ok.bs, ok.bsz, ok.noex, ok.exfs, ok.funs, ok.frf⟩
theorem Cx.Ok.unwish {X : Cx} {E : Value → Shared → Prop} (ok : (X.wish E).Ok) : X.Ok :=
  ⟨ok.mod, ok.kind, ok.glob, ok.blt, ok.above, ok.inj, ok.has, ok.cab, ok.hd, ok.frames, ok.stk, ok.exf, ok.bs, ok.bsz, ok.noex, ok.exfs, ok.funs, ok.frf⟩
section
variable {X : Cx} {pins : List (Addr × Obj)} {σ : St} {H : Hp} {s : Shared} {E : Value → Shared → Prop}
theorem Inv.wish (I : Inv X pins σ H s) (E : Value → Shared → Prop) : Inv (X.wish E) pins σ H s := ⟨I.ok.wish E, I.os, I.bare, I.base, I.loc, I.cell, I.free, I.freeC, I.pin, I.hok, I.len⟩
theorem Inv.unwish (I : Inv (X.wish E) pins σ H s) : Inv X pins σ H s := ⟨I.ok.unwish, I.os, I.bare, I.base, I.loc, I.cell, I.free, I.freeC, I.pin, I.hok, I.len⟩
theorem SP.unwish {D : Ends} {f : Flow} {s' : Shared} (h : SP (X.wish E) pins D f s') : SP X pins D f s' := by
  cases f with
  | next => obtain ⟨σ', H', I, q⟩ := h; exact ⟨σ', H', I.unwish, q⟩
  | brk => obtain ⟨σ', H', I, q⟩ := h; exact ⟨σ', H', I.unwish, q⟩
  | cont => obtain ⟨σ', H', I, q⟩ := h; exact ⟨σ', H', I.unwish, q⟩
  | ret u => obtain ⟨v, σ', H', I, r, q⟩ := h; exact ⟨v, σ', H', I.unwish, r, q⟩
theorem PSs.nox {st : List Stmt} {t : TS} (h : PSs X.nox st t) : PSs X st t := fun pins s σ H D I hw =>
  wpAny_mono (h pins s σ H D (I.wish _) hw) (fun _ _ q => q.unwish) fun _ _ z => False.elim z
end
section
variable {X : Cx} {st : Stmt} {rest : List Stmt} {t u : TS} {e : Expr} {te : TE} {pos : Pos}
def tNext : TS := fun D σ H => D.nx σ H
def tSeq (t u : TS) : TS := fun D σ H => t { D with nx := u D } σ H
theorem pss_nil : PSs X [] tNext := fun _ _ σ H _ I h => wpAny_execs_nil ⟨σ, H, I, h⟩
theorem pss_cons (h1 : PS X st t) (h2 : PSs X rest u) : PSs X (st :: rest) (tSeq t u) := by
  intro pins s σ H D I h
  refine wpAny_execs_cons (thn (h1 pins s σ H { D with nx := u D } I h) fun f s1 q => ?_)
  cases f with
  | next =>
    obtain ⟨σ', H', I', q⟩ := q
    exact h2 pins s1 σ' H' D I' q
  | ret v => exact q
  | brk => exact q
  | cont => exact q
theorem pss_one (h1 : PS X st t) : PSs X [st] t := by
  intro pins s σ H D I h
  refine wpAny_execs_cons (thn (h1 pins s σ H D I h) fun f s1 q => ?_)
  cases f with
  | next => exact wpAny_execs_nil q
  | ret v => exact q
  | brk => exact q
  | cont => exact q
def tBreak : TS := fun D σ H => D.bk σ H
def tCont : TS := fun D σ H => D.ct σ H
theorem Inv.quiet {pins : List (Addr × Obj)} {σ : St} {H : Hp} {s : Shared} (I : Inv X pins σ H s) : interactive X.env = false := by simp [interactive, I.ok.kind]
def tDrop (te : TE) : TS := fun D σ H => te σ H fun _ H1 => D.nx σ H1
theorem ps_expr (he : PE X e te) (hs : swapsWith e none pos.line X.env = pure false := by rfl) : PS X (.Expr e pos) (tDrop te) := by
  intro pins s σ H D I h
  exact wpAny_Expr_any (thn (he pins s σ H _ I h) fun v s1 ⟨x, H1, I1, r1, q1⟩ => ⟨σ, H1, I1, q1⟩) I.quiet hs
def tRet (te : TE) : TS := fun D σ H => te σ H D.rt
theorem ps_ret (he : PE X e te) : PS X (.Return (some e) pos) (tRet te) := by
  intro pins s σ H D I h
  exact wpAny_Return_some (thn (he pins s σ H _ I h) fun v s1 ⟨x, H1, I1, r1, q1⟩ => ⟨x, σ, H1, I1, r1, q1⟩)
def tRetN : TS := fun D _ H => D.rt .non H
def tIfS (c : TT) (t u : TS) : TS := fun D σ H => c σ H fun b H1 => if b = true then t D σ H1 else u D σ H1
theorem ps_if {c : Expr} {a b : List Stmt} {tc : TT} (hc : PT X c tc) (ha : PSs X a t) (hb : PSs X b u) : PS X (.If c a b pos) (tIfS tc t u) := by
  intro pins s σ H D I h
  refine wpAny_If (thn (hc pins s σ H _ I h) fun d s1 ⟨H1, I1, q1⟩ => ?_)
  cases d with
  | true => exact ha pins s1 σ H1 D I1 q1
  | false => exact hb pins s1 σ H1 D I1 q1
def tNever : TS := fun _ _ _ => False
theorem ps_never : PS X st tNever := fun _ _ _ _ _ _ h => h.elim
end
abbrev TG := V → St → Hp → (St → Hp → Prop) → Prop
abbrev TGs := List V → St → Hp → (St → Hp → Prop) → Prop
def PG (X : Cx) (target : Expr) (t : TG) : Prop :=
  ∀ (pins : List (Addr × Obj)) (s : Shared) (σ : St) (H : Hp) (v : V) (u : Value) (Q : St → Hp → Prop), Inv X pins σ H s → RelV v u → t v σ H Q →
    wpAny (model X.prog X.w) X.A (assign target X.env u) (fun _ s' => ∃ σ' H', Inv X pins σ' H' s' ∧ Q σ' H') X.xe s
def PGs (X : Cx) (ts : List Expr) (t : TGs) : Prop :=
  ∀ (pins : List (Addr × Obj)) (s : Shared) (σ : St) (H : Hp) (vs : List V) (us : List Value) (Q : St → Hp → Prop), Inv X pins σ H s → Vals vs us → t vs σ H Q →
    wpAny (model X.prog X.w) X.A (assignInOrder ((assignEach ts X.env).map (·.2)) us) (fun _ s' => ∃ σ' H', Inv X pins σ' H' s' ∧ Q σ' H') X.xe s
abbrev TSet := V → V → V → Hp → (Hp → Prop) → Prop
def PSet (X : Cx) (t : TSet) : Prop :=
  ∀ (pins : List (Addr × Obj)) (s : Shared) (σ : St) (H : Hp) (o i v : V) (ov iv u : Value) (Q : Hp → Prop), Inv X pins σ H s → RelV o ov → RelV i iv → RelV v u → t o i v H Q →
    wpAny (model X.prog X.w) X.A (setItem ov iv u) (fun _ s' => ∃ H', Inv X pins σ H' s' ∧ Q H') X.xe s
abbrev TIp := V → V → Hp → VK → Prop
def PIp (X : Cx) (op : Operator) (t : TIp) : Prop :=
  ∀ (pins : List (Addr × Obj)) (s : Shared) (σ : St) (H : Hp) (x y : V) (v u : Value) (Q : VK), Inv X pins σ H s → RelV x v → RelV y u → t x y H Q →
    wpAny (model X.prog X.w) X.A (inplaceOp op v u) (EP X pins σ Q) X.xe s
section
variable {X : Cx} {pos : Pos}
def gName (i : Nat) : TG := fun v σ H Q => Q (σ.set i (some v)) H
theorem pg_name {i : Nat} {x : Str} (hN : X.N.Nodup) (hi : X.N[i]? = some x) (hx : Loc X.env.scope x) (hf : X.fn x = true ∨ X.env.scope.names.lookup x = some .local := by first | exact .inl rfl | exact .inr rfl | assumption) : PG X (.Name x pos) (gName i) := by
  intro pins s σ H v u Q I r h
  exact wpAny_assign_Name (store_ok I hN hi hx r (fun s' I' => ⟨_, H, I', h⟩) hf)
def gNil : TGs := fun vs σ H Q => vs = [] ∧ Q σ H
def gCons (t : TG) (u : TGs) : TGs := fun vs σ H Q => ∃ v r, vs = v :: r ∧ t v σ H fun σ' H' => u r σ' H' Q
theorem pgs_nil : PGs X [] gNil := by
  intro pins s σ H vs us Q I r h
  obtain ⟨e, h⟩ := h
  subst e
  cases r
  exact assignInOrder_nil ⟨σ, H, I, h⟩
theorem pgs_cons {e : Expr} {es : List Expr} {t : TG} {u : TGs} (h1 : PG X e t) (h2 : PGs X es u)
    (hs : (assignEach (e :: es) X.env).map (·.2) = assign e X.env :: (assignEach es X.env).map (·.2) := by rfl) : PGs X (e :: es) (gCons t u) := by
  intro pins s σ H vs us Q I r h
  obtain ⟨v, vr, e1, h⟩ := h
  subst e1
  cases r with
  | cons r rr =>
    rw [hs]
    refine assignInOrder_cons (thn (h1 pins s σ H _ _ _ I r h) fun _ s1 ⟨σ1, H1, I1, q1⟩ => ?_)
    exact h2 pins s1 σ1 H1 _ _ Q I1 rr q1
def gTup (K : PySem.W.Frag) (n : Nat) (t : TGs) : TG := fun v σ H Q => ∃ a xs, v = .ref a ∧ SqT K H a xs ∧ xs.length = n ∧ t xs σ H Q
theorem pg_tup {es : List Expr} {k : Nat} {t : TGs} {n : Nat} (hc : X.calm = true) (h : PGs X es t)
    (hn : (assignEach es X.env).length = n := by rfl) (hst : (assignEach es X.env).findIdx? (·.1) = none := by rfl) : PG X (.Tuple es k pos) (gTup X.K n t) := by
  intro pins s σ H v u Q I r hw
  obtain ⟨a, xs, e1, hq, hl, hw⟩ := hw
  subst e1
  cases r
  obtain ⟨its, rv, ht, hz⟩ := I.tuple hq
  refine assign_Tuple_tuple (I.ok.hd hc) ht (by simp [hn, ← hl, rv.length]) hst fun h' hx => ?_
  have I1 : Inv X pins σ H { s with heap := h' } := I.kept (t' := s.toks) fun b o e => hx b o (Nat.ne_of_lt (Heap.lt_size e)) e
  exact h pins _ σ H xs _ Q I1 (by simpa using rv) hw
def gSub (to ti : TE) (t : TSet) : TG := fun v σ H Q => to σ H fun o H1 => ti σ H1 fun i H2 => t o i v H2 fun H3 => Q σ H3
theorem pg_sub {o i : Expr} {to ti : TE} {t : TSet} (ho : PE X o to) (hi : PE X i ti) (hs : PSet X t)
    (ha : ∀ v, assign (.Subscript o i pos) X.env v = (do
      let ov ← holding [v] (eval o X.env)
      let iv ← holding [v, ov] (eval i X.env)
      standAt pos
      holding [v, ov, iv] (setItem ov iv v)
      release [v, ov, iv] []) := by intro _; rfl) : PG X (.Subscript o i pos) (gSub to ti t) := by
  intro pins s σ H v u Q I r h
  rw [ha]
  refine wpAny_bind (wpAny_holding (thn (ho pins s σ H _ I h) fun ov s1 ⟨x, H1, I1, r1, q1⟩ => ?_))
  refine wpAny_bind (wpAny_holding (thn (hi pins s1 σ H1 _ I1 q1) fun iv s2 ⟨y, H2, I2, r2, q2⟩ => ?_))
  refine wpAny_bind (wpAny_standAt (wpAny_bind (wpAny_holding (thn (hs pins s2 σ H2 x y v ov iv u _ I2 r1 r2 r q2) fun _ s3 ⟨H3, I3, q3⟩ => ?_))))
  exact wpAny_release ⟨σ, H3, I3, q3⟩
def tAsg (te : TE) (g : TG) : TS := fun D σ H => te σ H fun x H1 => g x σ H1 D.nx
theorem ps_asg {tg e : Expr} {te : TE} {g : TG} (he : PE X e te) (hg : PG X tg g) (hs : swapsWithSole [tg] e pos.line X.env = pure false := by rfl) (hw : swappedStores [tg] e X.env = pure none := by rfl)
    (h1 : (assignEach [tg] X.env).map (·.2) = [assign tg X.env] := by rfl) : PS X (.Assign [tg] e pos) (tAsg te g) := by
  intro pins s σ H D I h
  refine wpAny_Assign_stores (thn (he pins s σ H _ I h) fun v s1 ⟨x, H1, I1, r1, q1⟩ => ?_) hs hw
  rw [h1]
  exact thn (hg pins s1 σ H1 x v _ I1 r1 q1) fun _ s2 q => q
theorem ps_set {i : Nat} {x : Str} {e : Expr} {te : TE} {pos' : Pos} (hN : X.N.Nodup) (hi : X.N[i]? = some x) (hx : Loc X.env.scope x) (he : PE X e te) (hs : swapsWith e (some (.Name x pos')) pos.line X.env = pure false := by rfl) (hf : X.fn x = true ∨ X.env.scope.names.lookup x = some .local := by first | exact .inl rfl | exact .inr rfl | assumption) :
    PS X (.Assign [.Name x pos'] e pos) (tAsg te (gName i)) := by
  intro pins s σ H D I h
  refine wpAny_Assign_Name (thn (he pins s σ H _ I h) fun v s1 ⟨y, H1, I1, r1, q1⟩ => ?_) hs
  exact store_ok I1 hN hi hx r1 (fun s2 I2 => ⟨_, H1, I2, q1⟩) hf
def tPar (i j : Nat) (ta : TA) : TS := fun D σ H => ta σ H fun vs H1 => ∃ v w, vs = [v, w] ∧ D.nx ((σ.set i (some v)).set j (some w)) H1
def tAug (i : Nat) (te : TE) (ti : TIp) : TS := fun D σ H => ∃ x, σ[i]? = some (some x) ∧ te σ H fun y H1 => ti x y H1 fun z H2 => D.nx (σ.set i (some z)) H2
def tAugS (to ti te : TE) (tget : V → V → Hp → VK → Prop) (tip : TIp) (tset : TSet) : TS := fun D σ H => to σ H fun o H1 => ti σ H1 fun i H2 => tget o i H2 fun x H3 => te σ H3 fun y H4 => tip x y H4 fun z H5 => tset o i z H5 fun H6 => D.nx σ H6
def PGet (X : Cx) (t : V → V → Hp → VK → Prop) : Prop :=
  ∀ (pins : List (Addr × Obj)) (s : Shared) (σ : St) (H : Hp) (o i : V) (ov iv : Value) (Q : VK), Inv X pins σ H s → RelV o ov → RelV i iv → t o i H Q →
    wpAny (model X.prog X.w) X.A (getItem ov iv) (EP X pins σ Q) X.xe s
def ipI (f : Int → Int → Int) : TIp := fun x y H Q => ∃ i j, x = .int i ∧ y = .int j ∧ Q (.int (f i j)) H
end
section
variable {X : Cx} {pos : Pos}
def tWhile (c : TT) (tb : TS) : TS := fun D σ H => ∃ W : Nat → St → Hp → Prop, (∃ m, W m σ H) ∧ ∀ m σ H, W m σ H →
  c σ H fun b H1 => if b = true then ∃ N : St → Hp → Prop, (∀ σ' H', N σ' H' → ∃ m', m' < m ∧ W m' σ' H') ∧ tb { D with nx := N, ct := N, bk := D.nx } σ H1 else D.nx σ H1
theorem ps_while {c : Expr} {body : List Stmt} {tc : TT} {tb : TS} (hp : PassesOwn (model X.prog X.w) X.A X.env X.xe) (hc : PT X c tc) (hb : PSs X body tb) : PS X (.While c body [] pos) (tWhile tc tb) := by
  intro pins s σ H D I h
  obtain ⟨W, ⟨m0, w0⟩, turn⟩ := h
  refine wpAny_While (codeAny_whileLoop (fun n s' => ∃ σ' H', Inv X pins σ' H' s' ∧ W n σ' H') ?_ m0 ⟨σ, H, I, w0⟩)
  rintro n s1 ⟨σ1, H1, I1, w1⟩
  refine wpAny_passesOwn hp (thn (hc pins s1 σ1 H1 _ I1 (turn n σ1 H1 w1)) fun b s2 ⟨H2, I2, q2⟩ => ?_)
  cases b with
  | true =>
    obtain ⟨N, hN, q2⟩ := q2
    rw [if_pos rfl]
    refine wpAny_passesOwn hp (thn (hb pins s2 σ1 H2 _ I2 q2) fun f s3 q3 => ?_)
    cases f with
    | next =>
      obtain ⟨σ3, H3, I3, n3⟩ := q3
      obtain ⟨m', hm, w3⟩ := hN σ3 H3 n3
      exact ⟨m', hm, σ3, H3, I3, w3⟩
    | cont =>
      obtain ⟨σ3, H3, I3, n3⟩ := q3
      obtain ⟨m', hm, w3⟩ := hN σ3 H3 n3
      exact ⟨m', hm, σ3, H3, I3, w3⟩
    | brk => exact q3
    | ret v => exact q3
  | false =>
    rw [if_neg Bool.false_ne_true]
    exact wpAny_execs_nil ⟨σ1, H2, I2, q2⟩
end
structure It where
  go : Nat → Hp → Prop
  yld : Nat → Hp → V → Hp → Prop
  stop : Nat → Hp → Prop
def FpOk (X : Cx) (pins : List (Addr × Obj)) (H : Hp) (b : Addr) : Prop :=
  H b = none ∧ b ≠ X.env.locals ∧ b ∉ X.fs ∧ (b ∈ X.ex ∨ X.s₀.heap.objs.size ≤ b) ∧ (∀ x c, X.env.cells.lookup x = some c → c ≠ b) ∧ ∀ p ∈ X.pn ++ pins, p.1 ≠ b
theorem Inv.fpOk {X : Cx} {pins : List (Addr × Obj)} {σ : St} {H H' : Hp} {s : Shared} {b : Addr} (I : Inv X pins σ H s) (hb : s.heap.objs.size ≤ b) (hn : H' b = none) : FpOk X pins H' b := by
  refine ⟨hn, Nat.ne_of_gt (Nat.lt_of_lt_of_le I.lt hb), I.nofs hb, .inr (Nat.le_trans I.sz hb), fun x c e z => ?_, fun p hp z => ?_⟩
  · obtain ⟨v, q⟩ := I.cell x c e
    exact absurd (Nat.lt_of_lt_of_le q.lt (by rw [z]; exact hb)) (Nat.lt_irrefl _)
  · exact absurd (Nat.lt_of_lt_of_le (Heap.lt_size (I.pin p hp).1) (by rw [z]; exact hb)) (Nat.lt_irrefl _)
structure Turn (P : Program) (w : World) (K : PySem.W.Frag) (tg : Expr) (J : It) (fp : List Addr) (it : Addr) (tn : Nat → Heap → Prop) : Prop where
  mem : it ∈ fp
  obj : ∀ i h, tn i h → ∀ b ∈ fp, ∃ o, h.get? b = some o ∧ ∀ v, o.data ≠ .cell v
  keep : ∀ i h h', tn i h → (∀ b ∈ fp, ∀ o, h.get? b = some o → h'.get? b = some o) → tn i h'
  item : ∀ (X : Cx), X.prog = P → X.w = w → X.K = K → X.calm = true → ∀ (i : Nat) (pins : List (Addr × Obj)) (s : Shared) (σ : St) (H : Hp) (E : Value → Shared → Prop), Inv X pins σ H s → (∀ b ∈ fp, FpOk X pins H b) → tn i s.heap → J.go i H →
    wpAny (model P w) X.A (pyNext (.ref it)) (fun r s1 => ∃ u, r = some u ∧
      wpAny (model P w) X.A (letOwnedTupleGo tg (.ref it) u) (fun _ s2 => ∃ x H', Inv X pins σ H' s2 ∧ RelV x u ∧ J.yld i H x H' ∧ tn (i + 1) s2.heap ∧ ∀ b ∈ fp, H' b = none) E s1) E s
  done : ∀ (X : Cx), X.prog = P → X.w = w → X.K = K → X.calm = true → ∀ (i : Nat) (pins : List (Addr × Obj)) (s : Shared) (σ : St) (H : Hp) (E : Value → Shared → Prop), Inv X pins σ H s → (∀ b ∈ fp, FpOk X pins H b) → tn i s.heap → J.stop i H →
    wpAny (model P w) X.A (pyNext (.ref it)) (fun r s1 => r = none ∧ Inv X pins σ H s1) E s
  self : ∀ (A : Around) (i : Nat) (s : Shared) (Q : Value → Shared → Prop) (E : Value → Shared → Prop), tn i s.heap → Q (.ref it) s → wpAny (model P w) A (pyIter (.ref it)) Q E s
abbrev TI := St → Hp → (It → Hp → Prop) → Prop
def PIE (X : Cx) (pins : List (Addr × Obj)) (σ : St) (tg : Expr) (R : It → Hp → Prop) (itv : Value) (s2 : Shared) : Prop :=
  ∃ (it : Addr) (fp : List Addr) (tn : Nat → Heap → Prop) (J : It) (H' : Hp), itv = .ref it ∧ Inv X pins σ H' s2 ∧ Turn X.prog X.w X.K tg J fp it tn ∧ tn 0 s2.heap ∧ (∀ b ∈ fp, FpOk X pins H' b) ∧ R J H'
def PI (X : Cx) (tg iter : Expr) (wi : TI) : Prop :=
  ∀ (pins : List (Addr × Obj)) (s : Shared) (σ : St) (H : Hp) (R : It → Hp → Prop), Inv X pins σ H s → wi σ H R →
    wpAny (model X.prog X.w) X.A (eval iter X.env) (fun v s1 => wpAny (model X.prog X.w) X.A (pyIter v) (PIE X pins σ tg R) X.xe s1) X.xe s
theorem go_of {M : Model} {A : Around} {E : Value → Shared → Prop} {s : Shared} {tg : Expr} {it : Addr} {u : Value} {o : Obj} {n : String} {vs : Array Value} {Q : Unit → Shared → Prop} (ho : s.heap.get? it = some o) (hc : o.cls = .type n) (hd : o.data = .fields vs)
    (hn : ["enumerate", "zip", "dict_itemiterator", "dict_reverseitemiterator", "odict_iterator", "itertools.zip_longest", "itertools.pairwise"].contains n = false) (hQ : Q () s) : wpAny M A (letOwnedTupleGo tg (.ref it) u) Q E s := by
  unfold letOwnedTupleGo
  cases tg <;> first
    | exact wpAny_pure hQ
    | (cases u <;> first
        | exact wpAny_pure hQ
        | (refine wpAny_bind (wpAny_load ho ?_)
           rw [hc, hd]
           show wpAny M A (if (["enumerate", "zip", "dict_itemiterator", "dict_reverseitemiterator", "odict_iterator", "itertools.zip_longest", "itertools.pairwise"].contains n && vs[0]? == some (rawInt _)) = true then _ else _) Q E s
           rw [if_neg (by intro h; rw [hn, Bool.false_and] at h; cases h)]
           exact wpAny_pure hQ))
def Itl (K : PySem.W.Frag) (a : Addr) : It :=
  ⟨fun i H => ∃ xs x, SqL K H a xs ∧ xs[i]? = some x, fun i H x H' => H' = H ∧ ∀ xs, SqL K H a xs → xs[i]? = some x, fun i H => ∃ xs, SqL K H a xs ∧ xs.length ≤ i⟩
def Itt (K : PySem.W.Frag) (a : Addr) : It :=
  ⟨fun i H => ∃ xs x, SqT K H a xs ∧ xs[i]? = some x, fun i H x H' => H' = H ∧ ∀ xs, SqT K H a xs → xs[i]? = some x, fun i H => ∃ xs, SqT K H a xs ∧ xs.length ≤ i⟩
def Itr (lo : Int) (n : Nat) : It := ⟨fun i _ => i < n, fun i H x H' => H' = H ∧ x = .int (lo + i), fun i _ => n ≤ i⟩
theorem turn_list {P : Program} {w : World} {K : PySem.W.Frag} {tg : Expr} (a it : Addr) : Turn P w K tg (Itl K a) [it] it (fun i h => h.IsListIter it a i) where
  mem := by simp
  obj := fun i h st b hb => by
    have e : b = it := by simpa using hb
    subst e
    obtain ⟨o, e, c, d⟩ := st
    exact ⟨o, e, fun v z => by rw [d] at z; cases z⟩
  keep := fun i h h' st k => st.at fun o e => k it (by simp) o e
  item := by
    intro X hP hw hK hc i pins s σ H E I hf st hg
    subst hP hw hK
    obtain ⟨xs, x, hq, hx⟩ := hg
    obtain ⟨its, rv, p, hz⟩ := I.list hq
    obtain ⟨u, hu, ru⟩ := rv.get hx
    obtain ⟨f0, f1, f2, f3, f4, f5⟩ := hf it (by simp)
    refine wpAny_pyNext_list_item st p.isList (x := u) (by simpa using hu) fun h' st' sb => ?_
    have I1 : Inv X pins σ H { s with heap := h' } := I.turned (t' := s.toks) (fun b o hb e => (sb.2 b hb).trans e) f0 f1 f3 f4 f5
    obtain ⟨o, e, c, d⟩ := id st'
    exact ⟨u, rfl, go_of (s := { s with heap := h' }) e c d (by decide) ⟨x, H, I1, ru, ⟨rfl, fun ys hy => by rw [I.list_inj hy hq]; exact hx⟩, st', fun b hb => (hf b hb).1⟩⟩
  done := by
    intro X hP hw hK hc i pins s σ H E I hf st hg
    subst hP hw hK
    obtain ⟨xs, hq, hx⟩ := hg
    obtain ⟨its, rv, p, hz⟩ := I.list hq
    obtain ⟨f0, f1, f2, f3, f4, f5⟩ := hf it (by simp)
    have hl := rv.length
    exact wpAny_pyNext_list_end (I.ok.hd hc) st p.isList (by simp; omega) fun h' eb => ⟨rfl, I.turned (t' := s.toks) (fun b o hb e => eb b o hb e) f0 f1 f3 f4 f5⟩
  self := fun _ _ _ _ _ st h => wpAny_pyIter_listiter st h
theorem turn_tuple {P : Program} {w : World} {K : PySem.W.Frag} {tg : Expr} (a it : Addr) : Turn P w K tg (Itt K a) [it] it (fun i h => h.IsTupleIter it a i) where
  mem := by simp
  obj := fun i h st b hb => by
    have e : b = it := by simpa using hb
    subst e
    obtain ⟨o, e, c, d⟩ := st
    exact ⟨o, e, fun v z => by rw [d] at z; cases z⟩
  keep := fun i h h' st k => st.at fun o e => k it (by simp) o e
  item := by
    intro X hP hw hK hc i pins s σ H E I hf st hg
    subst hP hw hK
    obtain ⟨xs, x, hq, hx⟩ := hg
    obtain ⟨its, rv, p, hz⟩ := I.tuple hq
    obtain ⟨u, hu, ru⟩ := rv.get hx
    obtain ⟨f0, f1, f2, f3, f4, f5⟩ := hf it (by simp)
    refine wpAny_pyNext_tuple_item st (show s.heap.IsTuple a its.toArray from p) (x := u) (by simpa using hu) fun h' st' sb => ?_
    have I1 : Inv X pins σ H { s with heap := h' } := I.turned (t' := s.toks) (fun b o hb e => (sb.2 b hb).trans e) f0 f1 f3 f4 f5
    obtain ⟨o, e, c, d⟩ := id st'
    exact ⟨u, rfl, go_of (s := { s with heap := h' }) e c d (by decide) ⟨x, H, I1, ru, ⟨rfl, fun ys hy => by rw [I.tuple_inj hy hq]; exact hx⟩, st', fun b hb => (hf b hb).1⟩⟩
  done := by
    intro X hP hw hK hc i pins s σ H E I hf st hg
    subst hP hw hK
    obtain ⟨xs, hq, hx⟩ := hg
    obtain ⟨its, rv, p, hz⟩ := I.tuple hq
    obtain ⟨f0, f1, f2, f3, f4, f5⟩ := hf it (by simp)
    have hl := rv.length
    exact wpAny_pyNext_tuple_end (I.ok.hd hc) st (show s.heap.IsTuple a its.toArray from p) (by simp; omega) fun h' eb => ⟨rfl, I.turned (t' := s.toks) (fun b o hb e => eb b o hb e) f0 f1 f3 f4 f5⟩
  self := fun _ _ _ _ _ st h => wpAny_pyIter_tupleiter st h
theorem turn_range {P : Program} {w : World} {K : PySem.W.Frag} {tg : Expr} (it : Addr) (lo : Int) (n : Nat) : Turn P w K tg (Itr lo n) [it] it (fun i h => IsRangeIter h it (lo + (i : Nat) * 1) ((n : Int) - (i : Nat)) 1) where
  mem := by simp
  obj := fun i h st b hb => by
    have e : b = it := by simpa using hb
    subst e
    exact ⟨_, st, fun v z => by
      have z' : Data.fields _ = Data.cell v := z
      cases z'⟩
  keep := fun i h h' st k => k it (by simp) _ st
  item := by
    intro X hP hw hK hc i pins s σ H E I hf st hg
    subst hP hw hK
    obtain ⟨f0, f1, f2, f3, f4, f5⟩ := hf it (by simp)
    have W := Walks.range (prog := X.prog) (w := X.w) (I.ok.hd hc) it lo 1 n
    refine W.item i s _ _ hg st fun v h' tk hv st' kk => ?_
    obtain ⟨t, rfl⟩ := hv
    have I1 : Inv X pins σ H { s with heap := h', toks := tk } := I.turned (fun b o hb e => kk b o (by simpa using hb) e) f0 f1 f3 f4 f5
    refine ⟨_, rfl, go_of (s := { s with heap := h', toks := tk }) (n := "range_iterator") st' rfl rfl (by decide) ⟨.int (lo + i), H, I1, ⟨t, ?_⟩, ⟨rfl, rfl⟩, st', fun b hb => (hf b hb).1⟩⟩
    rw [Int.mul_one]
  done := by
    intro X hP hw hK hc i pins s σ H E I hf st hg
    subst hP hw hK
    obtain ⟨f0, f1, f2, f3, f4, f5⟩ := hf it (by simp)
    exact wpAny_pyNext_range_end (I.ok.hd hc) st (by have : n ≤ i := hg; omega) fun h' eb => ⟨rfl, I.turned (t' := s.toks) (fun b o hb e => eb b o hb e) f0 f1 f3 f4 f5⟩
  self := fun _ _ _ _ _ st h => wpAny_pyIter_rangeiter st h
end L2
namespace L2
open PySem PySem.Spec PyProof.Rows
section
variable {X : Cx} {tg : Expr}
def iList (K : PySem.W.Frag) (tl : TE) : TI := fun σ H R => tl σ H fun x H1 => ∃ a, x = .ref a ∧ (∃ xs, SqL K H1 a xs) ∧ R (Itl K a) H1
def iTup (K : PySem.W.Frag) (tl : TE) : TI := fun σ H R => tl σ H fun x H1 => ∃ a, x = .ref a ∧ (∃ xs, SqT K H1 a xs) ∧ R (Itt K a) H1
theorem pi_list {l : Expr} {tl : TE} (hl : PE X l tl) : PI X tg l (iList X.K tl) := by
  intro pins s σ H R I h
  refine thn (hl pins s σ H _ I h) fun v s1 ⟨x, H1, I1, r1, q1⟩ => ?_
  obtain ⟨a, e, ⟨xs, hq⟩, q⟩ := q1
  subst e
  cases r1
  obtain ⟨its, rv, p, hz⟩ := I1.list hq
  refine wpAny_pyIter_list p.isList ?_
  refine ⟨s1.heap.objs.size, [s1.heap.objs.size], _, _, H1, rfl, I1.kept (t' := s1.toks) fun b o e => Heap.get?_push_of_some _ e, turn_list a _, ⟨_, Heap.get?_push_size _ rfl, rfl, rfl⟩, fun b hb => ?_, q⟩
  have e : b = s1.heap.objs.size := by simpa using hb
  subst e
  exact I1.fpOk (Nat.le_refl _) (I1.hok.fresh (Nat.le_refl _))
theorem pi_tup {l : Expr} {tl : TE} (hl : PE X l tl) : PI X tg l (iTup X.K tl) := by
  intro pins s σ H R I h
  refine thn (hl pins s σ H _ I h) fun v s1 ⟨x, H1, I1, r1, q1⟩ => ?_
  obtain ⟨a, e, ⟨xs, hq⟩, q⟩ := q1
  subst e
  cases r1
  obtain ⟨its, rv, p, hz⟩ := I1.tuple hq
  refine wpAny_pyIter_tuple (show s1.heap.IsTuple a its.toArray from p) ?_
  refine ⟨s1.heap.objs.size, [s1.heap.objs.size], _, _, H1, rfl, I1.kept (t' := s1.toks) fun b o e => Heap.get?_push_of_some _ e, turn_tuple a _, ⟨_, Heap.get?_push_size _ rfl, rfl, rfl⟩, fun b hb => ?_, q⟩
  have e : b = s1.heap.objs.size := by simpa using hb
  subst e
  exact I1.fpOk (Nat.le_refl _) (I1.hok.fresh (Nat.le_refl _))
theorem range_it {pins : List (Addr × Obj)} {σ : St} {H : Hp} {s : Shared} {R : It → Hp → Prop} {E : Value → Shared → Prop} {lo hi : Int} {t u v : Tok} {tk : Nat} (I : Inv X pins σ H s) (h1 : -(2 ^ 62) ≤ lo) (h2 : lo < 2 ^ 62) (h3 : -(2 ^ 62) ≤ hi) (h4 : hi < 2 ^ 62)
    (q : R (Itr lo (hi - lo).toNat) H) : wpAny (model X.prog X.w) X.A (pyIter (.ref s.heap.objs.size)) (PIE X pins σ tg R) E { s with heap := s.heap.push { cls := .type "range", data := .fields #[.int lo t, .int hi u, .int 1 v] }, toks := tk } := by
  refine wpAny_pyIter_range (IsRange.new ..) (small_one h1 h2 h3 h4) ?_
  have I1 : Inv X pins σ H { s with heap := s.heap.push { cls := .type "range", data := .fields #[.int lo t, .int hi u, .int 1 v] }, toks := tk } := I.kept fun b o e => Heap.get?_push_of_some _ e
  refine ⟨(s.heap.push { cls := .type "range", data := .fields #[.int lo t, .int hi u, .int 1 v] }).objs.size, [(s.heap.push { cls := .type "range", data := .fields #[.int lo t, .int hi u, .int 1 v] }).objs.size], _, _, H, rfl,
    I1.kept (t' := tk) fun b o e => Heap.get?_push_of_some _ e, turn_range _ lo (hi - lo).toNat, ?_, fun b hb => ?_, q⟩
  · have e1 : lo + ((0 : Nat) : Int) * 1 = lo := by simp
    have e2 : (((hi - lo).toNat : Nat) : Int) - ((0 : Nat) : Int) = Builtin.Range.rangeSize lo hi 1 := by rw [rangeSize_one]; split <;> omega
    show IsRangeIter _ _ (lo + ((0 : Nat) : Int) * 1) ((((hi - lo).toNat : Nat) : Int) - ((0 : Nat) : Int)) 1
    rw [e1, e2]
    exact Heap.get?_push_size _ rfl
  · have e : b = (s.heap.push { cls := .type "range", data := .fields #[.int lo t, .int hi u, .int 1 v] }).objs.size := by simpa using hb
    subst e
    exact I1.fpOk (Nat.le_refl _) (I1.hok.fresh (Nat.le_refl _))
def iRng1 (ta : TA) : TI := fun σ H R => ta σ H fun vs H1 => ∃ j : Int, vs = [.int j] ∧ -(2 ^ 62) ≤ j ∧ j < 2 ^ 62 ∧ R (Itr 0 j.toNat) H1
def iRng2 (ta : TA) : TI := fun σ H R => ta σ H fun vs H1 => ∃ i j : Int, vs = [.int i, .int j] ∧ (-(2 ^ 62) ≤ i ∧ i < 2 ^ 62 ∧ -(2 ^ 62) ≤ j ∧ j < 2 ^ 62) ∧ R (Itr i (j - i).toNat) H1
theorem pi_range1 {a : Expr} {ta : TA} {p pos : Pos} (hg : Gl X "range") (hm : X.mg "range" = none) (ha : PA X [a] ta) (hs : starEach [a] X.env = [(false, eval a X.env)] := by rfl) : PI X tg (.Call (.Name "range" p) [a] [] pos) (iRng1 ta) := by
  intro pins s σ H R I h
  refine Call_ (ld_blt I hg hm boot_range (PyProof.Rows.callWith_type1 (thn (ha pos pins s σ H _ I h) fun us s1 ⟨vs, H1, I1, r1, q1⟩ => ?_) hs rfl))
  obtain ⟨j, e, q1, q2, q⟩ := q1
  subst e
  cases r1 with
  | cons r rr =>
    cases rr
    obtain ⟨t, rfl⟩ := r
    exact call_range_1 (range_it I1 (by omega) (by omega) q1 q2 (by simpa using q))
def tFor (wi : TI) (g : TG) (tb : TS) : TS := fun D σ H => wi σ H fun J H1 => ∃ W : Nat → Nat → St → Hp → Prop, (∃ m, W 0 m σ H1) ∧ ∀ i m σ H, W i m σ H →
  (J.stop i H ∧ D.nx σ H) ∨ (J.go i H ∧ ∃ N : St → Hp → Prop, (∀ σ' H', N σ' H' → ∃ m', m' < m ∧ W (i + 1) m' σ' H') ∧ ∀ x H', J.yld i H x H' → g x σ H' fun σ2 H2 => tb { D with nx := N, ct := N, bk := D.nx } σ2 H2)
def pinsAt (fp : List Addr) (h : Heap) : List (Addr × Obj) := fp.filterMap fun b => (h.get? b).map fun o => (b, o)
theorem mem_pinsAt {fp : List Addr} {h : Heap} {b : Addr} {o : Obj} (hb : b ∈ fp) (e : h.get? b = some o) : (b, o) ∈ pinsAt fp h := List.mem_filterMap.mpr ⟨b, hb, by rw [e]; rfl⟩
theorem of_pinsAt {fp : List Addr} {h : Heap} {p : Addr × Obj} (hp : p ∈ pinsAt fp h) : p.1 ∈ fp ∧ h.get? p.1 = some p.2 := by
  obtain ⟨b, hb, e⟩ := List.mem_filterMap.mp hp
  cases q : h.get? b with
  | none => rw [q] at e; cases e
  | some o =>
    rw [q] at e
    have e' : (b, o) = p := Option.some.inj e
    subst e'
    exact ⟨hb, q⟩
theorem Inv.pinned {pins : List (Addr × Obj)} {σ : St} {H : Hp} {s : Shared} {fp : List Addr} (I : Inv X pins σ H s) (hf : ∀ b ∈ fp, FpOk X pins H b) (ho : ∀ b ∈ fp, ∃ o, s.heap.get? b = some o ∧ ∀ v, o.data ≠ .cell v) : Inv X (pins ++ pinsAt fp s.heap) σ H s :=
  I.pins_of fun p hp => (List.mem_append.mp hp).elim (fun z => I.pin p (List.mem_append_right _ z)) fun z => by
    obtain ⟨hb, e⟩ := of_pinsAt z
    obtain ⟨f0, f1, f2, _⟩ := hf p.1 hb
    obtain ⟨o, e', d⟩ := ho p.1 hb
    rw [e] at e'; cases e'
    exact ⟨e, f0, f1, f2, d⟩
theorem Inv.unpinned {pins pl : List (Addr × Obj)} {σ : St} {H : Hp} {s : Shared} (I : Inv X (pins ++ pl) σ H s) : Inv X pins σ H s := I.pins_of fun p hp => I.pin p (List.mem_append_right _ (List.mem_append_left _ hp))
theorem ps_for {iter : Expr} {body : List Stmt} {wi : TI} {g : TG} {tb : TS} {pos : Pos} (hp : PassesOwn (model X.prog X.w) X.A X.env X.xe) (hc : X.calm = true) (hi : PI X tg iter wi) (hg : PG X tg g) (hb : PSs X body tb)
    (hs : ∀ x, foldedSetIterable iter X.env x = pure x := by intro _; rfl) : PS X (.For tg iter body [] pos) (tFor wi g tb) := by
  intro pins s σ H D I h
  refine wpAny_For (thn (hi pins s σ H _ I h) fun v s1 h1 => thn h1 fun itv s2 h2 => ?_) hs
  obtain ⟨it, fp, tn, J, H2, e, I2, T, st2, f2, W, ⟨m0, w0⟩, turn⟩ := h2
  subst e
  -- what stays true of the iterator's objects through the loop
  have stat : ∀ {H' : Hp}, (∀ b ∈ fp, H' b = none) → ∀ b ∈ fp, FpOk X pins H' b := fun hn b hb => ⟨hn b hb, (f2 b hb).2⟩
  refine codeAny_forLoop_any (fun n s' => ∃ i σ' H', Inv X pins σ' H' s' ∧ tn i s'.heap ∧ (∀ b ∈ fp, H' b = none) ∧ W i n σ' H') ?_ m0 ⟨0, σ, H2, I2, st2, fun b hb => (f2 b hb).1, w0⟩
  rintro n s3 ⟨i, σ3, H3, I3, st3, fr3, w3⟩
  rcases turn i n σ3 H3 w3 with ⟨stop, qn⟩ | ⟨go, N, hN, step⟩
  · refine wpAny_passesOwn hp (thn (T.done X rfl rfl rfl hc i pins s3 σ3 H3 X.xe I3 (stat fr3) st3 stop) fun r s4 ⟨hr, I4⟩ => ?_)
    subst hr
    exact wpAny_execs_nil ⟨σ3, H3, I4, qn⟩
  · refine wpAny_passesOwn hp (thn (T.item X rfl rfl rfl hc i pins s3 σ3 H3 X.xe I3 (stat fr3) st3 go) fun r s4 ⟨u, hr, h4⟩ => ?_)
    subst hr
    refine wpAny_passesOwn hp (thn h4 fun _ s5 ⟨x, H5, I5, r5, y5, st5, fr5⟩ => ?_)
    have I5' := I5.pinned (stat fr5) (T.obj _ _ st5)
    refine wpAny_passesOwn hp (thn (hg _ s5 σ3 H5 x u _ I5' r5 (step x H5 y5)) fun _ s6 ⟨σ6, H6, I6, q6⟩ => ?_)
    refine wpAny_passesOwn hp (thn (hb _ s6 σ6 H6 _ I6 q6) fun f s7 q7 => ?_)
    have again : ∀ {σ7 : St} {H7 : Hp}, Inv X (pins ++ pinsAt fp s5.heap) σ7 H7 s7 → N σ7 H7 → ∃ m, m < n ∧ ∃ i σ' H', Inv X pins σ' H' s7 ∧ tn i s7.heap ∧ (∀ b ∈ fp, H' b = none) ∧ W i m σ' H' := fun {σ7 H7} I7 n7 => by
      obtain ⟨m', hm, w7⟩ := hN σ7 H7 n7
      refine ⟨m', hm, i + 1, σ7, H7, I7.unpinned, T.keep _ _ _ st5 fun b hb o e => (I7.pin (b, o) (List.mem_append_right _ (List.mem_append_right _ (mem_pinsAt hb e)))).1, fun b hb => ?_, w7⟩
      obtain ⟨o, e, d⟩ := T.obj _ _ st5 b hb
      exact (I7.pin (b, o) (List.mem_append_right _ (List.mem_append_right _ (mem_pinsAt hb e)))).2.1
    cases f with
    | next => obtain ⟨σ7, H7, I7, n7⟩ := q7; exact again I7 n7
    | cont => obtain ⟨σ7, H7, I7, n7⟩ := q7; exact again I7 n7
    | brk => obtain ⟨σ7, H7, I7, q7⟩ := q7; exact ⟨σ7, H7, I7.unpinned, q7⟩
    | ret v => obtain ⟨x7, σ7, H7, I7, r7, q7⟩ := q7; exact ⟨x7, σ7, H7, I7.unpinned, r7, q7⟩
end
theorem for_list {K : PySem.W.Frag} {a : Addr} {xs : List V} {g : TG} {tb : TS} {D : Ends} {σ : St} {H : Hp} (Pv : Nat → St → Hp → Prop) (h0 : Pv 0 σ H) (hl : ∀ i σ H, i ≤ xs.length → Pv i σ H → SqL K H a xs)
    (hs : ∀ i x σ H, xs[i]? = some x → Pv i σ H → g x σ H fun σ2 H2 => tb { D with nx := Pv (i + 1), ct := Pv (i + 1), bk := D.nx } σ2 H2) (hd : ∀ σ H, Pv xs.length σ H → D.nx σ H) :
    ∃ W : Nat → Nat → St → Hp → Prop, (∃ m, W 0 m σ H) ∧ ∀ i m σ H, W i m σ H →
      ((Itl K a).stop i H ∧ D.nx σ H) ∨ ((Itl K a).go i H ∧ ∃ N : St → Hp → Prop, (∀ σ' H', N σ' H' → ∃ m', m' < m ∧ W (i + 1) m' σ' H') ∧ ∀ x H', (Itl K a).yld i H x H' → g x σ H' fun σ2 H2 => tb { D with nx := N, ct := N, bk := D.nx } σ2 H2) := by
  refine ⟨fun i m σ H => m = xs.length - i ∧ i ≤ xs.length ∧ Pv i σ H, ⟨xs.length, by simp, Nat.zero_le _, h0⟩, ?_⟩
  rintro i m σ H ⟨rfl, hi, p⟩
  have q := hl i σ H hi p
  by_cases hlt : i < xs.length
  · refine .inr ⟨⟨xs, xs[i], q, by simp [hlt]⟩, Pv (i + 1), fun σ' H' p' => ⟨xs.length - (i + 1), by omega, rfl, hlt, p'⟩, fun x H' y => ?_⟩
    obtain ⟨e, y⟩ := y
    subst e
    exact hs i x σ _ (y xs q) p
  · have e : i = xs.length := by omega
    subst e
    exact .inl ⟨⟨xs, q, Nat.le_refl _⟩, hd σ H p⟩
theorem for_range {lo : Int} {n : Nat} {g : TG} {tb : TS} {D : Ends} {σ : St} {H : Hp} (Pv : Nat → St → Hp → Prop) (h0 : Pv 0 σ H)
    (hs : ∀ i σ H, i < n → Pv i σ H → g (.int (lo + i)) σ H fun σ2 H2 => tb { D with nx := Pv (i + 1), ct := Pv (i + 1), bk := D.nx } σ2 H2) (hd : ∀ σ H, Pv n σ H → D.nx σ H) :
    ∃ W : Nat → Nat → St → Hp → Prop, (∃ m, W 0 m σ H) ∧ ∀ i m σ H, W i m σ H →
      ((Itr lo n).stop i H ∧ D.nx σ H) ∨ ((Itr lo n).go i H ∧ ∃ N : St → Hp → Prop, (∀ σ' H', N σ' H' → ∃ m', m' < m ∧ W (i + 1) m' σ' H') ∧ ∀ x H', (Itr lo n).yld i H x H' → g x σ H' fun σ2 H2 => tb { D with nx := N, ct := N, bk := D.nx } σ2 H2) := by
  refine ⟨fun i m σ H => m = n - i ∧ i ≤ n ∧ Pv i σ H, ⟨n, by simp, Nat.zero_le _, h0⟩, ?_⟩
  rintro i m σ H ⟨rfl, hi, p⟩
  by_cases hlt : i < n
  · refine .inr ⟨hlt, Pv (i + 1), fun σ' H' p' => ⟨n - (i + 1), by omega, rfl, hlt, p'⟩, fun x H' y => ?_⟩
    obtain ⟨e, y⟩ := y
    subst e y
    exact hs i σ _ hlt p
  · have e : i = n := by omega
    subst e
    exact .inl ⟨Nat.le_refl _, hd σ H p⟩
end L2
namespace L2
open PySem PySem.Spec PyProof.Rows
abbrev R2 := V → V → Hp → VK → Prop
def OpR (X : Cx) (f : Value → Value → Sem Value) (r : R2) : Prop :=
  ∀ (pins : List (Addr × Obj)) (s : Shared) (σ : St) (H : Hp) (x y : V) (v u : Value) (Q : VK), Inv X pins σ H s → RelV x v → RelV y u → r x y H Q →
    wpAny (model X.prog X.w) X.A (f v u) (EP X pins σ Q) X.xe s
def UnR (X : Cx) (f : Value → Sem Value) (r : V → Hp → VK → Prop) : Prop :=
  ∀ (pins : List (Addr × Obj)) (s : Shared) (σ : St) (H : Hp) (x : V) (v : Value) (Q : VK), Inv X pins σ H s → RelV x v → r x H Q →
    wpAny (model X.prog X.w) X.A (f v) (EP X pins σ Q) X.xe s
def CallR (X : Cx) (f : Value) (r : List V → Hp → VK → Prop) : Prop :=
  ∀ (pins : List (Addr × Obj)) (s : Shared) (σ : St) (H : Hp) (xs : List V) (us : List Value) (Q : VK), Inv X pins σ H s → Vals xs us → r xs H Q →
    wpAny (model X.prog X.w) X.A (call f us) (EP X pins σ Q) X.xe s
def TruR (X : Cx) (r : V → Hp → (Bool → Hp → Prop) → Prop) : Prop :=
  ∀ (pins : List (Addr × Obj)) (s : Shared) (σ : St) (H : Hp) (x : V) (v : Value) (Q : Bool → Hp → Prop), Inv X pins σ H s → RelV x v → r x H Q →
    wpAny (model X.prog X.w) X.A (truthy v) (TP X pins σ Q) X.xe s
def tOp (r : R2) (ta tb : TE) : TE := fun σ H Q => ta σ H fun x H1 => tb σ H1 fun y H2 => r x y H2 Q
def tUn (r : V → Hp → VK → Prop) (ta : TE) : TE := fun σ H Q => ta σ H fun x H1 => r x H1 Q
def rI (C : Int → Int → Prop) (g : Int → Int → V) : R2 := fun x y H Q => ∃ i j, x = .int i ∧ y = .int j ∧ C i j ∧ Q (g i j) H
def rI0 (g : Int → Int → V) : R2 := fun x y H Q => ∃ i j, x = .int i ∧ y = .int j ∧ Q (g i j) H
def rU (g : Int → V) : V → Hp → VK → Prop := fun x H Q => ∃ i, x = .int i ∧ Q (g i) H
section
variable {X : Cx} {a b c : Expr} {ta tb tc : TE} {pos : Pos}
theorem binT (ha : PE X a ta) (hb : PE X b tb) {pins : List (Addr × Obj)} {s : Shared} {σ : St} {H : Hp} {R : V → V → Hp → Prop} (I : Inv X pins σ H s)
    (h : ta σ H fun x H1 => tb σ H1 fun y H2 => R x y H2) {Q : Value → Shared → Prop} {f : Value → Value → Sem Value}
    (hf : ∀ v u s2 x y H2, Inv X pins σ H2 s2 → RelV x v → RelV y u → R x y H2 → wpAny (model X.prog X.w) X.A (f v u) Q X.xe s2) :
    wpAny (model X.prog X.w) X.A (eval a X.env) (fun v s₁ => wpAny (model X.prog X.w) X.A (eval b X.env) (fun u s₂ => wpAny (model X.prog X.w) X.A (f v u) Q X.xe s₂) X.xe s₁) X.xe s := by
  refine thn (ha pins s σ H _ I h) fun v s1 ⟨x, H1, I1, r1, q1⟩ => ?_
  refine thn (hb pins s1 σ H1 _ I1 q1) fun u s2 ⟨y, H2, I2, r2, q2⟩ => ?_
  exact hf v u s2 x y H2 I2 r1 r2 q2
theorem pe_op {op : Operator} {r : R2} (ho : OpR X (binaryOp op) r) (ha : PE X a ta) (hb : PE X b tb) : PE X (.BinOp a op b pos) (tOp r ta tb) := by
  intro pins s σ H Q I h
  exact wpAny_BinOp (binT ha hb I h fun v u s2 x y H2 I2 rx ry q => ho pins s2 σ H2 x y v u Q I2 rx ry q)
theorem pe_un {op : UnaryOp} {r : V → Hp → VK → Prop} (ho : UnR X (unaryOp op) r) (ha : PE X a ta) : PE X (.UnaryOp op a pos) (tUn r ta) := by
  intro pins s σ H Q I h
  exact UnaryOp_ (thn (ha pins s σ H _ I h) fun v s1 ⟨x, H1, I1, r1, q1⟩ => ho pins s1 σ H1 x v Q I1 r1 q1)
theorem opI {f : Value → Value → Sem Value} {C : Int → Int → Prop} {g : Int → Int → Int}
    (rule : ∀ (i j : Int) (t u : Tok) (s : Shared) (Q : Value → Shared → Prop) (E : Value → Shared → Prop), C i j → Q (.int (g i j) s.toks) { s with toks := s.toks + 1 } → wpAny (model X.prog X.w) X.A (f (.int i t) (.int j u)) Q E s) :
    OpR X f (rI C fun i j => .int (g i j)) := by
  intro pins s σ H x y v u Q I rx ry h
  obtain ⟨i, j, rfl, rfl, hc, q⟩ := h
  obtain ⟨t, rfl⟩ := rx
  obtain ⟨t', rfl⟩ := ry
  exact rule i j t t' s _ _ hc ⟨.int (g i j), H, I.tok _, ⟨_, rfl⟩, q⟩
theorem opI0 {f : Value → Value → Sem Value} {g : Int → Int → Int}
    (rule : ∀ (i j : Int) (t u : Tok) (s : Shared) (Q : Value → Shared → Prop) (E : Value → Shared → Prop), Q (.int (g i j) s.toks) { s with toks := s.toks + 1 } → wpAny (model X.prog X.w) X.A (f (.int i t) (.int j u)) Q E s) :
    OpR X f (rI0 fun i j => .int (g i j)) := by
  intro pins s σ H x y v u Q I rx ry h
  obtain ⟨i, j, rfl, rfl, q⟩ := h
  obtain ⟨t, rfl⟩ := rx
  obtain ⟨t', rfl⟩ := ry
  exact rule i j t t' s _ _ ⟨.int (g i j), H, I.tok _, ⟨_, rfl⟩, q⟩
theorem opB0 {f : Value → Value → Sem Value} {g : Int → Int → Bool}
    (rule : ∀ (i j : Int) (t u : Tok) (s : Shared) (Q : Value → Shared → Prop) (E : Value → Shared → Prop), Q (.bool (g i j)) s → wpAny (model X.prog X.w) X.A (f (.int i t) (.int j u)) Q E s) :
    OpR X f (rI0 fun i j => .bl (g i j)) := by
  intro pins s σ H x y v u Q I rx ry h
  obtain ⟨i, j, rfl, rfl, q⟩ := h
  obtain ⟨t, rfl⟩ := rx
  obtain ⟨t', rfl⟩ := ry
  exact rule i j t t' s _ _ ⟨.bl (g i j), H, I, rfl, q⟩
def CDiv (i j : Int) : Prop := 0 < j ∧ j < 1073741824
def CDivN (i j : Int) : Prop := j ≠ 0 ∧ j.natAbs < 1073741824
def CPow (i j : Int) : Prop := 0 ≤ j ∧ j ≤ 1000000 ∧ i.natAbs < 2 ^ 64
def CMul (i j : Int) : Prop := (-(2 ^ 64) < i ∧ i < 2 ^ 64) ∨ (-(2 ^ 64) < j ∧ j < 2 ^ 64)
theorem CMul.ok {i j : Int} (h : CMul i j) : IntMulOk i j := by
  rcases h with ⟨h1, h2⟩ | ⟨h1, h2⟩
  · exact .of_left (intBits_le_64 h1 h2)
  · exact .of_right (intBits_le_64 h1 h2)
theorem op_add : OpR X (binaryOp .Add) (rI0 fun i j => .int (i + j)) := opI0 fun _ _ _ _ _ _ _ q => add_int q
theorem op_sub : OpR X (binaryOp .Sub) (rI0 fun i j => .int (i - j)) := opI0 fun _ _ _ _ _ _ _ q => sub_int q
theorem op_mul : OpR X (binaryOp .Mult) (rI CMul fun i j => .int (i * j)) := opI fun _ _ _ _ _ _ _ hc q => mul_int q hc.ok
theorem op_mod : OpR X (binaryOp .Mod) (rI (fun _ j => 0 < j) fun i j => .int (i % j)) := opI fun i j _ _ _ _ _ hc q => by
  have h1 : (0 : Int) < j := hc
  exact mod_int' (by omega) (by rw [Int.fmod_eq_emod_of_nonneg i (by omega)]; exact q)
theorem op_pow : OpR X (binaryOp .Pow) (rI CPow fun i j => .int (i ^ j.toNat)) := opI fun _ _ _ _ _ _ _ hc q => pow_int_small hc.1 hc.2.1 hc.2.2 q
theorem unI {f : Value → Sem Value} {g : Int → Int}
    (rule : ∀ (i : Int) (t : Tok) (s : Shared) (Q : Value → Shared → Prop) (E : Value → Shared → Prop), Q (.int (g i) s.toks) { s with toks := s.toks + 1 } → wpAny (model X.prog X.w) X.A (f (.int i t)) Q E s) :
    UnR X f (rU fun i => .int (g i)) := by
  intro pins s σ H x v Q I rx h
  obtain ⟨i, rfl, q⟩ := h
  obtain ⟨t, rfl⟩ := rx
  exact rule i t s _ _ ⟨.int (g i), H, I.tok _, ⟨_, rfl⟩, q⟩
theorem un_neg : UnR X (unaryOp .USub) (rU fun i => .int (-i)) := unI fun _ _ _ _ _ q => neg_int q
end
def scal : V → V → Bool
  | .non, .non => true | .non, .int _ => true | .int _, .non => true | .non, .bl _ => true | .bl _, .non => true | .non, .str _ => true | .str _, .non => true
  | .int _, .int _ => true | .bl _, .bl _ => true | .str _, .str _ => true | .byt _, .byt _ => true
  | .int _, .str _ => true | .str _, .int _ => true | .bl _, .str _ => true | .str _, .bl _ => true
  | _, _ => false
def rEq : R2 := fun x y H Q => scal x y = true ∧ Q (.bl (decide (x = y))) H
def rNe : R2 := fun x y H Q => scal x y = true ∧ Q (.bl (!decide (x = y))) H
theorem dec_int {i j : Int} : decide (V.int i = V.int j) = (i == j) := by
  rw [Bool.eq_iff_iff]
  simp
theorem dec_bl {i j : Bool} : decide (V.bl i = V.bl j) = (i == j) := by
  rw [Bool.eq_iff_iff]
  simp
theorem dec_str {i j : Str} : decide (V.str i = V.str j) = (i == j) := by
  rw [Bool.eq_iff_iff]
  simp
theorem dec_byt {i j : Array UInt8} : decide (V.byt i = V.byt j) = (i.toList == j.toList) := by
  rw [Bool.eq_iff_iff]
  cases i
  cases j
  simp
section
variable {X : Cx} {a b c : Expr} {ta tb tc : TE} {pos : Pos}
theorem fin_bl {pins : List (Addr × Obj)} {σ : St} {H : Hp} {s : Shared} {Q : VK} {k k' : Bool} (I : Inv X pins σ H s) (q : Q (.bl k) H) (e : k = k') : EP X pins σ Q (.bool k') s := by
  subst e
  exact ⟨.bl k, H, I, rfl, q⟩
theorem op_eq : OpR X (compareOp .Eq) rEq := by
  intro pins s σ H x y v u Q I rx ry h
  obtain ⟨hs, q⟩ := h
  cases x with
  | non =>
    cases rx
    cases y with
    | non => cases ry; exact PySem.EqNone.eq_none_none (fin_bl I q (by simp))
    | bl j => cases ry; exact PySem.EqNone.eq_none_bool (fin_bl I q (by simp))
    | int j => obtain ⟨t', rfl⟩ := ry; exact PySem.EqNone.eq_none_int (fin_bl I q (by simp))
    | str j => obtain ⟨t', rfl⟩ := ry; exact PySem.EqNone.eq_none_str (fin_bl I q (by simp))
    | _ => exact absurd (show false = true from hs) Bool.false_ne_true
  | bl i =>
    cases rx
    cases y with
    | non => cases ry; exact PySem.EqNone.eq_bool_none (fin_bl I q (by simp))
    | bl j => cases ry; exact eq_bool (fin_bl I q dec_bl)
    | str j => obtain ⟨t', rfl⟩ := ry; exact PySem.EqMixed.eq_bool_str (fin_bl I q (by simp))
    | _ => exact absurd (show false = true from hs) Bool.false_ne_true
  | int i =>
    obtain ⟨t, rfl⟩ := rx
    cases y with
    | non => cases ry; exact PySem.EqNone.eq_int_none (fin_bl I q (by simp))
    | int j => obtain ⟨t', rfl⟩ := ry; exact eq_int (fin_bl I q dec_int)
    | str j => obtain ⟨t', rfl⟩ := ry; exact PySem.EqMixed.eq_int_str (fin_bl I q (by simp))
    | _ => exact absurd (show false = true from hs) Bool.false_ne_true
  | str i =>
    obtain ⟨t, rfl⟩ := rx
    cases y with
    | non => cases ry; exact PySem.EqNone.eq_str_none (fin_bl I q (by simp))
    | bl j => cases ry; exact PySem.EqMixed.eq_str_bool (fin_bl I q (by simp))
    | int j => obtain ⟨t', rfl⟩ := ry; exact PySem.EqMixed.eq_str_int (fin_bl I q (by simp))
    | str j => obtain ⟨t', rfl⟩ := ry; exact eq_str (fin_bl I q dec_str)
    | _ => exact absurd (show false = true from hs) Bool.false_ne_true
  | byt i =>
    obtain ⟨t, rfl⟩ := rx
    cases y with
    | byt j => obtain ⟨t', rfl⟩ := ry; exact PySem.W.eq_bytes (fin_bl I q dec_byt)
    | _ => exact absurd (show false = true from hs) Bool.false_ne_true
  | _ => cases y <;> exact absurd (show false = true from hs) Bool.false_ne_true
theorem op_ne : OpR X (compareOp .NotEq) rNe := by
  intro pins s σ H x y v u Q I rx ry h
  obtain ⟨hs, q⟩ := h
  cases x with
  | non =>
    cases rx
    cases y with
    | non => cases ry; exact PySem.EqNone.ne_none_none (fin_bl I q (by simp))
    | bl j => cases ry; exact PySem.EqNone.ne_none_bool (fin_bl I q (by simp))
    | int j => obtain ⟨t', rfl⟩ := ry; exact PySem.EqNone.ne_none_int (fin_bl I q (by simp))
    | str j => obtain ⟨t', rfl⟩ := ry; exact PySem.EqNone.ne_none_str (fin_bl I q (by simp))
    | _ => exact absurd (show false = true from hs) Bool.false_ne_true
  | bl i =>
    cases rx
    cases y with
    | non => cases ry; exact PySem.EqNone.ne_bool_none (fin_bl I q (by simp))
    | bl j => cases ry; exact ne_bool (fin_bl I q (congrArg not dec_bl))
    | str j => obtain ⟨t', rfl⟩ := ry; exact PySem.EqMixed.ne_bool_str (fin_bl I q (by simp))
    | _ => exact absurd (show false = true from hs) Bool.false_ne_true
  | int i =>
    obtain ⟨t, rfl⟩ := rx
    cases y with
    | non => cases ry; exact PySem.EqNone.ne_int_none (fin_bl I q (by simp))
    | int j => obtain ⟨t', rfl⟩ := ry; exact ne_int (fin_bl I q (congrArg not dec_int))
    | str j => obtain ⟨t', rfl⟩ := ry; exact PySem.EqMixed.ne_int_str (fin_bl I q (by simp))
    | _ => exact absurd (show false = true from hs) Bool.false_ne_true
  | str i =>
    obtain ⟨t, rfl⟩ := rx
    cases y with
    | non => cases ry; exact PySem.EqNone.ne_str_none (fin_bl I q (by simp))
    | bl j => cases ry; exact PySem.EqMixed.ne_str_bool (fin_bl I q (by simp))
    | int j => obtain ⟨t', rfl⟩ := ry; exact PySem.EqMixed.ne_str_int (fin_bl I q (by simp))
    | str j => obtain ⟨t', rfl⟩ := ry; exact ne_str (fin_bl I q (congrArg not dec_str))
    | _ => exact absurd (show false = true from hs) Bool.false_ne_true
  | byt i =>
    obtain ⟨t, rfl⟩ := rx
    cases y with
    | byt j => obtain ⟨t', rfl⟩ := ry; exact PySem.W.ne_bytes (fin_bl I q (congrArg not dec_byt))
    | _ => exact absurd (show false = true from hs) Bool.false_ne_true
  | _ => cases y <;> exact absurd (show false = true from hs) Bool.false_ne_true
theorem op_lt : OpR X (compareOp .Lt) (rI0 fun i j => .bl (decide (i < j))) := opB0 fun _ _ _ _ _ _ _ q => lt_int q
theorem op_gt : OpR X (compareOp .Gt) (rI0 fun i j => .bl (decide (j < i))) := opB0 fun _ _ _ _ _ _ _ q => gt_int q
theorem op_isN : OpR X (compareOp .Is) (fun x y H Q => y = .non ∧ Q (.bl (decide (x = .non))) H) := by
  intro pins s σ H x y v u Q I rx ry h
  obtain ⟨rfl, q⟩ := h
  cases ry
  refine is_none_gen (fin_bl I q ?_)
  cases x <;> first
    | (cases rx; rfl)
    | (obtain ⟨t, rfl⟩ := rx; rfl)
def isObj : HO → Bool
  | .lst _ => true
  | .ins _ _ _ => true
  | _ => false
theorem OpR.or {f : Value → Value → Sem Value} {r r' : R2} (h : OpR X f r) (h' : OpR X f r') : OpR X f (fun x y H Q => r x y H Q ∨ r' x y H Q) := by
  intro pins s σ H x y v u Q I rx ry q
  rcases q with q | q
  · exact h pins s σ H x y v u Q I rx ry q
  · exact h' pins s σ H x y v u Q I rx ry q
theorem nomark (b : Expr) {op : CmpOp} (h : op ≠ .In := by decide) (h2 : op ≠ .NotIn := by decide) : behindInMarks op b = false := by
  have e1 : (op == CmpOp.In) = false := by cases op <;> first | rfl | exact absurd rfl h
  have e2 : (op == CmpOp.NotIn) = false := by cases op <;> first | rfl | exact absurd rfl h2
  cases b <;> simp [behindInMarks, e1, e2]
theorem pe_cmpR {op : CmpOp} {r : R2} (ho : OpR X (compareOp op) r) (ha : PE X a ta) (hb : PE X b tb) (hm : behindInMarks op b = false) : PE X (.Compare a [op] [b] pos) (tOp r ta tb) := by
  intro pins s σ H Q I h
  exact wpAny_Compare1 (binT ha hb I h fun v u s2 x y H2 I2 rx ry q => ho pins s2 σ H2 x y v u Q I2 rx ry q) hm
def tTest (t : TE) : TT := fun σ H Q => t σ H fun x H' => ∃ k, x = .bl k ∧ Q k H'
theorem pt_cmpR {op : CmpOp} {r : R2} (ho : OpR X (compareOp op) r) (ha : PE X a ta) (hb : PE X b tb) (hm : behindInMarks op b = false) : PT X (.Compare a [op] [b] pos) (tTest (tOp r ta tb)) := by
  intro pins s σ H Q I h
  refine wpAny_isTrue_Compare1 (thn (ha pins s σ H _ I h) fun v s1 ⟨x, H1, I1, r1, q1⟩ => thn (hb pins s1 σ H1 _ I1 q1) fun u s2 ⟨y, H2, I2, r2, q2⟩ =>
    thn (ho pins s2 σ H2 x y v u _ I2 r1 r2 q2) fun c s3 ⟨z, H3, I3, r3, k, e, q3⟩ => ?_) hm
  subst e
  cases r3
  exact wpAny_truthy_bool ⟨H3, I3, q3⟩
def tChain (r r' : R2) (ta tb tc : TE) : TE := fun σ H Q => ta σ H fun x H1 => tb σ H1 fun y H2 => r x y H2 fun z H3 => ∃ k, z = .bl k ∧
  (if k = true then tc σ H3 fun w' H4 => r' y w' H4 Q else Q (.bl false) H3)
def TruV (K : PySem.W.Frag) (x : V) (H : Hp) (k : Bool) : Prop :=
  match x with
  | .non => k = false
  | .bl b => k = b
  | .int i => k = (i != 0)
  | .str y => y.length ≤ sizeLine ∧ k = ((y.length : Int) != 0)
  | .byt y => y.size ≤ sizeLine ∧ k = ((y.size : Int) != 0)
  | .ref p => (∃ xs, SqL K H p xs ∧ k = !xs.isEmpty) ∨ (∃ xs, SqT K H p xs ∧ k = !xs.isEmpty) ∨ ∃ kvs, H p = some (.dK kvs) ∧ k = !kvs.isEmpty
  | _ => False
theorem line63 : (sizeLine : Nat) < 2 ^ 63 := by rw [sizeLine_eq]; decide
theorem op_add_str : OpR X (binaryOp .Add) (fun x y H Q => ∃ i j, x = .str i ∧ y = .str j ∧ i.length + j.length ≤ sizeLine ∧ Q (.str (i ++ j)) H) := by
  intro pins s σ H x y v u Q I rx ry h
  obtain ⟨i, j, rfl, rfl, hz, q⟩ := h
  obtain ⟨t, rfl⟩ := rx
  obtain ⟨t', rfl⟩ := ry
  exact add_str (fun t' tk => ⟨.str (i ++ j), H, I.tok _, ⟨_, rfl⟩, q⟩) hz
def PlainIxT (b : Expr) : Prop := ∀ o i, subscripted b false o i = operate [o, i] (getItem o i)
theorem vals1 {x : V} {us : List Value} (r : Vals [x] us) : ∃ u, us = [u] ∧ RelV x u := by
  cases r with
  | cons r1 r2 => cases r2; exact ⟨_, rfl, r1⟩
theorem vals2 {x y : V} {us : List Value} (r : Vals [x, y] us) : ∃ u w', us = [u, w'] ∧ RelV x u ∧ RelV y w' := by
  cases r with
  | cons r1 r2 =>
    cases r2 with
    | cons r3 r4 => cases r4; exact ⟨_, _, rfl, r1, r3⟩
theorem call_int1 : CallR X (.type "int") (fun xs H Q => (∃ i, xs = [.int i] ∧ Q (.int i) H) ∨ ∃ k, xs = [.bl k] ∧ Q (.int (if k then 1 else 0)) H) := by
  intro pins s σ H xs us Q I r h
  rcases h with ⟨i, rfl, q⟩ | ⟨k, rfl, q⟩
  · obtain ⟨u, rfl, t, rfl⟩ := vals1 r
    exact call_int_int ⟨.int i, H, I, ⟨_, rfl⟩, q⟩
  · obtain ⟨u, rfl, r1⟩ := vals1 r
    cases r1
    exact call_int_bool ⟨.int (if k then 1 else 0), H, I.tok _, ⟨_, rfl⟩, q⟩
def LenV (K : PySem.W.Frag) (x : V) (H : Hp) (n : Nat) : Prop :=
  match x with
  | .str y => y.length ≤ sizeLine ∧ n = y.length
  | .byt y => y.size ≤ sizeLine ∧ n = y.size
  | .ref p => (∃ xs, SqL K H p xs ∧ n = xs.length) ∨ ∃ xs, SqT K H p xs ∧ n = xs.length
  | _ => False
end
end L2
namespace L2
open PySem PySem.Spec PyProof.Rows
structure ObjM (h : Heap) (x dx C : Addr) (mA : Str → Option Value) : Prop where
  obj : h.get? x = some (PySem.W.instObj C dx)
  ns : h.Ns1 dx mA
  ne : dx ≠ x
theorem lookIn_ns {h : Heap} {dx : Addr} {mA : Str → Option Value} (n : h.Ns1 dx mA) : ∃ od, h.get? dx = some od ∧ ∀ name, PySem.W.lookIn name od = some (mA name) := by
  obtain ⟨o, es, ep, ho, hd, hk, _, hm⟩ := n
  refine ⟨o, ho, fun name => ?_⟩
  have e := hm name
  unfold nsFind findBy at e
  rw [← Array.find?_toList] at e
  unfold PySem.W.lookIn
  rw [hd]
  dsimp only
  split
  · rename_i y q
    rw [q] at e
    exact congrArg some e
  · rename_i q
    rw [q] at e
    have a : es.toList.any (·.refKey) = false := by
      rw [List.any_eq_false]
      intro y hy
      obtain ⟨z, t, hkey⟩ := hk y (Array.mem_toList_iff.mp hy)
      simp [DictEntry.refKey, hkey]
    have a' : ¬ es.toList.any (·.refKey) = true := by rw [a]; exact Bool.false_ne_true
    rw [if_neg a']
    exact congrArg some e
theorem ObjM.look {h : Heap} {x dx C : Addr} {mA : Str → Option Value} (I : ObjM h x dx C mA) : ∃ od, PySem.W.InstAt h x (PySem.W.instObj C dx) C (some od) ∧ ∀ name, PySem.W.lookIn name od = some (mA name) :=
  let ⟨od, ho, hl⟩ := lookIn_ns I.ns
  ⟨od, ⟨I.obj, rfl, rfl, ho⟩, hl⟩
section
variable {prog : Program} {w : World} {A : Around} {E : Value → Shared → Prop} {s : Shared} {K : PySem.W.Frag} {x dx C f : Addr} {mA : Str → Option Value} {name : Str} {v : Value}
theorem make_map {R : Result → Shared → Prop} {vs : List Value} {kw : List (Str × Value)} (X : K.In s.heap) (hm : PySem.W.makesIn K C = true)
    (hi : PySem.W.findIn K (.ref C) "__init__" = some (some (.ref f))) (hf : PySem.W.typeIn K (.ref f) = some (.type "function"))
    (h : codeAny (model prog w) (A.under (.builtin "type.__call__" ⟨.ref C :: vs, kw⟩)) (.call (.ref f) ⟨.ref (s.heap.objs.size + 1) :: vs, kw⟩) (PySem.W.InitBack (s.heap.objs.size + 1) R)
      { s with heap := (s.heap.push PySem.W.emptyDict).push (PySem.W.instObj C s.heap.objs.size) }) :
    codeAny (model prog w) A (.call (.ref C) ⟨vs, kw⟩) R s := by
  obtain ⟨hh, g, d, t, os⟩ := s
  exact PySem.W.make_core (PySem.W.makes_of X hm) (PySem.W.looks_findIn X hi) (fun self => PySem.W.bind_fn X self hf) (.inl rfl) h
end
def putF (f : Str) (v : V) : List (Str × V) → List (Str × V)
  | [] => [(f, v)]
  | (g, x) :: r => if g = f then (g, v) :: r else (g, x) :: putF f v r
theorem RelO.some_of {v : V} {o : Option Value} (r : RelO (some v) o) : ∃ u, o = some u ∧ RelV v u := by
  cases o with
  | none => exact (show False from r).elim
  | some u => exact ⟨u, rfl, r⟩
section
variable {P : Program} {w : World} {H H' : Hp} {h h' : Heap} {a C dx : Addr} {fs fs' : List (Str × V)}
theorem ins_get (hok : HOk P w H h) (e : H a = some (.ins C dx fs)) : ∃ mA, ObjM h a dx C mA ∧ (∀ f, RelO (fs.lookup f) (mA f)) ∧ PySem.Within mA (fs.map (·.1)) ∧ fs.length ≤ 1000 ∧ H dx = some (.own a) := by
  obtain ⟨d, z, ne, ob, mA, n, r, q⟩ := (show ObjOk P w H h a (.ins C dx fs) from hok a _ e)
  exact ⟨mA, ⟨ob, n, ne⟩, r, q, z, d⟩
end
structure Cls (K : PySem.W.Frag) (C : Addr) : Prop where
  pg : PySem.W.plainGet K C Str.empty = true
  hd : PySem.W.hasDictIn K C = true
  po : PySem.W.plainOver K C = true
  sa : PySem.W.findIn K (.ref C) "__setattr__" = some (some (.builtin "object.__setattr__"))
theorem Cls.get {K : PySem.W.Frag} {C : Addr} (c : Cls K C) (f : Str) : PySem.W.plainGet K C f = true := c.pg
def NoAttr (K : PySem.W.Frag) (C : Addr) (f : Str) : Prop := PySem.W.findIn K (.ref C) f = some none
structure Con (K : PySem.W.Frag) (C : Addr) (f : Str) (v : V) (u : Value) : Prop where
  at_ : PySem.W.findIn K (.ref C) f = some (some u)
  rel : RelV v u
  get : PySem.W.specialIn K u "__get__" = some none
  cp : PySem.W.copiedNames.contains f = false
structure Meth (K : PySem.W.Frag) (C : Addr) (m : Str) (f : Addr) : Prop where
  at_ : PySem.W.findIn K (.ref C) m = some (some (.ref f))
  fn : PySem.W.isFn K (.ref f) = true
  kp : PySem.W.keepIn K (.ref f) = true
section
variable {X : Cx} {pins : List (Addr × Obj)} {σ : St} {H : Hp} {s : Shared} {a C dx : Addr} {fs : List (Str × V)} {f : Str} {v : V} {A : Around} {E : Value → Shared → Prop}
theorem Inv.made (I : Inv X pins σ H s) : Inv X pins σ (upd (upd H s.heap.objs.size (.own (s.heap.objs.size + 1))) (s.heap.objs.size + 1) (.ins C s.heap.objs.size []))
    { s with heap := (s.heap.push PySem.W.emptyDict).push (PySem.W.instObj C s.heap.objs.size) } := by
  have e1 : (s.heap.push PySem.W.emptyDict).get? s.heap.objs.size = some PySem.W.emptyDict := Heap.get?_push_size s.heap rfl
  have e2 : ((s.heap.push PySem.W.emptyDict).push (PySem.W.instObj C s.heap.objs.size)).get? (s.heap.objs.size + 1) = some (PySem.W.instObj C s.heap.objs.size) := by
    have := Heap.get?_push_size (s.heap.push PySem.W.emptyDict) (o := PySem.W.instObj C s.heap.objs.size) rfl
    rwa [Heap.size_push] at this
  have e3 : (s.heap.push PySem.W.emptyDict).Ns s.heap.objs.size (fun _ => none) := ⟨PySem.W.emptyDict, #[], _, e1, rfl, (fun e he => absurd he (by simp)), fun _ => rfl⟩
  have I1 := I.laid (a := s.heap.objs.size) (o := .own (s.heap.objs.size + 1)) (h' := s.heap.push PySem.W.emptyDict) (t' := s.toks) (fun b u q => Heap.get?_push_of_some _ q) (Nat.le_refl _) ⟨_, e1⟩
  refine I1.laid (a := s.heap.objs.size + 1) (o := .ins C s.heap.objs.size []) (t' := s.toks) (fun b u q => Heap.get?_push_of_some _ q) (Nat.le_of_eq (Heap.size_push _ _)) ?_
  have ne : s.heap.objs.size ≠ s.heap.objs.size + 1 := Nat.ne_of_lt (Nat.lt_succ_self _)
  refine ⟨by rw [upd_ne ne, upd_same], Nat.zero_le _, ne, e2, fun _ => none, (Heap.Ns1.of_empty e3).at fun o q => Heap.get?_push_of_some _ q, fun _ => True.intro, fun y hy => absurd rfl hy⟩
end
def tFld (K : PySem.W.Frag) (ta : TE) (f : Str) : TE := fun σ H Q => ta σ H fun x H1 => ∃ a C dx fs v, x = .ref a ∧ H1 a = some (.ins C dx fs) ∧ Cls K C ∧ NoAttr K C f ∧ fs.lookup f = some v ∧ Q v H1
def tCon (K : PySem.W.Frag) (ta : TE) (f : Str) : TE := fun σ H Q => ta σ H fun x H1 => ∃ a C dx fs v u, x = .ref a ∧ H1 a = some (.ins C dx fs) ∧ Cls K C ∧ Con K C f v u ∧ fs.lookup f = none ∧ Q v H1
def sFld (K : PySem.W.Frag) (ta tv : TE) (f : Str) : TS := fun D σ H => tv σ H fun y H1 => ta σ H1 fun x H2 => ∃ a C dx fs, x = .ref a ∧ H2 a = some (.ins C dx fs) ∧ Cls K C ∧ NoAttr K C f ∧ fs.length < 1000 ∧
  D.nx σ (upd H2 a (.ins C dx (putF f y fs)))
def InOp (X : Cx) (op : Operator) (rd : V → V → Hp → VK → Prop) : Prop :=
  ∀ (pins : List (Addr × Obj)) (s : Shared) (σ : St) (H : Hp) (x y : V) (u v : Value) (Q : VK), Inv X pins σ H s → RelV x u → RelV y v → rd x y H Q → wpAny (model X.prog X.w) X.A (inplaceOp op u v) (EP X pins σ Q) X.xe s
def sFldAug (K : PySem.W.Frag) (ta tv : TE) (rd : V → V → Hp → VK → Prop) (f : Str) : TS := fun D σ H => ta σ H fun x H1 => ∃ a C dx fs v, x = .ref a ∧ H1 a = some (.ins C dx fs) ∧ Cls K C ∧ NoAttr K C f ∧ fs.lookup f = some v ∧
  tv σ H1 fun y H2 => rd v y H2 fun z H3 => ∃ dx' fs', H3 a = some (.ins C dx' fs') ∧ fs'.length < 1000 ∧ D.nx σ (upd H3 a (.ins C dx' (putF f z fs')))
section
variable {X : Cx} {o e value : Expr} {f : Str} {pos pos' tpos : Pos} {ta tv : TE}
def rAdd : V → V → Hp → VK → Prop := fun x y H Q => ∃ i j, x = .int i ∧ y = .int j ∧ Q (.int (i + j)) H
def rSub : V → V → Hp → VK → Prop := fun x y H Q => ∃ i j, x = .int i ∧ y = .int j ∧ Q (.int (i - j)) H
end
section
variable {X : Cx} {pins : List (Addr × Obj)} {σ : St} {H : Hp} {s : Shared} {A : Around} {E : Value → Shared → Prop} {Q : Value → Shared → Prop} {c : Value} {b : Bool}
inductive TyOf (K : PySem.W.Frag) (H : Hp) : V → Value → Prop where
  | non : TyOf K H .non (.type "NoneType")
  | bl (x : Bool) : TyOf K H (.bl x) (.type "bool")
  | int (i : Int) : TyOf K H (.int i) (.type "int")
  | str (x : Str) : TyOf K H (.str x) (.type "str")
  | flt (x : UInt64) : TyOf K H (.flt x) (.type "float")
  | lst {a : Addr} {xs : List V} (e : H a = some (.lst xs)) : TyOf K H (.ref a) (.type "list")
  | frz {a : Addr} {o : Obj} {xs : List V} (e : H a = some (.frz o (.lst xs))) : TyOf K H (.ref a) (.type "list")
  | tup {a : Addr} {xs : List V} (e : H a = some (.tup xs)) : TyOf K H (.ref a) (.type "tuple")
  | dK {a : Addr} {kvs : List (Key × V)} (e : H a = some (.dK kvs)) : TyOf K H (.ref a) (.type "dict")
  | dT {a : Addr} {kvs : List (List Key × V)} (e : H a = some (.dT kvs)) : TyOf K H (.ref a) (.type "dict")
  | ins {a C dx : Addr} {fs : List (Str × V)} (e : H a = some (.ins C dx fs)) (cl : Cls K C) (ha : PySem.W.findIn K (.ref C) "__class__" = some (some (.builtin "object.__class__")))
      (hn : PySem.W.specialIn K (.builtin "object.__class__") "__get__" = some (some (.builtin "getset_descriptor.__get__"))) (htk : PySem.W.takesIn K (.builtin "object.__class__") = some true)
      (hm : PySem.W.mroIn K C (.type "object") = some true) : TyOf K H (.ref a) (.ref C)
theorem isinst_ok {x : V} {u t : Value} (I : Inv X pins σ H s) (rx : RelV x u) (ty : TyOf X.K H x t) (e : PySem.W.kitOne X.K t c = some b) (h : ∀ tk, Q (.bool b) { s with toks := tk }) :
    wpAny (model X.prog X.w) A (call (.builtin "isinstance") [u, c]) Q E s := by
  cases ty with
  | non => cases (show u = Value.none from rx); exact PySem.W.kia_one PySem.W.kitx_none I.kIn True.intro e (fun z => nomatch z) h
  | bl y => cases (show u = Value.bool y from rx); exact PySem.W.kia_one PySem.W.kitx_bool I.kIn True.intro e (fun z => nomatch z) h
  | int i => obtain ⟨t, q⟩ := (show ∃ t, u = Value.int i t from rx); cases q; exact PySem.W.kia_one PySem.W.kitx_int I.kIn True.intro e (fun z => nomatch z) h
  | str y => obtain ⟨t, q⟩ := (show ∃ t, u = Value.str y t from rx); cases q; exact PySem.W.kia_one PySem.W.kitx_str I.kIn True.intro e (fun z => nomatch z) h
  | flt y => obtain ⟨t, q⟩ := (show ∃ t, u = Value.float y t from rx); cases q; exact PySem.W.kia_one PySem.W.kitx_float I.kIn True.intro e (fun z => nomatch z) h
  | @lst a xs ea =>
    cases (show u = Value.ref a from rx)
    obtain ⟨_, _, n, _, h1⟩ := (show ObjOk X.prog X.w H s.heap a (.lst xs) from I.hok a _ ea)
    exact PySem.W.kia_one PySem.W.kitx_list I.kIn ⟨_, h1, rfl⟩ e (fun z => nomatch z) h
  | @frz a ob xs ea =>
    cases (show u = Value.ref a from rx)
    obtain ⟨_, _, _, n, _, h1⟩ := (show ObjOk X.prog X.w H s.heap a (.frz ob (.lst xs)) from I.hok a _ ea)
    exact PySem.W.kia_one PySem.W.kitx_list I.kIn ⟨_, h1, rfl⟩ e (fun z => nomatch z) h
  | @tup a xs ea =>
    cases (show u = Value.ref a from rx)
    obtain ⟨_, _, _, p, _⟩ := (show ObjOk X.prog X.w H s.heap a (.tup xs) from I.hok a _ ea)
    obtain ⟨o, h1, h2, _⟩ := p
    exact PySem.W.kia_one PySem.W.kitx_tuple I.kIn ⟨o, h1, h2⟩ e (fun z => nomatch z) h
  | @dK a kvs ea =>
    cases (show u = Value.ref a from rx)
    obtain ⟨_, _, vs, _, p⟩ := (show ObjOk X.prog X.w H s.heap a (.dK kvs) from I.hok a _ ea)
    obtain ⟨o, es, ep, h1, h2, _⟩ := p
    exact PySem.W.kia_one PySem.W.kitx_dict I.kIn ⟨o, h1, h2.1⟩ e (fun z => nomatch z) h
  | @dT a kvs ea =>
    cases (show u = Value.ref a from rx)
    obtain ⟨_, _, xs, _, o, es, ep, h1, h2, _⟩ := (show ObjOk X.prog X.w H s.heap a (.dT kvs) from I.hok a _ ea)
    exact PySem.W.kia_one PySem.W.kitx_dict I.kIn ⟨o, h1, h2.1⟩ e (fun z => nomatch z) h
  | @ins a C dx fs ea cl ha hn htk hm =>
    cases (show u = Value.ref a from rx)
    obtain ⟨mA, O, _⟩ := ins_get I.hok ea
    obtain ⟨od, J, _⟩ := O.look
    exact PySem.W.kia_one (PySem.W.kitx_own (cl.get _) cl.hd ha hn htk hm) I.kIn J e (fun z => nomatch z) h
end
end L2
namespace L2
open PySem PySem.Spec PyProof.Rows
structure Room (k : Nat) (A : Around) : Prop where
  hd : A.handled = none
  dp : A.depth + 3 * k + 5 < recursionLimit
  un : A.units + 16 * k + 200 < cLine
theorem Room.mono {j k : Nat} {A : Around} (r : Room k A) (h : j ≤ k) : Room j A := ⟨r.hd, by have := r.dp; omega, by have := r.un; omega⟩
theorem Room.deeper {k : Nat} {A : Around} (r : Room (k + 1) A) (env : Env) : Room k (A.deeper env) :=
  ⟨r.hd, by have := r.dp; show A.depth + 1 + 3 * k + 5 < _; omega, by have := r.un; show A.units + 3 + 16 * k + 200 < _; omega⟩
theorem make_depth {A : Around} {C : Addr} {us : List Value} {kw : List (Str × Value)} : (A.under (.builtin "type.__call__" ⟨.ref C :: us, kw⟩)).depth = A.depth + 1 := by
  first | rfl | simp [Around.under, Code.weight, Code.isCreation, Code.isGuard, Code.isCaller, Code.frames, Code.isFrame, guardIds]
theorem make_units {A : Around} {C : Addr} {us : List Value} {kw : List (Str × Value)} : (A.under (.builtin "type.__call__" ⟨.ref C :: us, kw⟩)).units = A.units + 1 := by
  first | rfl | simp [Around.under, Code.cUnits, Code.frames, Code.isFrame]
theorem Room.make {k : Nat} {A : Around} (r : Room (k + 1) A) (C : Addr) (us : List Value) (kw : List (Str × Value)) : Room k (A.under (.builtin "type.__call__" ⟨.ref C :: us, kw⟩)) :=
  ⟨r.hd, by have := r.dp; rw [make_depth]; omega, by have := r.un; rw [make_units]; omega⟩
theorem Room.depth {k : Nat} {A : Around} (r : Room k A) : A.depth < recursionLimit := by have := r.dp; omega
theorem Room.units {k : Nat} {A : Around} (r : Room k A) : A.units + 64 < cLine := by have := r.un; omega
def tNil : TA := fun _ H Q => Q [] H
def tCons (ta : TE) (tr : TA) : TA := fun σ H Q => ta σ H fun x H1 => tr σ H1 fun xs H2 => Q (x :: xs) H2
section
variable {X : Cx} {e : Expr} {es : List Expr} {te : TE} {t : TA} {pos : Pos}
theorem pa_nil : PA X [] tNil := fun _ _ _ _ H Q I h => Calls.spliced_nil ⟨[], H, I, .nil, h⟩
theorem pa_cons (ha : PE X e te) (hr : PA X es t) (hs : starEach (e :: es) X.env = (false, eval e X.env) :: starEach es X.env := by rfl) : PA X (e :: es) (tCons te t) := by
  intro pos pins s σ H Q I h
  rw [hs]
  show wpAny _ _ (spliced ((false, eval e X.env) :: backTo pos (starEach es X.env))) _ _ s
  refine Calls.spliced_cons (thn (ha pins s σ H _ I h) fun u s1 ⟨x, H1, I1, r1, q1⟩ => ?_)
  exact thn (hr pos pins s1 σ H1 _ I1 q1) fun us s2 ⟨xs, H2, I2, r2, q2⟩ => ⟨x :: xs, H2, I2, .cons r1 r2, q2⟩
def tTup (t : TA) : TE := fun σ H Q => t σ H fun xs H1 => xs.length ≤ sizeLine ∧ ∀ p, H1 p = none → Q (.ref p) (upd H1 p (.tup xs))
def tLst (t : TA) : TE := fun σ H Q => t σ H fun xs H1 => xs.length ≤ sizeLine ∧ ∀ p, H1 p = none → Q (.ref p) (upd H1 p (.lst xs))
theorem pe_tup {x1} (h : PA X es t) : PE X (.Tuple es x1 pos) (tTup t) := by
  intro pins s σ H Q I hq
  refine wpAny_Tuple_spliced (thn (h pos pins s σ H _ I hq) fun us s1 ⟨xs, H1, I1, r, z, q⟩ => ⟨by rw [← r.length]; exact z, ?_⟩)
  have hf : H1 s1.heap.objs.size = none := I1.hok.fresh (Nat.le_refl _)
  refine ⟨.ref s1.heap.objs.size, upd H1 s1.heap.objs.size (.tup xs), I1.laid (t' := s1.toks) (fun b u e => Heap.get?_push_of_some _ e) (Nat.le_refl _) ?_, rfl, q _ hf⟩
  exact ⟨z, us, r, IsTupN.new _ _⟩
theorem pe_lst (h : PA X es t) : PE X (.List es pos) (tLst t) := by
  intro pins s σ H Q I hq
  refine wpAny_List_spliced (thn (h pos pins s σ H _ I hq) fun us s1 ⟨xs, H1, I1, r, z, q⟩ => ⟨by rw [← r.length]; exact z, ?_⟩)
  have hf : H1 s1.heap.objs.size = none := I1.hok.fresh (Nat.le_refl _)
  refine ⟨.ref s1.heap.objs.size, upd H1 s1.heap.objs.size (.lst xs), I1.laid (t' := s1.toks) (fun b u e => Heap.get?_push_of_some _ e) (Nat.le_refl _) ?_, rfl, q _ hf⟩
  exact ⟨z, us, 0, r, Heap.get?_push_size _ rfl⟩
end
abbrev Sp := List V → Hp → VK → XK → Prop
abbrev CXT := List Env → Hp → Shared → XK → Value → Shared → Prop
structure Env0 (P : Program) (w : World) (K : PySem.W.Frag) (mg : Str → Option Value) (base : Heap) (A : Around) (outer : List Env) (s : Shared) (H : Hp) : Prop where
  frames : A.frames = some outer
  mod : Mod K mg base
  bs : ∀ b o, base.get? b = some o → s.heap.get? b = some o ∧ H b = none
  bsz : base.objs.size ≤ s.heap.objs.size
  funs : s.heap.FunFrames base outer
  frf : ∀ b ∈ frs outer, H b = none
  hok : HOk P w H s.heap
  bare : AllBare s.gens
def CE (outer : List Env) (P : Program) (w : World) (H : Hp) (s : Shared) (Q : VK) (u : Value) (s' : Shared) : Prop :=
  ∃ v H', s'.os = s.os ∧ AllBare s'.gens ∧ Un (frs outer) [] H H' s.heap s'.heap ∧ HOk P w H' s'.heap ∧ RelV v u ∧ Q v H'
def CR (CX : CXT) (outer : List Env) (P : Program) (w : World) (H : Hp) (s : Shared) (Q : VK) (E : XK) (r : Result) (s' : Shared) : Prop :=
  match r with
  | .ok (.ret u) => CE outer P w H s Q u s'
  | .ok _ => False
  | .error e => CX outer H s E e s'
structure FnOk (P : Program) (w : World) (K : PySem.W.Frag) (mg : Str → Option Value) (base : Heap) (CX : CXT) (k : Nat) (f : Addr) (fd : FuncData) (ps : List Str) (sp : Sp) : Prop where
  len : ∀ vs H Q E, sp vs H Q E → vs.length = ps.length
  run : ∀ (A : Around) (outer : List Env) (s : Shared) (H : Hp) (args : Args) (us : List Value) (vs : List V) (Q : VK) (E : XK), Room k A → Env0 P w K mg base A outer s H → BindsTo s fd args (ps.zip us) → Vals vs us → sp vs H Q E →
    codeAny (model P w) A (.call (.ref f) args) (CR CX outer P w H s Q E) s
theorem Env0.make {P : Program} {w : World} {K : PySem.W.Frag} {mg : Str → Option Value} {base : Heap} {A : Around} {outer : List Env} {s : Shared} {H : Hp} (e : Env0 P w K mg base A outer s H) (C : Addr) (us : List Value) (kw : List (Str × Value)) :
    Env0 P w K mg base (A.under (.builtin "type.__call__" ⟨.ref C :: us, kw⟩)) outer s H := ⟨by first | exact e.frames | (simpa [Around.under, Code.envs, Code.isFrame, pushEnvs] using e.frames), e.mod, e.bs, e.bsz, e.funs, e.frf, e.hok, e.bare⟩
section
variable {X : Cx} {pins : List (Addr × Obj)} {σ : St} {H : Hp} {s s' : Shared}
theorem Inv.env0 (I : Inv X pins σ H s) : Env0 X.prog X.w X.K X.mg X.base X.A X.stack s H :=
  ⟨I.ok.frames, I.ok.mod, I.bs, Nat.le_trans I.ok.bsz I.sz, I.stack, I.stkFree, I.hok, I.bare⟩
theorem Inv.after {Q : VK} {u : Value} (I : Inv X pins σ H s) (h : CE X.stack X.prog X.w H s Q u s') : EP X pins σ Q u s' := by
  obtain ⟨v, H', os, bare, un, hok, r, q⟩ := h
  obtain ⟨hh, g, d, t, os'⟩ := s'
  obtain rfl : os' = s.os := os
  exact ⟨v, H', I.call (h' := hh) (g' := g) (d' := d) (t' := t) (ch := []) un hok bare (fun b z => absurd z (by simp)), r, q⟩
end
def tCall (sp : Sp) (dvs : List V) (E : XK) (t : TA) : TE := fun σ H Q => t σ H fun vs H1 => sp (vs ++ dvs) H1 Q E
def tMeth (C : Addr) (m : Str) (sp : Sp) (dvs : List V) (E : XK) (ta : TE) (t : TA) : TE := fun σ H Q => ta σ H fun x H1 => ∃ a dx fs, x = .ref a ∧ H1 a = some (.ins C dx fs) ∧ fs.lookup m = none ∧
  t σ H1 fun vs H2 => sp (x :: (vs ++ dvs)) H2 Q E
def tMake (C : Addr) (sp : Sp) (dvs : List V) (E : XK) (t : TA) : TE := fun σ H Q => t σ H fun vs H1 => ∀ x dx, H1 x = none → H1 dx = none → dx ≠ x →
  sp (.ref x :: (vs ++ dvs)) (upd (upd H1 dx (.own x)) x (.ins C dx [])) (fun v H2 => v = .non ∧ Q (.ref x) H2) E
def Binds (K : PySem.W.Frag) (fd : FuncData) (ps : List Str) (ds : List Value) : Prop :=
  ∀ (s : Shared) (us : List Value), K.In s.heap → (us ++ ds).length = ps.length → BindsTo s fd ⟨us, []⟩ (ps.zip (us ++ ds))
theorem Binds.all {K : PySem.W.Frag} {fd : FuncData} {ps : List Str} (h : ∀ us : List Value, us.length = ps.length → bindArgs fd ⟨us, []⟩ = pure (ps.zip us)) : Binds K fd ps [] := fun s us _ hl => by
  rw [List.append_nil] at hl ⊢
  exact .of_eq (h us hl)
def Passes (CX : CXT) (X : Cx) (E : XK) : Prop := ∀ (pins : List (Addr × Obj)) (σ : St) (H : Hp) (s : Shared) (e : Value) (s' : Shared), Inv X pins σ H s → CX X.stack H s E e s' → X.xe e s'
section
variable {X : Cx} {CX : CXT} {k : Nat} {f C : Addr} {fd : FuncData} {ps : List Str} {sp : Sp} {dvs : List V} {ds : List Value} {E : XK} {x m : Str} {p pos apos : Pos} {e o : Expr} {es : List Expr} {ta : TE} {t : TA}
theorem run_fn {pins : List (Addr × Obj)} {σ : St} {H : Hp} {s : Shared} {Q : VK} {us : List Value} {vs : List V} (F : FnOk X.prog X.w X.K X.mg X.base CX k f fd ps sp) (hr : Room k X.A) (hb : Binds X.K fd ps ds) (hd : Vals dvs ds) (hx : Passes CX X E)
    (I : Inv X pins σ H s) (r : Vals vs us) (h : sp (vs ++ dvs) H Q E) : wpAny (model X.prog X.w) X.A (call (.ref f) us) (EP X pins σ Q) X.xe s := by
  have r2 : Vals (vs ++ dvs) (us ++ ds) := r.append hd
  have hl : (us ++ ds).length = ps.length := by rw [← r2.length]; exact F.len _ _ _ _ h
  refine wpAny_call (codeAny_mono (F.run X.A X.stack s H ⟨us, []⟩ (us ++ ds) (vs ++ dvs) Q E hr I.env0 (hb s us I.kIn hl) r2 h) fun r s' hq => ?_)
  cases r with
  | error e => exact hx pins σ H s e s' I hq
  | ok fl =>
    cases fl with
    | ret u => exact I.after hq
    | next => exact False.elim hq
    | brk => exact False.elim hq
    | cont => exact False.elim hq
theorem pe_call (F : FnOk X.prog X.w X.K X.mg X.base CX k f fd ps sp) (hr : Room k X.A) (hg : Gl X x) (hm : X.mg x = some (.ref f)) (hk : PySem.W.keepIn X.K (.ref f) = true) (hb : Binds X.K fd ps ds) (hd : Vals dvs ds) (hx : Passes CX X E)
    (ha : PA X (e :: es) t) (hdb : (x == ("__debug__" : Str)) = false := by decide) (he : starEach (e :: es) X.env = (false, eval e X.env) :: starEach es X.env := by rfl) (hpl : (backTo pos (starEach es X.env)).any (·.1) = false := by rfl) :
    PE X (.Call (.Name x p) (e :: es) [] pos) (tCall sp dvs E t) := by
  intro pins s σ H Q I h
  refine wpAny_Call_Name_kw (ld_glob I hg hm ?_ hdb)
  refine PySem.W.callWith_K (h₀ := X.base) I.ok.mod.kin hk (thn (ha pos pins s σ H _ I h) fun us s1 ⟨vs, H1, I1, r, q⟩ => ⟨I1.kIn, ?_⟩) he hpl
  exact run_fn F hr hb hd hx I1 r q
structure Mk (K : PySem.W.Frag) (C f : Addr) : Prop where
  makes : PySem.W.makesIn K C = true
  init : PySem.W.findIn K (.ref C) "__init__" = some (some (.ref f))
  fn : PySem.W.isFn K (.ref f) = true
  kp : PySem.W.keepIn K (.ref C) = true
theorem run_make {pins : List (Addr × Obj)} {σ : St} {H : Hp} {s : Shared} {Q : VK} {us : List Value} {vs : List V} (M : Mk X.K C f) (F : FnOk X.prog X.w X.K X.mg X.base CX k f fd ps sp) (hr : Room (k + 1) X.A) (hb : Binds X.K fd ps ds) (hd : Vals dvs ds)
    (hx : Passes CX X E) (I : Inv X pins σ H s) (r : Vals vs us)
    (h : ∀ x dx, H x = none → H dx = none → dx ≠ x → sp (.ref x :: (vs ++ dvs)) (upd (upd H dx (.own x)) x (.ins C dx [])) (fun v H2 => v = .non ∧ Q (.ref x) H2) E) :
    wpAny (model X.prog X.w) X.A (call (.ref C) us) (EP X pins σ Q) X.xe s := by
  have hq := h (s.heap.objs.size + 1) s.heap.objs.size (I.hok.fresh (Nat.le_succ _)) (I.hok.fresh (Nat.le_refl _)) (Nat.ne_of_lt (Nat.lt_succ_self _))
  have I2 := Inv.made (C := C) I
  have r2 : Vals (V.ref (s.heap.objs.size + 1) :: (vs ++ dvs)) (Value.ref (s.heap.objs.size + 1) :: (us ++ ds)) := .cons rfl (r.append hd)
  have hl : (Value.ref (s.heap.objs.size + 1) :: us ++ ds).length = ps.length := by
    have e := r2.length
    rw [F.len _ _ _ _ hq] at e
    exact e.symm
  refine wpAny_call (make_map (f := f) I.kIn M.makes M.init (beq_iff_eq.mp M.fn) (codeAny_mono (F.run _ X.stack _ _ ⟨Value.ref (s.heap.objs.size + 1) :: us, []⟩ (Value.ref (s.heap.objs.size + 1) :: (us ++ ds)) _ _ E (hr.make C us [])
    (I2.env0.make C us []) (hb _ (Value.ref (s.heap.objs.size + 1) :: us) I2.kIn hl) r2 hq) fun r s' hq' => ?_))
  cases r with
  | error e => exact hx pins σ _ _ e s' I2 hq'
  | ok fl =>
    cases fl with
    | ret u =>
      obtain ⟨v, H', I3, rv, ev, q3⟩ := I2.after hq'
      subst ev
      exact ⟨rv, ⟨V.ref (s.heap.objs.size + 1), H', I3, rfl, q3⟩⟩
    | next => exact False.elim hq'
    | brk => exact False.elim hq'
    | cont => exact False.elim hq'
theorem pe_make (M : Mk X.K C f) (F : FnOk X.prog X.w X.K X.mg X.base CX k f fd ps sp) (hr : Room (k + 1) X.A) (hg : Gl X x) (hm : X.mg x = some (.ref C)) (hb : Binds X.K fd ps ds) (hd : Vals dvs ds) (hx : Passes CX X E)
    (ha : PA X (e :: es) t) (hdb : (x == ("__debug__" : Str)) = false := by decide) (he : starEach (e :: es) X.env = (false, eval e X.env) :: starEach es X.env := by rfl) (hpl : (backTo pos (starEach es X.env)).any (·.1) = false := by rfl) :
    PE X (.Call (.Name x p) (e :: es) [] pos) (tMake C sp dvs E t) := by
  intro pins s σ H Q I h
  refine wpAny_Call_Name_kw (ld_glob I hg hm ?_ hdb)
  refine PySem.W.callWith_K (h₀ := X.base) I.ok.mod.kin M.kp (thn (ha pos pins s σ H _ I h) fun us s1 ⟨vs, H1, I1, r, q⟩ => ⟨I1.kIn, ?_⟩) he hpl
  exact run_make M F hr hb hd hx I1 r q
end
def PK (X : Cx) (kws : List Keyword) (t : TA) : Prop :=
  ∀ (pos : Pos) (pins : List (Addr × Obj)) (s : Shared) (σ : St) (H : Hp) (Q : List V → Hp → Prop), Inv X pins σ H s → t σ H Q → wpAny (model X.prog X.w) X.A (evalAll ((backToKw pos (keywordEach kws X.env)).map (·.2))) (AP X pins σ Q) X.xe s
section
variable {X : Cx} {CX : CXT} {k : Nat} {f C : Addr} {fd : FuncData} {ps ks : List Str} {sp : Sp} {E : XK} {x m : Str} {p pos apos kpos : Pos} {e o : Expr} {es : List Expr} {kws : List Keyword} {te ta : TE} {t tk : TA} {nm : Option Str}
structure KBinds (K : PySem.W.Frag) (fd : FuncData) (ps ks : List Str) (g : List Value → List Value → List Value) (gV : List V → List V → List V) : Prop where
  to : ∀ (s : Shared) (us ws : List Value), K.In s.heap → (g us ws).length = ps.length → BindsTo s fd ⟨us, ks.zip ws⟩ (ps.zip (g us ws))
  rel : ∀ {vs : List V} {us : List Value} {zs : List V} {ws : List Value}, Vals vs us → Vals zs ws → Vals (gV vs zs) (g us ws)
def tCallK (sp : Sp) (gV : List V → List V → List V) (E : XK) (t tk : TA) : TE := fun σ H Q => t σ H fun vs H1 => tk σ H1 fun zs H2 => sp (gV vs zs) H2 Q E
variable {g : List Value → List Value → List Value} {gV : List V → List V → List V}
end
structure FnScope (N P : List Str) (sc : Scope) : Prop where
  kind : sc.kind = .function
  co : sc.isCoroutine = false
  gen : sc.isGenerator = false
  nd : N.Nodup
  pre : N.take P.length = P
  par : ∀ x ∈ P, sc.names.lookup x = some .local ∨ sc.names.lookup x = some .cell
  nofree : ∀ y ∈ sc.names, y.2 ≠ .free
theorem bindL_out {kindOf : Str → Option NameKind} {x : Str} : ∀ {binds : List (Str × Value)} {m : Str → Option Value}, (∀ v, (x, v) ∉ binds) → bindL kindOf binds m x = m x
  | [], _, _ => rfl
  | (n, v) :: r, m, h => by
    unfold bindL
    rw [bindL_out fun w hw => h w (List.mem_cons_of_mem _ hw)]
    split
    · have : x ≠ n := by rintro rfl; exact h v List.mem_cons_self
      simp [this]
    · rfl
theorem bindC_out {kindOf : Str → Option NameKind} {x : Str} : ∀ {binds : List (Str × Value)} {m : Str → Option Value}, (∀ v, (x, v) ∉ binds) → bindC kindOf binds m x = m x
  | [], _, _ => rfl
  | (n, v) :: r, m, h => by
    unfold bindC
    rw [bindC_out fun w hw => h w (List.mem_cons_of_mem _ hw)]
    split
    · rfl
    · have : x ≠ n := by rintro rfl; exact h v List.mem_cons_self
      simp [this]
theorem bindL_get {kindOf : Str → Option NameKind} {x : Str} {v : Value} : ∀ {P : List Str} {vs : List Value} {i : Nat} {m : Str → Option Value}, P.Nodup → P[i]? = some x → vs[i]? = some v → kindOf x = some .local →
    bindL kindOf (P.zip vs) m x = some v
  | [], _, _, _, _, h, _, _ => by simp at h
  | _ :: _, [], _, _, _, _, h, _ => by simp at h
  | p :: P, w :: vs, 0, m, nd, h1, h2, hk => by
    simp at h1 h2; subst h1; subst h2
    show bindL kindOf ((p, w) :: P.zip vs) m p = _
    unfold bindL
    rw [bindL_out fun v hv => (List.nodup_cons.mp nd).1 (List.of_mem_zip hv).1, if_pos hk]
    simp
  | p :: P, w :: vs, i + 1, m, nd, h1, h2, hk => by
    show bindL kindOf ((p, w) :: P.zip vs) m x = _
    unfold bindL
    exact bindL_get (i := i) (List.nodup_cons.mp nd).2 (by simpa using h1) (by simpa using h2) hk
theorem bindC_get {kindOf : Str → Option NameKind} {x : Str} {v : Value} : ∀ {P : List Str} {vs : List Value} {i : Nat} {m : Str → Option Value}, P.Nodup → P[i]? = some x → vs[i]? = some v → kindOf x ≠ some .local →
    bindC kindOf (P.zip vs) m x = some v
  | [], _, _, _, _, h, _, _ => by simp at h
  | _ :: _, [], _, _, _, _, h, _ => by simp at h
  | p :: P, w :: vs, 0, m, nd, h1, h2, hk => by
    simp at h1 h2; subst h1; subst h2
    show bindC kindOf ((p, w) :: P.zip vs) m p = _
    unfold bindC
    rw [bindC_out fun v hv => (List.nodup_cons.mp nd).1 (List.of_mem_zip hv).1, if_neg hk]
    simp
  | p :: P, w :: vs, i + 1, m, nd, h1, h2, hk => by
    show bindC kindOf ((p, w) :: P.zip vs) m x = _
    unfold bindC
    exact bindC_get (i := i) (List.nodup_cons.mp nd).2 (by simpa using h1) (by simpa using h2) hk
def start (N : List Str) (vs : List V) : St := vs.map some ++ List.replicate (N.length - vs.length) none
def cxOf (CX : CXT) (P : Program) (w : World) (K : PySem.W.Frag) (mg : Str → Option Value) (base : Heap) (N : List Str) (qual : Str) (scope : Scope) (f : Addr) (cd : Value) (A : Around) (outer : List Env) (s : Shared) (H : Hp) (E : XK) : Cx where
  prog := P
  w := w
  K := K
  mg := mg
  base := base
  A := A.deeper (envOfC qual scope s.heap.objs.size f cd)
  N := N
  s₀ := s
  H₀ := H
  env := envOfC qual scope s.heap.objs.size f cd
  outer := outer
  stack := envOfC qual scope s.heap.objs.size f cd :: outer
  ex := []
  calm := true
  fn := fun _ => true
  pn := []
  xe := fun e s' => wpAny (model P w) (A.deeper (envOfC qual scope s.heap.objs.size f cd)) («leaving» (envOfC qual scope s.heap.objs.size f cd) e) (fun _ s'' => CX outer H s E e s'') (fun e' s'' => CX outer H s E e' s'') s'
theorem cell_has {sc : Scope} {n : Nat} {x : Str} (h : sc.names.lookup x = some .cell) : ∃ c, (cellsFrom n sc.names []).lookup x = some c := by
  have q := PySem.W.cellsFrom_some sc.names n [] (.inl h)
  exact Option.isSome_iff_exists.mp q
theorem inv_start {CX : CXT} {P : Program} {w : World} {K : PySem.W.Frag} {mg : Str → Option Value} {base : Heap} {N ps : List Str} {qual : Str} {scope : Scope} {f : Addr} {cd : Value} {A : Around} {outer : List Env} {s s1 : Shared} {H : Hp} {E : XK} {us : List Value} {vs : List V}
    (S : FnScope N ps scope) (hd : A.handled = none) (e0 : Env0 P w K mg base A outer s H) (hl : vs.length = ps.length) (r : Vals vs us)
    (x : InCallC s s.heap.objs.size (bindL (envOfC qual scope s.heap.objs.size f cd).kindOf (ps.zip us) fun _ => none) (cellsFrom (s.heap.objs.size + 1) scope.names []) (bindC (envOfC qual scope s.heap.objs.size f cd).kindOf (ps.zip us) fun _ => none) s1) :
    Inv (cxOf CX P w K mg base N qual scope f cd A outer s H E) [] (start N vs) H s1 := by
  have hpl : ps.length ≤ N.length := by have := congrArg List.length S.pre; rw [List.length_take] at this; omega
  obtain ⟨h1, tk, rfl, hk⟩ := x.done
  have noA : ∀ b : Addr, b ∉ (cxOf CX P w K mg base N qual scope f cd A outer s H E).ex := fun b z => absurd (show b ∈ ([] : List Addr) from z) (by simp)
  refine ⟨⟨e0.mod, S.kind, rfl, rfl, Nat.le_refl _, fun y z c h1 h2 => ?_, fun y hy => ?_, fun y c _ h => ?_, fun _ => hd, Around.frames_deeper e0.frames, .inr ⟨rfl, rfl⟩, fun b z => absurd z (noA b), e0.bs, e0.bsz, fun b _ _ => noA b, fun b z => absurd z (noA b), e0.funs, e0.frf⟩,
    rfl, e0.bare, Un.kept hk, ⟨_, x.toInCall.ns, fun i y v h1 h2 h3 => ?_⟩, fun y c h => ⟨_, x.cell y c h⟩, e0.hok.fresh (Nat.le_refl _), fun y c h => ?_, fun p hp => absurd (show p ∈ ([] : List (Addr × Obj)) from hp) (by simp), e0.hok.kept hk, ?_⟩
  · exact name_of_addr x.apart (PySem.mem_of_lookup h1) (PySem.mem_of_lookup h2)
  · have hy : scope.names.lookup y = some .cell ∨ scope.names.lookup y = some .free := hy
    rcases hy with hy | hy
    · exact cell_has hy
    · exact absurd rfl (S.nofree _ (PySem.mem_of_lookup hy))
  · exact Nat.le_of_lt (x.above y c (PySem.mem_of_lookup h))
  · have hi : i < vs.length := by
      unfold start at h2
      by_cases hi : i < vs.length
      · exact hi
      · rw [List.getElem?_append_right (by simpa using hi)] at h2
        rw [List.getElem?_replicate] at h2
        split at h2 <;> cases h2
    have ha : vs[i]? = some v := by
      unfold start at h2
      rw [List.getElem?_append_left (by simpa using hi), List.getElem?_map] at h2
      cases e : vs[i]? with
      | none => rw [e] at h2; cases h2
      | some a => rw [e] at h2; cases h2; rfl
    obtain ⟨u, hu, rv⟩ := r.get ha
    have hp : ps[i]? = some y := by
      rw [← S.pre, List.getElem?_take_of_lt (by omega)]; exact h1
    have ndP : ps.Nodup := by rw [← S.pre]; exact S.nd.sublist (List.take_sublist _ _)
    refine ⟨u, rv, ?_⟩
    rcases S.par y (List.mem_of_getElem? hp) with k | k
    · exact .inl ⟨k, bindL_get ndP hp hu k⟩
    · obtain ⟨c, e⟩ := cell_has (n := s.heap.objs.size + 1) k
      refine .inr ⟨.inl k, c, e, ?_⟩
      have q := x.cell y c e
      rw [bindC_get ndP hp hu (by show scope.names.lookup y ≠ _; rw [k]; decide)] at q
      exact q
  · exact e0.hok.fresh (Nat.le_of_lt (x.above y c (PySem.mem_of_lookup h)))
  · unfold start
    show _ = N.length
    rw [List.length_append, List.length_map, List.length_replicate]
    omega
theorem fn_of {CX : CXT} {P : Program} {w : World} {K : PySem.W.Frag} {mg : Str → Option Value} {base : Heap} {k : Nat} {f : Addr} {name qual : Str} {params : Arguments} {body : List Stmt} {scope : Scope} {dV kV doc pm cdv ct oc : Value} {an od : Option Addr}
    {osl : Array (Option Value)} {N ps : List Str} {sp : Sp} (lk : K.lookup f = some ⟨oc, od, .func (PySem.W.fnOf name qual params body scope dV kV doc pm an cdv ct), osl⟩) (hcd : PySem.W.codeIn K cdv qual = true) (S : FnScope N ps scope)
    (len : ∀ vs H Q E, sp vs H Q E → vs.length = ps.length)
    (hbody : ∀ (A : Around) (outer : List Env) (s : Shared) (H : Hp) (vs : List V) (Q : VK) (E : XK), Room k (A.deeper (envOfC qual scope s.heap.objs.size f cdv)) → sp vs H Q E →
      ∃ t, PSs (cxOf CX P w K mg base N qual scope f cdv A outer s H E) body t ∧ t { nx := fun _ H' => Q .non H', rt := Q } (start N vs) H) :
    FnOk P w K mg base CX (k + 1) f (PySem.W.fnOf name qual params body scope dV kV doc pm an cdv ct) ps sp := by
  refine ⟨len, fun A outer s H args us vs Q E hr e0 hb r hsp => ?_⟩
  have hl := len _ _ _ _ hsp
  have KX : K.In s.heap := e0.mod.kin.keeps fun b o e => (e0.bs b o e).1
  have lim : s.heap.NoLimit := e0.mod.nolimit.keeps fun b o e => (e0.bs b o e).1
  have hkind : ∀ y ∈ ps.zip us, scope.names.lookup y.1 = some .local ∨ (scope.names.lookup y.1 = some .cell ∧ ((cellsFrom (s.heap.objs.size + 1) scope.names []).lookup y.1).isSome = true) := fun ⟨n, v⟩ hy => by
    rcases S.par n (List.of_mem_zip hy).1 with q | q
    · exact .inl q
    · exact .inr ⟨q, PySem.W.cellsFrom_some _ _ _ (.inl q)⟩
  refine codeAny_call_function hr.depth (KX _ _ lk) rfl S.co S.gen rfl (PySem.W.codeRec_of KX hcd) (hb _ _ _ _ ?_)
  refine wpAny_newFunctionEnv_cells S.kind hkind fun env he s1 x => ?_
  subst he
  refine ⟨lim.keeps x.toInCall.keep, codeAny_func ?_⟩
  obtain ⟨t, ht, hq⟩ := hbody A outer s H vs Q E (hr.deeper _) hsp
  have I : Inv (cxOf CX P w K mg base N qual scope f cdv A outer s H E) [] (start N vs) H s1 := inv_start S hr.hd e0 hl r x
  refine wpAny_mono (ht [] s1 (start N vs) H _ I hq) (fun fl s' hs => ?_) fun e s' hs => hs
  have fin : ∀ {σ' : St} {H' : Hp} {v : V} {u : Value}, Inv (cxOf CX P w K mg base N qual scope f cdv A outer s H E) [] σ' H' s' → RelV v u → Q v H' → CE outer P w H s Q u s' :=
    fun {σ' H' v u} J rv q => ⟨v, H', J.os, J.bare, J.base, J.hok, rv, q⟩
  cases fl with
  | ret u =>
    obtain ⟨v, σ', H', J, rv, q⟩ := hs
    exact fin J rv q
  | next =>
    obtain ⟨σ', H', J, q⟩ := hs
    exact fin (v := V.non) (u := Value.none) J rfl q
  | brk =>
    obtain ⟨_, _, _, q⟩ := hs
    exact False.elim q
  | cont =>
    obtain ⟨_, _, _, q⟩ := hs
    exact False.elim q
end L2
namespace L2
open PySem PySem.Spec PyProof.Rows
section
variable {X : Cx} {x : Str} {p pos : Pos} {e : Expr} {es : List Expr} {t : TA} {id T : String} {r : List V → Hp → VK → Prop}
def tCB (r : List V → Hp → VK → Prop) (t : TA) : TE := fun σ H Q => t σ H fun vs H1 => r vs H1 Q
theorem pe_callB (hc : CallR X (.builtin id) r) (hg : Gl X x) (hm : X.mg x = none) (hv : bootBuiltins x = some (.builtin id)) (ha : PA X (e :: es) t) (hn : x ≠ "__name__" := by decide) (hdb : (x == ("__debug__" : Str)) = false := by decide)
    (he : starEach (e :: es) X.env = (false, eval e X.env) :: starEach es X.env := by rfl) (hpl : (backTo pos (starEach es X.env)).any (·.1) = false := by rfl) : PE X (.Call (.Name x p) (e :: es) [] pos) (tCB r t) := by
  intro pins s σ H Q I h
  refine wpAny_Call_Name_kw (ld_blt I hg hm hv ?_ hn hdb)
  exact PyProof.Rows.callWith_builtin1 (thn (ha pos pins s σ H _ I h) fun us s1 ⟨vs, H1, I1, r1, q1⟩ => hc pins s1 σ H1 vs us Q I1 r1 q1) he hpl
theorem pe_callTy (hc : CallR X (.type T) r) (hg : Gl X x) (hm : X.mg x = none) (hv : bootBuiltins x = some (.type T)) (ha : PA X (e :: es) t) (hn : x ≠ "__name__" := by decide) (hdb : (x == ("__debug__" : Str)) = false := by decide)
    (he : starEach (e :: es) X.env = (false, eval e X.env) :: starEach es X.env := by rfl) (hpl : (backTo pos (starEach es X.env)).any (·.1) = false := by rfl) : PE X (.Call (.Name x p) (e :: es) [] pos) (tCB r t) := by
  intro pins s σ H Q I h
  refine wpAny_Call_Name_kw (ld_blt I hg hm hv ?_ hn hdb)
  exact PyProof.Rows.callWith_type1 (thn (ha pos pins s σ H _ I h) fun us s1 ⟨vs, H1, I1, r1, q1⟩ => hc pins s1 σ H1 vs us Q I1 r1 q1) he hpl
end
end L2
namespace HT
open PySem PyProof.Rows
def lexLt : List Int → List Int → Bool
  | [], [] => false
  | [], _ :: _ => true
  | _ :: _, [] => false
  | x :: xs, y :: ys => if x = y then lexLt xs ys else decide (x < y)
section
open PySem.SeqAt
open PySem.AutoSeq1 (wpAny_loadPart')
open PySem.MeetsSeq PySem.MeetsSeq2 PySem.MeetsSeq3
end
section
variable {prog : Program} {w : World} {A : Around} {E : Value → Shared → Prop} {s : Shared}
theorem cat_tup {t b : Addr} {vs ws : List Value} {Q : Value → Shared → Prop} (ht : IsTup s.heap t vs.toArray) (hb : IsTup s.heap b ws.toArray) (hv : vs ≠ [])
    (h1 : ws = [] → Q (.ref t) s) (h2 : ws ≠ [] → Q (.ref s.heap.objs.size) { s with heap := s.heap.push { cls := .type "tuple", data := .seq (vs ++ ws).toArray } })
    (hsz : vs.length + ws.length ≤ sizeLine) : wpAny (model prog w) A (binaryOp .Add (.ref t) (.ref b)) Q E s := by
  obtain ⟨⟨cls, dd, data, sl⟩, ho, hc, n, hd⟩ := id ht
  obtain ⟨⟨cls2, dd2, data2, sl2⟩, ho2, hc2, n2, hd2⟩ := id hb
  simp only at hc hd hc2 hd2
  subst hc hd hc2 hd2
  have e : vs.toArray ++ ws.toArray = (vs ++ ws).toArray := by simp
  by_cases hw : ws = []
  · exact concat_meets ⟨_, ho, rfl⟩ ⟨_, ho2, rfl⟩ noFill_tuple_add seq_tuple_add PySem.F.slot_tuple_add PySem.F.entry_tuple_add (PySem.F.args_tuple_add_2 _ _)
      (tuple_addW1 t b vs.toArray ws.toArray n n2 dd dd2 sl sl2 (by simpa using hv) (by simp [hw])) ⟨ho, ho2, h1 hw⟩
  · refine concat_meets ⟨_, ho, rfl⟩ ⟨_, ho2, rfl⟩ noFill_tuple_add seq_tuple_add PySem.F.slot_tuple_add PySem.F.entry_tuple_add (PySem.F.args_tuple_add_2 _ _)
      (tuple_addW2 t b vs.toArray ws.toArray n n2 dd dd2 sl sl2 (by simpa using hv) (by simpa using hw) (by rw [List.size_toArray, List.size_toArray]; exact hsz)) ⟨ho, ho2, ?_⟩
    rw [e]
    exact h2 hw
def sIx (n d : Nat) : Option Int → Nat
  | none => d
  | some v => if v < 0 then (v + (n : Int)).toNat else min v.toNat n
theorem sIx_le (n d : Nat) (hd : d ≤ n) (o : Option Int) : sIx n d o ≤ n := by
  cases o with
  | none => exact hd
  | some v =>
    show (if v < 0 then (v + (n : Int)).toNat else min v.toNat n) ≤ n
    by_cases hv : v < 0
    · rw [if_pos hv]; omega
    · rw [if_neg hv]; exact Nat.min_le_right _ _
theorem clip_eq (v : Int) (n d : Nat) : (if v < 0 then max (v + (n : Int)) 0 else min v (n : Int)) = ((sIx n d (some v) : Nat) : Int) := by
  show (if v < 0 then max (v + (n : Int)) 0 else min v (n : Int)) = (((if v < 0 then (v + (n : Int)).toNat else min v.toNat n) : Nat) : Int)
  by_cases hv : v < 0
  · simp only [if_pos hv]; omega
  · simp only [if_neg hv]; omega
theorem adjust_gen (lo hi : Option Int) (n : Nat) : Builtin.Slice.sliceAdjust lo hi 1 (n : Int) = (((sIx n 0 lo : Nat) : Int), ((sIx n n hi : Nat) : Int)) := by
  have h1 : ¬ ((1 : Int) < 0) := by omega
  unfold Builtin.Slice.sliceAdjust
  simp only [h1, if_false]
  refine Prod.ext ?_ ?_
  · cases lo with
    | none => rfl
    | some v => exact clip_eq v n 0
  · cases hi with
    | none => rfl
    | some v => exact clip_eq v n n
theorem places_gen (i j : Nat) : Builtin.Slice.slicePlaces (i : Int) (j : Int) 1 = j - i := by
  unfold Builtin.Slice.slicePlaces
  have h1 : (1 : Int) > 0 := by omega
  simp only [h1, if_true, Int.ediv_one]
  split <;> omega
theorem slicePart_ {v : Value} {o : Option Int} {Q : Option Int → Shared → Prop} (p : IsPart v o) (h : Q o s) : wpAny (model prog w) A (Builtin.Slice.slicePartIndex v) Q E s := by
  cases p with
  | none => exact slicePart_none h
  | int i t => exact slicePart_int h
theorem sliceApplied_gen {sl : Addr} {vl vu : Value} {lo hi : Option Int} {n : Nat} {Q : Int × Int × Nat → Shared → Prop} (hs : s.heap.IsSliceOf sl vl vu .none) (pl : IsPart vl lo) (pu : IsPart vu hi)
    (h : Q (((sIx n 0 lo : Nat) : Int), 1, sIx n n hi - sIx n 0 lo) s) : wpAny (model prog w) A (Builtin.Slice.sliceApplied (.ref sl) (pure (n : Int))) Q E s := by
  obtain ⟨os, hos, hcs, hds⟩ := id hs
  unfold Builtin.Slice.sliceApplied Builtin.Slice.sliceFields
  refine wpAny_bind (wpAny_bind (wpAny_field hos hds (x := vl) rfl (wpAny_bind (wpAny_field hos hds (x := vu) rfl (wpAny_bind (wpAny_field hos hds (x := .none) rfl (wpAny_pure ?_)))))))
  refine wpAny_bind (slicePart_none ?_)
  show wpAny _ _ (if ((1 : Int) == 0) = true then _ else _) _ _ s
  rw [if_neg (by decide)]
  refine wpAny_bind (slicePart_ pl (wpAny_bind (slicePart_ pu (wpAny_bind (wpAny_pure ?_)))))
  show wpAny _ _ (match Builtin.Slice.sliceAdjust lo hi 1 (n : Int) with | (lo, hi) => pure (lo, (1 : Int), Builtin.Slice.slicePlaces lo hi 1)) _ _ s
  rw [adjust_gen lo hi n]
  show wpAny _ _ (pure (((sIx n 0 lo : Nat) : Int), (1 : Int), Builtin.Slice.slicePlaces ((sIx n 0 lo : Nat) : Int) ((sIx n n hi : Nat) : Int) 1)) _ _ s
  rw [places_gen]
  exact wpAny_pure h
theorem pick_gen (xs : Array Value) (i k : Nat) : ((List.range k).filterMap fun (m : Nat) => xs[((i : Int) + (m : Int) * 1).toNat]?).toArray = ((xs.toList.drop i).take k).toArray := by
  have e : (fun (m : Nat) => xs[((i : Int) + (m : Int) * 1).toNat]?) = fun m => xs[i + m]? := by
    funext m
    have : ((i : Int) + (m : Int) * 1).toNat = i + m := by omega
    rw [this]
  rw [e]
  have := pick_run xs i k
  rw [List.filterMap_map] at this
  have e2 : ((fun x => xs[x]?) ∘ fun x => i + x) = fun m => xs[i + m]? := rfl
  rw [e2] at this
  rw [this]
theorem getItem_tuple_cut {t sl : Addr} {items : Array Value} {vl vu : Value} {lo hi : Option Int} {Q : Value → Shared → Prop} (ht : IsTup s.heap t items) (hs : s.heap.IsSliceOf sl vl vu .none) (pl : IsPart vl lo) (pu : IsPart vu hi)
    (hw : ¬ (sIx items.size 0 lo = 0 ∧ sIx items.size items.size hi = items.size))
    (h : Q (.ref s.heap.objs.size) { s with heap := s.heap.push { cls := .type "tuple", data := .seq ((items.toList.drop (sIx items.size 0 lo)).take (sIx items.size items.size hi - sIx items.size 0 lo)).toArray } })
    (hsz : items.size ≤ sizeLine) : wpAny (model prog w) A (getItem (.ref t) (.ref sl)) Q E s := by
  have htake : sizeOk (.seq ((items.toList.drop (sIx items.size 0 lo)).take (sIx items.size items.size hi - sIx items.size 0 lo)).toArray) := by
    show ((items.toList.drop (sIx items.size 0 lo)).take (sIx items.size items.size hi - sIx items.size 0 lo)).toArray.size ≤ sizeLine
    rw [List.size_toArray, List.length_take, List.length_drop, Array.length_toList]
    omega
  have hj : sIx items.size items.size hi ≤ items.size := sIx_le _ _ (Nat.le_refl _) hi
  obtain ⟨os, hos, hcs, hds⟩ := id hs
  have hTs : s.TypeIs (.ref sl) "slice" := ⟨os, hos, hcs⟩
  unfold getItem
  try with_reducible refine wpAny_holding ?_
  first | refine wpAny_bind (wpAny_pure ?_) | skip
  refine wpAny_bind (wpAny_sequenceKey ht.typeIs (by decide) ?_)
  refine wpAny_bind (wpAny_callSpecial?_slot (name := Str.ofString "__getitem__") ht.typeIs PyProof.Rows.slot_tuple_getitem
    (wpAny_call_entry PyProof.Rows.slot_tuple_getitem ht.typeIs entry_tuple_getitem ?_ (args_tuple_getitem _ _)))
  show wpAny _ _ (Builtin.Tuple.tupleItemsOf (.ref t) >>= _) _ _ s
  refine wpAny_bind (tupleItemsOf_ ht ?_)
  refine wpAny_bind (wpAny_typeOf hTs ?_)
  rw [if_pos (by decide)]
  refine wpAny_bind (sliceApplied_gen hs pl pu ?_)
  have hno : ¬ ((((sIx items.size 0 lo : Nat) : Int) == 0 && (1 : Int) == 1 && (sIx items.size items.size hi - sIx items.size 0 lo) == items.size) = true) := by
    intro q
    rw [Bool.and_eq_true, Bool.and_eq_true] at q
    have q1 : ((sIx items.size 0 lo : Nat) : Int) = 0 := eq_of_beq q.1.1
    have q2 : sIx items.size items.size hi - sIx items.size 0 lo = items.size := eq_of_beq q.2
    exact hw ⟨by omega, by omega⟩
  show wpAny _ _ (if (((sIx items.size 0 lo : Nat) : Int) == 0 && (1 : Int) == 1 && (sIx items.size items.size hi - sIx items.size 0 lo) == items.size) = true then _ else _) _ _ s
  rw [if_neg hno, pick_gen]
  first
    | exact wpAny_bind (m := Builtin.Tuple.tupleExact _) (wpAny_newObj_type (wpAny_pure ⟨_, rfl, wpAny_pure h⟩) htake)
    | exact wpAny_bind (m := Builtin.Tuple.tupleExact _) (wpAny_newObj_type (wpAny_bind (wpAny_pure (wpAny_pure ⟨_, rfl, wpAny_pure h⟩))) htake)
    | exact wpAny_bind (wpAny_bind (m := Builtin.Tuple.tupleExact _) (wpAny_newObj_type (wpAny_pure (wpAny_pure ⟨_, rfl, wpAny_pure h⟩)) htake))
    | exact wpAny_bind (wpAny_bind (m := Builtin.Tuple.tupleExact _) (wpAny_newObj_type (wpAny_pure ⟨_, rfl, wpAny_pure h⟩) htake))
end
end HT
namespace L2
open PySem PySem.Spec PyProof.Rows
abbrev TO := St → Hp → (Option Int → Hp → Prop) → Prop
def PO (X : Cx) (e : Option Expr) (t : TO) : Prop :=
  ∀ (pins : List (Addr × Obj)) (s : Shared) (σ : St) (H : Hp) (Q : Option Int → Hp → Prop), Inv X pins σ H s → t σ H Q →
    wpAny (model X.prog X.w) X.A (evalPart e X.env) (fun u s' => ∃ o H', Inv X pins σ H' s' ∧ IsPart u o ∧ Q o H') X.xe s
def tNoPart : TO := fun _ H Q => Q none H
def tPart (t : TE) : TO := fun σ H Q => t σ H fun x H1 => ∃ i, x = .int i ∧ Q (some i) H1
theorem intsAre_of {ns : List Int} : ∀ {us : List Value}, Vals (ns.map V.int) us → IntsAre us ns := by
  induction ns with
  | nil => intro us r; rw [List.map_nil] at r; cases r; exact .nil
  | cons n ns ih =>
    intro us r
    rw [List.map_cons] at r
    cases r with
    | cons r1 r2 =>
      obtain ⟨t, e⟩ := r1
      subst e
      exact .cons n t (ih r2)
section
variable {X : Cx} {e : Expr} {te : TE} {lo hi : Option Expr} {tl th : TO} {pos p2 : Pos}
theorem po_none : PO X none tNoPart := by
  intro pins s σ H Q I h
  rw [evalPart_none]
  exact wpAny_pure ⟨none, H, I, .none, h⟩
theorem po_some (h : PE X e te) : PO X (some e) (tPart te) := by
  intro pins s σ H Q I hw
  rw [evalPart_some]
  refine thn (h pins s σ H _ I hw) fun u s1 ⟨x, H1, I1, r1, q1⟩ => ?_
  obtain ⟨i, rfl, q⟩ := q1
  obtain ⟨t, rfl⟩ := r1
  exact ⟨some i, H1, I1, .int i t, q⟩
def SlR (X : Cx) (r : V → Option Int → Option Int → Hp → VK → Prop) : Prop :=
  ∀ (pins : List (Addr × Obj)) (s : Shared) (σ : St) (H : Hp) (x : V) (v vl vu : Value) (lo hi : Option Int) (sl : Addr) (Q : VK), Inv X pins σ H s → RelV x v → s.heap.IsSliceOf sl vl vu .none → IsPart vl lo → IsPart vu hi → r x lo hi H Q →
    ∃ T id, typeLookup (.type T) "__getitem__" = pure (some (.builtin id)) ∧ s.TypeIs v T ∧ wpAny (model X.prog X.w) X.A (getItem v (.ref sl)) (EP X pins σ Q) X.xe s
theorem SlR.or {r r' : V → Option Int → Option Int → Hp → VK → Prop} (h : SlR X r) (h' : SlR X r') : SlR X (fun x lo hi H Q => r x lo hi H Q ∨ r' x lo hi H Q) := by
  intro pins s σ H x v vl vu lo hi sl Q I rx hs pl pu q
  rcases q with q | q
  · exact h pins s σ H x v vl vu lo hi sl Q I rx hs pl pu q
  · exact h' pins s σ H x v vl vu lo hi sl Q I rx hs pl pu q
def tSl (r : V → Option Int → Option Int → Hp → VK → Prop) (te : TE) (tl th : TO) : TE := fun σ H Q => te σ H fun x H1 => tl σ H1 fun l H2 => th σ H2 fun u H3 => r x l u H3 Q
theorem pe_slice {r : V → Option Int → Option Int → Hp → VK → Prop} (hr : SlR X r) (he : PE X e te) (hl : PO X lo tl) (hu : PO X hi th) : PE X (.Subscript e (.Slice lo hi none p2) pos) (tSl r te tl th) := by
  intro pins s σ H Q I h
  refine Subscript_ (thn (he pins s σ H _ I h) fun v s1 ⟨x, H1, I1, r1, q1⟩ => ?_)
  refine wpAny_Slice (thn (hl pins s1 σ H1 _ I1 q1) fun vl s2 ⟨l, H2, I2, pl, q2⟩ => thn (hu pins s2 σ H2 _ I2 q2) fun vu s3 ⟨u, H3, I3, pu, q3⟩ => ?_)
  rw [evalPart_none]
  refine wpAny_pure ?_
  have I4 : Inv X pins σ H3 { s3 with heap := s3.heap.push { cls := .type "slice", data := .fields #[vl, vu, .none] } } := I3.kept (t' := s3.toks) fun b ob q => Heap.get?_push_of_some _ q
  obtain ⟨T, id, hT, ht, hg⟩ := hr pins { s3 with heap := s3.heap.push { cls := .type "slice", data := .fields #[vl, vu, .none] } } σ H3 x v vl vu l u s3.heap.objs.size Q I4 r1 (Heap.IsSliceOf.new ..) pl pu q3
  show wpAny (model X.prog X.w) X.A (subscriptTail e (.Slice lo hi none p2) v (.ref s3.heap.objs.size)) (EP X pins σ Q) X.xe { s3 with heap := s3.heap.push { cls := .type "slice", data := .fields #[vl, vu, .none] } }
  exact tail_any (ops := [.ref s3.heap.objs.size, v]) ht hT hg (by with_unfolding_all rfl)
def cutV (xs : List V) (lo hi : Option Int) : List V := (xs.drop (HT.sIx xs.length 0 lo)).take (HT.sIx xs.length xs.length hi - HT.sIx xs.length 0 lo)
theorem cutV_length (xs : List V) (lo hi : Option Int) : (cutV xs lo hi).length ≤ xs.length := by
  unfold cutV
  rw [List.length_take, List.length_drop]
  omega
def rSlT (K : PySem.W.Frag) : V → Option Int → Option Int → Hp → VK → Prop := fun x lo hi H Q => ∃ a xs, x = .ref a ∧ SqT K H a xs ∧
  ¬ (HT.sIx xs.length 0 lo = 0 ∧ HT.sIx xs.length xs.length hi = xs.length) ∧ ∀ p, H p = none → Q (.ref p) (upd H p (.tup (cutV xs lo hi)))
theorem sl_tup : SlR X (rSlT X.K) := by
  intro pins s σ H x v vl vu lo hi sl Q I rx hs pl pu h
  obtain ⟨a, xs, rfl, hx, hw, q⟩ := h
  cases rx
  obtain ⟨its, r, ht, hz⟩ := I.tuple hx
  have hlen : its.toArray.size = xs.length := by rw [List.size_toArray]; exact r.length.symm
  refine ⟨"tuple", _, PyProof.Rows.slot_tuple_getitem.lookup, ht.typeIs, ?_⟩
  refine HT.getItem_tuple_cut ht hs pl pu (by rw [hlen]; exact hw) ?_ (by rw [hlen]; exact hz)
  rw [hlen]
  refine ⟨.ref s.heap.objs.size, _, I.laid (t' := s.toks) (o := .tup (cutV xs lo hi)) (fun b ob q => Heap.get?_push_of_some _ q) (Nat.le_refl _) ?_, rfl, q _ (I.hok.fresh (Nat.le_refl _))⟩
  exact ⟨Nat.le_trans (cutV_length xs lo hi) hz, _, (r.drop (HT.sIx xs.length 0 lo)).take (HT.sIx xs.length xs.length hi - HT.sIx xs.length 0 lo), IsTupN.new _ _⟩
def rLtT (K : PySem.W.Frag) : R2 := fun x y H Q => ∃ a b ns ms, x = .ref a ∧ y = .ref b ∧ SqT K H a (ns.map V.int) ∧ SqT K H b (ms.map V.int) ∧ Q (.bl (HT.lexLt ns ms)) H
def rCatT (K : PySem.W.Frag) : R2 := fun x y H Q => ∃ a b xs ys, x = .ref a ∧ y = .ref b ∧ SqT K H a xs ∧ SqT K H b ys ∧ xs ≠ [] ∧ xs.length + ys.length ≤ sizeLine ∧
  (ys = [] → Q (.ref a) H) ∧ (ys ≠ [] → ∀ p, H p = none → Q (.ref p) (upd H p (.tup (xs ++ ys))))
theorem Vals.nil_iff {xs : List V} {us : List Value} (r : Vals xs us) : us = [] ↔ xs = [] := by
  cases r with
  | nil => simp
  | cons _ _ => simp
theorem op_catT : OpR X (binaryOp .Add) (rCatT X.K) := by
  intro pins s σ H x y v u Q I rx ry h
  obtain ⟨a, b, xs, ys, rfl, rfl, ha, hb, hx, hz, q1, q2⟩ := h
  cases rx
  cases ry
  obtain ⟨its, r1, p1, _⟩ := I.tuple ha
  obtain ⟨its2, r2, p2, _⟩ := I.tuple hb
  refine HT.cat_tup p1 p2 (fun z => hx (r1.nil_iff.mp z)) (fun z => ⟨.ref a, H, I, rfl, q1 (r2.nil_iff.mp z)⟩) (fun z => ?_) (by rw [← r1.length, ← r2.length]; exact hz)
  refine ⟨.ref s.heap.objs.size, _, I.laid (t' := s.toks) (o := .tup (xs ++ ys)) (fun b ob q => Heap.get?_push_of_some _ q) (Nat.le_refl _) ?_, rfl, q2 (fun w => z (r2.nil_iff.mpr w)) _ (I.hok.fresh (Nat.le_refl _))⟩
  exact ⟨by rw [List.length_append]; exact hz, _, r1.append r2, IsTupN.new _ _⟩
end
end L2
namespace L2
open PySem PySem.Spec PyProof.Rows
def ixN (n : Nat) (i : Int) : Option Nat := if 0 ≤ i then (if i < n then some i.toNat else none) else if -(n : Int) ≤ i then some (i + n).toNat else none
def atI {α : Type} (xs : List α) (i : Int) : Option α := (ixN xs.length i).bind fun j => xs[j]?
theorem ixN_seq {n : Nat} {i : Int} {j : Nat} (h : ixN n i = some j) : seqIndex? i n = some j ∧ j < n ∧ -(n : Int) ≤ i ∧ i < n := by
  unfold ixN at h
  by_cases h0 : 0 ≤ i
  · rw [if_pos h0] at h
    by_cases h1 : i < n
    · rw [if_pos h1] at h
      have e : i.toNat = j := Option.some.inj h
      exact ⟨by rw [seqIndex_of h0 h1, e], by omega, by omega, h1⟩
    · rw [if_neg h1] at h; cases h
  · rw [if_neg h0] at h
    by_cases h1 : -(n : Int) ≤ i
    · rw [if_pos h1] at h
      have e : (i + n).toNat = j := Option.some.inj h
      exact ⟨by rw [seqIndex_neg (by omega) h1, e], by omega, h1, by omega⟩
    · rw [if_neg h1] at h; cases h
theorem atI_get {α : Type} {xs : List α} {i : Int} {v : α} (h : atI xs i = some v) : ∃ j, seqIndex? i xs.length = some j ∧ xs[j]? = some v ∧ j < xs.length ∧ -(xs.length : Int) ≤ i ∧ i < xs.length := by
  unfold atI at h
  cases e : ixN xs.length i with
  | none => rw [e] at h; cases h
  | some j =>
    rw [e] at h
    obtain ⟨h1, h2, h3, h4⟩ := ixN_seq e
    exact ⟨j, h1, h, h2, h3, h4⟩
theorem atI_nat {α : Type} {xs : List α} {j : Nat} {v : α} (h : xs[j]? = some v) : atI xs (j : Int) = some v := by
  have hj : j < xs.length := (List.getElem?_eq_some_iff.mp h).1
  have e : ixN xs.length (j : Int) = some j := by
    unfold ixN
    rw [if_pos (by omega), if_pos (by omega)]; simp
  unfold atI; rw [e]; exact h
def PlainIx (b : Expr) : Prop := ∀ o i, subscripted b false o i = operate [o, i] (getItem o i)
def IxR (X : Cx) (r : R2) : Prop :=
  ∀ (value slice : Expr) (pins : List (Addr × Obj)) (s : Shared) (σ : St) (H : Hp) (x y : V) (v u : Value) (Q : VK), Inv X pins σ H s → RelV x v → RelV y u → r x y H Q →
    subscripted slice false v u = operate [v, u] (getItem v u) → wpAny (model X.prog X.w) X.A (subscriptTail value slice v u) (EP X pins σ Q) X.xe s
def MtR (X : Cx) (id : String) (r : V → List V → Hp → VK → Prop) : Prop :=
  ∀ (pins : List (Addr × Obj)) (s : Shared) (σ : St) (H : Hp) (x : V) (xs : List V) (v : Value) (us : List Value) (Q : VK), Inv X pins σ H s → RelV x v → Vals xs us → r x xs H Q →
    wpAny (model X.prog X.w) X.A (call (.builtin id) (v :: us)) (EP X pins σ Q) X.xe s
section
variable {X : Cx} {a b : Expr} {ta tb : TE} {pos : Pos}
theorem IxR.or {r r' : R2} (h : IxR X r) (h' : IxR X r') : IxR X (fun x y H Q => r x y H Q ∨ r' x y H Q) := by
  intro value slice pins s σ H x y v u Q I rx ry q hs
  rcases q with q | q
  · exact h value slice pins s σ H x y v u Q I rx ry q hs
  · exact h' value slice pins s σ H x y v u Q I rx ry q hs
theorem pe_ix {r : R2} (hr : IxR X r) (ha : PE X a ta) (hb : PE X b tb) (hs : PlainIx b) : PE X (.Subscript a b pos) (tOp r ta tb) := by
  intro pins s σ H Q I h
  exact Subscript_ (binT ha hb I h fun v u s2 x y H2 I2 rx ry q => hr a b pins s2 σ H2 x y v u Q I2 rx ry q (hs _ _))
def rIxL (K : PySem.W.Frag) : R2 := fun x y H Q => ∃ p xs i v, x = .ref p ∧ y = .int i ∧ SqL K H p xs ∧ atI xs i = some v ∧ Q v H
def rIxT (K : PySem.W.Frag) : R2 := fun x y H Q => ∃ p xs i v, x = .ref p ∧ y = .int i ∧ SqT K H p xs ∧ atI xs i = some v ∧ Q v H
def rIxS : R2 := fun x y H Q => ∃ z i c, x = .str z ∧ y = .int i ∧ z.length ≤ sizeLine ∧ atI z.cps.toList i = some c ∧ Q (.str ⟨#[c]⟩) H
theorem ix_list : IxR X (rIxL X.K) := by
  intro value slice pins s σ H x y v u Q I rx ry h hs
  obtain ⟨p, xs, i, z, rfl, rfl, hq, he, q⟩ := h
  cases rx
  obtain ⟨t, rfl⟩ := ry
  obtain ⟨its, r, pl, hz⟩ := I.list hq
  obtain ⟨j, h1, h2, h3, h4, h5⟩ := atI_get he
  obtain ⟨w, ew, rw'⟩ := r.get h2
  have hl := r.length
  have hn := line63
  have fin : EP X pins σ Q w s := ⟨z, H, I, rw', q⟩
  by_cases h0 : 0 ≤ i
  · have hj : i.toNat = j := by
      rw [seqIndex_of h0 h5] at h1
      exact Option.some.inj h1
    exact item_listR pl.isList h0 (by omega) (by rw [hj]; simpa using ew) fin hs
  · have hj : (i + (its.toArray.size : Int)).toNat = j := by
      rw [seqIndex_neg (by omega) h4] at h1
      rw [List.size_toArray, ← hl]
      exact Option.some.inj h1
    exact subscriptTail_builtinR (x := w) pl.isList.typeIs slot_list_getitem.lookup
      (wpAny_getItem_list_neg (Q := fun r s' => r = w ∧ EP X pins σ Q r s') pl.isList (by omega) (by rw [List.size_toArray] <;> omega) (by omega) (by rw [hj]; simpa using ew) ⟨rfl, fin⟩) hs
theorem ix_tup : IxR X (rIxT X.K) := by
  intro value slice pins s σ H x y v u Q I rx ry h hs
  obtain ⟨p, xs, i, z, rfl, rfl, hq, he, q⟩ := h
  cases rx
  obtain ⟨t, rfl⟩ := ry
  obtain ⟨its, r, pl, hz⟩ := I.tuple hq
  obtain ⟨j, h1, h2, h3, h4, h5⟩ := atI_get he
  obtain ⟨w, ew, rw'⟩ := r.get h2
  have hl := r.length
  have hn := line63
  have fin : EP X pins σ Q w s := ⟨z, H, I, rw', q⟩
  exact subscriptTail_builtinR (x := w) pl.typeIs slot_tuple_getitem.lookup
    (getItem_tuple (j := j) (Q := fun r s' => r = w ∧ EP X pins σ Q r s') pl (by omega) (by omega) (by rw [List.size_toArray, ← hl]; exact h1) (by simpa using ew) ⟨rfl, fin⟩) hs
theorem ix_str : IxR X rIxS := by
  intro value slice pins s σ H x y v u Q I rx ry h hs
  obtain ⟨z, i, c, rfl, rfl, hz, he, q⟩ := h
  obtain ⟨t, rfl⟩ := rx
  obtain ⟨t', rfl⟩ := ry
  obtain ⟨j, h1, h2, h3, h4, h5⟩ := atI_get he
  have hl : z.cps.toList.length = z.length := by simp [Str.length]
  rw [hl] at h1 h4 h5
  have hn := line63
  exact tail_any (typeIs_str s z t) slot_str_getitem.lookup (getItem_str (c := c) (by
    have e1 : decide (i < -(2 ^ 63 : Int)) = false := decide_eq_false (by omega)
    have e2 : decide (i ≥ 2 ^ 63) = false := decide_eq_false (by omega)
    rw [e1, e2, Bool.or_false]) (by rw [h1]; simpa using h2) ⟨.str ⟨#[c]⟩, H, I.tok _, ⟨_, rfl⟩, q⟩) hs
def rIx (K : PySem.W.Frag) : R2 := fun x y H Q => rIxL K x y H Q ∨ rIxT K x y H Q ∨ rIxS x y H Q
theorem ix_seq : IxR X (rIx X.K) := ix_list.or (ix_tup.or ix_str)
theorem mapSeq_set (its : List Value) (n j : Nat) (u : Value) : Obj.mapSeq (·.setIfInBounds j u) { cls := .type "list", data := .seq its.toArray n } = { cls := .type "list", data := .seq (its.set j u).toArray n } := by
  simp [Obj.mapSeq]
theorem Inv.lst {pins : List (Addr × Obj)} {σ : St} {H : Hp} {s : Shared} {p : Addr} {xs : List V} (I : Inv X pins σ H s) (h : H p = some (.lst xs)) :
    ∃ (its : List Value) (n : Nat), Vals xs its ∧ s.heap.get? p = some { cls := .type "list", data := .seq its.toArray n } ∧ xs.length ≤ sizeLine := by
  obtain ⟨z, its, n, r, e⟩ := I.hok p _ h
  exact ⟨its, n, r, e, z⟩
theorem Inv.lstUpd {pins : List (Addr × Obj)} {σ : St} {H : Hp} {s : Shared} {p : Addr} {xs ys : List V} {its its' : List Value} {n n' : Nat} {f : Obj → Obj} (I : Inv X pins σ H s) (h : H p = some (.lst xs))
    (ho : s.heap.get? p = some { cls := .type "list", data := .seq its.toArray n }) (hf : f { cls := .type "list", data := .seq its.toArray n } = { cls := .type "list", data := .seq its'.toArray n' }) (r : Vals ys its') (hz : ys.length ≤ sizeLine) (t : Nat) :
    Inv X pins σ (upd H p (.lst ys)) { s with heap := s.heap.update p f, toks := t } := by
  have e : (s.heap.update p f).get? p = some { cls := .type "list", data := .seq its'.toArray n' } := by
    rw [Heap.get?_update_self f ho (by rw [hf] <;> rfl), hf]
  refine I.write (x := p) (e := p) (by rw [h]; trivial) (.inl rfl) (fun b u hb q => (Heap.get?_update_other _ _ (Ne.symm hb)).trans q) ⟨_, e⟩ ?_
  exact ⟨hz, its', n', r, e⟩
def rSetL : V → V → V → Hp → (Hp → Prop) → Prop := fun o i v H Q => ∃ p xs k j, o = .ref p ∧ i = .int k ∧ H p = some (.lst xs) ∧ ixN xs.length k = some j ∧ Q (upd H p (.lst (xs.set j v)))
theorem set_list : PSet X rSetL := by
  intro pins s σ H o i v ov iv u Q I ro ri rv h
  obtain ⟨p, xs, k, j, rfl, rfl, hp, hj, q⟩ := h
  cases ro
  obtain ⟨t, rfl⟩ := ri
  obtain ⟨its, n, r, ho, hz⟩ := I.lst hp
  obtain ⟨h1, h2, h3, h4⟩ := ixN_seq hj
  have hl := r.length
  have hn := line63
  have I' : Inv X pins σ (upd H p (.lst (xs.set j v))) { s with heap := s.heap.update p (Obj.mapSeq (·.setIfInBounds j u)) } :=
    I.lstUpd hp ho (mapSeq_set its n j u) (r.set rv j) (by rw [List.length_set]; exact hz) s.toks
  by_cases h0 : 0 ≤ k
  · have hk : k.toNat = j := by
      rw [seqIndex_of h0 h4] at h1
      exact Option.some.inj h1
    exact PySem.W.ki_setAt ho h0 (by omega) (by rw [List.size_toArray, ← hl]; exact h4) (by rw [hk]; exact ⟨_, I', q⟩)
  · have hk : (k + (its.toArray.size : Int)).toNat = j := by
      rw [seqIndex_neg (by omega) h3] at h1
      rw [List.size_toArray, ← hl]
      exact Option.some.inj h1
    exact PySem.W.ki_setBack ho (by omega) (by rw [List.size_toArray, ← hl]; exact h3) (by omega) (by rw [hk]; exact ⟨_, I', q⟩)
theorem slice_bounds (lo hi : Option Int) (n : Nat) : (sliceBounds lo hi none n).1 = ((HT.sIx n 0 lo : Nat) : Int) ∧ (sliceBounds lo hi none n).2.1 = ((HT.sIx n n hi : Nat) : Int) ∧ (sliceBounds lo hi none n).2.2 = 1 := by
  refine ⟨?_, ?_, rfl⟩
  · cases lo with
    | none => simp [sliceBounds, HT.sIx]
    | some i =>
      simp only [sliceBounds, HT.sIx, Option.getD_none, show (1 : Int) > 0 by decide, if_true]
      by_cases h : i < 0
      · simp only [h, if_true] <;> omega
      · simp only [h, if_false] <;> omega
  · cases hi with
    | none => simp [sliceBounds, HT.sIx]
    | some i =>
      simp only [sliceBounds, HT.sIx, Option.getD_none, show (1 : Int) > 0 by decide, if_true]
      by_cases h : i < 0
      · simp only [h, if_true] <;> omega
      · simp only [h, if_false] <;> omega
theorem slicePick_cut (its : List Value) (lo hi : Option Int) : slicePick its.toArray lo hi none = ((its.drop (HT.sIx its.length 0 lo)).take (HT.sIx its.length its.length hi - HT.sIx its.length 0 lo)).toArray := by
  obtain ⟨h1, h2, h3⟩ := slice_bounds lo hi its.toArray.size
  unfold slicePick
  rw [h1, h2, h3]
  simp only [sliceRange_one, pick_run, List.size_toArray] <;> rfl
def rSlL (K : PySem.W.Frag) : V → Option Int → Option Int → Hp → VK → Prop := fun x lo hi H Q => ∃ a xs, x = .ref a ∧ SqL K H a xs ∧ ∀ p, H p = none → Q (.ref p) (upd H p (.lst (cutV xs lo hi)))
theorem sl_list : SlR X (rSlL X.K) := by
  intro pins s σ H x v vl vu lo hi sl Q I rx hs pl pu h
  obtain ⟨a, xs, rfl, hx, q⟩ := h
  cases rx
  obtain ⟨its, r, ht, hz⟩ := I.list hx
  have hlen := r.length
  refine ⟨"list", _, slot_list_getitem.lookup, ht.isList.typeIs, ?_⟩
  refine wpAny_getItem_list_slice ht.isList hs pl pu .none (by simp) ?_ (by rw [List.size_toArray] <;> omega)
  rw [slicePick_cut, ← hlen]
  refine ⟨.ref s.heap.objs.size, _, I.laid (t' := s.toks) (o := .lst (cutV xs lo hi)) (fun b ob q => Heap.get?_push_of_some _ q) (Nat.le_refl _) ?_, rfl, q _ (I.hok.fresh (Nat.le_refl _))⟩
  exact ⟨Nat.le_trans (cutV_length xs lo hi) hz, _, 0, (r.drop (HT.sIx xs.length 0 lo)).take (HT.sIx xs.length xs.length hi - HT.sIx xs.length 0 lo), Heap.get?_push_size _ rfl⟩
def flatV : V → Bool
  | .non => true
  | .bl _ => true
  | .int _ => true
  | .str _ => true
  | _ => false
def eqV : V → V → Bool
  | .non, .non => true
  | .bl a, .bl b => a == b
  | .bl a, .int b => (if a then 1 else 0) == b
  | .int a, .bl b => a == (if b then 1 else 0)
  | .int a, .int b => a == b
  | .str a, .str b => a == b
  | _, _ => false
theorem eqAt_V {A : Around} {s : Shared} {y x : V} {u v : Value} (ry : RelV y u) (rx : RelV x v) (fy : flatV y = true) (fx : flatV x = true) : SeqAt.EqAt A s u v (eqV y x) := by
  cases y with
  | non =>
    cases ry
    cases x with
    | non => cases rx; exact SeqAt.EqAt.same _
    | bl b => cases rx; exact SeqAt.EqAt.none_bool b
    | int b => obtain ⟨t, rfl⟩ := rx; exact SeqAt.EqAt.none_int b t
    | str b => obtain ⟨t, rfl⟩ := rx; exact SeqAt.EqAt.none_str b t
    | _ => exact absurd (show false = true from fx) Bool.false_ne_true
  | bl a =>
    cases ry
    cases x with
    | non => cases rx; exact SeqAt.EqAt.bool_none a
    | bl b => cases rx; exact SeqAt.EqAt.bool_bool a b
    | int b => obtain ⟨t, rfl⟩ := rx; exact SeqAt.EqAt.bool_int a b t
    | str b => obtain ⟨t, rfl⟩ := rx; exact SeqAt.EqAt.bool_str a b t
    | _ => exact absurd (show false = true from fx) Bool.false_ne_true
  | int a =>
    obtain ⟨t', rfl⟩ := ry
    cases x with
    | non => cases rx; exact SeqAt.EqAt.int_none a t'
    | bl b => cases rx; exact SeqAt.EqAt.int_bool a t' b
    | int b => obtain ⟨t, rfl⟩ := rx; exact SeqAt.EqAt.int_int a t' b t
    | str b => obtain ⟨t, rfl⟩ := rx; exact SeqAt.EqAt.int_str a t' b t
    | _ => exact absurd (show false = true from fx) Bool.false_ne_true
  | str a =>
    obtain ⟨t', rfl⟩ := ry
    cases x with
    | non => cases rx; exact SeqAt.EqAt.str_none a t'
    | bl b => cases rx; exact SeqAt.EqAt.str_bool a t' b
    | int b => obtain ⟨t, rfl⟩ := rx; exact SeqAt.EqAt.str_int a t' b t
    | str b => obtain ⟨t, rfl⟩ := rx; exact SeqAt.EqAt.str_str a t' b t
    | _ => exact absurd (show false = true from fx) Bool.false_ne_true
  | _ => exact absurd (show false = true from fy) Bool.false_ne_true
def eqU (x : V) (u : Value) : Bool := match u with
  | .none => eqV .non x
  | .bool b => eqV (.bl b) x
  | .int i _ => eqV (.int i) x
  | .str z _ => eqV (.str z) x
  | _ => false
theorem eqU_of {x y : V} {u : Value} (r : RelV y u) (f : flatV y = true) : eqU x u = eqV y x := by
  cases y with
  | non => cases r; rfl
  | bl b => cases r; rfl
  | int i => obtain ⟨t, rfl⟩ := r; rfl
  | str z => obtain ⟨t, rfl⟩ := r; rfl
  | _ => exact absurd (show false = true from f) Bool.false_ne_true
theorem any_eqU {x : V} : ∀ {xs : List V} {us : List Value}, Vals xs us → xs.all flatV = true → us.any (eqU x) = xs.any fun y => eqV y x
  | _, _, .nil, _ => rfl
  | y :: xs, u :: us, .cons r t, f => by
    rw [List.all_cons, Bool.and_eq_true] at f
    rw [List.any_cons, List.any_cons, eqU_of r f.1, any_eqU t f.2]
theorem mem_eqAt {A : Around} {s : Shared} {x : V} {v : Value} (rx : RelV x v) (fx : flatV x = true) : ∀ {xs : List V} {us : List Value}, Vals xs us → xs.all flatV = true → ∀ u ∈ us, SeqAt.EqAt A s u v (eqU x u)
  | _, _, .nil, _ => fun u hu => by cases hu
  | y :: xs, u :: us, .cons r t, f => fun u' hu => by
    rw [List.all_cons, Bool.and_eq_true] at f
    rcases List.mem_cons.mp hu with rfl | hu
    · rw [eqU_of r f.1]; exact eqAt_V r rx f.1 fx
    · exact mem_eqAt rx fx t f.2 u' hu
def inV (x : V) (xs : List V) : Bool := xs.any fun y => eqV y x
def rIn (K : PySem.W.Frag) (neg : Bool) : R2 := fun x y H Q => ∃ p xs, y = .ref p ∧ (SqL K H p xs ∨ SqT K H p xs) ∧ flatV x = true ∧ xs.all flatV = true ∧ Q (.bl (if neg then !inV x xs else inV x xs)) H
theorem op_in_seq : OpR X (compareOp .In) (rIn X.K false) := by
  intro pins s σ H x y v u Q I rx ry h
  obtain ⟨p, xs, rfl, hq, fx, fs, q⟩ := h
  cases ry
  rcases hq with hq | hq
  · obtain ⟨its, r, pl, hz⟩ := I.list hq
    refine SeqAt.in_listAt (eqU x) pl.isList (fun w hw => mem_eqAt rx fx r fs w (by simpa using hw)) ⟨.bl _, H, I, rfl, ?_⟩
    rw [show its.toArray.any (eqU x) = its.any (eqU x) by simp, any_eqU r fs]
    exact q
  · obtain ⟨its, r, pl, hz⟩ := I.tuple hq
    refine SeqAt.in_tupleAt (eqU x) pl (fun w hw => mem_eqAt rx fx r fs w (by simpa using hw)) ⟨.bl _, H, I, rfl, ?_⟩
    rw [show its.toArray.any (eqU x) = its.any (eqU x) by simp, any_eqU r fs]
    exact q
theorem op_notIn_seq : OpR X (compareOp .NotIn) (rIn X.K true) := by
  intro pins s σ H x y v u Q I rx ry h
  obtain ⟨p, xs, rfl, hq, fx, fs, q⟩ := h
  cases ry
  rcases hq with hq | hq
  · obtain ⟨its, r, pl, hz⟩ := I.list hq
    refine SeqAt.notIn_listAt (eqU x) pl.isList (fun w hw => mem_eqAt rx fx r fs w (by simpa using hw)) ⟨.bl _, H, I, rfl, ?_⟩
    rw [show its.toArray.any (eqU x) = its.any (eqU x) by simp, any_eqU r fs]
    exact q
  · obtain ⟨its, r, pl, hz⟩ := I.tuple hq
    refine SeqAt.notIn_tupleAt (eqU x) pl (fun w hw => mem_eqAt rx fx r fs w (by simpa using hw)) ⟨.bl _, H, I, rfl, ?_⟩
    rw [show its.toArray.any (eqU x) = its.any (eqU x) by simp, any_eqU r fs]
    exact q
theorem call_len_seq : CallR X (.builtin "len") (fun xs H Q => ∃ p ys, xs = [.ref p] ∧ (SqL X.K H p ys ∨ SqT X.K H p ys) ∧ Q (.int ys.length) H) := by
  intro pins s σ H xs us Q I r h
  obtain ⟨p, ys, rfl, hq, q⟩ := h
  obtain ⟨u, rfl, rx⟩ := vals1 r
  cases rx
  have hn := line63
  rcases hq with hq | hq
  · obtain ⟨its, r', pl, hz⟩ := I.list hq
    have hlen := r'.length
    exact Calls.call_len_list pl.isList (by simp only [List.size_toArray] <;> omega) ⟨.int ys.length, H, I.tok _, ⟨s.toks + 1, by rw [List.size_toArray, hlen]⟩, q⟩
  · obtain ⟨its, r', pl, hz⟩ := I.tuple hq
    have hlen := r'.length
    exact len_tuple pl (by simp only [List.size_toArray] <;> omega) ⟨.int ys.length, H, I.tok _, ⟨s.toks + 1, by rw [List.size_toArray, hlen]⟩, q⟩
theorem call_len_str : CallR X (.builtin "len") (fun xs H Q => ∃ z, xs = [.str z] ∧ z.length ≤ sizeLine ∧ Q (.int z.length) H) := by
  intro pins s σ H xs us Q I r h
  obtain ⟨z, rfl, hz, q⟩ := h
  obtain ⟨u, rfl, t, rfl⟩ := vals1 r
  have hn := line63
  exact len_str (by omega) ⟨.int z.length, H, I.tok _, ⟨_, rfl⟩, q⟩
theorem CallR.or {f : Value} {r r' : List V → Hp → VK → Prop} (h : CallR X f r) (h' : CallR X f r') : CallR X f (fun xs H Q => r xs H Q ∨ r' xs H Q) := by
  intro pins s σ H xs us Q I rs q
  rcases q with q | q
  · exact h pins s σ H xs us Q I rs q
  · exact h' pins s σ H xs us Q I rs q
theorem call_tuple_of : CallR X (.type "tuple") (fun xs H Q => ∃ p ys, xs = [.ref p] ∧ ((SqL X.K H p ys ∧ ∀ l, H l = none → Q (.ref l) (upd H l (.tup ys))) ∨ (SqT X.K H p ys ∧ Q (.ref p) H))) := by
  intro pins s σ H xs us Q I r h
  obtain ⟨p, ys, rfl, h⟩ := h
  obtain ⟨u, rfl, rx⟩ := vals1 r
  cases rx
  rcases h with ⟨hq, q⟩ | ⟨hq, q⟩
  · obtain ⟨its, r', pl, hz⟩ := I.list hq
    have hlen := r'.length
    refine call_tuple_list pl.isList (fun h' kp => ?_) (by simp only [List.size_toArray] <;> omega)
    have I1 : Inv X pins σ H { s with heap := h' } := I.kept (t' := s.toks) kp
    have I2 : Inv X pins σ (upd H h'.objs.size (.tup ys)) { s with heap := h'.push { cls := .type "tuple", data := .seq its.toArray } } :=
      I1.laid (t' := s.toks) (fun b o e => Heap.get?_push_of_some _ e) (Nat.le_refl _) (show ObjOk X.prog X.w _ _ _ (.tup ys) from ⟨hz, its, r', IsTupN.new _ _⟩)
    exact ⟨.ref h'.objs.size, _, I2, rfl, q _ (I1.hok.fresh (Nat.le_refl _))⟩
  · obtain ⟨its, r', pl, hz⟩ := I.tuple hq
    exact call_tuple_same pl ⟨.ref p, H, I, rfl, q⟩
def tyV (K : PySem.W.Frag) (T : String) (x : V) (H : Hp) : Prop := match x with
  | .str _ => T = "str"
  | .int _ => T = "int"
  | .ref p => (T = "list" ∧ ∃ xs, SqL K H p xs) ∨ (T = "tuple" ∧ ∃ o, K.lookup p = some o ∧ o.cls = .type "tuple" ∧ o.dict = none) ∨
      (T = "dict" ∧ ((∃ kvs, H p = some (.dK kvs)) ∨ ∃ kvs, H p = some (.dT kvs))) ∨ (T = "set" ∧ ∃ S n, H p = some (.set S n))
  | _ => False
theorem tyV_is {pins : List (Addr × Obj)} {σ : St} {H : Hp} {s : Shared} {T : String} {x : V} {v : Value} (I : Inv X pins σ H s) (r : RelV x v) (ty : tyV X.K T x H) :
    s.TypeIs v T ∧ ∀ a, v = .ref a → ∃ ob, s.heap.get? a = some ob ∧ ob.dict = none := by
  cases x with
  | str z =>
    obtain ⟨t, rfl⟩ := r
    cases (show T = "str" from ty)
    exact ⟨typeIs_str s z t, fun _ e => nomatch e⟩
  | int i =>
    obtain ⟨t, rfl⟩ := r
    cases (show T = "int" from ty)
    exact ⟨typeIs_int s i t, fun _ e => nomatch e⟩
  | ref p =>
    cases r
    rcases ty with ⟨rfl, xs, hq⟩ | ⟨rfl, o, hk, hc, hd⟩ | ⟨rfl, hk⟩ | ⟨rfl, S, n, hk⟩
    · obtain ⟨its, _, pl, _⟩ := I.list hq
      refine ⟨pl.isList.typeIs, fun a e => ?_⟩
      cases e
      obtain ⟨o, n, e, c, hd, _⟩ := pl
      exact ⟨o, e, hd⟩
    · refine ⟨⟨o, I.kIn p o hk, hc⟩, fun a e => ?_⟩
      cases e
      exact ⟨o, I.kIn _ o hk, hd⟩
    · have z : ∃ o, s.heap.get? p = some o ∧ o.ExactDict := by
        rcases hk with ⟨kvs, hk⟩ | ⟨kvs, hk⟩
        · obtain ⟨_, _, _, _, o, _, _, e, ex, _⟩ := I.hok p _ hk
          exact ⟨o, e, ex⟩
        · obtain ⟨_, _, _, _, o, _, _, e, ex, _⟩ := I.hok p _ hk
          exact ⟨o, e, ex⟩
      obtain ⟨o, e, ex⟩ := z
      refine ⟨⟨o, e, ex.1⟩, fun a e2 => ?_⟩
      cases e2
      exact ⟨o, e, ex.2.1⟩
    · obtain ⟨o, _, _, _, e, ex, _⟩ := I.hok p _ hk
      refine ⟨⟨o, e, ex.1⟩, fun a e2 => ?_⟩
      cases e2
      exact ⟨o, e, ex.2.1⟩
  | _ => exact False.elim ty
def tBM0 (K : PySem.W.Frag) (T : String) (r : V → List V → Hp → VK → Prop) (to : TE) : TE := fun σ H Q => to σ H fun x H1 => tyV K T x H1 ∧ r x [] H1 Q
def tBM (K : PySem.W.Frag) (T : String) (r : V → List V → Hp → VK → Prop) (to : TE) (t : TA) : TE := fun σ H Q => to σ H fun x H1 => tyV K T x H1 ∧ t σ H1 fun xs H2 => r x xs H2 Q
variable {o e : Expr} {es : List Expr} {to : TE} {t : TA} {name : Str} {apos cpos : Pos} {T id : String} {r : V → List V → Hp → VK → Prop}
theorem pe_bm (pa : PlainAttrs T) (slot : Slot T name id) (hty : typeOf (.builtin id) = pure (.type "method_descriptor")) (hm : MtR X id r) (ho : PE X o to) (ha : PA X (e :: es) t)
    (hbase : attributeBase o name X.env (eval o X.env) = eval o X.env := by rfl)
    (hfew : ((backTo cpos (starEach (e :: es) X.env)).all (fun x => !x.1) && (backToKw cpos (keywordEach [] X.env)).all (fun x => x.1.isSome)
      && decide ((e :: es).length + ([] : List Keyword).length + (if ([] : List Keyword).isEmpty then 0 else 1) < 30)) = true := by rfl)
    (hline : (apos.endLine == cpos.line) = true := by rfl) (hs : starEach (e :: es) X.env = (false, eval e X.env) :: starEach es X.env := by rfl) (hplain : (backTo cpos (starEach es X.env)).any (·.1) = false := by rfl) :
    PE X (.Call (.Attribute o name apos) (e :: es) [] cpos) (tBM X.K T r to t) := by
  intro pins s σ H Q I h
  refine wpAny_Call_method_late hbase hfew hline rfl (thn (ho pins s σ H _ I h) fun v s1 ⟨x, H1, I1, r1, ty, q1⟩ => ?_)
  obtain ⟨h1, h2⟩ := tyV_is I1 r1 ty
  refine ⟨T, id, pa, slot, hty, h1, h2, ?_⟩
  have hA := ha cpos pins s1 σ H1 _ I1 q1
  rw [hs] at hA ⊢
  refine Calls.callWith_builtin (by show (false || (backTo cpos (starEach es X.env)).any (·.1)) = false; rw [hplain] <;> rfl) (Calls.evalArgs_plain ?_)
  exact thn hA fun us s2 ⟨vs, H2, I2, r2, q2⟩ => hm pins s2 σ H2 x vs v us Q I2 r1 r2 q2
end
end L2
namespace L2
open PySem PySem.Spec PyProof.Rows
def MtM (X : Cx) (id : String) (r : V → List V → Hp → VK → Prop) : Prop :=
  ∀ (pins : List (Addr × Obj)) (s : Shared) (σ : St) (H : Hp) (x : V) (xs : List V) (v : Value) (us : List Value) (Q : VK), Inv X pins σ H s → RelV x v → Vals xs us → r x xs H Q →
    wpAny (model X.prog X.w) X.A (call (.builtin id) (v :: us)) (EP X pins σ Q) X.xe s
theorem Vals.one : ∀ {x : V} {us : List Value}, Vals [x] us → ∃ u, us = [u] ∧ RelV x u
  | _, _, .cons r .nil => ⟨_, rfl, r⟩
theorem Vals.eraseIdx : ∀ {xs : List V} {us : List Value} (i : Nat), Vals xs us → Vals (xs.eraseIdx i) (us.eraseIdx i)
  | _, _, _, .nil => .nil
  | _, _, 0, .cons _ t => t
  | _, _, i + 1, .cons r t => .cons r (Vals.eraseIdx i t)
theorem len_erase {α : Type} : ∀ (l : List α) (i : Nat), (l.eraseIdx i).length ≤ l.length
  | [], _ => Nat.le_refl _
  | _ :: _, 0 => Nat.le_succ _
  | _ :: r, i + 1 => Nat.succ_le_succ (len_erase r i)
section
variable {X : Cx} {pins : List (Addr × Obj)} {σ : St} {H : Hp} {s : Shared} {l b : Addr} {xs ys zs : List V}
theorem Inv.lset {its its' : List Value} {n : Nat} {f : Array Value → Array Value} {t' : Nat} (I : Inv X pins σ H s) (hH : H l = some (.lst xs))
    (e : s.heap.get? l = some { cls := .type "list", data := .seq its.toArray n }) (hf : f its.toArray = its'.toArray) (hv : Vals ys its') (hz : ys.length ≤ sizeLine) :
    Inv X pins σ (upd H l (.lst ys)) { s with heap := s.heap.update l (Obj.mapSeq f), toks := t' } := by
  have q := PySem.IsL.update e f
  rw [hf] at q
  refine I.write (x := l) (e := l) (by rw [hH]; exact trivial) (.inl rfl) (fun b' u hb hu => (Heap.get?_update_other s.heap (Obj.mapSeq f) (Ne.symm hb)).trans hu) ⟨_, q⟩ ?_
  exact ⟨hz, its', _, hv, q⟩
theorem Inv.lnew {its : List Value} {t' : Nat} (I : Inv X pins σ H s) (hv : Vals ys its) (hz : ys.length ≤ sizeLine) :
    Inv X pins σ (upd H s.heap.objs.size (.lst ys)) { s with heap := s.heap.push { cls := .type "list", data := .seq its.toArray }, toks := t' } :=
  I.laid (fun _ _ q => Heap.get?_push_of_some _ q) (Nat.le_refl _) ⟨hz, its, 0, hv, Heap.get?_push_size _ rfl⟩
theorem Inv.fresh (I : Inv X pins σ H s) : H s.heap.objs.size = none := I.hok.fresh (Nat.le_refl _)
theorem Inv.lstM (I : Inv X pins σ H s) (hH : H l = some (.lst xs)) : xs.length ≤ sizeLine ∧ ∃ (its : List Value) (n : Nat), Vals xs its ∧ xs.length = its.length ∧ s.heap.get? l = some { cls := .type "list", data := .seq its.toArray n } := by
  obtain ⟨z, its, n, r, e⟩ := I.hok l _ hH
  exact ⟨z, its, n, r, r.length, e⟩
end
section
variable {X : Cx}
def rAppend : V → List V → Hp → VK → Prop := fun x vs H Q => ∃ l xs y, x = .ref l ∧ vs = [y] ∧ H l = some (.lst xs) ∧ xs.length < sizeLine ∧ Q .non (upd H l (.lst (xs ++ [y])))
theorem mt_append : MtM X "list.append" rAppend := by
  intro pins s σ H x vs v us Q I rx rv h
  obtain ⟨l, xs, y, rfl, rfl, hH, hz, q⟩ := h
  cases rx
  obtain ⟨u, rfl, ru⟩ := rv.one
  obtain ⟨z, its, n, r, hl, e⟩ := I.lstM hH
  refine call_meets F.slot_list_append ⟨_, e, rfl⟩ F.entry_list_append (F.args_list_append_2 _ _) (PySem.list_append l its.toArray n u (by rw [List.size_toArray]; omega)) ⟨e, ?_⟩
  refine ⟨.non, _, I.lset (its' := its ++ [u]) hH e (by simp) (r.append (.cons ru .nil)) ?_, rfl, q⟩
  rw [List.length_append, List.length_singleton]
  omega
def rExtend : V → List V → Hp → VK → Prop := fun x vs H Q => ∃ l b xs zs, x = .ref l ∧ vs = [.ref b] ∧ H l = some (.lst xs) ∧ H b = some (.lst zs) ∧ xs.length + zs.length ≤ sizeLine ∧ Q .non (upd H l (.lst (xs ++ zs)))
def rPop : V → List V → Hp → VK → Prop := fun x vs H Q => ∃ l xs y, x = .ref l ∧ vs = [] ∧ H l = some (.lst xs) ∧ xs[xs.length - 1]? = some y ∧ Q y (upd H l (.lst xs.dropLast))
def rPopAt : V → List V → Hp → VK → Prop := fun x vs H Q => ∃ l xs i k y, x = .ref l ∧ vs = [.int i] ∧ H l = some (.lst xs) ∧ -(2 ^ 63) ≤ i ∧ i < 2 ^ 63 ∧ seqIndex? i xs.length = some k ∧ xs[k]? = some y ∧ Q y (upd H l (.lst (xs.eraseIdx k)))
theorem mt_popAt : MtM X "list.pop" rPopAt := by
  intro pins s σ H x vs v us Q I rx rv h
  obtain ⟨l, xs, i, k, y, rfl, rfl, hH, h1, h2, hk, hy, q⟩ := h
  cases rx
  obtain ⟨u, rfl, ru⟩ := rv.one
  obtain ⟨t, rfl⟩ := ru
  obtain ⟨z, its, n, r, hl, e⟩ := I.lstM hH
  obtain ⟨w, hw, rw'⟩ := r.get hy
  refine call_meets F.slot_list_pop ⟨_, e, rfl⟩ F.entry_list_pop (F.args_list_pop_2 _ _)
    (MeetsSeq.list_pop_at l its.toArray n i t k w (fitsIndex_both h1 h2) (by rw [List.size_toArray, ← hl]; exact hk) (by rw [← Array.getElem?_toList]; exact hw) (by rw [List.size_toArray]; omega)) ⟨e, ?_⟩
  refine ⟨y, _, I.lset (its' := its.eraseIdx k) hH e ?_ (r.eraseIdx k) ?_, rw', q⟩
  · show its.toArray.eraseIdxIfInBounds k = (its.eraseIdx k).toArray
    rw [List.eraseIdxIfInBounds_toArray]
  · have := len_erase xs k
    omega
def rReverse : V → List V → Hp → VK → Prop := fun x vs H Q => ∃ l xs, x = .ref l ∧ vs = [] ∧ H l = some (.lst xs) ∧ Q .non (upd H l (.lst xs.reverse))
def rClear : V → List V → Hp → VK → Prop := fun x vs H Q => ∃ l xs, x = .ref l ∧ vs = [] ∧ H l = some (.lst xs) ∧ Q .non (upd H l (.lst []))
def rCat : R2 := fun x y H Q => ∃ l b xs zs, x = .ref l ∧ y = .ref b ∧ H l = some (.lst xs) ∧ H b = some (.lst zs) ∧ xs.length + zs.length ≤ sizeLine ∧ ∀ p, H p = none → Q (.ref p) (upd H p (.lst (xs ++ zs)))
theorem op_cat : OpR X (binaryOp .Add) rCat := by
  intro pins s σ H x y v u Q I rx ry h
  obtain ⟨l, b, xs, zs, rfl, rfl, hH, hB, hz, q⟩ := h
  cases rx
  cases ry
  obtain ⟨z, its, n, r, hl, e⟩ := I.lstM hH
  obtain ⟨z2, its2, n2, r2, hl2, e2⟩ := I.lstM hB
  refine PySem.P.add_list e e2 ?_ (by rw [List.size_toArray, List.size_toArray]; omega)
  have ea : its.toArray ++ its2.toArray = (its ++ its2).toArray := by simp
  rw [ea]
  exact ⟨.ref _, _, I.lnew (t' := s.toks) (r.append r2) (by rw [List.length_append]; omega), rfl, q _ I.fresh⟩
def rRep : R2 := fun x y H Q => ∃ l k xs, x = .ref l ∧ y = .int k ∧ H l = some (.lst xs) ∧ -(2 ^ 63) ≤ k ∧ k < 2 ^ 63 ∧ xs.length * k.toNat ≤ sizeLine ∧
  ∀ p, H p = none → Q (.ref p) (upd H p (.lst (List.replicate k.toNat xs).flatten))
end
section
variable {prog : Program} {w : World} {A : Around} {E : Value → Shared → Prop} {s : Shared}
set_option maxRecDepth 100000 in
end
section
variable {X : Cx}
end
end L2
namespace L2
open PySem PySem.Spec PyProof.Rows
section
variable {κ : Type} [DecidableEq κ]
def valV (kvs : List (κ × V)) (k : κ) : Option V := (kvs.find? fun kv => decide (kv.1 = k)).map (·.2)
def putK (kvs : List (κ × V)) (k : κ) (v : V) : List (κ × V) :=
  if (kvs.any fun kv => decide (kv.1 = k)) = true then kvs.map (fun kv => if kv.1 = k then (kv.1, v) else kv) else kvs ++ [(k, v)]
def dropK (kvs : List (κ × V)) (k : κ) : List (κ × V) := kvs.filter fun kv => decide (kv.1 ≠ k)
theorem valV_pos {p : κ × V} {r : List (κ × V)} {k : κ} (e : p.1 = k) : valV (p :: r) k = some p.2 := by simp [valV, List.find?_cons, e]
theorem valV_neg {p : κ × V} {r : List (κ × V)} {k : κ} (e : ¬ p.1 = k) : valV (p :: r) k = valV r k := by simp [valV, List.find?_cons, e]
theorem valV_any (k : κ) : ∀ kvs : List (κ × V), (kvs.any fun kv => decide (kv.1 = k)) = (valV kvs k).isSome
  | [] => rfl
  | p :: r => by
    rw [List.any_cons]
    by_cases e : p.1 = k
    · simp only [valV_pos e, decide_eq_true e, Bool.true_or, Option.isSome_some]
    · rw [valV_neg e, decide_eq_false e, Bool.false_or]; exact valV_any k r
theorem valV_map (k j : κ) (y : V) : ∀ kvs : List (κ × V), valV (kvs.map fun kv => if kv.1 = k then (kv.1, y) else kv) j = (valV kvs j).map fun x => if j = k then y else x
  | [] => rfl
  | p :: r => by
    have ih := valV_map k j y r
    rw [List.map_cons]
    by_cases h : p.1 = k
    · rw [if_pos h]
      by_cases e : p.1 = j
      · rw [valV_pos (p := (p.1, y)) e, valV_pos e, Option.map_some, if_pos (e.symm.trans h)]
      · rw [valV_neg (p := (p.1, y)) e, valV_neg e, ih]
    · rw [if_neg h]
      by_cases e : p.1 = j
      · rw [valV_pos (p := p) e, valV_pos e, Option.map_some, if_neg (fun z => h (e.trans z))]
      · rw [valV_neg (p := p) e, valV_neg e, ih]
theorem valV_snoc (k j : κ) (y : V) : ∀ kvs : List (κ × V), valV kvs k = none → valV (kvs ++ [(k, y)]) j = if j = k then some y else valV kvs j
  | [], _ => by
    by_cases e : k = j
    · rw [if_pos e.symm]; exact valV_pos (p := (k, y)) e
    · rw [if_neg (fun z => e z.symm)]; exact valV_neg (p := (k, y)) e
  | p :: r, hn => by
    rw [List.cons_append]
    have hk : ¬ p.1 = k := fun z => by rw [valV_pos z] at hn; cases hn
    rw [valV_neg hk] at hn
    have ih := valV_snoc k j y r hn
    by_cases e : p.1 = j
    · rw [valV_pos e, valV_pos e, if_neg (fun z => hk (e.trans z))]
    · rw [valV_neg e, valV_neg e, ih]
theorem valV_put (kvs : List (κ × V)) (k j : κ) (y : V) : valV (putK kvs k y) j = if j = k then some y else valV kvs j := by
  unfold putK
  by_cases a : (kvs.any fun kv => decide (kv.1 = k)) = true
  · rw [if_pos a, valV_map]
    rw [valV_any] at a
    by_cases e : j = k
    · obtain ⟨x, hx⟩ := Option.isSome_iff_exists.mp a
      rw [if_pos e, e, hx, Option.map_some, if_pos rfl]
    · rw [if_neg e]
      cases valV kvs j with
      | none => rfl
      | some x => rw [Option.map_some, if_neg e]
  · rw [if_neg a]
    refine valV_snoc k j y kvs ?_
    rw [valV_any] at a
    cases q : valV kvs k with
    | none => rfl
    | some x => rw [q] at a; exact (a rfl).elim
theorem length_putK (kvs : List (κ × V)) (k : κ) (v : V) : (putK kvs k v).length ≤ kvs.length + 1 := by
  unfold putK
  split
  · rw [List.length_map]; omega
  · rw [List.length_append, List.length_cons, List.length_nil]; omega
theorem RelO.isSome_eq {o : Option V} {u : Option Value} (r : RelO o u) : o.isSome = u.isSome := by
  cases o with
  | none => cases u with
    | none => rfl
    | some _ => exact (show False from r).elim
  | some _ => cases u with
    | none => exact (show False from r).elim
    | some _ => rfl
theorem KV.val {kvs : List (κ × V)} {vs : List (κ × Value)} (r : KV kvs vs) (k : κ) : RelO (valV kvs k) (valueAt vs k) := by
  unfold KV at r
  induction r with
  | nil => exact True.intro
  | @cons p q ps qs h t ih =>
    obtain ⟨h1, h2⟩ := h
    by_cases e : p.1 = k
    · have e' : q.1 = k := h1.symm.trans e
      have b : valueAt (q :: qs) k = some q.2 := by simp [valueAt, List.find?_cons, e']
      rw [valV_pos e, b]; exact h2
    · have e' : ¬ q.1 = k := fun z => e (h1.trans z)
      have b : valueAt (q :: qs) k = valueAt qs k := by simp [valueAt, List.find?_cons, e']
      rw [valV_neg e, b]; exact ih
theorem KV.any {kvs : List (κ × V)} {vs : List (κ × Value)} (r : KV kvs vs) (k : κ) : (kvs.any fun kv => decide (kv.1 = k)) = vs.any fun kv => decide (kv.1 = k) := by
  unfold KV at r
  induction r with
  | nil => rfl
  | cons h t ih => rw [List.any_cons, List.any_cons, ih, h.1]
theorem KV.repl {kvs : List (κ × V)} {vs : List (κ × Value)} (r : KV kvs vs) (k : κ) {y : V} {u : Value} (ry : RelV y u) :
    KV (kvs.map fun kv => if kv.1 = k then (kv.1, y) else kv) (vs.map fun kv => if kv.1 = k then (kv.1, u) else kv) := by
  unfold KV at r ⊢
  induction r with
  | nil => exact .nil
  | @cons p q ps qs h t ih =>
    rw [List.map_cons, List.map_cons]
    refine .cons ?_ ih
    obtain ⟨h1, h2⟩ := h
    by_cases e : p.1 = k
    · rw [if_pos e, if_pos (h1.symm.trans e)]; exact ⟨h1, ry⟩
    · rw [if_neg e, if_neg (fun z => e (h1.trans z))]; exact ⟨h1, h2⟩
theorem KV.put {kvs : List (κ × V)} {vs : List (κ × Value)} (r : KV kvs vs) (k : κ) {y : V} {u : Value} (ry : RelV y u) : KV (putK kvs k y) (stored vs k u) := by
  unfold putK stored
  rw [r.any k]
  by_cases e : (vs.any fun kv => decide (kv.1 = k)) = true
  · rw [if_pos e, if_pos e]; exact r.repl k ry
  · rw [if_neg e, if_neg e]; exact Paired.snoc r ⟨rfl, ry⟩
theorem KV.drop {kvs : List (κ × V)} {vs : List (κ × Value)} (r : KV kvs vs) (k : κ) : KV (dropK kvs k) (without vs k) := by
  unfold KV at r ⊢
  unfold dropK without
  induction r with
  | nil => exact .nil
  | @cons p q ps qs h t ih =>
    obtain ⟨h1, h2⟩ := h
    rw [List.filter_cons, List.filter_cons]
    by_cases e : p.1 = k
    · have a : ¬ decide (p.1 ≠ k) = true := by simp [e]
      have b : ¬ decide (q.1 ≠ k) = true := by simp [h1.symm.trans e]
      rw [if_neg a, if_neg b]; exact ih
    · have e' : ¬ q.1 = k := fun z => e (h1.trans z)
      have a : decide (p.1 ≠ k) = true := by simp [e]
      have b : decide (q.1 ≠ k) = true := by simp [e']
      rw [if_pos a, if_pos b]; exact .cons ⟨h1, h2⟩ ih
theorem KV.keys {kvs : List (κ × V)} {vs : List (κ × Value)} (r : KV kvs vs) : kvs.map (·.1) = vs.map (·.1) := by
  unfold KV at r
  induction r with
  | nil => rfl
  | cons h t ih => rw [List.map_cons, List.map_cons, ih, h.1]
theorem KV.length {kvs : List (κ × V)} {vs : List (κ × Value)} (r : KV kvs vs) : kvs.length = vs.length := Paired.length r
theorem dropK_le (kvs : List (κ × V)) (k : κ) : (dropK kvs k).length ≤ kvs.length := List.length_filter_le _ _
end
theorem kV_is {P : Program} {w : World} {k : Key} {u : Value} (r : RelV (kV k) u) : (mixKind P w).is k u = true := by
  cases k with
  | inl i => obtain ⟨t, e⟩ := (show ∃ t, u = Value.int i t from r); subst e; exact mixKind_int P w i t
  | inr x => obtain ⟨t, e⟩ := (show ∃ t, u = Value.str x t from r); subst e; exact mixKind_str P w x t
theorem items_are {P : Program} {w : World} : ∀ {ks : List Key} {us : List Value}, Vals (ks.map kV) us → ItemsAre (mixKind P w) ks us
  | [], _, r => by rw [List.map_nil] at r; cases r; exact .nil
  | k :: ks, _, r => by
    rw [List.map_cons] at r
    cases r with
    | cons h t => exact .cons (kV_is h) (items_are t)
abbrev KT (H : Hp) : List (List Key × V) → List (List Key × Addr × Value) → Prop := Paired fun p q => p.1 = q.1 ∧ H q.2.1 = some (.tup (p.1.map kV)) ∧ RelV p.2 q.2.2
theorem KT.val {H : Hp} {kvs : List (List Key × V)} {xs : List (List Key × Addr × Value)} (r : KT H kvs xs) (k : List Key) : RelO (valV kvs k) ((atKey xs k).map (·.2)) := by
  induction r with
  | nil => exact True.intro
  | @cons p q ps qs h t ih =>
    obtain ⟨h1, _, h2⟩ := h
    by_cases e : p.1 = k
    · have e' : q.1 = k := h1.symm.trans e
      have b : atKey (q :: qs) k = some q.2 := by simp [atKey, List.find?_cons, e']
      rw [valV_pos e, b]; exact h2
    · have e' : ¬ q.1 = k := fun z => e (h1.trans z)
      have b : atKey (q :: qs) k = atKey qs k := by simp [atKey, List.find?_cons, e']
      rw [valV_neg e, b]; exact ih
theorem KT.repl {H : Hp} {kvs : List (List Key × V)} {xs : List (List Key × Addr × Value)} (r : KT H kvs xs) (k : List Key) {y : V} {u : Value} (ry : RelV y u) :
    KT H (kvs.map fun kv => if kv.1 = k then (kv.1, y) else kv) (xs.map (putAt k u)) := by
  induction r with
  | nil => exact .nil
  | @cons p q ps qs h t ih =>
    rw [List.map_cons, List.map_cons]
    refine .cons ?_ ih
    obtain ⟨h1, h2, h3⟩ := h
    unfold putAt
    by_cases e : p.1 = k
    · rw [if_pos e, if_pos (h1.symm.trans e)]; exact ⟨h1, h2, ry⟩
    · rw [if_neg e, if_neg (fun z => e (h1.trans z))]; exact ⟨h1, h2, h3⟩
theorem KT.put {H : Hp} {kvs : List (List Key × V)} {xs : List (List Key × Addr × Value)} (r : KT H kvs xs) (k : List Key) {b : Addr} {y : V} {u : Value} (hb : H b = some (.tup (k.map kV))) (ry : RelV y u) :
    KT H (putK kvs k y) (storedH xs k b u) := by
  have e : (kvs.any fun kv => decide (kv.1 = k)) = (atKey xs k).isSome := by
    rw [valV_any, (r.val k).isSome_eq, Option.isSome_map]
  unfold putK storedH
  rw [e]
  by_cases q : (atKey xs k).isSome = true
  · rw [if_pos q, if_pos q]; exact r.repl k ry
  · rw [if_neg q, if_neg q]; exact Paired.snoc r ⟨rfl, hb, ry⟩
theorem KT.keeps {H H' : Hp} {kvs : List (List Key × V)} {xs : List (List Key × Addr × Value)} (r : KT H kvs xs) (ht : ∀ b ys, H b = some (.tup ys) → H' b = some (.tup ys)) : KT H' kvs xs :=
  Paired.mapP r fun _ _ z => ⟨z.1, ht _ _ z.2.1, z.2.2⟩
section
variable {P : Program} {w : World} {H : Hp} {h : Heap} {a : Addr}
theorem rd_of {u : HO} (ok : HOk P w H h) (e : Rd H a u) : ObjOk P w H h a u := e.ok ok
theorem dk_rd {kvs : List (Key × V)} (ok : HOk P w H h) (e : Rd H a (.dK kvs)) : kvs.length ≤ sizeLine ∧ (a == sysModules) = false ∧ ∃ vs, KV kvs vs ∧ h.DictOf (mixKind P w) a vs :=
  show ObjOk P w H h a (.dK kvs) from rd_of ok e
theorem dk_of {kvs : List (Key × V)} (ok : HOk P w H h) (e : H a = some (.dK kvs)) : kvs.length ≤ sizeLine ∧ (a == sysModules) = false ∧ ∃ vs, KV kvs vs ∧ h.DictOf (mixKind P w) a vs := dk_rd ok (.inl e)
theorem key_of {ks : List Key} (ok : HOk P w H h) (e : H a = some (.tup (ks.map kV))) : (tupleKind (mixKind P w)).is h ks a := by
  obtain ⟨_, its, r, ⟨o, h1, h2, n, h3⟩, _⟩ := (show ObjOk P w H h a (.tup (ks.map kV)) from ok a _ e)
  exact ⟨o, its.toArray, n, h1, h2, h3, by simpa using items_are r⟩
theorem dt_rd {kvs : List (List Key × V)} (ok : HOk P w H h) (e : Rd H a (.dT kvs)) : kvs.length ≤ sizeLine ∧ (a == sysModules) = false ∧
    ∃ xs, KT H kvs xs ∧ h.DictOfH (tupleKind (mixKind P w)) a xs := by
  obtain ⟨z, y, xs, r, o, es, ep, h1, h2, h3, h4, h5⟩ := (show ObjOk P w H h a (.dT kvs) from rd_of ok e)
  refine ⟨z, y, xs, r, o, es, ep, h1, h2, h3, h4, fun x hx => ?_, h5⟩
  have all : ∀ {l : List (List Key × V)} {m : List (List Key × Addr × Value)}, KT H l m → ∀ x ∈ m, (tupleKind (mixKind P w)).is h x.1 x.2.1 := by
    intro l m q
    induction q with
    | nil => intro x hx; exact nomatch hx
    | @cons p q ps qs hq t ih =>
      intro x hx
      rcases List.mem_cons.mp hx with e | hx
      · subst e
        exact key_of ok (by rw [← hq.1]; exact hq.2.1)
      · exact ih x hx
  exact all r x hx
theorem dt_of {kvs : List (List Key × V)} (ok : HOk P w H h) (e : H a = some (.dT kvs)) : kvs.length ≤ sizeLine ∧ (a == sysModules) = false ∧
    ∃ xs, KT H kvs xs ∧ h.DictOfH (tupleKind (mixKind P w)) a xs := dt_rd ok (.inl e)
end
def DGet (H : Hp) (a : Addr) (y : V) (r : Option V) : Prop :=
  (∃ kvs k, Rd H a (.dK kvs) ∧ y = kV k ∧ r = valV kvs k) ∨ ∃ kvs k b, Rd H a (.dT kvs) ∧ y = .ref b ∧ H b = some (.tup (k.map kV)) ∧ r = valV kvs k
def DPut (H : Hp) (a : Addr) (y v : V) (H' : Hp) : Prop :=
  (∃ kvs k, H a = some (.dK kvs) ∧ y = kV k ∧ kvs.length < sizeLine ∧ H' = upd H a (.dK (putK kvs k v))) ∨
  ∃ kvs k b, H a = some (.dT kvs) ∧ y = .ref b ∧ H b = some (.tup (k.map kV)) ∧ kvs.length < sizeLine ∧ H' = upd H a (.dT (putK kvs k v))
theorem DGet.k {H : Hp} {a : Addr} {kvs : List (Key × V)} {k : Key} (e : H a = some (.dK kvs)) : DGet H a (kV k) (valV kvs k) := .inl ⟨kvs, k, .inl e, rfl, rfl⟩
theorem DPut.k {H : Hp} {a : Addr} {kvs : List (Key × V)} {k : Key} {v : V} (e : H a = some (.dK kvs)) (hl : kvs.length < sizeLine) : DPut H a (kV k) v (upd H a (.dK (putK kvs k v))) := .inl ⟨kvs, k, e, rfl, hl, rfl⟩
section
variable {X : Cx} {pins : List (Addr × Obj)} {σ : St} {H : Hp} {s : Shared} {a : Addr} {y v : V} {u r : Value} {o : Option V} {A : Around} {E : Value → Shared → Prop}
theorem Inv.big (I : Inv X pins σ H s) : sysModules < s.heap.objs.size := by
  have h : mainGlobals < s.heap.objs.size := (I.mod.glob.keeps I.bk).lt
  exact Nat.lt_trans (by decide) h
theorem d_getItem {Q : Value → Shared → Prop} (hu : A.units + 1 < cLine) (I : Inv X pins σ H s) (g : DGet H a y (some v)) (ry : RelV y u) (h : ∀ w' s', Inv X pins σ H s' → RelV v w' → Q w' s') :
    wpAny (model X.prog X.w) A (getItem (.ref a) u) Q E s := by
  rcases g with ⟨kvs, k, e, ey, l⟩ | ⟨kvs, k, b, e, ey, eb, l⟩
  · subst ey
    obtain ⟨z, hd, vs, rel, dd⟩ := dk_rd I.hok e
    obtain ⟨w', hw, rw'⟩ := RelO.some_of (v := v) (o := valueAt vs k) (by rw [l]; exact rel.val k)
    exact wpAny_getItem_of (kV_is ry) dd.mapOf hw (h w' _ (I.tok _) rw')
  · subst ey
    cases (show u = Value.ref b from ry)
    obtain ⟨z, hd, xs, rel, dd⟩ := dt_rd I.hok e
    obtain ⟨w', hw, rw'⟩ := RelO.some_of (v := v) (o := (atKey xs k).map (·.2)) (by rw [l]; exact rel.val k)
    obtain ⟨p, hp, hp2⟩ := Option.map_eq_some_iff.mp hw
    refine wpAny_getItem_heap (tupleKind_room_in1 hu) (key_of I.hok eb) dd hp ?_
    rw [hp2]
    exact h w' _ (I.tok _) rw'
theorem d_in {Q : Value → Shared → Prop} (hu : A.units + 1 < cLine) (I : Inv X pins σ H s) (g : DGet H a y o) (ry : RelV y u) (h : ∀ s', Inv X pins σ H s' → Q (.bool o.isSome) s') :
    wpAny (model X.prog X.w) A (compareOp .In u (.ref a)) Q E s := by
  rcases g with ⟨kvs, k, e, ey, l⟩ | ⟨kvs, k, b, e, ey, eb, l⟩
  · subst ey
    obtain ⟨z, hd, vs, rel, dd⟩ := dk_rd I.hok e
    refine wpAny_in_of (kV_is ry) hd dd.mapOf ?_
    rw [← (rel.val k).isSome_eq, ← l]
    exact h _ (I.tok _)
  · subst ey
    cases (show u = Value.ref b from ry)
    obtain ⟨z, hd, xs, rel, dd⟩ := dt_rd I.hok e
    refine wpAny_in_heap (tupleKind_room_in1 hu) (key_of I.hok eb) hd dd ?_
    have q := (rel.val k).isSome_eq
    rw [Option.isSome_map] at q
    rw [← q, ← l]
    exact h _ (I.tok _)
theorem d_write {h' : Heap} {t' : Nat} {ob : HO} (I : Inv X pins σ H s) (mu : Mut (H a)) (hs : Heap.SameBut a s.heap h') (he : ∃ q, h'.get? a = some q) (new : ObjOk X.prog X.w (upd H a ob) h' a ob) :
    Inv X pins σ (upd H a ob) { s with heap := h', toks := t' } :=
  I.write (x := a) (e := a) mu (.inl rfl) (fun b q hb z => (hs.2 b hb).trans z) he new
theorem dk_new {P : Program} {w : World} {H' : Hp} {h' : Heap} {kvs : List (Key × V)} {vs : List (Key × Value)} (z : kvs.length ≤ sizeLine) (hd : (a == sysModules) = false) (rel : KV kvs vs) (dd : h'.DictOf (mixKind P w) a vs) :
    ObjOk P w H' h' a (.dK kvs) := ⟨z, hd, vs, rel, dd⟩
theorem d_setItem {H' : Hp} {Q : Unit → Shared → Prop} (hu : A.units + 1 < cLine) (I : Inv X pins σ H s) (g : DPut H a y v H') (ry : RelV y u) (rv : RelV v r) (h : ∀ s', Inv X pins σ H' s' → Q () s') :
    wpAny (model X.prog X.w) A (setItem (.ref a) u r) Q E s := by
  rcases g with ⟨kvs, k, e, ey, l, eH⟩ | ⟨kvs, k, b, e, ey, eb, l, eH⟩
  · subst ey eH
    obtain ⟨z, hd, vs, rel, dd⟩ := dk_of I.hok e
    have hz : vs.length ≤ sizeLine := by rw [← rel.length]; exact z
    have hl : (putK kvs k v).length ≤ sizeLine := by have := length_putK kvs k v; omega
    refine wpAny_setItem_pairs (hsz := hz) (kV_is ry) dd fun h' dd' hs => h _ ?_
    have he : ∃ q, h'.get? a = some q := let ⟨q, _, _, hq, _⟩ := dd'; ⟨q, hq⟩
    exact d_write I (by rw [e]; exact True.intro) hs he (dk_new hl hd (rel.put k rv) dd')
  · subst ey eH
    cases (show u = Value.ref b from ry)
    obtain ⟨z, hd, xs, rel, dd⟩ := dt_of I.hok e
    have hz : xs.length ≤ sizeLine := by rw [← Paired.length rel]; exact z
    have hl : (putK kvs k v).length ≤ sizeLine := by have := length_putK kvs k v; omega
    refine wpAny_setItem_heap (hsz := hz) (tupleKind_room_in1 hu) (key_of I.hok eb) dd fun h' dd' hs => h _ ?_
    obtain ⟨q, es, ep, hq, h2, h3, h4, _, h5⟩ := dd'
    refine d_write I (by rw [e]; exact True.intro) hs ⟨q, hq⟩ ⟨hl, hd, _, (rel.put k eb rv).keeps fun c ys ec => ?_, q, es, ep, hq, h2, h3, h4, h5⟩
    rw [upd_ne (ne_of ec e (fun z => nomatch z))]
    exact ec
end
section
variable {X : Cx} {pins : List (Addr × Obj)} {σ : St} {H : Hp} {s : Shared} {a : Addr} {kvs : List (Key × V)} {k : Key} {u : Value} {A : Around} {E : Value → Shared → Prop}
theorem d_pop {v : V} {more : List Value} {Q : Value → Shared → Prop} (I : Inv X pins σ H s) (e : H a = some (.dK kvs)) (ry : RelV (kV k) u) (l : valV kvs k = some v) (hm : more = [] ∨ ∃ x, more = [x])
    (h : ∀ w' s', Inv X pins σ (upd H a (.dK (dropK kvs k))) s' → RelV v w' → Q w' s') : wpAny (model X.prog X.w) A (call (.builtin "dict.pop") (.ref a :: u :: more)) Q E s := by
  obtain ⟨z, hd, vs, rel, dd⟩ := dk_of I.hok e
  obtain ⟨w', hw, rw'⟩ := RelO.some_of (v := v) (o := valueAt vs k) (by rw [← l]; exact rel.val k)
  have hp : (keyPart u).isSome = true := by
    cases k with
    | inl i => obtain ⟨t, q⟩ := (show ∃ t, u = Value.int i t from ry); subst q; rfl
    | inr x => obtain ⟨t, q⟩ := (show ∃ t, u = Value.str x t from ry); subst q; rfl
  have ha : argsOk "dict.pop" ⟨.ref a :: u :: more, []⟩ := by
    rcases hm with q | ⟨x, q⟩
    · subst q; exact PySem.F.args_dict_pop_2 _ _
    · subst q; exact PySem.F.args_dict_pop_3 _ _ _
  refine call_meetsIn PySem.F.slot_dict_pop dd.typeIs PySem.F.entry_dict_pop ha (meets_dict_pop_there (mixKind X.prog X.w) a (kV_is ry) more hm hp)
    ⟨vs, w', dd, by rw [← rel.length]; exact z, hw, fun h' dd' hs => h w' _ ?_ rw'⟩
  have he : ∃ q, h'.get? a = some q := let ⟨q, _, _, hq, _⟩ := dd'; ⟨q, hq⟩
  exact d_write I (by rw [e]; exact True.intro) hs he (dk_new (Nat.le_trans (dropK_le kvs k) z) hd (rel.drop k) dd')
theorem d_len {Q : Value → Shared → Prop} (I : Inv X pins σ H s) (e : Rd H a (.dK kvs)) (h : ∀ t s', Inv X pins σ H s' → Q (.int kvs.length t) s') : wpAny (model X.prog X.w) A (call (.builtin "len") [.ref a]) Q E s := by
  obtain ⟨z, hd, vs, rel, dd⟩ := dk_rd I.hok e
  refine call_len_dict hd dd (by rw [← rel.length]; rw [sizeLine_eq] at z; omega) ?_
  rw [← rel.length]
  exact h _ _ (I.tok _)
end
def NoSl (i : Expr) : Prop := ∀ ov iv, subscripted i false ov iv = operate [ov, iv] (getItem ov iv)
theorem subD_of {prog : Program} {w : World} {A : Around} {E : Value → Shared → Prop} {s : Shared} {env : Env} {value slice : Expr} {pos : Pos} {T id : String} {Q : Value → Shared → Prop}
    (hl : typeLookup (.type T) "__getitem__" = pure (some (.builtin id))) (hs : NoSl slice)
    (h : wpAny (model prog w) A (eval value env) (fun o s₁ => wpAny (model prog w) A (eval slice env) (fun i s₂ => s₂.TypeIs o T ∧ wpAny (model prog w) A (getItem o i) Q E s₂) E s₁) E s) :
    wpAny (model prog w) A (eval (.Subscript value slice pos) env) Q E s := by
  refine Subscript_ (wpAny_mono h (fun o s₁ h₁ => wpAny_mono h₁ (fun i s₂ h₂ => ?_) fun _ _ x => x) fun _ _ x => x)
  obtain ⟨hT, h₂⟩ := h₂
  unfold subscriptTail
  refine wpAny_bind ?_
  rw [getitemInPython_of_ne hT.not_modules]
  refine wpAny_bind (wpAny_specialOf hT hl ?_)
  have fin : wpAny (model prog w) A (subscripted slice false o i) (fun r s₃ => wpAny (model prog w) A (letTemporaryGo value o r >>= fun _ => pure r) Q E s₃) E s₂ := by
    rw [hs o i]
    exact wpAny_operating (wpAny_mono h₂ (fun r s₃ h₃ => wpAny_bind (wpAny_letTemporaryGo (wpAny_pure h₃))) fun _ _ x => x)
  first
    | exact wpAny_pure (wpAny_bind fin)
    | exact wpAny_bind (wpAny_pure (wpAny_bind fin))
    | exact wpAny_bind fin
theorem dict_typeIs {X : Cx} {pins : List (Addr × Obj)} {σ : St} {H : Hp} {s : Shared} {a : Addr} {y : V} {o : Option V} (I : Inv X pins σ H s) (g : DGet H a y o) : s.TypeIs (.ref a) "dict" := by
  rcases g with ⟨kvs, k, e, _, _⟩ | ⟨kvs, k, b, e, _, _, _⟩
  · obtain ⟨_, _, vs, _, dd⟩ := dk_rd I.hok e
    exact dd.typeIs
  · obtain ⟨_, _, xs, _, dd⟩ := dt_rd I.hok e
    exact dd.typeIs
def tDGet (td ty : TE) : TE := fun σ H Q => td σ H fun x H1 => ty σ H1 fun y H2 => ∃ a v, x = .ref a ∧ DGet H2 a y (some v) ∧ Q v H2
def tDIn (ty td : TE) : TE := fun σ H Q => ty σ H fun y H1 => td σ H1 fun x H2 => ∃ a o, x = .ref a ∧ DGet H2 a y o ∧ Q (.bl o.isSome) H2
def tDNotIn (ty td : TE) : TE := fun σ H Q => ty σ H fun y H1 => td σ H1 fun x H2 => ∃ a o, x = .ref a ∧ DGet H2 a y o ∧ Q (.bl (!o.isSome)) H2
def sDPut (td ty tv : TE) : TS := fun D σ H => tv σ H fun v H1 => td σ H1 fun x H2 => ty σ H2 fun y H3 => ∃ a H4, x = .ref a ∧ DPut H3 a y v H4 ∧ D.nx σ H4
def sDAug (td ty tv : TE) (rd : V → V → Hp → VK → Prop) : TS := fun D σ H => td σ H fun x H1 => ty σ H1 fun y H2 => ∃ a v, x = .ref a ∧ DGet H2 a y (some v) ∧
  tv σ H2 fun y2 H3 => rd v y2 H3 fun z H4 => ∃ H5, DPut H4 a y z H5 ∧ D.nx σ H5
def sDDel (td ty : TE) : TS := fun D σ H => td σ H fun x H1 => ty σ H1 fun y H2 => ∃ a kvs k, x = .ref a ∧ H2 a = some (.dK kvs) ∧ y = kV k ∧ (valV kvs k).isSome = true ∧ D.nx σ (upd H2 a (.dK (dropK kvs k)))
section
variable {X : Cx} {o i e value : Expr} {pos pos' tpos : Pos} {td ty tv : TE}
theorem pe_dget (hu : X.A.units + 1 < cLine) (ho : PE X o td) (hi : PE X i ty) (hs : NoSl i) : PE X (.Subscript o i pos) (tDGet td ty) := by
  intro pins s σ H Q I h
  refine subD_of PySem.F.slot_dict_getitem.lookup hs (thn (ho pins s σ H _ I h) fun u s1 ⟨x, H1, I1, rx, q1⟩ => thn (hi pins s1 σ H1 _ I1 q1) fun iv s2 ⟨y, H2, I2, ry, a, v, ex, g, q2⟩ => ?_)
  subst ex
  obtain rfl : u = Value.ref a := rx
  exact ⟨dict_typeIs I2 g, d_getItem hu I2 g ry fun w' s3 I3 rw' => ⟨v, H2, I3, rw', q2⟩⟩
theorem pc_din (hu : X.A.units + 1 < cLine) (hi : PE X i ty) (ho : PE X o td) : PC X .In i o (tDIn ty td) := by
  intro pins s σ H Q I h
  refine thn (hi pins s σ H _ I h) fun iv s1 ⟨y, H1, I1, ry, q1⟩ => thn (ho pins s1 σ H1 _ I1 q1) fun u s2 ⟨x, H2, I2, rx, a, ov, ex, g, q2⟩ => ?_
  subst ex
  obtain rfl : u = Value.ref a := rx
  exact d_in hu I2 g ry fun s3 I3 => ⟨.bl ov.isSome, H2, I3, rfl, q2⟩
theorem ps_dput (hu : X.A.units + 1 < cLine) (ho : PE X o td) (hi : PE X i ty) (hv : PE X value tv) (hs : swapsWith value (some (.Subscript o i pos')) pos.line X.env = pure false) :
    PS X (.Assign [.Subscript o i pos'] value pos) (sDPut td ty tv) := by
  intro pins s σ H D I h
  refine wpAny_Assign_Subscript (thn (hv pins s σ H _ I h) fun r s1 ⟨v, H1, I1, rv, q1⟩ => thn (ho pins s1 σ H1 _ I1 q1) fun u s2 ⟨x, H2, I2, rx, q2⟩ => thn (hi pins s2 σ H2 _ I2 q2) fun iv s3 ⟨y, H3, I3, ry, a, H4, ex, g, q3⟩ => ?_) hs
  subst ex
  obtain rfl : u = Value.ref a := rx
  exact d_setItem hu I3 g ry rv fun s4 I4 => ⟨σ, H4, I4, q3⟩
end
theorem dk_empty {P : Program} {w : World} {H : Hp} (h : Heap) (hb : sysModules < h.objs.size) : ObjOk P w H (h.push { cls := .type "dict", data := .dict #[] }) h.objs.size (.dK []) :=
  ⟨Nat.zero_le _, beq_eq_false_iff_ne.mpr (Ne.symm (Nat.ne_of_lt hb)), [], .nil, Heap.DictOf.new h⟩
def tDNewK : TE := fun _ H Q => ∀ p, H p = none → Q (.ref p) (upd H p (.dK []))
def tDNewT : TE := fun _ H Q => ∀ p, H p = none → Q (.ref p) (upd H p (.dT []))
section
variable {X : Cx} {pos : Pos}
theorem pe_dnewK : PE X (.Dict [] [] pos) tDNewK := fun pins s σ H Q I h =>
  wpAny_Dict_empty ⟨.ref s.heap.objs.size, _, I.laid (a := s.heap.objs.size) (o := .dK []) (t' := s.toks) (fun _ _ q => Heap.get?_push_of_some _ q) (Nat.le_refl _) (dk_empty s.heap I.big), rfl, h _ (I.hok.fresh (Nat.le_refl _))⟩
end
def tPairs : List (TE × TE) → St → Hp → (List (V × V) → Hp → Prop) → Prop
  | [], _, H, Q => Q [] H
  | (tk, tv) :: r, σ, H, Q => tk σ H fun x H1 => tv σ H1 fun y H2 => tPairs r σ H2 fun ps H3 => Q ((x, y) :: ps) H3
abbrev VV : List (V × V) → List (Value × Value) → Prop := Paired fun p q => RelV p.1 q.1 ∧ RelV p.2 q.2
def PPs (X : Cx) (pos : Pos) (keys : List (Option Expr)) (values : List Expr) (trs : List (TE × TE)) : Prop :=
  ∀ (pins : List (Addr × Obj)) (s : Shared) (σ : St) (H : Hp) (Q : List (V × V) → Hp → Prop), Inv X pins σ H s → tPairs trs σ H Q →
    wpAny (model X.prog X.w) X.A (evalPairs (pairTrees keys values X.env pos)) (fun vs s' => ∃ ps H', Inv X pins σ H' s' ∧ VV ps vs ∧ Q ps H') X.xe s
theorem pps_nil {X : Cx} {pos : Pos} : PPs X pos [] [] [] := fun pins s σ H Q I h => pairTrees_nil_walk ⟨[], H, I, .nil, h⟩
theorem pps_cons {X : Cx} {pos : Pos} {k v : Expr} {ks : List (Option Expr)} {vs : List Expr} {tk tv : TE} {trs : List (TE × TE)} (hk : PE X k tk) (hv : PE X v tv) (hr : PPs X pos ks vs trs) :
    PPs X pos (some k :: ks) (v :: vs) ((tk, tv) :: trs) := fun pins s σ H Q I h =>
  pairTrees_cons_walk (thn (hk pins s σ H _ I h) fun u s1 ⟨x, H1, I1, rx, q1⟩ => thn (hv pins s1 σ H1 _ I1 q1) fun w2 s2 ⟨y, H2, I2, ry, q2⟩ =>
    thn (hr pins s2 σ H2 _ I2 q2) fun ws s3 ⟨ps, H3, I3, rel, q3⟩ => ⟨(x, y) :: ps, H3, I3, .cons ⟨rx, ry⟩ rel, q3⟩)
def mergeK (kvs more : List (Key × V)) : List (Key × V) := more.foldl (fun acc kv => putK acc kv.1 kv.2) kvs
theorem KV.merge : ∀ {more : List (Key × V)} {rs : List (Key × Value)} {kvs : List (Key × V)} {vs : List (Key × Value)}, KV more rs → KV kvs vs → KV (mergeK kvs more) (merged vs rs) := by
  intro more rs kvs vs r
  unfold KV at r
  induction r generalizing kvs vs with
  | nil => intro q; exact q
  | @cons p q ps qs h t ih =>
    intro r0
    have e : KV (putK kvs p.1 p.2) (stored vs q.1 q.2) := by
      have := r0.put p.1 h.2
      rw [← h.1]; exact this
    exact ih e
theorem length_mergeK : ∀ (more kvs : List (Key × V)), (mergeK kvs more).length ≤ kvs.length + more.length
  | [], kvs => by show kvs.length ≤ kvs.length + 0; omega
  | p :: r, kvs => by
    have h1 := length_mergeK r (putK kvs p.1 p.2)
    have h2 := length_putK kvs p.1 p.2
    show (mergeK (putK kvs p.1 p.2) r).length ≤ _
    rw [List.length_cons]; omega
theorem carries_of {P : Program} {w : World} : ∀ {kvs : List (Key × V)} {ws : List (Value × Value)}, VV (kvs.map fun kv => (kV kv.1, kv.2)) ws → ∃ rs, Carries (mixKind P w) ws rs ∧ KV kvs rs
  | [], _, r => by rw [List.map_nil] at r; cases r; exact ⟨[], True.intro, .nil⟩
  | p :: kvs, _, r => by
    rw [List.map_cons] at r
    cases r with
    | @cons a b as bs h t =>
      obtain ⟨rs, c, q⟩ := carries_of (P := P) (w := w) t
      obtain ⟨b1, b2⟩ := b
      exact ⟨(p.1, b2) :: rs, ⟨kV_is h.1, rfl, c⟩, .cons ⟨rfl, h.2⟩ q⟩
def tDisp (trs : List (TE × TE)) : TE := fun σ H Q => ∀ p, H p = none → tPairs trs σ (upd H p (.dK [])) fun ps H2 => H2 p = some (.dK []) ∧ ∃ kvs : List (Key × V), ps = kvs.map (fun kv => (kV kv.1, kv.2)) ∧ kvs.length ≤ 15 ∧ Q (.ref p) (upd H2 p (.dK (mergeK [] kvs)))
theorem pe_disp {X : Cx} {pos : Pos} {keys : List (Option Expr)} {values : List Expr} {trs : List (TE × TE)} (h : PPs X pos keys values trs) (hall : keys.all (·.isSome) = true) (hl : keys.length = values.length) (h0 : keys ≠ [])
    (h15 : keys.length ≤ 15) : PE X (.Dict keys values pos) (tDisp trs) := by
  intro pins s σ H Q I q
  have hn := I.hok.fresh (Nat.le_refl s.heap.objs.size)
  have I1 := I.laid (a := s.heap.objs.size) (o := .dK []) (h' := s.heap.push { cls := .type "dict", data := .dict #[] }) (t' := s.toks) (fun _ _ q => Heap.get?_push_of_some _ q) (Nat.le_refl _) (dk_empty s.heap I.big)
  refine wpAny_Dict_walk (knd := mixKind X.prog X.w) hall hl h0 h15 (thn (h pins _ σ _ _ I1 (q _ hn)) fun ws s2 ⟨ps, H2, I2, rel, e, kvs, ep, lk, q2⟩ => ?_)
  subst ep
  obtain ⟨rs, c, rk⟩ := carries_of (P := X.prog) (w := X.w) rel
  obtain ⟨z, hd, vs0, r0, dd⟩ := dk_of I2.hok e
  cases r0
  refine ⟨rs, c, dd, fun h' dd' hs => ⟨.ref s.heap.objs.size, _, ?_, rfl, q2⟩⟩
  have hz : (mergeK [] kvs).length ≤ sizeLine := by
    have h1 := length_mergeK kvs []
    rw [List.length_nil] at h1
    rw [sizeLine_eq]; omega
  have he : ∃ q, h'.get? s.heap.objs.size = some q := let ⟨q, _, _, hq, _⟩ := dd'; ⟨q, hq⟩
  exact d_write I2 (by rw [e]; exact True.intro) hs he (dk_new hz hd (rk.merge .nil) dd')
structure M1 (X : Cx) (o : Expr) (m : Str) (apos : Pos) (e : Expr) (cpos : Pos) : Prop where
  base : attributeBase o m X.env (eval o X.env) = eval o X.env
  few : ((backTo cpos (starEach [e] X.env)).all (fun x => !x.1) && (backToKw cpos (keywordEach [] X.env)).all (fun x => x.1.isSome)
    && decide (([e] : List Expr).length + ([] : List Keyword).length + (if ([] : List Keyword).isEmpty then 0 else 1) < 30)) = true
  line : (apos.endLine == cpos.line) = true
  trees : backTo cpos (starEach [e] X.env) = [(false, eval e X.env)]
structure M2 (X : Cx) (o : Expr) (m : Str) (apos : Pos) (e f : Expr) (cpos : Pos) : Prop where
  base : attributeBase o m X.env (eval o X.env) = eval o X.env
  few : ((backTo cpos (starEach [e, f] X.env)).all (fun x => !x.1) && (backToKw cpos (keywordEach [] X.env)).all (fun x => x.1.isSome)
    && decide (([e, f] : List Expr).length + ([] : List Keyword).length + (if ([] : List Keyword).isEmpty then 0 else 1) < 30)) = true
  line : (apos.endLine == cpos.line) = true
  trees : backTo cpos (starEach [e, f] X.env) = [(false, eval e X.env), (false, eval f X.env)]
def IsD (H : Hp) (a : Addr) : Prop := (∃ kvs, Rd H a (.dK kvs)) ∨ ∃ kvs, Rd H a (.dT kvs)
theorem isD_at {X : Cx} {pins : List (Addr × Obj)} {σ : St} {H : Hp} {s : Shared} {a : Addr} (I : Inv X pins σ H s) (d : IsD H a) :
    s.TypeIs (.ref a) "dict" ∧ (∀ b, Value.ref a = .ref b → ∃ ob, s.heap.get? b = some ob ∧ ob.dict = none) ∧ (a == sysModules) = false := by
  rcases d with ⟨kvs, e⟩ | ⟨kvs, e⟩
  · obtain ⟨_, hd, vs, _, dd⟩ := dk_rd I.hok e
    refine ⟨dd.typeIs, fun b q => ?_, hd⟩
    cases q
    obtain ⟨ob, _, _, h1, h2, _⟩ := dd
    exact ⟨ob, h1, h2.2.1⟩
  · obtain ⟨_, hd, xs, _, dd⟩ := dt_rd I.hok e
    refine ⟨dd.typeIs, fun b q => ?_, hd⟩
    cases q
    obtain ⟨ob, _, _, h1, h2, _⟩ := dd
    exact ⟨ob, h1, h2.2.1⟩
section
variable {X : Cx} {pins : List (Addr × Obj)} {σ : St} {H : Hp} {s : Shared} {a : Addr} {y d : V} {u r : Value} {o : Option V} {A : Around} {E : Value → Shared → Prop}
end
def tDGet1 (td ty : TE) : TE := fun σ H Q => td σ H fun x H1 => ∃ a, x = .ref a ∧ IsD H1 a ∧ ty σ H1 fun y H2 => ∃ o, DGet H2 a y o ∧ Q (o.getD .non) H2
def tDGet2 (td ty tx : TE) : TE := fun σ H Q => td σ H fun x H1 => ∃ a, x = .ref a ∧ IsD H1 a ∧ ty σ H1 fun y H2 => tx σ H2 fun z H3 => ∃ o, DGet H3 a y o ∧ Q (o.getD z) H3
def tDPop1 (td ty : TE) : TE := fun σ H Q => td σ H fun x H1 => ∃ a, x = .ref a ∧ IsD H1 a ∧ ty σ H1 fun y H2 => ∃ kvs k v, H2 a = some (.dK kvs) ∧ y = kV k ∧ valV kvs k = some v ∧ Q v (upd H2 a (.dK (dropK kvs k)))
def tDPop2 (td ty tx : TE) : TE := fun σ H Q => td σ H fun x H1 => ∃ a, x = .ref a ∧ IsD H1 a ∧ ty σ H1 fun y H2 => tx σ H2 fun z H3 => ∃ kvs k, H3 a = some (.dK kvs) ∧ y = kV k ∧
  (∀ v, valV kvs k = some v → Q v (upd H3 a (.dK (dropK kvs k)))) ∧ (valV kvs k = none → Q z H3)
section
variable {X : Cx} {o e f : Expr} {apos cpos : Pos} {td ty tx : TE}
theorem pe_dpop1 (ho : PE X o td) (he : PE X e ty) (m : M1 X o "pop" apos e cpos) : PE X (.Call (.Attribute o "pop" apos) [e] [] cpos) (tDPop1 td ty) := by
  intro pins s σ H Q I h
  refine wpAny_Call_method m.base m.few m.line PySem.F.plainAttrs_dict PySem.F.slot_dict_pop PySem.F.type_dict_pop (thn (ho pins s σ H _ I h) fun u s1 ⟨x, H1, I1, rx, a, ex, d, q1⟩ => ?_)
  subst ex
  obtain rfl : u = Value.ref a := rx
  obtain ⟨t1, t2, _⟩ := isD_at I1 d
  refine ⟨t1, t2, ?_⟩
  rw [m.trees]
  refine Calls.callWith_builtin rfl (Calls.evalArgs_plain (Calls.spliced_cons (thn (he pins s1 σ H1 _ I1 q1) fun iv s2 ⟨y, H2, I2, ry, kvs, k, v, ea, ey, l, q2⟩ => Calls.spliced_nil ?_)))
  subst ey
  exact d_pop I2 ea ry l (.inl rfl) fun w' s3 I3 rw' => ⟨v, _, I3, rw', q2⟩
end
section
variable {X : Cx} {pins : List (Addr × Obj)} {σ : St} {H : Hp} {s : Shared} {a : Addr} {kvs : List (Key × V)} {A : Around} {E : Value → Shared → Prop}
end
section
variable {X : Cx} {pins : List (Addr × Obj)} {σ : St} {H : Hp} {s : Shared} {a : Addr} {y : V} {u : Value} {A : Around} {E : Value → Shared → Prop}
end
end L2
namespace Att
open PySem PySem.W PySem.Calls PyProof.Rows
theorem ints_of_wellAll {P : Params} {h : Heap} : ∀ (ns : List Int) (vs : List Value), WellAll P h vs (ns.map WData.int) → IntsAre vs ns := by
  intro ns
  induction ns with
  | nil =>
    intro vs w
    rw [List.map_nil] at w
    cases w
    exact .nil
  | cons n ns ih =>
    intro vs w
    rw [List.map_cons] at w
    cases w with
    | cons a b =>
      cases a
      exact .cons _ _ (ih _ b)
theorem script_of {l : OpenLaw} {n : Nat} (hn : l.most = some n) {P : Params} {h : Heap} {args : List WData} {vals : List Value}
    (hpre : l.row.toRowW.claim.pre args = true) (hwl : WellAll P h vals args) :
    ∃ a vs ns, vals = [Value.ref a] ∧ args = [WData.list (ns.map WData.int)] ∧ h.get? a = some { cls := .type "list", data := .seq vs.toArray } ∧ IntsAre vs ns ∧ ns.length ≤ n := by
  have hsh : WShape.hasAll [] args [.list .int] = true := (pre_splitW hpre).1
  have hc : l.pre.holds [] { args := args } = true := (pre_splitW hpre).2
  obtain ⟨d, r, rfl, h1, h2⟩ := hasAllW_cons hsh
  obtain rfl := hasAllW_nil h2
  obtain ⟨xs, rfl, h3⟩ := hasW_list h1
  obtain ⟨ns, rfl⟩ := items_int h3
  have hlen : ns.length ≤ n := by
    unfold OpenLaw.pre at hc
    have h4 : (WTm.not (.lt (.lit (.int (n : Int))) (.len (.arg 0)))).holds [] { args := [.list (ns.map .int)] } = true := by
      have h4 := (holds_andW hc).1
      rw [hn] at h4
      exact h4
    have h5 := condW_of h4 (w_not (w_lt w_lit (w_len_list (w_arg rfl))))
    rw [List.length_map] at h5
    refine Nat.le_of_not_lt fun q => ?_
    have q' : (n : Int) < ((ns.length : Nat) : Int) := by omega
    first
      | (rw [decide_eq_true q'] at h5; exact absurd h5 (by decide))
      | (simp at h5; omega)
  cases hwl with
  | cons w1 w2 =>
    cases w2
    cases w1 with
    | list ho hall => exact ⟨_, _, ns, rfl, rfl, ho, ints_of_wellAll ns _ hall, hlen⟩
theorem post_true (l : OpenLaw) (args : List WData) : l.row.toRowW.claim.post args (.bool true) args = true :=
  postW_of (r := l.row.toRowW) (X := (true == true))
    (show WShape.has [] (.bool true) .bool = true by first | rfl | decide | simp [WShape.has, WShape.arms, WShape.armsAll])
    (show (WTm.eq .res (.lit (.bool true))).value [] { args := args, res := some (.bool true), after := args } = some (.bool (true == true)) from w_eq_bool (w_res rfl) w_lit) rfl
theorem attach_call {l : OpenLaw} {n : Nat} {q : Program} {loose : List Str} {XP : (Str → Option Value) → Heap → Prop} {YP : World → Heap → Prop} {d : DefRec}
    (hn : l.most = some n) (hdf : d.params.defaults = [])
    (call : ∀ (w : World) (s₀ s₁ : Shared) (mg mb : Str → Option Value) (fa : Addr) (o : Obj) (pm cd doc : Value) (a : Addr) (vs : List Value) (ns : List Int),
      Ground q loose [] XP w s₀ mg mb s₁.heap → YP w s₁.heap →
      s₁.heap.get? fa = some o → o.data = .func (docDef d.name d.params d.body d.scope pm cd doc) → s₁.heap.CodeRec cd d.name → mg d.name = some (.ref fa) →
      s₁.heap.get? a = some { cls := .type "list", data := .seq vs.toArray } → IntsAre vs ns → ns.length ≤ n → s₁.gens = #[] →
      codeAny (model l.prog w) callerA (.call (.ref fa) ⟨[.ref a], []⟩) (fun r s' => r = .ok (.ret (.bool true)) ∧ OldK s₁.heap s'.heap ∧ s'.os = s₁.os ∧ AllBare s'.gens) s₁) :
    WalkO q loose XP YP l.row.toRowW d [] (fun f vs => PySem.call f vs) := by
  intro w s₀ s₁ mg mb G Y fa o pm cd doc dV kV ho hd hcd hD hmg hg args vals as hpre hlay hrd hwl hlo
  obtain rfl : dV = .none := Dflts.none hD hdf
  obtain rfl : kV = .none := Dflts.noKw hD
  obtain ⟨a, vs, ns, rfl, rfl, hobj, hints, hlen⟩ := script_of hn hpre hwl
  refine enter_call (codeAny_mono (call w s₀ s₁ mg mb fa o pm cd doc a vs ns G Y ho (fd_plain hd) hcd hmg hobj hints hlen hg) fun r s' hq => ?_)
  obtain ⟨rfl, h2, h3, h4⟩ := hq
  exact ⟨.inl ⟨.bool true, .bool true, [], rfl, fun _ => rfl, .bool true, post_true l _, fun _ => ⟨List.Pairwise.nil, fun _ hm => (nomatch hm)⟩⟩, h2, h3, h4⟩
section
variable {prog : Program} {w : World} {A : Around} {E : Value → Shared → Prop} {s : Shared} {K : Frag}
def noObjs (h : Heap) : Heap := { h with objs := #[] }
def ledger (h : Heap) (L d : Addr) : List (Addr × Obj) := (List.range h.objs.size).filterMap fun a => if a = L ∨ a = d then none else (h.get? a).map fun o => (a, o)
end
end Att
namespace L2
open PySem PySem.Spec PyProof.Rows
theorem vals_ints : ∀ {vs : List Value} {ns : List Int}, IntsAre vs ns → Vals (ns.map V.int) vs
  | _, _, .nil => .nil
  | _, _, .cons n t h => .cons ⟨t, rfl⟩ (vals_ints h)
def Only (H : Hp) : Prop := ∀ b, H b = none ∨ ∃ o xs, H b = some (.frz o (.lst xs))
theorem law_call {P : Program} {w : World} {K : PySem.W.Frag} {mg mb : Str → Option Value} {CX : CXT} {k : Nat} {fa a : Addr} {fd : FuncData} {x : Str} {sp : Sp} {s₁ : Shared} {vs : List Value} {ns : List Int}
    (KX : K.In s₁.heap) (hns : s₁.heap.Ns mainGlobals mg) (hb : s₁.heap.Ns builtinsNs mb) (hbb : ∀ x : Str, x ≠ "__name__" → mb x = bootBuiltins x) (hlim : s₁.heap.NoLimit) (hg : s₁.gens = #[])
    (ha : s₁.heap.get? a = some { cls := .type "list", data := .seq vs.toArray }) (hi : IntsAre vs ns) (hl : ns.length ≤ sizeLine) (hr : Room k callerA)
    (F : ∀ base : Heap, K.In base → base.Ns mainGlobals mg → FnOk P w K mg base CX k fa fd [x] sp) (hbind : ∀ (s : Shared) (u : Value), BindsTo s fd ⟨[u], []⟩ [(x, u)])
    (hsp : ∀ H : Hp, Only H → SqL K H a (ns.map V.int) → sp [.ref a] H (fun v _ => v = .bl true) fun _ _ _ => False)
    (hCX : ∀ H e s', CX [] H s₁ (fun _ _ _ => False) e s' → False) :
    codeAny (model P w) callerA (.call (.ref fa) ⟨[.ref a], []⟩) (fun r s' => r = .ok (.ret (.bool true)) ∧ OldK s₁.heap s'.heap ∧ s'.os = s₁.os ∧ AllBare s'.gens) s₁ := by
  have rv := vals_ints hi
  have lenV := hi.length
  -- from an abstract heap in which nothing but the script may be tracked
  have core : ∀ H : Hp, Only H → SqL K H a (ns.map V.int) → HOk P w H s₁.heap → (∀ b, H b ≠ none → b = a) → (H a ≠ none → K.lookup a = none) →
      codeAny (model P w) callerA (.call (.ref fa) ⟨[.ref a], []⟩) (fun r s' => r = .ok (.ret (.bool true)) ∧ OldK s₁.heap s'.heap ∧ s'.os = s₁.os ∧ AllBare s'.gens) s₁ := by
    intro H hO hS hok hA hK
    have base_of : ∀ {b : Addr} {o : Obj}, s₁.heap.get? b = some o → H b = none → (hidT s₁.heap H).get? b = some o := fun e n => hidT_get e n
    have noA : ∀ {b : Addr} {o : Obj} {es : Array DictEntry} {ep : Nat}, s₁.heap.get? b = some o → o.data = .dict es ep → H b = none := fun {b o es ep} e d => by
      cases q : H b with
      | none => rfl
      | some u =>
        have e' : b = a := hA b (by rw [q]; simp)
        subst e'
        rw [ha] at e; cases e
        have d' : Data.seq vs.toArray _ = Data.dict es ep := d
        cases d'
    have nsK : ∀ {b : Addr} {m : Str → Option Value}, s₁.heap.Ns b m → (hidT s₁.heap H).Ns b m := fun {b m} ⟨o, es, ep, e, d, r⟩ => ⟨o, es, ep, base_of e (noA e d), d, r⟩
    have hKb : K.In (hidT s₁.heap H) := fun b o e => base_of (KX b o e) (by
      cases q : H b with
      | none => rfl
      | some u =>
        have e' : b = a := hA b (by rw [q]; simp)
        subst e'
        rw [hK (by rw [q]; simp)] at e; cases e)
    have hM : Mod K mg (hidT s₁.heap H) := ⟨hKb, nsK hns, ⟨mb, nsK hb, hbb⟩, let ⟨mc, h1, h2⟩ := hlim; ⟨mc, nsK h1, h2⟩⟩
    have e0 : Env0 P w K mg (hidT s₁.heap H) callerA [] s₁ H := ⟨rfl, hM, fun b o e => of_hidT e, Nat.le_of_eq (hidT_size _ _), trivial, fun b hb => absurd (show b ∈ ([] : List Addr) from hb) (by simp), hok, .of_eq hg⟩
    refine codeAny_mono ((F _ hKb (nsK hns)).run callerA [] s₁ H ⟨[.ref a], []⟩ [.ref a] [.ref a] _ _ hr e0 (hbind s₁ (.ref a)) (.cons rfl .nil) (hsp H hO hS)) fun r s' h => ?_
    cases r with
    | error e => exact (hCX H e s' h).elim
    | ok fl =>
      cases fl with
      | next => exact False.elim h
      | brk => exact False.elim h
      | cont => exact False.elim h
      | ret u =>
        obtain ⟨v, H', os, bare, un, hok', r', q⟩ := h
        have q' : v = .bl true := q
        subst q'
        obtain rfl : u = Value.bool true := r'
        refine ⟨rfl, OldK.of_keep fun b o e => ?_, os, bare⟩
        cases q : H b with
        | none => exact un.keep b o e q (by intro z; exact absurd (show b ∈ ([] : List Addr) from z) (by simp)) (by simp)
        | some u =>
          rcases hO b with z | ⟨ob, xs, z⟩
          · rw [q] at z; cases z
          · have z2 := un.frzs b ob _ z
            obtain ⟨e1, _⟩ := hok b _ z
            obtain ⟨e2, _⟩ := hok' b _ z2
            rw [e] at e1; cases e1
            exact e2
  cases hk : K.lookup a with
  | some o =>
    -- the script is one of the module's own objects
    have e := KX a o hk
    rw [ha] at e
    cases e
    refine core (fun _ => none) (fun _ => .inl rfl) (.inr ⟨_, vs.toArray, _, hk, rfl, rfl, rfl, by rw [List.size_toArray, lenV]; exact hl, by simpa using rv⟩) (fun b u z => by have z' : (none : Option HO) = some u := z; cases z') (fun b z => absurd rfl z) fun z => absurd rfl z
  | none =>
    refine core (fun b => if b = a then some (.frz { cls := .type "list", data := .seq vs.toArray } (.lst (ns.map V.int))) else none) (fun b => ?_) (.inl (.inr ⟨{ cls := .type "list", data := .seq vs.toArray }, if_pos rfl⟩)) (fun b u z => ?_) (fun b z => ?_) fun _ => hk
    · by_cases hb : b = a
      · exact .inr ⟨_, _, if_pos hb⟩
      · exact .inl (if_neg hb)
    · by_cases hb : b = a
      · have z' := (if_pos hb).symm.trans z
        cases z'
        subst hb
        exact ⟨ha, by rw [List.length_map]; exact hl, vs, _, rv, ha⟩
      · have z' := (if_neg hb).symm.trans z
        cases z'
    · by_cases hb : b = a
      · exact hb
      · exact absurd (if_neg hb) z
end L2
namespace L2
open PySem PySem.Spec PyProof.Rows
abbrev KOf {K : PySem.W.Frag} {h : Heap} (_ : K.In h) : PySem.W.Frag := K
theorem walk_of {l : PySem.W.OpenLaw} {n k : Nat} {q : Program} {loose : List Str} {XP : (Str → Option Value) → Heap → Prop} {YP : World → Heap → Prop} {d : DefRec} {K : Params → PySem.W.Frag} {CX : World → CXT} {sp : World → Sp} {x : Str}
    (hn : l.most = some n) (hn2 : n ≤ sizeLine) (hdf : d.params.defaults = []) (hr : Room k callerA)
    (hY : ∀ (w : World) (h : Heap), YP w h → (K w.params).In h)
    (F : ∀ (w : World) (mg : Str → Option Value) (fa : Addr) (h : Heap), (K w.params).In h → h.Ns mainGlobals mg → mg d.name = some (.ref fa) →
      ∃ fd : FuncData, (∀ (s : Shared) (u : Value), BindsTo s fd ⟨[u], []⟩ [(x, u)]) ∧
        ∀ base : Heap, (K w.params).In base → base.Ns mainGlobals mg → FnOk l.prog w (K w.params) mg base (CX w) k fa fd [x] (sp w))
    (hsp : ∀ (w : World) (H : Hp) (a : Addr) (ns : List Int), ns.length ≤ n → Only H → SqL (K w.params) H a (ns.map V.int) → sp w [.ref a] H (fun v _ => v = .bl true) fun _ _ _ => False)
    (hCX : ∀ (w : World) (H : Hp) (s : Shared) (e : Value) (s' : Shared), CX w [] H s (fun _ _ _ => False) e s' → False) :
    PySem.W.WalkO q loose XP YP l.row.toRowW d [] (fun f vs => PySem.call f vs) := by
  refine Att.attach_call hn hdf fun w s₀ s₁ mg mb fa o pm cd doc a vs ns G Y ho hd hcd hmg hobj hints hlen hg => ?_
  have KX := hY w _ Y
  obtain ⟨fd, hb, hF⟩ := F w mg fa _ KX G.T.g hmg
  exact law_call KX G.T.g G.T.b G.T.builtins G.T.nolimit hg hobj hints (Nat.le_trans hlen hn2) hr hF hb (fun H hO hS => hsp w H a ns hlen hO hS) fun H e s' => hCX w H s₁ e s'
end L2
namespace L2
open PySem PySem.Spec PyProof.Rows
def inClass (s : Stmt) (j : Nat) : Stmt := match s with
  | .ClassDef _ _ _ body _ _ _ _ _ _ _ => body.getD j (.Pass ⟨0, 0, 0, 0⟩)
  | _ => .Pass ⟨0, 0, 0, 0⟩
def defArgs (s : Stmt) : Arguments := match s with
  | .FunctionDef _ a _ _ _ _ _ _ _ _ => a
  | _ => { posonlyargs := [], args := [], vararg := none, kwonlyargs := [], kw_defaults := [], kwarg := none, defaults := [] }
def defBody (s : Stmt) : List Stmt := match s with
  | .FunctionDef _ _ b _ _ _ _ _ _ _ => b
  | _ => []
def defScope (s : Stmt) : Scope := match s with
  | .FunctionDef _ _ _ _ _ _ sc _ _ _ => sc
  | _ => { kind := .function, names := [], isGenerator := false, isCoroutine := false }
abbrev CX0 : CXT := fun _ _ _ _ _ _ => False
abbrev E0 : XK := fun _ _ _ => False
theorem pass0 {X : Cx} : Passes CX0 X E0 := fun _ _ _ _ _ _ _ h => h.elim
structure Fun (K : PySem.W.Frag) (x qual : Str) (st : Stmt) (f : Addr) (fd : FuncData) : Prop where
  ex : ∃ (oc : Value) (od : Option Addr) (kV doc pm : Value) (an : Option Addr) (cdv ct : Value) (osl : Array (Option Value)),
    fd = PySem.W.fnOf x qual (defArgs st) (defBody st) (defScope st) .none kV doc pm an cdv ct ∧ K.lookup f = some ⟨oc, od, .func fd, osl⟩ ∧ PySem.W.codeIn K cdv qual = true
  kp : PySem.W.keepIn K (.ref f) = true
section
variable {P : Program} {w : World} {K : PySem.W.Frag} {mg : Str → Option Value} {base : Heap}
theorem Fun.ok {x qual : Str} {st : Stmt} {f : Addr} {fd : FuncData} {N ps : List Str} {k : Nat} {sp : Sp} (F : Fun K x qual st f fd) (S : FnScope N ps (defScope st)) (len : ∀ vs H Q E, sp vs H Q E → vs.length = ps.length)
    (hbody : ∀ (cdv : Value) (A : Around) (outer : List Env) (s : Shared) (H : Hp) (vs : List V) (Q : VK) (E : XK), Room k (A.deeper (envOfC qual (defScope st) s.heap.objs.size f cdv)) → sp vs H Q E →
      ∃ t, PSs (cxOf CX0 P w K mg base N qual (defScope st) f cdv A outer s H E).nox (defBody st) t ∧ t { nx := fun _ H' => Q .non H', rt := Q } (start N vs) H) : FnOk P w K mg base CX0 (k + 1) f fd ps sp := by
  obtain ⟨oc, od, kV, doc, pm, an, cdv, ct, osl, rfl, lk, hcd⟩ := F.ex
  refine fn_of lk hcd S len fun A outer s H vs Q E hr hsp => ?_
  obtain ⟨t, h, q⟩ := hbody cdv A outer s H vs Q E hr hsp
  exact ⟨t, h.nox, q⟩
theorem Fun.binds {x qual : Str} {st : Stmt} {f : Addr} {fd : FuncData} {ps : List Str} (F : Fun K x qual st f fd)
    (h : ∀ (kV doc pm : Value) (an : Option Addr) (cdv ct : Value) (us : List Value), us.length = ps.length → bindArgs (PySem.W.fnOf x qual (defArgs st) (defBody st) (defScope st) .none kV doc pm an cdv ct) ⟨us, []⟩ = pure (ps.zip us)) : Binds K fd ps [] := by
  obtain ⟨oc, od, kV, doc, pm, an, cdv, ct, osl, rfl, lk, hcd⟩ := F.ex
  exact .all (h kV doc pm an cdv ct)
theorem fun_mk {x qual : Str} {st : Stmt} {f : Addr} {oc : Value} {od an : Option Addr} {osl : Array (Option Value)} {kV doc pm cdv ct : Value} (l : K.lookup f = some ⟨oc, od, .func (PySem.W.fnOf x qual (defArgs st) (defBody st) (defScope st) .none kV doc pm an cdv ct), osl⟩)
    (c : PySem.W.codeIn K cdv qual = true) (k : PySem.W.keepIn K (.ref f) = true) : Fun K x qual st f (PySem.W.fnOf x qual (defArgs st) (defBody st) (defScope st) .none kV doc pm an cdv ct) := ⟨⟨oc, od, kV, doc, pm, an, cdv, ct, osl, rfl, l, c⟩, k⟩
end
theorem hu_of {A : Around} {k : Nat} (hr : Room k A) : A.units + 1 < cLine := Nat.lt_of_le_of_lt (Nat.add_le_add_left (by decide : 1 ≤ 64) _) hr.units
section
variable {X : Cx}
theorem pv (i : Nat) {x : Str} {pos : Pos} (hN : X.N[i]? = some x := by rfl) (hv : Vis X.env.scope x := by first | exact Or.inl rfl | exact Or.inr (Or.inl rfl) | exact Or.inr (Or.inr rfl)) (hd : (x == ("__debug__" : Str)) = false := by decide)
    (hcd : (x == ("__classdict__" : Str)) = false := by decide) : PE X (.Name x pos) (tVar i) := pe_var hN hv hd hcd
end
theorem iteF {A B : Prop} (h : B) : if false = true then A else B := by
  rw [if_neg Bool.false_ne_true]
  exact h
theorem iteT {A B : Prop} (h : A) : if true = true then A else B := by
  rw [if_pos rfl]
  exact h
theorem ite2 {c A B : Prop} [Decidable c] (h1 : c → A) (h2 : ¬ c → B) : if c then A else B := by
  by_cases h : c
  · rw [if_pos h]
    exact h1 h
  · rw [if_neg h]
    exact h2 h
def Same (H H' : Hp) : Prop := ∀ b o, H b = some o → H' b = some o
theorem Same.refl (H : Hp) : Same H H := fun _ _ h => h
theorem Same.trans {H H1 H2 : Hp} (a : Same H H1) (b : Same H1 H2) : Same H H2 := fun c o h => b c o (a c o h)
theorem Same.free {H H' : Hp} (e : Same H H') {l : Addr} (h : H' l = Option.none) : H l = Option.none := by
  cases q : H l with
  | none => rfl
  | some o =>
    rw [e l o q] at h
    cases h
theorem Same.seq {K : PySem.W.Frag} {H H' : Hp} {a : Addr} {xs : List V} (e : Same H H') (h : SqL K H a xs) : SqL K H' a xs := by
  rcases h with (h | ⟨o, h⟩) | h
  · exact .inl (.inl (e _ _ h))
  · exact .inl (.inr ⟨o, e _ _ h⟩)
  · exact .inr h
end L2
namespace L2
open PySem PySem.Spec PyProof.Rows
section
variable {X : Cx}
theorem call_lenD : CallR X (.builtin "len") (fun xs H Q => ∃ a kvs, xs = [V.ref a] ∧ H a = some (.dK kvs) ∧ Q (.int kvs.length) H) := by
  intro pins s σ H xs us Q I r h
  obtain ⟨a, kvs, rfl, ha, q⟩ := h
  obtain ⟨u, rfl, ru⟩ := vals1 r
  cases ru
  exact d_len I (.inl ha) fun t s' I' => ⟨.int kvs.length, H, I', ⟨t, rfl⟩, q⟩
end
section
variable {κ : Type} [DecidableEq κ]
theorem dropK_pos {p : κ × V} {r : List (κ × V)} {k : κ} (e : p.1 = k) : dropK (p :: r) k = dropK r k := by
  unfold dropK
  rw [List.filter_cons, if_neg (by simp [e])]
theorem dropK_neg {p : κ × V} {r : List (κ × V)} {k : κ} (e : ¬ p.1 = k) : dropK (p :: r) k = p :: dropK r k := by
  unfold dropK
  rw [List.filter_cons, if_pos (by simp [e])]
end
end L2
set_option Elab.async false
set_option linter.all false
set_option maxRecDepth 100000
set_option maxHeartbeats 4000000
namespace L2
open PySem PySem.Spec PyProof.Rows
section
variable {prog : Program} {w : World} {A : Around} {R : Result → Shared → Prop} {s : Shared}
theorem comp_loop {elt target iter : Expr} {ifs : List Expr} {scope : Scope} {pos : Pos} {it acc : Value} {env : Env} (J : Nat → Shared → Prop)
    (turn : ∀ n s, J n s → wpAny (model prog w) A (pyNext it) (fun r s₁ => match r with
      | none => R (.ok .next) s₁
      | some v => wpAny (model prog w) A (letOwnedTupleGo target it v) (fun _ s₂ => wpAny (model prog w) A (assign target env v) (fun _ s₃ =>
          wpAny (model prog w) A (forIn ifs true fun c r => if r = true then do let ok ← isTrue c env (eval c env); pure (ForInStep.yield ok) else pure (ForInStep.yield r)) (fun ok s₄ =>
            if ok = true then wpAny (model prog w) A (eval elt env) (fun x s₅ => wpAny (model prog w) A (call (.builtin "list.append") [acc, x]) (fun _ s₆ => ∃ m, m < n ∧ J m s₆) (fun _ _ => False) s₅) (fun _ _ => False) s₄
            else ∃ m, m < n ∧ J m s₄) (fun _ _ => False) s₃) (fun _ _ => False) s₂) (fun _ _ => False) s₁) (fun _ _ => False) s)
    (n : Nat) (h : J n s) : codeAny (model prog w) A (.compLoop (.ListComp elt [⟨target, iter, ifs, 0⟩] scope pos) 0 it acc env) R s := by
  refine codeAny_loop rfl J (fun n s hJ => ?_) n h
  show wpAny _ A ((compTurn (.ListComp elt [⟨target, iter, ifs, 0⟩] scope pos) 0 it acc env).onRaise (fun x => do noteFrame x env; theTreesLotGoes x)) _ _ s
  refine wpAny_noted ?_
  rw [compTurn_list]
  refine wpAny_bind (wpAny_standAt (wpAny_bind (wpAny_mono (turn n s hJ) (fun r s₁ h₁ => ?_) fun _ _ f => f.elim)))
  cases r with
  | none => exact wpAny_pure h₁
  | some v =>
    refine wpAny_bind (wpAny_mono h₁ (fun _ s₂ h₂ => wpAny_bind (wpAny_mono h₂ (fun _ s₃ h₃ => wpAny_bind (wpAny_mono h₃ (fun ok s₄ h₄ => ?_) fun _ _ f => f.elim)) fun _ _ f => f.elim)) fun _ _ f => f.elim)
    cases ok with
    | false => exact wpAny_pure ⟨rfl, h₄⟩
    | true => exact wpAny_bind (wpAny_bind (wpAny_mono h₄ (fun x s₅ h₅ => wpAny_bind (wpAny_mono h₅ (fun _ s₆ h₆ => wpAny_pure (wpAny_pure ⟨rfl, h₆⟩)) fun _ _ f => f.elim)) fun _ _ f => f.elim))
end
theorem closure_fold {env : Env} : ∀ (names : List (Str × NameKind)) (acc : List (Str × Addr)), (∀ y ∈ names, y.2 = NameKind.free → ∃ c, env.cells.lookup y.1 = some c) → (∀ y c, acc.lookup y = some c → env.cells.lookup y = some c) →
    ∃ cl, (forIn names acc fun (x : Str × NameKind) (r : List (Str × Addr)) => (match x with
        | (name, kind) => if (kind == NameKind.free) = true then do let c ← cellOf env name; pure (ForInStep.yield ((name, c) :: r)) else pure (ForInStep.yield r) : Sem (ForInStep (List (Str × Addr))))) = pure cl ∧
      (∀ y c, cl.lookup y = some c → env.cells.lookup y = some c) ∧ (∀ y, ((y, NameKind.free) ∈ names ∨ ∃ c, acc.lookup y = some c) → ∃ c, cl.lookup y = some c)
  | [], acc, _, ha => ⟨acc, by rw [List.forIn_nil], ha, fun y h => h.elim (fun z => nomatch z) id⟩
  | (n, k) :: r, acc, hf, ha => by
    rw [List.forIn_cons]
    dsimp only
    by_cases hk : k = NameKind.free
    · subst hk
      obtain ⟨c, hc⟩ := hf (n, .free) List.mem_cons_self rfl
      have e : cellOf env n = pure c := by unfold cellOf; rw [hc]
      rw [if_pos (by rfl), e]
      obtain ⟨cl, h1, h2, h3⟩ := closure_fold r ((n, c) :: acc) (fun y hy => hf y (List.mem_cons_of_mem _ hy)) (fun y d hd => by
        rw [List.lookup_cons] at hd
        by_cases hy : (y == n) = true
        · rw [hy] at hd
          have := eq_of_beq hy
          subst this
          cases hd
          exact hc
        · rw [Bool.not_eq_true] at hy
          rw [hy] at hd
          exact ha y d hd)
      refine ⟨cl, h1, h2, fun y hy => h3 y ?_⟩
      rcases hy with hy | ⟨d, hd⟩
      · rcases List.mem_cons.mp hy with z | z
        · cases z
          exact .inr ⟨c, by rw [List.lookup_cons]; simp⟩
        · exact .inl z
      · refine .inr ?_
        rw [List.lookup_cons]
        by_cases hy : (y == n) = true
        · rw [hy]; exact ⟨c, rfl⟩
        · rw [Bool.not_eq_true] at hy
          rw [hy]; exact ⟨d, hd⟩
    · rw [if_neg (by simpa using hk)]
      obtain ⟨cl, h1, h2, h3⟩ := closure_fold r acc (fun y hy => hf y (List.mem_cons_of_mem _ hy)) ha
      refine ⟨cl, h1, h2, fun y hy => h3 y ?_⟩
      rcases hy with hy | hy
      · rcases List.mem_cons.mp hy with z | z
        · cases z; exact absurd rfl hk
        · exact .inl z
      · exact .inr hy
theorem closure_ok {scope : Scope} {env : Env} (hf : ∀ y ∈ scope.names, y.2 = NameKind.free → ∃ c, env.cells.lookup y.1 = some c) :
    ∃ cl, closureFor scope env = pure cl ∧ (∀ y c, cl.lookup y = some c → env.cells.lookup y = some c) ∧ (∀ y, (y, NameKind.free) ∈ scope.names → ∃ c, cl.lookup y = some c) := by
  obtain ⟨cl, h1, h2, h3⟩ := closure_fold (env := env) scope.names [] hf (fun _ _ z => nomatch z)
  refine ⟨cl, ?_, h2, fun y hy => h3 y (.inl hy)⟩
  simp only [closureFor]
  rw [h1]
  rfl
theorem mem_of_lookup {κ : Type} {y : Str} {k : κ} : ∀ {l : List (Str × κ)}, l.lookup y = some k → (y, k) ∈ l
  | (n, c) :: r, h => by
    rw [List.lookup_cons] at h
    by_cases hy : (y == n) = true
    · rw [hy] at h; cases h; rw [eq_of_beq hy]; exact List.mem_cons_self
    · rw [Bool.not_eq_true] at hy; rw [hy] at h; exact List.mem_cons_of_mem _ (mem_of_lookup h)
theorem relabel_free {scope : Scope} {env : Env} (hcell : ∀ y ∈ scope.names, y.2 ≠ NameKind.cell) {y : Str} {k : NameKind} (h : (relabel scope env).names.lookup y = some k) (hk : k = .cell ∨ k = .free) : (y, NameKind.free) ∈ scope.names := by
  have m := mem_of_lookup h
  unfold relabel at m
  obtain ⟨⟨n, c⟩, hm, e⟩ := List.mem_map.mp m
  dsimp only at e
  by_cases hc : (c == NameKind.free) = true
  · have := eq_of_beq hc
    subst this
    split at e <;> (injection e with e1 e2; subst e1; exact hm)
  · rw [if_neg (by simp [hc])] at e
    injection e with e1 e2
    subst e1 e2
    rcases hk with rfl | rfl
    · exact absurd rfl (hcell _ hm)
    · exact absurd rfl hc
abbrev cxComp (X : Cx) (scope : Scope) (cl : List (Str × Addr)) (N : List Str) (C : Addr) (s₂ : Shared) (H₂ : Hp) (fp : List Addr) : Cx :=
  { X with N := N, s₀ := s₂, H₀ := H₂, env := compEnvC scope cl C X.env, outer := X.stack, stack := X.stack, ex := fp, fn := fun _ => false, pn := [], xe := fun _ _ => False }
def PF (X : Cx) (ifs : List Expr) (t : TT) : Prop :=
  ∀ (pins : List (Addr × Obj)) (s : Shared) (σ : St) (H : Hp) (Q : Bool → Hp → Prop), Inv X pins σ H s → t σ H Q →
    wpAny (model X.prog X.w) X.A (forIn ifs true fun c r => if r = true then do let ok ← isTrue c X.env (eval c X.env); pure (ForInStep.yield ok) else pure (ForInStep.yield r)) (TP X pins σ Q) X.xe s
theorem pf_nil {X : Cx} : PF X [] (fun _ H Q => Q true H) := fun _ _ _ H _ I h => wpAny_tests_nil ⟨H, I, h⟩
theorem pf_one {X : Cx} {c : Expr} {t : TT} (h : PT X c t) : PF X [c] t := fun pins s σ H Q I q => wpAny_tests_one (h pins s σ H Q I q)
def cSt (σ : St) (fr : List (Nat × Str)) (v : Option V) : St := v :: fr.map fun p => (σ[p.1]?).join
def tComp (wi : TI) (fr : List (Nat × Str)) (tc : TT) (te : TE) : TE := fun σ H Q => wi σ H fun J H1 => ∃ W : Nat → Nat → List V → Hp → Prop, (∃ m, W 0 m [] H1) ∧ ∀ i m ys H, W i m ys H →
  (J.stop i H ∧ ys.length ≤ sizeLine ∧ ∀ p, H p = none → Q (.ref p) (upd H p (.lst ys))) ∨
  (J.go i H ∧ ys.length ≤ sizeLine ∧ ∀ v H', J.yld i H v H' → tc (cSt σ fr (some v)) H' fun b H2 => if b = true then te (cSt σ fr (some v)) H2 fun y H3 => ∃ m', m' < m ∧ W (i + 1) m' (ys ++ [y]) H3 else ∃ m', m' < m ∧ W (i + 1) m' ys H2)
theorem Vals.snoc {xs : List V} {us : List Value} {x : V} {u : Value} (r : Vals xs us) (q : RelV x u) : Vals (xs ++ [x]) (us ++ [u]) := Vals.append r (.cons q .nil)
section
variable {X : Cx}
theorem pe_comp {x : Str} {px pos : Pos} {elt iter : Expr} {ifs : List Expr} {scope : Scope} {fr : List (Nat × Str)} {wi : TI} {tc : TT} {te : TE} (hcalm : X.calm = true) (hi : PI X (.Name x px) iter wi)
    (hN : (x :: fr.map (·.2)).Nodup) (hfr : ∀ p ∈ fr, X.N[p.1]? = some p.2 ∧ (X.env.kindOf p.2 = some .cell ∨ X.env.kindOf p.2 = some .free))
    (hfree : ∀ y ∈ scope.names, y.2 = NameKind.free → X.env.kindOf y.1 = some .cell ∨ X.env.kindOf y.1 = some .free)
    (hfs : ∀ p ∈ fr, (p.2, NameKind.free) ∈ scope.names ∧ ((relabel scope X.env).names.lookup p.2 = some .cell ∨ (relabel scope X.env).names.lookup p.2 = some .free))
    (hcell : ∀ y ∈ scope.names, y.2 ≠ NameKind.cell) (hkind : scope.kind = .function) (hnames : ∀ y ∈ scope.names, y.2 = NameKind.local → scope.names.lookup y.1 = some .local) (hx : scope.names.lookup x = some .local)
    (ht : ∀ cl C s₂ H₂ fp, PF (cxComp X scope cl (x :: fr.map (·.2)) C s₂ H₂ fp) ifs tc) (he : ∀ cl C s₂ H₂ fp, PE (cxComp X scope cl (x :: fr.map (·.2)) C s₂ H₂ fp) elt te)
    (hs : ∀ x, foldedSetIterable iter X.env x = pure x := by intro _; rfl) : PE X (.ListComp elt [⟨.Name x px, iter, ifs, 0⟩] scope pos) (tComp wi fr tc te) := by
  intro pins s σ H Q I h
  obtain ⟨cl, hcl, hc1, hc2⟩ := closure_ok (scope := scope) (env := X.env) fun y hy hk => I.ok.has y.1 (hfree y hy hk)
  rw [eval_ListComp]
  refine wpAny_comprehension_free (use := none) rfl hs hcl hkind hnames (thn (hi pins s σ H _ I h) fun xv s₁ h₁ => thn h₁ fun itv s₂ h₂ => ?_)
  obtain ⟨it, fp, tn, J, H2, e, I2, T, st2, f2, W, ⟨m0, w0⟩, turn⟩ := h₂
  subst e
  -- the list that is filled, the block's names
  refine wpAny_newObj_type (wpAny_newFunctionEnv hcell (by intro y hy; simp at hy) (fun h₁ hns₁ hsb₁ => ?_) hkind)
  dsimp only at hns₁ hsb₁ ⊢
  generalize hD : s₂.heap.objs.size = D at hns₁ hsb₁ ⊢
  generalize hG : s₂.heap.push { cls := .type "list", dict := none, data := .seq ([] : List Value).toArray } = G at hns₁ hsb₁ ⊢
  have hC : G.objs.size = D + 1 := by rw [← hG, Heap.size_push, hD]
  generalize hCC : G.objs.size = C at hns₁ hsb₁ hC ⊢
  subst hC
  have fpD : ∀ b ∈ fp, b < D := fun b hb => by
    obtain ⟨o, e, _⟩ := T.obj _ _ st2 b hb
    rw [← hD]; exact Heap.lt_size e
  have old : ∀ b o, s₂.heap.get? b = some o → h₁.get? b = some o := fun b o e => hsb₁.extBut b o (Nat.ne_of_lt (Nat.lt_succ_of_lt (by rw [← hD]; exact Heap.lt_size e))) (Heap.get?_push_of_some _ (hG ▸ Heap.get?_push_of_some _ e))
  have hGD : G.get? D = some { cls := .type "list", dict := none, data := .seq ([] : List Value).toArray } := by
    rw [← hG, ← hD]
    exact Heap.get?_push_size _ rfl
  have hacc : h₁.PlainList D #[] := ⟨0, hsb₁.extBut _ _ (Nat.ne_of_lt (Nat.lt_succ_self D)) (Heap.get?_push_of_some _ hGD)⟩
  have clD : ∀ y c, cl.lookup y = some c → c < D := fun y c e => by
    obtain ⟨v, q⟩ := I2.cell y c (hc1 y c e)
    rw [← hD]; exact q.lt
  have stkD : ∀ b ∈ frs X.stack, b < D := fun b hb => by
    rcases List.mem_cons.mp (I2.stkSub b hb) with e | hb
    · rw [e, ← hD]; exact I2.lt
    · rw [← hD]
      exact Nat.lt_of_not_le fun z => I2.nofs z hb
  have fpS : ∀ b ∈ fp, b ∉ frs X.stack := fun b hb hb' => by
    rcases List.mem_cons.mp (I2.stkSub b hb') with e | z
    · exact (f2 b hb).2.1 e
    · exact (f2 b hb).2.2.1 z
  generalize hX' : cxComp X scope cl (x :: fr.map (·.2)) (D + 1) s₂ H2 fp = X'
  have ok' : X'.Ok := by
    subst hX'
    refine ⟨I2.ok.mod, hkind, I2.ok.glob, I2.ok.blt, (by show s₂.heap.objs.size ≤ D + 1; omega), fun y z c e1 e2 => I2.ok.inj y z c (hc1 _ _ e1) (hc1 _ _ e2), fun y hy => ?_, (fun _ _ z => Bool.noConfusion z), I2.ok.hd, I2.ok.frames, .inl rfl, fun b hb => ⟨?_, fun y c e => ?_⟩, fun b o e => I2.bs b o e, ?_, fun b o e hb => ?_, fpS, I2.env0.funs, I2.stkFree⟩
    · rcases hy with hy | hy
      · exact hc2 y (relabel_free hcell hy (.inl rfl))
      · exact hc2 y (relabel_free hcell hy (.inr rfl))
    · exact Nat.ne_of_lt (Nat.lt_succ_of_lt (fpD b hb))
    · exact (f2 b hb).2.2.2.2.1 y c (hc1 y c e)
    · exact Nat.le_trans I2.ok.bsz I2.sz
    · rcases (f2 b hb).2.2.2.1 with z | z
      · exact I2.ok.noex b o e z
      · exact absurd (Nat.lt_of_lt_of_le (Heap.lt_size (I2.ok.bs b o e).1) z) (Nat.lt_irrefl _)
  have hL' : X'.env.locals = D + 1 := by subst hX'; rfl
  have hcells' : X'.env.cells = cl := by subst hX'; rfl
  have hfs' : X'.fs = frs X.stack := by subst hX'; rfl
  have hpn' : X'.pn = [] := by subst hX'; rfl
  have hs0' : X'.s₀ = s₂ := by subst hX'; rfl
  have hH0' : X'.H₀ = H2 := by subst hX'; rfl
  have hex' : X'.ex = fp := by subst hX'; rfl
  have hN' : X'.N = x :: fr.map (·.2) := by subst hX'; rfl
  have hA' : X'.A = X.A := by subst hX'; rfl
  have hPr : X'.prog = X.prog ∧ X'.w = X.w ∧ X'.K = X.K ∧ X'.calm = true := by subst hX'; exact ⟨rfl, rfl, rfl, hcalm⟩
  have hxe' : X'.xe = fun _ _ => False := by subst hX'; rfl
  have henv' : X'.env = compEnvC scope cl (D + 1) X.env := by subst hX'; rfl
  have ht' : PF X' ifs tc := hX' ▸ ht cl (D + 1) s₂ H2 fp
  have he' : PE X' elt te := hX' ▸ he cl (D + 1) s₂ H2 fp
  have hg' : PG X' (.Name x px) (gName 0) := by
    refine pg_name (by rw [hN']; exact hN) (by rw [hN']; rfl) (.inl ?_) (.inr ?_) <;> (rw [henv']; exact lookup_relabel_local hx)
  have fresh : ∀ b, D ≤ b → H2 b = none := fun b hb => I2.hok.fresh (by rw [hD]; exact hb)
  have start : ∀ t, Inv X' [] (cSt σ fr none) H2 { s₂ with heap := h₁, toks := t } := fun t => by
    refine ⟨ok', by rw [hs0'], I2.bare, ?_, ⟨_, by rw [hL']; exact hns₁, fun i y v e1 e2 e3 => ?_⟩, fun y c e => ?_, by rw [hL']; exact fresh _ (Nat.le_succ _), fun y c e => ?_, fun p hp => ?_, ?_, ?_⟩
    · rw [hfs', hex', hH0', hs0']
      exact Un.kept old
    · rw [hN'] at e1
      cases i with
      | zero => cases e2
      | succ i =>
        rw [List.getElem?_cons_succ, List.getElem?_map] at e1
        cases ej : fr[i]? with
        | none => rw [ej] at e1; cases e1
        | some p =>
          rw [ej] at e1
          obtain rfl : p.2 = y := Option.some.inj e1
          have e2' : (σ[p.1]?).join = some v := by
            unfold cSt at e2
            rw [List.getElem?_cons_succ, List.getElem?_map, ej] at e2
            exact Option.some.inj e2
          have e2'' : σ[p.1]? = some (some v) := by
            cases q : σ[p.1]? with
            | none => rw [q] at e2'; cases e2'
            | some z => rw [q] at e2'; exact congrArg some e2'
          have hp := List.mem_of_getElem? ej
          obtain ⟨m, hn, hl⟩ := I2.loc
          obtain ⟨u, r, l⟩ := hl p.1 p.2 v (hfr p hp).1 e2'' (by rcases (hfr p hp).2 with z | z; exact .inr (.inl z); exact .inr (.inr z))
          refine ⟨u, r, .inr ⟨?_, ?_⟩⟩
          · rw [henv']; exact (hfs p hp).2
          · rcases l with ⟨z, _⟩ | ⟨_, c, ec, q⟩
            · exfalso
              rcases (hfr p hp).2 with z' | z' <;> (rw [z] at z'; cases z')
            · obtain ⟨c', ec'⟩ := hc2 p.2 (hfs p hp).1
              have := hc1 _ _ ec'
              rw [ec] at this
              cases this
              obtain ⟨o, ho, hd⟩ := q
              exact ⟨c, by rw [hcells']; exact ec', o, old _ _ ho, hd⟩
    · rw [hcells'] at e
      obtain ⟨v, o, ho, hd⟩ := I2.cell y c (hc1 y c e)
      exact ⟨v, o, old _ _ ho, hd⟩
    · rw [hcells'] at e
      exact I2.freeC y c (hc1 y c e)
    · rw [hpn'] at hp; exact nomatch hp
    · rw [hPr.1, hPr.2.1]
      exact I2.hok.kept old
    · rw [hN']; unfold cSt; simp
  have FP : ∀ {pins' : List (Addr × Obj)} {H' : Hp}, (∀ b ∈ fp, H' b = none) → (∀ p ∈ pins', p.1 = D) → ∀ b ∈ fp, FpOk X' pins' H' b := fun hn hp b hb => by
    refine ⟨hn b hb, ?_, ?_, .inl (by rw [hex']; exact hb), fun y c e => ?_, fun p hp' => ?_⟩
    · rw [hL']; exact Nat.ne_of_lt (Nat.lt_succ_of_lt (fpD b hb))
    · rw [hfs']; exact fpS b hb
    · rw [hcells'] at e; exact (f2 b hb).2.2.2.2.1 y c (hc1 y c e)
    · rw [hpn'] at hp'
      rw [hp p hp']
      exact Nat.ne_of_gt (fpD b hb)
  -- the turns
  have loop : ∀ s₃ : Shared, s₃ = { s₂ with heap := h₁, toks := s₂.toks + ([] : List (Str × Value)).length } →
      codeAny (model X.prog X.w) X.A (.compLoop (.ListComp elt [⟨.Name x px, iter, ifs, 0⟩] scope pos) 0 (.ref it) (.ref D) (compEnvC scope cl (D + 1) X.env))
        (compPost (model X.prog X.w) X.A X.xe none (EP X pins σ Q) (.ref D) (D + 1)) s₃ := by
    rintro s₃ rfl
    rw [← henv', ← hPr.1, ← hPr.2.1, ← hA']
    refine comp_loop (fun k s' => ∃ i ys its H', Inv X' [] (cSt σ fr none) H' s' ∧ tn i s'.heap ∧ (∀ b ∈ fp, H' b = none) ∧ s'.heap.PlainList D its.toArray ∧ Vals ys its ∧ H' D = none ∧ W i k ys H') ?_ m0
      ⟨0, [], [], H2, start _, T.keep _ _ _ st2 fun b hb o e => old b o e, fun b hb => (f2 b hb).1, hacc, .nil, fresh _ (Nat.le_refl _), w0⟩
    rintro n s3 ⟨i, ys, its, H3, I3, st3, fr3, ac3, rv3, hD3, w3⟩
    obtain ⟨na, ac3'⟩ := id ac3
    have I3' : Inv X' [(D, { cls := .type "list", data := .seq its.toArray na })] (cSt σ fr none) H3 s3 := I3.pins_of fun p hp => by
      rw [List.mem_singleton] at hp
      subst hp
      refine ⟨ac3', hD3, by rw [hL']; exact Nat.ne_of_lt (Nat.lt_succ_self D), by rw [hfs']; exact fun z => Nat.lt_irrefl _ (stkD D z), fun v z => nomatch z⟩
    have hT := T
    rw [← hPr.1, ← hPr.2.1, ← hPr.2.2.1] at hT
    rcases turn i n ys H3 w3 with ⟨stop, hlen, qn⟩ | ⟨go, hlen, step⟩
    · refine thn (hT.done X' rfl rfl rfl hPr.2.2.2 i _ s3 _ H3 _ I3' (FP fr3 (by intro p hp; rw [List.mem_singleton.mp hp])) st3 stop) fun r s4 ⟨hr, I4⟩ => ?_
      subst hr
      obtain ⟨m4, hn4, _⟩ := id I4.loc
      refine ⟨m4, hL' ▸ hn4, fun h' hs' => ?_⟩
      have hneD : D ≠ D + 1 := Nat.ne_of_lt (Nat.lt_succ_self D)
      have ac4 := (I4.pin (D, _) (List.mem_append_right _ List.mem_cons_self))
      have ac5 : h'.get? D = some { cls := .type "list", data := .seq its.toArray na } := (hs'.2 D hneD).trans ac4.1
      have un : Un (frs X.stack) fp H2 H3 s₂.heap s4.heap := by
        have := I4.base
        rw [hfs', hex', hH0', hs0'] at this
        exact this
      have kp : ∀ b o, b ≠ D + 1 → s4.heap.get? b = some o → h'.get? b = some o := fun b o hb e => (hs'.2 b hb).trans e
      have neC : ∀ b o, s₂.heap.get? b = some o → b ≠ D + 1 ∧ b ≠ D := fun b o e => by
        have := Heap.lt_size e
        rw [hD] at this
        exact ⟨Nat.ne_of_lt (Nat.lt_succ_of_lt this), Nat.ne_of_lt this⟩
      have un' : Un (frs X.stack) fp H2 (upd H3 D (.lst ys)) s₂.heap h' := by
        refine ⟨fun b o e n hb hx => kp b o (neC b o e).1 (un.keep b o e n hb hx), fun b o e n hb hx => ?_, fun b o e n hx => by rw [upd_ne (neC b o e).2]; exact un.free b o e n hx, fun b o e hx => ?_, fun b xs e => ?_, fun b o u e => ?_, fun b ps e => ?_⟩
        · obtain ⟨sl, z⟩ := un.slot b o e n hb hx
          exact ⟨sl, kp _ _ (neC b o e).1 z⟩
        · obtain ⟨o', z⟩ := un.there b o e hx
          exact ⟨o', kp _ _ (neC b o e).1 z⟩
        · rw [upd_ne (ne_of_none e (fresh D (Nat.le_refl _)))]; exact un.tups b xs e
        · rw [upd_ne (ne_of_none e (fresh D (Nat.le_refl _)))]; exact un.frzs b o u e
        · rw [upd_ne (ne_of_none e (fresh D (Nat.le_refl _)))]; exact un.tbls b ps e
      have hfreeC : H3 (D + 1) = none := by have := I4.free; rw [hL'] at this; exact this
      have hok' : HOk X.prog X.w (upd H3 D (.lst ys)) h' := fun b u e => by
        by_cases hb : b = D
        · subst hb
          rw [upd_same] at e
          cases e
          exact ⟨hlen, its, na, rv3, ac5⟩
        · rw [upd_ne hb] at e
          have z := I4.hok b u e
          rw [hPr.1, hPr.2.1] at z
          refine z.stay (fun c v hc q => kp c v ?_ q) (fun c q => by rw [upd_ne (ne_of_none q hD3)]; exact q) fun c xs q => by rw [upd_ne (ne_of_none q hD3)]; exact q
          rintro rfl
          rcases hc with rfl | hc
          · rw [hfreeC] at e; cases e
          · rw [hfreeC] at hc; cases hc
      refine ⟨.ref D, _, I2.call' (s' := { s4 with heap := h' }) (ch := fp) ?_ un' hok' I4.bare (fun b hb => ⟨(f2 b hb).2.2.2.1, (f2 b hb).2.1, (f2 b hb).2.2.2.2.1, (f2 b hb).2.2.2.2.2⟩), rfl, qn D hD3⟩
      have := I4.os
      rw [hs0'] at this
      exact this
    · refine thn (hT.item X' rfl rfl rfl hPr.2.2.2 i _ s3 _ H3 _ I3' (FP fr3 (by intro p hp; rw [List.mem_singleton.mp hp])) st3 go) fun r s4 ⟨u, hr, h4⟩ => ?_
      subst hr
      refine thn h4 fun _ s5 ⟨v, H5, I5, r5, y5, st5, fr5⟩ => ?_
      have I5' := I5.pinned (FP fr5 (by intro p hp; rw [List.mem_singleton.mp hp])) (T.obj _ _ st5)
      have g5 := hg' _ s5 (cSt σ fr none) H5 v u (fun σ6 H6 => σ6 = cSt σ fr (some v) ∧ H6 = H5) I5' r5 ⟨rfl, rfl⟩
      rw [hxe'] at g5
      refine thn g5 fun _ s6 ⟨σ6, H6, I6, e6, e6'⟩ => ?_
      subst e6 e6'
      have t6 := ht' _ s6 _ H6 _ I6 (step v H6 y5)
      rw [hxe'] at t6
      refine thn t6 fun ok s7 ⟨H7, I7, q7⟩ => ?_
      have back : ∀ {H8 : Hp} {s8 : Shared} {ys' : List V} {its' : List Value} {pl : List (Addr × Obj)}, Inv X' (pl ++ pinsAt fp s5.heap) (cSt σ fr (some v)) H8 s8 → s8.heap.PlainList D its'.toArray → Vals ys' its' → H8 D = none → (∃ m', m' < n ∧ W (i + 1) m' ys' H8) →
          ∃ m, m < n ∧ ∃ i ys its H', Inv X' [] (cSt σ fr none) H' s8 ∧ tn i s8.heap ∧ (∀ b ∈ fp, H' b = none) ∧ s8.heap.PlainList D its.toArray ∧ Vals ys its ∧ H' D = none ∧ W i m ys H' := fun {H8 s8 ys' its' pl} I8 ac8 rv8 hD8 ⟨m', hm, w8⟩ => by
        refine ⟨m', hm, i + 1, ys', its', H8, (I8.pins_of (pins' := []) (fun p hp => absurd hp List.not_mem_nil)).weak (by unfold cSt; simp) ?_, T.keep _ _ _ st5 fun b hb o e => (I8.pin (b, o) (List.mem_append_right _ (List.mem_append_right _ (mem_pinsAt hb e)))).1, fun b hb => ?_, ac8, rv8, hD8, w8⟩
        · intro j z e
          cases j with
          | zero => cases e
          | succ j => exact e
        · obtain ⟨o, e, d⟩ := T.obj _ _ st5 b hb
          exact (I8.pin (b, o) (List.mem_append_right _ (List.mem_append_right _ (mem_pinsAt hb e)))).2.1
      have accOf : ∀ {H8 : Hp} {s8 : Shared} {σ8 : St}, Inv X' ([(D, { cls := .type "list", data := .seq its.toArray na })] ++ pinsAt fp s5.heap) σ8 H8 s8 → s8.heap.PlainList D its.toArray ∧ H8 D = none := fun I8 =>
        have z := I8.pin (D, _) (List.mem_append_right _ (List.mem_append_left _ List.mem_cons_self))
        ⟨⟨na, z.1⟩, z.2.1⟩
      cases ok with
      | false =>
        rw [if_neg Bool.false_ne_true] at q7 ⊢
        exact back I7 (accOf I7).1 rv3 (accOf I7).2 q7
      | true =>
        rw [if_pos rfl] at q7 ⊢
        have t7 := he' _ s7 _ H7 _ I7 q7
        rw [hxe'] at t7
        refine thn t7 fun y s8 ⟨vy, H8, I8, r8, q8⟩ => ?_
        obtain ⟨ac8, hD8⟩ := accOf I8
        refine wpAny_list_append_plain (hsz := by have := rv3.length; rw [List.size_toArray, ← this]; exact hlen) ac8 fun h9 ac9 hs9 => ?_
        have I9 : Inv X' ([] ++ pinsAt fp s5.heap) (cSt σ fr (some v)) H8 s8 := I8.pins_of fun p hp => (I8.pin p (List.mem_append_right _ (List.mem_append_right _ hp)))
        have I10 : Inv X' ([] ++ pinsAt fp s5.heap) (cSt σ fr (some v)) H8 { s8 with heap := h9 } := by
          refine I9.turned (t' := s8.toks) (it := D) (fun b o hb e => (hs9.2 b hb).trans e) hD8 (by rw [hL']; exact Nat.ne_of_lt (Nat.lt_succ_self D)) (.inr (by rw [hs0', hD]; exact Nat.le_refl _)) (fun y' c e => ?_) fun p hp => ?_
          · rw [hcells'] at e; exact Nat.ne_of_lt (clD y' c e)
          · rw [hpn'] at hp
            exact Nat.ne_of_lt (fpD _ (of_pinsAt hp).1)
        have e9 : its.toArray.push y = (its ++ [y]).toArray := by simp
        rw [e9] at ac9
        exact back I10 ac9 (rv3.snoc r8) hD8 q8
  exact codeAny_compStart_list (loop _ rfl) (T.self _ 0 _ _ _ (T.keep _ _ _ st2 fun b hb o e => old b o e) (loop _ rfl))
end
end L2
set_option Elab.async false
set_option linter.all false
set_option maxRecDepth 100000
set_option maxHeartbeats 4000000
namespace L2
open PySem PySem.Spec PyProof.Rows
def TagOf (H : Hp) (x : V) (T : String) : Prop := match x with
  | .non => T = "NoneType"
  | .bl _ => T = "bool"
  | .int _ => T = "int"
  | .str _ => T = "str"
  | .ref a => ((∃ xs, H a = some (.lst xs)) ∧ T = "list") ∨ ((∃ xs, H a = some (.tup xs)) ∧ T = "tuple") ∨ ((∃ kvs, H a = some (.dK kvs)) ∧ T = "dict")
  | _ => False
def instB (T C : String) : Bool := T == C || (T == "bool" && C == "int")
theorem TagOf.ty {K : PySem.W.Frag} {H : Hp} {x : V} {T : String} (h : TagOf H x T) : TyOf K H x (.type T) := by
  cases x with
  | non => cases (show T = "NoneType" from h); exact .non
  | bl b => cases (show T = "bool" from h); exact .bl b
  | int i => cases (show T = "int" from h); exact .int i
  | str z => cases (show T = "str" from h); exact .str z
  | ref a =>
    rcases h with ⟨⟨xs, e⟩, rfl⟩ | ⟨⟨xs, e⟩, rfl⟩ | ⟨⟨xs, e⟩, rfl⟩
    · exact .lst e
    · exact .tup e
    · exact .dK e
  | _ => exact h.elim
theorem TagOf.one {H : Hp} {x : V} {T : String} (h : TagOf H x T) : T = "NoneType" ∨ T = "bool" ∨ T = "int" ∨ T = "str" ∨ T = "list" ∨ T = "tuple" ∨ T = "dict" := by
  cases x with
  | non => exact .inl h
  | bl b => exact .inr (.inl h)
  | int i => exact .inr (.inr (.inl h))
  | str z => exact .inr (.inr (.inr (.inl h)))
  | ref a =>
    rcases h with ⟨_, rfl⟩ | ⟨_, rfl⟩ | ⟨_, rfl⟩ <;> simp
  | _ => exact h.elim
def isiC : List String := ["int", "str", "bool", "tuple", "list"]
theorem kit_of (K : PySem.W.Frag) {T C : String} (h : T = "NoneType" ∨ T = "bool" ∨ T = "int" ∨ T = "str" ∨ T = "list" ∨ T = "tuple" ∨ T = "dict") (hC : C ∈ isiC) : PySem.W.kitOne K (.type T) (.type C) = some (instB T C) := by
  have hC : C = "int" ∨ C = "str" ∨ C = "bool" ∨ C = "tuple" ∨ C = "list" := by simpa [isiC] using hC
  rcases h with rfl | rfl | rfl | rfl | rfl | rfl | rfl <;> rcases hC with rfl | rfl | rfl | rfl | rfl <;> kernel_rfl
section
variable {X : Cx}
theorem call_isinst : CallR X (.builtin "isinstance") (fun xs H Q => ∃ x C T, xs = [x, .ty C] ∧ TagOf H x T ∧ C ∈ isiC ∧ Q (.bl (instB T C)) H) := by
  intro pins s σ H xs us Q I r h
  obtain ⟨x, C, T, rfl, ht, hC, q⟩ := h
  obtain ⟨u, w', rfl, rx, ry⟩ := vals2 r
  cases (show w' = Value.type C from ry)
  exact isinst_ok I rx ht.ty (kit_of X.K ht.one hC) fun tk => ⟨.bl _, H, I.tok tk, rfl, q⟩
def CDivB (i j : Int) : Prop := 0 < j ∧ j < 2 ^ 64
theorem op_fdivB : OpR X (binaryOp .FloorDiv) (rI CDivB fun i j => .int (i / j)) := opI fun i j _ _ _ _ _ hc q => by
  obtain ⟨h0, h1⟩ := hc
  refine floordiv_int (by omega) ?_ (.inl (PyProof.noPylong_of_log2 ?_))
  · rw [Int.fdiv_eq_ediv_of_nonneg _ (by omega)]
    exact q
  · have : j.natAbs.log2 < 64 := (Nat.log2_lt (by omega)).mpr (by omega)
    omega
structure KDict (K : PySem.W.Frag) (P : Params) (a : Addr) (kvs : List (Str × V)) : Prop where
  ex : ∃ es n, K.lookup a = some ⟨.type "dict", none, .dict es n, #[]⟩ ∧ Paired (fun (p : Str × V) (e : DictEntry) => (∃ t, e.key = .str p.1 t) ∧ e.hash = PyData.keyHash P p.1 ∧ RelV p.2 e.val) kvs es.toList
  lo : (a == sysModules) = false
theorem findBy_kd {kvs : List (Str × V)} {P : Params} : ∀ {es : List DictEntry}, Paired (fun (p : Str × V) (e : DictEntry) => (∃ t, e.key = .str p.1 t) ∧ e.hash = PyData.keyHash P p.1 ∧ RelV p.2 e.val) kvs es → ∀ z,
    RelO (kvs.lookup z) (findBy Value.isStrOf es.toArray z) := by
  intro es r
  induction r with
  | nil => intro z; exact True.intro
  | @cons p e kvs es h t ih =>
    intro z
    obtain ⟨⟨tk, hk⟩, hh, hv⟩ := h
    have ih := ih z
    unfold findBy at ih ⊢
    rw [List.find?_toArray] at ih ⊢
    rw [List.find?_cons, List.lookup_cons]
    have e1 : Value.isStrOf z e.key = (z == p.1) := by
      rw [hk]
      show (p.1 == z) = _
      rw [Bool.eq_iff_iff, beq_iff_eq, beq_iff_eq]
      exact ⟨fun q => q.symm, fun q => q.symm⟩
    cases hz : (z == p.1) with
    | true => rw [e1, hz]; exact hv
    | false => rw [e1, hz]; exact ih
theorem KDict.mapOf {a : Addr} {kvs : List (Str × V)} (D : KDict X.K X.w.params a kvs) {h : Heap} (k : X.K.In h) : ∃ f, h.MapOf (strKind X.prog X.w) a f ∧ ∀ z, RelO (kvs.lookup z) (f z) := by
  obtain ⟨es, n, hl, r⟩ := D.ex
  have hk : PySem.W.KeysLit X.w.params es.toList := by
    clear hl D
    generalize es.toList = l at r
    induction r with
    | nil => exact True.intro
    | cons h t ih => obtain ⟨⟨tk, hk⟩, hh, hv⟩ := h; exact ⟨⟨_, tk, hk, hh⟩, ih⟩
  have r' : ∀ z, RelO (kvs.lookup z) (findBy Value.isStrOf es.toList.toArray z) := findBy_kd r
  exact ⟨_, PySem.W.mapOf_K (prog := X.prog) k hl hk, fun z => by simpa using r' z⟩
theorem op_in_kd {a : Addr} {kvs : List (Str × V)} (D : KDict X.K X.w.params a kvs) : OpR X (compareOp .In) (fun x y H Q => ∃ z, x = .str z ∧ y = .ref a ∧ Q (.bl (kvs.lookup z).isSome) H) := by
  intro pins s σ H x y v u Q I rx ry h
  obtain ⟨z, rfl, rfl, q⟩ := h
  obtain ⟨t, rfl⟩ := rx
  cases ry
  obtain ⟨f, hm, hf⟩ := D.mapOf I.kIn
  refine wpAny_in_of (strKind_is X.prog X.w z t) D.lo hm ⟨.bl _, H, I.tok _, rfl, ?_⟩
  have := hf z
  rw [RelO.isSome_eq this] at q
  exact q
theorem ix_kd {a : Addr} {kvs : List (Str × V)} (D : KDict X.K X.w.params a kvs) : IxR X (fun x y H Q => ∃ z v, x = .ref a ∧ y = .str z ∧ kvs.lookup z = some v ∧ Q v H) := by
  intro value slice pins s σ H x y v u Q I rx ry h hs
  obtain ⟨z, r, rfl, rfl, e, q⟩ := h
  cases rx
  obtain ⟨t, rfl⟩ := ry
  obtain ⟨f, hm, hf⟩ := D.mapOf I.kIn
  have hz := hf z
  rw [e] at hz
  cases ef : f z with
  | none => rw [ef] at hz; exact hz.elim
  | some u =>
    rw [ef] at hz
    exact tail_any hm.typeIs slot_dict_getitem.lookup (wpAny_getItem_of (strKind_is X.prog X.w z t) hm ef ⟨r, H, I.tok _, hz, q⟩) hs
structure KDictT (K : PySem.W.Frag) (P : Params) (a : Addr) (kvs : List ((Str × Str) × V)) : Prop where
  ex : ∃ es n, K.lookup a = some ⟨.type "dict", none, .dict es n, #[]⟩ ∧ Paired (fun (p : (Str × Str) × V) (e : DictEntry) => (∃ (b : Addr) (t t' : Tok) (m : Nat), e.key = .ref b ∧ K.lookup b = some ⟨.type "tuple", none, .seq #[.str p.1.1 t, .str p.1.2 t'] m, #[]⟩) ∧
    e.hash = reduceHash (Builtin.Tuple.tupleHashOf [PyData.keyHash P p.1.1, PyData.keyHash P p.1.2]) ∧ RelV p.2 e.val) kvs es.toList
  nd : (kvs.map (·.1)).Nodup
  lo : (a == sysModules) = false
end
end L2
namespace L2
open PySem PySem.Spec PyProof.Rows
structure Cal (P : Program) (w : World) (K : PySem.W.Frag) (mg : Str → Option Value) (base : Heap) (x : Str) (ps : List Str) (k : Nat) (sp : Sp) : Prop where
  ex : ∃ f fd, FnOk P w K mg base CX0 k f fd ps sp ∧ mg x = some (.ref f) ∧ PySem.W.keepIn K (.ref f) = true ∧ Binds K fd ps []
section
variable {X : Cx} {x : Str} {ps : List Str} {k : Nat} {sp : Sp} {e : Expr} {es : List Expr} {t : TA} {p pos : Pos}
theorem pe_cal (c : Cal X.prog X.w X.K X.mg X.base x ps k sp) (hr : Room k X.A) (hg : Gl X x) (ha : PA X (e :: es) t) (hn : x ≠ "__name__" := by decide) (hdb : (x == ("__debug__" : Str)) = false := by decide)
    (he : starEach (e :: es) X.env = (false, eval e X.env) :: starEach es X.env := by rfl) (hpl : (backTo pos (starEach es X.env)).any (·.1) = false := by rfl) : PE X (.Call (.Name x p) (e :: es) [] pos) (tCall sp [] E0 t) := by
  obtain ⟨f, fd, F, hm, hk, hb⟩ := c.ex
  exact pe_call F hr hg hm hk hb .nil pass0 ha hdb he hpl
end
structure TX (K : PySem.W.Frag) (mg : Str → Option Value) : Prop where
  of : ∀ {n : Str} {v : Value}, PySem.W.nsIn K mainGlobals n = some (some v) → mg n = some v
  no : ∀ {n : Str}, PySem.W.nsIn K mainGlobals n = some none → mg n = none
theorem TX.mk' {K : PySem.W.Frag} {mg : Str → Option Value} {h : Heap} (X : K.In h) (G : h.Ns mainGlobals mg) : TX K mg := ⟨fun e => PySem.W.mg_of X G e, fun e => PySem.W.mg_none_of X G e⟩
end L2
namespace L2
open PySem PySem.Spec PyProof.Rows
section
variable {X : Cx}
def rAdd4 (K : PySem.W.Frag) : R2 := fun x y H Q => (∃ i j, x = .int i ∧ y = .int j ∧ Q (.int (i + j)) H) ∨ (∃ i j, x = .str i ∧ y = .str j ∧ i.length + j.length ≤ sizeLine ∧ Q (.str (i ++ j)) H) ∨ rCat x y H Q ∨ rCatT K x y H Q
theorem opAdd : OpR X (binaryOp .Add) (rAdd4 X.K) := op_add.or (op_add_str.or (op_cat.or op_catT))
theorem opEq : OpR X (compareOp .Eq) rEq := op_eq
theorem opNe : OpR X (compareOp .NotEq) rNe := op_ne
theorem callLen : CallR X (.builtin "len") (fun xs H Q => (∃ p ys, xs = [.ref p] ∧ (SqL X.K H p ys ∨ SqT X.K H p ys) ∧ Q (.int ys.length) H) ∨ ∃ z, xs = [.str z] ∧ z.length ≤ sizeLine ∧ Q (.int z.length) H) := call_len_seq.or call_len_str
end
end L2
set_option Elab.async false
set_option linter.all false
set_option maxRecDepth 100000
set_option maxHeartbeats 4000000
namespace L2
open PySem PySem.Spec PyProof.Rows
def wholeIn (x : V) (g : Int) : Bool := match x with
  | .int i => decide (-g ≤ i) && decide (i ≤ g)
  | _ => false
def tupOf (H : Hp) (x : V) : Option (List V) := match x with
  | .ref a => (match H a with | some (.tup xs) => some xs | _ => none)
  | _ => none
theorem TagOf.same {H H' : Hp} {x : V} {T : String} (t : TagOf H x T) (e : Same H H') : TagOf H' x T := by
  cases x with
  | ref a =>
    rcases t with ⟨⟨xs, h⟩, z⟩ | ⟨⟨xs, h⟩, z⟩ | ⟨⟨xs, h⟩, z⟩
    · exact .inl ⟨⟨xs, e a _ h⟩, z⟩
    · exact .inr (.inl ⟨⟨xs, e a _ h⟩, z⟩)
    · exact .inr (.inr ⟨⟨xs, e a _ h⟩, z⟩)
  | _ => exact t
theorem TagOf.str {H : Hp} {x : V} (t : TagOf H x "str") : ∃ z, x = .str z := by
  cases x with
  | ref a => rcases t with ⟨_, z⟩ | ⟨_, z⟩ | ⟨_, z⟩ <;> exact absurd z (by decide)
  | non => exact absurd (show "str" = "NoneType" from t) (by decide)
  | bl b => exact absurd (show "str" = "bool" from t) (by decide)
  | int i => exact absurd (show "str" = "int" from t) (by decide)
  | str z => exact ⟨z, rfl⟩
  | _ => exact t.elim
theorem instB_eq {H : Hp} {x : V} {T : String} (t : TagOf H x T) {C : String} (h : C ≠ "int") : instB T C = decide (T = C) := by
  unfold instB
  have : (C == "int") = false := by simpa using h
  rw [this, Bool.and_false, Bool.or_false, Bool.beq_eq_decide_eq]
def Flat (H : Hp) (x : V) : Prop := ∀ xs, tupOf H x = some xs → xs.length ≤ 1000 ∧ ∀ y ∈ xs, ∃ T, TagOf H y T
theorem free_none {names : List (Str × NameKind)} {Q : Str × NameKind → Prop} (h : (names.all fun y => y.2 != NameKind.free) = true) : ∀ y ∈ names, y.2 = NameKind.free → Q y := fun y hy e => by
  have := List.all_eq_true.mp h y hy
  rw [e] at this
  exact absurd this (by decide)
theorem Same.upd {H : Hp} {p : Addr} {o : HO} (h : H p = none) : Same H (upd H p o) := fun b u e => by
  rw [upd_ne (ne_of_none e h)]
  exact e
theorem Same.seqT {K : PySem.W.Frag} {H H' : Hp} {a : Addr} {xs : List V} (e : Same H H') (h : SqT K H a xs) : SqT K H' a xs := by
  rcases h with (h | ⟨o, h⟩) | h
  · exact .inl (.inl (e _ _ h))
  · exact .inl (.inr ⟨o, e _ _ h⟩)
  · exact .inr h
end L2
set_option Elab.async false
set_option linter.all false
set_option maxRecDepth 100000
set_option maxHeartbeats 4000000
namespace L2
open PySem PySem.Spec PyProof.Rows
open Builtin.Str (occurrences partsBetween strKind)
section
variable {X : Cx}
def rSplit : V → List V → Hp → VK → Prop := fun x vs H Q => ∃ z y, x = .str z ∧ vs = [.str y] ∧ (y.length == 0) = false ∧ z.length ≤ sizeLine ∧ (partsBetween z (occurrences z y 0 z.length (z.length + 1)) y.length).length ≤ sizeLine ∧
  ∀ p, H p = none → Q (.ref p) (upd H p (.lst ((Txt.split z y).map V.str)))
def rUpper : V → List V → Hp → VK → Prop := fun x vs H Q => ∃ z, x = .str z ∧ vs = [] ∧ z.length ≤ 5592405 ∧ ((Txt.upper z).length ≤ 3 * z.length → Q (.str (Txt.upper z)) H)
theorem isPart_of {vl : Value} {lo : Option Int} (p : IsPart vl lo) : ∃ l : Option (Int × Tok), vl = partValue l ∧ l.map (·.1) = lo := by
  cases p with
  | none => exact ⟨none, rfl, rfl⟩
  | int i t => exact ⟨some (i, t), rfl, rfl⟩
end
end L2
set_option Elab.async false
set_option linter.all false
set_option maxRecDepth 100000
set_option maxHeartbeats 4000000
namespace L2
open PySem PySem.Spec PyProof.Rows
section
variable {X : Cx}
def rSlS : V → Option Int → Option Int → Hp → VK → Prop := fun x lo hi H Q => ∃ z, x = .str z ∧ z.length ≤ sizeLine ∧ Q (.str (Txt.slice z lo hi)) H
theorem sl_str : SlR X rSlS := by
  intro pins s σ H x v vl vu lo hi sl Q I rx hs pl pu h
  obtain ⟨z, rfl, hz, q⟩ := h
  obtain ⟨t, rfl⟩ := rx
  obtain ⟨l, rfl, el⟩ := isPart_of pl
  obtain ⟨u, rfl, eu⟩ := isPart_of pu
  subst el eu
  refine ⟨"str", _, F.slot_str_getitem.lookup, typeIs_str _ _ _, wpAny_getItem_str_slice (l := l) (u := u) (st := none) hs rfl
    (post_val_or_str ⟨Nat.le_trans (Txt.slice_le z _ _) hz, fun t' k => ⟨.str (Txt.slice z _ _), H, I.tok k, ⟨t', rfl⟩, q⟩⟩)⟩
theorem slSeq : SlR X (fun x lo hi H Q => rSlL X.K x lo hi H Q ∨ rSlT X.K x lo hi H Q ∨ rSlS x lo hi H Q) := sl_list.or (sl_tup.or sl_str)
theorem call_intT : CallR X (.type "int") (fun xs H Q => ∃ z n, xs = [.str z] ∧ PySem.intText? z = some n ∧ z.length ≤ 640 ∧ Q (.int n) H) := by
  intro pins s σ H xs us Q I r h
  obtain ⟨z, n, rfl, hn, hl, q⟩ := h
  obtain ⟨u, rfl, t, rfl⟩ := vals1 r
  exact PySem.W.KIN.call_text hn hl ⟨.int n, H, I.tok _, ⟨_, rfl⟩, q⟩
theorem call_int : CallR X (.type "int") (fun xs H Q => ((∃ i, xs = [.int i] ∧ Q (.int i) H) ∨ ∃ k, xs = [.bl k] ∧ Q (.int (if k then 1 else 0)) H) ∨ ∃ z n, xs = [.str z] ∧ PySem.intText? z = some n ∧ z.length ≤ 640 ∧ Q (.int n) H) := call_int1.or call_intT
end
def Itr3 (lo c : Int) (n : Nat) : It := ⟨fun i _ => i < n, fun i H x H' => H' = H ∧ x = .int (lo + i * c), fun i _ => n ≤ i⟩
section
variable {X : Cx} {tg : Expr}
def iRng3 (ta : TA) : TI := fun σ H R => ta σ H fun vs H1 => ∃ i j c : Int, vs = [.int i, .int j, .int c] ∧ c ≠ 0 ∧ Builtin.divisionGoesByPylong (j - i) c = false ∧ Builtin.Range.small i j c = true ∧ 0 ≤ Builtin.Range.rangeSize i j c ∧ R (Itr3 i c (Builtin.Range.rangeSize i j c).toNat) H1
end
end L2
set_option Elab.async false
set_option linter.all false
set_option maxRecDepth 100000
set_option maxHeartbeats 4000000
namespace L2
open PySem PySem.Spec PyProof.Rows
def RowAt (H : Hp) (r : Addr) : Prop := ∃ a b c : Int, H r = some (.lst [.int a, .int b, .int c]) ∧ 0 ≤ c ∧ c < 536870909
def Kept (r : Addr) (H H' : Hp) : Prop := ∀ b o, b ≠ r → H b = some o → H' b = some o
theorem Kept.refl {r : Addr} {H : Hp} : Kept r H H := fun _ _ _ h => h
theorem Kept.trans {r : Addr} {H H1 H2 : Hp} (a : Kept r H H1) (b : Kept r H1 H2) : Kept r H H2 := fun c o n h => b c o n (a c o n h)
theorem Same.kept {r : Addr} {H H' : Hp} (s : Same H H') : Kept r H H' := fun b o _ h => s b o h
theorem Kept.set {r : Addr} {H : Hp} {o : HO} : Kept r H (upd H r o) := fun b u n h => by rw [upd_ne n]; exact h
structure Rw (r : Addr) (H H' : Hp) : Prop where
  k : Kept r H H'
  r : RowAt H' r
def Off (r : Addr) (H : Hp) (x : V) : Prop := ∃ T, TagOf H x T ∧ x ≠ .ref r
def Good (r : Addr) (H : Hp) (x : V) : Prop := Off r H x ∧ ∀ xs, tupOf H x = some xs → xs.length ≤ 1000 ∧ ∀ y ∈ xs, Off r H y
def GE (r : Addr) (te : TE) (σ : St) (H0 : Hp) : Prop := ∀ H, Same H0 H → ∀ Q : VK, (∀ x H', Same H H' → Good r H' x → Q x H') → te σ H Q
def GA (r : Addr) (n : Nat) (ta : TA) (σ : St) (H0 : Hp) : Prop := ∀ H, Same H0 H → ∀ Q : List V → Hp → Prop, (∀ xs H', Same H H' → xs.length = n → (∀ y ∈ xs, Good r H' y) → Q xs H') → ta σ H Q
section
variable {r : Addr} {σ : St} {H0 : Hp} {te : TE} {ta : TA} {n : Nat}
end
theorem atI_of {α : Type} {xs : List α} {t : Int} (h0 : 0 ≤ t) (h1 : t < xs.length) : ∃ v, atI xs t = some v ∧ v ∈ xs := by
  have hl : t.toNat < xs.length := by omega
  refine ⟨xs[t.toNat], ?_, List.getElem_mem hl⟩
  have := atI_nat (xs := xs) (j := t.toNat) (v := xs[t.toNat]) (by simp [hl])
  rw [Int.toNat_of_nonneg h0] at this
  exact this
end L2
set_option Elab.async false
set_option linter.all false
set_option maxRecDepth 100000
set_option maxHeartbeats 4000000
namespace L2
open PySem PySem.Spec PyProof.Rows
section
variable {r : Addr} {σ : St} {H0 : Hp} {K : PySem.W.Frag}
theorem g_name {i : Nat} {v : V} {σ : St} {H : Hp} {Q : St → Hp → Prop} (h : Q (σ.set i (some v)) H) : gName i v σ H Q := h
theorem t_nx {nx ct bk : St → Hp → Prop} {rt : VK} {σ : St} {H : Hp} (h : nx σ H) : Ends.nx { nx := nx, rt := rt, bk := bk, ct := ct } σ H := h
end
end L2
set_option Elab.async false
set_option linter.all false
set_option maxRecDepth 100000
set_option maxHeartbeats 4000000
namespace L2
open PySem
section
variable {prog : Program} {w : World} {A : Around} {E : Value → Shared → Prop} {s : Shared}
structure ZApart (z T U i j a b : Addr) : Prop where
  dis : [z, T, U, i, j].Nodup
  fa : a ∉ [z, T, U, i, j]
  fb : b ∉ [z, T, U, i, j]
structure ZAt (h : Heap) (z T U i j a b : Addr) (n : Nat) (f : Value) : Prop where
  z : IsZip h z T U f
  t : IsPair h T (.ref i) (.ref j)
  u : ∃ p q, IsPair h U p q
  i : h.IsTupleIter i a n
  j : h.IsTupleIter j b n
def zObs (n a b : Addr) : List Obj := [{ cls := .type "tuple_iterator", data := .fields #[.ref a, .int 0 0] }, { cls := .type "tuple_iterator", data := .fields #[.ref b, .int 0 0] }, { cls := .type "tuple", data := .seq #[.ref n, .ref (n + 1)] },
  { cls := .type "tuple", data := .seq #[.none, .none] }, { cls := .type "zip", data := .fields #[.none, .bool false, .bool false, .ref (n + 2), .ref (n + 3)] }]
def zHeap (h : Heap) (a b : Addr) : Heap := (zObs h.objs.size a b).foldl Heap.push h
end
end L2
set_option Elab.async false
set_option linter.all false
set_option maxRecDepth 100000
set_option maxHeartbeats 4000000
namespace L2
open PySem PySem.Spec PyProof.Rows
inductive Dt where
  | non | bl (b : Bool) | int (i : Int) | str (z : Str) | tup (ds : List Dt)
mutual
def IsDt (K : PySem.W.Frag) (H : Hp) : Dt → V → Prop
  | .non, v => v = .non
  | .bl b, v => v = .bl b
  | .int i, v => v = .int i
  | .str z, v => v = .str z
  | .tup ds, v => ∃ a xs, v = .ref a ∧ SqT K H a xs ∧ IsDts K H ds xs
def IsDts (K : PySem.W.Frag) (H : Hp) : List Dt → List V → Prop
  | [], xs => xs = []
  | d :: ds, xs => ∃ x r, xs = x :: r ∧ IsDt K H d x ∧ IsDts K H ds r
end
mutual
theorem IsDt.same' {K : PySem.W.Frag} {H H' : Hp} (s : Same H H') : ∀ (d : Dt) (v : V), IsDt K H d v → IsDt K H' d v
  | .non, v, h => h
  | .bl b, v, h => h
  | .int i, v, h => h
  | .str z, v, h => h
  | .tup ds, v, h => by
    obtain ⟨a, xs, rfl, e, r⟩ := h
    exact ⟨a, xs, rfl, s.seqT e, IsDts.same' s ds xs r⟩
theorem IsDts.same' {K : PySem.W.Frag} {H H' : Hp} (s : Same H H') : ∀ (d : List Dt) (v : List V), IsDts K H d v → IsDts K H' d v
  | [], xs, h => h
  | d :: ds, xs, h => by
    obtain ⟨x, r, rfl, a, b⟩ := h
    exact ⟨x, r, rfl, IsDt.same' s d x a, IsDts.same' s ds r b⟩
end
theorem IsDt.same {K : PySem.W.Frag} {H H' : Hp} {d : Dt} {v : V} (h : IsDt K H d v) (s : Same H H') : IsDt K H' d v := IsDt.same' s d v h
theorem IsDts.mk2 {K : PySem.W.Frag} {H : Hp} {d e : Dt} {x y : V} (a : IsDt K H d x) (b : IsDt K H e y) : IsDts K H [d, e] [x, y] := ⟨x, [y], rfl, a, y, [], rfl, b, rfl⟩
theorem IsDt.mkT {K : PySem.W.Frag} {H : Hp} {p : Addr} {xs : List V} {ds : List Dt} (h : H p = some (.tup xs)) (r : IsDts K H ds xs) : IsDt K H (.tup ds) (.ref p) := ⟨p, xs, rfl, SqT.of h, r⟩
mutual
def Dt.deep : Dt → Nat
  | .tup ds => Dt.deeps ds + 1
  | _ => 0
def Dt.deeps : List Dt → Nat
  | [] => 0
  | d :: ds => max d.deep (Dt.deeps ds)
def Dt.plain : Dt → Bool
  | .int _ => true
  | .str _ => true
  | .tup ds => Dt.plains ds
  | _ => false
def Dt.plains : List Dt → Bool
  | [] => true
  | d :: ds => d.plain && Dt.plains ds
end
def tagD : Dt → String
  | .non => "NoneType"
  | .bl _ => "bool"
  | .int _ => "int"
  | .str _ => "str"
  | .tup _ => "tuple"
section
variable {X : Cx}
theorem Inv.turnedL {pins : List (Addr × Obj)} {σ : St} {H : Hp} {s : Shared} {h' : Heap} {t' : Nat} {fp : List Addr} (I : Inv X pins σ H s) (k : ∀ b o, b ∉ fp → s.heap.get? b = some o → h'.get? b = some o) (hf : ∀ b ∈ fp, FpOk X pins H b) :
    Inv X pins σ H { s with heap := h', toks := t' } := by
  have nit : ∀ b u, H b = some u → b ∉ fp := fun b u e z => by
    have := (hf b z).1
    rw [this] at e
    cases e
  refine I.step (g' := s.gens) (d' := s.drawn) (ch := fp) (fun b hb => ⟨(hf b hb).2.2.2.1, (hf b hb).2.1, (hf b hb).2.2.2.2.1, (hf b hb).2.2.2.2.2⟩) (fun b o _ _ hc e _ => k b o hc e) (fun b o _ _ hc e _ => ⟨o.slots, k b o hc e⟩) (fun _ _ _ _ n => n)
    (fun b o hc e => ⟨o, k b o hc e⟩) (fun _ _ e => e) (fun _ _ _ e => e) (fun b ps e => ⟨#[], by rw [e]; simp⟩) (fun m hm => ?_) (fun b u e => ?_) I.bare
  · obtain ⟨o, es, ep, ho, r⟩ := hm
    exact ⟨o, es, ep, k _ o (fun z => (hf _ z).2.1 rfl) ho, r⟩
  · refine (I.hok b u e).stay (fun c v hc q => k c v ?_ q) (fun _ q => q) fun _ _ q => q
    rcases hc with z | z
    · rw [z]; exact nit b u e
    · exact nit c _ z
theorem Inv.turnedLaid {pins : List (Addr × Obj)} {σ : St} {H : Hp} {s : Shared} {h' : Heap} {t' : Nat} {fp : List Addr} {a : Addr} {o : HO} (I : Inv X pins σ H s) (k : ∀ b o, b ∉ fp → s.heap.get? b = some o → h'.get? b = some o) (hf : ∀ b ∈ fp, FpOk X pins H b)
    (hp : s.heap.objs.size ≤ a) (new : ObjOk X.prog X.w (upd H a o) h' a o) : Inv X pins σ (upd H a o) { s with heap := h', toks := t' } := by
  have hn : H a = none := I.hok.fresh hp
  have nit : ∀ b u, H b = some u → b ∉ fp := fun b u e z => by
    have := (hf b z).1
    rw [this] at e
    cases e
  have old : ∀ b u, H b = some u → upd H a o b = some u := fun b u e => by rw [upd_ne (ne_of_none e hn)]; exact e
  refine I.step (g' := s.gens) (d' := s.drawn) (ch := fp) (fun b hb => ⟨(hf b hb).2.2.2.1, (hf b hb).2.1, (hf b hb).2.2.2.2.1, (hf b hb).2.2.2.2.2⟩) (fun b o _ _ hc e _ => k b o hc e) (fun b o _ _ hc e _ => ⟨o.slots, k b o hc e⟩)
    (fun b u _ e n => by rw [upd_ne (fun z => by subst z; exact absurd (Heap.lt_size e) (Nat.not_lt.mpr hp))]; exact n)
    (fun b o hc e => ⟨o, k b o hc e⟩) (fun _ _ e => old _ _ e) (fun _ _ _ e => old _ _ e) (fun b ps e => ⟨#[], by rw [old _ _ e]; simp⟩) (fun m hm => ?_) (fun b u e => ?_) I.bare
  · obtain ⟨o, es, ep, ho, r⟩ := hm
    exact ⟨o, es, ep, k _ o (fun z => (hf _ z).2.1 rfl) ho, r⟩
  · by_cases hb : b = a
    · subst hb
      rw [upd_same] at e
      cases e
      exact new
    · rw [upd_ne hb] at e
      refine (I.hok b u e).stay (fun c v hc q => k c v ?_ q) (fun c q => old _ _ q) fun c xs q => old _ _ q
      rcases hc with z | z
      · rw [z]; exact nit b u e
      · exact nit c _ z
end
def Itz (K : PySem.W.Frag) (a b : Addr) : It :=
  ⟨fun i H => ∃ xs ys x y, SqT K H a xs ∧ SqT K H b ys ∧ xs[i]? = some x ∧ ys[i]? = some y,
   fun i H v H' => ∃ p, H p = none ∧ v = .ref p ∧ ∀ xs ys, SqT K H a xs → SqT K H b ys → ∃ x y, xs[i]? = some x ∧ ys[i]? = some y ∧ H' = upd H p (.tup [x, y]),
   fun i H => ∃ xs ys, SqT K H a xs ∧ SqT K H b ys ∧ (xs.length ≤ i ∨ ys.length ≤ i)⟩
section
variable {X : Cx}
def iZip (K : PySem.W.Frag) (ta : TA) : TI := fun σ H R => ta σ H fun vs H1 => ∃ a b xs ys, vs = [.ref a, .ref b] ∧ SqT K H1 a xs ∧ SqT K H1 b ys ∧ R (Itz K a b) H1
def eqVs (xs ys : List V) : Bool := ((List.range (min xs.length ys.length)).all fun j => match xs[j]?, ys[j]? with | some x, some y => eqV x y | _, _ => false) && xs.length == ys.length
def rEqT (K : PySem.W.Frag) : R2 := fun x y H Q => ∃ a b xs ys, x = .ref a ∧ y = .ref b ∧ SqT K H a xs ∧ SqT K H b ys ∧ xs.all flatV = true ∧ ys.all flatV = true ∧ Q (.bl (eqVs xs ys)) H
end
end L2
set_option Elab.async false
set_option linter.all false
set_option maxRecDepth 100000
set_option maxHeartbeats 4000000
namespace L2
open PySem PySem.Spec PyProof.Rows
section
variable {prog : Program} {w : World} {A : Around} {E : Value → Shared → Prop} {s : Shared}
end
section
variable {X : Cx} {pos p2 : Pos}
def gSlice (to : TE) (tl th : TO) : TG := fun v σ H Q => to σ H fun o H1 => tl σ H1 fun lo H2 => th σ H2 fun hi H3 => ∃ (l b : Addr) (xs ys : List V) (a c : Nat), o = .ref l ∧ v = .ref b ∧ H3 l = some (.lst xs) ∧ H3 b = some (.lst ys) ∧ l ≠ b ∧
  sliceBounds lo hi none xs.length = ((a : Int), (c : Int), 1) ∧ a ≤ c ∧ c ≤ xs.length ∧ xs.length + ys.length ≤ sizeLine ∧ Q σ (upd H3 l (.lst (xs.take a ++ ys ++ xs.drop c)))
end
section
variable {X : Cx}
theorem op_catT0 : OpR X (binaryOp .Add) (fun x y H Q => ∃ a b ys, x = .ref a ∧ y = .ref b ∧ SqT X.K H a [] ∧ SqT X.K H b ys ∧ Q (.ref b) H) := by
  intro pins s σ H x y v u Q I rx ry h
  obtain ⟨a, b, ys, rfl, rfl, ha, hb, q⟩ := h
  cases rx
  cases ry
  obtain ⟨ia, ra, pa, _⟩ := I.tuple ha
  obtain ⟨ib, rb, pb, _⟩ := I.tuple hb
  cases ra
  obtain ⟨⟨c1, d1, t1, l1⟩, g1, h1, n1, k1⟩ := id pa
  obtain ⟨⟨c2, d2, t2, l2⟩, g2, h2, n2, k2⟩ := id pb
  simp only at h1 k1 h2 k2
  subst h1 k1 h2 k2
  exact concat_meets ⟨_, g1, rfl⟩ ⟨_, g2, rfl⟩ noFill_tuple_add seq_tuple_add PySem.F.slot_tuple_add PySem.F.entry_tuple_add (PySem.F.args_tuple_add_2 _ _) (tuple_addW0 a b ([] : List Value).toArray ib.toArray n1 n2 d1 d2 l1 l2 (by simp)) ⟨g1, g2, ⟨.ref b, H, I, rfl, q⟩⟩
def rCatS (K : PySem.W.Frag) : R2 := fun x y H Q => ∃ a b xs ys, x = .ref a ∧ y = .ref b ∧ SqT K H a xs ∧ SqT K H b ys ∧ ys ≠ [] ∧ xs.length + ys.length ≤ sizeLine ∧ ∀ p H', Same H H' → SqT K H' p (xs ++ ys) → Q (.ref p) H'
theorem op_catS : OpR X (binaryOp .Add) (rCatS X.K) := by
  intro pins s σ H x y v u Q I rx ry h
  obtain ⟨a, b, xs, ys, rfl, rfl, ha, hb, hn, hz, q⟩ := h
  cases xs with
  | nil => exact op_catT0 pins s σ H _ _ v u Q I rx ry ⟨a, b, ys, rfl, rfl, ha, hb, q b H (Same.refl H) hb⟩
  | cons x xs => exact op_catT pins s σ H _ _ v u Q I rx ry ⟨a, b, x :: xs, ys, rfl, rfl, ha, hb, by simp, hz, fun z => absurd z hn, fun _ p hp => q p _ (Same.upd hp) (SqT.of upd_same)⟩
theorem pe_append {o e : Expr} {es : List Expr} {to : TE} {t : TA} {apos cpos : Pos} (ho : PE X o to) (ha : PA X (e :: es) t)
    (hbase : attributeBase o "append" X.env (eval o X.env) = eval o X.env := by rfl)
    (hfew : ((backTo cpos (starEach (e :: es) X.env)).all (fun x => !x.1) && (backToKw cpos (keywordEach [] X.env)).all (fun x => x.1.isSome)
      && decide ((e :: es).length + ([] : List Keyword).length + (if ([] : List Keyword).isEmpty then 0 else 1) < 30)) = true := by rfl)
    (hline : (apos.endLine == cpos.line) = true := by rfl) (hs : starEach (e :: es) X.env = (false, eval e X.env) :: starEach es X.env := by rfl) (hplain : (backTo cpos (starEach es X.env)).any (·.1) = false := by rfl) :
    PE X (.Call (.Attribute o "append" apos) (e :: es) [] cpos) (tBM X.K "list" rAppend to t) := pe_bm PySem.F.plainAttrs_list PySem.F.slot_list_append PySem.F.type_list_append mt_append ho ha hbase hfew hline hs hplain
end
def KeptL (L : List Addr) (H H' : Hp) : Prop := ∀ b o, b ∉ L → H b = some o → H' b = some o
theorem KeptL.refl {L : List Addr} {H : Hp} : KeptL L H H := fun _ _ _ h => h
theorem KeptL.trans {L : List Addr} {H H1 H2 : Hp} (a : KeptL L H H1) (b : KeptL L H1 H2) : KeptL L H H2 := fun c o n h => b c o n (a c o n h)
theorem Same.keptL {L : List Addr} {H H' : Hp} (s : Same H H') : KeptL L H H' := fun b o _ h => s b o h
theorem KeptL.set {L : List Addr} {H : Hp} {l : Addr} {o : HO} (h : l ∈ L) : KeptL L H (upd H l o) := fun b u n e => by
  rw [upd_ne (fun z => n (by rw [z]; exact h))]
  exact e
mutual
theorem IsDt.mono' {K : PySem.W.Frag} {H H' : Hp} (s : ∀ a xs, SqT K H a xs → SqT K H' a xs) : ∀ (d : Dt) (v : V), IsDt K H d v → IsDt K H' d v
  | .non, v, h => h
  | .bl b, v, h => h
  | .int i, v, h => h
  | .str z, v, h => h
  | .tup ds, v, h => by
    obtain ⟨a, xs, rfl, e, r⟩ := h
    exact ⟨a, xs, rfl, s _ _ e, IsDts.mono' s ds xs r⟩
theorem IsDts.mono' {K : PySem.W.Frag} {H H' : Hp} (s : ∀ a xs, SqT K H a xs → SqT K H' a xs) : ∀ (d : List Dt) (v : List V), IsDts K H d v → IsDts K H' d v
  | [], xs, h => h
  | d :: ds, xs, h => by
    obtain ⟨x, r, rfl, a, b⟩ := h
    exact ⟨x, r, rfl, IsDt.mono' s d x a, IsDts.mono' s ds r b⟩
end
end L2
set_option Elab.async false
set_option linter.all false
set_option maxRecDepth 100000
set_option maxHeartbeats 4000000
namespace L2
open PySem PySem.Spec PyProof.Rows
section
variable {prog : Program} {w : World} {A : Around} {E : Value → Shared → Prop} {s : Shared}
theorem sortedBy {v : Value} {Q : Value → Shared → Prop} {ns : List Int} (hn : ns.length < 64)
    (hc : ∀ R : List Value → Shared → Prop, (∀ h' tk vs, (∀ b o, s.heap.get? b = some o → h'.get? b = some o) → IntsAre vs ns → R vs { s with heap := h', toks := tk }) → wpAny (model prog w) A.in1 (collect v) R E s)
    (h : ∀ (h1 h' : Heap) (tk : Nat) (out : Array Value) (ns' : List Int) (e : Nat), (∀ b o, s.heap.get? b = some o → h1.get? b = some o) → (∀ b o, h1.get? b = some o → h'.get? b = some o) → h'.get? h1.objs.size = some { cls := .type "list", data := .seq out e } → IntsAre out.toList ns' → ns'.Perm ns → ns'.Pairwise (· ≤ ·) → Q (.ref h1.objs.size) { s with heap := h', toks := tk }) :
    wpAny (model prog w) A (call (.builtin "sorted") [v]) Q E s := by
  refine Calls.call_function_entry kind_sorted plain_sorted entry_sorted (args_sorted1 _) ?_
  unfold Builtin.«sorted»
  refine wpAny_bind (m := checkCount "sorted" 1 1 _) (wpAny_pure (wpAny_bind (hc _ fun h1 tk vs k1 i1 => ?_)))
  have hl : vs.length < 64 := by rw [i1.length]; exact hn
  refine wpAny_bind (wpAny_newList ?_ (Nat.le_trans (Nat.le_of_lt hl) (by decide)))
  have oL : (h1.push (seqObj "list" vs.toArray 0)).get? h1.objs.size = some (seqObj "list" vs.toArray 0) := Heap.get?_push_size _ rfl
  refine wpAny_bind (wpAny_holding (wpAny_call_entry slot_list_sort ⟨_, oL, rfl⟩ entry_list_sort (list_sort_tree oL i1 hl fun out ns' a1 a2 a3 => ⟨_, rfl, ?_⟩) (args_list_sort _)))
  obtain ⟨e, he⟩ := sortedHeap_at (out := out) oL
  refine wpAny_pure ⟨_, rfl, h h1 _ tk out ns' e k1 (fun b o g1 => ?_) he a1 a2 a3⟩
  have lt := Heap.lt_size g1
  refine (sortedHeap_old (Nat.ne_of_lt lt) ?_).trans (Heap.get?_push_of_some _ g1)
  rw [size_push']
  exact Nat.lt_succ_of_lt lt
end
theorem ints_by : ∀ {ns : List Int} {us : List Value}, us.length = ns.length → (∀ (j : Nat) (u : Value), us[j]? = some u → ∃ (i : Int) (t : Tok), ns[j]? = some i ∧ u = Value.int i t) → IntsAre us ns
  | [], us, hl, _ => by
    have : us = [] := List.eq_nil_of_length_eq_zero hl
    subst this
    exact .nil
  | n :: ns, us, hl, h => by
    cases us with
    | nil => cases hl
    | cons u us =>
      obtain ⟨i, t, e, rfl⟩ := h 0 u rfl
      have e : n = i := Option.some.inj e
      subst e
      exact .cons n t (ints_by (Nat.succ.inj hl) fun j v e => h (j + 1) v (by simpa using e))
section
variable {X : Cx}
def srt (ns : List Int) (H : Hp) (Q : VK) : Prop := ∀ (l : Addr) (ns' : List Int), H l = none → ns'.Perm ns → ns'.Pairwise (· ≤ ·) → Q (.ref l) (upd H l (.lst (ns'.map V.int)))
theorem srt_fin {pins : List (Addr × Obj)} {σ : St} {H : Hp} {s : Shared} {Q : VK} {ns : List Int} {h1 h' : Heap} {tk : Nat} {out : Array Value} {ns' : List Int} {e : Nat} (I : Inv X pins σ H s) (hn : ns.length < 64) (q : srt ns H Q)
    (k1 : ∀ b o, s.heap.get? b = some o → h1.get? b = some o) (k2 : ∀ b o, h1.get? b = some o → h'.get? b = some o) (g : h'.get? h1.objs.size = some { cls := .type "list", data := .seq out e }) (i : IntsAre out.toList ns') (p : ns'.Perm ns) (r : ns'.Pairwise (· ≤ ·)) :
    EP X pins σ Q (.ref h1.objs.size) { s with heap := h', toks := tk } := by
  have I1 : Inv X pins σ H { s with heap := h1 } := I.kept (t' := s.toks) k1
  refine ⟨.ref h1.objs.size, _, I1.laid (t' := tk) (o := .lst (ns'.map V.int)) k2 (Nat.le_refl _) ⟨?_, out.toList, e, vals_ints i, by simpa using g⟩, rfl, q _ ns' (I1.hok.fresh (Nat.le_refl _)) p r⟩
  rw [List.length_map, p.length_eq]
  exact Nat.le_trans (Nat.le_of_lt hn) (by decide)
theorem call_sortedD (hcalm : X.calm = true) : CallR X (.builtin "sorted") (fun xs H Q => ∃ a kvs ns, xs = [.ref a] ∧ H a = some (.dK kvs) ∧ kvs.map (·.1) = ns.map Sum.inl ∧ ns.length < 64 ∧ srt ns H Q) := by
  intro pins s σ H xs us Q I r h
  obtain ⟨a, kvs, ns, rfl, ha, hk, hn, q⟩ := h
  obtain ⟨u, rfl, rx⟩ := vals1 r
  cases rx
  obtain ⟨hz, lo, vs, rv, dd⟩ := dk_of I.hok ha
  obtain ⟨ep, da⟩ := dd.dictAt
  refine sortedBy hn (fun R hR => ?_) fun h1 h' tk out ns' e k1 k2 g i p r => srt_fin I hn q k1 k2 g i p r
  have keys : vs.map (·.1) = ns.map Sum.inl := rv.keys.symm.trans hk
  have lv : vs.length = ns.length := by
    have := congrArg List.length keys
    simpa using this
  refine PySem.W.kdu_collect (PySem.W.kdl_dict lo) (show X.A.in1.handled = none from I.ok.hd hcalm) da (by rw [← rv.length]; exact hz) fun h' tk acc k it => hR h' tk _ k (ints_by (by rw [Array.length_toList, it.1, lv]) fun j u e => ?_)
  obtain ⟨y, x, e1, e2⟩ := it.2 j u (by rw [← Array.getElem?_toList]; exact e)
  have e3 : (vs.map (·.1))[j]? = some y := by rw [List.getElem?_map, e1]; rfl
  rw [keys, List.getElem?_map] at e3
  cases en : ns[j]? with
  | none => rw [en] at e3; cases e3
  | some i =>
    rw [en] at e3
    have e3 : Sum.inl i = y := Option.some.inj e3
    subst e3
    rcases keyIs_shape (show keyIs (.inl i) u = true from e2) with ⟨i', t, z, rfl⟩ | ⟨_, _, z, _⟩
    · cases z
      exact ⟨i, t, rfl, rfl⟩
    · cases z
end
end L2
set_option Elab.async false
set_option linter.all false
set_option maxRecDepth 100000
set_option maxHeartbeats 4000000
namespace L2
open PySem PySem.Spec PyProof.Rows
theorem iteP {c A B : Prop} [Decidable c] (hc : c) (h : A) : if c then A else B := by rw [if_pos hc]; exact h
theorem iteN {c A B : Prop} [Decidable c] (hc : ¬ c) (h : B) : if c then A else B := by rw [if_neg hc]; exact h
theorem flat_ints (ns : List Int) : (ns.map V.int).all flatV = true := by
  rw [List.all_eq_true]
  intro x hx
  obtain ⟨i, _, rfl⟩ := List.mem_map.mp hx
  rfl
theorem filter_ints (p : Int → Bool) (f : V → Bool) (h : ∀ i, f (.int i) = p i) : ∀ ns : List Int, (ns.map V.int).filter f = (ns.filter p).map V.int
  | [] => rfl
  | n :: ns => by
    rw [List.map_cons, List.filter_cons, List.filter_cons, h n]
    cases hp : p n with
    | true => rw [if_pos rfl, if_pos rfl, List.map_cons, filter_ints p f h ns]
    | false => rw [if_neg Bool.false_ne_true, if_neg Bool.false_ne_true, filter_ints p f h ns]
theorem free_one {names : List (Str × NameKind)} {n : Str} {Q : Str × NameKind → Prop} (h : (names.all fun y => y.2 != NameKind.free || y.1 == n) = true) (q : ∀ k, Q (n, k)) : ∀ y ∈ names, y.2 = NameKind.free → Q y := fun y hy e => by
  have := List.all_eq_true.mp h y hy
  rw [e] at this
  have : (y.1 == n) = true := by simpa using this
  obtain ⟨a, b⟩ := y
  rw [beq_iff_eq] at this
  have : a = n := this
  subst this
  exact q b
theorem tcomp_tup_if {K : PySem.W.Frag} {a : Addr} {xs : List V} {tl te : TE} {tc : TT} {fr : List (Nat × Str)} {σ : St} {H H1 : Hp} {Q : VK} (p : V → Bool) (f : V → V) (htl : ∀ R : VK, R (.ref a) H1 → tl σ H R) (hq : SqT K H1 a xs) (hl : xs.length ≤ sizeLine)
    (ht : ∀ v ∈ xs, ∀ H', Same H1 H' → ∀ R : Bool → Hp → Prop, (∀ H2, Same H' H2 → R (p v) H2) → tc (cSt σ fr (some v)) H' R)
    (he : ∀ v ∈ xs, ∀ H', Same H1 H' → ∀ R : VK, (∀ H2, Same H' H2 → R (f v) H2) → te (cSt σ fr (some v)) H' R) (hQ : ∀ l H', Same H1 H' → H' l = none → Q (.ref l) (upd H' l (.lst ((xs.filter p).map f)))) :
    tComp (iTup K tl) fr tc te σ H Q := by
  refine htl _ ⟨a, rfl, ⟨xs, hq⟩, fun i m ys H' => m = xs.length - i ∧ i ≤ xs.length ∧ ys = ((xs.take i).filter p).map f ∧ Same H1 H', ⟨xs.length, by simp, Nat.zero_le _, by simp, Same.refl H1⟩, ?_⟩
  rintro i m ys H' ⟨rfl, hi, rfl, sm⟩
  have q := sm.seqT hq
  have hl2 : (((xs.take i).filter p).map f).length ≤ sizeLine := by
    rw [List.length_map]
    have := List.length_filter_le p (xs.take i)
    rw [List.length_take] at this
    omega
  by_cases hlt : i < xs.length
  · refine .inr ⟨⟨xs, xs[i], q, by simp [hlt]⟩, hl2, fun v H2 y => ?_⟩
    obtain ⟨e, y⟩ := y
    subst e
    have hv : xs[i] = v := by have := y xs q; simpa [hlt] using this
    have hm : v ∈ xs := hv ▸ List.getElem_mem hlt
    refine ht v hm _ sm _ fun H3 s3 => ?_
    have et : xs.take (i + 1) = xs.take i ++ [v] := by rw [List.take_succ_eq_append_getElem hlt, hv]
    cases hp : p v with
    | true =>
      refine iteT (he v hm _ (sm.trans s3) _ fun H4 s4 => ⟨xs.length - (i + 1), by omega, rfl, hlt, ?_, (sm.trans s3).trans s4⟩)
      rw [et, List.filter_append, List.map_append, List.filter_cons, hp]
      rfl
    | false =>
      refine iteF ⟨xs.length - (i + 1), by omega, rfl, hlt, ?_, sm.trans s3⟩
      rw [et, List.filter_append, List.map_append, List.filter_cons, hp]
      simp
  · have e : i = xs.length := by omega
    subst e
    refine .inl ⟨⟨xs, q, Nat.le_refl _⟩, hl2, fun l hl => ?_⟩
    rw [List.take_length]
    exact hQ l H' sm hl
section
variable {X : Cx}
def rEqNil (K : PySem.W.Frag) : R2 := fun x y H Q => ∃ a b xs, x = .ref a ∧ y = .ref b ∧ SqL K H a xs ∧ SqL K H b [] ∧ Q (.bl (decide (xs = []))) H
end
end L2
set_option Elab.async false
set_option linter.all false
set_option maxRecDepth 100000
set_option maxHeartbeats 4000000
namespace L2
open PySem PySem.Spec PyProof.Rows
theorem ObjOk.there {P : Program} {w : World} {H : Hp} {h : Heap} {a : Addr} {o : HO} (x : ObjOk P w H h a o) : ∃ ob, h.get? a = some ob := by
  cases o with
  | lst xs => obtain ⟨_, _, _, _, e⟩ := x; exact ⟨_, e⟩
  | tup xs => obtain ⟨_, _, _, ⟨o, e, _⟩, _⟩ := x; exact ⟨_, e⟩
  | dK kvs => obtain ⟨_, _, _, _, o, _, _, e, _⟩ := x; exact ⟨_, e⟩
  | dT kvs => obtain ⟨_, _, _, _, o, _, _, e, _⟩ := x; exact ⟨_, e⟩
  | set S n => obtain ⟨o, _, _, _, e, _⟩ := x; exact ⟨_, e⟩
  | ins C dx fs => obtain ⟨_, _, _, e, _⟩ := x; exact ⟨_, e⟩
  | own y => exact x
  | xd fs => obtain ⟨_, ⟨o, _, _, e, _⟩, _⟩ := x; exact ⟨_, e⟩
  | rng lo hi => obtain ⟨_, _, _, e⟩ := x; exact ⟨_, e⟩
  | frz ob u => obtain ⟨e, _⟩ := x; exact ⟨_, e⟩
  | tbl ps => exact ⟨_, show h.get? a = some _ from x⟩
  | met f y => exact ⟨_, show h.get? a = some _ from x⟩
  | ext φ => exact x.2.1
def CXE (P : Program) (w : World) (base : Heap) : CXT := fun outer H s E e s' => ∃ (ea : Addr) (cls a0 : Value) (B : Heap) (H' : Hp), e = .ref ea ∧ s'.os = s.os ∧ AllBare s'.gens ∧ Un (frs outer) [] H H' s.heap s'.heap ∧ HOk P w H' s'.heap ∧ H' ea = none ∧
  base.StaysIn B ∧ Heap.FlyingW B outer ea cls a0 s'.heap ∧ (∀ b o, s'.heap.get? b = some o → b ∉ frs outer → ((∃ u, H' b = some u) ∨ ∃ u, s.heap.get? b = some u) → B.get? b = some o) ∧ E cls none H'
theorem passN {X : Cx} : Passes (CXE X.prog X.w X.base) X E0 := fun _ _ _ _ _ _ _ ⟨_, _, _, _, _, _, _, _, _, _, _, _, _, _, z⟩ => z.elim
theorem frs_cons {env : Env} {l : List Env} {L : Addr} (h : env.frame = some L) : frs (env :: l) = L :: frs l := by
  unfold frs
  rw [List.filterMap_cons, h]
section
variable {P : Program} {w : World} {K : PySem.W.Frag} {mg : Str → Option Value} {base : Heap} {N : List Str} {qual : Str} {scope : Scope} {f : Addr} {cd : Value} {A : Around} {outer : List Env} {s : Shared} {H : Hp} {E : XK}
theorem passE : Passes (CXE P w base) (cxOf (CXE P w base) P w K mg base N qual scope f cd A outer s H E) E := by
  intro pins σ H1 s1 e s' I c
  obtain ⟨ea, cls, a0, B, H', rfl, os, bare, un, hok, hn, hB, fl, keep, hE⟩ := c
  have hfs : frs (envOfC qual scope s.heap.objs.size f cd :: outer) = s.heap.objs.size :: frs outer := frs_cons rfl
  have kp : ∀ b o, s'.heap.get? b = some o → b ∉ s.heap.objs.size :: frs outer → ((∃ u, H' b = some u) ∨ ∃ u, s1.heap.get? b = some u) → B.get? b = some o := fun b o e hb hi => keep b o e (by rw [show frs (cxOf (CXE P w base) P w K mg base N qual scope f cd A outer s H E).stack = _ from hfs]; exact hb) hi
  have un' : Un (s.heap.objs.size :: frs outer) [] H1 H' s1.heap s'.heap := hfs ▸ un
  have ub : Un (frs outer) [] H H1 s.heap s1.heap := I.base
  have oldL : ∀ b o, s.heap.get? b = some o → b ≠ s.heap.objs.size := fun b o e => Nat.ne_of_lt (Heap.lt_size e)
  have frn : ∀ b ∈ s.heap.objs.size :: frs outer, H' b = none := fun b hb => by
    rcases List.mem_cons.mp hb with rfl | hb
    · obtain ⟨m, hn, _⟩ := I.loc
      obtain ⟨o, _, _, ho, _⟩ := hn
      exact un'.free _ o ho I.free (by simp)
    · obtain ⟨_, o, ho, _⟩ := I.ok.funs.mem hb
      obtain ⟨o', ho'⟩ := ub.there b o ho (by simp)
      exact un'.free b o' ho' (ub.free b o ho (I.ok.frf b hb) (by simp)) (by simp)
  show wpAny (model P w) _ («leaving» _ _) _ _ s'
  refine wpAny_leaves_onW I.ok.frames rfl fl fun h'' fl2 up => ?_
  have stay : ∀ b o, s'.heap.get? b = some o → b ∉ s.heap.objs.size :: frs outer → ((∃ u, H' b = some u) ∨ ∃ u, s1.heap.get? b = some u) → h''.get? b = some o := fun b o e hb hi => fl2.1 b o (kp b o e hb hi)
  have slot : ∀ b o, b ∈ frs outer → s'.heap.get? b = some o → ∃ sl, h''.get? b = some { o with slots := sl } := fun b o hb e => by
    obtain ⟨_, o', ho', hd⟩ := fl.2.2.1.mem (show b ∈ (envOfC qual scope s.heap.objs.size f cd :: outer).filterMap (·.frame) from by
      show b ∈ frs (envOfC qual scope s.heap.objs.size f cd :: outer)
      rw [hfs]; exact List.mem_cons_of_mem _ hb)
    rw [e] at ho'
    cases ho'
    exact up b o e hd
  have there : ∀ b o, s.heap.get? b = some o → ∃ o1 o2, s1.heap.get? b = some o1 ∧ s'.heap.get? b = some o2 := fun b o e => by
    obtain ⟨o1, e1⟩ := ub.there b o e (by simp)
    obtain ⟨o2, e2⟩ := un'.there b o1 e1 (by simp)
    exact ⟨o1, o2, e1, e2⟩
  refine ⟨ea, cls, a0, B, H', rfl, os.trans I.os, bare, ⟨fun b o e n hb _ => ?_, fun b o e n hb _ => ?_, fun b o e n _ => ?_, fun b o e _ => ?_, fun b xs e => un'.tups b xs (ub.tups b xs e), fun b o u e => un'.frzs b o u (ub.frzs b o u e), fun b ps e => ?_⟩, fun b u e => ?_, hn, hB, fl2, fun b o e hb hi => ?_, hE⟩
  · have e1 := ub.keep b o e n hb (by simp)
    have hb' : b ∉ s.heap.objs.size :: frs outer := fun z => (List.mem_cons.mp z).elim (oldL b o e) hb
    exact stay b o (un'.keep b o e1 (ub.free b o e n (by simp)) hb' (by simp)) hb' (.inr ⟨o, e1⟩)
  · obtain ⟨sl, e1⟩ := ub.slot b o e n hb (by simp)
    obtain ⟨sl2, e2⟩ := un'.slot b _ e1 (ub.free b o e n (by simp)) (List.mem_cons_of_mem _ hb) (by simp)
    obtain ⟨sl3, e3⟩ := slot b _ hb e2
    exact ⟨sl3, e3⟩
  · obtain ⟨o1, o2, e1, e2⟩ := there b o e
    exact un'.free b o1 e1 (ub.free b o e n (by simp)) (by simp)
  · obtain ⟨o1, o2, e1, e2⟩ := there b o e
    by_cases hb : b ∈ frs outer
    · obtain ⟨sl, e3⟩ := slot b o2 hb e2
      exact ⟨_, e3⟩
    · exact ⟨o2, stay b o2 e2 (fun z => (List.mem_cons.mp z).elim (oldL b o e) hb) (.inr ⟨o1, e1⟩)⟩
  · obtain ⟨m1, e1⟩ := ub.tbls b ps e
    obtain ⟨m2, e2⟩ := un'.tbls b _ e1
    exact ⟨m1 ++ m2, by rw [e2, Array.append_assoc]⟩
  · refine (hok b u e).stay (fun c v hc q => stay c v q ?_ (.inl ?_)) (fun _ q => q) fun _ _ q => q
    · intro z
      have := frn c z
      rcases hc with rfl | hc
      · rw [e] at this; cases this
      · rw [hc] at this; cases this
    · rcases hc with rfl | hc
      · exact ⟨u, e⟩
      · exact ⟨_, hc⟩
  · have key : ∀ o', s'.heap.get? b = some o' → b ∉ s.heap.objs.size :: frs outer → ((∃ u, H' b = some u) ∨ ∃ u, s1.heap.get? b = some u) → B.get? b = some o := fun o' e' hb' hi' => by
      have g := kp b o' e' hb' hi'
      have := fl2.1 b o' g
      rw [show ({ s' with heap := h'' } : Shared).heap.get? b = h''.get? b from rfl, this] at e
      cases e
      exact g
    rcases hi with ⟨u, hu⟩ | ⟨u, hu⟩
    · obtain ⟨o', e'⟩ := (hok b u hu).there
      refine key o' e' (fun z => ?_) (.inl ⟨u, hu⟩)
      rw [frn b z] at hu
      cases hu
    · obtain ⟨o1, o2, e1, e2⟩ := there b u hu
      exact key o2 e2 (fun z => (List.mem_cons.mp z).elim (oldL b u hu) hb) (.inr ⟨o1, e1⟩)
theorem raiseE {pins : List (Addr × Obj)} {σ : St} {H1 : Hp} {s1 : Shared} {h' : Heap} {ea C : Addr} {args : List Value} (I : Inv (cxOf (CXE P w base) P w K mg base N qual scope f cd A outer s H E) pins σ H1 s1) (hx : Heap.MadeExcOf s1.heap h' ea (.ref C) args) (hE : E (.ref C) none H1) :
    (cxOf (CXE P w base) P w K mg base N qual scope f cd A outer s H E).xe (.ref ea) { s1 with heap := h' } := by
  have hfs : frs (envOfC qual scope s.heap.objs.size f cd :: outer) = s.heap.objs.size :: frs outer := frs_cons rfl
  have ub : Un (frs outer) [] H H1 s.heap s1.heap := I.base
  have oldL : ∀ b o, s.heap.get? b = some o → b ≠ s.heap.objs.size := fun b o e => Nat.ne_of_lt (Heap.lt_size e)
  have fu : s1.heap.FunFrames base (envOfC qual scope s.heap.objs.size f cd :: outer) := I.stack
  have hin : ∀ env ∈ (envOfC qual scope s.heap.objs.size f cd :: outer), ∀ a, env.frame = some a → a ∈ s.heap.objs.size :: frs outer := fun env he a ha => by
    rw [← hfs]
    exact List.mem_filterMap.mpr ⟨env, he, ha⟩
  have frn : ∀ b ∈ s.heap.objs.size :: frs outer, H1 b = none := fun b hb => by
    have := I.stkFree b (by rw [show frs (cxOf (CXE P w base) P w K mg base N qual scope f cd A outer s H E).stack = _ from hfs]; exact hb)
    exact this
  have bst : base.StaysIn (PySem.W.hideAll s1.heap (s.heap.objs.size :: frs outer)) := fun b o e => PySem.W.hideAll_get _ (I.bk b o e) fun hm => by
    have := (fu.mem (show b ∈ (envOfC qual scope s.heap.objs.size f cd :: outer).filterMap (·.frame) from (show b ∈ frs (envOfC qual scope s.heap.objs.size f cd :: outer) from by rw [hfs]; exact hm))).1
    rw [e] at this
    cases this
  show wpAny (model P w) _ («leaving» _ _) _ _ _
  refine wpAny_leaves_madeW (s := { s1 with heap := h' }) I.ok.frames rfl (fun b o q => PySem.W.of_hideAll _ q) (PySem.W.funFrames_hide fu hin) hx fun h'' t fl2 _ _ up => ?_
  have stay : ∀ b o, s1.heap.get? b = some o → b ∉ s.heap.objs.size :: frs outer → h''.get? b = some o := fun b o e hb => fl2.1 b o (PySem.W.hideAll_get _ e hb)
  have slot : ∀ b o, b ∈ frs outer → s1.heap.get? b = some o → ∃ sl, h''.get? b = some { o with slots := sl } := fun b o hb e => by
    obtain ⟨_, o', ho', hd⟩ := fu.mem (show b ∈ (envOfC qual scope s.heap.objs.size f cd :: outer).filterMap (·.frame) from by
      show b ∈ frs (envOfC qual scope s.heap.objs.size f cd :: outer)
      rw [hfs]; exact List.mem_cons_of_mem _ hb)
    rw [e] at ho'
    cases ho'
    exact up b o (hx.keeps b o e) hd
  have hen : H1 ea = none := by
    cases q : H1 ea with
    | none => rfl
    | some u =>
      obtain ⟨o, e⟩ := (I.hok ea u q).there
      rw [hx.new] at e
      cases e
  refine ⟨ea, .ref C, .ref t, _, H1, rfl, I.os, I.bare, ⟨fun b o e n hb _ => ?_, fun b o e n hb _ => ?_, fun b o e n _ => ub.free b o e n (by simp), fun b o e _ => ?_, ub.tups, ub.frzs, ub.tbls⟩, fun b u e => ?_, hen, bst, fl2, fun b o e hb hi => ?_, hE⟩
  · exact stay b o (ub.keep b o e n hb (by simp)) fun z => (List.mem_cons.mp z).elim (oldL b o e) hb
  · obtain ⟨sl, e1⟩ := ub.slot b o e n hb (by simp)
    obtain ⟨sl2, e2⟩ := slot b _ hb e1
    exact ⟨sl2, e2⟩
  · obtain ⟨o1, e1⟩ := ub.there b o e (by simp)
    by_cases hb : b ∈ frs outer
    · obtain ⟨sl, e2⟩ := slot b o1 hb e1
      exact ⟨_, e2⟩
    · exact ⟨o1, stay b o1 e1 fun z => (List.mem_cons.mp z).elim (oldL b o e) hb⟩
  · refine (I.hok b u e).stay (fun c v hc q => stay c v q fun z => ?_) (fun _ q => q) fun _ _ q => q
    have := frn c z
    rcases hc with rfl | hc
    · rw [e] at this; cases this
    · rw [hc] at this; cases this
  · have key : ∀ o', s1.heap.get? b = some o' → b ∉ s.heap.objs.size :: frs outer → (PySem.W.hideAll s1.heap (s.heap.objs.size :: frs outer)).get? b = some o := fun o' e' hb' => by
      have g := PySem.W.hideAll_get _ e' hb'
      have := fl2.1 b o' g
      rw [show ({ s1 with heap := h'' } : Shared).heap.get? b = h''.get? b from rfl, this] at e
      cases e
      exact g
    rcases hi with ⟨u, hu⟩ | ⟨u, hu⟩
    · obtain ⟨o', e'⟩ := (I.hok b u hu).there
      refine key o' e' fun z => ?_
      rw [frn b z] at hu
      cases hu
    · obtain ⟨o1, e1⟩ := ub.there b u hu (by simp)
      exact key o1 e1 fun z => (List.mem_cons.mp z).elim (oldL b u hu) hb
end
theorem own_in {K : PySem.W.Frag} {h₀ : Heap} {mg : Str → Option Value} {x : Str} {C : Addr} {bmB : List Value} {newId : String} (X : K.In h₀) (hm : mg x = some (.ref C)) (q : PySem.W.excIn K C bmB newId = true) : OwnCls x C bmB newId mg h₀ := by
  refine ⟨hm, ?_⟩
  unfold PySem.W.excIn at q
  split at q
  · rename_i dd cd sl ho
    split at q
    · rename_i C' bm k0 k1 k2 k3 n k5 hm' hs
      simp only [Bool.and_eq_true, beq_iff_eq, Bool.not_eq_true'] at q
      obtain ⟨⟨⟨⟨⟨rfl, rfl⟩, hdel⟩, ht⟩, hok⟩, hni⟩ := q
      obtain ⟨nm, bs, mro, ns, qn, hd, sn, sub, ab, col, del⟩ := cd
      obtain ⟨l⟩ := sl
      dsimp only at hm' hdel hok hni hs
      subst hm' hdel hs
      exact ⟨bm, ns, nm, qn, bs, hd, sn, sub, ab, col, dd, k0, k1, k2, k3, k5, _, X _ _ ho, .of_isNs (PySem.W.isNs_of_in X hok), PySem.W.nsMap_none_of_in X hok hni, PySem.W.tail_of_in X ht⟩
    · cases q
  · cases q
def tRaise (C : Addr) (E : XK) (t : TA) : TS := fun _ σ H => t σ H fun vs H1 => vs.length ≤ sizeLine ∧ E (.ref C) none H1
section
variable {P : Program} {w : World} {K : PySem.W.Frag} {mg : Str → Option Value} {base : Heap} {N : List Str} {qual : Str} {scope : Scope} {f : Addr} {cd : Value} {A : Around} {outer : List Env} {s : Shared} {H : Hp} {E : XK}
theorem ps_raiseE {x : Str} {C : Addr} {B newId initId : String} {bm : List Value} {e0 : Expr} {es : List Expr} {np cpos pos : Pos} {t : TA} (FB : ExcBaseFacts B newId initId bm) (hm : mg x = some (.ref C)) (hK : PySem.W.excIn K C bm newId = true)
    (hg : Gl (cxOf (CXE P w base) P w K mg base N qual scope f cd A outer s H E) x) (ha : PA (cxOf (CXE P w base) P w K mg base N qual scope f cd A outer s H E) (e0 :: es) t)
    (hdb : (x == ("__debug__" : Str)) = false := by decide)
    (he : starEach (e0 :: es) (envOfC qual scope s.heap.objs.size f cd) = (false, eval e0 (envOfC qual scope s.heap.objs.size f cd)) :: starEach es (envOfC qual scope s.heap.objs.size f cd) := by rfl)
    (hpl : (backTo cpos (starEach es (envOfC qual scope s.heap.objs.size f cd))).any (·.1) = false := by rfl) :
    PS (cxOf (CXE P w base) P w K mg base N qual scope f cd A outer s H E) (.Raise (some (.Call (.Name x np) (e0 :: es) [] cpos)) none pos) (tRaise C E t) := by
  intro pins s1 σ H1 D I h
  have O : OwnCls x C bm newId mg base := own_in I.ok.mod.kin hm hK
  obtain ⟨tl, N', nm, q, bs, hdct, sn, sub, ab, col, dd, k0, k1, k2, k3, k5, mN, hC, hN, hni, T⟩ := O.obj
  have ha' := ha cpos pins s1 σ H1 _ I h
  refine wpAny_Raise_call_subT (C := C) (nm := nm) (q := q) (N := N') (bs := bs) (bm := tl) (hdct := hdct) (sn := sn) (sub := sub) (ab := ab) (col := col) (dd := dd) (k0 := k0) (k1 := k1) (k2 := k2) (k3 := k3) (k5 := k5)
    FB (mN := mN) (T.hasType FB.hasBase) (I.ok.hd rfl) (by show (backTo cpos (starEach (e0 :: es) (envOfC qual scope s.heap.objs.size f cd))).any (·.1) = false; rw [he]; show (false || (backTo cpos (starEach es (envOfC qual scope s.heap.objs.size f cd))).any (·.1)) = false; rw [hpl]; rfl) hni (ld_glob I hg O.bound ⟨rfl, ?_⟩ hdb)
  have e1 : starEach (e0 :: es) (cxOf (CXE P w base) P w K mg base N qual scope f cd A outer s H E).env = (false, eval e0 (envOfC qual scope s.heap.objs.size f cd)) :: starEach es (envOfC qual scope s.heap.objs.size f cd) := he
  rw [e1] at ha' ⊢
  exact Calls.evalArgs_plain (wpAny_mono ha' (fun us s2 ⟨vs, H2, I2, r, hl, hE⟩ => ⟨rfl, by rw [← r.length]; exact hl, I2.bk _ _ hC, hN.keeps I2.bk, T.keeps I2.bk, fun h' ea hm => raiseE I2 hm hE⟩) fun _ _ y => y)
theorem Fun.okE {x qual : Str} {st : Stmt} {f : Addr} {fd : FuncData} {N ps : List Str} {k : Nat} {sp : Sp} (F : Fun K x qual st f fd) (S : FnScope N ps (defScope st)) (len : ∀ vs H Q E, sp vs H Q E → vs.length = ps.length)
    (hbody : ∀ (cdv : Value) (A : Around) (outer : List Env) (s : Shared) (H : Hp) (vs : List V) (Q : VK) (E : XK), Room k (A.deeper (envOfC qual (defScope st) s.heap.objs.size f cdv)) → sp vs H Q E →
      ∃ t, PSs (cxOf (CXE P w base) P w K mg base N qual (defScope st) f cdv A outer s H E) (defBody st) t ∧ t { nx := fun _ H' => Q .non H', rt := Q } (start N vs) H) : FnOk P w K mg base (CXE P w base) (k + 1) f fd ps sp := by
  obtain ⟨oc, od, kV, doc, pm, an, cdv, ct, osl, rfl, lk, hcd⟩ := F.ex
  exact fn_of lk hcd S len fun A outer s H vs Q E hr hsp => hbody cdv A outer s H vs Q E hr hsp
end
structure CalE (P : Program) (w : World) (K : PySem.W.Frag) (mg : Str → Option Value) (base : Heap) (x : Str) (ps : List Str) (k : Nat) (sp : Sp) : Prop where
  ex : ∃ f fd, FnOk P w K mg base (CXE P w base) k f fd ps sp ∧ mg x = some (.ref f) ∧ PySem.W.keepIn K (.ref f) = true ∧ Binds K fd ps []
section
variable {X : Cx} {x : Str} {ps : List Str} {k : Nat} {sp : Sp} {e : Expr} {es : List Expr} {t : TA} {p pos : Pos}
theorem pe_calN (c : CalE X.prog X.w X.K X.mg X.base x ps k sp) (hr : Room k X.A) (hg : Gl X x) (ha : PA X (e :: es) t) (hn : x ≠ "__name__" := by decide) (hdb : (x == ("__debug__" : Str)) = false := by decide)
    (he : starEach (e :: es) X.env = (false, eval e X.env) :: starEach es X.env := by rfl) (hpl : (backTo pos (starEach es X.env)).any (·.1) = false := by rfl) : PE X (.Call (.Name x p) (e :: es) [] pos) (tCall sp [] E0 t) := by
  obtain ⟨f, fd, F, hm, hk, hb⟩ := c.ex
  exact pe_call F hr hg hm hk hb .nil passN ha hdb he hpl
theorem pe_calE {E : XK} (hx : Passes (CXE X.prog X.w X.base) X E) (c : CalE X.prog X.w X.K X.mg X.base x ps k sp) (hr : Room k X.A) (hg : Gl X x) (ha : PA X (e :: es) t) (hn : x ≠ "__name__" := by decide) (hdb : (x == ("__debug__" : Str)) = false := by decide)
    (he : starEach (e :: es) X.env = (false, eval e X.env) :: starEach es X.env := by rfl) (hpl : (backTo pos (starEach es X.env)).any (·.1) = false := by rfl) : PE X (.Call (.Name x p) (e :: es) [] pos) (tCall sp [] E t) := by
  obtain ⟨f, fd, F, hm, hk, hb⟩ := c.ex
  exact pe_call F hr hg hm hk hb .nil hx ha hdb he hpl
end
end L2
set_option Elab.async false
set_option linter.all false
set_option maxRecDepth 100000
set_option maxHeartbeats 4000000
namespace L2
open PySem PySem.Spec PyProof.Rows
def ExcO (ea : Addr) (cls : Value) : HO := .ext fun h => ∃ o, h.get? ea = some o ∧ o.cls = cls
theorem excO_ok {P : Program} {w : World} {H : Hp} {h : Heap} {ea : Addr} {cls : Value} {o : Obj} (e : h.get? ea = some o) (c : o.cls = cls) : ObjOk P w H h ea (ExcO ea cls) :=
  ⟨⟨o, e, c⟩, ⟨o, e⟩, fun _ _ ⟨o, e, c⟩ k => ⟨o, k o e, c⟩⟩
theorem Un.track {fs ex : List Addr} {H H1 : Hp} {h h1 : Heap} {a : Addr} {o : HO} (u : Un fs ex H H1 h h1) (hn : h.get? a = none) (hf : H1 a = none) : Un fs ex H (upd H1 a o) h h1 where
  keep := u.keep
  slot := u.slot
  free := fun b ob q n hx => by
    have : b ≠ a := fun z => by subst z; rw [hn] at q; cases q
    rw [upd_ne this]
    exact u.free b ob q n hx
  there := u.there
  tups := fun b xs q => by
    have q' := u.tups b xs q
    rw [upd_ne (ne_of_none q' hf)]
    exact q'
  frzs := fun b ob x q => by
    have q' := u.frzs b ob x q
    rw [upd_ne (ne_of_none q' hf)]
    exact q'
  tbls := fun b ps q => by
    obtain ⟨m, q'⟩ := u.tbls b ps q
    exact ⟨m, by rw [upd_ne (ne_of_none q' hf)]; exact q'⟩
theorem HOk.track {P : Program} {w : World} {H : Hp} {h : Heap} {a : Addr} {o : HO} (x : HOk P w H h) (hf : H a = none) (new : ObjOk P w (upd H a o) h a o) : HOk P w (upd H a o) h := fun b u e => by
  by_cases hb : b = a
  · subst hb
    rw [upd_same] at e
    cases e
    exact new
  · rw [upd_ne hb] at e
    exact (x b u e).stay (fun _ _ _ q => q) (fun c q => by rw [upd_ne (ne_of_none q hf)]; exact q) fun c xs q => by rw [upd_ne (ne_of_none q hf)]; exact q
section
variable {P : Program} {w : World} {base B : Heap} {outer : List Env} {H H' : Hp} {h h1 h6 : Heap} {ea : Addr} {cls a0 : Value}
theorem fly_un (fu : h.FunFrames base outer) (frf : ∀ b ∈ frs outer, H b = none) (un : Un (frs outer) [] H H' h h1) (hok : HOk P w H' h1) (fl : Heap.FlyingW B outer ea cls a0 h1)
    (keep : ∀ b o, h1.get? b = some o → b ∉ frs outer → ((∃ u, H' b = some u) ∨ ∃ u, h.get? b = some u) → B.get? b = some o)
    (fl6 : Heap.FlyingW B outer ea cls a0 h6) (up : h1.UpToSlots h6) : Un (frs outer) [] H H' h h6 ∧ HOk P w H' h6 ∧ h.get? ea = none := by
  have stay : ∀ b o, h1.get? b = some o → b ∉ frs outer → ((∃ u, H' b = some u) ∨ ∃ u, h.get? b = some u) → h6.get? b = some o := fun b o e hb hi => fl6.1 b o (keep b o e hb hi)
  have slot : ∀ b o, b ∈ frs outer → h1.get? b = some o → ∃ sl, h6.get? b = some { o with slots := sl } := fun b o hb e => by
    obtain ⟨_, o', ho', hd⟩ := fl.2.2.1.mem hb
    rw [e] at ho'
    cases ho'
    exact up b o e hd
  have frn : ∀ b ∈ frs outer, H' b = none := fun b hb => by
    obtain ⟨_, o, ho, _⟩ := fu.mem hb
    exact un.free b o ho (frf b hb) (by simp)
  refine ⟨⟨fun b o e n hb _ => ?_, fun b o e n hb _ => ?_, un.free, fun b o e _ => ?_, un.tups, un.frzs, un.tbls⟩, fun b u e => ?_, ?_⟩
  · exact stay b o (un.keep b o e n hb (by simp)) hb (.inr ⟨o, e⟩)
  · obtain ⟨sl, e1⟩ := un.slot b o e n hb (by simp)
    obtain ⟨sl2, e2⟩ := slot b _ hb e1
    exact ⟨sl2, e2⟩
  · obtain ⟨o1, e1⟩ := un.there b o e (by simp)
    by_cases hb : b ∈ frs outer
    · obtain ⟨sl, e2⟩ := slot b o1 hb e1
      exact ⟨_, e2⟩
    · exact ⟨o1, stay b o1 e1 hb (.inr ⟨o, e⟩)⟩
  · refine (hok b u e).stay (fun c v hc q => stay c v q (fun z => ?_) (.inl ?_)) (fun _ q => q) fun _ _ q => q
    · have := frn c z
      rcases hc with rfl | hc
      · rw [e] at this; cases this
      · rw [hc] at this; cases this
    · rcases hc with rfl | hc
      · exact ⟨u, e⟩
      · exact ⟨_, hc⟩
  · cases q : h.get? ea with
    | none => rfl
    | some o =>
      by_cases hb : ea ∈ frs outer
      · obtain ⟨_, o', ho', hd⟩ := fl6.2.2.1.mem hb
        obtain ⟨_, _, _, oe, vs, _, _, _, he, _, hdd, _⟩ := fl6
        rw [he] at ho'
        cases ho'
        exact absurd hdd (hd vs)
      · obtain ⟨o1, e1⟩ := un.there ea o q (by simp)
        have := keep ea o1 e1 hb (.inr ⟨o, q⟩)
        rw [fl6.2.1] at this
        cases this
end
def Cx.tryX (X : Cx) (pn : List (Addr × Obj)) (E : St → XK) : Cx :=
  ({ X with pn := pn } : Cx).wish fun e s' => ∃ pins σ1 H1 s1, Inv { X with pn := pn } pins σ1 H1 s1 ∧ CXE X.prog X.w X.base X.stack H1 s1 (E σ1) e s'
abbrev Cx.exc (X : Cx) (ea : Addr) : Cx := { X with A := X.A.mark (some (.ref ea)), calm := false, xe := fun _ _ => False }
section
variable {X : Cx} {pins pn : List (Addr × Obj)} {σ : St} {H : Hp} {s : Shared} {ea : Addr} {E : St → XK}
theorem Inv.toPn (I : Inv X pins σ H s) : Inv { X with pn := X.pn ++ pins } [] σ H s :=
  ⟨⟨I.ok.mod, I.ok.kind, I.ok.glob, I.ok.blt, I.ok.above, I.ok.inj, I.ok.has, I.ok.cab, I.ok.hd, I.ok.frames, I.ok.stk, I.ok.exf, I.ok.bs, I.ok.bsz, I.ok.noex, I.ok.exfs, I.ok.funs, I.ok.frf⟩, I.os, I.bare, I.base, I.loc, I.cell, I.free, I.freeC, fun p hp => I.pin p (by simpa using hp), I.hok, I.len⟩
theorem Inv.ofPn {pins' : List (Addr × Obj)} (I : Inv { X with pn := X.pn ++ pins } pins' σ H s) : Inv X pins σ H s :=
  ⟨⟨I.ok.mod, I.ok.kind, I.ok.glob, I.ok.blt, I.ok.above, I.ok.inj, I.ok.has, I.ok.cab, I.ok.hd, I.ok.frames, I.ok.stk, I.ok.exf, I.ok.bs, I.ok.bsz, I.ok.noex, I.ok.exfs, I.ok.funs, I.ok.frf⟩, I.os, I.bare, I.base, I.loc, I.cell, I.free, I.freeC, fun p hp => I.pin p (List.mem_append_left _ hp), I.hok, I.len⟩
theorem Inv.toExc (I : Inv X pins σ H s) (ea : Addr) : Inv (X.exc ea) pins σ H s :=
  ⟨⟨I.ok.mod, I.ok.kind, I.ok.glob, I.ok.blt, I.ok.above, I.ok.inj, I.ok.has, I.ok.cab, fun z => (nomatch z), I.ok.frames, I.ok.stk, I.ok.exf, I.ok.bs, I.ok.bsz, I.ok.noex, I.ok.exfs, I.ok.funs, I.ok.frf⟩, I.os, I.bare, I.base, I.loc, I.cell, I.free, I.freeC, I.pin, I.hok, I.len⟩
theorem Inv.ofExc (I : Inv (X.exc ea) pins σ H s) (hd : X.calm = true → X.A.handled = none) : Inv X pins σ H s :=
  ⟨⟨I.ok.mod, I.ok.kind, I.ok.glob, I.ok.blt, I.ok.above, I.ok.inj, I.ok.has, I.ok.cab, hd, I.ok.frames, I.ok.stk, I.ok.exf, I.ok.bs, I.ok.bsz, I.ok.noex, I.ok.exfs, I.ok.funs, I.ok.frf⟩, I.os, I.bare, I.base, I.loc, I.cell, I.free, I.freeC, I.pin, I.hok, I.len⟩
theorem passX : ∀ (pins : List (Addr × Obj)) (σ : St) (H : Hp) (s : Shared) (e : Value) (s' : Shared), Inv (X.tryX pn E) pins σ H s → CXE (X.tryX pn E).prog (X.tryX pn E).w (X.tryX pn E).base (X.tryX pn E).stack H s (E σ) e s' → (X.tryX pn E).xe e s' :=
  fun pins σ H s e s' I c => ⟨pins, σ, H, s, I.unwish, c⟩
theorem SP.ofTry {D : Ends} {f : Flow} {s' : Shared} (h : SP (X.tryX (X.pn ++ pins) E) [] D f s') : SP X pins D f s' := by
  cases f with
  | next => obtain ⟨σ', H', I, q⟩ := h; exact ⟨σ', H', I.unwish.ofPn, q⟩
  | brk => obtain ⟨σ', H', I, q⟩ := h; exact ⟨σ', H', I.unwish.ofPn, q⟩
  | cont => obtain ⟨σ', H', I, q⟩ := h; exact ⟨σ', H', I.unwish.ofPn, q⟩
  | ret u => obtain ⟨v, σ', H', I, r, q⟩ := h; exact ⟨v, σ', H', I.unwish.ofPn, r, q⟩
theorem SP.ofExc {D : Ends} {f : Flow} {s' : Shared} (h : SP (X.exc ea) pins D f s') (hd : X.calm = true → X.A.handled = none) : SP X pins D f s' := by
  cases f with
  | next => obtain ⟨σ', H', I, q⟩ := h; exact ⟨σ', H', I.ofExc hd, q⟩
  | brk => obtain ⟨σ', H', I, q⟩ := h; exact ⟨σ', H', I.ofExc hd, q⟩
  | cont => obtain ⟨σ', H', I, q⟩ := h; exact ⟨σ', H', I.ofExc hd, q⟩
  | ret u => obtain ⟨v, σ', H', I, r, q⟩ := h; exact ⟨v, σ', H', I.ofExc hd, r, q⟩
theorem unbind_ok {M : Model} {A : Around} {E : Value → Shared → Prop} {i : Nat} {x : Str} {pos : Pos} {Q : Unit → Shared → Prop} (I : Inv X pins σ H s) (hN : X.N.Nodup) (hi : X.N[i]? = some x) (hk : X.env.kindOf x = some .local)
    (h : ∀ s', Inv X pins (σ.set i none) H s' → Q () s') : wpAny M A (do bindName X.env x .none; unbindBehindTheSuite X.env x pos) Q E s := by
  obtain ⟨m, hn, hl⟩ := id I.loc
  have hcls : (X.env.scope.kind == .class || (X.env.scope.kind == .module && X.env.locals != X.env.globals)) = false := by rw [I.ok.kind]; rfl
  have hiσ : i < σ.length := by rw [I.len]; exact (List.getElem?_eq_some_iff.mp hi).1
  have cne := I.cne
  refine wpAny_nameGoes_keeps hk hn hcls fun h' v hn' hs => ?_
  refine h _ ⟨I.ok, I.os, I.bare, ⟨fun b o e n hb hx => ?_, fun b o e n hb hx => ?_, I.base.free, fun b o e hx => ?_, I.base.tups, I.base.frzs, I.base.tbls⟩, ⟨_, hn', fun j y v' e1 e2 e3 => ?_⟩, fun y c e => ?_, I.free, I.freeC, fun p hp => ?_, fun b ob e => ?_, by simpa using I.len⟩
  · exact (hs.2 b (Nat.ne_of_lt (Nat.lt_of_lt_of_le (Heap.lt_size e) I.ok.above))).trans (I.base.keep b o e n hb hx)
  · obtain ⟨sl, e1⟩ := I.base.slot b o e n hb hx
    exact ⟨sl, (hs.2 b (Nat.ne_of_lt (Nat.lt_of_lt_of_le (Heap.lt_size e) I.ok.above))).trans e1⟩
  · obtain ⟨o', e1⟩ := I.base.there b o e hx
    exact ⟨o', (hs.2 b (Nat.ne_of_lt (Nat.lt_of_lt_of_le (Heap.lt_size e) I.ok.above))).trans e1⟩
  · by_cases hj : j = i
    · subst hj
      rw [List.getElem?_set_self hiσ] at e2
      cases e2
    · rw [List.getElem?_set_ne (Ne.symm hj)] at e2
      obtain ⟨u', r', q⟩ := hl j y v' e1 e2 e3
      refine ⟨u', r', ?_⟩
      rcases q with ⟨k, e⟩ | ⟨k, c, e, z⟩
      · refine .inl ⟨k, ?_⟩
        have : y ≠ x := fun e => hj (nodup_ix hN e1 (e ▸ hi))
        simp [this, e]
      · exact .inr ⟨k, c, e, z.sameBut hs (cne y c e)⟩
  · obtain ⟨w', z⟩ := I.cell y c e
    exact ⟨w', z.sameBut hs (cne y c e)⟩
  · obtain ⟨e, n, ne, nf, d⟩ := I.pin p hp
    exact ⟨(hs.2 p.1 ne).trans e, n, ne, nf, d⟩
  · refine (I.hok b ob e).stay (fun c w' hc q => (hs.2 c ?_).trans q) (fun _ q => q) fun _ _ q => q
    rintro rfl
    have hfree := I.free
    rcases hc with rfl | hc
    · rw [hfree] at e; cases e
    · rw [hfree] at hc; cases hc
end
def tTry (K : PySem.W.Frag) (c : Value) (tb : (St → XK) → TS) (th : TS) : TS := fun D σ H => tb (fun σ1 cls _ H1 => PySem.W.exmOne K cls c = some true ∧ th D σ1 H1) D σ H
def tTryAs (K : PySem.W.Frag) (c : Value) (i : Nat) (tb : (St → XK) → TS) (th : TS) : TS := fun D σ H => tb (fun σ1 cls _ H1 => PySem.W.exmOne K cls c = some true ∧
  ∀ ea, H1 ea = none → th { nx := fun σ2 H2 => D.nx (σ2.set i none) H2, rt := D.rt, bk := fun σ2 H2 => D.bk (σ2.set i none) H2, ct := fun σ2 H2 => D.ct (σ2.set i none) H2 } (σ1.set i (some (.ref ea))) (upd H1 ea (ExcO ea cls))) D σ H
section
variable {X : Cx} {x n : Str} {c : Value} {i : Nat} {body suite : List Stmt} {b0 : Stmt} {np hpos pos : Pos} {tb : (St → XK) → TS} {th : TS}
theorem ps_tryAs (hst : X.stack = X.env :: X.outer) (hf : X.env.frame = some X.env.locals) (hg : Gl X x) (hm : X.mg x = some c) (hN : X.N.Nodup) (hi : X.N[i]? = some n) (hk : X.env.scope.names.lookup n = some .local) (hb : ∀ pn E, PSs (X.tryX pn E) body (tb E))
    (hh : ∀ ea, PSs (X.exc ea) (b0 :: suite) th) (hdb : (x == ("__debug__" : Str)) = false := by decide) :
    PS X (.Try body [.ExceptHandler (some (.Name x np)) (some n) (b0 :: suite) hpos] [] [] pos) (tTryAs X.K c i tb th) := by
  intro pins s σ H D I h
  refine wpAny_Try_except (wpAny_mono (hb (X.pn ++ pins) _ [] s σ H D (I.toPn.wish _) h) (fun f s1 q => ?_) fun e s1 q => ?_)
  · cases f with
    | next => exact wpAny_execs_nil (SP.ofTry q)
    | brk => exact SP.ofTry q
    | cont => exact SP.ofTry q
    | ret u => exact SP.ofTry q
  · obtain ⟨pins1, σ1, H1, s0, I1, ea, cls, a0, B, H', rfl, os, bare, un, hok, hn, hB, fl, keep, hE, hth⟩ := q
    have I2 : Inv X pins σ1 H1 s0 := I1.ofPn
    have fr : X.A.frames = some (X.env :: X.outer) := hst ▸ I2.ok.frames
    refine wpAny_looks_onW fr hf (hst ▸ fl) fun h4 held4 up4 => ?_
    refine wpAny_landsW held4 fun h5 fl5 up5 => ?_
    rw [← hst] at fl5
    obtain ⟨un5, hok5, hnew⟩ := fly_un I2.stack I2.stkFree un hok fl keep fl5 (up4.trans up5)
    have I5 : Inv X pins σ1 H' { s1 with heap := h5 } := I2.call' (ch := []) os un5 hok5 bare fun b z => absurd z (by simp)
    obtain ⟨ob, hob, hobc⟩ := fl5.there
    refine wpAny_handleBy_cons (codeAny_handlers_test (ld_glob (I5.toExc ea) hg hm ?_ hdb)) (by intro q; cases q)
    have LT : PySem.W.Looks (model X.prog X.w) h5 (typeOf (.ref ea)) cls := by subst hobc; exact (PySem.W.Looks.ld hob).andThen .now
    refine (PySem.W.exm_one (I5.toExc ea).kIn LT hE).here ?_
    refine codeAny_handlers_suite_as ?_
    refine lands_againW fl5 fun h6 fl6 up6 => ?_
    obtain ⟨un6, hok6, _⟩ := fly_un I2.stack I2.stkFree un hok fl keep fl6 ((up4.trans up5).trans up6)
    obtain ⟨ob6, hob6, hobc6⟩ := fl6.there
    have I6 : Inv X pins σ1 (upd H' ea (ExcO ea cls)) { s1 with heap := h6 } := I2.call' (ch := []) os (un6.track hnew hn) (hok6.track hn (excO_ok hob6 hobc6)) bare fun b z => absurd z (by simp)
    refine store_ok (X := X.exc ea) (v := .ref ea) (I6.toExc ea) hN hi (.inl hk) rfl (fun s7 I7 => ?_) (.inr hk)
    refine wpAny_mono (hh ea pins _ _ _ _ I7 (hth ea hn)) (fun f s8 q => ?_) fun _ _ z => False.elim z
    have q' := SP.ofExc q I2.ok.hd
    cases f with
    | next => obtain ⟨σ', H', J, z⟩ := q'; exact unbind_ok J hN hi hk fun s9 J9 => ⟨_, H', J9, z⟩
    | brk => obtain ⟨σ', H', J, z⟩ := q'; exact unbind_ok J hN hi hk fun s9 J9 => ⟨_, H', J9, z⟩
    | cont => obtain ⟨σ', H', J, z⟩ := q'; exact unbind_ok J hN hi hk fun s9 J9 => ⟨_, H', J9, z⟩
    | ret u => obtain ⟨v, σ', H', J, r, z⟩ := q'; exact unbind_ok J hN hi hk fun s9 J9 => ⟨v, _, H', J9, r, z⟩
end
section
variable {X : Cx} {x : Str} {ps : List Str} {k : Nat} {sp : Sp} {e : Expr} {es : List Expr} {t : TA} {p pos : Pos} {E : St → XK}
theorem pe_calX (hx : ∀ (pins : List (Addr × Obj)) (σ : St) (H : Hp) (s : Shared) (e : Value) (s' : Shared), Inv X pins σ H s → CXE X.prog X.w X.base X.stack H s (E σ) e s' → X.xe e s') (c : CalE X.prog X.w X.K X.mg X.base x ps k sp) (hr : Room k X.A) (hg : Gl X x) (ha : PA X (e :: es) t)
    (hdb : (x == ("__debug__" : Str)) = false := by decide) (he : starEach (e :: es) X.env = (false, eval e X.env) :: starEach es X.env := by rfl) (hpl : (backTo pos (starEach es X.env)).any (·.1) = false := by rfl) :
    PE X (.Call (.Name x p) (e :: es) [] pos) (fun σ H Q => t σ H fun vs H1 => sp vs H1 Q (E σ)) := by
  intro pins s σ H Q I h
  obtain ⟨f, fd, F, hm, hk, hb⟩ := c.ex
  refine wpAny_Call_Name_kw (ld_glob I hg hm ?_ hdb)
  refine PySem.W.callWith_K (h₀ := X.base) I.ok.mod.kin hk (thn (ha pos pins s σ H _ I h) fun us s1 ⟨vs, H1, I1, r, q⟩ => ⟨I1.kIn, ?_⟩) he hpl
  have hl : us.length = ps.length := by rw [← r.length]; exact F.len _ _ _ _ q
  have hb1 := hb s1 us I1.kIn (by rw [List.append_nil]; exact hl)
  rw [List.append_nil] at hb1
  refine wpAny_call (codeAny_mono (F.run X.A X.stack s1 H1 ⟨us, []⟩ us vs Q (E σ) hr I1.env0 hb1 r q) fun r s' hq => ?_)
  cases r with
  | error e => exact hx pins σ H1 s1 e s' I1 hq
  | ok fl =>
    cases fl with
    | ret u => exact I1.after hq
    | next => exact False.elim hq
    | brk => exact False.elim hq
    | cont => exact False.elim hq
end
end L2
set_option Elab.async false
set_option linter.all false
set_option maxRecDepth 100000
set_option maxHeartbeats 400000
namespace L2
open PySem PySem.Spec PyProof.Rows PySem.W PySem.Calls PySem.Builtin PySem.Builtin.ObjectAttr PySem.Builtin.Getset_descriptor
section
variable {prog : Program} {w : World} {A : Around} {E : Value → Shared → Prop} {h : Heap} {g : Array GenState} {d : Drawn} {t : Nat} {os : OsState} {K : PySem.W.Frag} {a C : Addr} {o : Obj}
theorem exc_cget {R : Result → Shared → Prop} {tp : Value} (X : K.In h) (L0 : Looks (model prog w) h (typeOf (.ref a)) (.ref C)) (hm : mroIn K C (.type "object") = some true) (hq : R (.ok (.ret (.ref C))) ⟨h, g, d, t, os⟩) :
    codeAny (model prog w) A (.call (.builtin "getset_descriptor.__get__") ⟨[.builtin "object.__class__", .ref a, tp], []⟩) R ⟨h, g, d, t, os⟩ := by
  have L1 := looks_mroIn (M := model prog w) X hm
  refine codeAny_call_builtin KF.slot_gs.plain KF.entry_gs (KF.slot_gs.check _ _ _ _ _ _ _ _ KF.type_class (KF.args_gs _ _ _) ?_)
  unfold Builtin.«getset_descriptor.__get__» descrGet
  rw [dga_obj]
  refine wpAny_bind (wpAny_pure ?_)
  unfold descrGetter descrCheckInstance descrNameAndClass isInstance
  simp only [KF.owner_class]
  repeat lk
  refine ⟨Code.quiet_builtin _ (by decide +kernel), codeAny_builtin KF.entry_class ?_⟩
  unfold Builtin.«object.__class__» shownTypeOf
  repeat lk
  exact hq
theorem exc_entry {tk : Tok} {Q : Fin → Shared → Prop} (X : K.In h) (hx : h.get? a = some o) (hc : o.cls = .ref C) (ha : findIn K (.ref C) "__class__" = some (some (.builtin "object.__class__"))) (hm : mroIn K C (.type "object") = some true)
    (hq : Q (.done (.ret (.ref C))) ⟨h, g, d, t, os⟩) : wpAny (model prog w) A (Builtin.«object.__getattribute__» ⟨[.ref a, .str "__class__" tk], []⟩) Q E ⟨h, g, d, t, os⟩ := by
  have LT : Looks (model prog w) h (typeOf (.ref a)) (.ref C) := hc ▸ (Looks.ld hx).andThen .now
  have L1 := looks_findIn (M := model prog w) X ha
  have hT5 : (⟨h, g, d, t, os⟩ : Shared).TypeIs (.builtin "object.__class__") "getset_descriptor" := KF.type_class
  have f5 := KF.type_class
  have f6 := F.slot_gs_get.lookup
  have f7 := F.slot_gs_set.lookup
  repeat (any_goals (first | assumption | (with_reducible refine wpAny_loadPart_at hx ?_; rw [hc]) | with_reducible refine L1.at ?_ | wp_step))
  refine exc_cget X LT hm ?_
  repeat (any_goals (first | assumption | wp_step))
end
end L2
namespace L2
open PySem PySem.Spec PyProof.Rows PySem.W
section
variable {prog : Program} {w : World} {A : Around} {E : Value → Shared → Prop} {h : Heap} {g : Array GenState} {d : Drawn} {t : Nat} {os : OsState} {K : PySem.W.Frag} {a C : Addr} {o : Obj}
theorem exc_check {M : Model} {nameV : Value} {Q : Unit → Shared → Prop} (X : K.In h) (hx : h.get? a = some o) (hc : o.cls = .ref C) (hm : mroIn K C (.type "BaseException") = some true) (hq : Q () ⟨h, g, d, t, os⟩) :
    wpAny M A (checkBuiltinCall "BaseException.__getattribute__" ⟨[.ref a, nameV], []⟩) Q E ⟨h, g, d, t, os⟩ := by
  have hk : builtinKind "BaseException.__getattribute__" = some .slot := by decide +kernel
  have hsplit : splitId "BaseException.__getattribute__" = some ("BaseException", "__getattribute__") := by decide +kernel
  have L1 := looks_mroIn (M := M) X hm
  have ha := F.args_bexc_ga (.ref a) nameV
  simp only [checkBuiltinCall, hk, hsplit]
  refine wpAny_bind ?_
  · unfold isInstance
    repeat (first | (with_reducible refine wpAny_loadPart_at hx ?_; rw [hc]) | with_reducible refine L1.at ?_ | wp_step)
    exact hq
theorem exc_call {tk : Tok} {R : Result → Shared → Prop} (X : K.In h) (hx : h.get? a = some o) (hc : o.cls = .ref C) (ha : findIn K (.ref C) "__class__" = some (some (.builtin "object.__class__"))) (hm : mroIn K C (.type "object") = some true)
    (hb : mroIn K C (.type "BaseException") = some true) (hq : R (.ok (.ret (.ref C))) ⟨h, g, d, t, os⟩) : codeAny (model prog w) A (.call (.builtin "BaseException.__getattribute__") ⟨[.ref a, .str "__class__" tk], []⟩) R ⟨h, g, d, t, os⟩ :=
  codeAny_call_builtin F.excAttr_ValueError.ga.plain F.entry_bexc_ga (exc_check X hx hc hb (exc_entry X hx hc ha hm hq))
theorem exc_by {tk : Tok} {fill expr : Bool} {Q : Value → Shared → Prop} (X : K.In h) (hx : h.get? a = some o) (hc : o.cls = .ref C) (ha : findIn K (.ref C) "__class__" = some (some (.builtin "object.__class__"))) (hm : mroIn K C (.type "object") = some true)
    (hb : mroIn K C (.type "BaseException") = some true) (hg : findIn K (.ref C) "__getattribute__" = some (some (.builtin "BaseException.__getattribute__"))) (hn : findIn K (.ref C) "__getattr__" = some none) (hq : Q (.ref C) ⟨h, g, d, t, os⟩) :
    wpAny (model prog w) A (getAttrBy (.ref a) (.str "__class__" tk) fill expr) Q E ⟨h, g, d, t, os⟩ := by
  have f3 := F.excAttr_ValueError.ga.bind (.ref a)
  have hx0 : (expr && onTheHeap (Value.builtin "BaseException.__getattribute__")) = false := by cases expr <;> rfl
  have hx2 : (Value.builtin "BaseException.__getattribute__" == Value.builtin "object.__getattribute__") = false := by decide +kernel
  have hx1 : (onTheHeap (Value.ref C) && Value.builtin "BaseException.__getattribute__" == Value.builtin "object.__getattribute__") = false := by rw [hx2]; rfl
  have L1 := looks_findIn (M := model prog w) X hg
  have L2' := looks_findIn (M := model prog w) X hn
  repeat (any_goals (first | assumption | (with_reducible refine wpAny_loadPart_at hx ?_; rw [hc]) | with_reducible refine L1.at ?_ | with_reducible refine L2'.at ?_ | wp_step))
  refine exc_call X hx hc ha hm hb ?_
  repeat (any_goals (first | assumption | wp_step))
theorem exc_cls {Q : Option Value → Shared → Prop} (X : K.In h) (hx : h.get? a = some o) (hc : o.cls = .ref C) (ha : findIn K (.ref C) "__class__" = some (some (.builtin "object.__class__"))) (hm : mroIn K C (.type "object") = some true)
    (hb : mroIn K C (.type "BaseException") = some true) (hg : findIn K (.ref C) "__getattribute__" = some (some (.builtin "BaseException.__getattribute__"))) (hn : findIn K (.ref C) "__getattr__" = some none) (hq : Q (some (.ref C)) ⟨h, g, d, t + 1, os⟩) :
    wpAny (model prog w) A (getAttr? (.ref a) "__class__") Q E ⟨h, g, d, t, os⟩ := by
  unfold getAttr? getAttrBy?
  refine wpAny_bind (wpAny_mkText (wpAny_bind (wpAny_attempt (exc_by X hx hc ha hm hb hg hn (wpAny_pure hq)))))
end
end L2
namespace L2
open PySem PySem.Spec PyProof.Rows PySem.W
def excCls (K : PySem.W.Frag) (C : Addr) : Bool := (clsIn K C).isSome && (findIn K (.ref C) "__class__" == some (some (.builtin "object.__class__")) && (mroIn K C (.type "object") == some true && (mroIn K C (.type "BaseException") == some true &&
  (findIn K (.ref C) "__getattribute__" == some (some (.builtin "BaseException.__getattribute__")) && findIn K (.ref C) "__getattr__" == some none))))
theorem kitx_exc {K : PySem.W.Frag} {a C : Addr} (e : excCls K C = true) : KitX K (.ref a) (.ref C) (fun h => ∃ o, h.get? a = some o ∧ o.cls = .ref C) := by
  unfold excCls at e
  simp only [Bool.and_eq_true, beq_iff_eq] at e
  obtain ⟨e0, ha, hm, hb, hg, hn⟩ := e
  refine ⟨fun M h _ ⟨o, hx, hc⟩ => hc ▸ (Looks.ld hx).andThen .now, fun M h X _ => ?_, fun h tp dd its n sl X htp => ?_, fun {prog w A E Q s} X ⟨o, hx, hc⟩ k => ?_⟩
  · unfold clsIn at e0
    split at e0
    · rename_i c' d' cd' sl' ho
      intro A' Q' E' s' k q
      unfold isType loadHead
      exact wpAny_bind (wpAny_loadPart (k _ _ (X _ _ ho)) (wpAny_pure q))
    · cases e0
  · refine Bool.eq_false_iff.mpr fun q => ?_
    have e : C = tp := Value.ref.inj (beq_iff_eq.mp q)
    subst e
    unfold clsIn at e0
    split at e0
    · rename_i c' d' cd' sl' ho
      have z := (X _ _ ho).symm.trans htp
      cases z
    · cases e0
  · obtain ⟨h, g, d, t, os⟩ := s
    exact exc_cls X hx hc ha hm hb hg hn k
theorem refs_eq : ∀ {cs : List Addr} {its : List Value}, Vals (cs.map V.ref) its → its = cs.map Value.ref
  | [], _, .nil => rfl
  | c :: cs, _, .cons r t => by
    rw [refs_eq t]
    cases (show _ = Value.ref c from r)
    rfl
section
variable {X : Cx}
theorem call_isinstX (K : PySem.W.Frag) (eK : X.K = K := by rfl) : CallR X (.builtin "isinstance") (fun xs H Q => ∃ ea C v u b, xs = [.ref ea, v] ∧ H ea = some (ExcO ea (.ref C)) ∧ excCls K C = true ∧ RelV v u ∧ (∀ u', RelV v u' → u' = u) ∧ kitOne K (.ref C) u = some b ∧ Q (.bl b) H) := by
  subst eK
  intro pins s σ H xs us Q I r h
  obtain ⟨ea, C, v, u, b, rfl, hO, hC, hv, hu, hk, q⟩ := h
  obtain ⟨u0, u1, rfl, rx, ry⟩ := vals2 r
  cases (show u0 = Value.ref ea from rx)
  cases hu _ ry
  obtain ⟨p, _⟩ := I.hok ea _ hO
  exact kia_one (kitx_exc hC) I.kIn p hk (fun z => nomatch z) fun tk => ⟨.bl b, H, I.tok tk, rfl, q⟩
theorem call_isinstXT (K : PySem.W.Frag) (eK : X.K = K := by rfl) : CallR X (.builtin "isinstance") (fun xs H Q => ∃ (ea C p : Addr) (cs : List Addr) (b : Bool), xs = [.ref ea, .ref p] ∧ H ea = some (ExcO ea (.ref C)) ∧ excCls K C = true ∧ H p = some (.tup (cs.map V.ref)) ∧ kitAny K (.ref C) (cs.map Value.ref) = some b ∧ Q (.bl b) H) := by
  subst eK
  intro pins s σ H xs us Q I r h
  obtain ⟨ea, C, p, cs, b, rfl, hO, hC, hp, hk, q⟩ := h
  obtain ⟨u0, u1, rfl, rx, ry⟩ := vals2 r
  cases (show u0 = Value.ref ea from rx)
  cases (show u1 = Value.ref p from ry)
  obtain ⟨po, _⟩ := I.hok ea _ hO
  obtain ⟨_, its, rv, ⟨ob, hob, c1, n, c2⟩, _⟩ := I.hok p _ hp
  have e : its = cs.map Value.ref := refs_eq rv
  subst e
  obtain ⟨oc, od, oda, osl⟩ := ob
  dsimp only at c1 c2
  subst c1 c2
  exact kia_tup (kitx_exc hC) I.kIn po hob hk (fun z => nomatch z) fun tk => ⟨.bl b, H, I.tok tk, rfl, q⟩
end
end L2
set_option Elab.async false
set_option linter.all false
set_option maxRecDepth 100000
set_option maxHeartbeats 400000
namespace L2
open PySem PySem.Spec PyProof.Rows
def tStrs (xs : List Str) : TA := fun _ H Q => Q (xs.map V.str) H
def cStr (p : Str × Nat × Pos) : Expr := .Constant (.str p.1) p.2.1 p.2.2
end L2
set_option Elab.async false
set_option linter.all false
set_option maxRecDepth 100000
set_option maxHeartbeats 400000
namespace L2
open PySem PySem.Spec PyProof.Rows
end L2
set_option Elab.async false
set_option linter.all false
set_option maxRecDepth 100000
set_option maxHeartbeats 4000000
namespace L2
open PySem PySem.Spec PyProof.Rows
def cStG (σ : St) (fr : List (Nat × Str)) (us : List (Option V)) : St := us ++ fr.map fun p => (σ[p.1]?).join
def tCompG (wi : TI) (n : Nat) (fr : List (Nat × Str)) (g : TG) (tc : TT) (te : TE) : TE := fun σ H Q => wi σ H fun J H1 => ∃ W : Nat → Nat → List V → Hp → Prop, (∃ m, W 0 m [] H1) ∧ ∀ i m ys H, W i m ys H →
  (J.stop i H ∧ ys.length ≤ sizeLine ∧ ∀ p, H p = none → Q (.ref p) (upd H p (.lst ys))) ∨
  (J.go i H ∧ ys.length ≤ sizeLine ∧ ∀ v H', J.yld i H v H' → g v (cStG σ fr (List.replicate n none)) H' fun σ6 H6 => ∃ us, us.length = n ∧ σ6 = cStG σ fr us ∧ tc (cStG σ fr us) H6 fun b H2 => if b = true then te (cStG σ fr us) H2 fun y H3 => ∃ m', m' < m ∧ W (i + 1) m' (ys ++ [y]) H3 else ∃ m', m' < m ∧ W (i + 1) m' ys H2)
section
variable {X : Cx}
theorem pg_cname {scope : Scope} {cl : List (Str × Addr)} {N : List Str} {C : Addr} {s₂ : Shared} {H₂ : Hp} {fp : List Addr} {x : Str} {px : Pos} (i : Nat) (hN : N.Nodup) (hi : N[i]? = some x) (hx : scope.names.lookup x = some .local) : PG (cxComp X scope cl N C s₂ H₂ fp) (.Name x px) (gName i) :=
  pg_name hN hi (.inl (lookup_relabel_local hx)) (.inr (lookup_relabel_local hx))
theorem comp_gen {xs : List Str} {tg : Expr} {g : TG} {pos : Pos} {elt iter : Expr} {ifs : List Expr} {scope : Scope} {fr : List (Nat × Str)} {wi : TI} {tc : TT} {te : TE} {use : Option (Value → Sem Unit)} {QQ : Value → Shared → Prop} {pins : List (Addr × Obj)} {s : Shared} {σ : St} {H : Hp} {Q : VK} {pp : Pos} (hcalm : X.calm = true) (hi : PI X tg iter wi)
    (hfr : ∀ p ∈ fr, X.N[p.1]? = some p.2 ∧ (X.env.kindOf p.2 = some .cell ∨ X.env.kindOf p.2 = some .free))
    (hfree : ∀ y ∈ scope.names, y.2 = NameKind.free → X.env.kindOf y.1 = some .cell ∨ X.env.kindOf y.1 = some .free)
    (hfs : ∀ p ∈ fr, (p.2, NameKind.free) ∈ scope.names ∧ ((relabel scope X.env).names.lookup p.2 = some .cell ∨ (relabel scope X.env).names.lookup p.2 = some .free))
    (hcell : ∀ y ∈ scope.names, y.2 ≠ NameKind.cell) (hkind : scope.kind = .function) (hnames : ∀ y ∈ scope.names, y.2 = NameKind.local → scope.names.lookup y.1 = some .local)
    (hg : ∀ cl C s₂ H₂ fp, PG (cxComp X scope cl (xs ++ fr.map (·.2)) C s₂ H₂ fp) tg g)
    (ht : ∀ cl C s₂ H₂ fp, PF (cxComp X scope cl (xs ++ fr.map (·.2)) C s₂ H₂ fp) ifs tc) (he : ∀ cl C s₂ H₂ fp, PE (cxComp X scope cl (xs ++ fr.map (·.2)) C s₂ H₂ fp) elt te)
    (hs : ∀ x, foldedSetIterable iter X.env x = pure x) (I : Inv X pins σ H s) (h : tCompG wi xs.length fr g tc te σ H Q)
    (hend : ∀ (D : Addr) (s4 : Shared) (H4 : Hp), Inv X pins σ H4 s4 → (∃ m, s4.heap.Ns (D + 1) m) → H4 (D + 1) = none → D + 1 ≠ X.env.locals → X.s₀.heap.objs.size ≤ D + 1 → (D + 1 ∉ X.fs ∧ (∀ x c, X.env.cells.lookup x = some c → c ≠ D + 1) ∧ ∀ p ∈ X.pn ++ pins, p.1 ≠ D + 1) → Q (.ref D) H4 → compPost (model X.prog X.w) X.A X.xe use QQ (.ref D) (D + 1) (.ok .next) s4) :
    wpAny (model X.prog X.w) X.A (comprehension (.ListComp elt [⟨tg, iter, ifs, 0⟩] scope pos) scope X.env pp (newList []) false (firstIter [⟨tg, iter, ifs, 0⟩] X.env) use) QQ X.xe s := by
  obtain ⟨cl, hcl, hc1, hc2⟩ := closure_ok (scope := scope) (env := X.env) fun y hy hk => I.ok.has y.1 (hfree y hy hk)
  refine wpAny_comprehension_free (use := use) rfl hs hcl hkind hnames (thn (hi pins s σ H _ I h) fun xv s₁ h₁ => thn h₁ fun itv s₂ h₂ => ?_)
  obtain ⟨it, fp, tn, J, H2, e, I2, T, st2, f2, W, ⟨m0, w0⟩, turn⟩ := h₂
  subst e
  -- the list that is filled, the block's names
  refine wpAny_newObj_type (wpAny_newFunctionEnv hcell (by intro y hy; simp at hy) (fun h₁ hns₁ hsb₁ => ?_) hkind)
  dsimp only at hns₁ hsb₁ ⊢
  generalize hD : s₂.heap.objs.size = D at hns₁ hsb₁ ⊢
  generalize hG : s₂.heap.push { cls := .type "list", dict := none, data := .seq ([] : List Value).toArray } = G at hns₁ hsb₁ ⊢
  have hC : G.objs.size = D + 1 := by rw [← hG, Heap.size_push, hD]
  generalize hCC : G.objs.size = C at hns₁ hsb₁ hC ⊢
  subst hC
  have fpD : ∀ b ∈ fp, b < D := fun b hb => by
    obtain ⟨o, e, _⟩ := T.obj _ _ st2 b hb
    rw [← hD]; exact Heap.lt_size e
  have old : ∀ b o, s₂.heap.get? b = some o → h₁.get? b = some o := fun b o e => hsb₁.extBut b o (Nat.ne_of_lt (Nat.lt_succ_of_lt (by rw [← hD]; exact Heap.lt_size e))) (Heap.get?_push_of_some _ (hG ▸ Heap.get?_push_of_some _ e))
  have hGD : G.get? D = some { cls := .type "list", dict := none, data := .seq ([] : List Value).toArray } := by
    rw [← hG, ← hD]
    exact Heap.get?_push_size _ rfl
  have hacc : h₁.PlainList D #[] := ⟨0, hsb₁.extBut _ _ (Nat.ne_of_lt (Nat.lt_succ_self D)) (Heap.get?_push_of_some _ hGD)⟩
  have clD : ∀ y c, cl.lookup y = some c → c < D := fun y c e => by
    obtain ⟨v, q⟩ := I2.cell y c (hc1 y c e)
    rw [← hD]; exact q.lt
  have stkD : ∀ b ∈ frs X.stack, b < D := fun b hb => by
    rcases List.mem_cons.mp (I2.stkSub b hb) with e | hb
    · rw [e, ← hD]; exact I2.lt
    · rw [← hD]
      exact Nat.lt_of_not_le fun z => I2.nofs z hb
  have fpS : ∀ b ∈ fp, b ∉ frs X.stack := fun b hb hb' => by
    rcases List.mem_cons.mp (I2.stkSub b hb') with e | z
    · exact (f2 b hb).2.1 e
    · exact (f2 b hb).2.2.1 z
  generalize hX' : cxComp X scope cl (xs ++ fr.map (·.2)) (D + 1) s₂ H2 fp = X'
  have ok' : X'.Ok := by
    subst hX'
    refine ⟨I2.ok.mod, hkind, I2.ok.glob, I2.ok.blt, (by show s₂.heap.objs.size ≤ D + 1; omega), fun y z c e1 e2 => I2.ok.inj y z c (hc1 _ _ e1) (hc1 _ _ e2), fun y hy => ?_, (fun _ _ z => Bool.noConfusion z), I2.ok.hd, I2.ok.frames, .inl rfl, fun b hb => ⟨?_, fun y c e => ?_⟩, fun b o e => I2.bs b o e, ?_, fun b o e hb => ?_, fpS, I2.env0.funs, I2.stkFree⟩
    · rcases hy with hy | hy
      · exact hc2 y (relabel_free hcell hy (.inl rfl))
      · exact hc2 y (relabel_free hcell hy (.inr rfl))
    · exact Nat.ne_of_lt (Nat.lt_succ_of_lt (fpD b hb))
    · exact (f2 b hb).2.2.2.2.1 y c (hc1 y c e)
    · exact Nat.le_trans I2.ok.bsz I2.sz
    · rcases (f2 b hb).2.2.2.1 with z | z
      · exact I2.ok.noex b o e z
      · exact absurd (Nat.lt_of_lt_of_le (Heap.lt_size (I2.ok.bs b o e).1) z) (Nat.lt_irrefl _)
  have hL' : X'.env.locals = D + 1 := by subst hX'; rfl
  have hcells' : X'.env.cells = cl := by subst hX'; rfl
  have hfs' : X'.fs = frs X.stack := by subst hX'; rfl
  have hpn' : X'.pn = [] := by subst hX'; rfl
  have hs0' : X'.s₀ = s₂ := by subst hX'; rfl
  have hH0' : X'.H₀ = H2 := by subst hX'; rfl
  have hex' : X'.ex = fp := by subst hX'; rfl
  have hN' : X'.N = xs ++ fr.map (·.2) := by subst hX'; rfl
  have hA' : X'.A = X.A := by subst hX'; rfl
  have hPr : X'.prog = X.prog ∧ X'.w = X.w ∧ X'.K = X.K ∧ X'.calm = true := by subst hX'; exact ⟨rfl, rfl, rfl, hcalm⟩
  have hxe' : X'.xe = fun _ _ => False := by subst hX'; rfl
  have henv' : X'.env = compEnvC scope cl (D + 1) X.env := by subst hX'; rfl
  have ht' : PF X' ifs tc := hX' ▸ ht cl (D + 1) s₂ H2 fp
  have he' : PE X' elt te := hX' ▸ he cl (D + 1) s₂ H2 fp
  have hg' : PG X' tg g := hX' ▸ hg cl (D + 1) s₂ H2 fp
  have fresh : ∀ b, D ≤ b → H2 b = none := fun b hb => I2.hok.fresh (by rw [hD]; exact hb)
  have start : ∀ t, Inv X' [] (cStG σ fr (List.replicate xs.length none)) H2 { s₂ with heap := h₁, toks := t } := fun t => by
    refine ⟨ok', by rw [hs0'], I2.bare, ?_, ⟨_, by rw [hL']; exact hns₁, fun i y v e1 e2 e3 => ?_⟩, fun y c e => ?_, by rw [hL']; exact fresh _ (Nat.le_succ _), fun y c e => ?_, fun p hp => ?_, ?_, ?_⟩
    · rw [hfs', hex', hH0', hs0']
      exact Un.kept old
    · rw [hN'] at e1
      by_cases hin : i < xs.length
      · exfalso
        unfold cStG at e2
        rw [List.getElem?_append_left (by rw [List.length_replicate]; exact hin), List.getElem?_replicate, if_pos hin] at e2
        cases e2
      · have hin : xs.length ≤ i := Nat.le_of_not_lt hin
        rw [List.getElem?_append_right hin, List.getElem?_map] at e1
        unfold cStG at e2
        rw [List.getElem?_append_right (by rw [List.length_replicate]; exact hin), List.length_replicate, List.getElem?_map] at e2
        generalize i - xs.length = i at e1 e2
        cases ej : fr[i]? with
        | none => rw [ej] at e1; cases e1
        | some p =>
          rw [ej] at e1
          obtain rfl : p.2 = y := Option.some.inj e1
          have e2' : (σ[p.1]?).join = some v := by
            rw [ej] at e2
            exact Option.some.inj e2
          have e2'' : σ[p.1]? = some (some v) := by
            cases q : σ[p.1]? with
            | none => rw [q] at e2'; cases e2'
            | some z => rw [q] at e2'; exact congrArg some e2'
          have hp := List.mem_of_getElem? ej
          obtain ⟨m, hn, hl⟩ := I2.loc
          obtain ⟨u, r, l⟩ := hl p.1 p.2 v (hfr p hp).1 e2'' (by rcases (hfr p hp).2 with z | z; exact .inr (.inl z); exact .inr (.inr z))
          refine ⟨u, r, .inr ⟨?_, ?_⟩⟩
          · rw [henv']; exact (hfs p hp).2
          · rcases l with ⟨z, _⟩ | ⟨_, c, ec, q⟩
            · exfalso
              rcases (hfr p hp).2 with z' | z' <;> (rw [z] at z'; cases z')
            · obtain ⟨c', ec'⟩ := hc2 p.2 (hfs p hp).1
              have := hc1 _ _ ec'
              rw [ec] at this
              cases this
              obtain ⟨o, ho, hd⟩ := q
              exact ⟨c, by rw [hcells']; exact ec', o, old _ _ ho, hd⟩
    · rw [hcells'] at e
      obtain ⟨v, o, ho, hd⟩ := I2.cell y c (hc1 y c e)
      exact ⟨v, o, old _ _ ho, hd⟩
    · rw [hcells'] at e
      exact I2.freeC y c (hc1 y c e)
    · rw [hpn'] at hp; exact nomatch hp
    · rw [hPr.1, hPr.2.1]
      exact I2.hok.kept old
    · rw [hN']; unfold cStG; simp
  have FP : ∀ {pins' : List (Addr × Obj)} {H' : Hp}, (∀ b ∈ fp, H' b = none) → (∀ p ∈ pins', p.1 = D) → ∀ b ∈ fp, FpOk X' pins' H' b := fun hn hp b hb => by
    refine ⟨hn b hb, ?_, ?_, .inl (by rw [hex']; exact hb), fun y c e => ?_, fun p hp' => ?_⟩
    · rw [hL']; exact Nat.ne_of_lt (Nat.lt_succ_of_lt (fpD b hb))
    · rw [hfs']; exact fpS b hb
    · rw [hcells'] at e; exact (f2 b hb).2.2.2.2.1 y c (hc1 y c e)
    · rw [hpn'] at hp'
      rw [hp p hp']
      exact Nat.ne_of_gt (fpD b hb)
  -- the turns
  have loop : ∀ s₃ : Shared, s₃ = { s₂ with heap := h₁, toks := s₂.toks + ([] : List (Str × Value)).length } →
      codeAny (model X.prog X.w) X.A (.compLoop (.ListComp elt [⟨tg, iter, ifs, 0⟩] scope pos) 0 (.ref it) (.ref D) (compEnvC scope cl (D + 1) X.env))
        (compPost (model X.prog X.w) X.A X.xe use QQ (.ref D) (D + 1)) s₃ := by
    rintro s₃ rfl
    rw [← henv', ← hPr.1, ← hPr.2.1, ← hA']
    refine comp_loop (fun k s' => ∃ i ys its H', Inv X' [] (cStG σ fr (List.replicate xs.length none)) H' s' ∧ tn i s'.heap ∧ (∀ b ∈ fp, H' b = none) ∧ s'.heap.PlainList D its.toArray ∧ Vals ys its ∧ H' D = none ∧ W i k ys H') ?_ m0
      ⟨0, [], [], H2, start _, T.keep _ _ _ st2 fun b hb o e => old b o e, fun b hb => (f2 b hb).1, hacc, .nil, fresh _ (Nat.le_refl _), w0⟩
    rintro n s3 ⟨i, ys, its, H3, I3, st3, fr3, ac3, rv3, hD3, w3⟩
    obtain ⟨na, ac3'⟩ := id ac3
    have I3' : Inv X' [(D, { cls := .type "list", data := .seq its.toArray na })] (cStG σ fr (List.replicate xs.length none)) H3 s3 := I3.pins_of fun p hp => by
      rw [List.mem_singleton] at hp
      subst hp
      refine ⟨ac3', hD3, by rw [hL']; exact Nat.ne_of_lt (Nat.lt_succ_self D), by rw [hfs']; exact fun z => Nat.lt_irrefl _ (stkD D z), fun v z => nomatch z⟩
    have hT := T
    rw [← hPr.1, ← hPr.2.1, ← hPr.2.2.1] at hT
    rcases turn i n ys H3 w3 with ⟨stop, hlen, qn⟩ | ⟨go, hlen, step⟩
    · refine thn (hT.done X' rfl rfl rfl hPr.2.2.2 i _ s3 _ H3 _ I3' (FP fr3 (by intro p hp; rw [List.mem_singleton.mp hp])) st3 stop) fun r s4 ⟨hr, I4⟩ => ?_
      subst hr
      obtain ⟨m4, hn4, _⟩ := id I4.loc
      obtain ⟨h', hh'⟩ : ∃ h', h' = s4.heap := ⟨_, rfl⟩
      have hs' : Heap.SameBut (D + 1) s4.heap h' := by rw [hh']; exact ⟨rfl, fun _ _ => rfl⟩
      have hneD : D ≠ D + 1 := Nat.ne_of_lt (Nat.lt_succ_self D)
      have ac4 := (I4.pin (D, _) (List.mem_append_right _ List.mem_cons_self))
      have ac5 : h'.get? D = some { cls := .type "list", data := .seq its.toArray na } := (hs'.2 D hneD).trans ac4.1
      have un : Un (frs X.stack) fp H2 H3 s₂.heap s4.heap := by
        have := I4.base
        rw [hfs', hex', hH0', hs0'] at this
        exact this
      have kp : ∀ b o, b ≠ D + 1 → s4.heap.get? b = some o → h'.get? b = some o := fun b o hb e => (hs'.2 b hb).trans e
      have neC : ∀ b o, s₂.heap.get? b = some o → b ≠ D + 1 ∧ b ≠ D := fun b o e => by
        have := Heap.lt_size e
        rw [hD] at this
        exact ⟨Nat.ne_of_lt (Nat.lt_succ_of_lt this), Nat.ne_of_lt this⟩
      have un' : Un (frs X.stack) fp H2 (upd H3 D (.lst ys)) s₂.heap h' := by
        refine ⟨fun b o e n hb hx => kp b o (neC b o e).1 (un.keep b o e n hb hx), fun b o e n hb hx => ?_, fun b o e n hx => by rw [upd_ne (neC b o e).2]; exact un.free b o e n hx, fun b o e hx => ?_, fun b xs e => ?_, fun b o u e => ?_, fun b ps e => ?_⟩
        · obtain ⟨sl, z⟩ := un.slot b o e n hb hx
          exact ⟨sl, kp _ _ (neC b o e).1 z⟩
        · obtain ⟨o', z⟩ := un.there b o e hx
          exact ⟨o', kp _ _ (neC b o e).1 z⟩
        · rw [upd_ne (ne_of_none e (fresh D (Nat.le_refl _)))]; exact un.tups b xs e
        · rw [upd_ne (ne_of_none e (fresh D (Nat.le_refl _)))]; exact un.frzs b o u e
        · rw [upd_ne (ne_of_none e (fresh D (Nat.le_refl _)))]; exact un.tbls b ps e
      have hfreeC : H3 (D + 1) = none := by have := I4.free; rw [hL'] at this; exact this
      have hok' : HOk X.prog X.w (upd H3 D (.lst ys)) h' := fun b u e => by
        by_cases hb : b = D
        · subst hb
          rw [upd_same] at e
          cases e
          exact ⟨hlen, its, na, rv3, ac5⟩
        · rw [upd_ne hb] at e
          have z := I4.hok b u e
          rw [hPr.1, hPr.2.1] at z
          refine z.stay (fun c v hc q => kp c v ?_ q) (fun c q => by rw [upd_ne (ne_of_none q hD3)]; exact q) fun c xs q => by rw [upd_ne (ne_of_none q hD3)]; exact q
          rintro rfl
          rcases hc with rfl | hc
          · rw [hfreeC] at e; cases e
          · rw [hfreeC] at hc; cases hc
      subst hh'
      have I5 : Inv X pins σ (upd H3 D (.lst ys)) s4 := I2.call' (s' := s4) (ch := fp) (by have := I4.os; rw [hs0'] at this; exact this) un' hok' I4.bare (fun b hb => ⟨(f2 b hb).2.2.2.1, (f2 b hb).2.1, (f2 b hb).2.2.2.2.1, (f2 b hb).2.2.2.2.2⟩)
      show compPost (model X'.prog X'.w) X'.A X.xe use QQ (.ref D) (D + 1) (.ok .next) s4
      rw [hPr.1, hPr.2.1, hA']
      refine hend D s4 _ I5 ⟨m4, hL' ▸ hn4⟩ ?_ ?_ ?_ ?_ (qn D hD3)
      · rw [upd_ne (Nat.ne_of_gt (Nat.lt_succ_self D))]; exact hfreeC
      · exact Nat.ne_of_gt (Nat.lt_succ_of_lt (by rw [← hD]; exact I2.lt))
      · exact Nat.le_trans I2.sz (by rw [hD]; exact Nat.le_succ D)
      · refine ⟨fun z => I2.nofs (by rw [hD]; exact Nat.le_succ D) z, fun y c e => ?_, fun p hp => ?_⟩
        · obtain ⟨v, q⟩ := I2.cell y c e
          exact Nat.ne_of_lt (Nat.lt_succ_of_lt (by rw [← hD]; exact q.lt))
        · exact Nat.ne_of_lt (Nat.lt_succ_of_lt (by rw [← hD]; exact Heap.lt_size (I2.pin p hp).1))
    · refine thn (hT.item X' rfl rfl rfl hPr.2.2.2 i _ s3 _ H3 _ I3' (FP fr3 (by intro p hp; rw [List.mem_singleton.mp hp])) st3 go) fun r s4 ⟨u, hr, h4⟩ => ?_
      subst hr
      refine thn h4 fun _ s5 ⟨v, H5, I5, r5, y5, st5, fr5⟩ => ?_
      have I5' := I5.pinned (FP fr5 (by intro p hp; rw [List.mem_singleton.mp hp])) (T.obj _ _ st5)
      have g5 := hg' _ s5 (cStG σ fr (List.replicate xs.length none)) H5 v u _ I5' r5 (step v H5 y5)
      rw [hxe'] at g5
      refine thn g5 fun _ s6 ⟨σ6, H6, I6, us, hus, e6, q6⟩ => ?_
      subst e6
      have t6 := ht' _ s6 _ H6 _ I6 q6
      rw [hxe'] at t6
      refine thn t6 fun ok s7 ⟨H7, I7, q7⟩ => ?_
      have back : ∀ {H8 : Hp} {s8 : Shared} {ys' : List V} {its' : List Value} {pl : List (Addr × Obj)}, Inv X' (pl ++ pinsAt fp s5.heap) (cStG σ fr us) H8 s8 → s8.heap.PlainList D its'.toArray → Vals ys' its' → H8 D = none → (∃ m', m' < n ∧ W (i + 1) m' ys' H8) →
          ∃ m, m < n ∧ ∃ i ys its H', Inv X' [] (cStG σ fr (List.replicate xs.length none)) H' s8 ∧ tn i s8.heap ∧ (∀ b ∈ fp, H' b = none) ∧ s8.heap.PlainList D its.toArray ∧ Vals ys its ∧ H' D = none ∧ W i m ys H' := fun {H8 s8 ys' its' pl} I8 ac8 rv8 hD8 ⟨m', hm, w8⟩ => by
        refine ⟨m', hm, i + 1, ys', its', H8, (I8.pins_of (pins' := []) (fun p hp => absurd hp List.not_mem_nil)).weak (by unfold cStG; simp [hus]) ?_, T.keep _ _ _ st5 fun b hb o e => (I8.pin (b, o) (List.mem_append_right _ (List.mem_append_right _ (mem_pinsAt hb e)))).1, fun b hb => ?_, ac8, rv8, hD8, w8⟩
        · intro j z e
          unfold cStG at e ⊢
          by_cases hj : j < xs.length
          · rw [List.getElem?_append_left (by rw [List.length_replicate]; exact hj), List.getElem?_replicate, if_pos hj] at e
            cases e
          · have hj : xs.length ≤ j := Nat.le_of_not_lt hj
            rw [List.getElem?_append_right (by rw [List.length_replicate]; exact hj), List.length_replicate] at e
            rw [List.getElem?_append_right (by rw [hus]; exact hj), hus]
            exact e
        · obtain ⟨o, e, d⟩ := T.obj _ _ st5 b hb
          exact (I8.pin (b, o) (List.mem_append_right _ (List.mem_append_right _ (mem_pinsAt hb e)))).2.1
      have accOf : ∀ {H8 : Hp} {s8 : Shared} {σ8 : St}, Inv X' ([(D, { cls := .type "list", data := .seq its.toArray na })] ++ pinsAt fp s5.heap) σ8 H8 s8 → s8.heap.PlainList D its.toArray ∧ H8 D = none := fun I8 =>
        have z := I8.pin (D, _) (List.mem_append_right _ (List.mem_append_left _ List.mem_cons_self))
        ⟨⟨na, z.1⟩, z.2.1⟩
      cases ok with
      | false =>
        rw [if_neg Bool.false_ne_true] at q7 ⊢
        exact back I7 (accOf I7).1 rv3 (accOf I7).2 q7
      | true =>
        rw [if_pos rfl] at q7 ⊢
        have t7 := he' _ s7 _ H7 _ I7 q7
        rw [hxe'] at t7
        refine thn t7 fun y s8 ⟨vy, H8, I8, r8, q8⟩ => ?_
        obtain ⟨ac8, hD8⟩ := accOf I8
        refine wpAny_list_append_plain (hsz := by have := rv3.length; rw [List.size_toArray, ← this]; exact hlen) ac8 fun h9 ac9 hs9 => ?_
        have I9 : Inv X' ([] ++ pinsAt fp s5.heap) (cStG σ fr us) H8 s8 := I8.pins_of fun p hp => (I8.pin p (List.mem_append_right _ (List.mem_append_right _ hp)))
        have I10 : Inv X' ([] ++ pinsAt fp s5.heap) (cStG σ fr us) H8 { s8 with heap := h9 } := by
          refine I9.turned (t' := s8.toks) (it := D) (fun b o hb e => (hs9.2 b hb).trans e) hD8 (by rw [hL']; exact Nat.ne_of_lt (Nat.lt_succ_self D)) (.inr (by rw [hs0', hD]; exact Nat.le_refl _)) (fun y' c e => ?_) fun p hp => ?_
          · rw [hcells'] at e; exact Nat.ne_of_lt (clD y' c e)
          · rw [hpn'] at hp
            exact Nat.ne_of_lt (fpD _ (of_pinsAt hp).1)
        have e9 : its.toArray.push y = (its ++ [y]).toArray := by simp
        rw [e9] at ac9
        exact back I10 ac9 (rv3.snoc r8) hD8 q8
  exact codeAny_compStart_list (loop _ rfl) (T.self _ 0 _ _ _ (T.keep _ _ _ st2 fun b hb o e => old b o e) (loop _ rfl))
theorem pe_compG {xs : List Str} {tg : Expr} {g : TG} {pos : Pos} {elt iter : Expr} {ifs : List Expr} {scope : Scope} {fr : List (Nat × Str)} {wi : TI} {tc : TT} {te : TE} (hcalm : X.calm = true) (hi : PI X tg iter wi)
    (hfr : ∀ p ∈ fr, X.N[p.1]? = some p.2 ∧ (X.env.kindOf p.2 = some .cell ∨ X.env.kindOf p.2 = some .free))
    (hfree : ∀ y ∈ scope.names, y.2 = NameKind.free → X.env.kindOf y.1 = some .cell ∨ X.env.kindOf y.1 = some .free)
    (hfs : ∀ p ∈ fr, (p.2, NameKind.free) ∈ scope.names ∧ ((relabel scope X.env).names.lookup p.2 = some .cell ∨ (relabel scope X.env).names.lookup p.2 = some .free))
    (hcell : ∀ y ∈ scope.names, y.2 ≠ NameKind.cell) (hkind : scope.kind = .function) (hnames : ∀ y ∈ scope.names, y.2 = NameKind.local → scope.names.lookup y.1 = some .local)
    (hg : ∀ cl C s₂ H₂ fp, PG (cxComp X scope cl (xs ++ fr.map (·.2)) C s₂ H₂ fp) tg g)
    (ht : ∀ cl C s₂ H₂ fp, PF (cxComp X scope cl (xs ++ fr.map (·.2)) C s₂ H₂ fp) ifs tc) (he : ∀ cl C s₂ H₂ fp, PE (cxComp X scope cl (xs ++ fr.map (·.2)) C s₂ H₂ fp) elt te)
    (hs : ∀ x, foldedSetIterable iter X.env x = pure x := by intro _; rfl) : PE X (.ListComp elt [⟨tg, iter, ifs, 0⟩] scope pos) (tCompG wi xs.length fr g tc te) := by
  intro pins s σ H Q I h
  rw [eval_ListComp]
  refine comp_gen hcalm hi hfr hfree hfs hcell hkind hnames hg ht he hs I h fun D s4 H4 I4 hn hf hl hz ⟨hb, hc, hp⟩ q => ?_
  obtain ⟨m, hn⟩ := hn
  exact ⟨m, hn, fun h' hs' => ⟨.ref D, H4, I4.turned (t' := s4.toks) (it := D + 1) (fun b o hb e => (hs'.2 b hb).trans e) hf hl (.inr hz) hc hp, rfl, q⟩⟩
end
end L2
set_option Elab.async false
set_option linter.all false
set_option maxRecDepth 100000
set_option maxHeartbeats 400000
namespace L2
open PySem PySem.Spec PyProof.Rows
theorem seq_any {t rest : TS} {D : Ends} {σ : St} {H : Hp} (R : St → Hp → Prop) (hr : ∀ σ1 H1, R σ1 H1 → rest D σ1 H1) (h : (∀ σ1 H1, R σ1 H1 → rest D σ1 H1) → t { D with nx := rest D } σ H) : tSeq t rest D σ H := h hr
theorem seq_asg {te : TE} {g : TG} {rest : TS} {D : Ends} {σ : St} {H : Hp} (h : te σ H fun x H1 => g x σ H1 (rest D)) : tSeq (tAsg te g) rest D σ H := h
structure Runs (J : It) (H1 : Hp) (n : Nat) (Item : Nat → V → Hp → Prop) : Prop where
  go : ∀ i, i < n → ∀ H, Same H1 H → J.go i H
  stop : ∀ H, Same H1 H → J.stop n H
  item : ∀ i, i < n → ∀ H v H', Same H1 H → J.yld i H v H' → Same H H' ∧ Item i v H'
theorem range_filter_succ (p : Nat → Bool) (n : Nat) : (List.range (n + 1)).filter p = (List.range n).filter p ++ (if p n = true then [n] else []) := by
  rw [List.range_succ, List.filter_append, List.filter_cons]
  cases p n <;> rfl
inductive All2 {α β : Type} (R : α → β → Prop) : List α → List β → Prop
  | nil : All2 R [] []
  | cons {a : α} {b : β} {xs : List α} {ys : List β} : R a b → All2 R xs ys → All2 R (a :: xs) (b :: ys)
theorem forall2_snoc {α β : Type} {R : α → β → Prop} : ∀ {xs : List α} {ys : List β} {x : α} {y : β}, All2 R xs ys → R x y → All2 R (xs ++ [x]) (ys ++ [y])
  | [], _, x, y, .nil, h => .cons h .nil
  | _ :: _, _, x, y, .cons a r, h => .cons a (forall2_snoc r h)
theorem forall2_mono {α β : Type} {R S : α → β → Prop} (h : ∀ a b, R a b → S a b) : ∀ {xs : List α} {ys : List β}, All2 R xs ys → All2 S xs ys
  | [], _, .nil => .nil
  | _ :: _, _, .cons a r => .cons (h _ _ a) (forall2_mono h r)
theorem forall2_len {α β : Type} {R : α → β → Prop} : ∀ {xs : List α} {ys : List β}, All2 R xs ys → ys.length = xs.length
  | [], _, .nil => rfl
  | _ :: _, _, .cons _ r => congrArg (· + 1) (forall2_len r)
end L2
set_option Elab.async false
set_option linter.all false
set_option maxRecDepth 100000
set_option maxHeartbeats 400000
namespace L2
open PySem PySem.Spec PyProof.Rows
theorem preSum_take (ns : List Int) : ∀ j, j ≤ ns.length → preSum (fun i => ns[i]?.getD 0) j = (ns.take j).sum
  | 0, _ => by rw [List.take_zero]; rfl
  | j + 1, h => by
    show preSum (fun i => ns[i]?.getD 0) j + ns[j]?.getD 0 = _
    rw [preSum_take ns j (Nat.le_of_succ_le h), List.take_succ_eq_append_getElem h, List.sum_append, List.getElem?_eq_getElem h]
    simp
section
variable {X : Cx}
def rSetD : TSet := fun x y v H Q => ∃ a H', x = .ref a ∧ DPut H a y v H' ∧ Q H'
theorem set_dict (hu : X.A.units + 1 < cLine) : PSet X rSetD := by
  intro pins s σ H o i v ov iv u Q I ro ri rv h
  obtain ⟨a, H', rfl, g, q⟩ := h
  obtain rfl : ov = Value.ref a := ro
  exact d_setItem hu I g ri rv fun s4 I4 => ⟨H', I4, q⟩
end
end L2
set_option Elab.async false
set_option linter.all false
set_option maxRecDepth 100000
set_option maxHeartbeats 400000
namespace L2
open PySem PySem.Spec PyProof.Rows
structure QE (X : Cx) (e : Expr) (t : TE) : Prop where
  run : PE X e t
structure QA (X : Cx) (es : List Expr) (t : TA) : Prop where
  run : PA X es t
structure QPs (X : Cx) (pos : Pos) (ks : List (Option Expr)) (vs : List Expr) (t : List (TE × TE)) : Prop where
  run : PPs X pos ks vs t
structure QS (X : Cx) (st : Stmt) (t : TS) : Prop where
  run : PS X st t
structure QSs (X : Cx) (sts : List Stmt) (t : TS) : Prop where
  run : PSs X sts t
section
variable {X : Cx} {pos : Pos}
theorem q_of {sts : List Stmt} {t : TS} {G : TS → Prop} (q : QSs X sts t) (g : G t) : ∃ t, PSs X sts t ∧ G t := ⟨t, q.run, g⟩
theorem qss_one {st : Stmt} {t : TS} (h : QS X st t) : QSs X [st] t := ⟨pss_one h.run⟩
theorem qss_cons {st : Stmt} {rest : List Stmt} {t u : TS} (h : QS X st t) (r : QSs X rest u) : QSs X (st :: rest) (tSeq t u) := ⟨pss_cons h.run r.run⟩
theorem qs_set {i : Nat} {x : Str} {e : Expr} {te : TE} {pos' : Pos} (hN : X.N.Nodup) (hi : X.N[i]? = some x) (hx : Loc X.env.scope x) (he : QE X e te) (hs : swapsWith e (some (.Name x pos')) pos.line X.env = pure false := by rfl) (hf : X.fn x = true ∨ X.env.scope.names.lookup x = some .local := by first | exact .inl rfl | exact .inr rfl | assumption) :
    QS X (.Assign [.Name x pos'] e pos) (tAsg te (gName i)) := ⟨ps_set hN hi hx he.run hs hf⟩
theorem qs_dput {o i value : Expr} {td ty tv : TE} {pos' : Pos} (hu : X.A.units + 1 < cLine) (ho : QE X o td) (hi : QE X i ty) (hv : QE X value tv) (hs : swapsWith value (some (.Subscript o i pos')) pos.line X.env = pure false) :
    QS X (.Assign [.Subscript o i pos'] value pos) (sDPut td ty tv) := ⟨ps_dput hu ho.run hi.run hv.run hs⟩
theorem qe_lst {es : List Expr} {t : TA} (h : QA X es t) : QE X (.List es pos) (tLst t) := ⟨pe_lst h.run⟩
theorem qe_tup {es : List Expr} {t : TA} {x1} (h : QA X es t) : QE X (.Tuple es x1 pos) (tTup t) := ⟨pe_tup h.run⟩
theorem qa_nil : QA X [] tNil := ⟨pa_nil⟩
theorem qa_cons {e : Expr} {es : List Expr} {te : TE} {t : TA} (ha : QE X e te) (hr : QA X es t) (hs : starEach (e :: es) X.env = (false, eval e X.env) :: starEach es X.env := by rfl) : QA X (e :: es) (tCons te t) := ⟨pa_cons ha.run hr.run hs⟩
theorem qps_nil : QPs X pos [] [] [] := ⟨pps_nil⟩
theorem qps_cons {k v : Expr} {ks : List (Option Expr)} {vs : List Expr} {tk tv : TE} {trs : List (TE × TE)} (hk : QE X k tk) (hv : QE X v tv) (hr : QPs X pos ks vs trs) : QPs X pos (some k :: ks) (v :: vs) ((tk, tv) :: trs) := ⟨pps_cons hk.run hv.run hr.run⟩
theorem qe_disp {keys : List (Option Expr)} {values : List Expr} {trs : List (TE × TE)} (h : QPs X pos keys values trs) (hall : keys.all (·.isSome) = true) (hl : keys.length = values.length) (h0 : keys ≠ []) (h15 : keys.length ≤ 15) : QE X (.Dict keys values pos) (tDisp trs) := ⟨pe_disp h.run hall hl h0 h15⟩
theorem qe_ix {a b : Expr} {ta tb : TE} {r : R2} (hr : IxR X r) (ha : QE X a ta) (hb : QE X b tb) (hs : PlainIx b) : QE X (.Subscript a b pos) (tOp r ta tb) := ⟨pe_ix hr ha.run hb.run hs⟩
end
end L2
set_option Elab.async false
set_option linter.all false
set_option maxRecDepth 100000
set_option maxHeartbeats 400000
namespace L2
open PySem PySem.Spec PyProof.Rows
theorem ix_seqK {X : Cx} {K : PySem.W.Frag} (h : X.K = K) : IxR X (rIx K) := h ▸ ix_seq
theorem ret_cb1 {f : List V → Hp → VK → Prop} {te : TE} {D : Ends} {σ : St} {H : Hp} (h : te σ H fun x H1 => f [x] H1 D.rt) : tRet (tCB f (tCons te tNil)) D σ H := h
theorem seq_cb1 {f : List V → Hp → VK → Prop} {te : TE} {g : TG} {rest : TS} {D : Ends} {σ : St} {H : Hp} (h : te σ H fun x H1 => f [x] H1 fun y H2 => g y σ H2 (rest D)) : tSeq (tAsg (tCB f (tCons te tNil)) g) rest D σ H := h
theorem all2_get {α β : Type} {R : α → β → Prop} : ∀ {xs : List α} {ys : List β} {i : Nat} {y : β}, All2 R xs ys → ys[i]? = some y → ∃ x, xs[i]? = some x ∧ R x y
  | _, _, i, y, .nil, e => by simp at e
  | _, _, 0, y, .cons a _, e => by
    rw [List.getElem?_cons_zero] at e
    cases e
    exact ⟨_, List.getElem?_cons_zero, a⟩
  | _, _, i + 1, y, .cons _ r, e => by
    rw [List.getElem?_cons_succ] at e
    obtain ⟨x, h1, h2⟩ := all2_get r e
    exact ⟨x, by rw [List.getElem?_cons_succ]; exact h1, h2⟩
end L2
set_option Elab.async false
set_option linter.all false
set_option maxRecDepth 100000
set_option maxHeartbeats 4000000
namespace L2
open PySem PySem.Spec PyProof.Rows
section
variable {prog : Program} {w : World} {A : Around} {E : Value → Shared → Prop} {s : Shared}
end
def IteL (K : PySem.W.Frag) (a : Addr) : It :=
  ⟨fun i H => ∃ xs x, SqL K H a xs ∧ xs[i]? = some x,
   fun i H v H' => ∃ p, H p = none ∧ v = .ref p ∧ ∀ xs, SqL K H a xs → ∃ x, xs[i]? = some x ∧ H' = upd H p (.tup [.int i, x]),
   fun i H => ∃ xs, SqL K H a xs ∧ xs.length = i⟩
theorem turn_enumL {P : Program} {w : World} {K : PySem.W.Frag} {elts : List Expr} {x1 : Nat} {pos : Pos} {e it a : Addr} (ne : e ≠ it) (nae : a ≠ e) (nai : a ≠ it) : Turn P w K (.Tuple elts x1 pos) (IteL K a) [e, it] e (fun n h => (∃ old, IsEnum h e it (n : Nat) old) ∧ h.IsListIter it a n) where
  mem := by simp
  obj := fun n h st c hc => by
    simp only [List.mem_cons, List.not_mem_nil, or_false] at hc
    rcases hc with rfl | rfl
    · obtain ⟨⟨old, z⟩, _⟩ := st
      exact ⟨_, z, fun v z => by cases (show Data.fields _ = Data.cell v from z)⟩
    · obtain ⟨_, o, e, _, d⟩ := st
      exact ⟨o, e, fun v z => by rw [d] at z; cases z⟩
  keep := fun n h h' st k => by
    obtain ⟨⟨old, z⟩, o, e1, e2⟩ := st
    exact ⟨⟨old, k e (by simp) _ z⟩, o, k it (by simp) _ e1, e2⟩
  item := by
    intro X hP hw hK hc n pins s σ H E I hf st hg
    subst hP hw hK
    obtain ⟨xs, x, sa, hx⟩ := hg
    obtain ⟨ia, ra, pa, _⟩ := I.list sa
    have pa : s.heap.IsList a ia.toArray := pa.isList
    obtain ⟨u, hu, ru⟩ := ra.get hx
    have D := Draws.list (prog := X.prog) (w := X.w) (A := X.A.in1) (I.ok.hd hc) it a nai ia.toArray
    have hlt : n < ia.toArray.size := by
      have := (List.getElem?_eq_some_iff.mp hu).1
      simpa using this
    obtain ⟨⟨old, se⟩, si⟩ := st
    refine wpAny_pyNext_enum_itemD D se ⟨si, pa⟩ hlt ne (by simp [ne, nae.symm]) fun y h' t hy out si' tT hz kk => ?_
    have hy : ia[n]? = some y := by simpa using hy
    rw [hu] at hy
    cases hy
    have lte : e < s.heap.objs.size := Heap.lt_size se
    have lti : it < s.heap.objs.size := by obtain ⟨o, z, _⟩ := si; exact Heap.lt_size z
    have nTe : s.heap.objs.size ≠ e := Nat.ne_of_gt lte
    have nT : s.heap.objs.size ∉ [e, it] := by simp only [List.mem_cons, List.not_mem_nil, or_false, not_or]; exact ⟨nTe, Nat.ne_of_gt lti⟩
    refine ⟨_, rfl, wpAny_letOwnedTupleGo_enum out fun h2 se2 sb => ?_⟩
    have k2 : ∀ b o, b ∉ [e, it] → s.heap.get? b = some o → h2.get? b = some o := fun b o hb z => by
      simp only [List.mem_cons, List.not_mem_nil, or_false, not_or] at hb
      exact (sb.2 b hb.1).trans (kk b o hb.1 hb.2 z)
    have tT2 := (sb.2 _ nTe).trans tT
    have st2 := si'.1.elim fun o z => (⟨o, (sb.2 it ne.symm).trans z.1, z.2⟩ : h2.IsListIter it a (n + 1))
    have fr : H s.heap.objs.size = none := I.hok.fresh (Nat.le_refl _)
    refine ⟨.ref s.heap.objs.size, upd H s.heap.objs.size (.tup [.int n, x]), I.turnedLaid (t' := t + 1) k2 hf (Nat.le_refl _) ⟨show (2 : Nat) ≤ sizeLine by decide, [.int n t, u], .cons ⟨t, rfl⟩ (.cons ru .nil), ⟨_, tT2, rfl, _, rfl⟩, _, tT2, rfl⟩, rfl, ⟨_, fr, rfl, fun xs' sa' => ⟨x, ?_, rfl⟩⟩, ⟨⟨_, se2⟩, st2⟩, fun c hc => ?_⟩
    · rw [I.list_inj sa' sa]; exact hx
    · rw [upd_ne (fun (z : c = s.heap.objs.size) => nT (z ▸ hc))]
      exact (hf c hc).1
  done := by
    intro X hP hw hK hc n pins s σ H E I hf st hg
    subst hP hw hK
    obtain ⟨xs, sa, rfl⟩ := hg
    obtain ⟨ia, ra, pa, _⟩ := I.list sa
    have pa : s.heap.IsList a ia.toArray := pa.isList
    have D := Draws.list (prog := X.prog) (w := X.w) (A := X.A.in1) (I.ok.hd hc) it a nai ia.toArray
    have W := WalksT.enumerateD D e ne (by simp [ne, nae.symm]) (by simp)
    have la : ia.toArray.size = xs.length := by simpa using ra.length.symm
    exact W.done s _ E (by rw [la]; exact ⟨st.1, st.2, pa⟩) fun h' tk kk => ⟨rfl, I.turnedL (t' := tk) (fun c o hc e => kk c o hc e) hf⟩
  self := fun _ _ _ _ _ st h => st.1.elim fun old z => wpAny_pyIter_enum z h
def ieL (K : PySem.W.Frag) (ta : TA) : TI := fun σ H R => ta σ H fun vs H1 => ∃ a xs, vs = [.ref a] ∧ SqL K H1 a xs ∧ R (IteL K a) H1
theorem pi_enumL {X : Cx} {elts : List Expr} {x1 : Nat} {tpos : Pos} {e : Expr} {ta : TA} {p pos : Pos} (hg : Gl X "enumerate") (hm : X.mg "enumerate" = none) (ha : PA X [e] ta) (hs : starEach [e] X.env = [(false, eval e X.env)] := by rfl) :
    PI X (.Tuple elts x1 tpos) (.Call (.Name "enumerate" p) [e] [] pos) (ieL X.K ta) := by
  intro pins s σ H R I h
  refine Call_ (ld_blt I hg hm boot_enumerate (PyProof.Rows.callWith_type1 (thn (ha pos pins s σ H _ I h) fun us s1 ⟨vs, H1, I1, r1, q1⟩ => ?_) (by rw [hs]; rfl) rfl))
  obtain ⟨a, xs, ev, sa, q⟩ := q1
  subst ev
  obtain ⟨u, rfl, ru⟩ := vals1 r1
  cases (show u = Value.ref a from ru)
  obtain ⟨ia, ra, pa, _⟩ := I1.list sa
  have pa : s1.heap.IsList a ia.toArray := pa.isList
  have la : a < s1.heap.objs.size := by obtain ⟨o, e, _⟩ := id pa; exact Heap.lt_size e
  refine call_enumerate_list pa fun h' st1 st2 _ kk => ?_
  refine wpAny_pyIter_enum st1 ?_
  refine ⟨_, _, _, _, H1, rfl, I1.kept (t' := s1.toks) kk, turn_enumL (Nat.ne_of_gt (Nat.lt_succ_self _)) (Nat.ne_of_lt (Nat.lt_succ_of_lt la)) (Nat.ne_of_lt la), ⟨⟨_, st1⟩, st2⟩, fun c hc => ?_, q⟩
  have hc' : s1.heap.objs.size ≤ c := by
    simp only [List.mem_cons, List.not_mem_nil, or_false] at hc
    rcases hc with rfl | rfl
    · exact Nat.le_add_right _ _
    · exact Nat.le_refl _
  exact I1.fpOk hc' (I1.hok.fresh hc')
theorem for_enumL {K : PySem.W.Frag} {a : Addr} {xs : List V} {g : TG} {tb : TS} {D : Ends} {σ : St} {H : Hp} (Pv : Nat → St → Hp → Prop) (h0 : Pv 0 σ H) (hl : ∀ i σ H, Pv i σ H → SqL K H a xs)
    (hs : ∀ i x σ H p, xs[i]? = some x → Pv i σ H → H p = none → g (.ref p) σ (upd H p (.tup [.int i, x])) fun σ2 H2 => tb { D with nx := Pv (i + 1), ct := Pv (i + 1), bk := D.nx } σ2 H2) (hd : ∀ σ H, Pv xs.length σ H → D.nx σ H) :
    ∃ W : Nat → Nat → St → Hp → Prop, (∃ m, W 0 m σ H) ∧ ∀ i m σ H, W i m σ H →
      ((IteL K a).stop i H ∧ D.nx σ H) ∨ ((IteL K a).go i H ∧ ∃ N : St → Hp → Prop, (∀ σ' H', N σ' H' → ∃ m', m' < m ∧ W (i + 1) m' σ' H') ∧ ∀ x H', (IteL K a).yld i H x H' → g x σ H' fun σ2 H2 => tb { D with nx := N, ct := N, bk := D.nx } σ2 H2) := by
  refine ⟨fun i m σ H => m = xs.length - i ∧ i ≤ xs.length ∧ Pv i σ H, ⟨xs.length, by simp, Nat.zero_le _, h0⟩, ?_⟩
  rintro i m σ H ⟨rfl, hi, p⟩
  have qa := hl i σ H p
  by_cases hlt : i < xs.length
  · refine .inr ⟨⟨xs, xs[i], qa, by simp [hlt]⟩, Pv (i + 1), fun σ' H' p' => ⟨xs.length - (i + 1), by omega, rfl, hlt, p'⟩, fun v H' y => ?_⟩
    obtain ⟨t, ht, rfl, yy⟩ := y
    obtain ⟨x', ex, rfl⟩ := yy xs qa
    exact hs i x' σ H t ex p ht
  · have e : i = xs.length := by omega
    subst e
    exact .inl ⟨⟨xs, qa, rfl⟩, hd σ H p⟩
def IteT (K : PySem.W.Frag) (a : Addr) : It :=
  ⟨fun i H => ∃ xs x, SqT K H a xs ∧ xs[i]? = some x,
   fun i H v H' => ∃ p, H p = none ∧ v = .ref p ∧ ∀ xs, SqT K H a xs → ∃ x, xs[i]? = some x ∧ H' = upd H p (.tup [.int i, x]),
   fun i H => ∃ xs, SqT K H a xs ∧ xs.length = i⟩
def ieT (K : PySem.W.Frag) (ta : TA) : TI := fun σ H R => ta σ H fun vs H1 => ∃ a xs, vs = [.ref a] ∧ SqT K H1 a xs ∧ R (IteT K a) H1
end L2
set_option Elab.async false
set_option linter.all false
set_option maxRecDepth 100000
set_option maxHeartbeats 400000
namespace L2
open PySem PySem.Spec PyProof.Rows
section
variable {X : Cx}
theorem call_sumA (hc : X.calm = true) : CallR X (.builtin "sum") (fun xs H Q => ∃ (p : Addr) (ns : List Int), xs = [.ref p] ∧ SqL X.K H p (ns.map V.int) ∧ Q (.int ns.sum) H) := by
  intro pins s σ H xs us Q I r h
  obtain ⟨p, ns, rfl, hq, q⟩ := h
  obtain ⟨u, rfl, rx⟩ := vals1 r
  cases rx
  obtain ⟨its, rv, pl, hz⟩ := I.list hq
  have hne : p ≠ s.heap.objs.size := by
    obtain ⟨o, e, _⟩ := pl.isList
    exact Nat.ne_of_lt (Heap.lt_size e)
  have hl : its.length = ns.length := by have := rv.length; rw [List.length_map] at this; exact this.symm
  refine call_sum_walkAnyS (wpAny_pyIter_list pl.isList ?_)
  refine ⟨s.heap.objs.size, _, _, _, _, _, _, fun i => ns[i]?.getD 0, rfl, (Walks.list (show X.A.in1.handled = none from I.ok.hd hc) s.heap.objs.size p hne its.toArray).toS, ⟨⟨_, Heap.get?_push_size _ rfl, rfl, rfl⟩, pl.isList.at fun o e => Heap.get?_push_of_some _ e⟩, ?_, ?_, ?_⟩
  · intro b hb'
    simp only [List.mem_cons, List.not_mem_nil, or_false] at hb'
    rcases hb' with rfl | rfl
    · rw [Heap.size_push]
      exact Nat.lt_succ_self _
    · obtain ⟨o, e, _⟩ := pl.isList
      exact Heap.lt_size (Heap.get?_push_of_some _ e)
  · intro i v hv
    have hv : its[i]? = some v := by simpa using hv
    obtain ⟨hi, e⟩ := List.getElem?_eq_some_iff.mp hv
    have hi' : i < ns.length := by rw [← hl]; exact hi
    obtain ⟨u, e1, e2⟩ := rv.get (i := i) (x := .int ns[i]) (by simp [hi'])
    rw [hv] at e1
    cases e1
    obtain ⟨t, e2⟩ := e2
    exact ⟨t, by show v = Value.int (ns[i]?.getD 0) t; rw [List.getElem?_eq_getElem hi']; exact e2⟩
  · intro s' t' mv
    have e : preSum (fun i => ns[i]?.getD 0) its.toArray.size = ns.sum := by
      rw [List.size_toArray, hl, preSum_take ns _ (Nat.le_refl _), List.take_length]
    rw [e, mv.eq_with]
    refine ⟨.int _, H, I.kept (t' := s'.toks) fun b o z => mv.heap b o ?_ (Heap.get?_push_of_some _ z), ⟨_, rfl⟩, q⟩
    intro hb'
    rw [List.mem_singleton.mp hb'] at z
    exact absurd (Heap.lt_size z) (Nat.lt_irrefl _)
theorem pe_lpop {o e : Expr} {es : List Expr} {to : TE} {t : TA} {apos cpos : Pos} (ho : PE X o to) (ha : PA X (e :: es) t)
    (hbase : attributeBase o "pop" X.env (eval o X.env) = eval o X.env := by rfl)
    (hfew : ((backTo cpos (starEach (e :: es) X.env)).all (fun x => !x.1) && (backToKw cpos (keywordEach [] X.env)).all (fun x => x.1.isSome)
      && decide ((e :: es).length + ([] : List Keyword).length + (if ([] : List Keyword).isEmpty then 0 else 1) < 30)) = true := by rfl)
    (hline : (apos.endLine == cpos.line) = true := by rfl) (hs : starEach (e :: es) X.env = (false, eval e X.env) :: starEach es X.env := by rfl) (hplain : (backTo cpos (starEach es X.env)).any (·.1) = false := by rfl) :
    PE X (.Call (.Attribute o "pop" apos) (e :: es) [] cpos) (tBM X.K "list" rPopAt to t) := pe_bm PySem.F.plainAttrs_list PySem.F.slot_list_pop PySem.F.type_list_pop mt_popAt ho ha hbase hfew hline hs hplain
end
end L2
set_option Elab.async false
set_option linter.all false
set_option maxRecDepth 100000
set_option maxHeartbeats 400000
namespace L2
open PySem PySem.Spec PyProof.Rows
mutual
def IsPd (K : PySem.W.Frag) (H : Hp) : PyData → V → Prop
  | .none, v => v = .non
  | .bool b, v => v = .bl b
  | .int i, v => v = .int i
  | .str z, v => v = .str z
  | .list ds, v => ∃ a xs, v = .ref a ∧ SqL K H a xs ∧ IsPds K H ds xs
  | .tuple ds, v => ∃ a xs, v = .ref a ∧ SqT K H a xs ∧ IsPds K H ds xs
  | .dict _, _ => False
def IsPds (K : PySem.W.Frag) (H : Hp) : List PyData → List V → Prop
  | [], xs => xs = []
  | d :: ds, xs => ∃ x r, xs = x :: r ∧ IsPd K H d x ∧ IsPds K H ds r
end
mutual
theorem IsPd.mono' {K : PySem.W.Frag} {H H' : Hp} (s : ∀ a xs, SqT K H a xs → SqT K H' a xs) (t : ∀ a xs, SqL K H a xs → SqL K H' a xs) : ∀ (d : PyData) (v : V), IsPd K H d v → IsPd K H' d v
  | .none, v, h => h
  | .bool _, v, h => h
  | .int _, v, h => h
  | .str _, v, h => h
  | .list ds, v, h => by
    obtain ⟨a, xs, rfl, e, r⟩ := h
    exact ⟨a, xs, rfl, t _ _ e, IsPds.mono' s t ds xs r⟩
  | .tuple ds, v, h => by
    obtain ⟨a, xs, rfl, e, r⟩ := h
    exact ⟨a, xs, rfl, s _ _ e, IsPds.mono' s t ds xs r⟩
  | .dict _, v, h => h.elim
theorem IsPds.mono' {K : PySem.W.Frag} {H H' : Hp} (s : ∀ a xs, SqT K H a xs → SqT K H' a xs) (t : ∀ a xs, SqL K H a xs → SqL K H' a xs) : ∀ (ds : List PyData) (xs : List V), IsPds K H ds xs → IsPds K H' ds xs
  | [], xs, h => h
  | d :: ds, xs, h => by
    obtain ⟨x, r, rfl, a, b⟩ := h
    exact ⟨x, r, rfl, IsPd.mono' s t d x a, IsPds.mono' s t ds r b⟩
end
section
variable {X : Cx} {pins : List (Addr × Obj)} {σ : St} {H : Hp} {s : Shared}
mutual
theorem pd_reads (I : Inv X pins σ H s) : ∀ (d : PyData) (v : V) (u : Value), IsPd X.K H d v → RelV v u → ∃ as, Reads s.heap u d as
  | .none, v, u, h, r => by
    cases (show v = .non from h)
    cases (show u = .none from r)
    exact ⟨_, .none⟩
  | .bool b, v, u, h, r => by
    cases (show v = .bl b from h)
    cases (show u = .bool b from r)
    exact ⟨_, .bool b⟩
  | .int i, v, u, h, r => by
    cases (show v = .int i from h)
    obtain ⟨t, rfl⟩ := r
    exact ⟨_, .int i t⟩
  | .str z, v, u, h, r => by
    cases (show v = .str z from h)
    obtain ⟨t, rfl⟩ := r
    exact ⟨_, .str z t⟩
  | .list ds, v, u, h, r => by
    obtain ⟨a, xs, rfl, e, hr⟩ := h
    cases (show u = .ref a from r)
    obtain ⟨its, rv, pl, _⟩ := I.list e
    obtain ⟨o, e1, e2, n, e3⟩ := pl.isList
    obtain ⟨as, ra⟩ := pds_reads I ds xs its hr rv
    exact ⟨_, .list e1 e2 e3 ra⟩
  | .tuple ds, v, u, h, r => by
    obtain ⟨a, xs, rfl, e, hr⟩ := h
    cases (show u = .ref a from r)
    obtain ⟨its, rv, pl, _⟩ := I.tuple e
    obtain ⟨o, e1, e2, n, e3⟩ := pl
    obtain ⟨as, ra⟩ := pds_reads I ds xs its hr rv
    exact ⟨_, .tuple e1 e2 e3 ra⟩
  | .dict _, v, u, h, r => h.elim
theorem pds_reads (I : Inv X pins σ H s) : ∀ (ds : List PyData) (xs : List V) (us : List Value), IsPds X.K H ds xs → Vals xs us → ∃ as, ReadsAll s.heap us ds as
  | [], xs, us, h, r => by
    cases (show xs = [] from h)
    cases r
    exact ⟨_, .nil⟩
  | d :: ds, xs, us, h, r => by
    obtain ⟨x, t, rfl, a, b⟩ := h
    cases r with
    | cons r1 r2 =>
      obtain ⟨as, ra⟩ := pd_reads I d x _ a r1
      obtain ⟨bs, rb⟩ := pds_reads I ds t _ b r2
      exact ⟨_, .cons ra rb⟩
end
end
mutual
def plainP : PyData → Bool
  | .none => true
  | .bool _ => false
  | .int _ => true
  | .str z => (PyData.str z).canLay0
  | .list ds => plainPs ds
  | .tuple ds => plainPs ds
  | .dict _ => false
def plainPs : List PyData → Bool
  | [] => true
  | d :: ds => plainP d && plainPs ds
end
mutual
theorem plain_lay : ∀ d : PyData, plainP d = true → d.canLay0 = true
  | .none, _ => rfl
  | .bool _, h => by cases h
  | .int _, _ => rfl
  | .str _, h => h
  | .list ds, h => plains_lay ds h
  | .tuple ds, h => plains_lay ds h
  | .dict _, h => by cases h
theorem plains_lay : ∀ ds : List PyData, plainPs ds = true → PyData.canLayAll0 ds = true
  | [], _ => rfl
  | d :: ds, h => by
    have h : (plainP d && plainPs ds) = true := h
    rw [Bool.and_eq_true] at h
    show (d.canLay0 && PyData.canLayAll0 ds) = true
    rw [plain_lay d h.1, plains_lay ds h.2]
    rfl
end
mutual
theorem eqv_iff : ∀ d e : PyData, plainP d = true → plainP e = true → (d.eqv e = true ↔ d = e)
  | .none, e, _, he => by
    cases e with
    | none => exact ⟨fun _ => rfl, fun _ => rfl⟩
    | bool b => cases he
    | dict _ => cases he
    | _ => exact ⟨fun z => (by cases z), fun z => (by cases z)⟩
  | .bool _, e, hd, _ => by cases hd
  | .int i, e, _, he => by
    cases e with
    | int j => exact ⟨fun z => congrArg _ (eq_of_beq (show (i == j) = true from z)), fun z => by cases z; exact beq_self_eq_true i⟩
    | bool b => cases he
    | dict _ => cases he
    | _ => exact ⟨fun z => (by cases z), fun z => (by cases z)⟩
  | .str i, e, _, he => by
    cases e with
    | str j => exact ⟨fun z => congrArg _ (eq_of_beq (show (i == j) = true from z)), fun z => by cases z; exact beq_self_eq_true i⟩
    | bool b => cases he
    | dict _ => cases he
    | _ => exact ⟨fun z => (by cases z), fun z => (by cases z)⟩
  | .list ds, e, hd, he => by
    cases e with
    | list es => exact ⟨fun z => congrArg _ ((eqvs_iff ds es hd he).mp z), fun z => (eqvs_iff ds es hd he).mpr (by cases z; rfl)⟩
    | bool b => cases he
    | dict _ => cases he
    | _ => exact ⟨fun z => (by cases z), fun z => (by cases z)⟩
  | .tuple ds, e, hd, he => by
    cases e with
    | tuple es => exact ⟨fun z => congrArg _ ((eqvs_iff ds es hd he).mp z), fun z => (eqvs_iff ds es hd he).mpr (by cases z; rfl)⟩
    | bool b => cases he
    | dict _ => cases he
    | _ => exact ⟨fun z => (by cases z), fun z => (by cases z)⟩
  | .dict _, e, hd, _ => by cases hd
theorem eqvs_iff : ∀ ds es : List PyData, plainPs ds = true → plainPs es = true → (PyData.eqvAll ds es = true ↔ ds = es)
  | [], [], _, _ => ⟨fun _ => rfl, fun _ => rfl⟩
  | [], e :: es, _, _ => ⟨fun z => (by cases z), fun z => (by cases z)⟩
  | d :: ds, [], _, _ => ⟨fun z => (by cases z), fun z => (by cases z)⟩
  | d :: ds, e :: es, hd, he => by
    have hd : (plainP d && plainPs ds) = true := hd
    have he : (plainP e && plainPs es) = true := he
    rw [Bool.and_eq_true] at hd he
    show (d.eqv e && PyData.eqvAll ds es) = true ↔ _
    rw [Bool.and_eq_true, eqv_iff d e hd.1 he.1, eqvs_iff ds es hd.2 he.2]
    exact ⟨fun z => by rw [z.1, z.2], fun z => by cases z; exact ⟨rfl, rfl⟩⟩
end
section
variable {X : Cx}
def rEqP (K : PySem.W.Frag) : R2 := fun x y H Q => ∃ d e, IsPd K H d x ∧ IsPd K H e y ∧ plainP d = true ∧ plainP e = true ∧ d.depth ≤ 60 ∧ Q (.bl (d.eqv e)) H
def rNeP (K : PySem.W.Frag) : R2 := fun x y H Q => ∃ d e, IsPd K H d x ∧ IsPd K H e y ∧ plainP d = true ∧ plainP e = true ∧ d.depth ≤ 60 ∧ Q (.bl (!d.eqv e)) H
theorem room60 {A : Around} {k m n : Nat} (hr : Room k A) (h : m ≤ 60) : A.units + min m n < cLine := Nat.lt_of_le_of_lt (Nat.add_le_add_left (Nat.le_trans (Nat.min_le_left _ _) (Nat.le_trans h (by decide : 60 ≤ 64))) _) hr.units
theorem op_neP {k : Nat} (hr : Room k X.A) : OpR X (compareOp .NotEq) (rNeP X.K) := by
  intro pins s σ H x y v u Q I rx ry h
  obtain ⟨d, e, hd, he, pd, pe, dp, q⟩ := h
  obtain ⟨as, ra⟩ := pd_reads I d x v hd rx
  obtain ⟨bs, rb⟩ := pd_reads I e y u he ry
  exact SeqAt.compareNe_reads ra rb (plain_lay _ pd) (plain_lay _ pe) (room60 hr dp) ⟨.bl _, H, I, rfl, q⟩
def rInP (K : PySem.W.Frag) (neg : Bool) : R2 := fun x y H Q => ∃ d ds, IsPd K H d x ∧ (IsPd K H (.list ds) y ∨ IsPd K H (.tuple ds) y) ∧ plainP d = true ∧ plainPs ds = true ∧ d.depth ≤ 60 ∧ Q (.bl (if neg then !(ds.any fun e => e.eqv d) else ds.any fun e => e.eqv d)) H
end
end L2
set_option Elab.async false
set_option linter.all false
set_option maxRecDepth 100000
set_option maxHeartbeats 1000000
namespace L2
open PySem PySem.Spec PyProof.Rows
section
variable {prog : Program} {w : World} {A : Around} {E : Value → Shared → Prop} {s : Shared}
theorem entry_dul : entryFor table "dict.update.loop" = some Builtin.«dict.update.loop» := by kernel_rfl
theorem keys_list {l : Addr} {items : Array Value} {n : Nat} {sl : Array (Option Value)} {Q : Option Value → Shared → Prop} (h : s.heap.get? l = some { cls := .type "list", data := .seq items n, slots := sl }) (hh : A.handled = none)
    (q : ∀ h' tk, (∀ b o, s.heap.get? b = some o → h'.get? b = some o) → Q none { s with heap := h', toks := tk }) : wpAny (model prog w) A (getAttr? (.ref l) (Str.ofString "keys")) Q E s := by
  unfold getAttr?
  refine wpAny_bind (wpAny_mkText ?_)
  unfold getAttrBy? getAttrBy
  have ht : Shared.TypeIs { s with toks := s.toks + 1 } (.ref l) "list" := ⟨_, h, rfl⟩
  refine wpAny_bind (wpAny_attempt (wpAny_holding (wpAny_bind (wpAny_typeOf ht ?_))))
  rw [show typeLookup (Value.type "list") (Str.ofString "__getattribute__") = pure (some (.builtin "list.__getattribute__")) from rfl]
  refine wpAny_bind (wpAny_pure ?_)
  show wpAny _ _ (getAttrByItsOwn (.ref l) (.str (Str.ofString "keys") s.toks) (.type "list") (.builtin "list.__getattribute__") false false) _ _ _
  unfold getAttrByItsOwn
  refine wpAny_bind (show wpAny _ _ (pure none) _ _ _ from wpAny_pure ?_)
  refine wpAny_bind (wpAny_attempt (wpAny_holding ?_))
  show wpAny _ _ (boundAndCalled (.builtin "list.__getattribute__") (.ref l) (.str (Str.ofString "keys") s.toks)) _ _ _
  unfold boundAndCalled
  rw [show bindSpecial (.builtin "list.__getattribute__") (.ref l) = pure (Value.builtin "list.__getattribute__", [Value.ref l]) from rfl]
  refine wpAny_bind (wpAny_pure ?_)
  show wpAny _ _ (call (.builtin "list.__getattribute__") [.ref l, .str (Str.ofString "keys") s.toks]) _ _ _
  refine call_meets F.slot_list_getattribute ht am_entry_list_getattribute (F.args_list_getattribute_2 _ _) (meets_getattribute_miss_list l items n sl (Str.ofString "keys") s.toks rfl (by decide +kernel) (by decide +kernel)) ⟨h, hh, fun h' tk e ne => ?_⟩
  obtain ⟨t, u, he⟩ := ne.there
  have hte : Shared.TypeIs { s with heap := h', toks := tk } (.ref e) "AttributeError" := ⟨_, he, rfl⟩
  show wpAny _ _ (getattributeRaised (.ref l) _ (.type "list") (.ref e) none false false) _ _ _
  unfold getattributeRaised
  refine wpAny_bind (wpAny_isInstance hte rfl ?_)
  show wpAny _ _ (hookBehind (.type "list") none >>= _) _ _ _
  rw [show hookBehind (.type "list") none = pure none from rfl]
  refine wpAny_bind (wpAny_pure ?_)
  show wpAny _ _ (throw (Value.ref e) >>= _) _ _ _
  refine wpAny_bind (wpAny_throw ?_)
  show wpAny _ _ (isInstance (.ref e) (.type "AttributeError") >>= _) _ _ _
  refine wpAny_bind (wpAny_isInstance hte rfl ?_)
  exact wpAny_pure (q h' tk ne.keeps)
theorem keys_tuple {l : Addr} {items : Array Value} {n : Nat} {sl : Array (Option Value)} {Q : Option Value → Shared → Prop} (h : s.heap.get? l = some { cls := .type "tuple", data := .seq items n, slots := sl }) (hh : A.handled = none)
    (q : ∀ h' tk, (∀ b o, s.heap.get? b = some o → h'.get? b = some o) → Q none { s with heap := h', toks := tk }) : wpAny (model prog w) A (getAttr? (.ref l) (Str.ofString "keys")) Q E s := by
  unfold getAttr?
  refine wpAny_bind (wpAny_mkText ?_)
  unfold getAttrBy? getAttrBy
  have ht : Shared.TypeIs { s with toks := s.toks + 1 } (.ref l) "tuple" := ⟨_, h, rfl⟩
  refine wpAny_bind (wpAny_attempt (wpAny_holding (wpAny_bind (wpAny_typeOf ht ?_))))
  rw [show typeLookup (Value.type "tuple") (Str.ofString "__getattribute__") = pure (some (.builtin "tuple.__getattribute__")) from rfl]
  refine wpAny_bind (wpAny_pure ?_)
  show wpAny _ _ (getAttrByItsOwn (.ref l) (.str (Str.ofString "keys") s.toks) (.type "tuple") (.builtin "tuple.__getattribute__") false false) _ _ _
  unfold getAttrByItsOwn
  refine wpAny_bind (show wpAny _ _ (pure none) _ _ _ from wpAny_pure ?_)
  refine wpAny_bind (wpAny_attempt (wpAny_holding ?_))
  show wpAny _ _ (boundAndCalled (.builtin "tuple.__getattribute__") (.ref l) (.str (Str.ofString "keys") s.toks)) _ _ _
  unfold boundAndCalled
  rw [show bindSpecial (.builtin "tuple.__getattribute__") (.ref l) = pure (Value.builtin "tuple.__getattribute__", [Value.ref l]) from rfl]
  refine wpAny_bind (wpAny_pure ?_)
  show wpAny _ _ (call (.builtin "tuple.__getattribute__") [.ref l, .str (Str.ofString "keys") s.toks]) _ _ _
  refine call_meets F.slot_tuple_getattribute ht am_entry_tuple_getattribute (F.args_tuple_getattribute_2 _ _) (meets_getattribute_miss_tuple l items n sl (Str.ofString "keys") s.toks rfl (by decide +kernel) (by decide +kernel)) ⟨h, hh, fun h' tk e ne => ?_⟩
  obtain ⟨t, u, he⟩ := ne.there
  have hte : Shared.TypeIs { s with heap := h', toks := tk } (.ref e) "AttributeError" := ⟨_, he, rfl⟩
  show wpAny _ _ (getattributeRaised (.ref l) _ (.type "tuple") (.ref e) none false false) _ _ _
  unfold getattributeRaised
  refine wpAny_bind (wpAny_isInstance hte rfl ?_)
  show wpAny _ _ (hookBehind (.type "tuple") none >>= _) _ _ _
  rw [show hookBehind (.type "tuple") none = pure none from rfl]
  refine wpAny_bind (wpAny_pure ?_)
  show wpAny _ _ (throw (Value.ref e) >>= _) _ _ _
  refine wpAny_bind (wpAny_throw ?_)
  show wpAny _ _ (isInstance (.ref e) (.type "AttributeError") >>= _) _ _ _
  refine wpAny_bind (wpAny_isInstance hte rfl ?_)
  exact wpAny_pure (q h' tk ne.keeps)
theorem quiet_dul (a : Args) : (Code.builtin "dict.update.loop" a).quiet = true := plainId_quiet (by decide +kernel) _
def PairOf (prog : Program) (w : World) (h : Heap) (p : Key × Value) (u : Value) : Prop := ∃ a kv, u = .ref a ∧ h.IsTuple a #[kv, p.2] ∧ (mixKind prog w).is p.1 kv = true
theorem PairOf.kept {h h' : Heap} {p : Key × Value} {u : Value} {L : List Addr} (k : ∀ b o, b ∉ L → h.get? b = some o → h'.get? b = some o) (nt : ∀ b ∈ L, ∀ o, h.get? b = some o → o.cls ≠ .type "tuple") (x : PairOf prog w h p u) : PairOf prog w h' p u := by
  obtain ⟨a, kv, e, ⟨o, h1, h2, n, h3⟩, i⟩ := x
  exact ⟨a, kv, e, ⟨o, k a o (fun z => nt a z o h1 h2) h1, h2, n, h3⟩, i⟩
theorem pair_items {a : Addr} {items : Array Value} {Q : List Value → Shared → Prop} (h : s.heap.IsTuple a items) (q : Q items.toList s) : wpAny (model prog w) A (Builtin.Dict.pairItems (.ref a)) Q E s := by
  obtain ⟨o, h1, h2, n, h3⟩ := h
  unfold Builtin.Dict.pairItems
  refine wpAny_bind (wpAny_typeOf (T := "tuple") ⟨o, h1, h2⟩ ?_)
  show wpAny _ _ (seqItems? (.ref a) >>= _) _ _ _
  exact wpAny_bind (wpAny_seqItems h1 h3 (wpAny_pure q))
theorem dul_list {d it l : Addr} {items : Array Value} (ndi : d ≠ it) (ndl : d ≠ l) (nil' : it ≠ l) : ∀ (ps : List (Key × Value)) (i : Nat) (kvs : List (Key × Value)) (A : Around) (R : Result → Shared → Prop) (s : Shared), A.handled = none → s.heap.IsListIter it l i → s.heap.IsList l items →
    All2 (PairOf prog w s.heap) ps (items.toList.drop i) → Heap.DictOf (mixKind prog w) s.heap d kvs → kvs.length + ps.length ≤ sizeLine →
    (∀ h' tk, Heap.DictOf (mixKind prog w) h' d (ps.foldl (fun acc p => stored acc p.1 p.2) kvs) → (∀ b o, b ≠ d → b ≠ it → s.heap.get? b = some o → h'.get? b = some o) → R (.ok (.ret .none)) { s with heap := h', toks := tk }) →
    codeAny (model prog w) A (Code.builtin "dict.update.loop" { pos := [.ref d, .ref it, .int (i : Nat) 0, .none], kw := [] }) R s
  | [], i, kvs, A, R, s, hh, si, sl, al, dd, hz, q => by
    have hn : items[i]? = none := by
      cases hd : items.toList.drop i with
      | nil =>
        have := List.drop_eq_nil_iff.mp hd
        rw [Array.length_toList] at this
        exact Array.getElem?_eq_none this
      | cons u us => rw [hd] at al; cases al
    refine codeAny_builtin entry_dul ?_
    show wpAny _ _ (pyNext (.ref it) >>= _) _ _ s
    refine wpAny_bind (wpAny_pyNext_list_end (show (A.under _).handled = none from hh) si sl hn fun h' eb => ?_)
    show wpAny _ _ ((do Builtin.Dict.addKeywords d []; ret .none) : Sem PySem.Fin) _ _ _
    refine wpAny_bind (show wpAny _ _ (pure ()) _ _ _ from wpAny_pure ?_)
    have dd' : Heap.DictOf (mixKind prog w) h' d kvs := by
      obtain ⟨o, es, ep, h1, h2⟩ := dd
      exact ⟨o, es, ep, eb d o ndi h1, h2⟩
    exact wpAny_pure (q h' s.toks dd' fun b o _ hb e => eb b o hb e)
  | p :: ps, i, kvs, A, R, s, hh, si, sl, al, dd, hz, q => by
    cases hd : items.toList.drop i with
    | nil => rw [hd] at al; cases al
    | cons u us =>
      rw [hd] at al
      cases al with
      | cons pu al =>
        have hi : items.toList[i]? = some u := by
          have := congrArg (fun l => l[0]?) hd
          simpa using this
        have hu : items[i]? = some u := by simpa using hi
        have hd1 : items.toList.drop (i + 1) = us := by
          have := congrArg List.tail hd
          simpa using this
        obtain ⟨a, kv, rfl, ta, ik⟩ := pu
        refine codeAny_builtin entry_dul ?_
        show wpAny _ _ (pyNext (.ref it) >>= _) _ _ s
        refine wpAny_bind (wpAny_pyNext_list_item si sl hu fun h1 si1 sb1 => ?_)
        have nit : ∀ o, s.heap.get? it = some o → o.cls ≠ .type "tuple" := fun o e z => by
          obtain ⟨o', e', c, _⟩ := si
          rw [e] at e'
          cases e'
          rw [z] at c
          exact absurd c (by decide)
        have ndt : ∀ (h : Heap) (kvs : List (Key × Value)), Heap.DictOf (mixKind prog w) h d kvs → ∀ o, h.get? d = some o → o.cls ≠ .type "tuple" := fun h kvs dd o e z => by
          obtain ⟨o', es, ep, e', c, _⟩ := dd
          rw [e] at e'
          cases e'
          have := c.1
          rw [z] at this
          exact absurd this (by decide)
        have k1 : ∀ b o, b ∉ [it] → s.heap.get? b = some o → h1.get? b = some o := fun b o hb e => (sb1.2 b (fun z => hb (by rw [z]; exact List.mem_singleton.mpr rfl))).trans e
        have ta1 : h1.IsTuple a #[kv, p.2] := by
          obtain ⟨o, e1, e2, e3⟩ := ta
          exact ⟨o, k1 a o (fun z => nit o (List.mem_singleton.mp z ▸ e1) e2) e1, e2, e3⟩
        have al1 : All2 (PairOf prog w h1) ps us := forall2_mono (fun x y z => PairOf.kept k1 (fun b hb o e => nit o (List.mem_singleton.mp hb ▸ e)) z) al
        have dd1 : Heap.DictOf (mixKind prog w) h1 d kvs := by
          obtain ⟨o, es, ep, e1, e2⟩ := dd
          exact ⟨o, es, ep, (sb1.2 d ndi).trans e1, e2⟩
        have sl1 : h1.IsList l items := by
          obtain ⟨o, e1, e2⟩ := sl
          exact ⟨o, (sb1.2 l (Ne.symm nil')).trans e1, e2⟩
        refine wpAny_bind (wpAny_holding (wpAny_bind (wpAny_tryCatch (pair_items (s := { s with heap := h1 }) ta1 ?_))))
        show wpAny _ _ (holding [kv, p.2] (dictSet d kv p.2)) _ _ _
        refine wpAny_holding (wpAny_dictSet_pairs ik dd1 (fun h2 dd2 sb2 => ?_) (Nat.le_trans (Nat.le_add_right _ _) hz))
        refine wpAny_pure ⟨quiet_dul _, ?_⟩
        have k2 : ∀ b o, b ∉ [d] → h1.get? b = some o → h2.get? b = some o := fun b o hb e => (sb2.2 b (fun z => hb (by rw [z]; exact List.mem_singleton.mpr rfl))).trans e
        have al2 : All2 (PairOf prog w h2) ps us := forall2_mono (fun x y z => PairOf.kept k2 (fun b hb o e => ndt h1 kvs dd1 o (List.mem_singleton.mp hb ▸ e)) z) al1
        have si2 : h2.IsListIter it l (i + 1) := by
          obtain ⟨o, e1, e2⟩ := si1
          exact ⟨o, (sb2.2 it (Ne.symm ndi)).trans e1, e2⟩
        have sl2 : h2.IsList l items := by
          obtain ⟨o, e1, e2⟩ := sl1
          exact ⟨o, (sb2.2 l (Ne.symm ndl)).trans e1, e2⟩
        have hz2 : (stored kvs p.1 p.2).length + ps.length ≤ sizeLine := by
          have : (stored kvs p.1 p.2).length ≤ kvs.length + 1 := by
            unfold stored
            split
            · rw [List.length_map]; exact Nat.le_succ _
            · rw [List.length_append]; exact Nat.le_refl _
          rw [List.length_cons] at hz
          omega
        exact dul_list ndi ndl nil' ps (i + 1) (stored kvs p.1 p.2) A R { s with heap := h2, toks := s.toks + 1 } hh si2 sl2 (by rw [hd1]; exact al2) dd2 hz2 fun h' tk dd' kk => q h' tk dd' fun b o hb1 hb2 e => kk b o hb1 hb2 (k2 b o (fun z => hb1 (List.mem_singleton.mp z)) (k1 b o (fun z => hb2 (List.mem_singleton.mp z)) e))
theorem dul_tuple {d it l : Addr} {items : Array Value} (ndi : d ≠ it) (ndl : d ≠ l) (nil' : it ≠ l) : ∀ (ps : List (Key × Value)) (i : Nat) (kvs : List (Key × Value)) (A : Around) (R : Result → Shared → Prop) (s : Shared), A.handled = none → s.heap.IsTupleIter it l i → s.heap.IsTuple l items →
    All2 (PairOf prog w s.heap) ps (items.toList.drop i) → Heap.DictOf (mixKind prog w) s.heap d kvs → kvs.length + ps.length ≤ sizeLine →
    (∀ h' tk, Heap.DictOf (mixKind prog w) h' d (ps.foldl (fun acc p => stored acc p.1 p.2) kvs) → (∀ b o, b ≠ d → b ≠ it → s.heap.get? b = some o → h'.get? b = some o) → R (.ok (.ret .none)) { s with heap := h', toks := tk }) →
    codeAny (model prog w) A (Code.builtin "dict.update.loop" { pos := [.ref d, .ref it, .int (i : Nat) 0, .none], kw := [] }) R s
  | [], i, kvs, A, R, s, hh, si, sl, al, dd, hz, q => by
    have hn : items[i]? = none := by
      cases hd : items.toList.drop i with
      | nil =>
        have := List.drop_eq_nil_iff.mp hd
        rw [Array.length_toList] at this
        exact Array.getElem?_eq_none this
      | cons u us => rw [hd] at al; cases al
    refine codeAny_builtin entry_dul ?_
    show wpAny _ _ (pyNext (.ref it) >>= _) _ _ s
    refine wpAny_bind (wpAny_pyNext_tuple_end (show (A.under _).handled = none from hh) si sl hn fun h' eb => ?_)
    show wpAny _ _ ((do Builtin.Dict.addKeywords d []; ret .none) : Sem PySem.Fin) _ _ _
    refine wpAny_bind (show wpAny _ _ (pure ()) _ _ _ from wpAny_pure ?_)
    have dd' : Heap.DictOf (mixKind prog w) h' d kvs := by
      obtain ⟨o, es, ep, h1, h2⟩ := dd
      exact ⟨o, es, ep, eb d o ndi h1, h2⟩
    exact wpAny_pure (q h' s.toks dd' fun b o _ hb e => eb b o hb e)
  | p :: ps, i, kvs, A, R, s, hh, si, sl, al, dd, hz, q => by
    cases hd : items.toList.drop i with
    | nil => rw [hd] at al; cases al
    | cons u us =>
      rw [hd] at al
      cases al with
      | cons pu al =>
        have hi : items.toList[i]? = some u := by
          have := congrArg (fun l => l[0]?) hd
          simpa using this
        have hu : items[i]? = some u := by simpa using hi
        have hd1 : items.toList.drop (i + 1) = us := by
          have := congrArg List.tail hd
          simpa using this
        obtain ⟨a, kv, rfl, ta, ik⟩ := pu
        refine codeAny_builtin entry_dul ?_
        show wpAny _ _ (pyNext (.ref it) >>= _) _ _ s
        refine wpAny_bind (wpAny_pyNext_tuple_item si sl hu fun h1 si1 sb1 => ?_)
        have nit : ∀ o, s.heap.get? it = some o → o.cls ≠ .type "tuple" := fun o e z => by
          obtain ⟨o', e', c, _⟩ := si
          rw [e] at e'
          cases e'
          rw [z] at c
          exact absurd c (by decide)
        have ndt : ∀ (h : Heap) (kvs : List (Key × Value)), Heap.DictOf (mixKind prog w) h d kvs → ∀ o, h.get? d = some o → o.cls ≠ .type "tuple" := fun h kvs dd o e z => by
          obtain ⟨o', es, ep, e', c, _⟩ := dd
          rw [e] at e'
          cases e'
          have := c.1
          rw [z] at this
          exact absurd this (by decide)
        have k1 : ∀ b o, b ∉ [it] → s.heap.get? b = some o → h1.get? b = some o := fun b o hb e => (sb1.2 b (fun z => hb (by rw [z]; exact List.mem_singleton.mpr rfl))).trans e
        have ta1 : h1.IsTuple a #[kv, p.2] := by
          obtain ⟨o, e1, e2, e3⟩ := ta
          exact ⟨o, k1 a o (fun z => nit o (List.mem_singleton.mp z ▸ e1) e2) e1, e2, e3⟩
        have al1 : All2 (PairOf prog w h1) ps us := forall2_mono (fun x y z => PairOf.kept k1 (fun b hb o e => nit o (List.mem_singleton.mp hb ▸ e)) z) al
        have dd1 : Heap.DictOf (mixKind prog w) h1 d kvs := by
          obtain ⟨o, es, ep, e1, e2⟩ := dd
          exact ⟨o, es, ep, (sb1.2 d ndi).trans e1, e2⟩
        have sl1 : h1.IsTuple l items := by
          obtain ⟨o, e1, e2⟩ := sl
          exact ⟨o, (sb1.2 l (Ne.symm nil')).trans e1, e2⟩
        refine wpAny_bind (wpAny_holding (wpAny_bind (wpAny_tryCatch (pair_items (s := { s with heap := h1 }) ta1 ?_))))
        show wpAny _ _ (holding [kv, p.2] (dictSet d kv p.2)) _ _ _
        refine wpAny_holding (wpAny_dictSet_pairs ik dd1 (fun h2 dd2 sb2 => ?_) (Nat.le_trans (Nat.le_add_right _ _) hz))
        refine wpAny_pure ⟨quiet_dul _, ?_⟩
        have k2 : ∀ b o, b ∉ [d] → h1.get? b = some o → h2.get? b = some o := fun b o hb e => (sb2.2 b (fun z => hb (by rw [z]; exact List.mem_singleton.mpr rfl))).trans e
        have al2 : All2 (PairOf prog w h2) ps us := forall2_mono (fun x y z => PairOf.kept k2 (fun b hb o e => ndt h1 kvs dd1 o (List.mem_singleton.mp hb ▸ e)) z) al1
        have si2 : h2.IsTupleIter it l (i + 1) := by
          obtain ⟨o, e1, e2⟩ := si1
          exact ⟨o, (sb2.2 it (Ne.symm ndi)).trans e1, e2⟩
        have sl2 : h2.IsTuple l items := by
          obtain ⟨o, e1, e2⟩ := sl1
          exact ⟨o, (sb2.2 l (Ne.symm ndl)).trans e1, e2⟩
        have hz2 : (stored kvs p.1 p.2).length + ps.length ≤ sizeLine := by
          have : (stored kvs p.1 p.2).length ≤ kvs.length + 1 := by
            unfold stored
            split
            · rw [List.length_map]; exact Nat.le_succ _
            · rw [List.length_append]; exact Nat.le_refl _
          rw [List.length_cons] at hz
          omega
        exact dul_tuple ndi ndl nil' ps (i + 1) (stored kvs p.1 p.2) A R { s with heap := h2, toks := s.toks + 1 } hh si2 sl2 (by rw [hd1]; exact al2) dd2 hz2 fun h' tk dd' kk => q h' tk dd' fun b o hb1 hb2 e => kk b o hb1 hb2 (k2 b o (fun z => hb1 (List.mem_singleton.mp z)) (k1 b o (fun z => hb2 (List.mem_singleton.mp z)) e))
theorem dictOf_empty {h : Heap} {D : Addr} (e : h.get? D = some { cls := .type "dict", data := .dict #[] }) : Heap.DictOf (mixKind prog w) h D [] := by
  obtain ⟨o, es, ep, e1, r⟩ := Heap.DictOf.new (knd := mixKind prog w) h
  rw [Heap.get?_push_size _ rfl] at e1
  cases e1
  exact ⟨_, es, ep, e, r⟩
theorem dict_init_list {D l : Addr} {items : Array Value} {n : Nat} {sl : Array (Option Value)} {ps : List (Key × Value)} {Q : Shared → Prop} {A' : Around} (hd : s.heap.get? D = some { cls := .type "dict", data := .dict #[] }) (hl : s.heap.get? l = some { cls := .type "list", data := .seq items n, slots := sl }) (hh : A.handled = none) (hh' : A'.handled = none)
    (al : All2 (PairOf prog w s.heap) ps items.toList) (hz : ps.length ≤ sizeLine)
    (q : ∀ h' tk, Heap.DictOf (mixKind prog w) h' D (merged [] ps) → (∀ b o, b ≠ D → s.heap.get? b = some o → h'.get? b = some o) → Q { s with heap := h', toks := tk }) :
    wpAny (model prog w) A (Builtin.«dict.__init__» { pos := [.ref D, .ref l] }) (fun fin s' => match fin with
      | .done f => wants (fun r s₂ => r = Value.none ∧ Q s₂) E (.ok f) s'
      | .again c' => c'.quiet = true ∧ codeAny (model prog w) A' c' (wants (fun r s₂ => r = Value.none ∧ Q s₂) E) s') (fun e s' => wants (fun r s₂ => r = Value.none ∧ Q s₂) E (.error e) s') s := by
  have nl : D ≠ l := fun z => by rw [z, hl] at hd; exact absurd (show Value.type "list" = Value.type "dict" from congrArg Obj.cls (Option.some.inj hd)) (by decide)
  unfold Builtin.«dict.__init__» Builtin.Dict.selfAndRest
  refine wpAny_bind (wpAny_bind (wpAny_notOrdered_dict ⟨_, hd, rfl⟩ ?_))
  refine wpAny_bind (show wpAny _ _ (pure D) _ _ _ from wpAny_pure (wpAny_pure ?_))
  show wpAny _ _ (Builtin.Dict.updateFrom "dict.__init__" D (.ref l) [] .none) _ _ _
  unfold Builtin.Dict.updateFrom
  refine wpAny_bind (wpAny_typeOf (T := "list") ⟨_, hl, rfl⟩ ?_)
  show wpAny _ _ (getAttr? (.ref l) (Str.ofString "keys") >>= _) _ _ _
  refine wpAny_bind (keys_list hl hh fun h1 tk kk => ?_)
  show wpAny _ _ (rule _ >>= _) _ _ _
  refine wpAny_bind (wpAny_rule (wpAny_bind (wpAny_pyIter_list (items := items) ⟨_, kk _ _ hl, rfl, _, rfl⟩ ?_)))
  refine wpAny_pure ⟨quiet_dul _, ?_⟩
  have ltD := Heap.lt_size (kk _ _ hd)
  have ltl := Heap.lt_size (kk _ _ hl)
  have k2 : ∀ b o, s.heap.get? b = some o → (h1.push { cls := .type "list_iterator", data := .fields #[.ref l, .int 0 0] }).get? b = some o := fun b o e => Heap.get?_push_of_some _ (kk b o e)
  refine dul_list (d := D) (it := h1.objs.size) (l := l) (items := items) (Nat.ne_of_lt ltD) nl (Nat.ne_of_gt ltl) ps 0 [] A' _ _ hh' ⟨_, Heap.get?_push_size _ rfl, rfl, rfl⟩ ⟨_, k2 _ _ hl, rfl, _, rfl⟩ ?_ ?_ (by simpa using hz) fun h' tk' dd k3 => ⟨rfl, q h' tk' dd fun b o hb e => k3 b o hb (fun z => ?_) (k2 b o e)⟩
  · rw [List.drop_zero]
    exact forall2_mono (fun x y z => PairOf.kept (L := []) (fun b o _ e => k2 b o e) (fun b hb => absurd hb List.not_mem_nil) z) al
  · exact dictOf_empty (k2 _ _ hd)
  · rw [z] at e
    exact absurd (Heap.lt_size (kk _ _ e)) (Nat.lt_irrefl _)
theorem dict_init_tuple {D l : Addr} {items : Array Value} {n : Nat} {sl : Array (Option Value)} {ps : List (Key × Value)} {Q : Shared → Prop} {A' : Around} (hd : s.heap.get? D = some { cls := .type "dict", data := .dict #[] }) (hl : s.heap.get? l = some { cls := .type "tuple", data := .seq items n, slots := sl }) (hh : A.handled = none) (hh' : A'.handled = none)
    (al : All2 (PairOf prog w s.heap) ps items.toList) (hz : ps.length ≤ sizeLine)
    (q : ∀ h' tk, Heap.DictOf (mixKind prog w) h' D (merged [] ps) → (∀ b o, b ≠ D → s.heap.get? b = some o → h'.get? b = some o) → Q { s with heap := h', toks := tk }) :
    wpAny (model prog w) A (Builtin.«dict.__init__» { pos := [.ref D, .ref l] }) (fun fin s' => match fin with
      | .done f => wants (fun r s₂ => r = Value.none ∧ Q s₂) E (.ok f) s'
      | .again c' => c'.quiet = true ∧ codeAny (model prog w) A' c' (wants (fun r s₂ => r = Value.none ∧ Q s₂) E) s') (fun e s' => wants (fun r s₂ => r = Value.none ∧ Q s₂) E (.error e) s') s := by
  have nl : D ≠ l := fun z => by rw [z, hl] at hd; exact absurd (show Value.type "tuple" = Value.type "dict" from congrArg Obj.cls (Option.some.inj hd)) (by decide)
  unfold Builtin.«dict.__init__» Builtin.Dict.selfAndRest
  refine wpAny_bind (wpAny_bind (wpAny_notOrdered_dict ⟨_, hd, rfl⟩ ?_))
  refine wpAny_bind (show wpAny _ _ (pure D) _ _ _ from wpAny_pure (wpAny_pure ?_))
  show wpAny _ _ (Builtin.Dict.updateFrom "dict.__init__" D (.ref l) [] .none) _ _ _
  unfold Builtin.Dict.updateFrom
  refine wpAny_bind (wpAny_typeOf (T := "tuple") ⟨_, hl, rfl⟩ ?_)
  show wpAny _ _ (getAttr? (.ref l) (Str.ofString "keys") >>= _) _ _ _
  refine wpAny_bind (keys_tuple hl hh fun h1 tk kk => ?_)
  show wpAny _ _ (rule _ >>= _) _ _ _
  refine wpAny_bind (wpAny_rule (wpAny_bind (wpAny_pyIter_tuple (items := items) ⟨_, kk _ _ hl, rfl, _, rfl⟩ ?_)))
  refine wpAny_pure ⟨quiet_dul _, ?_⟩
  have ltD := Heap.lt_size (kk _ _ hd)
  have ltl := Heap.lt_size (kk _ _ hl)
  have k2 : ∀ b o, s.heap.get? b = some o → (h1.push { cls := .type "tuple_iterator", data := .fields #[.ref l, .int 0 0] }).get? b = some o := fun b o e => Heap.get?_push_of_some _ (kk b o e)
  refine dul_tuple (d := D) (it := h1.objs.size) (l := l) (items := items) (Nat.ne_of_lt ltD) nl (Nat.ne_of_gt ltl) ps 0 [] A' _ _ hh' ⟨_, Heap.get?_push_size _ rfl, rfl, rfl⟩ ⟨_, k2 _ _ hl, rfl, _, rfl⟩ ?_ ?_ (by simpa using hz) fun h' tk' dd k3 => ⟨rfl, q h' tk' dd fun b o hb e => k3 b o hb (fun z => ?_) (k2 b o e)⟩
  · rw [List.drop_zero]
    exact forall2_mono (fun x y z => PairOf.kept (L := []) (fun b o _ e => k2 b o e) (fun b hb => absurd hb List.not_mem_nil) z) al
  · exact dictOf_empty (k2 _ _ hd)
  · rw [z] at e
    exact absurd (Heap.lt_size (kk _ _ e)) (Nat.lt_irrefl _)
end
section
variable {X : Cx}
def rDictOf (K : PySem.W.Frag) : List V → Hp → VK → Prop := fun xs H Q => ∃ a ys kvs, xs = [.ref a] ∧ (H a = some (.lst ys) ∨ H a = some (.tup ys)) ∧ All2 (fun (p : Key × V) y => ∃ b, y = .ref b ∧ SqT K H b [kV p.1, p.2]) kvs ys ∧ ∀ p, H p = none → Q (.ref p) (upd H p (.dK (mergeK [] kvs)))
theorem pairs_of {pins : List (Addr × Obj)} {σ : St} {H : Hp} {s : Shared} (I : Inv X pins σ H s) : ∀ {kvs : List (Key × V)} {ys : List V} {its : List Value}, All2 (fun (p : Key × V) y => ∃ b, y = .ref b ∧ SqT X.K H b [kV p.1, p.2]) kvs ys → Vals ys its →
    ∃ ps, KV kvs ps ∧ All2 (PairOf X.prog X.w s.heap) ps its
  | [], _, _, .nil, r => by
    cases r
    exact ⟨[], .nil, .nil⟩
  | p :: kvs, _, _, .cons ⟨b, e, sb⟩ al, r => by
    cases r with
    | cons r1 r2 =>
      subst e
      obtain ⟨ps, h1, h2⟩ := pairs_of I al r2
      obtain ⟨its, rv, tb, _⟩ := I.tuple sb
      cases rv with
      | cons ra rv =>
        cases rv with
        | cons rb rv =>
          cases rv
          rename_i u1 u2
          exact ⟨(p.1, u2) :: ps, .cons ⟨rfl, rb⟩ h1, .cons ⟨b, u1, r1, tb, kV_is ra⟩ h2⟩
theorem mergeK_len (kvs : List (Key × V)) : ∀ more : List (Key × V), (mergeK kvs more).length ≤ kvs.length + more.length
  | [] => Nat.le_refl _
  | p :: more => by
    have h1 := mergeK_len (putK kvs p.1 p.2) more
    have h2 := length_putK kvs p.1 p.2
    show (mergeK (putK kvs p.1 p.2) more).length ≤ _
    rw [List.length_cons]
    omega
theorem call_dictOf (hc : X.calm = true) : CallR X (.type "dict") (rDictOf X.K) := by
  intro pins s σ H xs us Q I r h
  obtain ⟨a, ys, kvs, rfl, ha, al, q⟩ := h
  obtain ⟨u, rfl, ru⟩ := vals1 r
  cases (show u = Value.ref a from ru)
  have hh : X.A.handled = none := I.ok.hd hc
  have hp : H s.heap.objs.size = none := I.hok.fresh (Nat.le_refl _)
  have big := I.big
  have fin : ∀ (ps : List (Key × Value)) (h' : Heap) (tk : Nat), KV kvs ps → kvs.length ≤ sizeLine → Heap.DictOf (mixKind X.prog X.w) h' s.heap.objs.size (merged [] ps) → (∀ b o, b ≠ s.heap.objs.size → (s.heap.push { cls := .type "dict", data := .dict #[] }).get? b = some o → h'.get? b = some o) →
      EP X pins σ Q (.ref s.heap.objs.size) { s with heap := h', toks := tk } := fun ps h' tk kv hz dd kk => by
    refine ⟨.ref s.heap.objs.size, _, I.laid (a := s.heap.objs.size) (o := .dK (mergeK [] kvs)) (h' := h') (t' := tk) (fun b o e => kk b o (Nat.ne_of_lt (Heap.lt_size e)) (Heap.get?_push_of_some _ e)) (Nat.le_refl _) ?_, rfl, q _ hp⟩
    exact dk_new (Nat.le_trans (mergeK_len [] kvs) (by simpa using hz)) (beq_eq_false_iff_ne.mpr (Ne.symm (Nat.ne_of_lt big))) (KV.merge kv .nil) dd
  have len : ys.length = kvs.length := forall2_len al
  rcases ha with ha | ha
  · obtain ⟨z, its, n, rv, hl, e⟩ := I.lstM ha
    obtain ⟨ps, kv, pa⟩ := pairs_of I al rv
    refine callType_codes F.kt_called_dict (F.kt_typeCall_dict_1 _) F.entry_dict_init (kt_code_dict_new _ (Q₁ := fun obj s₁ => obj = .ref s.heap.objs.size ∧ s₁ = { s with heap := s.heap.push { cls := .type "dict", data := .dict #[] } }) ⟨rfl, rfl⟩) ?_
    rintro obj s₁ ⟨rfl, rfl⟩
    refine ⟨⟨_, Heap.get?_push_size _ rfl, rfl⟩, F.args_dict_init_2 _ _, ?_⟩
    refine dict_init_list (s := { s with heap := s.heap.push { cls := .type "dict", data := .dict #[] } }) (Heap.get?_push_size _ rfl) (Heap.get?_push_of_some _ e) hh hh (by simpa using forall2_mono (fun x y z => PairOf.kept (L := []) (fun b o _ e => Heap.get?_push_of_some _ e) (fun b hb => absurd hb List.not_mem_nil) z) pa) (by rw [← Paired.length kv, ← len]; exact z) fun h' tk dd kk => fin ps h' tk kv (by rw [← len]; exact z) dd kk
  · obtain ⟨z, its, rv, ⟨o, e1, e2, n, e3⟩, o2, e4, e5⟩ := I.hok a _ ha
    rw [e1] at e4
    cases e4
    obtain ⟨ps, kv, pa⟩ := pairs_of I al rv
    obtain ⟨oc, od, oda, osl⟩ := o
    dsimp only at e2 e3 e5
    subst e2 e3 e5
    refine callType_codes F.kt_called_dict (F.kt_typeCall_dict_1 _) F.entry_dict_init (kt_code_dict_new _ (Q₁ := fun obj s₁ => obj = .ref s.heap.objs.size ∧ s₁ = { s with heap := s.heap.push { cls := .type "dict", data := .dict #[] } }) ⟨rfl, rfl⟩) ?_
    rintro obj s₁ ⟨rfl, rfl⟩
    refine ⟨⟨_, Heap.get?_push_size _ rfl, rfl⟩, F.args_dict_init_2 _ _, ?_⟩
    refine dict_init_tuple (s := { s with heap := s.heap.push { cls := .type "dict", data := .dict #[] } }) (Heap.get?_push_size _ rfl) (Heap.get?_push_of_some _ e1) hh hh (by simpa using forall2_mono (fun x y z => PairOf.kept (L := []) (fun b o _ e => Heap.get?_push_of_some _ e) (fun b hb => absurd hb List.not_mem_nil) z) pa) (by rw [← Paired.length kv, ← len]; exact z) fun h' tk dd kk => fin ps h' tk kv (by rw [← len]; exact z) dd kk
end
end L2
set_option Elab.async false
set_option linter.all false
set_option maxRecDepth 100000
set_option maxHeartbeats 1000000
namespace L2
open PySem PySem.Spec PyProof.Rows
section
variable {X : Cx}
def rNeD0 : R2 := fun x y H Q => ∃ a b kvs, x = .ref a ∧ y = .ref b ∧ H a = some (.dK kvs) ∧ H b = some (.dK []) ∧ Q (.bl (decide (kvs ≠ []))) H
theorem op_neD0 (hu : X.A.units + 1 < cLine) : OpR X (compareOp .NotEq) rNeD0 := by
  intro pins s σ H x y v u Q I rx ry h
  obtain ⟨a, b, kvs, rfl, rfl, ha, hb, q⟩ := h
  cases rx
  cases ry
  obtain ⟨_, la, vs, rv, da⟩ := dk_of I.hok ha
  obtain ⟨_, lb, us, ru, db⟩ := dk_of I.hok hb
  have hus : us = [] := by have := ru.length; exact List.length_eq_zero_iff.mp (by simpa using this.symm)
  subst hus
  refine PySem.W.keq_ne (r := true) la lb da db (Nat.lt_of_succ_lt hu) (fun e => ?_) ⟨.bl _, H, I, ?_, q⟩
  · have : vs = [] := List.length_eq_zero_iff.mp e
    rw [this]
    exact .nil
  · show Value.bool _ = Value.bool _
    congr 1
    have hl : kvs.length = vs.length := rv.length
    cases kvs with
    | nil =>
      have : vs = [] := List.length_eq_zero_iff.mp hl.symm
      rw [this]
      rfl
    | cons p r =>
      cases vs with
      | nil => cases hl
      | cons p r => rfl
end
end L2
set_option Elab.async false
set_option linter.all false
set_option maxRecDepth 100000
set_option maxHeartbeats 400000
namespace L2
open PySem PySem.Spec PyProof.Rows
structure RunsR (S : Hp → Hp → Prop) (J : It) (H1 : Hp) (n : Nat) (Item : Nat → V → Hp → Prop) : Prop where
  go : ∀ i, i < n → ∀ H, S H1 H → J.go i H
  stop : ∀ H, S H1 H → J.stop n H
  item : ∀ i, i < n → ∀ H v H', S H1 H → J.yld i H v H' → S H H' ∧ Item i v H'
theorem compG_rel {S : Hp → Hp → Prop} {J : It} {H1 : Hp} {n m : Nat} {Item : Nat → V → Hp → Prop} {fr : List (Nat × Str)} {g : TG} {tc : TT} {te : TE} {σ : St} {Q : VK} (s0 : S H1 H1) (st : ∀ a b c, S a b → S b c → S a c) (p : Nat → Bool) (R : Nat → V → Hp → Prop) (hR : ∀ i y H H', S H H' → R i y H → R i y H') (r : RunsR S J H1 n Item) (hn : n ≤ sizeLine)
    (body : ∀ i, i < n → ∀ v H, S H1 H → Item i v H → ∀ (KT : VK) (KF : Hp → Prop), (p i = true → ∀ y H', S H H' → R i y H' → KT y H') → (p i = false → ∀ H', S H H' → KF H') →
      g v (cStG σ fr (List.replicate m none)) H fun σ6 H6 => ∃ us, us.length = m ∧ σ6 = cStG σ fr us ∧ tc (cStG σ fr us) H6 fun b H2 => if b = true then te (cStG σ fr us) H2 KT else KF H2)
    (hQ : ∀ l H' ys, S H1 H' → H' l = none → All2 (fun i y => R i y H') ((List.range n).filter p) ys → Q (.ref l) (upd H' l (.lst ys))) :
    ∃ W : Nat → Nat → List V → Hp → Prop, (∃ m, W 0 m [] H1) ∧ ∀ i k ys H, W i k ys H →
      (J.stop i H ∧ ys.length ≤ sizeLine ∧ ∀ p, H p = none → Q (.ref p) (upd H p (.lst ys))) ∨
      (J.go i H ∧ ys.length ≤ sizeLine ∧ ∀ v H', J.yld i H v H' → g v (cStG σ fr (List.replicate m none)) H' fun σ6 H6 => ∃ us, us.length = m ∧ σ6 = cStG σ fr us ∧ tc (cStG σ fr us) H6 fun b H2 => if b = true then te (cStG σ fr us) H2 fun y H3 => ∃ m', m' < k ∧ W (i + 1) m' (ys ++ [y]) H3 else ∃ m', m' < k ∧ W (i + 1) m' ys H2) := by
  refine ⟨fun i k ys H' => k = n - i ∧ i ≤ n ∧ S H1 H' ∧ All2 (fun i y => R i y H') ((List.range i).filter p) ys, ⟨n, by simp, Nat.zero_le _, s0, .nil⟩, ?_⟩
  rintro i k ys H' ⟨rfl, hi, sm, fa⟩
  have hl2 : ys.length ≤ sizeLine := by
    rw [forall2_len fa]
    have := List.length_filter_le p (List.range i)
    rw [List.length_range] at this
    omega
  by_cases hlt : i < n
  · refine .inr ⟨r.go i hlt H' sm, hl2, fun v H2 y => ?_⟩
    obtain ⟨s2, it⟩ := r.item i hlt H' v H2 sm y
    refine body i hlt v H2 (st _ _ _ sm s2) it _ _ (fun hp y H3 s3 ry => ⟨n - (i + 1), by omega, rfl, hlt, st _ _ _ (st _ _ _ sm s2) s3, ?_⟩) (fun hp H3 s3 => ⟨n - (i + 1), by omega, rfl, hlt, st _ _ _ (st _ _ _ sm s2) s3, ?_⟩)
    · rw [range_filter_succ, if_pos hp]
      exact forall2_snoc (forall2_mono (fun a b z => hR a b _ _ (st _ _ _ s2 s3) z) fa) ry
    · rw [range_filter_succ, if_neg (by rw [hp]; decide), List.append_nil]
      exact forall2_mono (fun a b z => hR a b _ _ (st _ _ _ s2 s3) z) fa
  · have e : i = n := by omega
    subst e
    exact .inl ⟨r.stop H' sm, hl2, fun l hl => hQ l H' ys sm hl fa⟩
theorem runsR_list {S : Hp → Hp → Prop} {K : PySem.W.Frag} {a : Addr} {xs : List V} {H1 : Hp} (hs : ∀ H, S H1 H → S H H) (hq : ∀ H, S H1 H → SqL K H a xs) : RunsR S (Itl K a) H1 xs.length (fun i v _ => xs[i]? = some v) :=
  ⟨fun i hi H s => ⟨xs, xs[i], hq H s, by simp [hi]⟩, fun H s => ⟨xs, hq H s, Nat.le_refl _⟩, fun i hi H v H' s y => by
    obtain ⟨e, y⟩ := y
    subst e
    exact ⟨hs _ s, y xs (hq _ s)⟩⟩
theorem runsR_tup {S : Hp → Hp → Prop} {K : PySem.W.Frag} {a : Addr} {xs : List V} {H1 : Hp} (hs : ∀ H, S H1 H → S H H) (hq : ∀ H, S H1 H → SqT K H a xs) : RunsR S (Itt K a) H1 xs.length (fun i v _ => xs[i]? = some v) :=
  ⟨fun i hi H s => ⟨xs, xs[i], hq H s, by simp [hi]⟩, fun H s => ⟨xs, hq H s, Nat.le_refl _⟩, fun i hi H v H' s y => by
    obtain ⟨e, y⟩ := y
    subst e
    exact ⟨hs _ s, y xs (hq _ s)⟩⟩
theorem tcompR_list {S : Hp → Hp → Prop} {K : PySem.W.Frag} {a : Addr} {xs : List V} {tl te : TE} {tc : TT} {g : TG} {m : Nat} {fr : List (Nat × Str)} {σ : St} {H H1 : Hp} {Q : VK} (R : V → V → Hp → Prop) (s0 : S H1 H1) (st : ∀ a b c, S a b → S b c → S a c) (hs : ∀ H, S H1 H → S H H) (hR : ∀ x y H H', S H H' → R x y H → R x y H')
    (htl : ∀ R : VK, R (.ref a) H1 → tl σ H R) (hq : ∀ H, S H1 H → SqL K H a xs) (hn : xs.length ≤ sizeLine)
    (body : ∀ v ∈ xs, ∀ H, S H1 H → ∀ KT : VK, (∀ y H', S H H' → R v y H' → KT y H') → ∀ KF : Hp → Prop,
      g v (cStG σ fr (List.replicate m none)) H fun σ6 H6 => ∃ us, us.length = m ∧ σ6 = cStG σ fr us ∧ tc (cStG σ fr us) H6 fun b H2 => if b = true then te (cStG σ fr us) H2 KT else KF H2)
    (hQ : ∀ l H' ys, S H1 H' → H' l = none → All2 (fun x y => R x y H') xs ys → Q (.ref l) (upd H' l (.lst ys))) : tCompG (iList K tl) m fr g tc te σ H Q := by
  refine htl _ ⟨a, rfl, ⟨xs, hq _ s0⟩, compG_rel s0 st (fun _ => true) (fun i y H => R (xs[i]?.getD .non) y H) (fun i y H H' s z => hR _ _ _ _ s z) (runsR_list hs hq) hn (fun i hi v H s it KT KF h1 h2 => ?_) fun l H' ys s hl fa => hQ l H' ys s hl ?_⟩
  · refine body v (List.mem_of_getElem? it) H s KT (fun y H' s' ry => h1 rfl y H' s' ?_) KF
    rw [it]
    exact ry
  · rw [List.filter_eq_self.mpr (fun _ _ => rfl)] at fa
    have go : ∀ (is : List Nat) (ys : List V), All2 (fun i y => R (xs[i]?.getD .non) y H') is ys → All2 (fun x y => R x y H') (is.map fun i => xs[i]?.getD .non) ys := by
      intro is
      induction is with
      | nil => intro ys h; cases h; exact .nil
      | cons i is ih => intro ys h; cases h with | cons a r => exact .cons a (ih _ r)
    have h := go _ _ fa
    have e : (List.range xs.length).map (fun i => xs[i]?.getD V.non) = xs := by
      apply List.ext_getElem
      · simp
      · intro i h1 h2
        simp only [List.getElem_map, List.getElem_range, List.getElem?_eq_getElem h2, Option.getD_some]
    rwa [e] at h
theorem all2_range {R : V → V → Prop} {xs ys : List V} (fa : All2 (fun (i : Nat) y => R (xs[i]?.getD .non) y) (List.range xs.length) ys) : All2 R xs ys := by
  have go : ∀ (is : List Nat) (ys : List V), All2 (fun i y => R (xs[i]?.getD .non) y) is ys → All2 R (is.map fun i => xs[i]?.getD .non) ys := by
    intro is
    induction is with
    | nil => intro ys h; cases h; exact .nil
    | cons i is ih => intro ys h; cases h with | cons a r => exact .cons a (ih _ r)
  have h := go _ _ fa
  have e : (List.range xs.length).map (fun i => xs[i]?.getD V.non) = xs := by
    apply List.ext_getElem
    · simp
    · intro i h1 h2
      simp only [List.getElem_map, List.getElem_range, List.getElem?_eq_getElem h2, Option.getD_some]
  rwa [e] at h
theorem tcompR_tup {S : Hp → Hp → Prop} {K : PySem.W.Frag} {a : Addr} {xs : List V} {tl te : TE} {tc : TT} {g : TG} {m : Nat} {fr : List (Nat × Str)} {σ : St} {H H1 : Hp} {Q : VK} (R : V → V → Hp → Prop) (s0 : S H1 H1) (st : ∀ a b c, S a b → S b c → S a c) (hs : ∀ H, S H1 H → S H H) (hR : ∀ x y H H', S H H' → R x y H → R x y H')
    (htl : ∀ R : VK, R (.ref a) H1 → tl σ H R) (hq : ∀ H, S H1 H → SqT K H a xs) (hn : xs.length ≤ sizeLine)
    (body : ∀ v ∈ xs, ∀ H, S H1 H → ∀ KT : VK, (∀ y H', S H H' → R v y H' → KT y H') → ∀ KF : Hp → Prop,
      g v (cStG σ fr (List.replicate m none)) H fun σ6 H6 => ∃ us, us.length = m ∧ σ6 = cStG σ fr us ∧ tc (cStG σ fr us) H6 fun b H2 => if b = true then te (cStG σ fr us) H2 KT else KF H2)
    (hQ : ∀ l H' ys, S H1 H' → H' l = none → All2 (fun x y => R x y H') xs ys → Q (.ref l) (upd H' l (.lst ys))) : tCompG (iTup K tl) m fr g tc te σ H Q := by
  refine htl _ ⟨a, rfl, ⟨xs, hq _ s0⟩, compG_rel s0 st (fun _ => true) (fun i y H => R (xs[i]?.getD .non) y H) (fun i y H H' s z => hR _ _ _ _ s z) (runsR_tup hs hq) hn (fun i hi v H s it KT KF h1 h2 => ?_) fun l H' ys s hl fa => hQ l H' ys s hl ?_⟩
  · refine body v (List.mem_of_getElem? it) H s KT (fun y H' s' ry => h1 rfl y H' s' ?_) KF
    rw [it]
    exact ry
  · rw [List.filter_eq_self.mpr (fun _ _ => rfl)] at fa
    exact all2_range (R := fun x y => R x y H') fa
end L2
set_option Elab.async false
set_option linter.all false
set_option maxRecDepth 100000
set_option maxHeartbeats 400000
namespace L2
open PySem PySem.Spec PyProof.Rows
def Ris (xs : Array Nat) : Prop := xs.toList.Pairwise (· < ·)
theorem Ris.lt {xs : Array Nat} (r : Ris xs) {i k : Nat} (h : i < k) (hk : k < xs.size) : xs[i]'(Nat.lt_trans h hk) < xs[k] := by
  have := (List.pairwise_iff_getElem.mp r) i k (by simpa using Nat.lt_trans h hk) (by simpa using hk) h
  simpa using this
theorem getD_in {xs : Array Nat} {i d : Nat} (h : i < xs.size) : xs.getD i d = xs[i] := by simp [Array.getD, h]
theorem below_go {xs : Array Nat} {j : Nat} (r : Ris xs) : ∀ (f lo hi : Nat), lo ≤ hi → hi ≤ xs.size → hi - lo ≤ f → (∀ i (h : i < xs.size), i < lo → xs[i] < j) → (∀ i (h : i < xs.size), hi ≤ i → j ≤ xs[i]) →
    SetTable.below.go xs j f lo hi ≤ xs.size ∧ (∀ i (h : i < xs.size), i < SetTable.below.go xs j f lo hi → xs[i] < j) ∧ (∀ i (h : i < xs.size), SetTable.below.go xs j f lo hi ≤ i → j ≤ xs[i])
  | 0, lo, hi, h1, h2, h3, ha, hb => by
    have : lo = hi := by omega
    subst this
    exact ⟨h2, ha, hb⟩
  | f + 1, lo, hi, h1, h2, h3, ha, hb => by
    unfold SetTable.below.go
    by_cases z : lo < hi
    · rw [if_pos z]
      have hm : (lo + hi) / 2 < xs.size := by omega
      dsimp only
      rw [getD_in hm]
      by_cases y : xs[(lo + hi) / 2] < j
      · rw [if_pos y]
        refine below_go r f _ _ (by omega) h2 (by omega) (fun i h hi' => ?_) hb
        by_cases e : i = (lo + hi) / 2
        · subst e; exact y
        · exact Nat.lt_trans (r.lt (by omega) hm) y
      · rw [if_neg y]
        refine below_go r f _ _ (by omega) (by omega) (by omega) ha fun i h hi' => ?_
        by_cases e : i = (lo + hi) / 2
        · subst e; omega
        · exact Nat.le_trans (Nat.not_lt.mp y) (Nat.le_of_lt (r.lt (by omega) h))
    · rw [if_neg z]
      have : lo = hi := by omega
      subst this
      exact ⟨h2, ha, hb⟩
theorem below_spec {xs : Array Nat} (r : Ris xs) (j : Nat) : SetTable.below xs j ≤ xs.size ∧ (∀ i (h : i < xs.size), i < SetTable.below xs j → xs[i] < j) ∧ (∀ i (h : i < xs.size), SetTable.below xs j ≤ i → j ≤ xs[i]) :=
  below_go r _ _ _ (Nat.zero_le _) (Nat.le_refl _) (Nat.le_refl _) (fun i h z => absurd z (Nat.not_lt_zero _)) (fun i h z => absurd h (Nat.not_lt.mpr z))
theorem insertAt_toList {α : Type} (xs : Array α) (p : Nat) (x : α) (hp : p ≤ xs.size) : (SetTable.insertAt xs p x).toList = xs.toList.take p ++ x :: xs.toList.drop p := by
  unfold SetTable.insertAt
  simp [List.take_of_length_le]
theorem Ris.insert {xs : Array Nat} (r : Ris xs) {j : Nat} (h : ¬ xs[SetTable.below xs j]? = some j) : Ris (SetTable.insertAt xs (SetTable.below xs j) j) := by
  obtain ⟨h1, h2, h3⟩ := below_spec r j
  unfold Ris
  rw [insertAt_toList _ _ _ h1]
  refine List.pairwise_append.mpr ⟨r.sublist (List.take_sublist _ _), List.pairwise_cons.mpr ⟨fun y hy => ?_, r.sublist (List.drop_sublist _ _)⟩, fun a ha b hb => ?_⟩
  · obtain ⟨i, hi, e⟩ := List.mem_drop_iff_getElem.mp hy
    have hi' : SetTable.below xs j + i < xs.size := by simpa [Nat.add_comm] using hi
    have e' : xs[SetTable.below xs j + i] = y := by simpa using e
    have le := h3 _ hi' (by omega)
    rw [e'] at le
    rcases Nat.lt_or_eq_of_le le with z | z
    · exact z
    · exfalso
      have hb : SetTable.below xs j < xs.size := by omega
      have ge := h3 _ hb (Nat.le_refl _)
      have : xs[SetTable.below xs j] = j := by
        by_cases i0 : i = 0
        · subst i0; exact e'.trans z.symm
        · have := r.lt (show SetTable.below xs j < SetTable.below xs j + i by omega) hi'
          rw [e'] at this
          omega
      exact h (by rw [Array.getElem?_eq_getElem hb, this])
  · obtain ⟨i, hi, e⟩ := List.mem_take_iff_getElem.mp ha
    have hi2 : i < xs.size := by have := hi; simp at this; omega
    have hi3 : i < SetTable.below xs j := by have := hi; simp at this; omega
    have lt := h2 i hi2 hi3
    have e' : xs[i] = a := by simpa using e
    rw [e'] at lt
    rcases List.mem_cons.mp hb with z | z
    · rw [z]; exact lt
    · obtain ⟨k, hk, e2⟩ := List.mem_drop_iff_getElem.mp z
      have hk' : SetTable.below xs j + k < xs.size := by simpa [Nat.add_comm] using hk
      have e2' : xs[SetTable.below xs j + k] = b := by simpa using e2
      have := h3 _ hk' (by omega)
      rw [e2'] at this
      omega
theorem ris_range (n : Nat) : Ris (Array.range n) := by
  unfold Ris
  rw [Array.toList_range]
  exact List.pairwise_lt_range
def Untaken (t : SetTable) (j : Nat) : Prop := ¬ t.place[SetTable.below t.place j]? = some j
theorem untaken_of {t : SetTable} {j : Nat} (h : ∀ i, t.slot j ≠ .live i) : Untaken t j := fun e => by
  refine h (SetTable.below t.place j) ?_
  unfold SetTable.slot
  dsimp only
  rw [if_pos (by rw [e]; exact beq_self_eq_true _)]
theorem probe_free {t : SetTable} {hs : Nat → Int} {h : Int} : ∀ (f : Nat) (p : SetTable.Probe) (j : Nat) (d : Option Nat), (∀ k, p.dummy = some k → Untaken t k) → SetTable.probe.go t hs h f p = some (.empty j d) → Untaken t j ∧ ∀ k, d = some k → Untaken t k
  | 0, p, j, d, hd, e => by cases e
  | f + 1, p, j, d, hd, e => by
    unfold SetTable.probe.go at e
    cases q : t.slot p.j with
    | empty =>
      rw [q] at e
      cases e
      exact ⟨untaken_of (fun i z => by rw [q] at z; cases z), hd⟩
    | dummy =>
      rw [q] at e
      refine probe_free f _ j d (fun k z => ?_) e
      unfold SetTable.advance at z
      dsimp only at z
      split at z <;> (cases z; exact untaken_of fun i z => by rw [q] at z; cases z)
    | live i =>
      rw [q] at e
      dsimp only at e
      split at e
      · cases e
      · refine probe_free f _ j d (fun k z => ?_) e
        unfold SetTable.advance at z
        dsimp only at z
        split at z <;> exact hd k z
theorem freeSlot_un {t : SetTable} {h : Int} {s : Nat} {b : Bool} (e : t.freeSlot h = some (s, b)) : Untaken t s := by
  unfold SetTable.freeSlot at e
  cases q : t.probe (fun _ => h + 1) h (t.probeStart h) with
  | none => rw [q] at e; cases e
  | some m =>
    rw [q] at e
    cases m with
    | candidate a b c => cases e
    | empty j d =>
      have := probe_free _ _ j d (fun k z => by cases z) q
      cases e
      cases d with
      | none => exact this.1
      | some k => exact this.2 k rfl
def Tidy (l : Bool) (t : SetTable) : Prop := t.led = l ∧ Ris t.place
theorem Tidy.standIn {l : Bool} {t : SetTable} (h : Tidy l t) (n : Nat) : Tidy l (t.standIn n) := ⟨h.1, ris_range n⟩
theorem Tidy.layNew {l : Bool} {t : SetTable} (h : Tidy l t) (es : Array (Int × Value)) (k : Int) (x : Value) : Tidy l (layNew t es k x).2.1 := by
  unfold PySem.layNew
  cases q : t.freeSlot k with
  | none => exact h.standIn _
  | some s =>
    obtain ⟨s, b⟩ := s
    dsimp only
    have ht : Tidy l (t.put s).1 := ⟨h.1, Ris.insert h.2 (freeSlot_un q)⟩
    unfold SetTable.orStandIn
    split
    · exact ht
    · exact ht.standIn _
theorem Tidy.relayAll {l : Bool} {t : SetTable} (h : Tidy l t) (es : Array (Int × Value)) (n : Nat) : Tidy l (relayAll t es n).2.1 := by
  unfold PySem.relayAll
  cases q : t.relaid (es.map (·.1)) n with
  | none => exact h.standIn _
  | some p =>
    obtain ⟨t', o⟩ := p
    dsimp only
    split
    · unfold SetTable.relaid SetTable.laid at q
      cases q2 : SetTable.layClean (SetTable.sizeAbove n - 1) (es.map (·.1)) with
      | none => rw [q2] at q; cases q
      | some ow =>
        rw [q2] at q
        cases q
        refine ⟨h.1, ?_⟩
        show (List.map _ _).Pairwise _
        rw [List.pairwise_map]
        refine List.Pairwise.filterMap _ (fun a b hab c hc d hd => ?_) (List.pairwise_lt_range)
        obtain ⟨c', _, e1⟩ := Option.map_eq_some_iff.mp hc
        obtain ⟨d', _, e2⟩ := Option.map_eq_some_iff.mp hd
        rw [← e1, ← e2]
        exact hab
    · exact h.standIn _
theorem Ris.next {xs : Array Nat} (r : Ris xs) {i : Nat} (h : i < xs.size) : SetTable.below xs (xs[i] + 1) = i + 1 := by
  obtain ⟨h1, h2, h3⟩ := below_spec r (xs[i] + 1)
  apply Nat.le_antisymm
  · apply Nat.le_of_not_lt
    intro z
    have hs : i + 1 < xs.size := by omega
    have := h2 (i + 1) hs z
    have := r.lt (show i < i + 1 by omega) hs
    omega
  · apply Nat.le_of_not_lt
    intro z
    have := h3 i h (by omega)
    omega
theorem Ris.first {xs : Array Nat} (r : Ris xs) : SetTable.below xs 0 = 0 := by
  obtain ⟨h1, h2, h3⟩ := below_spec r 0
  apply Nat.eq_zero_of_not_pos
  intro z
  exact absurd (h2 0 (by omega) z) (Nat.not_lt_zero _)
end L2
set_option Elab.async false
set_option linter.all false
set_option maxRecDepth 100000
set_option maxHeartbeats 1000000
namespace L2
open PySem PySem.Spec PyProof.Rows
def intOf : Value → Int
  | .int i _ => i
  | _ => 0
theorem ints_are {vs : List Value} {ns : List Int} (h : IntsAre vs ns) : ns = vs.map intOf ∧ ∀ v ∈ vs, ∃ i t, v = .int i t := by
  induction h with
  | nil => exact ⟨rfl, fun v hv => by cases hv⟩
  | cons n t r ih =>
    refine ⟨by rw [ih.1]; rfl, fun v hv => ?_⟩
    rcases List.mem_cons.mp hv with e | hv
    · exact ⟨n, t, e⟩
    · exact ih.2 v hv
theorem are_ints : ∀ vs : List Value, (∀ v ∈ vs, ∃ i t, v = .int i t) → IntsAre vs (vs.map intOf)
  | [], _ => .nil
  | v :: vs, h => by
    obtain ⟨i, t, e⟩ := h v (.head _)
    subst e
    exact .cons i t (are_ints vs fun v hv => h v (.tail _ hv))
theorem ints_perm {vs vs' : List Value} {ns : List Int} (h : IntsAre vs ns) (p : vs'.Perm vs) : ∃ ns', IntsAre vs' ns' ∧ ns'.Perm ns := by
  obtain ⟨e, k⟩ := ints_are h
  refine ⟨vs'.map intOf, are_ints vs' fun v hv => k v (p.mem_iff.mp hv), ?_⟩
  rw [e]
  exact p.map _
theorem ints_len {vs : List Value} {ns : List Int} (h : IntsAre vs ns) : ns.length = vs.length := by rw [(ints_are h).1, List.length_map]
theorem ints_snoc {vs : List Value} {ns : List Int} (h : IntsAre vs ns) (n : Int) (t : Tok) : IntsAre (vs ++ [.int n t]) (ns ++ [n]) := by
  induction h with
  | nil => exact .cons n t .nil
  | cons m u r ih => exact .cons m u ih
section
variable {prog : Program} {w : World} {A : Around} {E : Value → Shared → Prop} {s : Shared}
def SetAt (prog : Program) (w : World) (l : Bool) (h : Heap) (a : Addr) (ns : List Int) : Prop :=
  ∃ es ep t, h.get? a = some { cls := .type "set", dict := none, data := .set es ep t, slots := #[] } ∧ ElemsOf (intKind prog w) es.toList ∧ IntsAre (es.toList.map (·.2)) ns ∧ ns.Nodup ∧ es.size < scanBound ∧ t.fits es.size = true ∧ Tidy l t
theorem setAt_put {l : Bool} {h : Heap} {a : Addr} {es0 es : Array (Int × Value)} {ep : Nat} {t0 t : SetTable} {ns : List Int} (ho : h.get? a = some { cls := .type "set", dict := none, data := .set es0 ep t0, slots := #[] })
    (hel : ElemsOf (intKind prog w) es.toList) (hi : IntsAre (es.toList.map (·.2)) ns) (nd : ns.Nodup) (hb : es.size < scanBound) (hf : t.fits es.size = true) (ht : Tidy l t) :
    (h.update a (Obj.putSet es t)).get? a = some { cls := .type "set", dict := none, data := .set es (ep + 1) t, slots := #[] } ∧ SetAt prog w l (h.update a (Obj.putSet es t)) a ns := by
  have g : (h.update a (Obj.putSet es t)).get? a = some { cls := .type "set", dict := none, data := .set es (ep + 1) t, slots := #[] } := Heap.get?_update_self (Obj.putSet es t) ho rfl
  exact ⟨g, es, ep + 1, t, g, hel, hi, nd, hb, hf, ht⟩
theorem find_not {es : List (Int × Value)} {ns : List Int} {v : Int} (hi : IntsAre (es.map (·.2)) ns) (h : es.findIdx? (fun e => (intKind prog w).is v e.2) = none) : ¬ v ∈ ns := fun hv => by
  obtain ⟨e, k⟩ := ints_are hi
  rw [e] at hv
  obtain ⟨y, hy, e2⟩ := List.mem_map.mp hv
  obtain ⟨p, hp, e3⟩ := List.mem_map.mp hy
  obtain ⟨i, t, e4⟩ := k y hy
  have := List.findIdx?_eq_none_iff.mp h p hp
  have e5 : v = i := by rw [← e2, e4]; rfl
  have : (intKind prog w).is v p.2 = false := by simpa using this
  rw [e3, e4, e5, intKind_is] at this
  cases this
theorem find_in {es : List (Int × Value)} {ns : List Int} {v : Int} {j : Nat} (hi : IntsAre (es.map (·.2)) ns) (h : es.findIdx? (fun e => (intKind prog w).is v e.2) = some j) : v ∈ ns := by
  obtain ⟨hj, hp, _⟩ := List.findIdx?_eq_some_iff_getElem.mp h
  obtain ⟨t, e⟩ := Value.isInt_shape (show Value.isInt v es[j].2 = true from hp)
  rw [(ints_are hi).1]
  exact List.mem_map.mpr ⟨es[j].2, List.mem_map.mpr ⟨es[j], List.getElem_mem hj, rfl⟩, by rw [e]; rfl⟩
theorem nodup_snoc {ns : List Int} {v : Int} (h : ns.Nodup) (n : ¬ v ∈ ns) : (ns ++ [v]).Nodup := by
  refine List.nodup_append.mpr ⟨h, by simp, fun a ha b hb e => ?_⟩
  rw [List.mem_singleton.mp hb] at e
  exact n (e ▸ ha)
def addI (ns : List Int) (v : Int) : List Int := if v ∈ ns then ns else ns ++ [v]
theorem set_add {l : Bool} {a : Addr} {v : Int} {tk : Tok} {ns : List Int} {Q : Bool → Shared → Prop} (hS : SetAt prog w l s.heap a ns) (hroom : ns.length + 1 < scanBound)
    (h : ∀ b h' ns', Heap.SameBut a s.heap h' → SetAt prog w l h' a ns' → ns'.Perm (addI ns v) → Q b { s with heap := h' }) : wpAny (model prog w) A (setAddHashed a (.int v tk) ((intKind prog w).hash v)) Q E s := by
  obtain ⟨es, ep, t, ho, hel, hi, nd, hb, hf, ht⟩ := hS
  have hsz : es.size = ns.length := by rw [ints_len hi, List.length_map, Array.length_toList]
  have hk : (intKind prog w).is v (.int v tk) = true := intKind_is prog w v tk
  unfold setAddHashed setAddHashedIn
  refine wpAny_holding (wpAny_bind (wpAny_setState_of ho rfl hf ?_)); dsimp only
  rw [byScan_of rfl hb hel]; simp only [↓reduceIte]; unfold setAddByScan
  refine wpAny_bind (wpAny_bind (wpAny_rule (wpAny_bind (wpAny_setScan_of hk ho rfl hf hel ?_))))
  cases hr : List.findIdx? (fun e => (intKind prog w).is v e.2) es.toList with
  | some j =>
    refine wpAny_pure (wpAny_pure ?_)
    have := h false s.heap ns (Heap.SameBut.refl a s.heap) ⟨es, ep, t, ho, hel, hi, nd, hb, hf, ht⟩ (by unfold addI; rw [if_pos (find_in hi hr)])
    exact this
  | none =>
    dsimp only
    have hp := layNew_perm t es ((intKind prog w).hash v) (.int v tk)
    have hfi := layNew_fits t es ((intKind prog w).hash v) (.int v tk)
    have hti := ht.layNew es ((intKind prog w).hash v) (.int v tk)
    generalize layNew t es ((intKind prog w).hash v) (.int v tk) = L at hp hfi hti ⊢
    obtain ⟨es1, t1, wd, gave⟩ := L
    dsimp only at hp hfi hti ⊢; rw [Array.toList_push] at hp
    have hel1 : ElemsOf (intKind prog w) es1.toList := (hel.push hk rfl).perm hp
    have hi1 : ∃ ns1, IntsAre (es1.toList.map (·.2)) ns1 ∧ ns1.Perm (ns ++ [v]) := ints_perm (ints_snoc hi v tk) (by have := hp.map (fun e : Int × Value => e.2); rwa [List.map_append] at this)
    obtain ⟨ns1, hi1, pn⟩ := hi1
    have nin := find_not hi hr
    have nd1 : ns1.Nodup := pn.nodup_iff.mpr (nodup_snoc nd nin)
    have ea : addI ns v = ns ++ [v] := if_neg nin
    have hb1 : es1.size < scanBound := by rw [← Array.length_toList, hp.length_eq, List.length_append, Array.length_toList, hsz]; exact hroom
    have gw : ∀ (b : Bool) {s₁ : Shared} {Q' : Unit → Shared → Prop}, Q' () s₁ → wpAny (model prog w) A (match b with | true => rule "set.scan.the-table-gave-way" | false => pure ()) Q' E s₁ := fun b s₁ Q' q => by cases b with | false => exact wpAny_pure q | true => exact wpAny_rule q
    have last : wpAny (model prog w) A (do
        storeSet a es1 t1
        if (!wd && t1.tooFull) = true then do
            (match (relayAll t1 es1 (SetTable.grown es1.size)).2.2 with | true => rule "set.scan.the-table-gave-way" | false => pure ())
            storeSet a (relayAll t1 es1 (SetTable.grown es1.size)).1 (relayAll t1 es1 (SetTable.grown es1.size)).2.1
            pure (some true)
          else pure (some true)) (fun r s' => ∃ b, r = some b ∧ Q b s') E s := by
      obtain ⟨g1, S1⟩ := setAt_put (prog := prog) (w := w) ho hel1 hi1 nd1 hb1 hfi hti
      have sb := Heap.SameBut.update s.heap a (Obj.putSet es1 t1)
      refine wpAny_bind (wpAny_storeSet_of ho rfl ?_ (fits_of_scanBound hb1))
      split
      · have hp2 := relayAll_perm t1 es1 (SetTable.grown es1.size)
        have hf2 := relayAll_fits t1 es1 (SetTable.grown es1.size)
        have ht2 := hti.relayAll es1 (SetTable.grown es1.size)
        generalize relayAll t1 es1 (SetTable.grown es1.size) = L2 at hp2 hf2 ht2 ⊢
        obtain ⟨es2, t2, g2⟩ := L2
        dsimp only at hp2 hf2 ht2 ⊢
        obtain ⟨ns2, hi2, pn2⟩ := ints_perm hi1 (hp2.map (fun e : Int × Value => e.2))
        have hb2 : es2.size < scanBound := by rw [← Array.length_toList, hp2.length_eq, Array.length_toList]; exact hb1
        refine wpAny_bind (gw g2 (wpAny_bind (wpAny_storeSet_of g1 rfl ?_ (fits_of_scanBound hb2))))
        obtain ⟨_, S2⟩ := setAt_put (prog := prog) (w := w) g1 (hel1.perm hp2) hi2 (pn2.nodup_iff.mpr nd1) hb2 hf2 ht2
        exact wpAny_pure ⟨true, rfl, h true _ ns2 (sb.trans (Heap.SameBut.update _ a _)) S2 (by rw [ea]; exact pn2.trans pn)⟩
      · exact wpAny_pure ⟨true, rfl, h true _ ns1 sb S1 (by rw [ea]; exact pn)⟩
    refine wpAny_bind (gw gave ?_)
    have fin := wpAny_mono last (Q' := fun r s' => wpAny (model prog w) A (match r with | some added => pure added | none => setAddHashedIn a (.int v tk) ((intKind prog w).hash v) 99999) Q E s') (E' := E) (fun r s' x => by obtain ⟨b, e, q⟩ := x; subst e; exact wpAny_pure q) (fun e s' x => x)
    by_cases z : t1.plain = true
    · rw [if_pos z]; exact wpAny_bind (wpAny_of_eq (show hashByValue 8 (Value.int v tk) = pure true from rfl) fin)
    · rw [if_neg z]; exact wpAny_bind (wpAny_pure fin)
end
end L2
set_option Elab.async false
set_option linter.all false
set_option maxRecDepth 100000
set_option maxHeartbeats 1000000
namespace L2
open PySem PySem.Spec PyProof.Rows
theorem addI_perm {ns ms : List Int} (p : ns.Perm ms) (v : Int) : (addI ns v).Perm (addI ms v) := by
  unfold addI
  by_cases z : v ∈ ns
  · rw [if_pos z, if_pos (p.mem_iff.mp z)]; exact p
  · rw [if_neg z, if_neg (fun y => z (p.mem_iff.mpr y))]; exact p.append_right [v]
theorem addI_fold_perm : ∀ (vs : List Int) {ns ms : List Int}, ns.Perm ms → (vs.foldl addI ns).Perm (vs.foldl addI ms)
  | [], _, _, p => p
  | v :: vs, _, _, p => addI_fold_perm vs (addI_perm p v)
theorem addI_len (ns : List Int) (v : Int) : (addI ns v).length ≤ ns.length + 1 := by
  unfold addI
  split
  · exact Nat.le_succ _
  · rw [List.length_append]; exact Nat.le_refl _
section
variable {prog : Program} {w : World} {A : Around} {E : Value → Shared → Prop} {s : Shared}
theorem SetAt.at' {l : Bool} {h h' : Heap} {a : Addr} {ns : List Int} (k : ∀ o, h.get? a = some o → h'.get? a = some o) (x : SetAt prog w l h a ns) : SetAt prog w l h' a ns := by
  obtain ⟨es, ep, t, e, r⟩ := x
  exact ⟨es, ep, t, k _ e, r⟩
theorem quiet_sul (a : Args) : (Code.builtin "set.update.loop" a).quiet = true := plainId_quiet (by decide +kernel) _
theorem sul_tuple {b : Bool} {S it l : Addr} {items : Array Value} (nsi : S ≠ it) (nsl : S ≠ l) (nil' : it ≠ l) : ∀ (ms : List Int) (i : Nat) (ns : List Int) (A : Around) (R : Result → Shared → Prop) (s : Shared), A.handled = none → s.heap.IsTupleIter it l i → s.heap.IsTuple l items →
    IntsAre (items.toList.drop i) ms → SetAt prog w b s.heap S ns → ns.length + ms.length < scanBound →
    (∀ h' tk ns', SetAt prog w b h' S ns' → ns'.Perm (ms.foldl addI ns) → (∀ c o, c ≠ S → c ≠ it → s.heap.get? c = some o → h'.get? c = some o) → R (.ok (.ret .none)) { s with heap := h', toks := tk }) →
    codeAny (model prog w) A (Code.builtin "set.update.loop" { pos := [.ref S, .ref it], kw := [] }) R s
  | [], i, ns, A, R, s, hh, si, sl, al, dd, hz, q => by
    have hn : items[i]? = none := by
      cases hd : items.toList.drop i with
      | nil =>
        have := List.drop_eq_nil_iff.mp hd
        rw [Array.length_toList] at this
        exact Array.getElem?_eq_none this
      | cons u us => rw [hd] at al; cases al
    refine codeAny_builtin F.entry_set_update_loop ?_
    show wpAny _ _ (pyNext (.ref it) >>= _) _ _ s
    refine wpAny_bind (wpAny_pyNext_tuple_end (show (A.under _).handled = none from hh) si sl hn fun h' eb => ?_)
    exact wpAny_pure (q h' s.toks ns (dd.at' fun o e => eb S o nsi e) (List.Perm.refl _) fun c o _ hc e => eb c o hc e)
  | m :: ms, i, ns, A, R, s, hh, si, sl, al, dd, hz, q => by
    cases hd : items.toList.drop i with
    | nil => rw [hd] at al; cases al
    | cons u us =>
      rw [hd] at al
      cases al with
      | cons _ tk al =>
        have hi : items.toList[i]? = some (.int m tk) := by
          have := congrArg (fun l => l[0]?) hd
          simpa using this
        have hu : items[i]? = some (.int m tk) := by simpa using hi
        have hd1 : items.toList.drop (i + 1) = us := by
          have := congrArg List.tail hd
          simpa using this
        refine codeAny_builtin F.entry_set_update_loop ?_
        show wpAny _ _ (pyNext (.ref it) >>= _) _ _ s
        refine wpAny_bind (wpAny_pyNext_tuple_item si sl hu fun h1 si1 sb1 => ?_)
        have sl1 : h1.IsTuple l items := by
          obtain ⟨o, e1, e2⟩ := sl
          exact ⟨o, (sb1.2 l (Ne.symm nil')).trans e1, e2⟩
        have dd1 : SetAt prog w b h1 S ns := dd.at' fun o e => (sb1.2 S nsi).trans e
        rw [List.length_cons] at hz
        refine wpAny_bind (wpAny_holding (show wpAny _ _ (setAdd S (.int m tk)) _ _ _ from ?_))
        unfold setAdd
        refine wpAny_holding (wpAny_bind ((intKind prog w).pyHash (k := m) (intKind_is prog w m tk) ?_))
        refine set_add (s := { s with heap := h1, toks := s.toks + 1 }) dd1 (Nat.lt_of_le_of_lt (by omega) hz) fun c h2 ns2 sb2 dd2 p2 => ?_
        refine wpAny_pure ⟨quiet_sul _, ?_⟩
        have si2 : h2.IsTupleIter it l (i + 1) := by
          obtain ⟨o, e1, e2⟩ := si1
          exact ⟨o, (sb2.2 it (Ne.symm nsi)).trans e1, e2⟩
        have sl2 : h2.IsTuple l items := by
          obtain ⟨o, e1, e2⟩ := sl1
          exact ⟨o, (sb2.2 l (Ne.symm nsl)).trans e1, e2⟩
        have l2 : ns2.length ≤ ns.length + 1 := by rw [p2.length_eq]; exact addI_len ns m
        refine sul_tuple nsi nsl nil' ms (i + 1) ns2 A R { s with heap := h2, toks := s.toks + 1 } hh si2 sl2 (by rw [hd1]; exact al) dd2 (by omega) fun h' tk' ns' dd' pp kk => q h' tk' ns' dd' (pp.trans (addI_fold_perm ms p2)) fun c o hc1 hc2 e => kk c o hc1 hc2 ((sb2.2 c hc1).trans ((sb1.2 c hc2).trans e))
def set0 (w : World) : Obj := { cls := .type "set", dict := none, data := .set #[] 0 (.fresh 0 0 (!w.params.followText "set-order")) }
theorem set_new (a : Value) {Q₁ : Value → Shared → Prop} (h : Q₁ (.ref s.heap.objs.size) { s with heap := s.heap.push (set0 w) }) : codeAny (model prog w) A (.call (.builtin "set.__new__") ⟨[.type "set", a], []⟩) (wants Q₁ E) s := by
  refine codeAny_call_builtin F.plain_set_new F.entry_set_new (wpAny_of_eq (F.newCall_set_1 a) ?_)
  show wpAny _ _ (Builtin.Frozenset.newClass "set" ⟨[.type "set", a], []⟩ >>= _) _ _ _
  refine wpAny_bind (wpAny_bind (show wpAny _ _ (pure true) _ _ _ from wpAny_pure ?_))
  show wpAny _ _ (isSubtype (.type "set") (.type "set") >>= _) _ _ _
  refine wpAny_bind (wpAny_of_eq sub_set_self ?_)
  refine wpAny_pure ?_
  show wpAny _ _ (newSet (.type "set") >>= _) _ _ _
  unfold newSet setsByText
  refine wpAny_bind (wpAny_bind (wpAny_bind (wpAny_askSetting (wpAny_pure ?_))))
  exact wpAny_bind (wpAny_alloc (wpAny_pure (wpAny_pure h)))
theorem set0_at {h : Heap} {a : Addr} (e : h.get? a = some (set0 w)) : SetAt prog w (!w.params.followText "set-order") h a [] :=
  ⟨#[], 0, _, e, fun x hx => by simp at hx, .nil, List.nodup_nil, by decide, by rfl, rfl, List.Pairwise.nil⟩
theorem tup_no_set : isSubtype (.type "tuple") (.type "set") = pure false := by rw [isSubtype_type]; kernel_rfl
theorem tup_no_fset : isSubtype (.type "tuple") (.type "frozenset") = pure false := by rw [isSubtype_type]; kernel_rfl
theorem call_set_of {l : Addr} {items : Array Value} {ns : List Int} {Q : Value → Shared → Prop} (hh : A.handled = none) (ht : s.heap.IsTuple l items) (hi : IntsAre items.toList ns) (hb : ns.length < scanBound)
    (h : ∀ h' tk ns', SetAt prog w (!w.params.followText "set-order") h' s.heap.objs.size ns' → ns'.Perm (ns.foldl addI []) → (∀ b o, s.heap.get? b = some o → h'.get? b = some o) → Q (.ref s.heap.objs.size) { s with heap := h', toks := tk }) :
    wpAny (model prog w) A (call (.type "set") [.ref l]) Q E s := by
  obtain ⟨c, tl, hmro⟩ := F.called_set.mro; have hmade := F.called_set.made; have hsub := F.called_set.sub
  refine wpAny_call (codeAny_of_tree (show wpAny _ _ (callAny (.type "set") _) _ _ _ from wpAny_pure ⟨Code.quiet_builtin _ (by decide +kernel), codeAny_builtin F.entry_type_call ?_⟩))
  rw [Around.under_plain (weight_type_call_type "set" [.ref l] []) rfl]; have h1 := F.called_set.notType; have h2 := F.called_set.canCreate; have hct := F.typeCall_set_1 (.ref l)
  (repeat (any_goals (first | assumption | wp_step))); refine codeAny_mono (set_new (.ref l) (E := E) (Q₁ := fun obj s₁ => obj = .ref s.heap.objs.size ∧ s₁ = { s with heap := s.heap.push (set0 w) }) ⟨rfl, rfl⟩) fun r s₁ hr => ?_
  cases r with
  | error e => exact hr
  | ok fl =>
    cases fl with
    | next => exact hr.elim
    | brk => exact hr.elim
    | cont => exact hr.elim
    | ret obj =>
      obtain ⟨rfl, rfl⟩ := hr
      have hS : (s.heap.push (set0 w)).get? s.heap.objs.size = some (set0 w) := Heap.get?_push_size _ rfl
      have hT : Shared.TypeIs { s with heap := s.heap.push (set0 w) } (.ref s.heap.objs.size) "set" := ⟨_, hS, rfl⟩
      have hli := F.called_set.init.lookup; have hbi := F.called_set.init.bind (.ref s.heap.objs.size)
      (repeat (any_goals (first | assumption | wp_step)))
      have inner : codeAny (model prog w) A.in1 (.call (.builtin "set.__init__") ⟨[.ref s.heap.objs.size, .ref l], []⟩) (wants (fun r s₂ => r = .none ∧ Q (.ref s.heap.objs.size) s₂) E) { s with heap := s.heap.push (set0 w) } := by
        refine codeAny_call_builtin F.called_set.init.plain F.entry_set_init (check_set_init_1 hT ?_)
        obtain ⟨o, ho, hc, n, hd⟩ := ht
        obtain ⟨oc, od, oda, osl⟩ := o
        dsimp only at hc hd; subst hc hd
        have ho1 : (s.heap.push (set0 w)).get? l = some { cls := .type "tuple", dict := od, data := .seq items n, slots := osl } := Heap.get?_push_of_some _ ho
        have hts := tup_no_set; have htf := tup_no_fset; have hne : (Value.type "tuple" == Value.type "dict") = false := by decide
        have hS' : (s.heap.push (set0 w)).get? s.heap.objs.size = some { cls := .type "set", dict := none, data := .set #[] 0 (.fresh 0 0 (!w.params.followText "set-order")), slots := #[] } := hS
        have ht1 : (s.heap.push (set0 w)).IsTuple l items := ⟨_, ho1, rfl, n, rfl⟩
        have ll : l < s.heap.objs.size := Heap.lt_size ho
        unfold Builtin.«set.__init__» noKeywords Builtin.Frozenset.updateFrom
        generalize hPI : pyIter = PI
        wp_walk
        subst hPI
        refine wpAny_pyIter_tuple ht1 (wpAny_bind (wpAny_runValue ?_))
        have k2 : ∀ b o, s.heap.get? b = some o → ((s.heap.push (set0 w)).push { cls := .type "tuple_iterator", data := .fields #[.ref l, .int 0 0] }).get? b = some o := fun b o e => Heap.get?_push_of_some _ (Heap.get?_push_of_some _ e)
        have ls : (s.heap.push (set0 w)).objs.size = s.heap.objs.size + 1 := Heap.size_push _ _
        refine sul_tuple (S := s.heap.objs.size) (it := (s.heap.push (set0 w)).objs.size) (l := l) (items := items) (by rw [ls]; exact Nat.ne_of_lt (Nat.lt_succ_self _)) (Nat.ne_of_gt ll) (by rw [ls]; exact Nat.ne_of_gt (Nat.lt_succ_of_lt ll)) ns 0 [] _ _ _ (by simp [hh]) ⟨_, Heap.get?_push_size _ rfl, rfl, rfl⟩ ⟨_, k2 _ _ ho, rfl, n, rfl⟩ (by rw [List.drop_zero]; exact hi) (set0_at (Heap.get?_push_of_some _ hS)) (by simpa using hb) fun h' tk ns' dd pp kk => ?_
        refine wpAny_pure (wpAny_pure ⟨rfl, h h' tk ns' dd pp fun b o e => kk b o (Nat.ne_of_lt (Heap.lt_size e)) (by rw [ls]; exact Nat.ne_of_lt (Nat.lt_succ_of_lt (Heap.lt_size e))) (k2 b o e)⟩)
      refine codeAny_mono inner fun r₂ s₂ hr₂ => ?_
      cases r₂ with
      | error e => exact hr₂
      | ok f2 =>
        cases f2 with
        | next => exact hr₂.elim
        | brk => exact hr₂.elim
        | cont => exact hr₂.elim
        | ret r => obtain ⟨rfl, hq⟩ := hr₂; exact wpAny_pure (wpAny_pure hq)
end
end L2
set_option Elab.async false
set_option linter.all false
set_option maxRecDepth 100000
set_option maxHeartbeats 1000000
namespace L2
open PySem PySem.Spec PyProof.Rows
theorem si_next : Slot "set_iterator" "__next__" "set_iterator.__next__" := .of (owner := "set_iterator") (n := "__next__") (by rw [typeLookup_type, builtinLookup_eq_fast]; kernel_rfl) (by decide +kernel) (by decide +kernel) (by decide +kernel) (by first | exact .inl (by decide +kernel) | exact .inr (by decide +kernel)) (by rw [isSubtype_type]; kernel_rfl)
theorem si_iter : Slot "set_iterator" "__iter__" "set_iterator.__iter__" := .of (owner := "set_iterator") (n := "__iter__") (by rw [typeLookup_type, builtinLookup_eq_fast]; kernel_rfl) (by decide +kernel) (by decide +kernel) (by decide +kernel) (by first | exact .inl (by decide +kernel) | exact .inr (by decide +kernel)) (by rw [isSubtype_type]; kernel_rfl)
theorem si_next_entry : entryFor table "set_iterator.__next__" = some Builtin.«set_iterator.__next__» := entryFor_of_tree (by kernel_rfl)
theorem si_iter_entry : entryFor table "set_iterator.__iter__" = some Builtin.«dict_keyiterator.__iter__» := entryFor_alias (id' := "dict_keyiterator.__iter__") (by kernel_rfl) rfl (by decide +kernel) (by kernel_rfl)
theorem set_iter_entry : entryFor table "set.__iter__" = some Builtin.«frozenset.__iter__» := entryFor_alias (id' := "frozenset.__iter__") (by kernel_rfl) rfl (by decide +kernel) (by kernel_rfl)
theorem si_owner : Manifest.owners.lookup (String.ofList ['r', 'o', 't', 'a', 'r', 'e', 't', 'i', '_', 't', 'e', 's'].reverse) = some Manifest.sig_set_iterator := by kernel_rfl
theorem si_next_args (a : Value) : argsOk "set_iterator.__next__" ⟨[a], []⟩ := by unfold argsOk; rw [signature?_of (id := "set_iterator.__next__") (n := ['_', '_', 't', 'x', 'e', 'n', '_', '_']) (o := ['r', 'o', 't', 'a', 'r', 'e', 't', 'i', '_', 't', 'e', 's']) (by kernel_rfl) si_owner]; kernel_rfl
theorem si_iter_args (a : Value) : argsOk "set_iterator.__iter__" ⟨[a], []⟩ := by unfold argsOk; rw [signature?_of (id := "set_iterator.__iter__") (n := ['_', '_', 'r', 'e', 't', 'i', '_', '_']) (o := ['r', 'o', 't', 'a', 'r', 'e', 't', 'i', '_', 't', 'e', 's']) (by kernel_rfl) si_owner]; kernel_rfl
theorem erase_perm {α : Type} : ∀ (xs : List α) (i : Nat) (h : i < xs.length), (xs[i] :: xs.eraseIdx i).Perm xs
  | x :: xs, 0, _ => List.Perm.refl _
  | x :: xs, i + 1, h => (List.Perm.swap x _ _).trans ((erase_perm xs i (by simpa using h)).cons x)
theorem pick_perm {α : Type} (nx : Nat → Nat) : ∀ (f k : Nat) (xs : List α) (out : Array α), xs.length ≤ f → (pickOrder.go nx f k xs out).toList.Perm (out.toList ++ xs)
  | 0, k, xs, out, h => by
    have : xs = [] := List.length_eq_zero_iff.mp (Nat.le_zero.mp h)
    subst this
    rw [List.append_nil]
    exact List.Perm.refl _
  | f + 1, k, xs, out, h => by
    unfold pickOrder.go
    cases xs with
    | nil =>
      rw [List.append_nil]
      exact List.Perm.refl _
    | cons x xs =>
      have lt : nx k % (x :: xs).length < (x :: xs).length := Nat.mod_lt _ (by simp)
      rw [List.getElem?_eq_getElem lt]
      dsimp only
      have := pick_perm nx f (k + 1) ((x :: xs).eraseIdx (nx k % (x :: xs).length)) (out.push (x :: xs)[nx k % (x :: xs).length]) (by rw [List.length_eraseIdx_of_lt lt]; simp at h ⊢; omega)
      refine this.trans ?_
      rw [Array.toList_push, List.append_assoc]
      refine List.Perm.append_left _ ?_
      exact erase_perm _ _ lt
theorem pickOrder_perm {α : Type} (nx : Nat → Nat) (xs : Array α) : (pickOrder nx xs).toList.Perm xs.toList := by
  have := pick_perm nx xs.size 0 xs.toList #[] (by simp)
  simpa [pickOrder] using this
section
variable {prog : Program} {w : World} {A : Around} {E : Value → Shared → Prop} {s : Shared}
abbrev setO (es : Array (Int × Value)) (ep : Nat) (t : SetTable) : Obj := { cls := .type "set", dict := none, data := .set es ep t, slots := #[] }
theorem by_text {Q : Bool → Shared → Prop} (q : Q (w.params.followText "set-order") s) : wpAny (model prog w) A setsByText Q E s := by
  unfold setsByText
  exact wpAny_bind (wpAny_askSetting (wpAny_pure q))
theorem setNext_text {S : Addr} {es : Array (Int × Value)} {ep : Nat} {t : SetTable} {slot i : Nat} {Q : Option (Value × Nat) → Shared → Prop} (hx : w.params.followText "set-order" = true) (ho : s.heap.get? S = some (setO es ep t)) (hf : t.fits es.size = true)
    (q : Q (((pickOrder (w.params.setOrder S ep) es)[i]?).map fun e => (e.2, slot)) s) : wpAny (model prog w) A (setNext S slot i ep) Q E s := by
  unfold setNext
  refine wpAny_bind (wpAny_setState_of ho rfl hf (wpAny_bind (by_text ?_)))
  rw [hx]; dsimp only
  rw [if_pos rfl, if_neg (by simp)]
  refine wpAny_bind ?_
  unfold setWalk
  refine wpAny_bind (wpAny_setState_of ho rfl hf (wpAny_bind (by_text ?_)))
  rw [hx]
  refine wpAny_bind (wpAny_askSetting ?_)
  exact wpAny_pure (wpAny_pure q)
theorem setNext_place {S : Addr} {es : Array (Int × Value)} {ep : Nat} {t : SetTable} {slot i k : Nat} {Q : Option (Value × Nat) → Shared → Prop} (hx : w.params.followText "set-order" = false) (ho : s.heap.get? S = some (setO es ep t)) (hf : t.fits es.size = true) (hl : t.led = true)
    (hd : (!t.plain && decide (es.size > 1)) = false) (hk : SetTable.below t.place slot = k)
    (q : Q (match es[k]?, t.place[k]? with | some (_, x), some j => some (x, j + 1) | _, _ => none) s) : wpAny (model prog w) A (setNext S slot i ep) Q E s := by
  unfold setNext
  refine wpAny_bind (wpAny_setState_of ho rfl hf (wpAny_bind (by_text ?_)))
  rw [hx]; dsimp only
  rw [if_neg (by decide)]
  show wpAny _ _ (if (!t.plain && decide (es.size > 1)) = true then _ else _) _ _ _
  rw [hd, if_neg (by decide)]
  show wpAny _ _ ((if (!t.led && !es.isEmpty) = true then _ else _) >>= _) _ _ _
  rw [hl, if_neg (by simp), hk]
  exact wpAny_bind (wpAny_pure (wpAny_pure q))
theorem stops {h1 : Heap} {Q : Option Value → Shared → Prop} (hh : A.handled = none) (q : ∀ h', (∀ b o, h1.get? b = some o → h'.get? b = some o) → Q none { s with heap := h' }) :
    wpAny (model prog w) A.in1 (do raiseNew (← newExc (.type "StopIteration") [])) (fun (fin : PySem.Fin) s' => ∃ v, fin = .done (.ret v) ∧ wpAny (model prog w) A (pure (some v)) Q E s')
      (fun e s' => wpAny (model prog w) A (do if ← isInstance e (.type "StopIteration") then pure none else throw e) Q E s') { s with heap := h1 } := by
  refine wpAny_bind ?_; simp only [newExc, newTuple]
  refine wpAny_bind (wpAny_newObj_type (wpAny_bind (m := firstArgMember _ _) (wpAny_of_eq (a := Value.none) (by first | rfl | (simp only [firstArgMember]; rfl)) (wpAny_newObj_type ?_ (by size_fits)))) (by size_fits))
  simp only [raiseNew]; refine wpAny_bind (wpAny_handled ?_); rw [show A.in1.handled = none from hh]
  refine wpAny_bind (wpAny_pure (wpAny_throw ?_)); refine wpAny_bind (wpAny_isInstance (T := "StopIteration") (b := true) ⟨_, Heap.get?_push_size _ rfl, rfl⟩ isSubtype_stop ?_)
  exact wpAny_pure (q _ fun b o e => Heap.get?_push_of_some _ (Heap.get?_push_of_some _ e))
abbrev setItO (first : Value) (i : Nat) (S : Addr) (n ep : Nat) : Obj := { cls := .type "set_iterator", data := .fields #[first, .int i 0, .ref S, .int n 0, .int ep 0] }
theorem si_item {it S : Addr} {es : Array (Int × Value)} {ep i slot slot' : Nat} {t : SetTable} {x : Value} {Q : Option Value → Shared → Prop} (hi : s.heap.get? it = some (setItO (.int slot 0) i S es.size ep)) (ho : s.heap.get? S = some (setO es ep t)) (hf : t.fits es.size = true)
    (hn : ∀ (A : Around) (E : Value → Shared → Prop) (Q : Option (Value × Nat) → Shared → Prop), Q (some (x, slot')) s → wpAny (model prog w) A (setNext S slot i ep) Q E s)
    (q : ∀ h', Heap.SameBut it s.heap h' → h'.get? it = some (setItO (.int slot' 0) (i + 1) S es.size ep) → Q (some x) { s with heap := h' }) : wpAny (model prog w) A (pyNext (.ref it)) Q E s := by
  have hT : s.TypeIs (.ref it) "set_iterator" := ⟨_, hi, rfl⟩
  unfold pyNext
  refine wpAny_bind (wpAny_attempt (wpAny_callSpecial?_slot (name := Str.ofString "__next__") hT si_next (wpAny_call_entry si_next hT si_next_entry ?_ (si_next_args _))))
  unfold Builtin.«set_iterator.__next__»
  refine wpAny_bind (show wpAny _ _ (pure (Value.ref it, [])) _ _ _ from wpAny_pure ?_)
  refine wpAny_bind (wpAny_fieldsOf hi rfl ?_)
  dsimp only
  refine wpAny_bind (wpAny_setEntries_of ho rfl hf ?_)
  rw [if_neg (by simp)]
  refine wpAny_bind (hn _ _ _ ?_)
  dsimp only
  refine wpAny_bind (wpAny_setField hi rfl (by simp) ?_)
  have g1 : (s.heap.update it (Obj.mapFields (·.setIfInBounds 0 (rawInt slot')))).get? it = some (setItO (.int slot' 0) i S es.size ep) := Heap.get?_update_self _ hi rfl
  refine wpAny_bind (wpAny_setField (s := { s with heap := s.heap.update it (Obj.mapFields (·.setIfInBounds 0 (rawInt slot'))) }) g1 rfl (by simp) ?_)
  have g2 : ((s.heap.update it (Obj.mapFields (·.setIfInBounds 0 (rawInt slot')))).update it (Obj.mapFields (·.setIfInBounds 1 (rawInt ((i : Int) + 1))))).get? it = some (setItO (.int slot' 0) (i + 1) S es.size ep) := Heap.get?_update_self _ g1 rfl
  exact wpAny_pure ⟨x, rfl, wpAny_pure (q _ ((Heap.SameBut.update ..).trans (Heap.SameBut.update ..)) g2)⟩
theorem si_end {it S : Addr} {es : Array (Int × Value)} {ep i slot : Nat} {t : SetTable} {Q : Option Value → Shared → Prop} (hh : A.handled = none) (hi : s.heap.get? it = some (setItO (.int slot 0) i S es.size ep)) (ho : s.heap.get? S = some (setO es ep t)) (hf : t.fits es.size = true)
    (hn : ∀ (A : Around) (E : Value → Shared → Prop) (Q : Option (Value × Nat) → Shared → Prop), Q none s → wpAny (model prog w) A (setNext S slot i ep) Q E s)
    (q : ∀ h', Heap.ExtBut it s.heap h' → Q none { s with heap := h' }) : wpAny (model prog w) A (pyNext (.ref it)) Q E s := by
  have hT : s.TypeIs (.ref it) "set_iterator" := ⟨_, hi, rfl⟩
  unfold pyNext
  refine wpAny_bind (wpAny_attempt (wpAny_callSpecial?_slot (name := Str.ofString "__next__") hT si_next (wpAny_call_entry si_next hT si_next_entry ?_ (si_next_args _))))
  unfold Builtin.«set_iterator.__next__»
  refine wpAny_bind (show wpAny _ _ (pure (Value.ref it, [])) _ _ _ from wpAny_pure ?_)
  refine wpAny_bind (wpAny_fieldsOf hi rfl ?_)
  dsimp only
  refine wpAny_bind (wpAny_setEntries_of ho rfl hf ?_)
  rw [if_neg (by simp)]
  refine wpAny_bind (hn _ _ _ ?_)
  dsimp only
  refine wpAny_bind (wpAny_setField hi rfl (by simp) ?_)
  have kb : ∀ b o, b ≠ it → s.heap.get? b = some o → (s.heap.update it (Obj.mapFields (·.setIfInBounds 2 Value.none))).get? b = some o := fun b o hb e => ((Heap.SameBut.update s.heap it (Obj.mapFields (·.setIfInBounds 2 Value.none))).2 b hb).trans e
  generalize s.heap.update it (Obj.mapFields (·.setIfInBounds 2 Value.none)) = h1 at kb ⊢
  exact stops hh fun h' k => q h' fun b o hb e => k b o (kb b o hb e)
theorem si_drawn {it S tp : Addr} {es : Array (Int × Value)} {ep i k m : Nat} {t : SetTable} {hx : Int} {x : Value} {ps : Array Value} {o : Obj} {Q : Option Value → Shared → Prop} (hi : s.heap.get? it = some (setItO (.ref tp) i S es.size ep)) (ho : s.heap.get? S = some (setO es ep t)) (hf : t.fits es.size = true)
    (ht : s.heap.get? tp = some o) (hd : o.data = .seq ps m) (hp : ps[i]? = some (.int k 0)) (hk : es[k]? = some (hx, x))
    (q : ∀ h', Heap.SameBut it s.heap h' → h'.get? it = some (setItO (.ref tp) (i + 1) S es.size ep) → Q (some x) { s with heap := h' }) : wpAny (model prog w) A (pyNext (.ref it)) Q E s := by
  have hT : s.TypeIs (.ref it) "set_iterator" := ⟨_, hi, rfl⟩
  unfold pyNext
  refine wpAny_bind (wpAny_attempt (wpAny_callSpecial?_slot (name := Str.ofString "__next__") hT si_next (wpAny_call_entry si_next hT si_next_entry ?_ (si_next_args _))))
  unfold Builtin.«set_iterator.__next__»
  refine wpAny_bind (show wpAny _ _ (pure (Value.ref it, [])) _ _ _ from wpAny_pure ?_)
  refine wpAny_bind (wpAny_fieldsOf hi rfl ?_)
  dsimp only
  refine wpAny_bind (wpAny_setEntries_of ho rfl hf ?_)
  rw [if_neg (by simp)]
  refine wpAny_bind (wpAny_seqItems ht hd ?_)
  dsimp only
  rw [show (Int.toNat (i : Int)) = i from Int.toNat_natCast i, hp]
  dsimp only
  refine wpAny_bind ?_
  unfold setNextDrawn
  refine wpAny_bind (wpAny_setState_of ho rfl hf ?_); dsimp only
  rw [if_neg (by simp), show (Int.toNat (k : Int)) = k from Int.toNat_natCast k, hk]
  refine wpAny_bind (wpAny_pure (wpAny_pure ?_))
  refine wpAny_bind (wpAny_setField hi rfl (by simp) ?_)
  have g1 : (s.heap.update it (Obj.mapFields (·.setIfInBounds 1 (rawInt ((i : Int) + 1))))).get? it = some (setItO (.ref tp) (i + 1) S es.size ep) := Heap.get?_update_self _ hi rfl
  exact wpAny_pure ⟨x, rfl, wpAny_pure (q _ (Heap.SameBut.update ..) g1)⟩
theorem si_drawn_end {it S tp : Addr} {es : Array (Int × Value)} {ep i m : Nat} {t : SetTable} {ps : Array Value} {o : Obj} {Q : Option Value → Shared → Prop} (hh : A.handled = none) (hi : s.heap.get? it = some (setItO (.ref tp) i S es.size ep)) (ho : s.heap.get? S = some (setO es ep t)) (hf : t.fits es.size = true)
    (ht : s.heap.get? tp = some o) (hd : o.data = .seq ps m) (hp : ps[i]? = none)
    (q : ∀ h', Heap.ExtBut it s.heap h' → Q none { s with heap := h' }) : wpAny (model prog w) A (pyNext (.ref it)) Q E s := by
  have hT : s.TypeIs (.ref it) "set_iterator" := ⟨_, hi, rfl⟩
  unfold pyNext
  refine wpAny_bind (wpAny_attempt (wpAny_callSpecial?_slot (name := Str.ofString "__next__") hT si_next (wpAny_call_entry si_next hT si_next_entry ?_ (si_next_args _))))
  unfold Builtin.«set_iterator.__next__»
  refine wpAny_bind (show wpAny _ _ (pure (Value.ref it, [])) _ _ _ from wpAny_pure ?_)
  refine wpAny_bind (wpAny_fieldsOf hi rfl ?_)
  dsimp only
  refine wpAny_bind (wpAny_setEntries_of ho rfl hf ?_)
  rw [if_neg (by simp)]
  refine wpAny_bind (wpAny_seqItems ht hd ?_)
  dsimp only
  rw [show (Int.toNat (i : Int)) = i from Int.toNat_natCast i, hp]
  dsimp only
  refine wpAny_bind (wpAny_setField hi rfl (by simp) ?_)
  have g1 : (s.heap.update it (Obj.mapFields (·.setIfInBounds 0 (rawInt 0)))).get? it = some (setItO (.int 0 0) i S es.size ep) := Heap.get?_update_self _ hi rfl
  refine wpAny_bind (wpAny_setField (s := { s with heap := s.heap.update it (Obj.mapFields (·.setIfInBounds 0 (rawInt 0))) }) g1 rfl (by simp) ?_)
  have kb : ∀ b o, b ≠ it → s.heap.get? b = some o → ((s.heap.update it (Obj.mapFields (·.setIfInBounds 0 (rawInt 0)))).update it (Obj.mapFields (·.setIfInBounds 2 Value.none))).get? b = some o := fun b o hb e => (((Heap.SameBut.update s.heap it (Obj.mapFields (·.setIfInBounds 0 (rawInt 0)))).trans (Heap.SameBut.update _ it (Obj.mapFields (·.setIfInBounds 2 Value.none)))).2 b hb).trans e
  generalize (s.heap.update it (Obj.mapFields (·.setIfInBounds 0 (rawInt 0)))).update it (Obj.mapFields (·.setIfInBounds 2 Value.none)) = h1 at kb ⊢
  exact stops hh fun h' k => q h' fun b o hb e => k b o (kb b o hb e)
theorem si_self {it : Addr} {first : Value} {i n ep : Nat} {S : Addr} {Q : Value → Shared → Prop} (hi : s.heap.get? it = some (setItO first i S n ep)) (q : Q (.ref it) s) : wpAny (model prog w) A (pyIter (.ref it)) Q E s := by
  have hT : s.TypeIs (.ref it) "set_iterator" := ⟨_, hi, rfl⟩
  refine wpAny_pyIter_slot hT si_iter (wpAny_call_entry si_iter hT si_iter_entry (show wpAny _ _ (ret (.ref it)) _ _ s from ?_) (si_iter_args _))
  exact wpAny_pure ⟨_, rfl, "set_iterator", _, hT, si_next.lookup, q⟩
end
end L2
set_option Elab.async false
set_option linter.all false
set_option maxRecDepth 100000
set_option maxHeartbeats 1000000
namespace L2
open PySem PySem.Spec PyProof.Rows
section
variable {prog : Program} {w : World} {A : Around} {E : Value → Shared → Prop}
theorem chosen {s : Shared} {src : Source} {n : Nat} {Q : Nat → Shared → Prop} (hn : n ≠ 0) (q : ∀ i d, i < n → Q i { s with drawn := d }) : wpAny (model prog w) A (choose src n) Q E s := fun Γ p hΓ => ⟨hn, q _ _ (Nat.mod_lt _ (Nat.pos_of_ne_zero hn))⟩
theorem drawOrder_perm {α : Type} : ∀ (n : Nat) (xs : List α) (s : Shared) (Q : List α → Shared → Prop), xs.length ≤ n → (∀ ys d, ys.Perm xs → Q ys { s with drawn := d }) → wpAny (model prog w) A (drawOrder n xs) Q E s
  | 0, xs, s, Q, h, q => by
    have : xs = [] := List.length_eq_zero_iff.mp (Nat.le_zero.mp h)
    subst this
    exact wpAny_pure (q [] s.drawn (List.Perm.refl _))
  | n + 1, [], s, Q, h, q => wpAny_pure (q [] s.drawn (List.Perm.refl _))
  | n + 1, x :: xs, s, Q, h, q => by
    unfold drawOrder
    refine wpAny_bind (chosen (by simp) fun i d hi => ?_)
    rw [List.getElem?_eq_getElem hi]; dsimp only
    refine wpAny_bind (drawOrder_perm n _ _ _ (by rw [List.length_eraseIdx_of_lt hi]; simp at h ⊢; omega) fun ys d2 p => ?_)
    exact wpAny_pure (q _ d2 ((p.cons _).trans (erase_perm _ _ hi)))
theorem setDrawn_of {s : Shared} {S : Addr} {es : Array (Int × Value)} {ep : Nat} {t : SetTable} {Q : Bool → Shared → Prop} (ho : s.heap.get? S = some (setO es ep t)) (hf : t.fits es.size = true) (q : Q (!w.params.followText "set-order" && (!t.plain && decide (es.size > 1))) s) : wpAny (model prog w) A (setDrawn S) Q E s := by
  unfold setDrawn
  exact wpAny_bind (wpAny_setState_of ho rfl hf (wpAny_bind (by_text (wpAny_pure q))))
theorem iter_set {s : Shared} {S : Addr} {es : Array (Int × Value)} {ep : Nat} {t : SetTable} {Q : Value → Shared → Prop} (ho : s.heap.get? S = some (setO es ep t)) (hf : t.fits es.size = true) (hz : es.size < scanBound)
    (q1 : (!w.params.followText "set-order" && (!t.plain && decide (es.size > 1))) = false → Q (.ref s.heap.objs.size) { s with heap := s.heap.push (setItO (.int 0 0) 0 S es.size ep) })
    (q2 : ∀ (ps : List Nat) d, ps.Perm (List.range es.size) → Q (.ref (s.heap.objs.size + 1)) { s with heap := (s.heap.push { cls := .type "tuple", data := .seq (ps.map fun i : Nat => rawInt i).toArray }).push (setItO (.ref s.heap.objs.size) 0 S es.size ep), drawn := d }) :
    wpAny (model prog w) A (pyIter (.ref S)) Q E s := by
  have hT : s.TypeIs (.ref S) "set" := ⟨_, ho, rfl⟩
  refine wpAny_pyIter_slot hT F.slot_set_iter (wpAny_call_entry F.slot_set_iter hT set_iter_entry ?_ (F.args_set_iter_1 _))
  unfold Builtin.«frozenset.__iter__»
  refine wpAny_bind (show wpAny _ _ (pure S) _ _ _ from wpAny_pure ?_)
  unfold Builtin.Frozenset.sizeOf
  refine wpAny_bind (wpAny_bind (wpAny_setEntries_of ho rfl hf (wpAny_pure ?_)))
  refine wpAny_bind (setDrawn_of ho hf ?_)
  by_cases z : (!w.params.followText "set-order" && (!t.plain && decide (es.size > 1))) = true
  · rw [if_pos z]
    refine wpAny_bind (drawOrder_perm _ _ _ _ (by simp) fun ps d p => ?_)
    have hl : ps.length = es.size := by rw [p.length_eq, List.length_range]
    unfold newTuple
    refine wpAny_bind (wpAny_newObj_type ?_ (show (ps.map fun i : Nat => rawInt i).toArray.size ≤ sizeLine by rw [List.size_toArray, List.length_map, hl]; exact fits_of_scanBound hz))
    refine wpAny_bind (wpAny_setEpoch_of (s := { s with heap := s.heap.push { cls := .type "tuple", data := .seq (ps.map fun i : Nat => rawInt i).toArray }, drawn := d }) (Heap.get?_push_of_some _ ho) rfl hf ?_)
    have e1 : (s.heap.push { cls := .type "tuple", data := .seq (ps.map fun i : Nat => rawInt i).toArray }).objs.size = s.heap.objs.size + 1 := Heap.size_push _ _
    refine wpAny_bind (wpAny_newObj_type (wpAny_pure ⟨_, rfl, "set_iterator", _, ⟨_, Heap.get?_push_size _ rfl, rfl⟩, si_next.lookup, ?_⟩))
    have := q2 ps d p
    rw [← e1] at this
    exact this
  · rw [if_neg z]
    refine wpAny_bind (wpAny_pure ?_)
    refine wpAny_bind (wpAny_setEpoch_of ho rfl hf ?_)
    exact wpAny_bind (wpAny_newObj_type (wpAny_pure ⟨_, rfl, "set_iterator", _, ⟨_, Heap.get?_push_size _ rfl, rfl⟩, si_next.lookup, q1 (Bool.eq_false_iff.mpr z)⟩))
theorem walk_next {I S : Addr} {es : Array (Int × Value)} {ep : Nat} {t : SetTable} (hh : A.handled = none) (hne : S ≠ I) (hf : t.fits es.size = true) (vs : List Value) (sl : Nat → Nat)
    (hN : ∀ (i : Nat) (x : Value), vs[i]? = some x → ∀ (s : Shared) (A : Around) (E : Value → Shared → Prop) (Q : Option (Value × Nat) → Shared → Prop), s.heap.get? S = some (setO es ep t) → Q (some (x, sl (i + 1))) s → wpAny (model prog w) A (setNext S (sl i) i ep) Q E s)
    (hE : ∀ (s : Shared) (A : Around) (E : Value → Shared → Prop) (Q : Option (Value × Nat) → Shared → Prop), s.heap.get? S = some (setO es ep t) → Q none s → wpAny (model prog w) A (setNext S (sl vs.length) vs.length ep) Q E s) :
    Walks prog w A I [I, S] [I] vs.length (fun i v => vs[i]? = some v) (fun i h => h.get? I = some (setItO (.int (sl i) 0) i S es.size ep) ∧ h.get? S = some (setO es ep t)) where
  sub := fun b hb => List.mem_cons.mpr (.inl (List.mem_singleton.mp hb))
  frame := fun i h h' st k => ⟨k I (by simp) _ st.1, k S (by simp) _ st.2⟩
  item := fun i s Q E hi st q => by
    refine si_item st.1 st.2 hf (fun A E Q z => hN i vs[i] (List.getElem?_eq_getElem hi) s A E Q st.2 z) fun h' sb g => ?_
    exact q _ h' s.toks (List.getElem?_eq_getElem hi) ⟨g, (sb.2 S hne).trans st.2⟩ fun b o hb e => (sb.2 b (fun z => hb (by simp [z]))).trans e
  done := fun s Q E st q => si_end hh st.1 st.2 hf (fun A E Q z => hE s A E Q st.2 z) fun h' eb => q h' s.toks fun b o hb e => eb b o (fun z => hb (by simp [z])) e
  self := fun i s Q E st q => si_self st.1 q
theorem walk_drawn {I S tp : Addr} {es : Array (Int × Value)} {ep : Nat} {t : SetTable} (hh : A.handled = none) (hne : S ≠ I) (hnt : tp ≠ I) (hf : t.fits es.size = true) (vs : List Value) (ps : List Nat) (hl : ps.length = vs.length)
    (hN : ∀ (i : Nat) (x : Value), vs[i]? = some x → ∃ k hx, ps[i]? = some k ∧ es[k]? = some (hx, x)) :
    Walks prog w A I [I, S, tp] [I] vs.length (fun i v => vs[i]? = some v) (fun i h => h.get? I = some (setItO (.ref tp) i S es.size ep) ∧ h.get? S = some (setO es ep t) ∧ h.get? tp = some { cls := .type "tuple", data := .seq (ps.map fun i : Nat => rawInt i).toArray }) where
  sub := fun b hb => List.mem_cons.mpr (.inl (List.mem_singleton.mp hb))
  frame := fun i h h' st k => ⟨k I (by simp) _ st.1, k S (by simp) _ st.2.1, k tp (by simp) _ st.2.2⟩
  item := fun i s Q E hi st q => by
    obtain ⟨k, hx, e1, e2⟩ := hN i vs[i] (List.getElem?_eq_getElem hi)
    refine si_drawn st.1 st.2.1 hf st.2.2 rfl (by rw [List.getElem?_toArray, List.getElem?_map, e1]; rfl) e2 fun h' sb g => ?_
    exact q _ h' s.toks (List.getElem?_eq_getElem hi) ⟨g, (sb.2 S hne).trans st.2.1, (sb.2 tp hnt).trans st.2.2⟩ fun b o hb e => (sb.2 b (fun z => hb (by simp [z]))).trans e
  done := fun s Q E st q => si_drawn_end hh st.1 st.2.1 hf st.2.2 rfl (by rw [List.getElem?_toArray, List.getElem?_eq_none]; simp [hl]) fun h' eb => q h' s.toks fun b o hb e => eb b o (fun z => hb (by simp [z])) e
  self := fun i s Q E st q => si_self st.1 q
def slotAt (t : SetTable) : Nat → Nat
  | 0 => 0
  | i + 1 => t.place.getD i 0 + 1
theorem slotAt_below {t : SetTable} (r : Ris t.place) : ∀ {i : Nat}, i ≤ t.place.size → SetTable.below t.place (slotAt t i) = i
  | 0, _ => r.first
  | i + 1, h => by
    show SetTable.below t.place (t.place.getD i 0 + 1) = i + 1
    rw [getD_in h]
    exact r.next h
theorem fits_size {t : SetTable} {n : Nat} (h : t.fits n = true) : t.place.size = n := by
  unfold SetTable.fits at h
  exact beq_iff_eq.mp (Bool.and_eq_true_iff.mp h).1
def atV (es : Array (Int × Value)) (k : Nat) : Value := ((es[k]?).map (·.2)).getD .none
theorem atV_range (es : Array (Int × Value)) : (List.range es.size).map (atV es) = es.toList.map (·.2) := by
  apply List.ext_getElem
  · simp
  · intro i h1 h2
    have hi : i < es.size := by simpa using h1
    simp [atV, hi]
theorem walk_set {s : Shared} {S : Addr} {ns : List Int} {Q : Value → Shared → Prop} (hh : A.handled = none) (hS : SetAt prog w (!w.params.followText "set-order") s.heap S ns)
    (q : ∀ (I : Addr) (fp : List Addr) (h' : Heap) (d : Drawn) (vs : List Value) (ms : List Int) (St : Nat → Heap → Prop), s.heap.objs.size ≤ I → (∀ b ∈ fp, b = S ∨ s.heap.objs.size ≤ b) → (∀ b o, s.heap.get? b = some o → h'.get? b = some o) →
      (∀ A' : Around, A'.handled = none → Walks prog w A' I fp [I] vs.length (fun i v => vs[i]? = some v) St) → St 0 h' → IntsAre vs ms → ms.Perm ns → Q (.ref I) { s with heap := h', drawn := d }) :
    wpAny (model prog w) A (pyIter (.ref S)) Q E s := by
  obtain ⟨es, ep, t, ho, hel, hi, nd, hb, hf, ht⟩ := hS
  have ls := Heap.lt_size ho
  refine iter_set ho hf hb (fun z => ?_) fun ps d p => ?_
  · have kk : ∀ b o, s.heap.get? b = some o → (s.heap.push (setItO (.int 0 0) 0 S es.size ep)).get? b = some o := fun b o e => Heap.get?_push_of_some _ e
    have fpo : ∀ b ∈ [s.heap.objs.size, S], b = S ∨ s.heap.objs.size ≤ b := fun b hb => by
      rcases List.mem_cons.mp hb with e | e
      · exact .inr (Nat.le_of_eq e.symm)
      · exact .inl (List.mem_singleton.mp e)
    cases hx : w.params.followText "set-order" with
    | true =>
      have pp := (pickOrder_perm (w.params.setOrder S ep) es).map (fun e : Int × Value => e.2)
      obtain ⟨ms, im, pm⟩ := ints_perm hi pp
      refine q s.heap.objs.size [s.heap.objs.size, S] _ s.drawn _ ms _ (Nat.le_refl _) fpo kk (fun A' hh' => walk_next hh' (Nat.ne_of_lt ls) hf ((pickOrder (w.params.setOrder S ep) es).toList.map (·.2)) (fun _ => 0) (fun i x e s A E Q ho q => setNext_text hx ho hf ?_) (fun s A E Q ho q => setNext_text hx ho hf ?_)) ⟨Heap.get?_push_size _ rfl, kk _ _ ho⟩ im pm
      · rw [List.getElem?_map, Array.getElem?_toList] at e
        obtain ⟨y, e1, e2⟩ := Option.map_eq_some_iff.mp e
        rw [e1, Option.map_some, e2]
        exact q
      · rw [Array.getElem?_eq_none (by simp)]
        exact q
    | false =>
      rw [hx] at z ht
      have hz : (!t.plain && decide (es.size > 1)) = false := by simpa using z
      have sz := fits_size hf
      refine q s.heap.objs.size [s.heap.objs.size, S] _ s.drawn _ ns _ (Nat.le_refl _) fpo kk (fun A' hh' => walk_next hh' (Nat.ne_of_lt ls) hf (es.toList.map (·.2)) (slotAt t) (fun i x e s A E Q ho q => ?_) (fun s A E Q ho q => ?_)) ⟨Heap.get?_push_size _ rfl, kk _ _ ho⟩ hi (List.Perm.refl _)
      · rw [List.getElem?_map, Array.getElem?_toList] at e
        obtain ⟨y, e1, e2⟩ := Option.map_eq_some_iff.mp e
        have il : i < es.size := by
          cases Nat.lt_or_ge i es.size with
          | inl h => exact h
          | inr h => rw [Array.getElem?_eq_none h] at e1; cases e1
        have ip : i < t.place.size := by rw [sz]; exact il
        refine setNext_place (k := i) hx ho hf ht.1 hz (slotAt_below ht.2 (Nat.le_of_lt ip)) ?_
        rw [e1, Array.getElem?_eq_getElem ip]
        have : slotAt t (i + 1) = t.place[i] + 1 := by show t.place.getD i 0 + 1 = _; rw [getD_in ip]
        rw [this, ← e2] at q
        exact q
      · refine setNext_place (k := (es.toList.map (·.2)).length) hx ho hf ht.1 hz (slotAt_below ht.2 (by simp [sz])) ?_
        rw [Array.getElem?_eq_none (by simp)]
        exact q
  · have kk : ∀ b o, s.heap.get? b = some o → ((s.heap.push { cls := .type "tuple", data := .seq (ps.map fun i : Nat => rawInt i).toArray }).push (setItO (.ref s.heap.objs.size) 0 S es.size ep)).get? b = some o := fun b o e => Heap.get?_push_of_some _ (Heap.get?_push_of_some _ e)
    have e1 : (s.heap.push { cls := .type "tuple", data := .seq (ps.map fun i : Nat => rawInt i).toArray }).objs.size = s.heap.objs.size + 1 := Heap.size_push _ _
    have pp : (ps.map (atV es)).Perm (es.toList.map (·.2)) := by rw [← atV_range]; exact p.map _
    obtain ⟨ms, im, pm⟩ := ints_perm hi pp
    refine q (s.heap.objs.size + 1) [s.heap.objs.size + 1, S, s.heap.objs.size] _ d _ ms _ (Nat.le_succ _) (fun b hb => ?_) kk (fun A' hh' => walk_drawn (tp := s.heap.objs.size) hh' (Nat.ne_of_lt (Nat.lt_succ_of_lt ls)) (Nat.ne_of_lt (Nat.lt_succ_self _)) hf (ps.map (atV es)) ps (by simp) (fun i x e => ?_)) ⟨?_, kk _ _ ho, Heap.get?_push_of_some _ (Heap.get?_push_size _ rfl)⟩ im pm
    · rcases List.mem_cons.mp hb with e | hb
      · exact .inr (by rw [e]; exact Nat.le_succ _)
      · rcases List.mem_cons.mp hb with e | hb
        · exact .inl e
        · exact .inr (Nat.le_of_eq (List.mem_singleton.mp hb).symm)
    · rw [List.getElem?_map] at e
      obtain ⟨k, e1, e2⟩ := Option.map_eq_some_iff.mp e
      have kl : k < es.size := List.mem_range.mp (p.mem_iff.mp (List.mem_of_getElem? e1))
      refine ⟨k, es[k].1, e1, ?_⟩
      rw [← e2]
      simp [atV, kl]
    · show Heap.get? _ (s.heap.objs.size + 1) = _
      rw [← e1]
      exact Heap.get?_push_size _ rfl
end
end L2
set_option Elab.async false
set_option linter.all false
set_option maxRecDepth 100000
set_option maxHeartbeats 1000000
namespace L2
open PySem PySem.Spec PyProof.Rows
section
variable {prog : Program} {w : World} {A : Around} {E : Value → Shared → Prop} {s : Shared}
theorem hint_set {r : Addr} {Q : Bool → Shared → Prop} (hT : s.TypeIs (.ref r) "set") (h : Q false s) : wpAny (model prog w) A (Builtin.List.listLengthHint (.ref r)) Q E s := by
  unfold Builtin.List.listLengthHint
  refine wpAny_bind (wpAny_specialOf hT PySem.F.slot_set_len.lookup ?_); generalize hid : ("set.__len__" : String) = id0
  wp_delta
  rw [show splitId id0 = some ("set", "__len__") from by subst hid; decide +kernel]; subst hid
  refine wpAny_bind (wpAny_isInstance (T := "set") (b := true) hT sub_set_self ?_)
  refine wpAny_ite_split (fun hab => absurd hab (by decide)) (fun _ => wpAny_ite_split (fun _ => ?_) (fun hab => absurd (by decide +kernel) hab))
  exact wpAny_bind (wpAny_typeOf hT (wpAny_pure h))
theorem ext_set {S D : Addr} {ns : List Int} {R : Result → Shared → Prop} (hh : A.handled = none) (hS : SetAt prog w (!w.params.followText "set-order") s.heap S ns) (hD : s.heap.get? D = some { cls := .type "list", data := .seq #[] }) (hn : ns.length ≤ sizeLine)
    (hR : ∀ h' tk d acc c ms, (∀ b o, b ≠ D → s.heap.get? b = some o → h'.get? b = some o) → h'.get? D = some { cls := .type "list", dict := none, data := .seq acc c, slots := #[] } → IntsAre acc.toList ms → ms.Perm ns → R (.ok (.ret (.ref D))) { s with heap := h', toks := tk, drawn := d }) :
    wpAny (model prog w) A.in1 (Builtin.List.listExtendWith (.ref D) (.ref S) (.ref D))
      (fun fin s' => match fin with | .done f => R (.ok f) s' | .again c' => c'.quiet = true ∧ codeAny (model prog w) A c' R s') (fun e s' => R (.error e) s') s := by
  have hT : s.TypeIs (.ref S) "set" := by obtain ⟨es, ep, t, ho, _⟩ := hS; exact ⟨_, ho, rfl⟩
  have nd : D ≠ S := fun z => by
    obtain ⟨es, ep, t, ho, _⟩ := hS
    rw [← z, hD] at ho
    exact absurd (show Value.type "list" = Value.type "set" from congrArg Obj.cls (Option.some.inj ho)) (by decide)
  unfold Builtin.List.listExtendWith
  refine wpAny_bind (wpAny_typeOf (T := "set") hT ?_)
  rw [if_neg (by simp [Builtin.List.listSameRef, nd])]
  refine wpAny_bind (walk_set (A := A.in1) hh hS fun I fp h' d vs ms St lI lf kk W st im pm => ?_)
  have hT' : Shared.TypeIs { s with heap := h', drawn := d } (.ref S) "set" := by obtain ⟨es, ep, t, ho, _⟩ := hS; exact ⟨_, kk _ _ ho, rfl⟩
  refine wpAny_bind (wpAny_holding (hint_set hT' ?_))
  have nf : D ∉ fp := fun z => by
    rcases lf D z with e | e
    · exact nd e
    · exact absurd (Heap.lt_size hD) (Nat.not_lt.mpr e)
  have ln : vs.length ≤ sizeLine := by rw [← ints_len im, pm.length_eq]; exact hn
  have go : ∀ (h2 : Heap) (c1 : Nat), (∀ b o, b ≠ D → h'.get? b = some o → h2.get? b = some o) → h2.get? D = some { cls := .type "list", data := .seq #[] c1 } → codeAny (model prog w) A (.builtin "list.extend.loop" ⟨[.ref D, .ref I, .ref D], []⟩) R { s with heap := h2, drawn := d } := by
    intro h2 c1 k2 hD2
    refine codeAny_extend_loopS (s := { s with heap := h2, drawn := d }) (W A.in1 hh).toS ln D nf (.ref D) vs.length 0 #[] c1 rfl (Nat.zero_le _) ((W A.in1 hh).frame 0 h' h2 st fun b hb o e => k2 b o (fun z => nf (z ▸ hb)) e) hD2 (ItemsOf.nil _) fun s' acc c hm hD' it => ?_
    rw [Moved.eq_with hm]
    refine hR s'.heap s'.toks d acc c ms (fun b o hb e => hm.heap b o (fun z => ?_) (k2 b o hb (kk b o e))) hD' ?_ pm
    · rcases List.mem_cons.mp z with y | y
      · exact hb y
      · exact absurd (Heap.lt_size e) (by rw [List.mem_singleton.mp y]; exact Nat.not_lt.mpr lI)
    · have : acc.toList = vs := by
        apply List.ext_getElem?
        intro i
        by_cases z : i < acc.size
        · have e1 : acc[i]? = some acc[i] := Array.getElem?_eq_getElem z
          rw [Array.getElem?_toList, e1]
          exact (it.2 i _ e1).symm
        · have z' : vs.length ≤ i := by have := it.1; omega
          rw [Array.getElem?_toList, Array.getElem?_eq_none (Nat.not_lt.mp z), List.getElem?_eq_none z']
      rw [this]
      exact im
  have qt : ∀ a : Args, (Code.builtin "list.extend.loop" a).quiet = true := fun a => plainId_quiet PySem.F.plain_extend_loop _
  refine wpAny_ite_split (fun _ => ?_) (fun _ => wpAny_pure ⟨qt _, go h' 0 (fun b o _ e => e) (kk _ _ hD)⟩)
  refine wpAny_bind (wpAny_rule (wpAny_bind (show wpAny _ _ (updateSeq D (·.push .none) >>= fun _ => updateSeq D (·.pop)) _ _ _ from wpAny_bind (wpAny_updateSeq (kk _ _ hD) rfl ?_))))
  have g2 := Heap.get?_update_self (Obj.mapSeq (·.push Value.none)) (kk _ _ hD) rfl
  refine wpAny_updateSeq (hz := by seq_fits) g2 rfl (wpAny_pure ⟨qt _, ?_⟩)
  have g3 := Heap.get?_update_self (Obj.mapSeq (·.pop)) g2 rfl
  exact go _ _ (fun b o hb e => (Heap.get?_update_other _ _ (Ne.symm hb)).trans ((Heap.get?_update_other _ _ (Ne.symm hb)).trans e)) g3
theorem collect_set {S : Addr} {ns : List Int} {R : List Value → Shared → Prop} (hh : A.handled = none) (hS : SetAt prog w (!w.params.followText "set-order") s.heap S ns) (hn : ns.length ≤ sizeLine)
    (h : ∀ h' tk d vs ms, (∀ b o, s.heap.get? b = some o → h'.get? b = some o) → IntsAre vs ms → ms.Perm ns → R vs { s with heap := h', toks := tk, drawn := d }) : wpAny (model prog w) A (collect (.ref S)) R E s := by
  unfold collect
  refine wpAny_bind (wpAny_runValue (codeAny_builtin entry_proto_collect' ?_)); rw [Around.under_plainId PySem.F.plain_proto_collect _]
  refine (show wpAny _ A.in1 (newList [] >>= fun l => again (.builtin "list.__iadd__" ⟨[l, .ref S], []⟩)) _ _ s from wpAny_bind (wpAny_newObj_type (wpAny_pure ⟨plainId_quiet PySem.F.plain_list_iadd _, codeAny_builtin entry_list_iadd' ?_⟩)))
  rw [Around.under_plainId PySem.F.plain_list_iadd _]
  have hD : (s.heap.push { cls := .type "list", data := .seq ([] : List Value).toArray }).get? s.heap.objs.size = some { cls := .type "list", data := .seq #[] } := Heap.get?_push_size _ rfl
  have key := ext_set (A := A) (s := { s with heap := s.heap.push { cls := .type "list", data := .seq ([] : List Value).toArray } }) (S := S) (D := s.heap.objs.size) (ns := ns)
    (R := fun (q : Result) (s' : Shared) => ∃ (h' : Heap) (tk : Nat) (d : Drawn) (acc : Array Value) (c : Nat) (ms : List Int), q = .ok (.ret (.ref s.heap.objs.size)) ∧ s' = { s with heap := h', toks := tk, drawn := d } ∧ (∀ b o, s.heap.get? b = some o → h'.get? b = some o) ∧ h'.get? s.heap.objs.size = some { cls := .type "list", dict := none, data := .seq acc c, slots := #[] } ∧ IntsAre acc.toList ms ∧ ms.Perm ns)
    hh (hS.at' fun o e => Heap.get?_push_of_some _ e) hD hn fun h' tk d acc c ms k1 g im pm => ⟨h', tk, d, acc, c, ms, rfl, rfl, fun b o e => k1 b o (Nat.ne_of_lt (Heap.lt_size e)) (Heap.get?_push_of_some _ e), g, im, pm⟩
  refine wpAny_mono key (fun f s' x => ?_) fun e s' x => ?_
  · cases f with
    | done f =>
      obtain ⟨h', tk, d, acc, c, ms, e, rfl, k1, g, im, pm⟩ := x
      cases e
      refine (show wpAny _ A (load s.heap.objs.size >>= _) _ _ _ from wpAny_bind (wpAny_load g (wpAny_pure (h h' tk d acc.toList ms k1 im pm))))
    | again c₁ =>
      refine ⟨x.1, codeAny_mono x.2 fun q s₂ y => ?_⟩
      obtain ⟨h', tk, d, acc, c, ms, rfl, rfl, k1, g, im, pm⟩ := y
      refine (show wpAny _ A (load s.heap.objs.size >>= _) _ _ _ from wpAny_bind (wpAny_load g (wpAny_pure (h h' tk d acc.toList ms k1 im pm))))
  · obtain ⟨_, _, _, _, _, _, e', _⟩ := x
    cases e'
theorem sorted_set {S : Addr} {ns : List Int} {Q : Value → Shared → Prop} (hh : A.handled = none) (hS : SetAt prog w (!w.params.followText "set-order") s.heap S ns) (hn : ns.length < 64)
    (h : ∀ (h1 h' : Heap) (tk : Nat) (d : Drawn) (out : Array Value) (ns' : List Int) (e : Nat), (∀ b o, s.heap.get? b = some o → h1.get? b = some o) → (∀ b o, h1.get? b = some o → h'.get? b = some o) → h'.get? h1.objs.size = some { cls := .type "list", data := .seq out e } → IntsAre out.toList ns' → ns'.Perm ns → ns'.Pairwise (· ≤ ·) → Q (.ref h1.objs.size) { s with heap := h', toks := tk, drawn := d }) :
    wpAny (model prog w) A (call (.builtin "sorted") [.ref S]) Q E s := by
  refine Calls.call_function_entry kind_sorted plain_sorted entry_sorted (args_sorted1 _) ?_
  unfold Builtin.«sorted»
  refine wpAny_bind (m := checkCount "sorted" 1 1 _) (wpAny_pure (wpAny_bind (collect_set (A := A.in1) hh hS (Nat.le_trans (Nat.le_of_lt hn) (by decide)) fun h1 tk d vs ms k1 i1 pm => ?_)))
  have hl : vs.length < 64 := by rw [i1.length, pm.length_eq]; exact hn
  refine wpAny_bind (wpAny_newList ?_ (Nat.le_trans (Nat.le_of_lt hl) (by decide)))
  have oL : (h1.push (seqObj "list" vs.toArray 0)).get? h1.objs.size = some (seqObj "list" vs.toArray 0) := Heap.get?_push_size _ rfl
  refine wpAny_bind (wpAny_holding (wpAny_call_entry slot_list_sort ⟨_, oL, rfl⟩ entry_list_sort (list_sort_tree oL i1 hl fun out ns' a1 a2 a3 => ⟨_, rfl, ?_⟩) (args_list_sort _)))
  obtain ⟨e, he⟩ := sortedHeap_at (out := out) oL
  refine wpAny_pure ⟨_, rfl, h h1 _ tk d out ns' e k1 (fun b o g1 => ?_) he a1 (a2.trans pm) a3⟩
  have lt := Heap.lt_size g1
  refine (sortedHeap_old (Nat.ne_of_lt lt) ?_).trans (Heap.get?_push_of_some _ g1)
  rw [size_push']
  exact Nat.lt_succ_of_lt lt
end
section
variable {X : Cx}
theorem Inv.drew {pins : List (Addr × Obj)} {σ : St} {H : Hp} {s : Shared} (I : Inv X pins σ H s) (d : Drawn) : Inv X pins σ H { s with drawn := d } := ⟨I.ok, I.os, I.bare, I.base, I.loc, I.cell, I.free, I.freeC, I.pin, I.hok, I.len⟩
def tSSet (K : PySem.W.Frag) (te : TE) : TE := fun σ H Q => te σ H fun x H1 => ∃ (a : Addr) (ns : List Int), x = .ref a ∧ SqT K H1 a (ns.map V.int) ∧ ns.length < 64 ∧ srt (ns.foldl addI []) H1 Q
theorem addI_fold_len : ∀ (vs ns : List Int), (vs.foldl addI ns).length ≤ ns.length + vs.length
  | [], ns => Nat.le_refl _
  | v :: vs, ns => by
    have h1 := addI_fold_len vs (addI ns v)
    have h2 := addI_len ns v
    show (vs.foldl addI (addI ns v)).length ≤ _
    rw [List.length_cons]
    omega
theorem pe_sortedSet {e : Expr} {te : TE} {p1 p2 c1 c2 : Pos} (hcalm : X.calm = true) (g1 : Gl X "sorted") (m1 : X.mg "sorted" = none) (g2 : Gl X "set") (m2 : X.mg "set" = none) (b1 : bootBuiltins "sorted" = some (.builtin "sorted")) (b2 : bootBuiltins "set" = some (.type "set")) (ha : PE X e te)
    (he : starEach [e] X.env = [(false, eval e X.env)] := by rfl) : PE X (.Call (.Name "sorted" p1) [.Call (.Name "set" p2) [e] [] c2] [] c1) (tSSet X.K te) := by
  intro pins s σ H Q I h
  have hh : X.A.handled = none := I.ok.hd hcalm
  refine wpAny_Call_Name_kw (ld_blt I g1 m1 b1 ?_ (by decide) (by decide))
  refine PyProof.Rows.callWith_builtin1 ?_ rfl rfl
  refine (show wpAny _ _ (spliced ((false, eval (.Call (.Name "set" p2) [e] [] c2) X.env) :: [])) _ _ s from Calls.spliced_cons ?_)
  refine wpAny_Call_Name_kw (ld_blt I g2 m2 b2 ?_ (by decide) (by decide))
  refine PyProof.Rows.callWith_type1 ?_ he rfl
  rw [he]
  refine (show wpAny _ _ (spliced ((false, eval e X.env) :: [])) _ _ s from Calls.spliced_cons (thn (ha pins s σ H _ I h) fun u s1 ⟨x, H1, I1, r1, a, ns, ex, sq, hl, q⟩ => ?_))
  subst ex
  cases r1
  refine Calls.spliced_nil ?_
  obtain ⟨its, rv, pl, hz⟩ := I1.tuple sq
  refine call_set_of hh pl (by simpa using intsAre_of rv) (Nat.lt_trans hl (by decide)) fun h2 tk ns2 S2 pm k2 => Calls.spliced_nil ?_
  have l2 : ns2.length < 64 := by
    rw [pm.length_eq]
    have := addI_fold_len ns []
    rw [List.length_nil, Nat.zero_add] at this
    omega
  have lf : (ns.foldl addI []).length < 64 := by rw [← pm.length_eq]; exact l2
  refine sorted_set (s := { s1 with heap := h2, toks := tk }) hh S2 l2 fun h3 h4 tk2 d out ns' e k3 k4 g i p r => ?_
  exact srt_fin (I1.drew d) lf q (fun b o z => k3 b o (k2 b o z)) k4 g i (p.trans pm) r
end
end L2
set_option Elab.async false
set_option linter.all false
set_option maxRecDepth 100000
set_option maxHeartbeats 400000
namespace HT
open PySem PySem.Spec PyProof.Rows L2
variable {prog : Program} {w : World} {A : Around} {E : Value → Shared → Prop} {s : Shared}
theorem getItem_tuple_all {t sl : Addr} {items : Array Value} {vl vu : Value} {lo hi : Option Int} {Q : Value → Shared → Prop} (ht : IsTup s.heap t items) (hs : s.heap.IsSliceOf sl vl vu .none) (pl : IsPart vl lo) (pu : IsPart vu hi)
    (h0 : sIx items.size 0 lo = 0) (h1 : sIx items.size items.size hi = items.size) (h : Q (.ref t) s) : wpAny (model prog w) A (getItem (.ref t) (.ref sl)) Q E s := by
  obtain ⟨os, hos, hcs, hds⟩ := id hs
  have hTs : s.TypeIs (.ref sl) "slice" := ⟨os, hos, hcs⟩
  unfold getItem; try with_reducible refine wpAny_holding ?_
  first | refine wpAny_bind (wpAny_pure ?_) | skip
  refine wpAny_bind (wpAny_sequenceKey ht.typeIs (by decide) (wpAny_bind (wpAny_callSpecial?_slot (name := Str.ofString "__getitem__") ht.typeIs PyProof.Rows.slot_tuple_getitem (wpAny_call_entry PyProof.Rows.slot_tuple_getitem ht.typeIs entry_tuple_getitem ?_ (args_tuple_getitem _ _)))))
  refine (show wpAny _ _ (Builtin.Tuple.tupleItemsOf (.ref t) >>= _) _ _ s from wpAny_bind (tupleItemsOf_ ht (wpAny_bind (wpAny_typeOf hTs ?_))))
  rw [if_pos (by decide)]; refine wpAny_bind (sliceApplied_gen hs pl pu ?_)
  have yes : (((sIx items.size 0 lo : Nat) : Int) == 0 && (1 : Int) == 1 && (sIx items.size items.size hi - sIx items.size 0 lo) == items.size) = true := by
    rw [h0, h1]
    simp
  refine (show wpAny _ _ (if (((sIx items.size 0 lo : Nat) : Int) == 0 && (1 : Int) == 1 && (sIx items.size items.size hi - sIx items.size 0 lo) == items.size) = true then _ else _) _ _ s from ?_); rw [if_pos yes]
  refine wpAny_bind (show wpAny _ _ (typeOf (.ref t) >>= _) _ _ s from wpAny_bind (wpAny_typeOf ht.typeIs (wpAny_pure ?_)))
  rw [if_pos (by decide)]
  first
    | exact wpAny_bind (wpAny_rule (wpAny_pure ⟨_, rfl, wpAny_pure h⟩))
    | exact wpAny_bind (wpAny_rule (wpAny_pure (wpAny_pure ⟨_, rfl, wpAny_pure h⟩)))
    | (trace_state; exact wpAny_bind (wpAny_rule (wpAny_pure ⟨_, rfl, h⟩)))
end HT
namespace L2
open PySem PySem.Spec PyProof.Rows
section
variable {X : Cx}
def rCatQ (K : PySem.W.Frag) : R2 := fun x y H Q => ∃ a b xs ys, x = .ref a ∧ y = .ref b ∧ SqL K H a xs ∧ SqL K H b ys ∧ xs.length + ys.length ≤ sizeLine ∧ ∀ p, H p = none → Q (.ref p) (upd H p (.lst (xs ++ ys)))
theorem op_catQ : OpR X (binaryOp .Add) (rCatQ X.K) := by
  intro pins s σ H x y v u Q I rx ry h
  obtain ⟨a, b, xs, ys, rfl, rfl, ha, hb, hz, q⟩ := h
  cases rx; cases ry
  obtain ⟨ia, ra, pa, _⟩ := I.list ha; obtain ⟨ib, rb, pb, _⟩ := I.list hb
  obtain ⟨⟨c1, d1, t1, l1⟩, n1, g1, h1, k1, m1⟩ := id pa
  obtain ⟨⟨c2, d2, t2, l2⟩, n2, g2, h2, k2, m2⟩ := id pb
  simp only at h1 k1 m1 h2 k2 m2
  subst h1 k1 m1 h2 k2 m2
  have l1 := ra.length
  have l2 := rb.length
  refine concat_meets ⟨_, g1, rfl⟩ ⟨_, g2, rfl⟩ noFill_list_add seq_list_add PySem.F.slot_list_add PySem.F.entry_list_add (PySem.F.args_list_add_2 _ _) (list_addW a b ia.toArray ib.toArray n1 n2 none none _ _ (by rw [List.size_toArray, List.size_toArray]; omega)) ⟨g1, g2, ?_⟩
  rw [show ia.toArray ++ ib.toArray = (ia ++ ib).toArray by simp]
  exact ⟨.ref _, _, I.lnew (t' := s.toks) (ra.append rb) (by rw [List.length_append]; omega), rfl, q _ I.fresh⟩
def rSlW (K : PySem.W.Frag) : V → Option Int → Option Int → Hp → VK → Prop := fun x lo hi H Q => ∃ a xs, x = .ref a ∧ SqT K H a xs ∧ (HT.sIx xs.length 0 lo = 0 ∧ HT.sIx xs.length xs.length hi = xs.length) ∧ Q (.ref a) H
theorem sl_tupW : SlR X (rSlW X.K) := by
  intro pins s σ H x v vl vu lo hi sl Q I rx hs pl pu h
  obtain ⟨a, xs, rfl, hx, ⟨w0, w1⟩, q⟩ := h
  cases rx
  obtain ⟨its, r, ht, hz⟩ := I.tuple hx
  have hlen : its.toArray.size = xs.length := (List.size_toArray ..).trans r.length.symm
  refine ⟨"tuple", _, PyProof.Rows.slot_tuple_getitem.lookup, ht.typeIs, HT.getItem_tuple_all ht hs pl pu (by rw [hlen]; exact w0) (by rw [hlen]; exact w1) ⟨.ref a, H, I, rfl, q⟩⟩
theorem slSeqW : SlR X (fun x lo hi H Q => (rSlL X.K x lo hi H Q ∨ rSlT X.K x lo hi H Q ∨ rSlS x lo hi H Q) ∨ rSlW X.K x lo hi H Q) := slSeq.or sl_tupW
end
theorem qs_ret {X : Cx} {pos : Pos} {e : Expr} {te : TE} (h : QE X e te) : QS X (.Return (some e) pos) (tRet te) := ⟨ps_ret h.run⟩
theorem cons_cb1 {f : List V → Hp → VK → Prop} {te : TE} {ta : TA} {σ : St} {H : Hp} {Q : List V → Hp → Prop} (h : te σ H fun x H1 => f [x] H1 fun y H2 => ta σ H2 fun ys H3 => Q (y :: ys) H3) : tCons (tCB f (tCons te tNil)) ta σ H Q := h
end L2
open PySem PySem.W PyProof.Rows
set_option Elab.async false
set_option maxRecDepth 100000
set_option maxHeartbeats 4000000
namespace TJ
section
variable (p : Program) (w : World) (n₀ : Nat) (ann : Option Value) (code : Code) (q : Pos)
theorem segGo_add {n m : Nat} : ∀ {s s' s'' : Shared} {t t' t'' : Thread}, segGo treeTable p w n₀ ann 1 n s t = some (s', t') → segGo treeTable p w n₀ ann 1 m s' t' = some (s'', t'') →
    segGo treeTable p w n₀ ann 1 (n + m) s t = some (s'', t'') := by
  induction n with
  | zero =>
    intro s s' s'' t t' t'' h k
    obtain ⟨rfl, rfl⟩ : s = s' ∧ t = t' := by simpa [segGo] using h
    rw [Nat.zero_add]; exact k
  | succ n ih =>
    intro s s' s'' t t' t'' h k
    rw [show n + 1 + m = n + m + 1 by omega]
    unfold segGo at h ⊢
    cases he : endAt 1 t with
    | some f => rw [he] at h; cases h
    | none =>
      rw [he] at h
      cases hk : stepOk n₀ ann t with
      | false => rw [hk] at h; cases h
      | true =>
        rw [hk] at h
        cases hs : step (denote treeTable) p w s t with
        | halt o s₂ => rw [hs] at h; cases h
        | go s₂ t₂ => rw [hs] at h; exact ih h k
def Steps (c : Nat) (s : Shared) (t : Thread) (s' : Shared) (t' : Thread) : Prop := ∃ n, n ≤ c ∧ segGo treeTable p w n₀ ann 1 n s t = some (s', t')
def Goes {α : Type} (c : Nat) (x : Sem α) (s : Shared) (pos : Pos) (a : α) (s' : Shared) (pos' : Pos) : Prop :=
  ∀ (K : α → Sem Fin) (H : Value → Sem Fin) (gd : Bool → Bool) (lv : List Value → List Value),
    Steps p w n₀ ann c s ⟨x.wrap K H gd lv, code, pos, [topFrame q]⟩ s' ⟨K a, code, pos', [topFrame q]⟩
end
section
variable {p : Program} {w : World} {n₀ : Nat} {ann : Option Value} {code : Code} {q : Pos}
theorem Steps.trans {c d : Nat} {s s' s'' : Shared} {t t' t'' : Thread} (h : Steps p w n₀ ann c s t s' t') (k : Steps p w n₀ ann d s' t' s'' t'') : Steps p w n₀ ann (c + d) s t s'' t'' := by
  obtain ⟨n, hn, h⟩ := h
  obtain ⟨m, hm, k⟩ := k
  exact ⟨n + m, by omega, segGo_add p w n₀ ann h k⟩
theorem Steps.refl {s : Shared} {t : Thread} : Steps p w n₀ ann 0 s t s t := ⟨0, Nat.le_refl _, rfl⟩
theorem Steps.le {c d : Nat} {s s' : Shared} {t t' : Thread} (h : Steps p w n₀ ann c s t s' t') (l : c ≤ d) : Steps p w n₀ ann d s t s' t' := let ⟨n, a, b⟩ := h; ⟨n, Nat.le_trans a l, b⟩
theorem Steps.one {s s' : Shared} {t t' : Thread} (he : endAt 1 t = none) (hk : stepOk n₀ ann t = true) (hs : step (denote treeTable) p w s t = .go s' t') : Steps p w n₀ ann 1 s t s' t' := by
  refine ⟨1, Nat.le_refl _, ?_⟩
  unfold segGo
  rw [he, hk, hs]
  rfl
variable {α β : Type} {s s' s'' : Shared} {pos pos' pos'' : Pos} {a : α} {b : β} {c d : Nat}
theorem Goes.pure : Goes p w n₀ ann code q 0 (Pure.pure a : Sem α) s pos a s pos := fun _ _ _ _ => .refl
theorem Goes.le {x : Sem α} (h : Goes p w n₀ ann code q c x s pos a s' pos') (l : c ≤ d) : Goes p w n₀ ann code q d x s pos a s' pos' := fun K H gd lv => (h K H gd lv).le l
theorem Goes.bind {x : Sem α} {f : α → Sem β} (h : Goes p w n₀ ann code q c x s pos a s' pos') (k : Goes p w n₀ ann code q d (f a) s' pos' b s'' pos'') : Goes p w n₀ ann code q (c + d) (x >>= f) s pos b s'' pos'' := by
  intro K H gd lv
  have e : (x >>= f).wrap K H gd lv = x.wrap (fun a => (f a).wrap K H gd lv) H gd lv := by
    rw [Sem.bind_eq_wrap', Sem.wrap_wrap]
    rfl
  rw [e]
  exact (h _ H gd lv).trans (k K H gd lv)
theorem Goes.keep {x : Sem α} {vs : List Value} (h : Goes p w n₀ ann code q c x s pos a s' pos') : Goes p w n₀ ann code q c (x.keep vs) s pos a s' pos' := by
  intro K H gd lv
  rw [Sem.keep_eq_wrap, Sem.wrap_wrap]
  exact h K H _ _
theorem Goes.holding {x : Sem α} {vs : List Value} (h : Goes p w n₀ ann code q c x s pos a s' pos') : Goes p w n₀ ann code q c (holding vs x) s pos a s' pos' := by
  rw [holding_eq_keep]
  exact h.keep
theorem Goes.rule {tag : String} : Goes p w n₀ ann code q 1 (PySem.rule tag) s pos () s pos := fun _ _ _ _ => .one rfl rfl rfl
theorem Goes.at' {pos₁ : Pos} : Goes p w n₀ ann code q 1 (standAt pos₁) s pos () s pos₁ := fun _ _ _ _ => .one rfl rfl rfl
theorem Goes.loadPart {A : Addr} {o : Obj} {part : Option Value} (ho : s.heap.get? A = some o) : Goes p w n₀ ann code q 1 (loadPart A part) s pos o s pos := fun K H gd lv =>
  .one rfl rfl (by
    obtain ⟨heap, gens, drawn, toks, os⟩ := s
    show (match heap.get? A with | some o => Step.go _ _ | none => _) = _
    have ho : heap.get? A = some o := ho
    rw [ho]
    rfl)
theorem Goes.updatePart {A : Addr} {o : Obj} {f : Obj → Obj} {part : Option Value} (ho : s.heap.get? A = some o) (hn : Nat.ble n₀ A = true) : Goes p w n₀ ann code q 1 (updatePart A part f) s pos () { s with heap := s.heap.update A f } pos := fun K H gd lv =>
  .one rfl (by
    show (_ && (Nat.ble n₀ A || _ || _ || _)) = true
    rw [hn]
    rfl) (by
    obtain ⟨heap, gens, drawn, toks, os⟩ := s
    have ho : heap.get? A = some o := ho
    show (if (heap.get? A).isSome = true then Step.go _ _ else _) = _
    rw [ho]
    rfl)
theorem Goes.leaf {x : Sem α} {sT sT' : SharedT} (n : Nat) (h : ∀ K H gd lv, segGoT treeTable p w n₀ ann 1 n sT ⟨x.wrap K H gd lv, code, pos, [topFrame q]⟩ = some (sT', ⟨K a, code, pos', [topFrame q]⟩)) :
    Goes p w n₀ ann code q n x sT.abs pos a sT'.abs pos' := fun K H gd lv => ⟨n, Nat.le_refl _, segGo_of (h K H gd lv)⟩
end
end TJ
open PySem PySem.W PyProof.Rows
set_option Elab.async false
set_option maxRecDepth 100000
set_option maxHeartbeats 4000000
namespace TJ
section
variable {p : Program} {w : World} {n₀ : Nat} {ann : Option Value} {code : Code} {q : Pos} {s : Shared} {pos : Pos}
theorem Goes.forIn {γ β : Type} {c : Nat} {f : γ → β → Sem (ForInStep β)} {b : β} : ∀ {l : List γ}, (∀ x ∈ l, Goes p w n₀ ann code q c (f x b) s pos (.yield b) s pos) → Goes p w n₀ ann code q (l.length * c) (ForIn.forIn l b f) s pos b s pos
  | [], _ => by
    rw [List.forIn_nil]
    exact Goes.pure.le (Nat.zero_le _)
  | x :: l, h => by
    rw [List.forIn_cons]
    have k := Goes.forIn (l := l) fun y hy => h y (List.mem_cons_of_mem _ hy)
    have e := Goes.bind (f := fun r => match r with | .done b => (Pure.pure b : Sem β) | .yield b => ForIn.forIn l b f) (h x List.mem_cons_self) k
    exact e.le (by rw [List.length_cons, Nat.add_mul]; omega)
theorem Goes.entries {d : Addr} {o : Obj} {es : Array DictEntry} {ep : Nat} {part : Option Value} (ho : s.heap.get? d = some o) (hd : o.data = .dict es ep) : Goes p w n₀ ann code q 1 (dictEntries d part) s pos es s pos := by
  unfold dictEntries
  refine (Goes.bind (d := 0) (Goes.loadPart ho) ?_)
  rw [hd]
  exact Goes.pure
theorem Goes.epoch {d : Addr} {o : Obj} {es : Array DictEntry} {ep : Nat} {part : Option Value} (ho : s.heap.get? d = some o) (hd : o.data = .dict es ep) : Goes p w n₀ ann code q 1 (dictEpoch d part) s pos ep s pos := by
  unfold dictEpoch
  refine (Goes.bind (d := 0) (Goes.loadPart ho) ?_)
  rw [hd]
  exact Goes.pure
theorem Goes.mayTell {a : Addr} {stored : List Value} {cq : Nat} (hq : Goes p w n₀ ann code q cq (eqIsQuiet 8 (.ref a)) s pos true s pos) (hs : ∀ v ∈ stored, Goes p w n₀ ann code q cq (eqIsQuiet 8 v) s pos true s pos) :
    Goes p w n₀ ann code q (cq + stored.length * cq) (tableMayTell (.ref a) stored) s pos false s pos := by
  unfold tableMayTell
  split
  · exact Goes.pure.le (Nat.zero_le _)
  · refine Goes.bind hq ?_
    simp only [Bool.not_true, Bool.false_eq_true, if_false]
    refine (Goes.bind (a := (none, ())) (d := 0) (Goes.forIn fun v hv => ?_) ?_).le (Nat.le_refl _)
    · refine (Goes.bind (d := 0) (hs v hv) ?_).le (Nat.le_refl _)
      simp only [Bool.not_true, Bool.false_eq_true, if_false]
      exact Goes.pure
    · exact Goes.pure
theorem Goes.find_none {d a : Addr} {o : Obj} {es : Array DictEntry} {ep : Nat} {h : Int} {cq ce : Nat} (ho : s.heap.get? d = some o) (hd : o.data = .dict es ep)
    (hq : Goes p w n₀ ann code q cq (eqIsQuiet 8 (.ref a)) s pos true s pos)
    (hk : ∀ e ∈ es.toList, ∃ b, e.key = .ref b ∧ b ≠ a ∧ Goes p w n₀ ann code q cq (eqIsQuiet 8 (.ref b)) s pos true s pos ∧ Goes p w n₀ ann code q ce (eqBool (.ref b) (.ref a)) s pos false s pos) :
    Goes p w n₀ ann code q (2 + cq + es.size * (cq + ce + 10)) (dictFind d (.ref a) h) s pos none s pos := by
  have hmem : ∀ (i : Nat) (e : DictEntry), es[i]? = some e → e ∈ es.toList := fun i e he => Array.mem_toList_iff.mpr (Array.mem_of_getElem? he)
  have hany : ¬ (es.any fun e => e.key == Value.ref a && e.hash != h) = true := by
    rw [← Array.any_toList, List.any_eq_true]
    rintro ⟨e, hin, hc⟩
    obtain ⟨b, hb, hne, _⟩ := hk e hin
    simp only [hb, Bool.and_eq_true, beq_iff_eq, Value.ref.injEq] at hc
    exact hne hc.1
  have hst : ∀ v ∈ (placesWithHash es.size (fun i => es[i]?.map (·.hash)) h).filterMap (fun i => es[i]?.map (·.key)), ∃ b, v = .ref b ∧ b ≠ a ∧ Goes p w n₀ ann code q cq (eqIsQuiet 8 v) s pos true s pos := by
    intro v hv
    obtain ⟨i, _, hi⟩ := List.mem_filterMap.mp hv
    cases hei : es[i]? with
    | none => rw [hei] at hi; cases hi
    | some e =>
      rw [hei] at hi
      obtain rfl : e.key = v := by simpa using hi
      obtain ⟨b, hb, hne, hbq, _⟩ := hk e (hmem i e hei)
      exact ⟨b, hb, hne, hb ▸ hbq⟩
  have hpl : (placesWithHash es.size (fun i => es[i]?.map (·.hash)) h).length ≤ es.size := by
    unfold placesWithHash
    exact Nat.le_trans (List.length_filter_le _ _) (by rw [List.length_range]; exact Nat.le_refl _)
  have hsl : ((placesWithHash es.size (fun i => es[i]?.map (·.hash)) h).filterMap (fun i => es[i]?.map (·.key))).length ≤ es.size := Nat.le_trans (List.length_filterMap_le _ _) hpl
  unfold dictFind
  refine Goes.holding ?_
  refine (Goes.bind (d := 1 + cq + es.size * (cq + ce + 10)) (Goes.entries ho hd) ?_).le (by omega)
  dsimp only
  rw [if_neg (show ¬ ((Value.ref a :: (placesWithHash es.size (fun i => es[i]?.map (·.hash)) h).filterMap (fun i => es[i]?.map (·.key))).all carriedByValue) = true by simp [carriedByValue])]
  rw [if_neg hany]
  have hone : ¬ (((placesWithHash es.size (fun i => es[i]?.map (·.hash)) h).filterMap (fun i => es[i]?.map (·.key))) == [Value.ref a]) = true := by
    intro e
    have e := eq_of_beq e
    obtain ⟨b, hb, hne, _⟩ := hst (.ref a) (by rw [e]; exact List.mem_singleton.mpr rfl)
    exact hne (by injection hb with hb; exact hb.symm)
  rw [if_neg hone]
  refine (Goes.bind (d := 1 + es.size * (ce + 10)) (Goes.mayTell hq fun v hv => (let ⟨_, _, _, z⟩ := hst v hv; z)) ?_).le ?_
  · rw [if_neg (by simp)]
    refine (Goes.bind (a := (none, none)) (d := 0) (Goes.forIn (c := ce + 10) fun i hi => ?_) ?_).le ?_
    · cases hei : es[i]? with
      | none => exact Goes.pure.le (Nat.zero_le _)
      | some e =>
        dsimp only
        split
        · obtain ⟨b, hb, hne, _, hbe⟩ := hk e (hmem i e hei)
          rw [hb]
          refine (Goes.bind (d := ce + 2) (Goes.epoch ho hd) (Goes.bind (d := 2) hbe (Goes.bind (d := 1) (Goes.epoch ho hd) ?_))).le (by omega)
          rw [if_neg (by simp)]
          rw [if_neg (by simp)]
          refine Goes.bind (d := 0) Goes.rule ?_
          rw [if_neg (by simp)]
          exact Goes.pure
        · exact Goes.pure.le (Nat.zero_le _)
    · exact Goes.pure
    · have := Nat.mul_le_mul_right (ce + 10) hpl
      omega
  · have := Nat.mul_le_mul_right cq hsl
    have e1 : es.size * (cq + ce + 10) = es.size * cq + es.size * (ce + 10) := by rw [← Nat.mul_add, Nat.add_assoc]
    rw [e1]
    omega
end
end TJ
open PySem PySem.W PyProof.Rows
set_option Elab.async false
set_option maxRecDepth 100000
set_option maxHeartbeats 4000000
namespace TJ
abbrev dObj (es : Array DictEntry) (ep : Nat) : Obj := { cls := .type "dict", data := .dict es ep }
abbrev KV3 := Addr × Value × Int
def ent (x : KV3) : DictEntry := ⟨x.2.2, .ref x.1, x.2.1⟩
def unh (a : Addr) : Sem Value := do rule "hash.unhashable"; raiseError "TypeError" s!"unhashable type: '{← typeNameOf (.ref a)}'"
def storing (d : Addr) (vs : List (Value × Value)) : Sem PUnit := forIn vs PUnit.unit fun (x : Value × Value) (_ : PUnit) => (do dictSet d x.1 x.2; pure (ForInStep.yield PUnit.unit) : Sem (ForInStep PUnit))
section
variable {p : Program} {w : World} {n₀ : Nat} {ann : Option Value} {code : Code} {q : Pos} {pos : Pos} {F : Obj → Nat → SharedT} {d : Addr}
structure Fam (n₀ : Nat) (d : Addr) (F : Obj → Nat → SharedT) : Prop where
  le : Nat.ble n₀ d = true
  get : ∀ es ep tk, (F (dObj es ep) tk).abs.heap.get? d = some (dObj es ep)
  upd : ∀ es ep tk (e : DictEntry), ({ (F (dObj es ep) tk).abs with heap := (F (dObj es ep) tk).abs.heap.update d (Obj.mapDictKeys (·.push e)) } : Shared) = (F (dObj (es.push e) (ep + 1)) tk).abs
theorem Goes.updKeys (Z : Fam n₀ d F) {es : Array DictEntry} {ep tk : Nat} {e : DictEntry} {part : Option Value} (hsz : es.size < sizeLine) :
    Goes p w n₀ ann code q 3 (updateDictKeys d (·.push e) part) (F (dObj es ep) tk).abs pos () (F (dObj (es.push e) (ep + 1)) tk).abs pos := by
  unfold updateDictKeys
  refine (Goes.bind (d := 2) (Goes.loadPart (Z.get es ep tk)) ?_)
  dsimp only
  have u := Goes.updatePart (p := p) (w := w) (ann := ann) (code := code) (q := q) (pos := pos) (part := part) (f := Obj.mapDictKeys (·.push e)) (Z.get es ep tk) Z.le
  rw [Z.upd es ep tk e] at u
  refine Goes.bind (d := 1) u ?_
  unfold lookBehind
  refine Goes.bind (d := 0) (Goes.loadPart (Z.get _ _ tk)) ?_
  have e1 : (dObj (es.push e) (ep + 1)).data.pastItsLine = none := by
    unfold Data.pastItsLine
    dsimp only
    rw [if_neg (by rw [Array.size_push]; omega)]
  rw [e1]
  exact Goes.pure
theorem Goes.set (Z : Fam n₀ d F) {a : Addr} {v : Value} {es : Array DictEntry} {ep tk k cp cq ce : Nat} {hsh : Int} (hsz : es.size < sizeLine)
    (hpy : Goes p w n₀ ann code q cp (pyHash (.ref a)) (F (dObj es ep) tk).abs pos hsh (F (dObj es ep) (tk + k)).abs pos)
    (hq : Goes p w n₀ ann code q cq (eqIsQuiet 8 (.ref a)) (F (dObj es ep) (tk + k)).abs pos true (F (dObj es ep) (tk + k)).abs pos)
    (hk : ∀ e ∈ es.toList, ∃ b, e.key = .ref b ∧ b ≠ a ∧ Goes p w n₀ ann code q cq (eqIsQuiet 8 (.ref b)) (F (dObj es ep) (tk + k)).abs pos true (F (dObj es ep) (tk + k)).abs pos ∧
      Goes p w n₀ ann code q ce (eqBool (.ref b) (.ref a)) (F (dObj es ep) (tk + k)).abs pos false (F (dObj es ep) (tk + k)).abs pos) :
    Goes p w n₀ ann code q (cp + (2 + cq + es.size * (cq + ce + 10)) + 4) (dictSet d (.ref a) v) (F (dObj es ep) tk).abs pos () (F (dObj (es.push ⟨hsh, .ref a, v⟩) (ep + 1)) (tk + k)).abs pos := by
  unfold dictSet
  refine Goes.holding ?_
  refine (Goes.bind (d := (2 + cq + es.size * (cq + ce + 10)) + 4) hpy ?_).le (by omega)
  unfold dictSetHashed
  refine Goes.holding ?_
  refine Goes.bind (d := 4) (Goes.find_none (h := hsh) (Z.get es ep (tk + k)) rfl hq hk) ?_
  exact Goes.bind (d := 3) Goes.rule (Goes.updKeys Z hsz)
theorem forCons {γ β : Type} {f : γ → β → Sem (ForInStep β)} {x : γ} {xs : List γ} {b b' b'' : β} {c c' : Nat} {s s' s'' : Shared} (h : Goes p w n₀ ann code q c (f x b) s pos (.yield b') s' pos) (k : Goes p w n₀ ann code q c' (forIn xs b' f) s' pos b'' s'' pos) :
    Goes p w n₀ ann code q (c + c') (forIn (x :: xs) b f) s pos b'' s'' pos := by
  rw [List.forIn_cons]
  exact Goes.bind (f := fun r => match r with | .done b => (Pure.pure b : Sem β) | .yield b => forIn xs b f) h k
theorem Goes.loop (Z : Fam n₀ d F) {cp cq ce N : Nat} (all : List KV3) (hN : all.length ≤ N) (hN' : N < sizeLine) (hnd : (all.map (·.1)).Nodup)
    (hQ : ∀ x ∈ all, ∀ oD tk, Goes p w n₀ ann code q cq (eqIsQuiet 8 (.ref x.1)) (F oD tk).abs pos true (F oD tk).abs pos)
    (hE : all.Pairwise fun x y => ∀ oD tk, Goes p w n₀ ann code q ce (eqBool (.ref x.1) (.ref y.1)) (F oD tk).abs pos false (F oD tk).abs pos)
    (hH : ∀ x ∈ all, ∀ oD tk, Goes p w n₀ ann code q cp (pyHash (.ref x.1)) (F oD tk).abs pos x.2.2 (F oD (tk + 3)).abs pos) :
    ∀ (todo done : List KV3) (tk : Nat), all = done ++ todo →
      Goes p w n₀ ann code q (todo.length * (cp + (2 + cq + N * (cq + ce + 10)) + 4)) (storing d (todo.map fun x => (Value.ref x.1, x.2.1)))
        (F (dObj (done.map ent).toArray done.length) tk).abs pos () (F (dObj (all.map ent).toArray all.length) (tk + 3 * todo.length)).abs pos := by
  intro todo
  induction todo with
  | nil =>
    intro done tk e
    rw [List.append_nil] at e
    subst e
    unfold storing
    rw [List.map_nil, List.forIn_nil]
    exact Goes.pure.le (Nat.zero_le _)
  | cons x todo ih =>
    intro done tk e
    have hx : x ∈ all := by rw [e]; exact List.mem_append_right _ List.mem_cons_self
    have ih' := ih (done ++ [x]) (tk + 3) (by rw [e, List.append_assoc]; rfl)
    unfold storing at ih' ⊢
    rw [List.map_cons]
    have hlen : (done.map ent).toArray.size ≤ N := by
      rw [List.size_toArray, List.length_map]
      rw [e, List.length_append] at hN
      omega
    have st := Goes.set (p := p) (w := w) (ann := ann) (code := code) (q := q) (pos := pos) (v := x.2.1) (ep := done.length) Z (Nat.lt_of_le_of_lt hlen hN') (hH x hx _ tk) (hQ x hx _ _) (es := (done.map ent).toArray) (ce := ce) (by
      intro en hen
      obtain ⟨y, hy, rfl⟩ := List.mem_map.mp hen
      have hya : y ∈ all := by rw [e]; exact List.mem_append_left _ hy
      have hne : y.1 ≠ x.1 := by
        rw [e, List.map_append, List.map_cons] at hnd
        intro q
        exact (List.nodup_append.mp hnd).2.2 y.1 (List.mem_map.mpr ⟨y, hy, rfl⟩) x.1 List.mem_cons_self q
      rw [e] at hE
      exact ⟨y.1, rfl, hne, hQ y hya _ _, (List.pairwise_append.mp hE).2.2 y hy x List.mem_cons_self _ _⟩)
    have e2 : ((done.map ent).toArray.push ⟨x.2.2, .ref x.1, x.2.1⟩) = ((done ++ [x]).map ent).toArray := by
      rw [List.push_toArray, List.map_append]; rfl
    have e3 : done.length + 1 = (done ++ [x]).length := by rw [List.length_append]; rfl
    rw [e2, e3] at st
    have e4 : tk + 3 * (x :: todo).length = (tk + 3) + 3 * todo.length := by rw [List.length_cons]; omega
    rw [e4]
    have e5 : Goes p w n₀ ann code q (_ + 0) (do dictSet d (Value.ref x.1, x.2.1).1 (Value.ref x.1, x.2.1).2; Pure.pure (ForInStep.yield PUnit.unit) : Sem (ForInStep PUnit)) _ pos (ForInStep.yield PUnit.unit) _ pos := Goes.bind st Goes.pure
    have e6 := forCons (b := PUnit.unit) (xs := todo.map fun x => (Value.ref x.1, x.2.1)) e5 ih'
    refine e6.le ?_
    rw [List.length_cons, Nat.add_mul]
    have := Nat.mul_le_mul_right (cq + ce + 10) hlen
    omega
def foldHash (acc : Nat) : Int := if acc == 2 ^ 64 - 1 then 1546275796 else if acc < 2 ^ 63 then acc else (acc : Int) - (2 ^ 64 : Nat)
theorem foldHash_range (acc : Nat) (h : acc < 2 ^ 64) : -(2 : Int) ^ 63 ≤ foldHash acc ∧ foldHash acc < 2 ^ 63 := by
  unfold foldHash
  split
  · constructor <;> decide
  · split
    · constructor <;> omega
    · constructor <;> omega
theorem tupleHash_range (hs : List Int) : -(2 : Int) ^ 63 ≤ Builtin.Tuple.tupleHashOf hs ∧ Builtin.Tuple.tupleHashOf hs < 2 ^ 63 :=
  foldHash_range _ (Nat.mod_lt _ (by decide))
theorem Goes.pyHashT {a : Addr} {s s' : Shared} {hs : List Int} {tok : Tok} (h1 : Goes p w n₀ ann code q 1 (cRoomFor "hash" [.ref a]) s pos () s pos)
    (h2 : Goes p w n₀ ann code q 1 (specialOf (.ref a) "__hash__") s pos (some (.builtin "tuple.__hash__")) s pos)
    (h3 : Goes p w n₀ ann code q 22 (callSpecialIfBoundUnlessNone? (.ref a) "__hash__" (unh a)) s pos (some (.int (Builtin.Tuple.tupleHashOf hs) tok)) s' pos) :
    Goes p w n₀ ann code q 25 (pyHash (.ref a)) s pos (reduceHash (Builtin.Tuple.tupleHashOf hs)) s' pos := by
  have e : pyHash (.ref a) = pyHashByItsType (.ref a) := rfl
  rw [e]
  unfold pyHashByItsType
  refine Goes.bind (d := 24) h1 ?_
  refine Goes.bind (d := 23) h2 ?_
  rw [if_neg (by rw [beq_builtin_none]; exact Bool.false_ne_true)]
  refine Goes.bind (d := 22) h2 ?_
  show Goes p w n₀ ann code q 22 (callSpecialIfBoundUnlessNone? (.ref a) "__hash__" (unh a) >>= _) s pos _ s' pos
  refine Goes.bind (d := 0) h3 ?_
  have r : (decide (-(2 : Int) ^ 63 ≤ Builtin.Tuple.tupleHashOf hs) && decide (Builtin.Tuple.tupleHashOf hs < 2 ^ 63)) = true := by
    have r := tupleHash_range hs
    rw [decide_eq_true r.1, decide_eq_true r.2]
    rfl
  show Goes p w n₀ ann code q 0 (if (decide (-(2 : Int) ^ 63 ≤ Builtin.Tuple.tupleHashOf hs) && decide (Builtin.Tuple.tupleHashOf hs < 2 ^ 63)) = true then _ else _) s' pos _ s' pos
  have e2 : reduceHash (Builtin.Tuple.tupleHashOf hs) = (if (Builtin.Tuple.tupleHashOf hs == -1) = true then -2 else Builtin.Tuple.tupleHashOf hs) := by
    unfold reduceHash
    rw [if_pos r]
  rw [if_pos r, e2]
  exact Goes.pure
theorem Goes.subDict {pairs : List (Sem Value × Sem Value)} {s s₁ s' : Shared} {vs : List (Value × Value)} {c c' : Nat} {d : Addr} (hlen : pairs.length ≤ 15) (hd : s.heap.objs.size = d)
    (h1 : Goes p w n₀ ann code q c (evalPairs pairs) { s with heap := s.heap.push { cls := .type "dict", data := .dict #[] } } pos vs s₁ pos)
    (h2 : Goes p w n₀ ann code q c' (storing d vs) s₁ pos () s' pos) : Goes p w n₀ ann code q (1 + (c + c')) (subDict pairs) s pos d s' pos := by
  subst hd
  unfold PySem.subDict
  refine Goes.bind (a := s.heap.objs.size) (fun _ _ _ _ => .one rfl rfl rfl) ?_
  refine (Goes.bind (d := 0) (a := ()) (Goes.holding ?_) Goes.pure)
  rw [if_pos hlen]
  refine Goes.bind h1 ?_
  exact Goes.holding (Goes.bind (d := 0) h2 Goes.pure)
theorem Goes.execs1 {st : Stmt} {env : Env} {s s' : Shared} {pos' : Pos} {c : Nat} (h : Goes p w n₀ ann code q c (exec st env) s pos .next s' pos') : Goes p w n₀ ann code q c (execs [st] env) s pos .next s' pos' := by
  rw [execs_cons]
  exact Goes.bind (d := 0) h Goes.pure
theorem Goes.seg {l : List Stmt} {env : Env} {s s' : Shared} {pos' : Pos} {c : Nat} (h : Goes p w n₀ ann code q c (execs l env) s pos .next s' pos') : ∃ n, n ≤ c + 1 ∧ segRun treeTable p w n₀ ann 1 n s (piecesOf l env code pos [topFrame q]) = some (.next, s', code, pos') := by
  obtain ⟨n, hn, h⟩ := h doneF deadEnd id id
  exact ⟨n + 1, by omega, seg_go h rfl⟩
end
end TJ
namespace TJ
theorem leftO_by {p q : Program} {loose : List Str} {Xt : Shared → Bool} {α : Type} {Yf : Shared → α} {Ya : World → α} {N : Nat} {H₀ : Params → Heap} {gs₀ : Array GenState} {d₀ : Drawn} {k₀ m₀ : Nat} {ann : Option Value} {S : World → OsState → Shared}
    (opens : ∀ w : World, (fencedOpening treeTable p w N).map (fun s => (s.heap, s.gens, s.drawn, s.toks)) = some (H₀ w.params, gs₀, d₀, k₀))
    (sizes : ∀ w : World, (((H₀ w.params).isNs mainGlobals && gs₀.size == 0), (H₀ w.params).objs.size, (H₀ w.params).nsMap mainGlobals "__annotations__") = (true, m₀, ann))
    (runs : ∀ (w : World) (os : OsState), ∃ M, M ≤ N ∧ topRun treeTable p w m₀ ann M ⟨H₀ w.params, gs₀, d₀, k₀, os⟩ (topStub p) = some (S w os))
    (looks1 : ∀ (w : World) (os : OsState), (staticsOk (importedModules p.main.body) (H₀ w.params) (S w os).heap && namesBound p (S w os).heap && gensDone (S w os) && laidKept (H₀ w.params) (S w os).heap) = true)
    (looks2 : ∀ (w : World) (os : OsState), openSeen q loose (importedModules p.main.body) Xt true (S w os) = openGood q loose) (looks3 : ∀ (w : World) (os : OsState), Yf (S w os) = Ya w) : LeftO p q loose Xt Yf Ya N := by
  intro w
  obtain ⟨⟨h, gs, dr, k, os⟩, e, e'⟩ := Option.map_eq_some_iff.mp (opens w)
  simp only [Prod.mk.injEq] at e'
  obtain ⟨rfl, rfl, rfl, rfl⟩ := e'
  have z := sizes w
  simp only [Prod.mk.injEq] at z
  obtain ⟨z1, z2, z3⟩ := z
  obtain ⟨M, hM, r⟩ := runs w os
  have r := topRun_mono (N - M) _ _ _ _ r
  rw [Nat.add_sub_cancel' hM] at r
  have t : topFrom treeTable p w N ⟨H₀ w.params, gs, dr, k, os⟩ = some (S w os) := by
    unfold topFrom
    dsimp only
    rw [z1, z2, z3, r]
    show (match (staticsOk (importedModules p.main.body) (H₀ w.params) (S w os).heap && namesBound p (S w os).heap && gensDone (S w os) && laidKept (H₀ w.params) (S w os).heap) with | true => some (S w os) | false => none) = _
    rw [looks1 w os]
  unfold openEnds
  rw [e]
  show (topFrom treeTable p w N _).map _ = _
  rw [t]
  show some (_, _) = some (_, _)
  rw [looks2 w os, looks3 w os]
theorem piece_goes {p : Program} {w : World} {n₀ : Nat} {ann : Option Value} {env : Env} {q : Pos} {c N : Nat} {s s' r : Shared} {l rest : List Stmt} {b : Code} {pos pos' : Pos} (h : Goes p w n₀ ann b q c (execs l env) s pos .next s' pos')
    (k : topRun treeTable p w n₀ ann N s' (restOf rest env b pos' [topFrame q]) = some r) : ∃ M, M ≤ c + 1 + N ∧ topRun treeTable p w n₀ ann M s (restOf (l ++ rest) env b pos [topFrame q]) = some r := by
  obtain ⟨n, hn, g⟩ := Goes.seg h
  exact ⟨n + N, by omega, piece_app g k⟩
end TJ
set_option Elab.async false
set_option linter.all false
set_option maxRecDepth 100000
set_option maxHeartbeats 0
namespace K52
open PySem PySem.W PyProof.Rows TJ L2
abbrev PX : Program := PySem.Challenge.pw_talejudge_k52_no_strictness
noncomputable abbrev annX : Option Value := some (.ref 6)
def tp (a b : Str) (t : Nat) : Obj := { cls := .type "tuple", data := .seq #[.str a t, .str b (t + 1)] 0 }
def tups : List Obj := [tp "register" "read" 519, tp "register" "write" 521, tp "counter" "read" 523, tp "counter" "add" 525, tp "queue" "put" 527, tp "queue" "take" 529, tp "set" "put" 531, tp "set" "cut" 533, tp "set" "has" 535, tp "cell" "read" 537, tp "cell" "write" 539, tp "cell" "swap" 541]
def insAll : List Obj → Nat → BT → BT
  | [], _, t => t
  | x :: r, n, t => insAll r (n + 1) (t.ins n x)
noncomputable def treeD (P : Params) (oD : Obj) : BT := insAll tups 249 ((K52.pre.tree_321 P).ins 248 oD)
noncomputable def FX (w : World) (os : OsState) (oD : Obj) (tk : Nat) : SharedT := ⟨treeD w.params oD, 261, {}, ⟨[]⟩, {}, tk, os⟩
noncomputable abbrev cdX : Code := .body (behindTheImports PX) K52.pre.env_1
noncomputable abbrev qX : Pos := ⟨0, 0, 0, 0⟩
noncomputable abbrev BX : List Frame := [topFrame qX]
noncomputable abbrev GX {α : Type} (w : World) (c : Nat) (x : Sem α) (s : Shared) (pos : Pos) (a : α) (s' : Shared) (pos' : Pos) : Prop := Goes PX w 11 annX cdX qX c x s pos a s' pos'
def LX (n : Nat) {α : Type} (x : Sem α) (w : World) (pos : Pos) (s : OsState → Obj → Nat → SharedT) (a : Nat → α) (s' : OsState → Obj → Nat → SharedT) (pos' : Pos) : Prop :=
  ∀ (os : OsState) (oD : Obj) (tk : Nat) (K : α → Sem PySem.Fin) (H : Value → Sem PySem.Fin) (gd : Bool → Bool) (lv : List Value → List Value),
    PySem.W.Fast.tw10295753902157049106 PySem.W.Fast.tw14364793385576792824 PX w 11 annX 1 n (s os oD tk) ⟨x.wrap K H gd lv, cdX, pos, BX⟩ = some (s' os oD tk, ⟨K (a tk), cdX, pos', BX⟩)
theorem LX.goes {n : Nat} {α : Type} {x : Sem α} {w : World} {pos pos' : Pos} {s s' : OsState → Obj → Nat → SharedT} {a : Nat → α} (h : LX n x w pos s a s' pos') (os : OsState) (oD : Obj) (tk : Nat) : GX w n x (s os oD tk).abs pos (a tk) (s' os oD tk).abs pos' := by
  refine Goes.leaf n fun K H gd lv => ?_
  have e := h os oD tk K H gd lv
  rw [← PySem.W.Fast.te10295753902157049106, ← PySem.W.Fast.te14364793385576792824] at e
  exact e
noncomputable abbrev stay (w : World) : OsState → Obj → Nat → SharedT := FX w
noncomputable abbrev plus3 (w : World) : OsState → Obj → Nat → SharedT := fun os oD tk => FX w os oD (tk + 3)
theorem qt0 (w : World) (pos : Pos) : LX 3 (eqIsQuiet 8 (.ref 249)) w pos (stay w) (fun _ => true) (stay w) pos := by
  rw [PySem.W.Fast.te13066428366354244818]
  exact fun os oD tk K H gd lv => by kernel_rfl
theorem qt1 (w : World) (pos : Pos) : LX 3 (eqIsQuiet 8 (.ref 250)) w pos (stay w) (fun _ => true) (stay w) pos := by
  rw [PySem.W.Fast.te13066428366354244818]
  exact fun os oD tk K H gd lv => by kernel_rfl
theorem qt2 (w : World) (pos : Pos) : LX 3 (eqIsQuiet 8 (.ref 251)) w pos (stay w) (fun _ => true) (stay w) pos := by
  rw [PySem.W.Fast.te13066428366354244818]
  exact fun os oD tk K H gd lv => by kernel_rfl
theorem qt3 (w : World) (pos : Pos) : LX 3 (eqIsQuiet 8 (.ref 252)) w pos (stay w) (fun _ => true) (stay w) pos := by
  rw [PySem.W.Fast.te13066428366354244818]
  exact fun os oD tk K H gd lv => by kernel_rfl
theorem qt4 (w : World) (pos : Pos) : LX 3 (eqIsQuiet 8 (.ref 253)) w pos (stay w) (fun _ => true) (stay w) pos := by
  rw [PySem.W.Fast.te13066428366354244818]
  exact fun os oD tk K H gd lv => by kernel_rfl
theorem qt5 (w : World) (pos : Pos) : LX 3 (eqIsQuiet 8 (.ref 254)) w pos (stay w) (fun _ => true) (stay w) pos := by
  rw [PySem.W.Fast.te13066428366354244818]
  exact fun os oD tk K H gd lv => by kernel_rfl
theorem qt6 (w : World) (pos : Pos) : LX 3 (eqIsQuiet 8 (.ref 255)) w pos (stay w) (fun _ => true) (stay w) pos := by
  rw [PySem.W.Fast.te13066428366354244818]
  exact fun os oD tk K H gd lv => by kernel_rfl
theorem qt7 (w : World) (pos : Pos) : LX 3 (eqIsQuiet 8 (.ref 256)) w pos (stay w) (fun _ => true) (stay w) pos := by
  rw [PySem.W.Fast.te13066428366354244818]
  exact fun os oD tk K H gd lv => by kernel_rfl
theorem qt8 (w : World) (pos : Pos) : LX 3 (eqIsQuiet 8 (.ref 257)) w pos (stay w) (fun _ => true) (stay w) pos := by
  rw [PySem.W.Fast.te13066428366354244818]
  exact fun os oD tk K H gd lv => by kernel_rfl
theorem qt9 (w : World) (pos : Pos) : LX 3 (eqIsQuiet 8 (.ref 258)) w pos (stay w) (fun _ => true) (stay w) pos := by
  rw [PySem.W.Fast.te13066428366354244818]
  exact fun os oD tk K H gd lv => by kernel_rfl
theorem qt10 (w : World) (pos : Pos) : LX 3 (eqIsQuiet 8 (.ref 259)) w pos (stay w) (fun _ => true) (stay w) pos := by
  rw [PySem.W.Fast.te13066428366354244818]
  exact fun os oD tk K H gd lv => by kernel_rfl
theorem qt11 (w : World) (pos : Pos) : LX 3 (eqIsQuiet 8 (.ref 260)) w pos (stay w) (fun _ => true) (stay w) pos := by
  rw [PySem.W.Fast.te13066428366354244818]
  exact fun os oD tk K H gd lv => by kernel_rfl
theorem eq0_1 (w : World) (pos : Pos) : LX 20 (eqBool (.ref 249) (.ref 250)) w pos (stay w) (fun _ => false) (stay w) pos := by
  rw [PySem.W.Fast.te13926502685295537346]
  exact byRow2 "special-get-raises" (P := fun w => LX 20 (PySem.W.Fast.tw13926502685295537346 (.ref 249) (.ref 250)) w pos (stay w) (fun _ => false) (stay w) pos)
    (fun w os oD tk K H gd lv => by kernel_rfl) (fun w os oD tk K H gd lv => by kernel_rfl) w
theorem eq0_2 (w : World) (pos : Pos) : LX 16 (eqBool (.ref 249) (.ref 251)) w pos (stay w) (fun _ => false) (stay w) pos := by
  rw [PySem.W.Fast.te13926502685295537346]
  exact byRow2 "special-get-raises" (P := fun w => LX 16 (PySem.W.Fast.tw13926502685295537346 (.ref 249) (.ref 251)) w pos (stay w) (fun _ => false) (stay w) pos)
    (fun w os oD tk K H gd lv => by kernel_rfl) (fun w os oD tk K H gd lv => by kernel_rfl) w
theorem eq0_3 (w : World) (pos : Pos) : LX 16 (eqBool (.ref 249) (.ref 252)) w pos (stay w) (fun _ => false) (stay w) pos := by
  rw [PySem.W.Fast.te13926502685295537346]
  exact byRow2 "special-get-raises" (P := fun w => LX 16 (PySem.W.Fast.tw13926502685295537346 (.ref 249) (.ref 252)) w pos (stay w) (fun _ => false) (stay w) pos)
    (fun w os oD tk K H gd lv => by kernel_rfl) (fun w os oD tk K H gd lv => by kernel_rfl) w
theorem eq0_4 (w : World) (pos : Pos) : LX 16 (eqBool (.ref 249) (.ref 253)) w pos (stay w) (fun _ => false) (stay w) pos := by
  rw [PySem.W.Fast.te13926502685295537346]
  exact byRow2 "special-get-raises" (P := fun w => LX 16 (PySem.W.Fast.tw13926502685295537346 (.ref 249) (.ref 253)) w pos (stay w) (fun _ => false) (stay w) pos)
    (fun w os oD tk K H gd lv => by kernel_rfl) (fun w os oD tk K H gd lv => by kernel_rfl) w
theorem eq0_5 (w : World) (pos : Pos) : LX 16 (eqBool (.ref 249) (.ref 254)) w pos (stay w) (fun _ => false) (stay w) pos := by
  rw [PySem.W.Fast.te13926502685295537346]
  exact byRow2 "special-get-raises" (P := fun w => LX 16 (PySem.W.Fast.tw13926502685295537346 (.ref 249) (.ref 254)) w pos (stay w) (fun _ => false) (stay w) pos)
    (fun w os oD tk K H gd lv => by kernel_rfl) (fun w os oD tk K H gd lv => by kernel_rfl) w
theorem eq0_6 (w : World) (pos : Pos) : LX 16 (eqBool (.ref 249) (.ref 255)) w pos (stay w) (fun _ => false) (stay w) pos := by
  rw [PySem.W.Fast.te13926502685295537346]
  exact byRow2 "special-get-raises" (P := fun w => LX 16 (PySem.W.Fast.tw13926502685295537346 (.ref 249) (.ref 255)) w pos (stay w) (fun _ => false) (stay w) pos)
    (fun w os oD tk K H gd lv => by kernel_rfl) (fun w os oD tk K H gd lv => by kernel_rfl) w
theorem eq0_7 (w : World) (pos : Pos) : LX 16 (eqBool (.ref 249) (.ref 256)) w pos (stay w) (fun _ => false) (stay w) pos := by
  rw [PySem.W.Fast.te13926502685295537346]
  exact byRow2 "special-get-raises" (P := fun w => LX 16 (PySem.W.Fast.tw13926502685295537346 (.ref 249) (.ref 256)) w pos (stay w) (fun _ => false) (stay w) pos)
    (fun w os oD tk K H gd lv => by kernel_rfl) (fun w os oD tk K H gd lv => by kernel_rfl) w
theorem eq0_8 (w : World) (pos : Pos) : LX 16 (eqBool (.ref 249) (.ref 257)) w pos (stay w) (fun _ => false) (stay w) pos := by
  rw [PySem.W.Fast.te13926502685295537346]
  exact byRow2 "special-get-raises" (P := fun w => LX 16 (PySem.W.Fast.tw13926502685295537346 (.ref 249) (.ref 257)) w pos (stay w) (fun _ => false) (stay w) pos)
    (fun w os oD tk K H gd lv => by kernel_rfl) (fun w os oD tk K H gd lv => by kernel_rfl) w
theorem eq0_9 (w : World) (pos : Pos) : LX 16 (eqBool (.ref 249) (.ref 258)) w pos (stay w) (fun _ => false) (stay w) pos := by
  rw [PySem.W.Fast.te13926502685295537346]
  exact byRow2 "special-get-raises" (P := fun w => LX 16 (PySem.W.Fast.tw13926502685295537346 (.ref 249) (.ref 258)) w pos (stay w) (fun _ => false) (stay w) pos)
    (fun w os oD tk K H gd lv => by kernel_rfl) (fun w os oD tk K H gd lv => by kernel_rfl) w
theorem eq0_10 (w : World) (pos : Pos) : LX 16 (eqBool (.ref 249) (.ref 259)) w pos (stay w) (fun _ => false) (stay w) pos := by
  rw [PySem.W.Fast.te13926502685295537346]
  exact byRow2 "special-get-raises" (P := fun w => LX 16 (PySem.W.Fast.tw13926502685295537346 (.ref 249) (.ref 259)) w pos (stay w) (fun _ => false) (stay w) pos)
    (fun w os oD tk K H gd lv => by kernel_rfl) (fun w os oD tk K H gd lv => by kernel_rfl) w
theorem eq0_11 (w : World) (pos : Pos) : LX 16 (eqBool (.ref 249) (.ref 260)) w pos (stay w) (fun _ => false) (stay w) pos := by
  rw [PySem.W.Fast.te13926502685295537346]
  exact byRow2 "special-get-raises" (P := fun w => LX 16 (PySem.W.Fast.tw13926502685295537346 (.ref 249) (.ref 260)) w pos (stay w) (fun _ => false) (stay w) pos)
    (fun w os oD tk K H gd lv => by kernel_rfl) (fun w os oD tk K H gd lv => by kernel_rfl) w
theorem eq1_2 (w : World) (pos : Pos) : LX 16 (eqBool (.ref 250) (.ref 251)) w pos (stay w) (fun _ => false) (stay w) pos := by
  rw [PySem.W.Fast.te13926502685295537346]
  exact byRow2 "special-get-raises" (P := fun w => LX 16 (PySem.W.Fast.tw13926502685295537346 (.ref 250) (.ref 251)) w pos (stay w) (fun _ => false) (stay w) pos)
    (fun w os oD tk K H gd lv => by kernel_rfl) (fun w os oD tk K H gd lv => by kernel_rfl) w
theorem eq1_3 (w : World) (pos : Pos) : LX 16 (eqBool (.ref 250) (.ref 252)) w pos (stay w) (fun _ => false) (stay w) pos := by
  rw [PySem.W.Fast.te13926502685295537346]
  exact byRow2 "special-get-raises" (P := fun w => LX 16 (PySem.W.Fast.tw13926502685295537346 (.ref 250) (.ref 252)) w pos (stay w) (fun _ => false) (stay w) pos)
    (fun w os oD tk K H gd lv => by kernel_rfl) (fun w os oD tk K H gd lv => by kernel_rfl) w
theorem eq1_4 (w : World) (pos : Pos) : LX 16 (eqBool (.ref 250) (.ref 253)) w pos (stay w) (fun _ => false) (stay w) pos := by
  rw [PySem.W.Fast.te13926502685295537346]
  exact byRow2 "special-get-raises" (P := fun w => LX 16 (PySem.W.Fast.tw13926502685295537346 (.ref 250) (.ref 253)) w pos (stay w) (fun _ => false) (stay w) pos)
    (fun w os oD tk K H gd lv => by kernel_rfl) (fun w os oD tk K H gd lv => by kernel_rfl) w
theorem eq1_5 (w : World) (pos : Pos) : LX 16 (eqBool (.ref 250) (.ref 254)) w pos (stay w) (fun _ => false) (stay w) pos := by
  rw [PySem.W.Fast.te13926502685295537346]
  exact byRow2 "special-get-raises" (P := fun w => LX 16 (PySem.W.Fast.tw13926502685295537346 (.ref 250) (.ref 254)) w pos (stay w) (fun _ => false) (stay w) pos)
    (fun w os oD tk K H gd lv => by kernel_rfl) (fun w os oD tk K H gd lv => by kernel_rfl) w
theorem eq1_6 (w : World) (pos : Pos) : LX 16 (eqBool (.ref 250) (.ref 255)) w pos (stay w) (fun _ => false) (stay w) pos := by
  rw [PySem.W.Fast.te13926502685295537346]
  exact byRow2 "special-get-raises" (P := fun w => LX 16 (PySem.W.Fast.tw13926502685295537346 (.ref 250) (.ref 255)) w pos (stay w) (fun _ => false) (stay w) pos)
    (fun w os oD tk K H gd lv => by kernel_rfl) (fun w os oD tk K H gd lv => by kernel_rfl) w
theorem eq1_7 (w : World) (pos : Pos) : LX 16 (eqBool (.ref 250) (.ref 256)) w pos (stay w) (fun _ => false) (stay w) pos := by
  rw [PySem.W.Fast.te13926502685295537346]
  exact byRow2 "special-get-raises" (P := fun w => LX 16 (PySem.W.Fast.tw13926502685295537346 (.ref 250) (.ref 256)) w pos (stay w) (fun _ => false) (stay w) pos)
    (fun w os oD tk K H gd lv => by kernel_rfl) (fun w os oD tk K H gd lv => by kernel_rfl) w
theorem eq1_8 (w : World) (pos : Pos) : LX 16 (eqBool (.ref 250) (.ref 257)) w pos (stay w) (fun _ => false) (stay w) pos := by
  rw [PySem.W.Fast.te13926502685295537346]
  exact byRow2 "special-get-raises" (P := fun w => LX 16 (PySem.W.Fast.tw13926502685295537346 (.ref 250) (.ref 257)) w pos (stay w) (fun _ => false) (stay w) pos)
    (fun w os oD tk K H gd lv => by kernel_rfl) (fun w os oD tk K H gd lv => by kernel_rfl) w
theorem eq1_9 (w : World) (pos : Pos) : LX 16 (eqBool (.ref 250) (.ref 258)) w pos (stay w) (fun _ => false) (stay w) pos := by
  rw [PySem.W.Fast.te13926502685295537346]
  exact byRow2 "special-get-raises" (P := fun w => LX 16 (PySem.W.Fast.tw13926502685295537346 (.ref 250) (.ref 258)) w pos (stay w) (fun _ => false) (stay w) pos)
    (fun w os oD tk K H gd lv => by kernel_rfl) (fun w os oD tk K H gd lv => by kernel_rfl) w
theorem eq1_10 (w : World) (pos : Pos) : LX 16 (eqBool (.ref 250) (.ref 259)) w pos (stay w) (fun _ => false) (stay w) pos := by
  rw [PySem.W.Fast.te13926502685295537346]
  exact byRow2 "special-get-raises" (P := fun w => LX 16 (PySem.W.Fast.tw13926502685295537346 (.ref 250) (.ref 259)) w pos (stay w) (fun _ => false) (stay w) pos)
    (fun w os oD tk K H gd lv => by kernel_rfl) (fun w os oD tk K H gd lv => by kernel_rfl) w
theorem eq1_11 (w : World) (pos : Pos) : LX 16 (eqBool (.ref 250) (.ref 260)) w pos (stay w) (fun _ => false) (stay w) pos := by
  rw [PySem.W.Fast.te13926502685295537346]
  exact byRow2 "special-get-raises" (P := fun w => LX 16 (PySem.W.Fast.tw13926502685295537346 (.ref 250) (.ref 260)) w pos (stay w) (fun _ => false) (stay w) pos)
    (fun w os oD tk K H gd lv => by kernel_rfl) (fun w os oD tk K H gd lv => by kernel_rfl) w
theorem eq2_3 (w : World) (pos : Pos) : LX 20 (eqBool (.ref 251) (.ref 252)) w pos (stay w) (fun _ => false) (stay w) pos := by
  rw [PySem.W.Fast.te13926502685295537346]
  exact byRow2 "special-get-raises" (P := fun w => LX 20 (PySem.W.Fast.tw13926502685295537346 (.ref 251) (.ref 252)) w pos (stay w) (fun _ => false) (stay w) pos)
    (fun w os oD tk K H gd lv => by kernel_rfl) (fun w os oD tk K H gd lv => by kernel_rfl) w
theorem eq2_4 (w : World) (pos : Pos) : LX 16 (eqBool (.ref 251) (.ref 253)) w pos (stay w) (fun _ => false) (stay w) pos := by
  rw [PySem.W.Fast.te13926502685295537346]
  exact byRow2 "special-get-raises" (P := fun w => LX 16 (PySem.W.Fast.tw13926502685295537346 (.ref 251) (.ref 253)) w pos (stay w) (fun _ => false) (stay w) pos)
    (fun w os oD tk K H gd lv => by kernel_rfl) (fun w os oD tk K H gd lv => by kernel_rfl) w
theorem eq2_5 (w : World) (pos : Pos) : LX 16 (eqBool (.ref 251) (.ref 254)) w pos (stay w) (fun _ => false) (stay w) pos := by
  rw [PySem.W.Fast.te13926502685295537346]
  exact byRow2 "special-get-raises" (P := fun w => LX 16 (PySem.W.Fast.tw13926502685295537346 (.ref 251) (.ref 254)) w pos (stay w) (fun _ => false) (stay w) pos)
    (fun w os oD tk K H gd lv => by kernel_rfl) (fun w os oD tk K H gd lv => by kernel_rfl) w
theorem eq2_6 (w : World) (pos : Pos) : LX 16 (eqBool (.ref 251) (.ref 255)) w pos (stay w) (fun _ => false) (stay w) pos := by
  rw [PySem.W.Fast.te13926502685295537346]
  exact byRow2 "special-get-raises" (P := fun w => LX 16 (PySem.W.Fast.tw13926502685295537346 (.ref 251) (.ref 255)) w pos (stay w) (fun _ => false) (stay w) pos)
    (fun w os oD tk K H gd lv => by kernel_rfl) (fun w os oD tk K H gd lv => by kernel_rfl) w
theorem eq2_7 (w : World) (pos : Pos) : LX 16 (eqBool (.ref 251) (.ref 256)) w pos (stay w) (fun _ => false) (stay w) pos := by
  rw [PySem.W.Fast.te13926502685295537346]
  exact byRow2 "special-get-raises" (P := fun w => LX 16 (PySem.W.Fast.tw13926502685295537346 (.ref 251) (.ref 256)) w pos (stay w) (fun _ => false) (stay w) pos)
    (fun w os oD tk K H gd lv => by kernel_rfl) (fun w os oD tk K H gd lv => by kernel_rfl) w
theorem eq2_8 (w : World) (pos : Pos) : LX 16 (eqBool (.ref 251) (.ref 257)) w pos (stay w) (fun _ => false) (stay w) pos := by
  rw [PySem.W.Fast.te13926502685295537346]
  exact byRow2 "special-get-raises" (P := fun w => LX 16 (PySem.W.Fast.tw13926502685295537346 (.ref 251) (.ref 257)) w pos (stay w) (fun _ => false) (stay w) pos)
    (fun w os oD tk K H gd lv => by kernel_rfl) (fun w os oD tk K H gd lv => by kernel_rfl) w
theorem eq2_9 (w : World) (pos : Pos) : LX 16 (eqBool (.ref 251) (.ref 258)) w pos (stay w) (fun _ => false) (stay w) pos := by
  rw [PySem.W.Fast.te13926502685295537346]
  exact byRow2 "special-get-raises" (P := fun w => LX 16 (PySem.W.Fast.tw13926502685295537346 (.ref 251) (.ref 258)) w pos (stay w) (fun _ => false) (stay w) pos)
    (fun w os oD tk K H gd lv => by kernel_rfl) (fun w os oD tk K H gd lv => by kernel_rfl) w
theorem eq2_10 (w : World) (pos : Pos) : LX 16 (eqBool (.ref 251) (.ref 259)) w pos (stay w) (fun _ => false) (stay w) pos := by
  rw [PySem.W.Fast.te13926502685295537346]
  exact byRow2 "special-get-raises" (P := fun w => LX 16 (PySem.W.Fast.tw13926502685295537346 (.ref 251) (.ref 259)) w pos (stay w) (fun _ => false) (stay w) pos)
    (fun w os oD tk K H gd lv => by kernel_rfl) (fun w os oD tk K H gd lv => by kernel_rfl) w
theorem eq2_11 (w : World) (pos : Pos) : LX 16 (eqBool (.ref 251) (.ref 260)) w pos (stay w) (fun _ => false) (stay w) pos := by
  rw [PySem.W.Fast.te13926502685295537346]
  exact byRow2 "special-get-raises" (P := fun w => LX 16 (PySem.W.Fast.tw13926502685295537346 (.ref 251) (.ref 260)) w pos (stay w) (fun _ => false) (stay w) pos)
    (fun w os oD tk K H gd lv => by kernel_rfl) (fun w os oD tk K H gd lv => by kernel_rfl) w
theorem eq3_4 (w : World) (pos : Pos) : LX 16 (eqBool (.ref 252) (.ref 253)) w pos (stay w) (fun _ => false) (stay w) pos := by
  rw [PySem.W.Fast.te13926502685295537346]
  exact byRow2 "special-get-raises" (P := fun w => LX 16 (PySem.W.Fast.tw13926502685295537346 (.ref 252) (.ref 253)) w pos (stay w) (fun _ => false) (stay w) pos)
    (fun w os oD tk K H gd lv => by kernel_rfl) (fun w os oD tk K H gd lv => by kernel_rfl) w
theorem eq3_5 (w : World) (pos : Pos) : LX 16 (eqBool (.ref 252) (.ref 254)) w pos (stay w) (fun _ => false) (stay w) pos := by
  rw [PySem.W.Fast.te13926502685295537346]
  exact byRow2 "special-get-raises" (P := fun w => LX 16 (PySem.W.Fast.tw13926502685295537346 (.ref 252) (.ref 254)) w pos (stay w) (fun _ => false) (stay w) pos)
    (fun w os oD tk K H gd lv => by kernel_rfl) (fun w os oD tk K H gd lv => by kernel_rfl) w
theorem eq3_6 (w : World) (pos : Pos) : LX 16 (eqBool (.ref 252) (.ref 255)) w pos (stay w) (fun _ => false) (stay w) pos := by
  rw [PySem.W.Fast.te13926502685295537346]
  exact byRow2 "special-get-raises" (P := fun w => LX 16 (PySem.W.Fast.tw13926502685295537346 (.ref 252) (.ref 255)) w pos (stay w) (fun _ => false) (stay w) pos)
    (fun w os oD tk K H gd lv => by kernel_rfl) (fun w os oD tk K H gd lv => by kernel_rfl) w
theorem eq3_7 (w : World) (pos : Pos) : LX 16 (eqBool (.ref 252) (.ref 256)) w pos (stay w) (fun _ => false) (stay w) pos := by
  rw [PySem.W.Fast.te13926502685295537346]
  exact byRow2 "special-get-raises" (P := fun w => LX 16 (PySem.W.Fast.tw13926502685295537346 (.ref 252) (.ref 256)) w pos (stay w) (fun _ => false) (stay w) pos)
    (fun w os oD tk K H gd lv => by kernel_rfl) (fun w os oD tk K H gd lv => by kernel_rfl) w
theorem eq3_8 (w : World) (pos : Pos) : LX 16 (eqBool (.ref 252) (.ref 257)) w pos (stay w) (fun _ => false) (stay w) pos := by
  rw [PySem.W.Fast.te13926502685295537346]
  exact byRow2 "special-get-raises" (P := fun w => LX 16 (PySem.W.Fast.tw13926502685295537346 (.ref 252) (.ref 257)) w pos (stay w) (fun _ => false) (stay w) pos)
    (fun w os oD tk K H gd lv => by kernel_rfl) (fun w os oD tk K H gd lv => by kernel_rfl) w
theorem eq3_9 (w : World) (pos : Pos) : LX 16 (eqBool (.ref 252) (.ref 258)) w pos (stay w) (fun _ => false) (stay w) pos := by
  rw [PySem.W.Fast.te13926502685295537346]
  exact byRow2 "special-get-raises" (P := fun w => LX 16 (PySem.W.Fast.tw13926502685295537346 (.ref 252) (.ref 258)) w pos (stay w) (fun _ => false) (stay w) pos)
    (fun w os oD tk K H gd lv => by kernel_rfl) (fun w os oD tk K H gd lv => by kernel_rfl) w
theorem eq3_10 (w : World) (pos : Pos) : LX 16 (eqBool (.ref 252) (.ref 259)) w pos (stay w) (fun _ => false) (stay w) pos := by
  rw [PySem.W.Fast.te13926502685295537346]
  exact byRow2 "special-get-raises" (P := fun w => LX 16 (PySem.W.Fast.tw13926502685295537346 (.ref 252) (.ref 259)) w pos (stay w) (fun _ => false) (stay w) pos)
    (fun w os oD tk K H gd lv => by kernel_rfl) (fun w os oD tk K H gd lv => by kernel_rfl) w
theorem eq3_11 (w : World) (pos : Pos) : LX 16 (eqBool (.ref 252) (.ref 260)) w pos (stay w) (fun _ => false) (stay w) pos := by
  rw [PySem.W.Fast.te13926502685295537346]
  exact byRow2 "special-get-raises" (P := fun w => LX 16 (PySem.W.Fast.tw13926502685295537346 (.ref 252) (.ref 260)) w pos (stay w) (fun _ => false) (stay w) pos)
    (fun w os oD tk K H gd lv => by kernel_rfl) (fun w os oD tk K H gd lv => by kernel_rfl) w
theorem eq4_5 (w : World) (pos : Pos) : LX 20 (eqBool (.ref 253) (.ref 254)) w pos (stay w) (fun _ => false) (stay w) pos := by
  rw [PySem.W.Fast.te13926502685295537346]
  exact byRow2 "special-get-raises" (P := fun w => LX 20 (PySem.W.Fast.tw13926502685295537346 (.ref 253) (.ref 254)) w pos (stay w) (fun _ => false) (stay w) pos)
    (fun w os oD tk K H gd lv => by kernel_rfl) (fun w os oD tk K H gd lv => by kernel_rfl) w
theorem eq4_6 (w : World) (pos : Pos) : LX 16 (eqBool (.ref 253) (.ref 255)) w pos (stay w) (fun _ => false) (stay w) pos := by
  rw [PySem.W.Fast.te13926502685295537346]
  exact byRow2 "special-get-raises" (P := fun w => LX 16 (PySem.W.Fast.tw13926502685295537346 (.ref 253) (.ref 255)) w pos (stay w) (fun _ => false) (stay w) pos)
    (fun w os oD tk K H gd lv => by kernel_rfl) (fun w os oD tk K H gd lv => by kernel_rfl) w
theorem eq4_7 (w : World) (pos : Pos) : LX 16 (eqBool (.ref 253) (.ref 256)) w pos (stay w) (fun _ => false) (stay w) pos := by
  rw [PySem.W.Fast.te13926502685295537346]
  exact byRow2 "special-get-raises" (P := fun w => LX 16 (PySem.W.Fast.tw13926502685295537346 (.ref 253) (.ref 256)) w pos (stay w) (fun _ => false) (stay w) pos)
    (fun w os oD tk K H gd lv => by kernel_rfl) (fun w os oD tk K H gd lv => by kernel_rfl) w
theorem eq4_8 (w : World) (pos : Pos) : LX 16 (eqBool (.ref 253) (.ref 257)) w pos (stay w) (fun _ => false) (stay w) pos := by
  rw [PySem.W.Fast.te13926502685295537346]
  exact byRow2 "special-get-raises" (P := fun w => LX 16 (PySem.W.Fast.tw13926502685295537346 (.ref 253) (.ref 257)) w pos (stay w) (fun _ => false) (stay w) pos)
    (fun w os oD tk K H gd lv => by kernel_rfl) (fun w os oD tk K H gd lv => by kernel_rfl) w
theorem eq4_9 (w : World) (pos : Pos) : LX 16 (eqBool (.ref 253) (.ref 258)) w pos (stay w) (fun _ => false) (stay w) pos := by
  rw [PySem.W.Fast.te13926502685295537346]
  exact byRow2 "special-get-raises" (P := fun w => LX 16 (PySem.W.Fast.tw13926502685295537346 (.ref 253) (.ref 258)) w pos (stay w) (fun _ => false) (stay w) pos)
    (fun w os oD tk K H gd lv => by kernel_rfl) (fun w os oD tk K H gd lv => by kernel_rfl) w
theorem eq4_10 (w : World) (pos : Pos) : LX 16 (eqBool (.ref 253) (.ref 259)) w pos (stay w) (fun _ => false) (stay w) pos := by
  rw [PySem.W.Fast.te13926502685295537346]
  exact byRow2 "special-get-raises" (P := fun w => LX 16 (PySem.W.Fast.tw13926502685295537346 (.ref 253) (.ref 259)) w pos (stay w) (fun _ => false) (stay w) pos)
    (fun w os oD tk K H gd lv => by kernel_rfl) (fun w os oD tk K H gd lv => by kernel_rfl) w
theorem eq4_11 (w : World) (pos : Pos) : LX 16 (eqBool (.ref 253) (.ref 260)) w pos (stay w) (fun _ => false) (stay w) pos := by
  rw [PySem.W.Fast.te13926502685295537346]
  exact byRow2 "special-get-raises" (P := fun w => LX 16 (PySem.W.Fast.tw13926502685295537346 (.ref 253) (.ref 260)) w pos (stay w) (fun _ => false) (stay w) pos)
    (fun w os oD tk K H gd lv => by kernel_rfl) (fun w os oD tk K H gd lv => by kernel_rfl) w
theorem eq5_6 (w : World) (pos : Pos) : LX 16 (eqBool (.ref 254) (.ref 255)) w pos (stay w) (fun _ => false) (stay w) pos := by
  rw [PySem.W.Fast.te13926502685295537346]
  exact byRow2 "special-get-raises" (P := fun w => LX 16 (PySem.W.Fast.tw13926502685295537346 (.ref 254) (.ref 255)) w pos (stay w) (fun _ => false) (stay w) pos)
    (fun w os oD tk K H gd lv => by kernel_rfl) (fun w os oD tk K H gd lv => by kernel_rfl) w
theorem eq5_7 (w : World) (pos : Pos) : LX 16 (eqBool (.ref 254) (.ref 256)) w pos (stay w) (fun _ => false) (stay w) pos := by
  rw [PySem.W.Fast.te13926502685295537346]
  exact byRow2 "special-get-raises" (P := fun w => LX 16 (PySem.W.Fast.tw13926502685295537346 (.ref 254) (.ref 256)) w pos (stay w) (fun _ => false) (stay w) pos)
    (fun w os oD tk K H gd lv => by kernel_rfl) (fun w os oD tk K H gd lv => by kernel_rfl) w
theorem eq5_8 (w : World) (pos : Pos) : LX 16 (eqBool (.ref 254) (.ref 257)) w pos (stay w) (fun _ => false) (stay w) pos := by
  rw [PySem.W.Fast.te13926502685295537346]
  exact byRow2 "special-get-raises" (P := fun w => LX 16 (PySem.W.Fast.tw13926502685295537346 (.ref 254) (.ref 257)) w pos (stay w) (fun _ => false) (stay w) pos)
    (fun w os oD tk K H gd lv => by kernel_rfl) (fun w os oD tk K H gd lv => by kernel_rfl) w
theorem eq5_9 (w : World) (pos : Pos) : LX 16 (eqBool (.ref 254) (.ref 258)) w pos (stay w) (fun _ => false) (stay w) pos := by
  rw [PySem.W.Fast.te13926502685295537346]
  exact byRow2 "special-get-raises" (P := fun w => LX 16 (PySem.W.Fast.tw13926502685295537346 (.ref 254) (.ref 258)) w pos (stay w) (fun _ => false) (stay w) pos)
    (fun w os oD tk K H gd lv => by kernel_rfl) (fun w os oD tk K H gd lv => by kernel_rfl) w
theorem eq5_10 (w : World) (pos : Pos) : LX 16 (eqBool (.ref 254) (.ref 259)) w pos (stay w) (fun _ => false) (stay w) pos := by
  rw [PySem.W.Fast.te13926502685295537346]
  exact byRow2 "special-get-raises" (P := fun w => LX 16 (PySem.W.Fast.tw13926502685295537346 (.ref 254) (.ref 259)) w pos (stay w) (fun _ => false) (stay w) pos)
    (fun w os oD tk K H gd lv => by kernel_rfl) (fun w os oD tk K H gd lv => by kernel_rfl) w
theorem eq5_11 (w : World) (pos : Pos) : LX 16 (eqBool (.ref 254) (.ref 260)) w pos (stay w) (fun _ => false) (stay w) pos := by
  rw [PySem.W.Fast.te13926502685295537346]
  exact byRow2 "special-get-raises" (P := fun w => LX 16 (PySem.W.Fast.tw13926502685295537346 (.ref 254) (.ref 260)) w pos (stay w) (fun _ => false) (stay w) pos)
    (fun w os oD tk K H gd lv => by kernel_rfl) (fun w os oD tk K H gd lv => by kernel_rfl) w
theorem eq6_7 (w : World) (pos : Pos) : LX 20 (eqBool (.ref 255) (.ref 256)) w pos (stay w) (fun _ => false) (stay w) pos := by
  rw [PySem.W.Fast.te13926502685295537346]
  exact byRow2 "special-get-raises" (P := fun w => LX 20 (PySem.W.Fast.tw13926502685295537346 (.ref 255) (.ref 256)) w pos (stay w) (fun _ => false) (stay w) pos)
    (fun w os oD tk K H gd lv => by kernel_rfl) (fun w os oD tk K H gd lv => by kernel_rfl) w
theorem eq6_8 (w : World) (pos : Pos) : LX 20 (eqBool (.ref 255) (.ref 257)) w pos (stay w) (fun _ => false) (stay w) pos := by
  rw [PySem.W.Fast.te13926502685295537346]
  exact byRow2 "special-get-raises" (P := fun w => LX 20 (PySem.W.Fast.tw13926502685295537346 (.ref 255) (.ref 257)) w pos (stay w) (fun _ => false) (stay w) pos)
    (fun w os oD tk K H gd lv => by kernel_rfl) (fun w os oD tk K H gd lv => by kernel_rfl) w
theorem eq6_9 (w : World) (pos : Pos) : LX 16 (eqBool (.ref 255) (.ref 258)) w pos (stay w) (fun _ => false) (stay w) pos := by
  rw [PySem.W.Fast.te13926502685295537346]
  exact byRow2 "special-get-raises" (P := fun w => LX 16 (PySem.W.Fast.tw13926502685295537346 (.ref 255) (.ref 258)) w pos (stay w) (fun _ => false) (stay w) pos)
    (fun w os oD tk K H gd lv => by kernel_rfl) (fun w os oD tk K H gd lv => by kernel_rfl) w
theorem eq6_10 (w : World) (pos : Pos) : LX 16 (eqBool (.ref 255) (.ref 259)) w pos (stay w) (fun _ => false) (stay w) pos := by
  rw [PySem.W.Fast.te13926502685295537346]
  exact byRow2 "special-get-raises" (P := fun w => LX 16 (PySem.W.Fast.tw13926502685295537346 (.ref 255) (.ref 259)) w pos (stay w) (fun _ => false) (stay w) pos)
    (fun w os oD tk K H gd lv => by kernel_rfl) (fun w os oD tk K H gd lv => by kernel_rfl) w
theorem eq6_11 (w : World) (pos : Pos) : LX 16 (eqBool (.ref 255) (.ref 260)) w pos (stay w) (fun _ => false) (stay w) pos := by
  rw [PySem.W.Fast.te13926502685295537346]
  exact byRow2 "special-get-raises" (P := fun w => LX 16 (PySem.W.Fast.tw13926502685295537346 (.ref 255) (.ref 260)) w pos (stay w) (fun _ => false) (stay w) pos)
    (fun w os oD tk K H gd lv => by kernel_rfl) (fun w os oD tk K H gd lv => by kernel_rfl) w
theorem eq7_8 (w : World) (pos : Pos) : LX 20 (eqBool (.ref 256) (.ref 257)) w pos (stay w) (fun _ => false) (stay w) pos := by
  rw [PySem.W.Fast.te13926502685295537346]
  exact byRow2 "special-get-raises" (P := fun w => LX 20 (PySem.W.Fast.tw13926502685295537346 (.ref 256) (.ref 257)) w pos (stay w) (fun _ => false) (stay w) pos)
    (fun w os oD tk K H gd lv => by kernel_rfl) (fun w os oD tk K H gd lv => by kernel_rfl) w
theorem eq7_9 (w : World) (pos : Pos) : LX 16 (eqBool (.ref 256) (.ref 258)) w pos (stay w) (fun _ => false) (stay w) pos := by
  rw [PySem.W.Fast.te13926502685295537346]
  exact byRow2 "special-get-raises" (P := fun w => LX 16 (PySem.W.Fast.tw13926502685295537346 (.ref 256) (.ref 258)) w pos (stay w) (fun _ => false) (stay w) pos)
    (fun w os oD tk K H gd lv => by kernel_rfl) (fun w os oD tk K H gd lv => by kernel_rfl) w
theorem eq7_10 (w : World) (pos : Pos) : LX 16 (eqBool (.ref 256) (.ref 259)) w pos (stay w) (fun _ => false) (stay w) pos := by
  rw [PySem.W.Fast.te13926502685295537346]
  exact byRow2 "special-get-raises" (P := fun w => LX 16 (PySem.W.Fast.tw13926502685295537346 (.ref 256) (.ref 259)) w pos (stay w) (fun _ => false) (stay w) pos)
    (fun w os oD tk K H gd lv => by kernel_rfl) (fun w os oD tk K H gd lv => by kernel_rfl) w
theorem eq7_11 (w : World) (pos : Pos) : LX 16 (eqBool (.ref 256) (.ref 260)) w pos (stay w) (fun _ => false) (stay w) pos := by
  rw [PySem.W.Fast.te13926502685295537346]
  exact byRow2 "special-get-raises" (P := fun w => LX 16 (PySem.W.Fast.tw13926502685295537346 (.ref 256) (.ref 260)) w pos (stay w) (fun _ => false) (stay w) pos)
    (fun w os oD tk K H gd lv => by kernel_rfl) (fun w os oD tk K H gd lv => by kernel_rfl) w
theorem eq8_9 (w : World) (pos : Pos) : LX 16 (eqBool (.ref 257) (.ref 258)) w pos (stay w) (fun _ => false) (stay w) pos := by
  rw [PySem.W.Fast.te13926502685295537346]
  exact byRow2 "special-get-raises" (P := fun w => LX 16 (PySem.W.Fast.tw13926502685295537346 (.ref 257) (.ref 258)) w pos (stay w) (fun _ => false) (stay w) pos)
    (fun w os oD tk K H gd lv => by kernel_rfl) (fun w os oD tk K H gd lv => by kernel_rfl) w
theorem eq8_10 (w : World) (pos : Pos) : LX 16 (eqBool (.ref 257) (.ref 259)) w pos (stay w) (fun _ => false) (stay w) pos := by
  rw [PySem.W.Fast.te13926502685295537346]
  exact byRow2 "special-get-raises" (P := fun w => LX 16 (PySem.W.Fast.tw13926502685295537346 (.ref 257) (.ref 259)) w pos (stay w) (fun _ => false) (stay w) pos)
    (fun w os oD tk K H gd lv => by kernel_rfl) (fun w os oD tk K H gd lv => by kernel_rfl) w
theorem eq8_11 (w : World) (pos : Pos) : LX 16 (eqBool (.ref 257) (.ref 260)) w pos (stay w) (fun _ => false) (stay w) pos := by
  rw [PySem.W.Fast.te13926502685295537346]
  exact byRow2 "special-get-raises" (P := fun w => LX 16 (PySem.W.Fast.tw13926502685295537346 (.ref 257) (.ref 260)) w pos (stay w) (fun _ => false) (stay w) pos)
    (fun w os oD tk K H gd lv => by kernel_rfl) (fun w os oD tk K H gd lv => by kernel_rfl) w
theorem eq9_10 (w : World) (pos : Pos) : LX 20 (eqBool (.ref 258) (.ref 259)) w pos (stay w) (fun _ => false) (stay w) pos := by
  rw [PySem.W.Fast.te13926502685295537346]
  exact byRow2 "special-get-raises" (P := fun w => LX 20 (PySem.W.Fast.tw13926502685295537346 (.ref 258) (.ref 259)) w pos (stay w) (fun _ => false) (stay w) pos)
    (fun w os oD tk K H gd lv => by kernel_rfl) (fun w os oD tk K H gd lv => by kernel_rfl) w
theorem eq9_11 (w : World) (pos : Pos) : LX 20 (eqBool (.ref 258) (.ref 260)) w pos (stay w) (fun _ => false) (stay w) pos := by
  rw [PySem.W.Fast.te13926502685295537346]
  exact byRow2 "special-get-raises" (P := fun w => LX 20 (PySem.W.Fast.tw13926502685295537346 (.ref 258) (.ref 260)) w pos (stay w) (fun _ => false) (stay w) pos)
    (fun w os oD tk K H gd lv => by kernel_rfl) (fun w os oD tk K H gd lv => by kernel_rfl) w
theorem eq10_11 (w : World) (pos : Pos) : LX 20 (eqBool (.ref 259) (.ref 260)) w pos (stay w) (fun _ => false) (stay w) pos := by
  rw [PySem.W.Fast.te13926502685295537346]
  exact byRow2 "special-get-raises" (P := fun w => LX 20 (PySem.W.Fast.tw13926502685295537346 (.ref 259) (.ref 260)) w pos (stay w) (fun _ => false) (stay w) pos)
    (fun w os oD tk K H gd lv => by kernel_rfl) (fun w os oD tk K H gd lv => by kernel_rfl) w
theorem cr0 (w : World) (pos : Pos) : LX 1 (cRoomFor "hash" [.ref 249]) w pos (stay w) (fun _ => ()) (stay w) pos := by
  rw [PySem.W.Fast.te13383273872528276517]
  exact byRow2 "special-get-raises" (P := fun w => LX 1 (PySem.W.Fast.tw13383273872528276517 "hash" [.ref 249]) w pos (stay w) (fun _ => ()) (stay w) pos)
    (fun w os oD tk K H gd lv => by kernel_rfl) (fun w os oD tk K H gd lv => by kernel_rfl) w
theorem so0 (w : World) (pos : Pos) : LX 1 (specialOf (.ref 249) "__hash__") w pos (stay w) (fun _ => some (.builtin "tuple.__hash__")) (stay w) pos := by
  rw [PySem.W.Fast.te4214721358667687652]
  exact byRow2 "special-get-raises" (P := fun w => LX 1 (PySem.W.Fast.tw4214721358667687652 (.ref 249) "__hash__") w pos (stay w) (fun _ => some (.builtin "tuple.__hash__")) (stay w) pos)
    (fun w os oD tk K H gd lv => by kernel_rfl) (fun w os oD tk K H gd lv => by kernel_rfl) w
theorem cs0 (w : World) (pos : Pos) : LX 22 (callSpecialIfBoundUnlessNone? (.ref 249) "__hash__" (unh 249)) w pos (stay w) (fun tk => some (.int (Builtin.Tuple.tupleHashOf [PyData.keyHash w.params "register", PyData.keyHash w.params "read"]) (tk + 2))) (plus3 w) pos := by
  rw [PySem.W.Fast.te16697807410369149715]
  exact byRow2 "special-get-raises" (P := fun w => LX 22 (PySem.W.Fast.tw16697807410369149715 (.ref 249) "__hash__" (unh 249)) w pos (stay w) (fun tk => some (.int (Builtin.Tuple.tupleHashOf [PyData.keyHash w.params "register", PyData.keyHash w.params "read"]) (tk + 2))) (plus3 w) pos)
    (fun w os oD tk K H gd lv => by kernel_rfl) (fun w os oD tk K H gd lv => by kernel_rfl) w
theorem cr1 (w : World) (pos : Pos) : LX 1 (cRoomFor "hash" [.ref 250]) w pos (stay w) (fun _ => ()) (stay w) pos := by
  rw [PySem.W.Fast.te13383273872528276517]
  exact byRow2 "special-get-raises" (P := fun w => LX 1 (PySem.W.Fast.tw13383273872528276517 "hash" [.ref 250]) w pos (stay w) (fun _ => ()) (stay w) pos)
    (fun w os oD tk K H gd lv => by kernel_rfl) (fun w os oD tk K H gd lv => by kernel_rfl) w
theorem so1 (w : World) (pos : Pos) : LX 1 (specialOf (.ref 250) "__hash__") w pos (stay w) (fun _ => some (.builtin "tuple.__hash__")) (stay w) pos := by
  rw [PySem.W.Fast.te4214721358667687652]
  exact byRow2 "special-get-raises" (P := fun w => LX 1 (PySem.W.Fast.tw4214721358667687652 (.ref 250) "__hash__") w pos (stay w) (fun _ => some (.builtin "tuple.__hash__")) (stay w) pos)
    (fun w os oD tk K H gd lv => by kernel_rfl) (fun w os oD tk K H gd lv => by kernel_rfl) w
theorem cs1 (w : World) (pos : Pos) : LX 22 (callSpecialIfBoundUnlessNone? (.ref 250) "__hash__" (unh 250)) w pos (stay w) (fun tk => some (.int (Builtin.Tuple.tupleHashOf [PyData.keyHash w.params "register", PyData.keyHash w.params "write"]) (tk + 2))) (plus3 w) pos := by
  rw [PySem.W.Fast.te16697807410369149715]
  exact byRow2 "special-get-raises" (P := fun w => LX 22 (PySem.W.Fast.tw16697807410369149715 (.ref 250) "__hash__" (unh 250)) w pos (stay w) (fun tk => some (.int (Builtin.Tuple.tupleHashOf [PyData.keyHash w.params "register", PyData.keyHash w.params "write"]) (tk + 2))) (plus3 w) pos)
    (fun w os oD tk K H gd lv => by kernel_rfl) (fun w os oD tk K H gd lv => by kernel_rfl) w
theorem cr2 (w : World) (pos : Pos) : LX 1 (cRoomFor "hash" [.ref 251]) w pos (stay w) (fun _ => ()) (stay w) pos := by
  rw [PySem.W.Fast.te13383273872528276517]
  exact byRow2 "special-get-raises" (P := fun w => LX 1 (PySem.W.Fast.tw13383273872528276517 "hash" [.ref 251]) w pos (stay w) (fun _ => ()) (stay w) pos)
    (fun w os oD tk K H gd lv => by kernel_rfl) (fun w os oD tk K H gd lv => by kernel_rfl) w
theorem so2 (w : World) (pos : Pos) : LX 1 (specialOf (.ref 251) "__hash__") w pos (stay w) (fun _ => some (.builtin "tuple.__hash__")) (stay w) pos := by
  rw [PySem.W.Fast.te4214721358667687652]
  exact byRow2 "special-get-raises" (P := fun w => LX 1 (PySem.W.Fast.tw4214721358667687652 (.ref 251) "__hash__") w pos (stay w) (fun _ => some (.builtin "tuple.__hash__")) (stay w) pos)
    (fun w os oD tk K H gd lv => by kernel_rfl) (fun w os oD tk K H gd lv => by kernel_rfl) w
theorem cs2 (w : World) (pos : Pos) : LX 22 (callSpecialIfBoundUnlessNone? (.ref 251) "__hash__" (unh 251)) w pos (stay w) (fun tk => some (.int (Builtin.Tuple.tupleHashOf [PyData.keyHash w.params "counter", PyData.keyHash w.params "read"]) (tk + 2))) (plus3 w) pos := by
  rw [PySem.W.Fast.te16697807410369149715]
  exact byRow2 "special-get-raises" (P := fun w => LX 22 (PySem.W.Fast.tw16697807410369149715 (.ref 251) "__hash__" (unh 251)) w pos (stay w) (fun tk => some (.int (Builtin.Tuple.tupleHashOf [PyData.keyHash w.params "counter", PyData.keyHash w.params "read"]) (tk + 2))) (plus3 w) pos)
    (fun w os oD tk K H gd lv => by kernel_rfl) (fun w os oD tk K H gd lv => by kernel_rfl) w
theorem cr3 (w : World) (pos : Pos) : LX 1 (cRoomFor "hash" [.ref 252]) w pos (stay w) (fun _ => ()) (stay w) pos := by
  rw [PySem.W.Fast.te13383273872528276517]
  exact byRow2 "special-get-raises" (P := fun w => LX 1 (PySem.W.Fast.tw13383273872528276517 "hash" [.ref 252]) w pos (stay w) (fun _ => ()) (stay w) pos)
    (fun w os oD tk K H gd lv => by kernel_rfl) (fun w os oD tk K H gd lv => by kernel_rfl) w
theorem so3 (w : World) (pos : Pos) : LX 1 (specialOf (.ref 252) "__hash__") w pos (stay w) (fun _ => some (.builtin "tuple.__hash__")) (stay w) pos := by
  rw [PySem.W.Fast.te4214721358667687652]
  exact byRow2 "special-get-raises" (P := fun w => LX 1 (PySem.W.Fast.tw4214721358667687652 (.ref 252) "__hash__") w pos (stay w) (fun _ => some (.builtin "tuple.__hash__")) (stay w) pos)
    (fun w os oD tk K H gd lv => by kernel_rfl) (fun w os oD tk K H gd lv => by kernel_rfl) w
theorem cs3 (w : World) (pos : Pos) : LX 22 (callSpecialIfBoundUnlessNone? (.ref 252) "__hash__" (unh 252)) w pos (stay w) (fun tk => some (.int (Builtin.Tuple.tupleHashOf [PyData.keyHash w.params "counter", PyData.keyHash w.params "add"]) (tk + 2))) (plus3 w) pos := by
  rw [PySem.W.Fast.te16697807410369149715]
  exact byRow2 "special-get-raises" (P := fun w => LX 22 (PySem.W.Fast.tw16697807410369149715 (.ref 252) "__hash__" (unh 252)) w pos (stay w) (fun tk => some (.int (Builtin.Tuple.tupleHashOf [PyData.keyHash w.params "counter", PyData.keyHash w.params "add"]) (tk + 2))) (plus3 w) pos)
    (fun w os oD tk K H gd lv => by kernel_rfl) (fun w os oD tk K H gd lv => by kernel_rfl) w
theorem cr4 (w : World) (pos : Pos) : LX 1 (cRoomFor "hash" [.ref 253]) w pos (stay w) (fun _ => ()) (stay w) pos := by
  rw [PySem.W.Fast.te13383273872528276517]
  exact byRow2 "special-get-raises" (P := fun w => LX 1 (PySem.W.Fast.tw13383273872528276517 "hash" [.ref 253]) w pos (stay w) (fun _ => ()) (stay w) pos)
    (fun w os oD tk K H gd lv => by kernel_rfl) (fun w os oD tk K H gd lv => by kernel_rfl) w
theorem so4 (w : World) (pos : Pos) : LX 1 (specialOf (.ref 253) "__hash__") w pos (stay w) (fun _ => some (.builtin "tuple.__hash__")) (stay w) pos := by
  rw [PySem.W.Fast.te4214721358667687652]
  exact byRow2 "special-get-raises" (P := fun w => LX 1 (PySem.W.Fast.tw4214721358667687652 (.ref 253) "__hash__") w pos (stay w) (fun _ => some (.builtin "tuple.__hash__")) (stay w) pos)
    (fun w os oD tk K H gd lv => by kernel_rfl) (fun w os oD tk K H gd lv => by kernel_rfl) w
theorem cs4 (w : World) (pos : Pos) : LX 22 (callSpecialIfBoundUnlessNone? (.ref 253) "__hash__" (unh 253)) w pos (stay w) (fun tk => some (.int (Builtin.Tuple.tupleHashOf [PyData.keyHash w.params "queue", PyData.keyHash w.params "put"]) (tk + 2))) (plus3 w) pos := by
  rw [PySem.W.Fast.te16697807410369149715]
  exact byRow2 "special-get-raises" (P := fun w => LX 22 (PySem.W.Fast.tw16697807410369149715 (.ref 253) "__hash__" (unh 253)) w pos (stay w) (fun tk => some (.int (Builtin.Tuple.tupleHashOf [PyData.keyHash w.params "queue", PyData.keyHash w.params "put"]) (tk + 2))) (plus3 w) pos)
    (fun w os oD tk K H gd lv => by kernel_rfl) (fun w os oD tk K H gd lv => by kernel_rfl) w
theorem cr5 (w : World) (pos : Pos) : LX 1 (cRoomFor "hash" [.ref 254]) w pos (stay w) (fun _ => ()) (stay w) pos := by
  rw [PySem.W.Fast.te13383273872528276517]
  exact byRow2 "special-get-raises" (P := fun w => LX 1 (PySem.W.Fast.tw13383273872528276517 "hash" [.ref 254]) w pos (stay w) (fun _ => ()) (stay w) pos)
    (fun w os oD tk K H gd lv => by kernel_rfl) (fun w os oD tk K H gd lv => by kernel_rfl) w
theorem so5 (w : World) (pos : Pos) : LX 1 (specialOf (.ref 254) "__hash__") w pos (stay w) (fun _ => some (.builtin "tuple.__hash__")) (stay w) pos := by
  rw [PySem.W.Fast.te4214721358667687652]
  exact byRow2 "special-get-raises" (P := fun w => LX 1 (PySem.W.Fast.tw4214721358667687652 (.ref 254) "__hash__") w pos (stay w) (fun _ => some (.builtin "tuple.__hash__")) (stay w) pos)
    (fun w os oD tk K H gd lv => by kernel_rfl) (fun w os oD tk K H gd lv => by kernel_rfl) w
theorem cs5 (w : World) (pos : Pos) : LX 22 (callSpecialIfBoundUnlessNone? (.ref 254) "__hash__" (unh 254)) w pos (stay w) (fun tk => some (.int (Builtin.Tuple.tupleHashOf [PyData.keyHash w.params "queue", PyData.keyHash w.params "take"]) (tk + 2))) (plus3 w) pos := by
  rw [PySem.W.Fast.te16697807410369149715]
  exact byRow2 "special-get-raises" (P := fun w => LX 22 (PySem.W.Fast.tw16697807410369149715 (.ref 254) "__hash__" (unh 254)) w pos (stay w) (fun tk => some (.int (Builtin.Tuple.tupleHashOf [PyData.keyHash w.params "queue", PyData.keyHash w.params "take"]) (tk + 2))) (plus3 w) pos)
    (fun w os oD tk K H gd lv => by kernel_rfl) (fun w os oD tk K H gd lv => by kernel_rfl) w
theorem cr6 (w : World) (pos : Pos) : LX 1 (cRoomFor "hash" [.ref 255]) w pos (stay w) (fun _ => ()) (stay w) pos := by
  rw [PySem.W.Fast.te13383273872528276517]
  exact byRow2 "special-get-raises" (P := fun w => LX 1 (PySem.W.Fast.tw13383273872528276517 "hash" [.ref 255]) w pos (stay w) (fun _ => ()) (stay w) pos)
    (fun w os oD tk K H gd lv => by kernel_rfl) (fun w os oD tk K H gd lv => by kernel_rfl) w
theorem so6 (w : World) (pos : Pos) : LX 1 (specialOf (.ref 255) "__hash__") w pos (stay w) (fun _ => some (.builtin "tuple.__hash__")) (stay w) pos := by
  rw [PySem.W.Fast.te4214721358667687652]
  exact byRow2 "special-get-raises" (P := fun w => LX 1 (PySem.W.Fast.tw4214721358667687652 (.ref 255) "__hash__") w pos (stay w) (fun _ => some (.builtin "tuple.__hash__")) (stay w) pos)
    (fun w os oD tk K H gd lv => by kernel_rfl) (fun w os oD tk K H gd lv => by kernel_rfl) w
theorem cs6 (w : World) (pos : Pos) : LX 22 (callSpecialIfBoundUnlessNone? (.ref 255) "__hash__" (unh 255)) w pos (stay w) (fun tk => some (.int (Builtin.Tuple.tupleHashOf [PyData.keyHash w.params "set", PyData.keyHash w.params "put"]) (tk + 2))) (plus3 w) pos := by
  rw [PySem.W.Fast.te16697807410369149715]
  exact byRow2 "special-get-raises" (P := fun w => LX 22 (PySem.W.Fast.tw16697807410369149715 (.ref 255) "__hash__" (unh 255)) w pos (stay w) (fun tk => some (.int (Builtin.Tuple.tupleHashOf [PyData.keyHash w.params "set", PyData.keyHash w.params "put"]) (tk + 2))) (plus3 w) pos)
    (fun w os oD tk K H gd lv => by kernel_rfl) (fun w os oD tk K H gd lv => by kernel_rfl) w
theorem cr7 (w : World) (pos : Pos) : LX 1 (cRoomFor "hash" [.ref 256]) w pos (stay w) (fun _ => ()) (stay w) pos := by
  rw [PySem.W.Fast.te13383273872528276517]
  exact byRow2 "special-get-raises" (P := fun w => LX 1 (PySem.W.Fast.tw13383273872528276517 "hash" [.ref 256]) w pos (stay w) (fun _ => ()) (stay w) pos)
    (fun w os oD tk K H gd lv => by kernel_rfl) (fun w os oD tk K H gd lv => by kernel_rfl) w
theorem so7 (w : World) (pos : Pos) : LX 1 (specialOf (.ref 256) "__hash__") w pos (stay w) (fun _ => some (.builtin "tuple.__hash__")) (stay w) pos := by
  rw [PySem.W.Fast.te4214721358667687652]
  exact byRow2 "special-get-raises" (P := fun w => LX 1 (PySem.W.Fast.tw4214721358667687652 (.ref 256) "__hash__") w pos (stay w) (fun _ => some (.builtin "tuple.__hash__")) (stay w) pos)
    (fun w os oD tk K H gd lv => by kernel_rfl) (fun w os oD tk K H gd lv => by kernel_rfl) w
theorem cs7 (w : World) (pos : Pos) : LX 22 (callSpecialIfBoundUnlessNone? (.ref 256) "__hash__" (unh 256)) w pos (stay w) (fun tk => some (.int (Builtin.Tuple.tupleHashOf [PyData.keyHash w.params "set", PyData.keyHash w.params "cut"]) (tk + 2))) (plus3 w) pos := by
  rw [PySem.W.Fast.te16697807410369149715]
  exact byRow2 "special-get-raises" (P := fun w => LX 22 (PySem.W.Fast.tw16697807410369149715 (.ref 256) "__hash__" (unh 256)) w pos (stay w) (fun tk => some (.int (Builtin.Tuple.tupleHashOf [PyData.keyHash w.params "set", PyData.keyHash w.params "cut"]) (tk + 2))) (plus3 w) pos)
    (fun w os oD tk K H gd lv => by kernel_rfl) (fun w os oD tk K H gd lv => by kernel_rfl) w
theorem cr8 (w : World) (pos : Pos) : LX 1 (cRoomFor "hash" [.ref 257]) w pos (stay w) (fun _ => ()) (stay w) pos := by
  rw [PySem.W.Fast.te13383273872528276517]
  exact byRow2 "special-get-raises" (P := fun w => LX 1 (PySem.W.Fast.tw13383273872528276517 "hash" [.ref 257]) w pos (stay w) (fun _ => ()) (stay w) pos)
    (fun w os oD tk K H gd lv => by kernel_rfl) (fun w os oD tk K H gd lv => by kernel_rfl) w
theorem so8 (w : World) (pos : Pos) : LX 1 (specialOf (.ref 257) "__hash__") w pos (stay w) (fun _ => some (.builtin "tuple.__hash__")) (stay w) pos := by
  rw [PySem.W.Fast.te4214721358667687652]
  exact byRow2 "special-get-raises" (P := fun w => LX 1 (PySem.W.Fast.tw4214721358667687652 (.ref 257) "__hash__") w pos (stay w) (fun _ => some (.builtin "tuple.__hash__")) (stay w) pos)
    (fun w os oD tk K H gd lv => by kernel_rfl) (fun w os oD tk K H gd lv => by kernel_rfl) w
theorem cs8 (w : World) (pos : Pos) : LX 22 (callSpecialIfBoundUnlessNone? (.ref 257) "__hash__" (unh 257)) w pos (stay w) (fun tk => some (.int (Builtin.Tuple.tupleHashOf [PyData.keyHash w.params "set", PyData.keyHash w.params "has"]) (tk + 2))) (plus3 w) pos := by
  rw [PySem.W.Fast.te16697807410369149715]
  exact byRow2 "special-get-raises" (P := fun w => LX 22 (PySem.W.Fast.tw16697807410369149715 (.ref 257) "__hash__" (unh 257)) w pos (stay w) (fun tk => some (.int (Builtin.Tuple.tupleHashOf [PyData.keyHash w.params "set", PyData.keyHash w.params "has"]) (tk + 2))) (plus3 w) pos)
    (fun w os oD tk K H gd lv => by kernel_rfl) (fun w os oD tk K H gd lv => by kernel_rfl) w
theorem cr9 (w : World) (pos : Pos) : LX 1 (cRoomFor "hash" [.ref 258]) w pos (stay w) (fun _ => ()) (stay w) pos := by
  rw [PySem.W.Fast.te13383273872528276517]
  exact byRow2 "special-get-raises" (P := fun w => LX 1 (PySem.W.Fast.tw13383273872528276517 "hash" [.ref 258]) w pos (stay w) (fun _ => ()) (stay w) pos)
    (fun w os oD tk K H gd lv => by kernel_rfl) (fun w os oD tk K H gd lv => by kernel_rfl) w
theorem so9 (w : World) (pos : Pos) : LX 1 (specialOf (.ref 258) "__hash__") w pos (stay w) (fun _ => some (.builtin "tuple.__hash__")) (stay w) pos := by
  rw [PySem.W.Fast.te4214721358667687652]
  exact byRow2 "special-get-raises" (P := fun w => LX 1 (PySem.W.Fast.tw4214721358667687652 (.ref 258) "__hash__") w pos (stay w) (fun _ => some (.builtin "tuple.__hash__")) (stay w) pos)
    (fun w os oD tk K H gd lv => by kernel_rfl) (fun w os oD tk K H gd lv => by kernel_rfl) w
theorem cs9 (w : World) (pos : Pos) : LX 22 (callSpecialIfBoundUnlessNone? (.ref 258) "__hash__" (unh 258)) w pos (stay w) (fun tk => some (.int (Builtin.Tuple.tupleHashOf [PyData.keyHash w.params "cell", PyData.keyHash w.params "read"]) (tk + 2))) (plus3 w) pos := by
  rw [PySem.W.Fast.te16697807410369149715]
  exact byRow2 "special-get-raises" (P := fun w => LX 22 (PySem.W.Fast.tw16697807410369149715 (.ref 258) "__hash__" (unh 258)) w pos (stay w) (fun tk => some (.int (Builtin.Tuple.tupleHashOf [PyData.keyHash w.params "cell", PyData.keyHash w.params "read"]) (tk + 2))) (plus3 w) pos)
    (fun w os oD tk K H gd lv => by kernel_rfl) (fun w os oD tk K H gd lv => by kernel_rfl) w
theorem cr10 (w : World) (pos : Pos) : LX 1 (cRoomFor "hash" [.ref 259]) w pos (stay w) (fun _ => ()) (stay w) pos := by
  rw [PySem.W.Fast.te13383273872528276517]
  exact byRow2 "special-get-raises" (P := fun w => LX 1 (PySem.W.Fast.tw13383273872528276517 "hash" [.ref 259]) w pos (stay w) (fun _ => ()) (stay w) pos)
    (fun w os oD tk K H gd lv => by kernel_rfl) (fun w os oD tk K H gd lv => by kernel_rfl) w
theorem so10 (w : World) (pos : Pos) : LX 1 (specialOf (.ref 259) "__hash__") w pos (stay w) (fun _ => some (.builtin "tuple.__hash__")) (stay w) pos := by
  rw [PySem.W.Fast.te4214721358667687652]
  exact byRow2 "special-get-raises" (P := fun w => LX 1 (PySem.W.Fast.tw4214721358667687652 (.ref 259) "__hash__") w pos (stay w) (fun _ => some (.builtin "tuple.__hash__")) (stay w) pos)
    (fun w os oD tk K H gd lv => by kernel_rfl) (fun w os oD tk K H gd lv => by kernel_rfl) w
theorem cs10 (w : World) (pos : Pos) : LX 22 (callSpecialIfBoundUnlessNone? (.ref 259) "__hash__" (unh 259)) w pos (stay w) (fun tk => some (.int (Builtin.Tuple.tupleHashOf [PyData.keyHash w.params "cell", PyData.keyHash w.params "write"]) (tk + 2))) (plus3 w) pos := by
  rw [PySem.W.Fast.te16697807410369149715]
  exact byRow2 "special-get-raises" (P := fun w => LX 22 (PySem.W.Fast.tw16697807410369149715 (.ref 259) "__hash__" (unh 259)) w pos (stay w) (fun tk => some (.int (Builtin.Tuple.tupleHashOf [PyData.keyHash w.params "cell", PyData.keyHash w.params "write"]) (tk + 2))) (plus3 w) pos)
    (fun w os oD tk K H gd lv => by kernel_rfl) (fun w os oD tk K H gd lv => by kernel_rfl) w
theorem cr11 (w : World) (pos : Pos) : LX 1 (cRoomFor "hash" [.ref 260]) w pos (stay w) (fun _ => ()) (stay w) pos := by
  rw [PySem.W.Fast.te13383273872528276517]
  exact byRow2 "special-get-raises" (P := fun w => LX 1 (PySem.W.Fast.tw13383273872528276517 "hash" [.ref 260]) w pos (stay w) (fun _ => ()) (stay w) pos)
    (fun w os oD tk K H gd lv => by kernel_rfl) (fun w os oD tk K H gd lv => by kernel_rfl) w
theorem so11 (w : World) (pos : Pos) : LX 1 (specialOf (.ref 260) "__hash__") w pos (stay w) (fun _ => some (.builtin "tuple.__hash__")) (stay w) pos := by
  rw [PySem.W.Fast.te4214721358667687652]
  exact byRow2 "special-get-raises" (P := fun w => LX 1 (PySem.W.Fast.tw4214721358667687652 (.ref 260) "__hash__") w pos (stay w) (fun _ => some (.builtin "tuple.__hash__")) (stay w) pos)
    (fun w os oD tk K H gd lv => by kernel_rfl) (fun w os oD tk K H gd lv => by kernel_rfl) w
theorem cs11 (w : World) (pos : Pos) : LX 22 (callSpecialIfBoundUnlessNone? (.ref 260) "__hash__" (unh 260)) w pos (stay w) (fun tk => some (.int (Builtin.Tuple.tupleHashOf [PyData.keyHash w.params "cell", PyData.keyHash w.params "swap"]) (tk + 2))) (plus3 w) pos := by
  rw [PySem.W.Fast.te16697807410369149715]
  exact byRow2 "special-get-raises" (P := fun w => LX 22 (PySem.W.Fast.tw16697807410369149715 (.ref 260) "__hash__" (unh 260)) w pos (stay w) (fun tk => some (.int (Builtin.Tuple.tupleHashOf [PyData.keyHash w.params "cell", PyData.keyHash w.params "swap"]) (tk + 2))) (plus3 w) pos)
    (fun w os oD tk K H gd lv => by kernel_rfl) (fun w os oD tk K H gd lv => by kernel_rfl) w
noncomputable def allX (P : Params) : List KV3 := [(249, (.ref 193), (reduceHash (Builtin.Tuple.tupleHashOf [PyData.keyHash P "register", PyData.keyHash P "read"]))), (250, (.ref 200), (reduceHash (Builtin.Tuple.tupleHashOf [PyData.keyHash P "register", PyData.keyHash P "write"]))), (251, (.ref 193), (reduceHash (Builtin.Tuple.tupleHashOf [PyData.keyHash P "counter", PyData.keyHash P "read"]))), (252, (.ref 207), (reduceHash (Builtin.Tuple.tupleHashOf [PyData.keyHash P "counter", PyData.keyHash P "add"]))), (253, (.ref 214), (reduceHash (Builtin.Tuple.tupleHashOf [PyData.keyHash P "queue", PyData.keyHash P "put"]))), (254, (.ref 221), (reduceHash (Builtin.Tuple.tupleHashOf [PyData.keyHash P "queue", PyData.keyHash P "take"]))), (255, (.ref 228), (reduceHash (Builtin.Tuple.tupleHashOf [PyData.keyHash P "set", PyData.keyHash P "put"]))), (256, (.ref 233), (reduceHash (Builtin.Tuple.tupleHashOf [PyData.keyHash P "set", PyData.keyHash P "cut"]))), (257, (.ref 240), (reduceHash (Builtin.Tuple.tupleHashOf [PyData.keyHash P "set", PyData.keyHash P "has"]))), (258, (.ref 193), (reduceHash (Builtin.Tuple.tupleHashOf [PyData.keyHash P "cell", PyData.keyHash P "read"]))), (259, (.ref 200), (reduceHash (Builtin.Tuple.tupleHashOf [PyData.keyHash P "cell", PyData.keyHash P "write"]))), (260, (.ref 247), (reduceHash (Builtin.Tuple.tupleHashOf [PyData.keyHash P "cell", PyData.keyHash P "swap"])))]
theorem allX_pw (w : World) (os : OsState) (pos : Pos) : (allX w.params).Pairwise fun x y => ∀ oD tk, GX w 20 (eqBool (.ref x.1) (.ref y.1)) (FX w os oD tk).abs pos false (FX w os oD tk).abs pos := by
  unfold allX
  refine
  .cons (fun y hy oD tk => (by
    revert y; simp only [List.forall_mem_cons, List.not_mem_nil, false_implies, implies_true, and_true]; exact ⟨(eq0_1 w pos).goes os oD tk |>.le (by decide), (eq0_2 w pos).goes os oD tk |>.le (by decide), (eq0_3 w pos).goes os oD tk |>.le (by decide), (eq0_4 w pos).goes os oD tk |>.le (by decide), (eq0_5 w pos).goes os oD tk |>.le (by decide), (eq0_6 w pos).goes os oD tk |>.le (by decide), (eq0_7 w pos).goes os oD tk |>.le (by decide), (eq0_8 w pos).goes os oD tk |>.le (by decide), (eq0_9 w pos).goes os oD tk |>.le (by decide), (eq0_10 w pos).goes os oD tk |>.le (by decide), (eq0_11 w pos).goes os oD tk |>.le (by decide)⟩))
    (.cons (fun y hy oD tk => (by
    revert y; simp only [List.forall_mem_cons, List.not_mem_nil, false_implies, implies_true, and_true]; exact ⟨(eq1_2 w pos).goes os oD tk |>.le (by decide), (eq1_3 w pos).goes os oD tk |>.le (by decide), (eq1_4 w pos).goes os oD tk |>.le (by decide), (eq1_5 w pos).goes os oD tk |>.le (by decide), (eq1_6 w pos).goes os oD tk |>.le (by decide), (eq1_7 w pos).goes os oD tk |>.le (by decide), (eq1_8 w pos).goes os oD tk |>.le (by decide), (eq1_9 w pos).goes os oD tk |>.le (by decide), (eq1_10 w pos).goes os oD tk |>.le (by decide), (eq1_11 w pos).goes os oD tk |>.le (by decide)⟩))
    (.cons (fun y hy oD tk => (by
    revert y; simp only [List.forall_mem_cons, List.not_mem_nil, false_implies, implies_true, and_true]; exact ⟨(eq2_3 w pos).goes os oD tk |>.le (by decide), (eq2_4 w pos).goes os oD tk |>.le (by decide), (eq2_5 w pos).goes os oD tk |>.le (by decide), (eq2_6 w pos).goes os oD tk |>.le (by decide), (eq2_7 w pos).goes os oD tk |>.le (by decide), (eq2_8 w pos).goes os oD tk |>.le (by decide), (eq2_9 w pos).goes os oD tk |>.le (by decide), (eq2_10 w pos).goes os oD tk |>.le (by decide), (eq2_11 w pos).goes os oD tk |>.le (by decide)⟩))
    (.cons (fun y hy oD tk => (by
    revert y; simp only [List.forall_mem_cons, List.not_mem_nil, false_implies, implies_true, and_true]; exact ⟨(eq3_4 w pos).goes os oD tk |>.le (by decide), (eq3_5 w pos).goes os oD tk |>.le (by decide), (eq3_6 w pos).goes os oD tk |>.le (by decide), (eq3_7 w pos).goes os oD tk |>.le (by decide), (eq3_8 w pos).goes os oD tk |>.le (by decide), (eq3_9 w pos).goes os oD tk |>.le (by decide), (eq3_10 w pos).goes os oD tk |>.le (by decide), (eq3_11 w pos).goes os oD tk |>.le (by decide)⟩))
    (.cons (fun y hy oD tk => (by
    revert y; simp only [List.forall_mem_cons, List.not_mem_nil, false_implies, implies_true, and_true]; exact ⟨(eq4_5 w pos).goes os oD tk |>.le (by decide), (eq4_6 w pos).goes os oD tk |>.le (by decide), (eq4_7 w pos).goes os oD tk |>.le (by decide), (eq4_8 w pos).goes os oD tk |>.le (by decide), (eq4_9 w pos).goes os oD tk |>.le (by decide), (eq4_10 w pos).goes os oD tk |>.le (by decide), (eq4_11 w pos).goes os oD tk |>.le (by decide)⟩))
    (.cons (fun y hy oD tk => (by
    revert y; simp only [List.forall_mem_cons, List.not_mem_nil, false_implies, implies_true, and_true]; exact ⟨(eq5_6 w pos).goes os oD tk |>.le (by decide), (eq5_7 w pos).goes os oD tk |>.le (by decide), (eq5_8 w pos).goes os oD tk |>.le (by decide), (eq5_9 w pos).goes os oD tk |>.le (by decide), (eq5_10 w pos).goes os oD tk |>.le (by decide), (eq5_11 w pos).goes os oD tk |>.le (by decide)⟩))
    (.cons (fun y hy oD tk => (by
    revert y; simp only [List.forall_mem_cons, List.not_mem_nil, false_implies, implies_true, and_true]; exact ⟨(eq6_7 w pos).goes os oD tk |>.le (by decide), (eq6_8 w pos).goes os oD tk |>.le (by decide), (eq6_9 w pos).goes os oD tk |>.le (by decide), (eq6_10 w pos).goes os oD tk |>.le (by decide), (eq6_11 w pos).goes os oD tk |>.le (by decide)⟩))
    (.cons (fun y hy oD tk => (by
    revert y; simp only [List.forall_mem_cons, List.not_mem_nil, false_implies, implies_true, and_true]; exact ⟨(eq7_8 w pos).goes os oD tk |>.le (by decide), (eq7_9 w pos).goes os oD tk |>.le (by decide), (eq7_10 w pos).goes os oD tk |>.le (by decide), (eq7_11 w pos).goes os oD tk |>.le (by decide)⟩))
    (.cons (fun y hy oD tk => (by
    revert y; simp only [List.forall_mem_cons, List.not_mem_nil, false_implies, implies_true, and_true]; exact ⟨(eq8_9 w pos).goes os oD tk |>.le (by decide), (eq8_10 w pos).goes os oD tk |>.le (by decide), (eq8_11 w pos).goes os oD tk |>.le (by decide)⟩))
    (.cons (fun y hy oD tk => (by
    revert y; simp only [List.forall_mem_cons, List.not_mem_nil, false_implies, implies_true, and_true]; exact ⟨(eq9_10 w pos).goes os oD tk |>.le (by decide), (eq9_11 w pos).goes os oD tk |>.le (by decide)⟩))
    (.cons (fun y hy oD tk => (by
    revert y; simp only [List.forall_mem_cons, List.not_mem_nil, false_implies, implies_true, and_true]; exact (eq10_11 w pos).goes os oD tk |>.le (by decide)))
    (.cons (fun y hy => nomatch hy)
    (List.Pairwise.nil))))))))))))
theorem allX_q (w : World) (os : OsState) (pos : Pos) : ∀ x ∈ allX w.params, ∀ oD tk, GX w 3 (eqIsQuiet 8 (.ref x.1)) (FX w os oD tk).abs pos true (FX w os oD tk).abs pos := by
  unfold allX
  simp only [List.forall_mem_cons, List.not_mem_nil, false_implies, implies_true, and_true]
  exact ⟨fun oD tk => (qt0 w pos).goes os oD tk, fun oD tk => (qt1 w pos).goes os oD tk, fun oD tk => (qt2 w pos).goes os oD tk, fun oD tk => (qt3 w pos).goes os oD tk, fun oD tk => (qt4 w pos).goes os oD tk, fun oD tk => (qt5 w pos).goes os oD tk, fun oD tk => (qt6 w pos).goes os oD tk, fun oD tk => (qt7 w pos).goes os oD tk, fun oD tk => (qt8 w pos).goes os oD tk, fun oD tk => (qt9 w pos).goes os oD tk, fun oD tk => (qt10 w pos).goes os oD tk, fun oD tk => (qt11 w pos).goes os oD tk⟩
theorem allX_h (w : World) (os : OsState) (pos : Pos) : ∀ x ∈ allX w.params, ∀ oD tk, GX w 25 (pyHash (.ref x.1)) (FX w os oD tk).abs pos x.2.2 (FX w os oD (tk + 3)).abs pos := by
  unfold allX
  simp only [List.forall_mem_cons, List.not_mem_nil, false_implies, implies_true, and_true]
  exact ⟨fun oD tk => Goes.pyHashT ((cr0 w pos).goes os oD tk) ((so0 w pos).goes os oD tk) ((cs0 w pos).goes os oD tk), fun oD tk => Goes.pyHashT ((cr1 w pos).goes os oD tk) ((so1 w pos).goes os oD tk) ((cs1 w pos).goes os oD tk), fun oD tk => Goes.pyHashT ((cr2 w pos).goes os oD tk) ((so2 w pos).goes os oD tk) ((cs2 w pos).goes os oD tk), fun oD tk => Goes.pyHashT ((cr3 w pos).goes os oD tk) ((so3 w pos).goes os oD tk) ((cs3 w pos).goes os oD tk), fun oD tk => Goes.pyHashT ((cr4 w pos).goes os oD tk) ((so4 w pos).goes os oD tk) ((cs4 w pos).goes os oD tk), fun oD tk => Goes.pyHashT ((cr5 w pos).goes os oD tk) ((so5 w pos).goes os oD tk) ((cs5 w pos).goes os oD tk), fun oD tk => Goes.pyHashT ((cr6 w pos).goes os oD tk) ((so6 w pos).goes os oD tk) ((cs6 w pos).goes os oD tk), fun oD tk => Goes.pyHashT ((cr7 w pos).goes os oD tk) ((so7 w pos).goes os oD tk) ((cs7 w pos).goes os oD tk), fun oD tk => Goes.pyHashT ((cr8 w pos).goes os oD tk) ((so8 w pos).goes os oD tk) ((cs8 w pos).goes os oD tk), fun oD tk => Goes.pyHashT ((cr9 w pos).goes os oD tk) ((so9 w pos).goes os oD tk) ((cs9 w pos).goes os oD tk), fun oD tk => Goes.pyHashT ((cr10 w pos).goes os oD tk) ((so10 w pos).goes os oD tk) ((cs10 w pos).goes os oD tk), fun oD tk => Goes.pyHashT ((cr11 w pos).goes os oD tk) ((so11 w pos).goes os oD tk) ((cs11 w pos).goes os oD tk)⟩
theorem famX (w : World) (os : OsState) : Fam 11 248 (FX w os) := by
  have g : ∀ oD, (treeD w.params oD).get 248 = some oD := fun oD => by kernel_rfl
  refine ⟨by decide, fun es ep tk => abs_get (show 248 < 261 by decide) (g _), fun es ep tk e => ?_⟩
  have u : (absHeap (treeD w.params (dObj es ep)) 261 {}).update 248 (Obj.mapDictKeys (·.push e)) = absHeap (treeD w.params (dObj (es.push e) (ep + 1))) 261 {} := by
    rw [← absHeap_set (g _)]
    have v : (treeD w.params (dObj es ep)).set 248 (Obj.mapDictKeys (·.push e)) = treeD w.params (dObj (es.push e) (ep + 1)) := by kernel_rfl
    rw [v]
  exact congrArg (fun h => (⟨h, ⟨[]⟩, {}, tk, os⟩ : Shared)) u
noncomputable def stD : Stmt := (behindTheImports PX).getD 31 (.Pass ⟨0, 0, 0, 0⟩)
noncomputable def sufX : List Stmt := (behindTheImports PX).drop 32
theorem bodyX : behindTheImports PX = K52.pre.sts_7 ++ (K52.pre.sts_61 ++ (K52.pre.sts_80 ++ (K52.pre.sts_99 ++ (K52.pre.sts_118 ++ (K52.pre.sts_137 ++ (K52.pre.sts_156 ++ (K52.pre.sts_175 ++ (K52.pre.sts_194 ++ (K52.pre.sts_213 ++ (K52.pre.sts_232 ++ (K52.pre.sts_256 ++ ([stD] ++ sufX)))))))))))) := by kernel_rfl
def dKeys : Stmt → List (Option Expr)
  | .Assign _ (.Dict ks _ _) _ => ks
  | _ => []
def dVals : Stmt → List Expr
  | .Assign _ (.Dict _ vs _) _ => vs
  | _ => []
def dPos : Stmt → Pos
  | .Assign _ (.Dict _ _ p) _ => p
  | _ => ⟨0, 0, 0, 0⟩
def sPos : Stmt → Pos
  | .Assign _ _ p => p
  | _ => ⟨0, 0, 0, 0⟩
noncomputable abbrev p1X : Pos := sPos stD
noncomputable abbrev p2X : Pos := dPos stD
noncomputable abbrev p3X : Pos := ⟨66, 0, 66, 5⟩
noncomputable def runX : List (Sem Value × Sem Value) := (((evalEachOpt (dKeys stD) K52.pre.env_1).zip ((evalEach (dVals stD) K52.pre.env_1).map fun v => do let x ← v; standAt p2X; pure x))).filterMap fun x => x.1.map (·, x.2)
theorem stD_eq : stD = .Assign [.Name "DOERS" p3X] (.Dict (dKeys stD) (dVals stD) p2X) p1X := by kernel_rfl
theorem evD : eval (.Dict (dKeys stD) (dVals stD) p2X) K52.pre.env_1 = (do standAt p2X; let r ← (do let x ← subDict runX; pure (some x)); match r with | some x => pure (Value.ref x) | none => newDict) := by kernel_rfl
theorem swD : swapsWith (.Dict (dKeys stD) (dVals stD) p2X) (some (.Name "DOERS" p3X)) p1X.line K52.pre.env_1 = pure false := by kernel_rfl
noncomputable def F0X (w : World) (os : OsState) : SharedT := ⟨K52.pre.tree_321 w.params, 248, {}, ⟨[]⟩, {}, 519, os⟩
noncomputable def F1X (w : World) (os : OsState) : SharedT := ⟨(K52.pre.tree_321 w.params).ins 248 (dObj #[] 0), 249, {}, ⟨[]⟩, {}, 519, os⟩
noncomputable def vsX : List (Value × Value) := [(.ref 249, (.ref 193)), (.ref 250, (.ref 200)), (.ref 251, (.ref 193)), (.ref 252, (.ref 207)), (.ref 253, (.ref 214)), (.ref 254, (.ref 221)), (.ref 255, (.ref 228)), (.ref 256, (.ref 233)), (.ref 257, (.ref 240)), (.ref 258, (.ref 193)), (.ref 259, (.ref 200)), (.ref 260, (.ref 247))]
theorem pairs_leaf (w : World) : LX 84 (evalPairs runX) w p2X (fun os _ _ => F1X w os) (fun _ => vsX) (fun os _ _ => FX w os (dObj #[] 0) 543) p2X := by
  rw [PySem.W.Fast.te1788576489739465902]
  exact fun os oD tk K H gd lv => by kernel_rfl
noncomputable def F2X (w : World) (os : OsState) (oD : Obj) (tk : Nat) : SharedT := ⟨(treeD w.params oD).set 3 (Obj.putName "DOERS" (PyData.keyHash w.params "DOERS") (.str "DOERS" tk) (.ref 248)), 261, {}, ⟨[]⟩, {}, tk + 1, os⟩
theorem bind_leaf (w : World) (pos : Pos) : LX 6 (bindName K52.pre.env_1 "DOERS" (.ref 248)) w pos (stay w) (fun _ => ()) (fun os oD tk => F2X w os oD tk) pos := by
  rw [PySem.W.Fast.te7536695828754713326]
  exact byRow2 "special-get-raises" (P := fun w => LX 6 (PySem.W.Fast.tw7536695828754713326 K52.pre.env_1 "DOERS" (.ref 248)) w pos (stay w) (fun _ => ()) (fun os oD tk => F2X w os oD tk) pos)
    (fun w os oD tk K H gd lv => by kernel_rfl) (fun w os oD tk K H gd lv => by kernel_rfl) w
noncomputable abbrev oDX (P : Params) : Obj := dObj ((allX P).map ent).toArray 12
noncomputable abbrev S2X (w : World) (os : OsState) : SharedT := F2X w os (oDX w.params) 579
theorem stD_go (w : World) (os : OsState) (pos : Pos) : GX w 100000 (exec stD K52.pre.env_1) (F0X w os).abs pos .next (S2X w os).abs p3X := by
  rw [stD_eq, exec_Assign_Name _ _ _ _ _ swD]
  have l := Goes.loop (p := PX) (w := w) (ann := annX) (code := cdX) (q := qX) (pos := p2X) (famX w os) (N := 12) (allX w.params) (show 12 ≤ 12 by decide) (by decide) (show ([249, 250, 251, 252, 253, 254, 255, 256, 257, 258, 259, 260] : List Nat).Nodup by decide) (allX_q w os p2X) (allX_pw w os p2X) (allX_h w os p2X) (allX w.params) [] 543 rfl
  have ev := (pairs_leaf w).goes os (dObj #[] 0) 0
  have sd : GX w _ (subDict runX) (F0X w os).abs p2X 248 (FX w os (oDX w.params) 579).abs p2X :=
    Goes.subDict (by decide +kernel) (absHeap_size _ _ _) (show GX w _ (evalPairs runX) _ p2X vsX _ p2X from by
      have e : ({ (F0X w os).abs with heap := (F0X w os).abs.heap.push { cls := .type "dict", data := .dict #[] } } : Shared) = (F1X w os).abs := by
        have i := absHeap_ins (t := K52.pre.tree_321 w.params) (n := 248) (life := {}) (o := dObj #[] 0) (by kernel_rfl)
        exact congrArg (fun h => (⟨h, ⟨[]⟩, {}, 519, os⟩ : Shared)) i.symm
      rw [e]
      exact ev) l
  refine (Goes.bind Goes.at' (Goes.bind (a := Value.ref 248) (pos' := p2X) ?_ (Goes.bind Goes.at' (Goes.bind (f := fun _ => pure Flow.next) ((bind_leaf w p3X).goes os (oDX w.params) 579) Goes.pure)))).le (c := 1 + (((1 + ((1 + (84 + 12 * (25 + (2 + 3 + 12 * (3 + 20 + 10)) + 4))) + 0 + 0)) + (1 + (6 + 0))))) (by decide)
  rw [evD]
  exact Goes.bind Goes.at' (Goes.bind (Goes.bind sd Goes.pure) Goes.pure)
noncomputable abbrev pLX : Pos := ⟨375, 0, 384, 15⟩
noncomputable def R3X (w : World) (os : OsState) : Option (Flow × SharedT × Code × Pos) := PySem.W.Fast.tw10110043849684766642 PySem.W.Fast.tw14364793385576792824 PX w 11 annX 1 1776 (S2X w os) ⟨(PySem.W.Fast.tw12563942051412417395 sufX K52.pre.env_1).wrap doneF deadEnd id id, cdX, p3X, BX⟩
noncomputable def S3X (w : World) (os : OsState) : SharedT := match R3X w os with | some r => r.2.1 | none => S2X w os
theorem R3X_eq (w : World) (os : OsState) : R3X w os = some (.next, S3X w os, cdX, pLX) := by kernel_rfl
theorem suf_run (w : World) (os : OsState) : segRun treeTable PX w 11 annX 1 1776 (S2X w os).abs (piecesOf sufX K52.pre.env_1 cdX p3X BX) = some (.next, (S3X w os).abs, cdX, pLX) := by
  have e := R3X_eq w os
  unfold R3X at e
  rw [← PySem.W.Fast.te10110043849684766642, ← PySem.W.Fast.te14364793385576792824, ← PySem.W.Fast.te12563942051412417395] at e
  exact segRun_of e
noncomputable def S0X (w : World) (os : OsState) : SharedT := ⟨K52.pre.tree_6 w.params, 15, {}, ⟨[]⟩, {}, 187, os⟩
theorem pre_go (w : World) (os : OsState) : topGo treeTable PX w 11 annX 12 ⟨boot_heap w.params, Array.mk [], boot_drawn, boot_toks, os⟩ (topStub PX) = some ((S0X w os).abs, ⟨denote treeTable cdX, cdX, qX, BX⟩) := by
  rw [PySem.W.Fast.te15667345088766844465, PySem.W.Fast.te14364793385576792824, PySem.W.Fast.te11892475500146522536]
  kernel_rfl
theorem runX_all (w : World) (os : OsState) : ∃ M, M ≤ 200000 ∧ topRun treeTable PX w 11 annX M ⟨boot_heap w.params, Array.mk [], boot_drawn, boot_toks, os⟩ (topStub PX) = some (S3X w os).abs := by
  have f1 : topRun treeTable PX w 11 annX 2 (S3X w os).abs (restOf [] K52.pre.env_1 cdX pLX BX) = some (S3X w os).abs := rfl
  have f2 := piece_app (suf_run w os) f1
  rw [List.append_nil] at f2
  obtain ⟨M, hM, f3⟩ := piece_goes (Goes.execs1 (stD_go w os ⟨62, 0, 65, 21⟩)) f2
  have f4 := K52.pre.chain PX (behindTheImports PX) w os _ M _ f3
  rw [← bodyX] at f4
  have b1 : segRun treeTable PX w 11 annX 1 1 (S0X w os).abs (blockOf (behindTheImports PX) K52.pre.env_1 cdX qX BX) = some (.next, (S0X w os).abs, cdX, qX) := rfl
  have f5 := piece_block b1 f4
  have f6 := go_top (pre_go w os) f5
  refine ⟨_, ?_, f6⟩
  simp only [Nat.add_eq]
  omega
noncomputable def looseX : List Str := [("_wall" : Str), ("GREATEST_WORTH" : Str), ("is_whole" : Str), ("is_within" : Str), ("is_worth" : Str), ("is_tuple_of" : Str), ("TaleError" : Str), ("NoDeed" : Str), ("NoTale" : Str), ("NoStrictness" : Str), ("NoThing" : Str), ("NoOrder" : Str), ("NoHand" : Str), ("NotPlain" : Str), ("NoPlan" : Str), ("NoDealings" : Str), ("NoRow" : Str), ("FIRST_STATES" : Str), ("WORTHS_OF_VERBS" : Str), ("read_state" : Str), ("write_state" : Str), ("add_to_number" : Str), ("put_behind" : Str), ("take_first" : Str), ("put_into_set" : Str), ("cut_from_set" : Str), ("has_in_set" : Str), ("swap_state" : Str), ("DOERS" : Str), ("is_kind" : Str), ("first_state" : Str), ("is_deed" : Str), ("do" : Str), ("deeds" : Str), ("STRICTNESSES" : Str), ("has_to" : Str), ("check_strictness" : Str), ("goes_ahead" : Str), ("explains" : Str), ("is_order" : Str), ("is_step" : Str), ("keeps_to" : Str), ("is_done_so" : Str), ("Candidate" : Str), ("Board" : Str), ("step_of" : Str), ("ended_numbers" : Str), ("holds_all" : Str), ("first_place" : Str), ("nexts" : Str), ("all_places" : Str), ("next_layer" : Str), ("judged" : Str), ("_law_hand" : Str), ("_law_draw" : Str), ("_law_begun" : Str), ("_law_does" : Str), ("_law_worth" : Str), ("_law_act" : Str), ("_law_things" : Str), ("_law_ended" : Str), ("_law_tale" : Str), ("_law_acts" : Str), ("_law_must" : Str), ("_law_alike" : Str), ("_law_bad_strictness" : Str), ("_law_other_class" : Str), ("_law_refused" : Str)]
noncomputable def viewX : Program := { PX with main := { PX.main with body := (PX.main.body[76]?).toList } }
noncomputable def top (i : Nat) : Stmt := PX.main.body.getD i (.Pass ⟨0, 0, 0, 0⟩)
def subS (s : Stmt) (j : Nat) : Stmt := match s with
  | .ClassDef _ _ _ b _ _ _ _ _ _ _ => b.getD j s
  | _ => s
noncomputable def asX : List Addr := [3, 11, 13, 15, 17, 18, 22, 24, 25, 29, 31, 32, 36, 38, 39, 43, 45, 46, 50, 52, 53, 55, 57, 58, 59, 63, 65, 66, 68, 70, 71, 72, 75, 77, 78, 80, 82, 83, 84, 87, 89, 90, 92, 94, 95, 96, 99, 101, 102, 104, 106, 107, 108, 111, 113, 114, 116, 118, 119, 120, 123, 125, 126, 128, 130, 131, 132, 135, 137, 138, 140, 142, 143, 144, 147, 149, 150, 152, 154, 155, 156, 159, 161, 162, 164, 166, 167, 168, 171, 173, 174, 176, 178, 179, 180, 183, 184, 185, 187, 189, 190, 194, 196, 197, 201, 203, 204, 208, 210, 211, 215, 217, 218, 222, 224, 225, 229, 234, 236, 237, 241, 243, 244, 249, 250, 251, 252, 253, 254, 255, 256, 257, 258, 259, 260, 261, 263, 264, 266, 267, 268, 270, 271, 273, 274, 275, 280, 282, 283, 287, 289, 290, 294, 295, 297, 298, 300, 301, 302, 304, 305, 307, 308, 309, 311, 312, 316, 319, 320, 321, 326, 328, 329, 333, 338, 343, 345, 346, 348, 350, 355, 357, 358, 362, 363, 369, 371, 372, 374, 376, 379, 380, 381, 383, 384, 388, 390, 391, 395, 397, 398, 402, 403, 404, 409, 411, 412, 416, 421, 426, 429, 430, 431, 433, 434, 436, 437, 438, 440, 441, 443, 444, 445, 447, 448, 452, 454, 455, 457, 458, 459, 461, 462, 464, 465, 466, 468, 469, 471, 472, 473, 475, 476, 478, 479, 480, 483, 484, 485, 487, 488, 490, 491, 492, 494, 495, 497, 498, 499, 502, 503, 504, 506, 507, 509, 510, 511, 514, 515, 516, 518, 519, 523, 525, 526, 530, 532, 533, 537, 539, 540, 542, 543, 544, 546, 547, 549, 550, 551, 553, 554, 556, 557, 558, 560, 561, 563, 564]
noncomputable def KX (P : Params) : Frag := [
  (3, ⟨(.type "dict"), none, (.dict #[⟨(PyData.keyHash P "__name__"), (.str "__name__" 165), (.str "law_talejudge_k52_no_strictness" 876)⟩, ⟨(PyData.keyHash P "__doc__"), (.str "__doc__" 166), .none⟩, ⟨(PyData.keyHash P "__package__"), (.str "__package__" 167), .none⟩, ⟨(PyData.keyHash P "__loader__"), (.str "__loader__" 168), (.builtin "__main__.__loader__#opaque")⟩, ⟨(PyData.keyHash P "__spec__"), (.str "__spec__" 169), .none⟩, ⟨(PyData.keyHash P "__annotations__"), (.str "__annotations__" 170), (.ref 6)⟩, ⟨(PyData.keyHash P "__builtins__"), (.str "__builtins__" 171), (.ref 4)⟩, ⟨(PyData.keyHash P "__file__"), (.str "__file__" 173), (.str "/claim/cut.py" 172)⟩, ⟨(PyData.keyHash P "__cached__"), (.str "__cached__" 174), .none⟩, ⟨(PyData.keyHash P "_wall"), (.str "_wall" 193), (.ref 21)⟩, ⟨(PyData.keyHash P "GREATEST_WORTH"), (.str "GREATEST_WORTH" 197), (.int (1000000000) 196)⟩, ⟨(PyData.keyHash P "is_whole"), (.str "is_whole" 204), (.ref 28)⟩, ⟨(PyData.keyHash P "is_within"), (.str "is_within" 212), (.ref 35)⟩, ⟨(PyData.keyHash P "is_worth"), (.str "is_worth" 219), (.ref 42)⟩, ⟨(PyData.keyHash P "is_tuple_of"), (.str "is_tuple_of" 227), (.ref 49)⟩, ⟨(PyData.keyHash P "TaleError"), (.str "TaleError" 247), (.ref 59)⟩, ⟨(PyData.keyHash P "NoDeed"), (.str "NoDeed" 263), (.ref 72)⟩, ⟨(PyData.keyHash P "NoTale"), (.str "NoTale" 279), (.ref 84)⟩, ⟨(PyData.keyHash P "NoStrictness"), (.str "NoStrictness" 295), (.ref 96)⟩, ⟨(PyData.keyHash P "NoThing"), (.str "NoThing" 311), (.ref 108)⟩, ⟨(PyData.keyHash P "NoOrder"), (.str "NoOrder" 327), (.ref 120)⟩, ⟨(PyData.keyHash P "NoHand"), (.str "NoHand" 343), (.ref 132)⟩, ⟨(PyData.keyHash P "NotPlain"), (.str "NotPlain" 359), (.ref 144)⟩, ⟨(PyData.keyHash P "NoPlan"), (.str "NoPlan" 375), (.ref 156)⟩, ⟨(PyData.keyHash P "NoDealings"), (.str "NoDealings" 391), (.ref 168)⟩, ⟨(PyData.keyHash P "NoRow"), (.str "NoRow" 407), (.ref 180)⟩, ⟨(PyData.keyHash P "FIRST_STATES"), (.str "FIRST_STATES" 423), (.ref 183)⟩, ⟨(PyData.keyHash P "WORTHS_OF_VERBS"), (.str "WORTHS_OF_VERBS" 448), (.ref 186)⟩, ⟨(PyData.keyHash P "read_state"), (.str "read_state" 456), (.ref 193)⟩, ⟨(PyData.keyHash P "write_state"), (.str "write_state" 464), (.ref 200)⟩, ⟨(PyData.keyHash P "add_to_number"), (.str "add_to_number" 472), (.ref 207)⟩, ⟨(PyData.keyHash P "put_behind"), (.str "put_behind" 480), (.ref 214)⟩, ⟨(PyData.keyHash P "take_first"), (.str "take_first" 488), (.ref 221)⟩, ⟨(PyData.keyHash P "put_into_set"), (.str "put_into_set" 496), (.ref 228)⟩, ⟨(PyData.keyHash P "cut_from_set"), (.str "cut_from_set" 502), (.ref 233)⟩, ⟨(PyData.keyHash P "has_in_set"), (.str "has_in_set" 510), (.ref 240)⟩, ⟨(PyData.keyHash P "swap_state"), (.str "swap_state" 518), (.ref 247)⟩, ⟨(PyData.keyHash P "DOERS"), (.str "DOERS" 579), (.ref 248)⟩, ⟨(PyData.keyHash P "is_kind"), (.str "is_kind" 586), (.ref 267)⟩, ⟨(PyData.keyHash P "first_state"), (.str "first_state" 593), (.ref 274)⟩, ⟨(PyData.keyHash P "is_deed"), (.str "is_deed" 599), (.ref 279)⟩, ⟨(PyData.keyHash P "do"), (.str "do" 610), (.ref 286)⟩, ⟨(PyData.keyHash P "deeds"), (.str "deeds" 625), (.ref 293)⟩, ⟨(PyData.keyHash P "STRICTNESSES"), (.str "STRICTNESSES" 631), (.ref 294)⟩, ⟨(PyData.keyHash P "has_to"), (.str "has_to" 645), (.ref 301)⟩, ⟨(PyData.keyHash P "check_strictness"), (.str "check_strictness" 652), (.ref 308)⟩, ⟨(PyData.keyHash P "goes_ahead"), (.str "goes_ahead" 661), (.ref 315)⟩, ⟨(PyData.keyHash P "explains"), (.str "explains" 667), (.ref 320)⟩, ⟨(PyData.keyHash P "is_order"), (.str "is_order" 673), (.ref 325)⟩, ⟨(PyData.keyHash P "is_step"), (.str "is_step" 681), (.ref 332)⟩, ⟨(PyData.keyHash P "keeps_to"), (.str "keeps_to" 687), (.ref 337)⟩, ⟨(PyData.keyHash P "is_done_so"), (.str "is_done_so" 693), (.ref 342)⟩, ⟨(PyData.keyHash P "Candidate"), (.str "Candidate" 739), (.ref 364)⟩, ⟨(PyData.keyHash P "Board"), (.str "Board" 796), (.ref 404)⟩, ⟨(PyData.keyHash P "step_of"), (.str "step_of" 808), (.ref 415)⟩, ⟨(PyData.keyHash P "ended_numbers"), (.str "ended_numbers" 814), (.ref 420)⟩, ⟨(PyData.keyHash P "holds_all"), (.str "holds_all" 820), (.ref 425)⟩, ⟨(PyData.keyHash P "first_place"), (.str "first_place" 826), (.ref 430)⟩, ⟨(PyData.keyHash P "nexts"), (.str "nexts" 836), (.ref 437)⟩, ⟨(PyData.keyHash P "all_places"), (.str "all_places" 847), (.ref 444)⟩, ⟨(PyData.keyHash P "next_layer"), (.str "next_layer" 858), (.ref 451)⟩, ⟨(PyData.keyHash P "judged"), (.str "judged" 875), (.ref 458)⟩, ⟨(PyData.keyHash P "_law_hand"), (.str "_law_hand" 887), (.ref 465)⟩, ⟨(PyData.keyHash P "_law_draw"), (.str "_law_draw" 896), (.ref 472)⟩, ⟨(PyData.keyHash P "_law_begun"), (.str "_law_begun" 903), (.ref 479)⟩, ⟨(PyData.keyHash P "_law_does"), (.str "_law_does" 909), (.ref 484)⟩, ⟨(PyData.keyHash P "_law_worth"), (.str "_law_worth" 916), (.ref 491)⟩, ⟨(PyData.keyHash P "_law_act"), (.str "_law_act" 926), (.ref 498)⟩, ⟨(PyData.keyHash P "_law_things"), (.str "_law_things" 932), (.ref 503)⟩, ⟨(PyData.keyHash P "_law_ended"), (.str "_law_ended" 947), (.ref 510)⟩, ⟨(PyData.keyHash P "_law_tale"), (.str "_law_tale" 953), (.ref 515)⟩, ⟨(PyData.keyHash P "_law_acts"), (.str "_law_acts" 965), (.ref 522)⟩, ⟨(PyData.keyHash P "_law_must"), (.str "_law_must" 975), (.ref 529)⟩, ⟨(PyData.keyHash P "_law_alike"), (.str "_law_alike" 983), (.ref 536)⟩, ⟨(PyData.keyHash P "_law_bad_strictness"), (.str "_law_bad_strictness" 990), (.ref 543)⟩, ⟨(PyData.keyHash P "_law_other_class"), (.str "_law_other_class" 997), (.ref 550)⟩, ⟨(PyData.keyHash P "_law_refused"), (.str "_law_refused" 1008), (.ref 557)⟩, ⟨(PyData.keyHash P "law"), (.str "law" 1021), (.ref 564)⟩] 78), #[]⟩),
  (11, ⟨(.type "tuple"), none, (.seq #[] 0), #[]⟩),
  (13, ⟨(.type "code"), none, (.fields #[(.str "<module>" 182), (.str "<module>" 183), (.str "/claim/cut.py" 184), (.int (1) 0), (.int (0) 0), (.int (0) 0), (.int (0) 0), (.int (0) 0), (.ref 11), (.bool false), (.int (181) 0), (.ref 12), .none, .none, .none, .none, (.int (185) 0), (.int (1) 0), (.str "/claim/cut.py" 186)]), #[]⟩),
  (15, ⟨(.type "tuple"), none, (.seq #[] 0), #[]⟩),
  (17, ⟨(.type "tuple"), none, (.seq #[(.str "k" 190)] 0), #[]⟩),
  (18, ⟨(.type "tuple"), none, (.seq #[] 0), #[]⟩),
  (22, ⟨(.type "tuple"), none, (.seq #[] 0), #[]⟩),
  (24, ⟨(.type "tuple"), none, (.seq #[(.str "value" 201)] 0), #[]⟩),
  (25, ⟨(.type "tuple"), none, (.seq #[] 0), #[]⟩),
  (29, ⟨(.type "tuple"), none, (.seq #[] 0), #[]⟩),
  (31, ⟨(.type "tuple"), none, (.seq #[(.str "value" 208), (.str "greatest" 209)] 0), #[]⟩),
  (32, ⟨(.type "tuple"), none, (.seq #[] 0), #[]⟩),
  (36, ⟨(.type "tuple"), none, (.seq #[] 0), #[]⟩),
  (38, ⟨(.type "tuple"), none, (.seq #[(.str "value" 216)] 0), #[]⟩),
  (39, ⟨(.type "tuple"), none, (.seq #[] 0), #[]⟩),
  (43, ⟨(.type "tuple"), none, (.seq #[] 0), #[]⟩),
  (45, ⟨(.type "tuple"), none, (.seq #[(.str "value" 223), (.str "many" 224)] 0), #[]⟩),
  (46, ⟨(.type "tuple"), none, (.seq #[] 0), #[]⟩),
  (50, ⟨(.type "tuple"), none, (.seq #[(.type "ValueError")] 0), #[]⟩),
  (52, ⟨(.type "dict"), none, (.dict #[⟨(PyData.keyHash P "__module__"), (.str "__module__" 237), (.str "talejudge.errors" 228)⟩, ⟨(PyData.keyHash P "__qualname__"), (.str "__qualname__" 239), (.str "TaleError" 238)⟩, ⟨(PyData.keyHash P "__firstlineno__"), (.str "__firstlineno__" 241), (.int (15) 240)⟩, ⟨(PyData.keyHash P "__static_attributes__"), (.str "__static_attributes__" 242), (.ref 57)⟩] 4), #[]⟩),
  (53, ⟨(.type "tuple"), none, (.seq #[] 0), #[]⟩),
  (55, ⟨(.type "code"), none, (.fields #[(.str "TaleError" 232), (.str "TaleError" 233), (.str "/claim/cut.py" 234), (.int (15) 0), (.int (0) 0), (.int (0) 0), (.int (0) 0), (.int (0) 0), (.ref 53), (.bool false), (.int (181) 0), (.ref 54), .none, .none, .none, .none, (.int (235) 0), (.int (15) 0), (.str "/claim/cut.py" 236)]), #[]⟩),
  (57, ⟨(.type "tuple"), none, (.seq #[] 0), #[]⟩),
  (58, ⟨(.type "dict"), none, (.dict #[⟨(PyData.keyHash P "__module__"), (.str "__module__" 237), (.str "talejudge.errors" 228)⟩, ⟨(PyData.keyHash P "__firstlineno__"), (.str "__firstlineno__" 241), (.int (15) 240)⟩, ⟨(PyData.keyHash P "__static_attributes__"), (.str "__static_attributes__" 242), (.ref 57)⟩, ⟨(PyData.keyHash P "__weakref__"), (.str "__weakref__" 244), (.ref 60)⟩, ⟨(PyData.keyHash P "__doc__"), (.str "__doc__" 245), .none⟩] 3), #[]⟩),
  (59, ⟨(.type "type"), none, (.cls ⟨"TaleError", [(.type "ValueError")], [(.ref 59), (.type "ValueError"), (.type "Exception"), (.type "BaseException"), (.type "object")], 58, "TaleError", true, [], [(.ref 72), (.ref 84), (.ref 96), (.ref 108), (.ref 120), (.ref 132), (.ref 144), (.ref 156), (.ref 168), (.ref 180)], false, none, false⟩), #[some (.ref 50), none, some (.str "TaleError" 230), some (.str "TaleError" 238), some (.builtin "ValueError.__new__"), some (.bool true)]⟩),
  (63, ⟨(.type "tuple"), none, (.seq #[(.ref 59)] 0), #[]⟩),
  (65, ⟨(.type "dict"), none, (.dict #[⟨(PyData.keyHash P "__module__"), (.str "__module__" 255), (.str "talejudge.errors" 228)⟩, ⟨(PyData.keyHash P "__qualname__"), (.str "__qualname__" 257), (.str "NoDeed" 256)⟩, ⟨(PyData.keyHash P "__firstlineno__"), (.str "__firstlineno__" 259), (.int (17) 258)⟩, ⟨(PyData.keyHash P "__static_attributes__"), (.str "__static_attributes__" 260), (.ref 70)⟩] 4), #[]⟩),
  (66, ⟨(.type "tuple"), none, (.seq #[] 0), #[]⟩),
  (68, ⟨(.type "code"), none, (.fields #[(.str "NoDeed" 250), (.str "NoDeed" 251), (.str "/claim/cut.py" 252), (.int (17) 0), (.int (0) 0), (.int (0) 0), (.int (0) 0), (.int (0) 0), (.ref 66), (.bool false), (.int (181) 0), (.ref 67), .none, .none, .none, .none, (.int (253) 0), (.int (17) 0), (.str "/claim/cut.py" 254)]), #[]⟩),
  (70, ⟨(.type "tuple"), none, (.seq #[] 0), #[]⟩),
  (71, ⟨(.type "dict"), none, (.dict #[⟨(PyData.keyHash P "__module__"), (.str "__module__" 255), (.str "talejudge.errors" 228)⟩, ⟨(PyData.keyHash P "__firstlineno__"), (.str "__firstlineno__" 259), (.int (17) 258)⟩, ⟨(PyData.keyHash P "__static_attributes__"), (.str "__static_attributes__" 260), (.ref 70)⟩, ⟨(PyData.keyHash P "__doc__"), (.str "__doc__" 261), .none⟩] 2), #[]⟩),
  (72, ⟨(.type "type"), none, (.cls ⟨"NoDeed", [(.ref 59)], [(.ref 72), (.ref 59), (.type "ValueError"), (.type "Exception"), (.type "BaseException"), (.type "object")], 71, "NoDeed", true, [], [], false, none, false⟩), #[some (.ref 63), none, some (.str "NoDeed" 248), some (.str "NoDeed" 256), some (.builtin "ValueError.__new__"), some (.bool true)]⟩),
  (75, ⟨(.type "tuple"), none, (.seq #[(.ref 59)] 0), #[]⟩),
  (77, ⟨(.type "dict"), none, (.dict #[⟨(PyData.keyHash P "__module__"), (.str "__module__" 271), (.str "talejudge.errors" 228)⟩, ⟨(PyData.keyHash P "__qualname__"), (.str "__qualname__" 273), (.str "NoTale" 272)⟩, ⟨(PyData.keyHash P "__firstlineno__"), (.str "__firstlineno__" 275), (.int (19) 274)⟩, ⟨(PyData.keyHash P "__static_attributes__"), (.str "__static_attributes__" 276), (.ref 82)⟩] 4), #[]⟩),
  (78, ⟨(.type "tuple"), none, (.seq #[] 0), #[]⟩),
  (80, ⟨(.type "code"), none, (.fields #[(.str "NoTale" 266), (.str "NoTale" 267), (.str "/claim/cut.py" 268), (.int (19) 0), (.int (0) 0), (.int (0) 0), (.int (0) 0), (.int (0) 0), (.ref 78), (.bool false), (.int (181) 0), (.ref 79), .none, .none, .none, .none, (.int (269) 0), (.int (19) 0), (.str "/claim/cut.py" 270)]), #[]⟩),
  (82, ⟨(.type "tuple"), none, (.seq #[] 0), #[]⟩),
  (83, ⟨(.type "dict"), none, (.dict #[⟨(PyData.keyHash P "__module__"), (.str "__module__" 271), (.str "talejudge.errors" 228)⟩, ⟨(PyData.keyHash P "__firstlineno__"), (.str "__firstlineno__" 275), (.int (19) 274)⟩, ⟨(PyData.keyHash P "__static_attributes__"), (.str "__static_attributes__" 276), (.ref 82)⟩, ⟨(PyData.keyHash P "__doc__"), (.str "__doc__" 277), .none⟩] 2), #[]⟩),
  (84, ⟨(.type "type"), none, (.cls ⟨"NoTale", [(.ref 59)], [(.ref 84), (.ref 59), (.type "ValueError"), (.type "Exception"), (.type "BaseException"), (.type "object")], 83, "NoTale", true, [], [], false, none, false⟩), #[some (.ref 75), none, some (.str "NoTale" 264), some (.str "NoTale" 272), some (.builtin "ValueError.__new__"), some (.bool true)]⟩),
  (87, ⟨(.type "tuple"), none, (.seq #[(.ref 59)] 0), #[]⟩),
  (89, ⟨(.type "dict"), none, (.dict #[⟨(PyData.keyHash P "__module__"), (.str "__module__" 287), (.str "talejudge.errors" 228)⟩, ⟨(PyData.keyHash P "__qualname__"), (.str "__qualname__" 289), (.str "NoStrictness" 288)⟩, ⟨(PyData.keyHash P "__firstlineno__"), (.str "__firstlineno__" 291), (.int (21) 290)⟩, ⟨(PyData.keyHash P "__static_attributes__"), (.str "__static_attributes__" 292), (.ref 94)⟩] 4), #[]⟩),
  (90, ⟨(.type "tuple"), none, (.seq #[] 0), #[]⟩),
  (92, ⟨(.type "code"), none, (.fields #[(.str "NoStrictness" 282), (.str "NoStrictness" 283), (.str "/claim/cut.py" 284), (.int (21) 0), (.int (0) 0), (.int (0) 0), (.int (0) 0), (.int (0) 0), (.ref 90), (.bool false), (.int (181) 0), (.ref 91), .none, .none, .none, .none, (.int (285) 0), (.int (21) 0), (.str "/claim/cut.py" 286)]), #[]⟩),
  (94, ⟨(.type "tuple"), none, (.seq #[] 0), #[]⟩),
  (95, ⟨(.type "dict"), none, (.dict #[⟨(PyData.keyHash P "__module__"), (.str "__module__" 287), (.str "talejudge.errors" 228)⟩, ⟨(PyData.keyHash P "__firstlineno__"), (.str "__firstlineno__" 291), (.int (21) 290)⟩, ⟨(PyData.keyHash P "__static_attributes__"), (.str "__static_attributes__" 292), (.ref 94)⟩, ⟨(PyData.keyHash P "__doc__"), (.str "__doc__" 293), .none⟩] 2), #[]⟩),
  (96, ⟨(.type "type"), none, (.cls ⟨"NoStrictness", [(.ref 59)], [(.ref 96), (.ref 59), (.type "ValueError"), (.type "Exception"), (.type "BaseException"), (.type "object")], 95, "NoStrictness", true, [], [], false, none, false⟩), #[some (.ref 87), none, some (.str "NoStrictness" 280), some (.str "NoStrictness" 288), some (.builtin "ValueError.__new__"), some (.bool true)]⟩),
  (99, ⟨(.type "tuple"), none, (.seq #[(.ref 59)] 0), #[]⟩),
  (101, ⟨(.type "dict"), none, (.dict #[⟨(PyData.keyHash P "__module__"), (.str "__module__" 303), (.str "talejudge.errors" 228)⟩, ⟨(PyData.keyHash P "__qualname__"), (.str "__qualname__" 305), (.str "NoThing" 304)⟩, ⟨(PyData.keyHash P "__firstlineno__"), (.str "__firstlineno__" 307), (.int (23) 306)⟩, ⟨(PyData.keyHash P "__static_attributes__"), (.str "__static_attributes__" 308), (.ref 106)⟩] 4), #[]⟩),
  (102, ⟨(.type "tuple"), none, (.seq #[] 0), #[]⟩),
  (104, ⟨(.type "code"), none, (.fields #[(.str "NoThing" 298), (.str "NoThing" 299), (.str "/claim/cut.py" 300), (.int (23) 0), (.int (0) 0), (.int (0) 0), (.int (0) 0), (.int (0) 0), (.ref 102), (.bool false), (.int (181) 0), (.ref 103), .none, .none, .none, .none, (.int (301) 0), (.int (23) 0), (.str "/claim/cut.py" 302)]), #[]⟩),
  (106, ⟨(.type "tuple"), none, (.seq #[] 0), #[]⟩),
  (107, ⟨(.type "dict"), none, (.dict #[⟨(PyData.keyHash P "__module__"), (.str "__module__" 303), (.str "talejudge.errors" 228)⟩, ⟨(PyData.keyHash P "__firstlineno__"), (.str "__firstlineno__" 307), (.int (23) 306)⟩, ⟨(PyData.keyHash P "__static_attributes__"), (.str "__static_attributes__" 308), (.ref 106)⟩, ⟨(PyData.keyHash P "__doc__"), (.str "__doc__" 309), .none⟩] 2), #[]⟩),
  (108, ⟨(.type "type"), none, (.cls ⟨"NoThing", [(.ref 59)], [(.ref 108), (.ref 59), (.type "ValueError"), (.type "Exception"), (.type "BaseException"), (.type "object")], 107, "NoThing", true, [], [], false, none, false⟩), #[some (.ref 99), none, some (.str "NoThing" 296), some (.str "NoThing" 304), some (.builtin "ValueError.__new__"), some (.bool true)]⟩),
  (111, ⟨(.type "tuple"), none, (.seq #[(.ref 59)] 0), #[]⟩),
  (113, ⟨(.type "dict"), none, (.dict #[⟨(PyData.keyHash P "__module__"), (.str "__module__" 319), (.str "talejudge.errors" 228)⟩, ⟨(PyData.keyHash P "__qualname__"), (.str "__qualname__" 321), (.str "NoOrder" 320)⟩, ⟨(PyData.keyHash P "__firstlineno__"), (.str "__firstlineno__" 323), (.int (25) 322)⟩, ⟨(PyData.keyHash P "__static_attributes__"), (.str "__static_attributes__" 324), (.ref 118)⟩] 4), #[]⟩),
  (114, ⟨(.type "tuple"), none, (.seq #[] 0), #[]⟩),
  (116, ⟨(.type "code"), none, (.fields #[(.str "NoOrder" 314), (.str "NoOrder" 315), (.str "/claim/cut.py" 316), (.int (25) 0), (.int (0) 0), (.int (0) 0), (.int (0) 0), (.int (0) 0), (.ref 114), (.bool false), (.int (181) 0), (.ref 115), .none, .none, .none, .none, (.int (317) 0), (.int (25) 0), (.str "/claim/cut.py" 318)]), #[]⟩),
  (118, ⟨(.type "tuple"), none, (.seq #[] 0), #[]⟩),
  (119, ⟨(.type "dict"), none, (.dict #[⟨(PyData.keyHash P "__module__"), (.str "__module__" 319), (.str "talejudge.errors" 228)⟩, ⟨(PyData.keyHash P "__firstlineno__"), (.str "__firstlineno__" 323), (.int (25) 322)⟩, ⟨(PyData.keyHash P "__static_attributes__"), (.str "__static_attributes__" 324), (.ref 118)⟩, ⟨(PyData.keyHash P "__doc__"), (.str "__doc__" 325), .none⟩] 2), #[]⟩),
  (120, ⟨(.type "type"), none, (.cls ⟨"NoOrder", [(.ref 59)], [(.ref 120), (.ref 59), (.type "ValueError"), (.type "Exception"), (.type "BaseException"), (.type "object")], 119, "NoOrder", true, [], [], false, none, false⟩), #[some (.ref 111), none, some (.str "NoOrder" 312), some (.str "NoOrder" 320), some (.builtin "ValueError.__new__"), some (.bool true)]⟩),
  (123, ⟨(.type "tuple"), none, (.seq #[(.ref 59)] 0), #[]⟩),
  (125, ⟨(.type "dict"), none, (.dict #[⟨(PyData.keyHash P "__module__"), (.str "__module__" 335), (.str "talejudge.errors" 228)⟩, ⟨(PyData.keyHash P "__qualname__"), (.str "__qualname__" 337), (.str "NoHand" 336)⟩, ⟨(PyData.keyHash P "__firstlineno__"), (.str "__firstlineno__" 339), (.int (27) 338)⟩, ⟨(PyData.keyHash P "__static_attributes__"), (.str "__static_attributes__" 340), (.ref 130)⟩] 4), #[]⟩),
  (126, ⟨(.type "tuple"), none, (.seq #[] 0), #[]⟩),
  (128, ⟨(.type "code"), none, (.fields #[(.str "NoHand" 330), (.str "NoHand" 331), (.str "/claim/cut.py" 332), (.int (27) 0), (.int (0) 0), (.int (0) 0), (.int (0) 0), (.int (0) 0), (.ref 126), (.bool false), (.int (181) 0), (.ref 127), .none, .none, .none, .none, (.int (333) 0), (.int (27) 0), (.str "/claim/cut.py" 334)]), #[]⟩),
  (130, ⟨(.type "tuple"), none, (.seq #[] 0), #[]⟩),
  (131, ⟨(.type "dict"), none, (.dict #[⟨(PyData.keyHash P "__module__"), (.str "__module__" 335), (.str "talejudge.errors" 228)⟩, ⟨(PyData.keyHash P "__firstlineno__"), (.str "__firstlineno__" 339), (.int (27) 338)⟩, ⟨(PyData.keyHash P "__static_attributes__"), (.str "__static_attributes__" 340), (.ref 130)⟩, ⟨(PyData.keyHash P "__doc__"), (.str "__doc__" 341), .none⟩] 2), #[]⟩),
  (132, ⟨(.type "type"), none, (.cls ⟨"NoHand", [(.ref 59)], [(.ref 132), (.ref 59), (.type "ValueError"), (.type "Exception"), (.type "BaseException"), (.type "object")], 131, "NoHand", true, [], [], false, none, false⟩), #[some (.ref 123), none, some (.str "NoHand" 328), some (.str "NoHand" 336), some (.builtin "ValueError.__new__"), some (.bool true)]⟩),
  (135, ⟨(.type "tuple"), none, (.seq #[(.ref 59)] 0), #[]⟩),
  (137, ⟨(.type "dict"), none, (.dict #[⟨(PyData.keyHash P "__module__"), (.str "__module__" 351), (.str "talejudge.errors" 228)⟩, ⟨(PyData.keyHash P "__qualname__"), (.str "__qualname__" 353), (.str "NotPlain" 352)⟩, ⟨(PyData.keyHash P "__firstlineno__"), (.str "__firstlineno__" 355), (.int (29) 354)⟩, ⟨(PyData.keyHash P "__static_attributes__"), (.str "__static_attributes__" 356), (.ref 142)⟩] 4), #[]⟩),
  (138, ⟨(.type "tuple"), none, (.seq #[] 0), #[]⟩),
  (140, ⟨(.type "code"), none, (.fields #[(.str "NotPlain" 346), (.str "NotPlain" 347), (.str "/claim/cut.py" 348), (.int (29) 0), (.int (0) 0), (.int (0) 0), (.int (0) 0), (.int (0) 0), (.ref 138), (.bool false), (.int (181) 0), (.ref 139), .none, .none, .none, .none, (.int (349) 0), (.int (29) 0), (.str "/claim/cut.py" 350)]), #[]⟩),
  (142, ⟨(.type "tuple"), none, (.seq #[] 0), #[]⟩),
  (143, ⟨(.type "dict"), none, (.dict #[⟨(PyData.keyHash P "__module__"), (.str "__module__" 351), (.str "talejudge.errors" 228)⟩, ⟨(PyData.keyHash P "__firstlineno__"), (.str "__firstlineno__" 355), (.int (29) 354)⟩, ⟨(PyData.keyHash P "__static_attributes__"), (.str "__static_attributes__" 356), (.ref 142)⟩, ⟨(PyData.keyHash P "__doc__"), (.str "__doc__" 357), .none⟩] 2), #[]⟩),
  (144, ⟨(.type "type"), none, (.cls ⟨"NotPlain", [(.ref 59)], [(.ref 144), (.ref 59), (.type "ValueError"), (.type "Exception"), (.type "BaseException"), (.type "object")], 143, "NotPlain", true, [], [], false, none, false⟩), #[some (.ref 135), none, some (.str "NotPlain" 344), some (.str "NotPlain" 352), some (.builtin "ValueError.__new__"), some (.bool true)]⟩),
  (147, ⟨(.type "tuple"), none, (.seq #[(.ref 59)] 0), #[]⟩),
  (149, ⟨(.type "dict"), none, (.dict #[⟨(PyData.keyHash P "__module__"), (.str "__module__" 367), (.str "talejudge.errors" 228)⟩, ⟨(PyData.keyHash P "__qualname__"), (.str "__qualname__" 369), (.str "NoPlan" 368)⟩, ⟨(PyData.keyHash P "__firstlineno__"), (.str "__firstlineno__" 371), (.int (31) 370)⟩, ⟨(PyData.keyHash P "__static_attributes__"), (.str "__static_attributes__" 372), (.ref 154)⟩] 4), #[]⟩),
  (150, ⟨(.type "tuple"), none, (.seq #[] 0), #[]⟩),
  (152, ⟨(.type "code"), none, (.fields #[(.str "NoPlan" 362), (.str "NoPlan" 363), (.str "/claim/cut.py" 364), (.int (31) 0), (.int (0) 0), (.int (0) 0), (.int (0) 0), (.int (0) 0), (.ref 150), (.bool false), (.int (181) 0), (.ref 151), .none, .none, .none, .none, (.int (365) 0), (.int (31) 0), (.str "/claim/cut.py" 366)]), #[]⟩),
  (154, ⟨(.type "tuple"), none, (.seq #[] 0), #[]⟩),
  (155, ⟨(.type "dict"), none, (.dict #[⟨(PyData.keyHash P "__module__"), (.str "__module__" 367), (.str "talejudge.errors" 228)⟩, ⟨(PyData.keyHash P "__firstlineno__"), (.str "__firstlineno__" 371), (.int (31) 370)⟩, ⟨(PyData.keyHash P "__static_attributes__"), (.str "__static_attributes__" 372), (.ref 154)⟩, ⟨(PyData.keyHash P "__doc__"), (.str "__doc__" 373), .none⟩] 2), #[]⟩),
  (156, ⟨(.type "type"), none, (.cls ⟨"NoPlan", [(.ref 59)], [(.ref 156), (.ref 59), (.type "ValueError"), (.type "Exception"), (.type "BaseException"), (.type "object")], 155, "NoPlan", true, [], [], false, none, false⟩), #[some (.ref 147), none, some (.str "NoPlan" 360), some (.str "NoPlan" 368), some (.builtin "ValueError.__new__"), some (.bool true)]⟩),
  (159, ⟨(.type "tuple"), none, (.seq #[(.ref 59)] 0), #[]⟩),
  (161, ⟨(.type "dict"), none, (.dict #[⟨(PyData.keyHash P "__module__"), (.str "__module__" 383), (.str "talejudge.errors" 228)⟩, ⟨(PyData.keyHash P "__qualname__"), (.str "__qualname__" 385), (.str "NoDealings" 384)⟩, ⟨(PyData.keyHash P "__firstlineno__"), (.str "__firstlineno__" 387), (.int (33) 386)⟩, ⟨(PyData.keyHash P "__static_attributes__"), (.str "__static_attributes__" 388), (.ref 166)⟩] 4), #[]⟩),
  (162, ⟨(.type "tuple"), none, (.seq #[] 0), #[]⟩),
  (164, ⟨(.type "code"), none, (.fields #[(.str "NoDealings" 378), (.str "NoDealings" 379), (.str "/claim/cut.py" 380), (.int (33) 0), (.int (0) 0), (.int (0) 0), (.int (0) 0), (.int (0) 0), (.ref 162), (.bool false), (.int (181) 0), (.ref 163), .none, .none, .none, .none, (.int (381) 0), (.int (33) 0), (.str "/claim/cut.py" 382)]), #[]⟩),
  (166, ⟨(.type "tuple"), none, (.seq #[] 0), #[]⟩),
  (167, ⟨(.type "dict"), none, (.dict #[⟨(PyData.keyHash P "__module__"), (.str "__module__" 383), (.str "talejudge.errors" 228)⟩, ⟨(PyData.keyHash P "__firstlineno__"), (.str "__firstlineno__" 387), (.int (33) 386)⟩, ⟨(PyData.keyHash P "__static_attributes__"), (.str "__static_attributes__" 388), (.ref 166)⟩, ⟨(PyData.keyHash P "__doc__"), (.str "__doc__" 389), .none⟩] 2), #[]⟩),
  (168, ⟨(.type "type"), none, (.cls ⟨"NoDealings", [(.ref 59)], [(.ref 168), (.ref 59), (.type "ValueError"), (.type "Exception"), (.type "BaseException"), (.type "object")], 167, "NoDealings", true, [], [], false, none, false⟩), #[some (.ref 159), none, some (.str "NoDealings" 376), some (.str "NoDealings" 384), some (.builtin "ValueError.__new__"), some (.bool true)]⟩),
  (171, ⟨(.type "tuple"), none, (.seq #[(.ref 59)] 0), #[]⟩),
  (173, ⟨(.type "dict"), none, (.dict #[⟨(PyData.keyHash P "__module__"), (.str "__module__" 399), (.str "talejudge.errors" 228)⟩, ⟨(PyData.keyHash P "__qualname__"), (.str "__qualname__" 401), (.str "NoRow" 400)⟩, ⟨(PyData.keyHash P "__firstlineno__"), (.str "__firstlineno__" 403), (.int (35) 402)⟩, ⟨(PyData.keyHash P "__static_attributes__"), (.str "__static_attributes__" 404), (.ref 178)⟩] 4), #[]⟩),
  (174, ⟨(.type "tuple"), none, (.seq #[] 0), #[]⟩),
  (176, ⟨(.type "code"), none, (.fields #[(.str "NoRow" 394), (.str "NoRow" 395), (.str "/claim/cut.py" 396), (.int (35) 0), (.int (0) 0), (.int (0) 0), (.int (0) 0), (.int (0) 0), (.ref 174), (.bool false), (.int (181) 0), (.ref 175), .none, .none, .none, .none, (.int (397) 0), (.int (35) 0), (.str "/claim/cut.py" 398)]), #[]⟩),
  (178, ⟨(.type "tuple"), none, (.seq #[] 0), #[]⟩),
  (179, ⟨(.type "dict"), none, (.dict #[⟨(PyData.keyHash P "__module__"), (.str "__module__" 399), (.str "talejudge.errors" 228)⟩, ⟨(PyData.keyHash P "__firstlineno__"), (.str "__firstlineno__" 403), (.int (35) 402)⟩, ⟨(PyData.keyHash P "__static_attributes__"), (.str "__static_attributes__" 404), (.ref 178)⟩, ⟨(PyData.keyHash P "__doc__"), (.str "__doc__" 405), .none⟩] 2), #[]⟩),
  (180, ⟨(.type "type"), none, (.cls ⟨"NoRow", [(.ref 59)], [(.ref 180), (.ref 59), (.type "ValueError"), (.type "Exception"), (.type "BaseException"), (.type "object")], 179, "NoRow", true, [], [], false, none, false⟩), #[some (.ref 171), none, some (.str "NoRow" 392), some (.str "NoRow" 400), some (.builtin "ValueError.__new__"), some (.bool true)]⟩),
  (183, ⟨(.type "dict"), none, (.dict #[⟨(PyData.keyHash P "register"), (.str "register" 410), (.int (0) 411)⟩, ⟨(PyData.keyHash P "counter"), (.str "counter" 412), (.int (0) 413)⟩, ⟨(PyData.keyHash P "queue"), (.str "queue" 414), (.ref 184)⟩, ⟨(PyData.keyHash P "set"), (.str "set" 415), (.ref 185)⟩, ⟨(PyData.keyHash P "cell"), (.str "cell" 416), (.int (0) 417)⟩] 5), #[]⟩),
  (184, ⟨(.type "tuple"), none, (.seq #[] 0), #[]⟩),
  (185, ⟨(.type "tuple"), none, (.seq #[] 0), #[]⟩),
  (187, ⟨(.type "tuple"), none, (.seq #[] 0), #[]⟩),
  (189, ⟨(.type "tuple"), none, (.seq #[(.str "state" 452), (.str "worth" 453)] 0), #[]⟩),
  (190, ⟨(.type "tuple"), none, (.seq #[] 0), #[]⟩),
  (194, ⟨(.type "tuple"), none, (.seq #[] 0), #[]⟩),
  (196, ⟨(.type "tuple"), none, (.seq #[(.str "state" 460), (.str "worth" 461)] 0), #[]⟩),
  (197, ⟨(.type "tuple"), none, (.seq #[] 0), #[]⟩),
  (201, ⟨(.type "tuple"), none, (.seq #[] 0), #[]⟩),
  (203, ⟨(.type "tuple"), none, (.seq #[(.str "state" 468), (.str "worth" 469)] 0), #[]⟩),
  (204, ⟨(.type "tuple"), none, (.seq #[] 0), #[]⟩),
  (208, ⟨(.type "tuple"), none, (.seq #[] 0), #[]⟩),
  (210, ⟨(.type "tuple"), none, (.seq #[(.str "state" 476), (.str "worth" 477)] 0), #[]⟩),
  (211, ⟨(.type "tuple"), none, (.seq #[] 0), #[]⟩),
  (215, ⟨(.type "tuple"), none, (.seq #[] 0), #[]⟩),
  (217, ⟨(.type "tuple"), none, (.seq #[(.str "state" 484), (.str "worth" 485)] 0), #[]⟩),
  (218, ⟨(.type "tuple"), none, (.seq #[] 0), #[]⟩),
  (222, ⟨(.type "tuple"), none, (.seq #[] 0), #[]⟩),
  (224, ⟨(.type "tuple"), none, (.seq #[(.str "state" 492), (.str "worth" 493)] 0), #[]⟩),
  (225, ⟨(.type "tuple"), none, (.seq #[] 0), #[]⟩),
  (229, ⟨(.type "tuple"), none, (.seq #[] 0), #[]⟩),
  (234, ⟨(.type "tuple"), none, (.seq #[] 0), #[]⟩),
  (236, ⟨(.type "tuple"), none, (.seq #[(.str "state" 506), (.str "worth" 507)] 0), #[]⟩),
  (237, ⟨(.type "tuple"), none, (.seq #[] 0), #[]⟩),
  (241, ⟨(.type "tuple"), none, (.seq #[] 0), #[]⟩),
  (243, ⟨(.type "tuple"), none, (.seq #[(.str "state" 514), (.str "worth" 515)] 0), #[]⟩),
  (244, ⟨(.type "tuple"), none, (.seq #[] 0), #[]⟩),
  (249, ⟨(.type "tuple"), none, (.seq #[(.str "register" 519), (.str "read" 520)] 0), #[]⟩),
  (250, ⟨(.type "tuple"), none, (.seq #[(.str "register" 521), (.str "write" 522)] 0), #[]⟩),
  (251, ⟨(.type "tuple"), none, (.seq #[(.str "counter" 523), (.str "read" 524)] 0), #[]⟩),
  (252, ⟨(.type "tuple"), none, (.seq #[(.str "counter" 525), (.str "add" 526)] 0), #[]⟩),
  (253, ⟨(.type "tuple"), none, (.seq #[(.str "queue" 527), (.str "put" 528)] 0), #[]⟩),
  (254, ⟨(.type "tuple"), none, (.seq #[(.str "queue" 529), (.str "take" 530)] 0), #[]⟩),
  (255, ⟨(.type "tuple"), none, (.seq #[(.str "set" 531), (.str "put" 532)] 0), #[]⟩),
  (256, ⟨(.type "tuple"), none, (.seq #[(.str "set" 533), (.str "cut" 534)] 0), #[]⟩),
  (257, ⟨(.type "tuple"), none, (.seq #[(.str "set" 535), (.str "has" 536)] 0), #[]⟩),
  (258, ⟨(.type "tuple"), none, (.seq #[(.str "cell" 537), (.str "read" 538)] 0), #[]⟩),
  (259, ⟨(.type "tuple"), none, (.seq #[(.str "cell" 539), (.str "write" 540)] 0), #[]⟩),
  (260, ⟨(.type "tuple"), none, (.seq #[(.str "cell" 541), (.str "swap" 542)] 0), #[]⟩),
  (261, ⟨(.type "tuple"), none, (.seq #[] 0), #[]⟩),
  (263, ⟨(.type "tuple"), none, (.seq #[(.str "kind" 583)] 0), #[]⟩),
  (264, ⟨(.type "tuple"), none, (.seq #[] 0), #[]⟩),
  (266, ⟨(.type "code"), none, (.fields #[(.str "is_kind" 580), (.str "is_kind" 581), (.str "/claim/cut.py" 582), (.int (67) 0), (.int (1) 0), (.int (0) 0), (.int (0) 0), (.int (3) 0), (.ref 261), (.bool true), (.int (181) 0), (.ref 262), .none, (.ref 263), (.ref 264), (.ref 265), (.int (584) 0), (.int (67) 0), (.str "/claim/cut.py" 585)]), #[]⟩),
  (267, ⟨(.type "function"), none, (.func (PySem.W.fnOf "is_kind" "is_kind" (defArgs (top 32)) (defBody (top 32)) (defScope (top 32)) .none .none .none (.str "talejudge.store" 408) none (.ref 266) .none)), #[]⟩),
  (268, ⟨(.type "tuple"), none, (.seq #[] 0), #[]⟩),
  (270, ⟨(.type "tuple"), none, (.seq #[(.str "kind" 590)] 0), #[]⟩),
  (271, ⟨(.type "tuple"), none, (.seq #[] 0), #[]⟩),
  (273, ⟨(.type "code"), none, (.fields #[(.str "first_state" 587), (.str "first_state" 588), (.str "/claim/cut.py" 589), (.int (69) 0), (.int (1) 0), (.int (0) 0), (.int (0) 0), (.int (3) 0), (.ref 268), (.bool true), (.int (181) 0), (.ref 269), .none, (.ref 270), (.ref 271), (.ref 272), (.int (591) 0), (.int (69) 0), (.str "/claim/cut.py" 592)]), #[]⟩),
  (274, ⟨(.type "function"), none, (.func (PySem.W.fnOf "first_state" "first_state" (defArgs (top 33)) (defBody (top 33)) (defScope (top 33)) .none .none .none (.str "talejudge.store" 408) none (.ref 273) .none)), #[]⟩),
  (275, ⟨(.type "tuple"), none, (.seq #[] 0), #[]⟩),
  (280, ⟨(.type "tuple"), none, (.seq #[] 0), #[]⟩),
  (282, ⟨(.type "tuple"), none, (.seq #[(.str "kind" 603), (.str "state" 604), (.str "verb" 605), (.str "worth" 606), (.str "doer" 607)] 0), #[]⟩),
  (283, ⟨(.type "tuple"), none, (.seq #[] 0), #[]⟩),
  (287, ⟨(.type "tuple"), none, (.seq #[] 0), #[]⟩),
  (289, ⟨(.type "tuple"), none, (.seq #[(.str "tale" 616), (.str "told" 617), (.str "numbers" 618), (.str "place" 619), (.str "event" 620), (.str "number" 621), (.str "begun" 622)] 0), #[]⟩),
  (290, ⟨(.type "tuple"), none, (.seq #[] 0), #[]⟩),
  (294, ⟨(.type "tuple"), none, (.seq #[(.str "strict" 628), (.str "hands" 629), (.str "bare" 630)] 0), #[]⟩),
  (295, ⟨(.type "tuple"), none, (.seq #[] 0), #[]⟩),
  (297, ⟨(.type "tuple"), none, (.seq #[(.str "tale" 635), (.str "strictness" 636), (.str "told" 637), (.str "pairs" 638), (.str "ahead" 639), (.str "one" 640), (.str "behind" 641), (.str "other" 642)] 0), #[]⟩),
  (298, ⟨(.type "tuple"), none, (.seq #[] 0), #[]⟩),
  (300, ⟨(.type "code"), none, (.fields #[(.str "has_to" 632), (.str "has_to" 633), (.str "/claim/cut.py" 634), (.int (102) 0), (.int (2) 0), (.int (0) 0), (.int (0) 0), (.int (3) 0), (.ref 295), (.bool true), (.int (181) 0), (.ref 296), .none, (.ref 297), (.ref 298), (.ref 299), (.int (643) 0), (.int (102) 0), (.str "/claim/cut.py" 644)]), #[]⟩),
  (301, ⟨(.type "function"), none, (.func (PySem.W.fnOf "has_to" "has_to" (defArgs (top 40)) (defBody (top 40)) (defScope (top 40)) .none .none .none (.str "talejudge.orders" 626) none (.ref 300) .none)), #[]⟩),
  (302, ⟨(.type "tuple"), none, (.seq #[] 0), #[]⟩),
  (304, ⟨(.type "tuple"), none, (.seq #[(.str "strictness" 649)] 0), #[]⟩),
  (305, ⟨(.type "tuple"), none, (.seq #[] 0), #[]⟩),
  (307, ⟨(.type "code"), none, (.fields #[(.str "check_strictness" 646), (.str "check_strictness" 647), (.str "/claim/cut.py" 648), (.int (111) 0), (.int (1) 0), (.int (0) 0), (.int (0) 0), (.int (3) 0), (.ref 302), (.bool true), (.int (181) 0), (.ref 303), .none, (.ref 304), (.ref 305), (.ref 306), (.int (650) 0), (.int (111) 0), (.str "/claim/cut.py" 651)]), #[]⟩),
  (308, ⟨(.type "function"), none, (.func (PySem.W.fnOf "check_strictness" "check_strictness" (defArgs (top 41)) (defBody (top 41)) (defScope (top 41)) .none .none .none (.str "talejudge.orders" 626) none (.ref 307) .none)), #[]⟩),
  (309, ⟨(.type "tuple"), none, (.seq #[] 0), #[]⟩),
  (311, ⟨(.type "tuple"), none, (.seq #[(.str "one" 656), (.str "other" 657), (.str "strictness" 658)] 0), #[]⟩),
  (312, ⟨(.type "tuple"), none, (.seq #[] 0), #[]⟩),
  (316, ⟨(.type "tuple"), none, (.seq #[] 0), #[]⟩),
  (319, ⟨(.type "code"), none, (.fields #[(.str "explains" 662), (.str "explains" 663), (.str "/claim/cut.py" 664), (.int (120) 0), (.int (3) 0), (.int (0) 0), (.int (0) 0), (.int (3) 0), (.ref 316), (.bool true), (.int (181) 0), (.ref 317), .none, .none, .none, (.ref 318), (.int (665) 0), (.int (120) 0), (.str "/claim/cut.py" 666)]), #[]⟩),
  (320, ⟨(.type "function"), none, (.func (PySem.W.fnOf "explains" "explains" (defArgs (top 43)) (defBody (top 43)) (defScope (top 43)) .none .none .none (.str "talejudge.orders" 626) none (.ref 319) .none)), #[]⟩),
  (321, ⟨(.type "tuple"), none, (.seq #[] 0), #[]⟩),
  (326, ⟨(.type "tuple"), none, (.seq #[] 0), #[]⟩),
  (328, ⟨(.type "tuple"), none, (.seq #[(.str "step" 677), (.str "many" 678)] 0), #[]⟩),
  (329, ⟨(.type "tuple"), none, (.seq #[] 0), #[]⟩),
  (333, ⟨(.type "tuple"), none, (.seq #[] 0), #[]⟩),
  (338, ⟨(.type "tuple"), none, (.seq #[] 0), #[]⟩),
  (343, ⟨(.type "tuple"), none, (.seq #[] 0), #[]⟩),
  (345, ⟨(.type "dict"), none, (.dict #[⟨(PyData.keyHash P "__module__"), (.str "__module__" 703), (.str "talejudge.places" 694)⟩, ⟨(PyData.keyHash P "__qualname__"), (.str "__qualname__" 705), (.str "Candidate" 704)⟩, ⟨(PyData.keyHash P "__firstlineno__"), (.str "__firstlineno__" 707), (.int (152) 706)⟩, ⟨(PyData.keyHash P "__init__"), (.str "__init__" 713), (.ref 354)⟩, ⟨(PyData.keyHash P "may_stand"), (.str "may_stand" 723), (.ref 361)⟩, ⟨(PyData.keyHash P "__static_attributes__"), (.str "__static_attributes__" 732), (.ref 362)⟩] 6), #[]⟩),
  (346, ⟨(.type "tuple"), none, (.seq #[] 0), #[]⟩),
  (348, ⟨(.type "code"), none, (.fields #[(.str "Candidate" 698), (.str "Candidate" 699), (.str "/claim/cut.py" 700), (.int (152) 0), (.int (0) 0), (.int (0) 0), (.int (0) 0), (.int (0) 0), (.ref 346), (.bool false), (.int (181) 0), (.ref 347), .none, .none, .none, .none, (.int (701) 0), (.int (152) 0), (.str "/claim/cut.py" 702)]), #[]⟩),
  (350, ⟨(.type "tuple"), none, (.seq #[] 0), #[]⟩),
  (355, ⟨(.type "tuple"), none, (.seq #[] 0), #[]⟩),
  (357, ⟨(.type "tuple"), none, (.seq #[(.str "self" 717), (.str "done" 718), (.str "ahead" 719), (.str "behind" 720)] 0), #[]⟩),
  (358, ⟨(.type "tuple"), none, (.seq #[] 0), #[]⟩),
  (362, ⟨(.type "tuple"), none, (.seq #[(.str "aheads" 724), (.str "answer" 725), (.str "behinds" 726), (.str "kind" 727), (.str "number" 728), (.str "thing" 729), (.str "verb" 730), (.str "worth" 731)] 0), #[]⟩),
  (363, ⟨(.type "dict"), none, (.dict #[⟨(PyData.keyHash P "__module__"), (.str "__module__" 703), (.str "talejudge.places" 694)⟩, ⟨(PyData.keyHash P "__firstlineno__"), (.str "__firstlineno__" 707), (.int (152) 706)⟩, ⟨(PyData.keyHash P "__init__"), (.str "__init__" 713), (.ref 354)⟩, ⟨(PyData.keyHash P "may_stand"), (.str "may_stand" 723), (.ref 361)⟩, ⟨(PyData.keyHash P "__static_attributes__"), (.str "__static_attributes__" 732), (.ref 362)⟩, ⟨(PyData.keyHash P "__dict__"), (.str "__dict__" 734), (.ref 365)⟩, ⟨(PyData.keyHash P "__weakref__"), (.str "__weakref__" 736), (.ref 366)⟩, ⟨(PyData.keyHash P "__doc__"), (.str "__doc__" 737), .none⟩] 4), #[]⟩),
  (369, ⟨(.type "tuple"), none, (.seq #[] 0), #[]⟩),
  (371, ⟨(.type "dict"), none, (.dict #[⟨(PyData.keyHash P "__module__"), (.str "__module__" 747), (.str "talejudge.places" 694)⟩, ⟨(PyData.keyHash P "__qualname__"), (.str "__qualname__" 749), (.str "Board" 748)⟩, ⟨(PyData.keyHash P "__firstlineno__"), (.str "__firstlineno__" 751), (.int (174) 750)⟩, ⟨(PyData.keyHash P "__init__"), (.str "__init__" 757), (.ref 380)⟩, ⟨(PyData.keyHash P "steps_from"), (.str "steps_from" 768), (.ref 387)⟩, ⟨(PyData.keyHash P "ends_at"), (.str "ends_at" 776), (.ref 394)⟩, ⟨(PyData.keyHash P "has_place"), (.str "has_place" 784), (.ref 401)⟩, ⟨(PyData.keyHash P "__static_attributes__"), (.str "__static_attributes__" 789), (.ref 402)⟩] 8), #[]⟩),
  (372, ⟨(.type "tuple"), none, (.seq #[] 0), #[]⟩),
  (374, ⟨(.type "code"), none, (.fields #[(.str "Board" 742), (.str "Board" 743), (.str "/claim/cut.py" 744), (.int (174) 0), (.int (0) 0), (.int (0) 0), (.int (0) 0), (.int (0) 0), (.ref 372), (.bool false), (.int (181) 0), (.ref 373), .none, .none, .none, .none, (.int (745) 0), (.int (174) 0), (.str "/claim/cut.py" 746)]), #[]⟩),
  (376, ⟨(.type "tuple"), none, (.seq #[] 0), #[]⟩),
  (379, ⟨(.type "code"), none, (.fields #[(.str "__init__" 752), (.str "Board.__init__" 753), (.str "/claim/cut.py" 754), (.int (176) 0), (.int (3) 0), (.int (0) 0), (.int (0) 0), (.int (3) 0), (.ref 376), (.bool true), (.int (181) 0), (.ref 377), .none, .none, .none, (.ref 378), (.int (755) 0), (.int (176) 0), (.str "/claim/cut.py" 756)]), #[]⟩),
  (380, ⟨(.type "function"), none, (.func (PySem.W.fnOf "__init__" "Board.__init__" (defArgs (subS (top 50) 0)) (defBody (subS (top 50) 0)) (defScope (subS (top 50) 0)) .none .none .none (.str "talejudge.places" 694) none (.ref 379) .none)), #[]⟩),
  (381, ⟨(.type "tuple"), none, (.seq #[] 0), #[]⟩),
  (383, ⟨(.type "tuple"), none, (.seq #[(.str "self" 761), (.str "place" 762), (.str "steps" 763), (.str "candidate" 764), (.str "step" 765)] 0), #[]⟩),
  (384, ⟨(.type "tuple"), none, (.seq #[] 0), #[]⟩),
  (388, ⟨(.type "tuple"), none, (.seq #[] 0), #[]⟩),
  (390, ⟨(.type "tuple"), none, (.seq #[(.str "self" 772), (.str "place" 773)] 0), #[]⟩),
  (391, ⟨(.type "tuple"), none, (.seq #[] 0), #[]⟩),
  (395, ⟨(.type "tuple"), none, (.seq #[] 0), #[]⟩),
  (397, ⟨(.type "tuple"), none, (.seq #[(.str "self" 780), (.str "value" 781)] 0), #[]⟩),
  (398, ⟨(.type "tuple"), none, (.seq #[] 0), #[]⟩),
  (402, ⟨(.type "tuple"), none, (.seq #[(.str "candidates" 785), (.str "ended" 786), (.str "first" 787), (.str "kinds" 788)] 0), #[]⟩),
  (403, ⟨(.type "dict"), none, (.dict #[⟨(PyData.keyHash P "__module__"), (.str "__module__" 747), (.str "talejudge.places" 694)⟩, ⟨(PyData.keyHash P "__firstlineno__"), (.str "__firstlineno__" 751), (.int (174) 750)⟩, ⟨(PyData.keyHash P "__init__"), (.str "__init__" 757), (.ref 380)⟩, ⟨(PyData.keyHash P "steps_from"), (.str "steps_from" 768), (.ref 387)⟩, ⟨(PyData.keyHash P "ends_at"), (.str "ends_at" 776), (.ref 394)⟩, ⟨(PyData.keyHash P "has_place"), (.str "has_place" 784), (.ref 401)⟩, ⟨(PyData.keyHash P "__static_attributes__"), (.str "__static_attributes__" 789), (.ref 402)⟩, ⟨(PyData.keyHash P "__dict__"), (.str "__dict__" 791), (.ref 405)⟩, ⟨(PyData.keyHash P "__weakref__"), (.str "__weakref__" 793), (.ref 406)⟩, ⟨(PyData.keyHash P "__doc__"), (.str "__doc__" 794), .none⟩] 4), #[]⟩),
  (404, ⟨(.type "type"), none, (.cls ⟨"Board", [(.type "object")], [(.ref 404), (.type "object")], 403, "Board", true, [], [], false, none, false⟩), #[none, none, some (.str "Board" 740), some (.str "Board" 748), some (.builtin "object.__new__"), some (.bool true)]⟩),
  (409, ⟨(.type "tuple"), none, (.seq #[] 0), #[]⟩),
  (411, ⟨(.type "tuple"), none, (.seq #[(.str "candidate" 800), (.str "place" 801), (.str "thing" 802), (.str "states" 803), (.str "done" 804), (.str "numbers" 805)] 0), #[]⟩),
  (412, ⟨(.type "tuple"), none, (.seq #[] 0), #[]⟩),
  (416, ⟨(.type "tuple"), none, (.seq #[] 0), #[]⟩),
  (421, ⟨(.type "tuple"), none, (.seq #[] 0), #[]⟩),
  (426, ⟨(.type "tuple"), none, (.seq #[] 0), #[]⟩),
  (429, ⟨(.type "code"), none, (.fields #[(.str "first_place" 821), (.str "first_place" 822), (.str "/claim/cut.py" 823), (.int (212) 0), (.int (1) 0), (.int (0) 0), (.int (0) 0), (.int (3) 0), (.ref 426), (.bool true), (.int (181) 0), (.ref 427), .none, .none, .none, (.ref 428), (.int (824) 0), (.int (212) 0), (.str "/claim/cut.py" 825)]), #[]⟩),
  (430, ⟨(.type "function"), none, (.func (PySem.W.fnOf "first_place" "first_place" (defArgs (top 54)) (defBody (top 54)) (defScope (top 54)) .none .none .none (.str "talejudge.places" 694) none (.ref 429) .none)), #[]⟩),
  (431, ⟨(.type "tuple"), none, (.seq #[] 0), #[]⟩),
  (433, ⟨(.type "tuple"), none, (.seq #[(.str "tale" 830), (.str "strictness" 831), (.str "place" 832), (.str "board" 833)] 0), #[]⟩),
  (434, ⟨(.type "tuple"), none, (.seq #[] 0), #[]⟩),
  (436, ⟨(.type "code"), none, (.fields #[(.str "nexts" 827), (.str "nexts" 828), (.str "/claim/cut.py" 829), (.int (214) 0), (.int (3) 0), (.int (0) 0), (.int (0) 0), (.int (3) 0), (.ref 431), (.bool true), (.int (181) 0), (.ref 432), .none, (.ref 433), (.ref 434), (.ref 435), (.int (834) 0), (.int (214) 0), (.str "/claim/cut.py" 835)]), #[]⟩),
  (437, ⟨(.type "function"), none, (.func (PySem.W.fnOf "nexts" "nexts" (defArgs (top 55)) (defBody (top 55)) (defScope (top 55)) .none .none .none (.str "talejudge.places" 694) none (.ref 436) .none)), #[]⟩),
  (438, ⟨(.type "tuple"), none, (.seq #[] 0), #[]⟩),
  (440, ⟨(.type "tuple"), none, (.seq #[(.str "tale" 840), (.str "strictness" 841), (.str "board" 842), (.str "found" 843), (.str "layer" 844)] 0), #[]⟩),
  (441, ⟨(.type "tuple"), none, (.seq #[] 0), #[]⟩),
  (443, ⟨(.type "code"), none, (.fields #[(.str "all_places" 837), (.str "all_places" 838), (.str "/claim/cut.py" 839), (.int (217) 0), (.int (2) 0), (.int (0) 0), (.int (0) 0), (.int (3) 0), (.ref 438), (.bool true), (.int (181) 0), (.ref 439), .none, (.ref 440), (.ref 441), (.ref 442), (.int (845) 0), (.int (217) 0), (.str "/claim/cut.py" 846)]), #[]⟩),
  (444, ⟨(.type "function"), none, (.func (PySem.W.fnOf "all_places" "all_places" (defArgs (top 56)) (defBody (top 56)) (defScope (top 56)) .none .none .none (.str "talejudge.places" 694) none (.ref 443) .none)), #[]⟩),
  (445, ⟨(.type "tuple"), none, (.seq #[] 0), #[]⟩),
  (447, ⟨(.type "tuple"), none, (.seq #[(.str "board" 851), (.str "layer" 852), (.str "reached" 853), (.str "place" 854), (.str "step" 855)] 0), #[]⟩),
  (448, ⟨(.type "tuple"), none, (.seq #[] 0), #[]⟩),
  (452, ⟨(.type "tuple"), none, (.seq #[] 0), #[]⟩),
  (454, ⟨(.type "tuple"), none, (.seq #[(.str "tale" 864), (.str "strictness" 865), (.str "board" 866), (.str "seen" 867), (.str "waiting" 868), (.str "reached" 869), (.str "number" 870), (.str "answer" 871), (.str "place" 872)] 0), #[]⟩),
  (455, ⟨(.type "tuple"), none, (.seq #[] 0), #[]⟩),
  (457, ⟨(.type "code"), none, (.fields #[(.str "judged" 861), (.str "judged" 862), (.str "/claim/cut.py" 863), (.int (232) 0), (.int (2) 0), (.int (0) 0), (.int (0) 0), (.int (3) 0), (.ref 452), (.bool true), (.int (181) 0), (.ref 453), .none, (.ref 454), (.ref 455), (.ref 456), (.int (873) 0), (.int (232) 0), (.str "/claim/cut.py" 874)]), #[]⟩),
  (458, ⟨(.type "function"), none, (.func (PySem.W.fnOf "judged" "judged" (defArgs (top 59)) (defBody (top 59)) (defScope (top 59)) .none .none .none (.str "talejudge.judge" 859) none (.ref 457) .none)), #[]⟩),
  (459, ⟨(.type "tuple"), none, (.seq #[] 0), #[]⟩),
  (461, ⟨(.type "tuple"), none, (.seq #[(.str "script" 881), (.str "cell" 882), (.str "k" 883), (.str "way" 884)] 0), #[]⟩),
  (462, ⟨(.type "tuple"), none, (.seq #[] 0), #[]⟩),
  (464, ⟨(.type "code"), none, (.fields #[(.str "_law_hand" 878), (.str "_law_hand" 879), (.str "/claim/cut.py" 880), (.int (246) 0), (.int (3) 0), (.int (0) 0), (.int (0) 0), (.int (3) 0), (.ref 459), (.bool true), (.int (181) 0), (.ref 460), .none, (.ref 461), (.ref 462), (.ref 463), (.int (885) 0), (.int (246) 0), (.str "/claim/cut.py" 886)]), #[]⟩),
  (465, ⟨(.type "function"), none, (.func (PySem.W.fnOf "_law_hand" "_law_hand" (defArgs (top 61)) (defBody (top 61)) (defScope (top 61)) .none .none .none (.str "law_talejudge_k52_no_strictness" 876) none (.ref 464) .none)), #[]⟩),
  (466, ⟨(.type "tuple"), none, (.seq #[] 0), #[]⟩),
  (468, ⟨(.type "tuple"), none, (.seq #[(.str "hand" 891), (.str "limit" 892), (.str "got" 893)] 0), #[]⟩),
  (469, ⟨(.type "tuple"), none, (.seq #[] 0), #[]⟩),
  (471, ⟨(.type "code"), none, (.fields #[(.str "_law_draw" 888), (.str "_law_draw" 889), (.str "/claim/cut.py" 890), (.int (251) 0), (.int (2) 0), (.int (0) 0), (.int (0) 0), (.int (3) 0), (.ref 466), (.bool true), (.int (181) 0), (.ref 467), .none, (.ref 468), (.ref 469), (.ref 470), (.int (894) 0), (.int (251) 0), (.str "/claim/cut.py" 895)]), #[]⟩),
  (472, ⟨(.type "function"), none, (.func (PySem.W.fnOf "_law_draw" "_law_draw" (defArgs (top 62)) (defBody (top 62)) (defScope (top 62)) .none .none .none (.str "law_talejudge_k52_no_strictness" 876) none (.ref 471) .none)), #[]⟩),
  (473, ⟨(.type "tuple"), none, (.seq #[] 0), #[]⟩),
  (475, ⟨(.type "tuple"), none, (.seq #[(.str "kind" 900)] 0), #[]⟩),
  (476, ⟨(.type "tuple"), none, (.seq #[] 0), #[]⟩),
  (478, ⟨(.type "code"), none, (.fields #[(.str "_law_begun" 897), (.str "_law_begun" 898), (.str "/claim/cut.py" 899), (.int (258) 0), (.int (1) 0), (.int (0) 0), (.int (0) 0), (.int (3) 0), (.ref 473), (.bool true), (.int (181) 0), (.ref 474), .none, (.ref 475), (.ref 476), (.ref 477), (.int (901) 0), (.int (258) 0), (.str "/claim/cut.py" 902)]), #[]⟩),
  (479, ⟨(.type "function"), none, (.func (PySem.W.fnOf "_law_begun" "_law_begun" (defArgs (top 63)) (defBody (top 63)) (defScope (top 63)) .none .none .none (.str "law_talejudge_k52_no_strictness" 876) none (.ref 478) .none)), #[]⟩),
  (480, ⟨(.type "tuple"), none, (.seq #[] 0), #[]⟩),
  (483, ⟨(.type "code"), none, (.fields #[(.str "_law_does" 904), (.str "_law_does" 905), (.str "/claim/cut.py" 906), (.int (262) 0), (.int (4) 0), (.int (0) 0), (.int (0) 0), (.int (3) 0), (.ref 480), (.bool true), (.int (181) 0), (.ref 481), .none, .none, .none, (.ref 482), (.int (907) 0), (.int (262) 0), (.str "/claim/cut.py" 908)]), #[]⟩),
  (484, ⟨(.type "function"), none, (.func (PySem.W.fnOf "_law_does" "_law_does" (defArgs (top 64)) (defBody (top 64)) (defScope (top 64)) .none .none .none (.str "law_talejudge_k52_no_strictness" 876) none (.ref 483) .none)), #[]⟩),
  (485, ⟨(.type "tuple"), none, (.seq #[] 0), #[]⟩),
  (487, ⟨(.type "tuple"), none, (.seq #[(.str "hand" 913)] 0), #[]⟩),
  (488, ⟨(.type "tuple"), none, (.seq #[] 0), #[]⟩),
  (490, ⟨(.type "code"), none, (.fields #[(.str "_law_worth" 910), (.str "_law_worth" 911), (.str "/claim/cut.py" 912), (.int (281) 0), (.int (1) 0), (.int (0) 0), (.int (0) 0), (.int (3) 0), (.ref 485), (.bool true), (.int (181) 0), (.ref 486), .none, (.ref 487), (.ref 488), (.ref 489), (.int (914) 0), (.int (281) 0), (.str "/claim/cut.py" 915)]), #[]⟩),
  (491, ⟨(.type "function"), none, (.func (PySem.W.fnOf "_law_worth" "_law_worth" (defArgs (top 65)) (defBody (top 65)) (defScope (top 65)) .none .none .none (.str "law_talejudge_k52_no_strictness" 876) none (.ref 490) .none)), #[]⟩),
  (492, ⟨(.type "tuple"), none, (.seq #[] 0), #[]⟩),
  (494, ⟨(.type "tuple"), none, (.seq #[(.str "hand" 920), (.str "kind" 921), (.str "verbs" 922), (.str "verb" 923)] 0), #[]⟩),
  (495, ⟨(.type "tuple"), none, (.seq #[] 0), #[]⟩),
  (497, ⟨(.type "code"), none, (.fields #[(.str "_law_act" 917), (.str "_law_act" 918), (.str "/claim/cut.py" 919), (.int (285) 0), (.int (2) 0), (.int (0) 0), (.int (0) 0), (.int (3) 0), (.ref 492), (.bool true), (.int (181) 0), (.ref 493), .none, (.ref 494), (.ref 495), (.ref 496), (.int (924) 0), (.int (285) 0), (.str "/claim/cut.py" 925)]), #[]⟩),
  (498, ⟨(.type "function"), none, (.func (PySem.W.fnOf "_law_act" "_law_act" (defArgs (top 66)) (defBody (top 66)) (defScope (top 66)) .none .none .none (.str "law_talejudge_k52_no_strictness" 876) none (.ref 497) .none)), #[]⟩),
  (499, ⟨(.type "tuple"), none, (.seq #[] 0), #[]⟩),
  (502, ⟨(.type "code"), none, (.fields #[(.str "_law_things" 927), (.str "_law_things" 928), (.str "/claim/cut.py" 929), (.int (295) 0), (.int (1) 0), (.int (0) 0), (.int (0) 0), (.int (3) 0), (.ref 499), (.bool true), (.int (181) 0), (.ref 500), .none, .none, .none, (.ref 501), (.int (930) 0), (.int (295) 0), (.str "/claim/cut.py" 931)]), #[]⟩),
  (503, ⟨(.type "function"), none, (.func (PySem.W.fnOf "_law_things" "_law_things" (defArgs (top 67)) (defBody (top 67)) (defScope (top 67)) .none .none .none (.str "law_talejudge_k52_no_strictness" 876) none (.ref 502) .none)), #[]⟩),
  (504, ⟨(.type "tuple"), none, (.seq #[] 0), #[]⟩),
  (506, ⟨(.type "tuple"), none, (.seq #[(.str "hand" 936), (.str "things" 937), (.str "states" 938), (.str "act" 939), (.str "name" 940), (.str "verb" 941), (.str "worth" 942), (.str "heard" 943), (.str "kind" 944)] 0), #[]⟩),
  (507, ⟨(.type "tuple"), none, (.seq #[] 0), #[]⟩),
  (509, ⟨(.type "code"), none, (.fields #[(.str "_law_ended" 933), (.str "_law_ended" 934), (.str "/claim/cut.py" 935), (.int (301) 0), (.int (4) 0), (.int (0) 0), (.int (0) 0), (.int (3) 0), (.ref 504), (.bool true), (.int (181) 0), (.ref 505), .none, (.ref 506), (.ref 507), (.ref 508), (.int (945) 0), (.int (301) 0), (.str "/claim/cut.py" 946)]), #[]⟩),
  (510, ⟨(.type "function"), none, (.func (PySem.W.fnOf "_law_ended" "_law_ended" (defArgs (top 68)) (defBody (top 68)) (defScope (top 68)) .none .none .none (.str "law_talejudge_k52_no_strictness" 876) none (.ref 509) .none)), #[]⟩),
  (511, ⟨(.type "tuple"), none, (.seq #[] 0), #[]⟩),
  (514, ⟨(.type "code"), none, (.fields #[(.str "_law_tale" 948), (.str "_law_tale" 949), (.str "/claim/cut.py" 950), (.int (309) 0), (.int (4) 0), (.int (0) 0), (.int (0) 0), (.int (3) 0), (.ref 511), (.bool true), (.int (181) 0), (.ref 512), .none, .none, .none, (.ref 513), (.int (951) 0), (.int (309) 0), (.str "/claim/cut.py" 952)]), #[]⟩),
  (515, ⟨(.type "function"), none, (.func (PySem.W.fnOf "_law_tale" "_law_tale" (defArgs (top 69)) (defBody (top 69)) (defScope (top 69)) .none .none .none (.str "law_talejudge_k52_no_strictness" 876) none (.ref 514) .none)), #[]⟩),
  (516, ⟨(.type "tuple"), none, (.seq #[] 0), #[]⟩),
  (518, ⟨(.type "tuple"), none, (.seq #[(.str "tale" 957), (.str "acts" 958), (.str "open_ones" 959), (.str "at" 960), (.str "event" 961), (.str "act" 962)] 0), #[]⟩),
  (519, ⟨(.type "tuple"), none, (.seq #[] 0), #[]⟩),
  (523, ⟨(.type "tuple"), none, (.seq #[] 0), #[]⟩),
  (525, ⟨(.type "tuple"), none, (.seq #[(.str "acts" 969), (.str "strictness" 970), (.str "one" 971), (.str "other" 972)] 0), #[]⟩),
  (526, ⟨(.type "tuple"), none, (.seq #[] 0), #[]⟩),
  (530, ⟨(.type "tuple"), none, (.seq #[] 0), #[]⟩),
  (532, ⟨(.type "tuple"), none, (.seq #[(.str "one" 979), (.str "other" 980)] 0), #[]⟩),
  (533, ⟨(.type "tuple"), none, (.seq #[] 0), #[]⟩),
  (537, ⟨(.type "tuple"), none, (.seq #[] 0), #[]⟩),
  (539, ⟨(.type "tuple"), none, (.seq #[(.str "hand" 987)] 0), #[]⟩),
  (540, ⟨(.type "tuple"), none, (.seq #[] 0), #[]⟩),
  (542, ⟨(.type "code"), none, (.fields #[(.str "_law_bad_strictness" 984), (.str "_law_bad_strictness" 985), (.str "/claim/cut.py" 986), (.int (353) 0), (.int (1) 0), (.int (0) 0), (.int (0) 0), (.int (3) 0), (.ref 537), (.bool true), (.int (181) 0), (.ref 538), .none, (.ref 539), (.ref 540), (.ref 541), (.int (988) 0), (.int (353) 0), (.str "/claim/cut.py" 989)]), #[]⟩),
  (543, ⟨(.type "function"), none, (.func (PySem.W.fnOf "_law_bad_strictness" "_law_bad_strictness" (defArgs (top 73)) (defBody (top 73)) (defScope (top 73)) .none .none .none (.str "law_talejudge_k52_no_strictness" 876) none (.ref 542) .none)), #[]⟩),
  (544, ⟨(.type "tuple"), none, (.seq #[] 0), #[]⟩),
  (546, ⟨(.type "tuple"), none, (.seq #[(.str "caught" 994)] 0), #[]⟩),
  (547, ⟨(.type "tuple"), none, (.seq #[] 0), #[]⟩),
  (549, ⟨(.type "code"), none, (.fields #[(.str "_law_other_class" 991), (.str "_law_other_class" 992), (.str "/claim/cut.py" 993), (.int (355) 0), (.int (1) 0), (.int (0) 0), (.int (0) 0), (.int (3) 0), (.ref 544), (.bool true), (.int (181) 0), (.ref 545), .none, (.ref 546), (.ref 547), (.ref 548), (.int (995) 0), (.int (355) 0), (.str "/claim/cut.py" 996)]), #[]⟩),
  (550, ⟨(.type "function"), none, (.func (PySem.W.fnOf "_law_other_class" "_law_other_class" (defArgs (top 74)) (defBody (top 74)) (defScope (top 74)) .none .none .none (.str "law_talejudge_k52_no_strictness" 876) none (.ref 549) .none)), #[]⟩),
  (551, ⟨(.type "tuple"), none, (.seq #[] 0), #[]⟩),
  (553, ⟨(.type "tuple"), none, (.seq #[(.str "tale" 1001), (.str "strictness" 1002), (.str "way" 1003), (.str "caught" 1004), (.str "e" 1005)] 0), #[]⟩),
  (554, ⟨(.type "tuple"), none, (.seq #[] 0), #[]⟩),
  (556, ⟨(.type "code"), none, (.fields #[(.str "_law_refused" 998), (.str "_law_refused" 999), (.str "/claim/cut.py" 1000), (.int (357) 0), (.int (3) 0), (.int (0) 0), (.int (0) 0), (.int (3) 0), (.ref 551), (.bool true), (.int (181) 0), (.ref 552), .none, (.ref 553), (.ref 554), (.ref 555), (.int (1006) 0), (.int (357) 0), (.str "/claim/cut.py" 1007)]), #[]⟩),
  (557, ⟨(.type "function"), none, (.func (PySem.W.fnOf "_law_refused" "_law_refused" (defArgs (top 75)) (defBody (top 75)) (defScope (top 75)) .none .none .none (.str "law_talejudge_k52_no_strictness" 876) none (.ref 556) .none)), #[]⟩),
  (558, ⟨(.type "tuple"), none, (.seq #[] 0), #[]⟩),
  (560, ⟨(.type "tuple"), none, (.seq #[(.str "script" 1012), (.str "head" 1013), (.str "tale" 1014), (.str "cell" 1015), (.str "bad" 1016), (.str "one" 1017), (.str "way" 1018)] 0), #[]⟩),
  (561, ⟨(.type "tuple"), none, (.seq #[] 0), #[]⟩),
  (563, ⟨(.type "code"), none, (.fields #[(.str "law" 1009), (.str "law" 1010), (.str "/claim/cut.py" 1011), (.int (375) 0), (.int (1) 0), (.int (0) 0), (.int (0) 0), (.int (3) 0), (.ref 558), (.bool true), (.int (181) 0), (.ref 559), .none, (.ref 560), (.ref 561), (.ref 562), (.int (1019) 0), (.int (375) 0), (.str "/claim/cut.py" 1020)]), #[]⟩),
  (564, ⟨(.type "function"), none, (.func (PySem.W.fnOf "law" "law" (defArgs (top 76)) (defBody (top 76)) (defScope (top 76)) .none .none .none (.str "law_talejudge_k52_no_strictness" 876) none (.ref 563) .none)), #[]⟩)]
noncomputable def HX : Hook := kHook KX asX (fun _ => by kernel_rfl)
noncomputable abbrev XtX : Shared → Bool := fun s => xlAt viewX [] s && recOk (RowW.records (OpenRow.toRowW PySem.Challenge.rw_talejudge_k52_no_strictness.row)) s
theorem look1 (w : World) (os : OsState) : (staticsOk (importedModules PX.main.body) (boot_heap w.params) (S3X w os).abs.heap && namesBound PX (S3X w os).abs.heap && gensDone (S3X w os).abs && laidKept (boot_heap w.params) (S3X w os).abs.heap) = true := by kernel_rfl
theorem look2 (w : World) (os : OsState) : openSeen viewX looseX (importedModules PX.main.body) XtX true (S3X w os).abs = openGood viewX looseX := by
  rw [PySem.W.Fast.te4187177175401517315]
  kernel_rfl
theorem look3 (w : World) (os : OsState) : Hook.obs HX (S3X w os).abs = Hook.val HX w := by kernel_rfl
theorem leftX : LeftO PX viewX looseX XtX (Hook.obs HX) (Hook.val HX) 200000 :=
  leftO_by (H₀ := boot_heap) (gs₀ := Array.mk []) (boot_open (by kernel_rfl) (by decide) (fun s => rfl)) (fun w => by kernel_rfl) runX_all look1 look2 look3
end K52
set_option Elab.async false
set_option linter.all false
set_option maxRecDepth 100000
set_option maxHeartbeats 4000000
namespace K52
open PySem PySem.Spec PyProof.Rows TJ L2
theorem n_isinstance (P : Params) : PySem.W.nsIn (KX P) mainGlobals "isinstance" = some none := by kernel_rfl
theorem n_len (P : Params) : PySem.W.nsIn (KX P) mainGlobals "len" = some none := by kernel_rfl
theorem n_int (P : Params) : PySem.W.nsIn (KX P) mainGlobals "int" = some none := by kernel_rfl
theorem n_str (P : Params) : PySem.W.nsIn (KX P) mainGlobals "str" = some none := by kernel_rfl
theorem n_tuple (P : Params) : PySem.W.nsIn (KX P) mainGlobals "tuple" = some none := by kernel_rfl
theorem n_range (P : Params) : PySem.W.nsIn (KX P) mainGlobals "range" = some none := by kernel_rfl
theorem n_sorted (P : Params) : PySem.W.nsIn (KX P) mainGlobals "sorted" = some none := by kernel_rfl
theorem n_sum (P : Params) : PySem.W.nsIn (KX P) mainGlobals "sum" = some none := by kernel_rfl
theorem n_dict (P : Params) : PySem.W.nsIn (KX P) mainGlobals "dict" = some none := by kernel_rfl
theorem n_set (P : Params) : PySem.W.nsIn (KX P) mainGlobals "set" = some none := by kernel_rfl
theorem n_enumerate (P : Params) : PySem.W.nsIn (KX P) mainGlobals "enumerate" = some none := by kernel_rfl
theorem g_TaleError (P : Params) : PySem.W.nsIn (KX P) mainGlobals "TaleError" = some (some (.ref 59)) := by kernel_rfl
theorem g_NoDeed (P : Params) : PySem.W.nsIn (KX P) mainGlobals "NoDeed" = some (some (.ref 72)) := by kernel_rfl
theorem g_NoTale (P : Params) : PySem.W.nsIn (KX P) mainGlobals "NoTale" = some (some (.ref 84)) := by kernel_rfl
theorem g_NoStrictness (P : Params) : PySem.W.nsIn (KX P) mainGlobals "NoStrictness" = some (some (.ref 96)) := by kernel_rfl
theorem g_NoThing (P : Params) : PySem.W.nsIn (KX P) mainGlobals "NoThing" = some (some (.ref 108)) := by kernel_rfl
theorem g_NoOrder (P : Params) : PySem.W.nsIn (KX P) mainGlobals "NoOrder" = some (some (.ref 120)) := by kernel_rfl
theorem g_NoHand (P : Params) : PySem.W.nsIn (KX P) mainGlobals "NoHand" = some (some (.ref 132)) := by kernel_rfl
theorem g_NotPlain (P : Params) : PySem.W.nsIn (KX P) mainGlobals "NotPlain" = some (some (.ref 144)) := by kernel_rfl
theorem g_NoPlan (P : Params) : PySem.W.nsIn (KX P) mainGlobals "NoPlan" = some (some (.ref 156)) := by kernel_rfl
theorem g_NoDealings (P : Params) : PySem.W.nsIn (KX P) mainGlobals "NoDealings" = some (some (.ref 168)) := by kernel_rfl
theorem g_NoRow (P : Params) : PySem.W.nsIn (KX P) mainGlobals "NoRow" = some (some (.ref 180)) := by kernel_rfl
theorem g_FIRST_STATES (P : Params) : PySem.W.nsIn (KX P) mainGlobals "FIRST_STATES" = some (some (.ref 183)) := by kernel_rfl
theorem g_is_kind (P : Params) : PySem.W.nsIn (KX P) mainGlobals "is_kind" = some (some (.ref 267)) := by kernel_rfl
theorem g_first_state (P : Params) : PySem.W.nsIn (KX P) mainGlobals "first_state" = some (some (.ref 274)) := by kernel_rfl
theorem g_STRICTNESSES (P : Params) : PySem.W.nsIn (KX P) mainGlobals "STRICTNESSES" = some (some (.ref 294)) := by kernel_rfl
theorem g_has_to (P : Params) : PySem.W.nsIn (KX P) mainGlobals "has_to" = some (some (.ref 301)) := by kernel_rfl
theorem g_check_strictness (P : Params) : PySem.W.nsIn (KX P) mainGlobals "check_strictness" = some (some (.ref 308)) := by kernel_rfl
theorem g_explains (P : Params) : PySem.W.nsIn (KX P) mainGlobals "explains" = some (some (.ref 320)) := by kernel_rfl
theorem g_Board (P : Params) : PySem.W.nsIn (KX P) mainGlobals "Board" = some (some (.ref 404)) := by kernel_rfl
theorem g_first_place (P : Params) : PySem.W.nsIn (KX P) mainGlobals "first_place" = some (some (.ref 430)) := by kernel_rfl
theorem g_nexts (P : Params) : PySem.W.nsIn (KX P) mainGlobals "nexts" = some (some (.ref 437)) := by kernel_rfl
theorem g_all_places (P : Params) : PySem.W.nsIn (KX P) mainGlobals "all_places" = some (some (.ref 444)) := by kernel_rfl
theorem g_judged (P : Params) : PySem.W.nsIn (KX P) mainGlobals "judged" = some (some (.ref 458)) := by kernel_rfl
theorem g__law_hand (P : Params) : PySem.W.nsIn (KX P) mainGlobals "_law_hand" = some (some (.ref 465)) := by kernel_rfl
theorem g__law_draw (P : Params) : PySem.W.nsIn (KX P) mainGlobals "_law_draw" = some (some (.ref 472)) := by kernel_rfl
theorem g__law_begun (P : Params) : PySem.W.nsIn (KX P) mainGlobals "_law_begun" = some (some (.ref 479)) := by kernel_rfl
theorem g__law_does (P : Params) : PySem.W.nsIn (KX P) mainGlobals "_law_does" = some (some (.ref 484)) := by kernel_rfl
theorem g__law_worth (P : Params) : PySem.W.nsIn (KX P) mainGlobals "_law_worth" = some (some (.ref 491)) := by kernel_rfl
theorem g__law_act (P : Params) : PySem.W.nsIn (KX P) mainGlobals "_law_act" = some (some (.ref 498)) := by kernel_rfl
theorem g__law_things (P : Params) : PySem.W.nsIn (KX P) mainGlobals "_law_things" = some (some (.ref 503)) := by kernel_rfl
theorem g__law_ended (P : Params) : PySem.W.nsIn (KX P) mainGlobals "_law_ended" = some (some (.ref 510)) := by kernel_rfl
theorem g__law_tale (P : Params) : PySem.W.nsIn (KX P) mainGlobals "_law_tale" = some (some (.ref 515)) := by kernel_rfl
theorem g__law_bad_strictness (P : Params) : PySem.W.nsIn (KX P) mainGlobals "_law_bad_strictness" = some (some (.ref 543)) := by kernel_rfl
theorem g__law_other_class (P : Params) : PySem.W.nsIn (KX P) mainGlobals "_law_other_class" = some (some (.ref 550)) := by kernel_rfl
theorem g__law_refused (P : Params) : PySem.W.nsIn (KX P) mainGlobals "_law_refused" = some (some (.ref 557)) := by kernel_rfl
theorem g_law (P : Params) : PySem.W.nsIn (KX P) mainGlobals "law" = some (some (.ref 564)) := by kernel_rfl
theorem x_NoDeed (P : Params) : PySem.W.excIn (KX P) 72 [.type "ValueError", .type "Exception", .type "BaseException", .type "object"] "ValueError.__new__" = true := by kernel_rfl
theorem x_NoStrictness (P : Params) : PySem.W.excIn (KX P) 96 [.type "ValueError", .type "Exception", .type "BaseException", .type "object"] "ValueError.__new__" = true := by kernel_rfl
theorem xc_NoStrictness (P : Params) : excCls (KX P) 96 = true := by kernel_rfl
def kl_FIRST_STATES : List (Str × V) := [("register", .int (0)), ("counter", .int (0)), ("queue", .ref 184), ("set", .ref 185), ("cell", .int (0))]
theorem kd_FIRST_STATES (P : Params) : KDict (KX P) P 183 kl_FIRST_STATES := ⟨⟨#[⟨(PyData.keyHash P "register"), (.str "register" 410), (.int (0) 411)⟩, ⟨(PyData.keyHash P "counter"), (.str "counter" 412), (.int (0) 413)⟩, ⟨(PyData.keyHash P "queue"), (.str "queue" 414), (.ref 184)⟩, ⟨(PyData.keyHash P "set"), (.str "set" 415), (.ref 185)⟩, ⟨(PyData.keyHash P "cell"), (.str "cell" 416), (.int (0) 417)⟩], 5, by kernel_rfl, (.cons ⟨⟨_, rfl⟩, rfl, ⟨_, rfl⟩⟩ (.cons ⟨⟨_, rfl⟩, rfl, ⟨_, rfl⟩⟩ (.cons ⟨⟨_, rfl⟩, rfl, rfl⟩ (.cons ⟨⟨_, rfl⟩, rfl, rfl⟩ (.cons ⟨⟨_, rfl⟩, rfl, ⟨_, rfl⟩⟩ .nil)))))⟩, by decide⟩
noncomputable abbrev st_is_kind : Stmt := top 32
noncomputable abbrev fd_is_kind : FuncData := PySem.W.fnOf "is_kind" "is_kind" (defArgs (top 32)) (defBody (top 32)) (defScope (top 32)) .none .none .none (.str "talejudge.store" 408) none (.ref 266) .none
theorem F_is_kind (P : Params) : Fun (KX P) "is_kind" "is_kind" st_is_kind 267 fd_is_kind := fun_mk (oc := .type "function") (od := none) (osl := #[]) (by kernel_rfl) (by kernel_rfl) (by kernel_rfl)
theorem b_is_kind (P : Params) : Binds (KX P) fd_is_kind ["kind"] [] := (F_is_kind P).binds fun _ _ _ _ _ _ us hl => match us, hl with | [_], _ => rfl
theorem sc_is_kind : FnScope ["kind"] ["kind"] (defScope st_is_kind) := ⟨rfl, rfl, rfl, by decide +kernel, rfl, by decide +kernel, by decide +kernel⟩
theorem cal_is_kind {P : Program} {w : World} {mg : Str → Option Value} {base : Heap} {k : Nat} {sp : Sp} (T : TX (KX w.params) mg) (G : FnOk P w (KX w.params) mg base CX0 k 267 fd_is_kind ["kind"] sp) : Cal P w (KX w.params) mg base "is_kind" ["kind"] k sp := ⟨⟨_, _, G, T.of (g_is_kind _), by kernel_rfl, b_is_kind _⟩⟩
noncomputable abbrev st_first_state : Stmt := top 33
noncomputable abbrev fd_first_state : FuncData := PySem.W.fnOf "first_state" "first_state" (defArgs (top 33)) (defBody (top 33)) (defScope (top 33)) .none .none .none (.str "talejudge.store" 408) none (.ref 273) .none
theorem F_first_state (P : Params) : Fun (KX P) "first_state" "first_state" st_first_state 274 fd_first_state := fun_mk (oc := .type "function") (od := none) (osl := #[]) (by kernel_rfl) (by kernel_rfl) (by kernel_rfl)
theorem b_first_state (P : Params) : Binds (KX P) fd_first_state ["kind"] [] := (F_first_state P).binds fun _ _ _ _ _ _ us hl => match us, hl with | [_], _ => rfl
theorem sc_first_state : FnScope ["kind"] ["kind"] (defScope st_first_state) := ⟨rfl, rfl, rfl, by decide +kernel, rfl, by decide +kernel, by decide +kernel⟩
theorem calE_first_state {P : Program} {w : World} {mg : Str → Option Value} {base : Heap} {k : Nat} {sp : Sp} (T : TX (KX w.params) mg) (G : FnOk P w (KX w.params) mg base (CXE P w base) k 274 fd_first_state ["kind"] sp) : CalE P w (KX w.params) mg base "first_state" ["kind"] k sp := ⟨⟨_, _, G, T.of (g_first_state _), by kernel_rfl, b_first_state _⟩⟩
noncomputable abbrev st_has_to : Stmt := top 40
noncomputable abbrev fd_has_to : FuncData := PySem.W.fnOf "has_to" "has_to" (defArgs (top 40)) (defBody (top 40)) (defScope (top 40)) .none .none .none (.str "talejudge.orders" 626) none (.ref 300) .none
theorem F_has_to (P : Params) : Fun (KX P) "has_to" "has_to" st_has_to 301 fd_has_to := fun_mk (oc := .type "function") (od := none) (osl := #[]) (by kernel_rfl) (by kernel_rfl) (by kernel_rfl)
theorem b_has_to (P : Params) : Binds (KX P) fd_has_to ["tale", "strictness"] [] := (F_has_to P).binds fun _ _ _ _ _ _ us hl => match us, hl with | [_, _], _ => rfl
theorem sc_has_to : FnScope ["tale", "strictness", "told", "pairs", "ahead", "one", "behind", "other"] ["tale", "strictness"] (defScope st_has_to) := ⟨rfl, rfl, rfl, by decide +kernel, rfl, by decide +kernel, by decide +kernel⟩
theorem calE_has_to {P : Program} {w : World} {mg : Str → Option Value} {base : Heap} {k : Nat} {sp : Sp} (T : TX (KX w.params) mg) (G : FnOk P w (KX w.params) mg base (CXE P w base) k 301 fd_has_to ["tale", "strictness"] sp) : CalE P w (KX w.params) mg base "has_to" ["tale", "strictness"] k sp := ⟨⟨_, _, G, T.of (g_has_to _), by kernel_rfl, b_has_to _⟩⟩
noncomputable abbrev st_check_strictness : Stmt := top 41
noncomputable abbrev fd_check_strictness : FuncData := PySem.W.fnOf "check_strictness" "check_strictness" (defArgs (top 41)) (defBody (top 41)) (defScope (top 41)) .none .none .none (.str "talejudge.orders" 626) none (.ref 307) .none
theorem F_check_strictness (P : Params) : Fun (KX P) "check_strictness" "check_strictness" st_check_strictness 308 fd_check_strictness := fun_mk (oc := .type "function") (od := none) (osl := #[]) (by kernel_rfl) (by kernel_rfl) (by kernel_rfl)
theorem b_check_strictness (P : Params) : Binds (KX P) fd_check_strictness ["strictness"] [] := (F_check_strictness P).binds fun _ _ _ _ _ _ us hl => match us, hl with | [_], _ => rfl
theorem sc_check_strictness : FnScope ["strictness"] ["strictness"] (defScope st_check_strictness) := ⟨rfl, rfl, rfl, by decide +kernel, rfl, by decide +kernel, by decide +kernel⟩
theorem calE_check_strictness {P : Program} {w : World} {mg : Str → Option Value} {base : Heap} {k : Nat} {sp : Sp} (T : TX (KX w.params) mg) (G : FnOk P w (KX w.params) mg base (CXE P w base) k 308 fd_check_strictness ["strictness"] sp) : CalE P w (KX w.params) mg base "check_strictness" ["strictness"] k sp := ⟨⟨_, _, G, T.of (g_check_strictness _), by kernel_rfl, b_check_strictness _⟩⟩
noncomputable abbrev st_explains : Stmt := top 43
noncomputable abbrev fd_explains : FuncData := PySem.W.fnOf "explains" "explains" (defArgs (top 43)) (defBody (top 43)) (defScope (top 43)) .none .none .none (.str "talejudge.orders" 626) none (.ref 319) .none
theorem F_explains (P : Params) : Fun (KX P) "explains" "explains" st_explains 320 fd_explains := fun_mk (oc := .type "function") (od := none) (osl := #[]) (by kernel_rfl) (by kernel_rfl) (by kernel_rfl)
theorem b_explains (P : Params) : Binds (KX P) fd_explains ["tale", "strictness", "order"] [] := (F_explains P).binds fun _ _ _ _ _ _ us hl => match us, hl with | [_, _, _], _ => rfl
theorem sc_explains : FnScope ["tale", "strictness", "order", "pairs", "told"] ["tale", "strictness", "order"] (defScope st_explains) := ⟨rfl, rfl, rfl, by decide +kernel, rfl, by decide +kernel, by decide +kernel⟩
theorem calE_explains {P : Program} {w : World} {mg : Str → Option Value} {base : Heap} {k : Nat} {sp : Sp} (T : TX (KX w.params) mg) (G : FnOk P w (KX w.params) mg base (CXE P w base) k 320 fd_explains ["tale", "strictness", "order"] sp) : CalE P w (KX w.params) mg base "explains" ["tale", "strictness", "order"] k sp := ⟨⟨_, _, G, T.of (g_explains _), by kernel_rfl, b_explains _⟩⟩
noncomputable abbrev st_first_place : Stmt := top 54
noncomputable abbrev fd_first_place : FuncData := PySem.W.fnOf "first_place" "first_place" (defArgs (top 54)) (defBody (top 54)) (defScope (top 54)) .none .none .none (.str "talejudge.places" 694) none (.ref 429) .none
theorem F_first_place (P : Params) : Fun (KX P) "first_place" "first_place" st_first_place 430 fd_first_place := fun_mk (oc := .type "function") (od := none) (osl := #[]) (by kernel_rfl) (by kernel_rfl) (by kernel_rfl)
theorem b_first_place (P : Params) : Binds (KX P) fd_first_place ["tale"] [] := (F_first_place P).binds fun _ _ _ _ _ _ us hl => match us, hl with | [_], _ => rfl
theorem sc_first_place : FnScope ["tale"] ["tale"] (defScope st_first_place) := ⟨rfl, rfl, rfl, by decide +kernel, rfl, by decide +kernel, by decide +kernel⟩
theorem cal_first_place {P : Program} {w : World} {mg : Str → Option Value} {base : Heap} {k : Nat} {sp : Sp} (T : TX (KX w.params) mg) (G : FnOk P w (KX w.params) mg base CX0 k 430 fd_first_place ["tale"] sp) : Cal P w (KX w.params) mg base "first_place" ["tale"] k sp := ⟨⟨_, _, G, T.of (g_first_place _), by kernel_rfl, b_first_place _⟩⟩
noncomputable abbrev st_nexts : Stmt := top 55
noncomputable abbrev fd_nexts : FuncData := PySem.W.fnOf "nexts" "nexts" (defArgs (top 55)) (defBody (top 55)) (defScope (top 55)) .none .none .none (.str "talejudge.places" 694) none (.ref 436) .none
theorem F_nexts (P : Params) : Fun (KX P) "nexts" "nexts" st_nexts 437 fd_nexts := fun_mk (oc := .type "function") (od := none) (osl := #[]) (by kernel_rfl) (by kernel_rfl) (by kernel_rfl)
theorem b_nexts (P : Params) : Binds (KX P) fd_nexts ["tale", "strictness", "place"] [] := (F_nexts P).binds fun _ _ _ _ _ _ us hl => match us, hl with | [_, _, _], _ => rfl
theorem sc_nexts : FnScope ["tale", "strictness", "place", "board"] ["tale", "strictness", "place"] (defScope st_nexts) := ⟨rfl, rfl, rfl, by decide +kernel, rfl, by decide +kernel, by decide +kernel⟩
theorem calE_nexts {P : Program} {w : World} {mg : Str → Option Value} {base : Heap} {k : Nat} {sp : Sp} (T : TX (KX w.params) mg) (G : FnOk P w (KX w.params) mg base (CXE P w base) k 437 fd_nexts ["tale", "strictness", "place"] sp) : CalE P w (KX w.params) mg base "nexts" ["tale", "strictness", "place"] k sp := ⟨⟨_, _, G, T.of (g_nexts _), by kernel_rfl, b_nexts _⟩⟩
noncomputable abbrev st_all_places : Stmt := top 56
noncomputable abbrev fd_all_places : FuncData := PySem.W.fnOf "all_places" "all_places" (defArgs (top 56)) (defBody (top 56)) (defScope (top 56)) .none .none .none (.str "talejudge.places" 694) none (.ref 443) .none
theorem F_all_places (P : Params) : Fun (KX P) "all_places" "all_places" st_all_places 444 fd_all_places := fun_mk (oc := .type "function") (od := none) (osl := #[]) (by kernel_rfl) (by kernel_rfl) (by kernel_rfl)
theorem b_all_places (P : Params) : Binds (KX P) fd_all_places ["tale", "strictness"] [] := (F_all_places P).binds fun _ _ _ _ _ _ us hl => match us, hl with | [_, _], _ => rfl
theorem sc_all_places : FnScope ["tale", "strictness", "board", "found", "layer"] ["tale", "strictness"] (defScope st_all_places) := ⟨rfl, rfl, rfl, by decide +kernel, rfl, by decide +kernel, by decide +kernel⟩
theorem calE_all_places {P : Program} {w : World} {mg : Str → Option Value} {base : Heap} {k : Nat} {sp : Sp} (T : TX (KX w.params) mg) (G : FnOk P w (KX w.params) mg base (CXE P w base) k 444 fd_all_places ["tale", "strictness"] sp) : CalE P w (KX w.params) mg base "all_places" ["tale", "strictness"] k sp := ⟨⟨_, _, G, T.of (g_all_places _), by kernel_rfl, b_all_places _⟩⟩
noncomputable abbrev st_judged : Stmt := top 59
noncomputable abbrev fd_judged : FuncData := PySem.W.fnOf "judged" "judged" (defArgs (top 59)) (defBody (top 59)) (defScope (top 59)) .none .none .none (.str "talejudge.judge" 859) none (.ref 457) .none
theorem F_judged (P : Params) : Fun (KX P) "judged" "judged" st_judged 458 fd_judged := fun_mk (oc := .type "function") (od := none) (osl := #[]) (by kernel_rfl) (by kernel_rfl) (by kernel_rfl)
theorem b_judged (P : Params) : Binds (KX P) fd_judged ["tale", "strictness"] [] := (F_judged P).binds fun _ _ _ _ _ _ us hl => match us, hl with | [_, _], _ => rfl
theorem sc_judged : FnScope ["tale", "strictness", "board", "seen", "waiting", "reached", "number", "answer", "place"] ["tale", "strictness"] (defScope st_judged) := ⟨rfl, rfl, rfl, by decide +kernel, rfl, by decide +kernel, by decide +kernel⟩
theorem calE_judged {P : Program} {w : World} {mg : Str → Option Value} {base : Heap} {k : Nat} {sp : Sp} (T : TX (KX w.params) mg) (G : FnOk P w (KX w.params) mg base (CXE P w base) k 458 fd_judged ["tale", "strictness"] sp) : CalE P w (KX w.params) mg base "judged" ["tale", "strictness"] k sp := ⟨⟨_, _, G, T.of (g_judged _), by kernel_rfl, b_judged _⟩⟩
noncomputable abbrev st__law_hand : Stmt := top 61
noncomputable abbrev fd__law_hand : FuncData := PySem.W.fnOf "_law_hand" "_law_hand" (defArgs (top 61)) (defBody (top 61)) (defScope (top 61)) .none .none .none (.str "law_talejudge_k52_no_strictness" 876) none (.ref 464) .none
theorem F__law_hand (P : Params) : Fun (KX P) "_law_hand" "_law_hand" st__law_hand 465 fd__law_hand := fun_mk (oc := .type "function") (od := none) (osl := #[]) (by kernel_rfl) (by kernel_rfl) (by kernel_rfl)
theorem b__law_hand (P : Params) : Binds (KX P) fd__law_hand ["script", "cell", "k"] [] := (F__law_hand P).binds fun _ _ _ _ _ _ us hl => match us, hl with | [_, _, _], _ => rfl
theorem sc__law_hand : FnScope ["script", "cell", "k", "way"] ["script", "cell", "k"] (defScope st__law_hand) := ⟨rfl, rfl, rfl, by decide +kernel, rfl, by decide +kernel, by decide +kernel⟩
theorem cal__law_hand {P : Program} {w : World} {mg : Str → Option Value} {base : Heap} {k : Nat} {sp : Sp} (T : TX (KX w.params) mg) (G : FnOk P w (KX w.params) mg base CX0 k 465 fd__law_hand ["script", "cell", "k"] sp) : Cal P w (KX w.params) mg base "_law_hand" ["script", "cell", "k"] k sp := ⟨⟨_, _, G, T.of (g__law_hand _), by kernel_rfl, b__law_hand _⟩⟩
noncomputable abbrev st__law_draw : Stmt := top 62
noncomputable abbrev fd__law_draw : FuncData := PySem.W.fnOf "_law_draw" "_law_draw" (defArgs (top 62)) (defBody (top 62)) (defScope (top 62)) .none .none .none (.str "law_talejudge_k52_no_strictness" 876) none (.ref 471) .none
theorem F__law_draw (P : Params) : Fun (KX P) "_law_draw" "_law_draw" st__law_draw 472 fd__law_draw := fun_mk (oc := .type "function") (od := none) (osl := #[]) (by kernel_rfl) (by kernel_rfl) (by kernel_rfl)
theorem b__law_draw (P : Params) : Binds (KX P) fd__law_draw ["hand", "limit"] [] := (F__law_draw P).binds fun _ _ _ _ _ _ us hl => match us, hl with | [_, _], _ => rfl
theorem sc__law_draw : FnScope ["hand", "limit", "got"] ["hand", "limit"] (defScope st__law_draw) := ⟨rfl, rfl, rfl, by decide +kernel, rfl, by decide +kernel, by decide +kernel⟩
theorem cal__law_draw {P : Program} {w : World} {mg : Str → Option Value} {base : Heap} {k : Nat} {sp : Sp} (T : TX (KX w.params) mg) (G : FnOk P w (KX w.params) mg base CX0 k 472 fd__law_draw ["hand", "limit"] sp) : Cal P w (KX w.params) mg base "_law_draw" ["hand", "limit"] k sp := ⟨⟨_, _, G, T.of (g__law_draw _), by kernel_rfl, b__law_draw _⟩⟩
noncomputable abbrev st__law_begun : Stmt := top 63
noncomputable abbrev fd__law_begun : FuncData := PySem.W.fnOf "_law_begun" "_law_begun" (defArgs (top 63)) (defBody (top 63)) (defScope (top 63)) .none .none .none (.str "law_talejudge_k52_no_strictness" 876) none (.ref 478) .none
theorem F__law_begun (P : Params) : Fun (KX P) "_law_begun" "_law_begun" st__law_begun 479 fd__law_begun := fun_mk (oc := .type "function") (od := none) (osl := #[]) (by kernel_rfl) (by kernel_rfl) (by kernel_rfl)
theorem b__law_begun (P : Params) : Binds (KX P) fd__law_begun ["kind"] [] := (F__law_begun P).binds fun _ _ _ _ _ _ us hl => match us, hl with | [_], _ => rfl
theorem sc__law_begun : FnScope ["kind"] ["kind"] (defScope st__law_begun) := ⟨rfl, rfl, rfl, by decide +kernel, rfl, by decide +kernel, by decide +kernel⟩
theorem cal__law_begun {P : Program} {w : World} {mg : Str → Option Value} {base : Heap} {k : Nat} {sp : Sp} (T : TX (KX w.params) mg) (G : FnOk P w (KX w.params) mg base CX0 k 479 fd__law_begun ["kind"] sp) : Cal P w (KX w.params) mg base "_law_begun" ["kind"] k sp := ⟨⟨_, _, G, T.of (g__law_begun _), by kernel_rfl, b__law_begun _⟩⟩
noncomputable abbrev st__law_does : Stmt := top 64
noncomputable abbrev fd__law_does : FuncData := PySem.W.fnOf "_law_does" "_law_does" (defArgs (top 64)) (defBody (top 64)) (defScope (top 64)) .none .none .none (.str "law_talejudge_k52_no_strictness" 876) none (.ref 483) .none
theorem F__law_does (P : Params) : Fun (KX P) "_law_does" "_law_does" st__law_does 484 fd__law_does := fun_mk (oc := .type "function") (od := none) (osl := #[]) (by kernel_rfl) (by kernel_rfl) (by kernel_rfl)
theorem b__law_does (P : Params) : Binds (KX P) fd__law_does ["kind", "state", "verb", "worth"] [] := (F__law_does P).binds fun _ _ _ _ _ _ us hl => match us, hl with | [_, _, _, _], _ => rfl
theorem sc__law_does : FnScope ["kind", "state", "verb", "worth", "answer"] ["kind", "state", "verb", "worth"] (defScope st__law_does) := ⟨rfl, rfl, rfl, by decide +kernel, rfl, by decide +kernel, by decide +kernel⟩
theorem cal__law_does {P : Program} {w : World} {mg : Str → Option Value} {base : Heap} {k : Nat} {sp : Sp} (T : TX (KX w.params) mg) (G : FnOk P w (KX w.params) mg base CX0 k 484 fd__law_does ["kind", "state", "verb", "worth"] sp) : Cal P w (KX w.params) mg base "_law_does" ["kind", "state", "verb", "worth"] k sp := ⟨⟨_, _, G, T.of (g__law_does _), by kernel_rfl, b__law_does _⟩⟩
noncomputable abbrev st__law_worth : Stmt := top 65
noncomputable abbrev fd__law_worth : FuncData := PySem.W.fnOf "_law_worth" "_law_worth" (defArgs (top 65)) (defBody (top 65)) (defScope (top 65)) .none .none .none (.str "law_talejudge_k52_no_strictness" 876) none (.ref 490) .none
theorem F__law_worth (P : Params) : Fun (KX P) "_law_worth" "_law_worth" st__law_worth 491 fd__law_worth := fun_mk (oc := .type "function") (od := none) (osl := #[]) (by kernel_rfl) (by kernel_rfl) (by kernel_rfl)
theorem b__law_worth (P : Params) : Binds (KX P) fd__law_worth ["hand"] [] := (F__law_worth P).binds fun _ _ _ _ _ _ us hl => match us, hl with | [_], _ => rfl
theorem sc__law_worth : FnScope ["hand"] ["hand"] (defScope st__law_worth) := ⟨rfl, rfl, rfl, by decide +kernel, rfl, by decide +kernel, by decide +kernel⟩
theorem cal__law_worth {P : Program} {w : World} {mg : Str → Option Value} {base : Heap} {k : Nat} {sp : Sp} (T : TX (KX w.params) mg) (G : FnOk P w (KX w.params) mg base CX0 k 491 fd__law_worth ["hand"] sp) : Cal P w (KX w.params) mg base "_law_worth" ["hand"] k sp := ⟨⟨_, _, G, T.of (g__law_worth _), by kernel_rfl, b__law_worth _⟩⟩
noncomputable abbrev st__law_act : Stmt := top 66
noncomputable abbrev fd__law_act : FuncData := PySem.W.fnOf "_law_act" "_law_act" (defArgs (top 66)) (defBody (top 66)) (defScope (top 66)) .none .none .none (.str "law_talejudge_k52_no_strictness" 876) none (.ref 497) .none
theorem F__law_act (P : Params) : Fun (KX P) "_law_act" "_law_act" st__law_act 498 fd__law_act := fun_mk (oc := .type "function") (od := none) (osl := #[]) (by kernel_rfl) (by kernel_rfl) (by kernel_rfl)
theorem b__law_act (P : Params) : Binds (KX P) fd__law_act ["hand", "kind"] [] := (F__law_act P).binds fun _ _ _ _ _ _ us hl => match us, hl with | [_, _], _ => rfl
theorem sc__law_act : FnScope ["hand", "kind", "verbs", "verb"] ["hand", "kind"] (defScope st__law_act) := ⟨rfl, rfl, rfl, by decide +kernel, rfl, by decide +kernel, by decide +kernel⟩
theorem cal__law_act {P : Program} {w : World} {mg : Str → Option Value} {base : Heap} {k : Nat} {sp : Sp} (T : TX (KX w.params) mg) (G : FnOk P w (KX w.params) mg base CX0 k 498 fd__law_act ["hand", "kind"] sp) : Cal P w (KX w.params) mg base "_law_act" ["hand", "kind"] k sp := ⟨⟨_, _, G, T.of (g__law_act _), by kernel_rfl, b__law_act _⟩⟩
noncomputable abbrev st__law_things : Stmt := top 67
noncomputable abbrev fd__law_things : FuncData := PySem.W.fnOf "_law_things" "_law_things" (defArgs (top 67)) (defBody (top 67)) (defScope (top 67)) .none .none .none (.str "law_talejudge_k52_no_strictness" 876) none (.ref 502) .none
theorem F__law_things (P : Params) : Fun (KX P) "_law_things" "_law_things" st__law_things 503 fd__law_things := fun_mk (oc := .type "function") (od := none) (osl := #[]) (by kernel_rfl) (by kernel_rfl) (by kernel_rfl)
theorem b__law_things (P : Params) : Binds (KX P) fd__law_things ["hand"] [] := (F__law_things P).binds fun _ _ _ _ _ _ us hl => match us, hl with | [_], _ => rfl
theorem sc__law_things : FnScope ["hand", "known", "many"] ["hand"] (defScope st__law_things) := ⟨rfl, rfl, rfl, by decide +kernel, rfl, by decide +kernel, by decide +kernel⟩
theorem cal__law_things {P : Program} {w : World} {mg : Str → Option Value} {base : Heap} {k : Nat} {sp : Sp} (T : TX (KX w.params) mg) (G : FnOk P w (KX w.params) mg base CX0 k 503 fd__law_things ["hand"] sp) : Cal P w (KX w.params) mg base "_law_things" ["hand"] k sp := ⟨⟨_, _, G, T.of (g__law_things _), by kernel_rfl, b__law_things _⟩⟩
noncomputable abbrev st__law_ended : Stmt := top 68
noncomputable abbrev fd__law_ended : FuncData := PySem.W.fnOf "_law_ended" "_law_ended" (defArgs (top 68)) (defBody (top 68)) (defScope (top 68)) .none .none .none (.str "law_talejudge_k52_no_strictness" 876) none (.ref 509) .none
theorem F__law_ended (P : Params) : Fun (KX P) "_law_ended" "_law_ended" st__law_ended 510 fd__law_ended := fun_mk (oc := .type "function") (od := none) (osl := #[]) (by kernel_rfl) (by kernel_rfl) (by kernel_rfl)
theorem b__law_ended (P : Params) : Binds (KX P) fd__law_ended ["hand", "things", "states", "act"] [] := (F__law_ended P).binds fun _ _ _ _ _ _ us hl => match us, hl with | [_, _, _, _], _ => rfl
theorem sc__law_ended : FnScope ["hand", "things", "states", "act", "name", "verb", "worth", "heard", "kind"] ["hand", "things", "states", "act"] (defScope st__law_ended) := ⟨rfl, rfl, rfl, by decide +kernel, rfl, by decide +kernel, by decide +kernel⟩
theorem cal__law_ended {P : Program} {w : World} {mg : Str → Option Value} {base : Heap} {k : Nat} {sp : Sp} (T : TX (KX w.params) mg) (G : FnOk P w (KX w.params) mg base CX0 k 510 fd__law_ended ["hand", "things", "states", "act"] sp) : Cal P w (KX w.params) mg base "_law_ended" ["hand", "things", "states", "act"] k sp := ⟨⟨_, _, G, T.of (g__law_ended _), by kernel_rfl, b__law_ended _⟩⟩
noncomputable abbrev st__law_tale : Stmt := top 69
noncomputable abbrev fd__law_tale : FuncData := PySem.W.fnOf "_law_tale" "_law_tale" (defArgs (top 69)) (defBody (top 69)) (defScope (top 69)) .none .none .none (.str "law_talejudge_k52_no_strictness" 876) none (.ref 514) .none
theorem F__law_tale (P : Params) : Fun (KX P) "_law_tale" "_law_tale" st__law_tale 515 fd__law_tale := fun_mk (oc := .type "function") (od := none) (osl := #[]) (by kernel_rfl) (by kernel_rfl) (by kernel_rfl)
theorem b__law_tale (P : Params) : Binds (KX P) fd__law_tale ["script", "first", "hands", "most"] [] := (F__law_tale P).binds fun _ _ _ _ _ _ us hl => match us, hl with | [_, _, _, _], _ => rfl
theorem sc__law_tale : FnScope ["script", "first", "hands", "most", "head", "things", "states", "calm", "busy", "many", "events", "k", "cell", "hand", "one", "name", "kind", "verb", "worth", "heard"] ["script", "first", "hands", "most"] (defScope st__law_tale) := ⟨rfl, rfl, rfl, by decide +kernel, rfl, by decide +kernel, by decide +kernel⟩
theorem cal__law_tale {P : Program} {w : World} {mg : Str → Option Value} {base : Heap} {k : Nat} {sp : Sp} (T : TX (KX w.params) mg) (G : FnOk P w (KX w.params) mg base CX0 k 515 fd__law_tale ["script", "first", "hands", "most"] sp) : Cal P w (KX w.params) mg base "_law_tale" ["script", "first", "hands", "most"] k sp := ⟨⟨_, _, G, T.of (g__law_tale _), by kernel_rfl, b__law_tale _⟩⟩
noncomputable abbrev st__law_bad_strictness : Stmt := top 73
noncomputable abbrev fd__law_bad_strictness : FuncData := PySem.W.fnOf "_law_bad_strictness" "_law_bad_strictness" (defArgs (top 73)) (defBody (top 73)) (defScope (top 73)) .none .none .none (.str "law_talejudge_k52_no_strictness" 876) none (.ref 542) .none
theorem F__law_bad_strictness (P : Params) : Fun (KX P) "_law_bad_strictness" "_law_bad_strictness" st__law_bad_strictness 543 fd__law_bad_strictness := fun_mk (oc := .type "function") (od := none) (osl := #[]) (by kernel_rfl) (by kernel_rfl) (by kernel_rfl)
theorem b__law_bad_strictness (P : Params) : Binds (KX P) fd__law_bad_strictness ["hand"] [] := (F__law_bad_strictness P).binds fun _ _ _ _ _ _ us hl => match us, hl with | [_], _ => rfl
theorem sc__law_bad_strictness : FnScope ["hand"] ["hand"] (defScope st__law_bad_strictness) := ⟨rfl, rfl, rfl, by decide +kernel, rfl, by decide +kernel, by decide +kernel⟩
theorem cal__law_bad_strictness {P : Program} {w : World} {mg : Str → Option Value} {base : Heap} {k : Nat} {sp : Sp} (T : TX (KX w.params) mg) (G : FnOk P w (KX w.params) mg base CX0 k 543 fd__law_bad_strictness ["hand"] sp) : Cal P w (KX w.params) mg base "_law_bad_strictness" ["hand"] k sp := ⟨⟨_, _, G, T.of (g__law_bad_strictness _), by kernel_rfl, b__law_bad_strictness _⟩⟩
noncomputable abbrev st__law_other_class : Stmt := top 74
noncomputable abbrev fd__law_other_class : FuncData := PySem.W.fnOf "_law_other_class" "_law_other_class" (defArgs (top 74)) (defBody (top 74)) (defScope (top 74)) .none .none .none (.str "law_talejudge_k52_no_strictness" 876) none (.ref 549) .none
theorem F__law_other_class (P : Params) : Fun (KX P) "_law_other_class" "_law_other_class" st__law_other_class 550 fd__law_other_class := fun_mk (oc := .type "function") (od := none) (osl := #[]) (by kernel_rfl) (by kernel_rfl) (by kernel_rfl)
theorem b__law_other_class (P : Params) : Binds (KX P) fd__law_other_class ["caught"] [] := (F__law_other_class P).binds fun _ _ _ _ _ _ us hl => match us, hl with | [_], _ => rfl
theorem sc__law_other_class : FnScope ["caught"] ["caught"] (defScope st__law_other_class) := ⟨rfl, rfl, rfl, by decide +kernel, rfl, by decide +kernel, by decide +kernel⟩
theorem cal__law_other_class {P : Program} {w : World} {mg : Str → Option Value} {base : Heap} {k : Nat} {sp : Sp} (T : TX (KX w.params) mg) (G : FnOk P w (KX w.params) mg base CX0 k 550 fd__law_other_class ["caught"] sp) : Cal P w (KX w.params) mg base "_law_other_class" ["caught"] k sp := ⟨⟨_, _, G, T.of (g__law_other_class _), by kernel_rfl, b__law_other_class _⟩⟩
noncomputable abbrev st__law_refused : Stmt := top 75
noncomputable abbrev fd__law_refused : FuncData := PySem.W.fnOf "_law_refused" "_law_refused" (defArgs (top 75)) (defBody (top 75)) (defScope (top 75)) .none .none .none (.str "law_talejudge_k52_no_strictness" 876) none (.ref 556) .none
theorem F__law_refused (P : Params) : Fun (KX P) "_law_refused" "_law_refused" st__law_refused 557 fd__law_refused := fun_mk (oc := .type "function") (od := none) (osl := #[]) (by kernel_rfl) (by kernel_rfl) (by kernel_rfl)
theorem b__law_refused (P : Params) : Binds (KX P) fd__law_refused ["tale", "strictness", "way"] [] := (F__law_refused P).binds fun _ _ _ _ _ _ us hl => match us, hl with | [_, _, _], _ => rfl
theorem sc__law_refused : FnScope ["tale", "strictness", "way", "caught", "e"] ["tale", "strictness", "way"] (defScope st__law_refused) := ⟨rfl, rfl, rfl, by decide +kernel, rfl, by decide +kernel, by decide +kernel⟩
theorem cal__law_refused {P : Program} {w : World} {mg : Str → Option Value} {base : Heap} {k : Nat} {sp : Sp} (T : TX (KX w.params) mg) (G : FnOk P w (KX w.params) mg base CX0 k 557 fd__law_refused ["tale", "strictness", "way"] sp) : Cal P w (KX w.params) mg base "_law_refused" ["tale", "strictness", "way"] k sp := ⟨⟨_, _, G, T.of (g__law_refused _), by kernel_rfl, b__law_refused _⟩⟩
noncomputable abbrev st_law : Stmt := top 76
noncomputable abbrev fd_law : FuncData := PySem.W.fnOf "law" "law" (defArgs (top 76)) (defBody (top 76)) (defScope (top 76)) .none .none .none (.str "law_talejudge_k52_no_strictness" 876) none (.ref 563) .none
theorem F_law (P : Params) : Fun (KX P) "law" "law" st_law 564 fd_law := fun_mk (oc := .type "function") (od := none) (osl := #[]) (by kernel_rfl) (by kernel_rfl) (by kernel_rfl)
theorem sc_law : FnScope ["script", "head", "tale", "cell", "bad", "one", "way"] ["script"] (defScope st_law) := ⟨rfl, rfl, rfl, by decide +kernel, rfl, by decide +kernel, by decide +kernel⟩
noncomputable abbrev st_Board___init__ : Stmt := subS (top 50) 0
noncomputable abbrev fd_Board___init__ : FuncData := PySem.W.fnOf "__init__" "Board.__init__" (defArgs (subS (top 50) 0)) (defBody (subS (top 50) 0)) (defScope (subS (top 50) 0)) .none .none .none (.str "talejudge.places" 694) none (.ref 379) .none
theorem F_Board___init__ (P : Params) : Fun (KX P) "__init__" "Board.__init__" st_Board___init__ 380 fd_Board___init__ := fun_mk (oc := .type "function") (od := none) (osl := #[]) (by kernel_rfl) (by kernel_rfl) (by kernel_rfl)
theorem b_Board___init__ (P : Params) : Binds (KX P) fd_Board___init__ ["self", "tale", "strictness"] [] := (F_Board___init__ P).binds fun _ _ _ _ _ _ us hl => match us, hl with | [_, _, _], _ => rfl
theorem sc_Board___init__ : FnScope ["self", "tale", "strictness", "pairs", "told", "names", "number", "deed", "thing"] ["self", "tale", "strictness"] (defScope st_Board___init__) := ⟨rfl, rfl, rfl, by decide +kernel, rfl, by decide +kernel, by decide +kernel⟩
theorem mk_Board (P : Params) : Mk (KX P) 404 380 := ⟨by kernel_rfl, by kernel_rfl, by kernel_rfl, by kernel_rfl⟩
end K52
namespace K52
open PySem PySem.Spec PyProof.Rows TJ L2
section
variable {P : Program} {w : World} {mg : Str → Option Value} {base : Heap}
def kindB : V → Bool
  | .str z => (kl_FIRST_STATES.lookup z).isSome
  | _ => false
def sp_is_kind : Sp := fun vs H Q _ => ∃ x T, vs = [x] ∧ TagOf H x T ∧ Q (.bl (kindB x)) H
theorem ok_is_kind (T : TX (KX w.params) mg) : FnOk P w (KX w.params) mg base CX0 1 267 fd_is_kind ["kind"] sp_is_kind := by
  refine (F_is_kind w.params).ok sc_is_kind (fun vs H Q E h => ?_) (fun cdv A outer s H vs Q E hr h => ?_)
  · obtain ⟨x, t, rfl, _⟩ := h
    rfl
  · obtain ⟨x, t, rfl, ht, q⟩ := h
    refine ⟨_, (pss_one (ps_ret (pe_and (pe_callB call_isinst rfl (T.no (n_isinstance _)) boot_isinstance (pa_cons (pv 0) (pa_cons (pe_bltn (v := .ty "str") rfl (T.no (n_str _)) boot_str rfl) pa_nil))) (pe_one (pe_cmpR (op_in_kd (kd_FIRST_STATES _)) (pv 0) (pe_glob (v := .ref 183) rfl (T.of (g_FIRST_STATES _)) rfl) (by with_unfolding_all rfl)))))), ?_⟩
    refine ⟨_, rfl, _, _, _, rfl, ht, by decide, _, rfl, ?_⟩
    rw [instB_eq ht (by decide)]
    by_cases h1 : t = "str"
    · subst h1
      obtain ⟨z, rfl⟩ := ht.str
      exact iteT ⟨_, rfl, z, rfl, rfl, q⟩
    · rw [decide_eq_false h1]
      refine iteF ?_
      cases x with
      | str z => exact absurd ht h1
      | _ => exact q
def sp_first_state : Sp := fun vs H Q E => ∃ (k : V) (Tk : String), vs = [k] ∧ TagOf H k Tk ∧ ((∃ (ks : Str) (v : V), k = .str ks ∧ kl_FIRST_STATES.lookup ks = some v ∧ Q v H) ∨ (kindB k = false ∧ E (.ref 72) none H))
theorem ok_first_state (T : TX (KX w.params) mg) (c_is_kind : Cal P w (KX w.params) mg base "is_kind" ["kind"] 1 sp_is_kind) : FnOk P w (KX w.params) mg base (CXE P w base) 2 274 fd_first_state ["kind"] sp_first_state := by
  refine (F_first_state w.params).okE sc_first_state (fun vs H Q E h => ?_) (fun cdv A outer s H vs Q E hr h => ?_)
  · obtain ⟨k, v, rfl, _⟩ := h
    rfl
  · obtain ⟨k, Tk, rfl, tk, h⟩ := h
    refine ⟨_, (pss_cons (ps_if (pt_not (pt_val (pe_cal c_is_kind (hr.mono (by first | decide | omega)) rfl (pa_cons (pv 0) pa_nil)) (fun _ => rfl)))
      (pss_one (ps_raiseE F.excBase_ValueError (T.of (g_NoDeed _)) (x_NoDeed _) rfl (pa_cons pe_str pa_nil)))
      pss_nil)
      (pss_one (ps_ret (pe_ix (ix_kd (kd_FIRST_STATES _)) (pe_glob (v := .ref 183) rfl (T.of (g_FIRST_STATES _)) rfl) (pv 0) (fun _ _ => rfl))))), ?_⟩
    refine ⟨_, rfl, k, Tk, rfl, tk, _, rfl, ?_⟩
    rcases h with ⟨ks, v, rfl, hl, q⟩ | ⟨e, q⟩
    · have e : kindB (.str ks) = true := by unfold kindB; dsimp only; rw [hl]; rfl
      rw [e]
      exact iteF ⟨_, rfl, ks, v, rfl, rfl, hl, q⟩
    · rw [e]
      exact iteT ⟨(show (1 : Nat) ≤ sizeLine by decide), q⟩
def BadS (H : Hp) (x : V) : Prop := ∃ T, TagOf H x T ∧ ∀ z : Str, x = .str z → z ∉ (["strict", "hands", "bare"] : List Str)
theorem BadS.same {H H' : Hp} {x : V} (s : Same H H') (h : BadS H x) : BadS H' x := h.elim fun T z => ⟨T, z.1.same s, z.2⟩
theorem sq_strict {H : Hp} : SqT (KX w.params) H 294 [.str "strict", .str "hands", .str "bare"] :=
  .inr ⟨⟨(.type "tuple"), none, (.seq #[(.str "strict" 628), (.str "hands" 629), (.str "bare" 630)] 0), #[]⟩, #[(.str "strict" 628), (.str "hands" 629), (.str "bare" 630)], 0, by kernel_rfl, rfl, rfl, (show (3 : Nat) ≤ sizeLine by decide), .cons ⟨_, rfl⟩ (.cons ⟨_, rfl⟩ (.cons ⟨_, rfl⟩ .nil))⟩
theorem inV_strs (z : Str) (ws : List Str) : inV (.str z) (ws.map V.str) = decide (z ∈ ws) := by
  unfold inV
  rw [List.any_map, Bool.eq_iff_iff, List.any_eq_true, decide_eq_true_eq]
  constructor
  · rintro ⟨x, hx, e⟩
    have e : x = z := eq_of_beq (show (x == z) = true from e)
    rw [← e]
    exact hx
  · exact fun h => ⟨z, h, (show (z == z) = true from beq_self_eq_true z)⟩
def sp_check_strictness : Sp := fun vs H _ E => ∃ (x : V), vs = [x] ∧ BadS H x ∧ ∀ H', Same H H' → E (.ref 96) none H'
theorem ok_check_strictness (T : TX (KX w.params) mg) : FnOk P w (KX w.params) mg base (CXE P w base) 1 308 fd_check_strictness ["strictness"] sp_check_strictness := by
  refine (F_check_strictness w.params).okE sc_check_strictness (fun vs H Q E h => ?_) (fun cdv A outer s H vs Q E hr h => ?_)
  · obtain ⟨x, rfl, _⟩ := h
    rfl
  · obtain ⟨x, rfl, ⟨t, ht, hs⟩, q⟩ := h
    refine ⟨_, (pss_one (ps_if (PW.pt (pw_or (pt_not (pt_val (pe_callB call_isinst rfl (T.no (n_isinstance _)) boot_isinstance (pa_cons (pv 0) (pa_cons (pe_bltn (v := .ty "str") rfl (T.no (n_str _)) boot_str rfl) pa_nil))) (fun _ => rfl))) (pw_or1 (pt_cmpR op_notIn_seq (pv 0) (pe_glob (v := .ref 294) rfl (T.of (g_STRICTNESSES _)) rfl) (by with_unfolding_all rfl)))))
      (pss_one (ps_raiseE F.excBase_ValueError (T.of (g_NoStrictness _)) (x_NoStrictness _) rfl (pa_cons pe_str pa_nil)))
      pss_nil)), ?_⟩
    refine ⟨_, rfl, _, _, t, rfl, ht, by decide, _, rfl, ?_⟩
    rw [instB_eq ht (by decide)]
    by_cases h1 : t = "str"
    · subst h1
      obtain ⟨z, rfl⟩ := ht.str
      refine iteN (by decide) ⟨_, rfl, 294, _, rfl, .inr sq_strict, rfl, rfl, _, rfl, ?_⟩
      have iv : inV (.str z) [.str "strict", .str "hands", .str "bare"] = decide (z ∈ (["strict", "hands", "bare"] : List Str)) := inV_strs z ["strict", "hands", "bare"]
      rw [if_pos rfl, iv, decide_eq_false (hs z rfl)]
      exact iteT ⟨(show (1 : Nat) ≤ sizeLine by decide), q _ (Same.refl _)⟩
    · rw [decide_eq_false h1]
      exact iteT (iteT ⟨(show (1 : Nat) ≤ sizeLine by decide), q _ (Same.refl _)⟩)
def sp_has_to : Sp := fun vs H _ E => ∃ (t x : V), vs = [t, x] ∧ BadS H x ∧ ∀ H', Same H H' → E (.ref 96) none H'
theorem ok_has_to (T : TX (KX w.params) mg) (c_check_strictness : CalE P w (KX w.params) mg base "check_strictness" ["strictness"] 1 sp_check_strictness) : FnOk P w (KX w.params) mg base (CXE P w base) 2 301 fd_has_to ["tale", "strictness"] sp_has_to := by
  refine (F_has_to w.params).okE sc_has_to (fun vs H Q E h => ?_) (fun cdv A outer s H vs Q E hr h => ?_)
  · obtain ⟨t, x, rfl, _⟩ := h
    rfl
  · obtain ⟨t, x, rfl, b, q⟩ := h
    refine ⟨_, (pss_cons (ps_expr (pe_calE passE c_check_strictness (hr.mono (by first | decide | omega)) rfl (pa_cons (pv 1) pa_nil)))
      (pss_cons ps_never (pss_cons ps_never (pss_cons ps_never (pss_one ps_never))))), ?_⟩
    exact ⟨_, rfl, x, rfl, b, q⟩
def sp_explains : Sp := fun vs H _ E => ∃ (t x o : V), vs = [t, x, o] ∧ BadS H x ∧ ∀ H', Same H H' → E (.ref 96) none H'
theorem ok_explains (T : TX (KX w.params) mg) (c_has_to : CalE P w (KX w.params) mg base "has_to" ["tale", "strictness"] 2 sp_has_to) : FnOk P w (KX w.params) mg base (CXE P w base) 3 320 fd_explains ["tale", "strictness", "order"] sp_explains := by
  refine (F_explains w.params).okE sc_explains (fun vs H Q E h => ?_) (fun cdv A outer s H vs Q E hr h => ?_)
  · obtain ⟨t, x, o, rfl, _⟩ := h
    rfl
  · obtain ⟨t, x, o, rfl, b, q⟩ := h
    refine ⟨_, (pss_cons (ps_set (i := 3) sc_explains.nd rfl (by first | exact Or.inl rfl | exact Or.inr rfl) (pe_calE passE c_has_to (hr.mono (by first | decide | omega)) rfl (pa_cons (pv 0) (pa_cons (pv 1) pa_nil))))
      (pss_cons ps_never (pss_cons ps_never (pss_one ps_never)))), ?_⟩
    exact ⟨_, rfl, _, rfl, t, x, rfl, b, q⟩
def sp_Board___init__ : Sp := fun vs H _ E => ∃ (me t x : V), vs = [me, t, x] ∧ BadS H x ∧ ∀ H', Same H H' → E (.ref 96) none H'
theorem ok_Board (T : TX (KX w.params) mg) (c_has_to : CalE P w (KX w.params) mg base "has_to" ["tale", "strictness"] 2 sp_has_to) : FnOk P w (KX w.params) mg base (CXE P w base) 3 380 fd_Board___init__ ["self", "tale", "strictness"] sp_Board___init__ := by
  refine (F_Board___init__ w.params).okE sc_Board___init__ (fun vs H Q E h => ?_) (fun cdv A outer s H vs Q E hr h => ?_)
  · obtain ⟨me, t, x, rfl, _⟩ := h
    rfl
  · obtain ⟨me, t, x, rfl, b, q⟩ := h
    refine ⟨_, (pss_cons (ps_set (i := 3) sc_Board___init__.nd rfl (by first | exact Or.inl rfl | exact Or.inr rfl) (pe_calE passE c_has_to (hr.mono (by first | decide | omega)) rfl (pa_cons (pv 1) (pa_cons (pv 2) pa_nil))))
      (pss_cons ps_never (pss_cons ps_never (pss_cons ps_never (pss_cons ps_never (pss_cons ps_never (pss_cons ps_never (pss_one ps_never)))))))), ?_⟩
    exact ⟨_, rfl, _, rfl, t, x, rfl, b, q⟩
theorem made {H : Hp} {a dx C : Addr} (h1 : H a = none) (h2 : H dx = none) (n : dx ≠ a) : Same H (upd (upd H dx (.own a)) a (.ins C dx [])) := (Same.upd h2).trans (Same.upd (by rw [upd_ne n.symm]; exact h1))
def sp_nexts : Sp := fun vs H _ E => ∃ (t x o : V), vs = [t, x, o] ∧ BadS H x ∧ ∀ H', Same H H' → E (.ref 96) none H'
theorem ok_nexts (T : TX (KX w.params) mg) (c_Board : FnOk P w (KX w.params) mg base (CXE P w base) 3 380 fd_Board___init__ ["self", "tale", "strictness"] sp_Board___init__) : FnOk P w (KX w.params) mg base (CXE P w base) 5 437 fd_nexts ["tale", "strictness", "place"] sp_nexts := by
  refine (F_nexts w.params).okE sc_nexts (fun vs H Q E h => ?_) (fun cdv A outer s H vs Q E hr h => ?_)
  · obtain ⟨t, x, o, rfl, _⟩ := h
    rfl
  · obtain ⟨t, x, o, rfl, b, q⟩ := h
    refine ⟨_, (pss_cons (ps_set (i := 3) sc_nexts.nd rfl (by first | exact Or.inl rfl | exact Or.inr rfl) (pe_make (mk_Board _) c_Board (hr.mono (by first | decide | omega)) rfl (T.of (g_Board _)) (b_Board___init__ _) .nil passE (pa_cons (pv 0) (pa_cons (pv 1) pa_nil))))
      (pss_one ps_never)), ?_⟩
    exact ⟨_, rfl, _, rfl, fun a dx h1 h2 n => ⟨_, t, x, rfl, b.same (made h1 h2 n), fun H' s' => q _ ((made h1 h2 n).trans s')⟩⟩
def sp_all_places : Sp := fun vs H _ E => ∃ (t x : V), vs = [t, x] ∧ BadS H x ∧ ∀ H', Same H H' → E (.ref 96) none H'
theorem ok_all_places (T : TX (KX w.params) mg) (c_Board : FnOk P w (KX w.params) mg base (CXE P w base) 3 380 fd_Board___init__ ["self", "tale", "strictness"] sp_Board___init__) : FnOk P w (KX w.params) mg base (CXE P w base) 5 444 fd_all_places ["tale", "strictness"] sp_all_places := by
  refine (F_all_places w.params).okE sc_all_places (fun vs H Q E h => ?_) (fun cdv A outer s H vs Q E hr h => ?_)
  · obtain ⟨t, x, rfl, _⟩ := h
    rfl
  · obtain ⟨t, x, rfl, b, q⟩ := h
    refine ⟨_, (pss_cons (ps_set (i := 2) sc_all_places.nd rfl (by first | exact Or.inl rfl | exact Or.inr rfl) (pe_make (mk_Board _) c_Board (hr.mono (by first | decide | omega)) rfl (T.of (g_Board _)) (b_Board___init__ _) .nil passE (pa_cons (pv 0) (pa_cons (pv 1) pa_nil))))
      (pss_cons ps_never (pss_cons ps_never (pss_cons ps_never (pss_one ps_never))))), ?_⟩
    exact ⟨_, rfl, _, rfl, fun a dx h1 h2 n => ⟨_, t, x, rfl, b.same (made h1 h2 n), fun H' s' => q _ ((made h1 h2 n).trans s')⟩⟩
def sp_judged : Sp := fun vs H _ E => ∃ (t x : V), vs = [t, x] ∧ BadS H x ∧ ∀ H', Same H H' → E (.ref 96) none H'
theorem ok_judged (T : TX (KX w.params) mg) (c_Board : FnOk P w (KX w.params) mg base (CXE P w base) 3 380 fd_Board___init__ ["self", "tale", "strictness"] sp_Board___init__) : FnOk P w (KX w.params) mg base (CXE P w base) 5 458 fd_judged ["tale", "strictness"] sp_judged := by
  refine (F_judged w.params).okE sc_judged (fun vs H Q E h => ?_) (fun cdv A outer s H vs Q E hr h => ?_)
  · obtain ⟨t, x, rfl, _⟩ := h
    rfl
  · obtain ⟨t, x, rfl, b, q⟩ := h
    refine ⟨_, (pss_cons (ps_set (i := 2) sc_judged.nd rfl (by first | exact Or.inl rfl | exact Or.inr rfl) (pe_make (mk_Board _) c_Board (hr.mono (by first | decide | omega)) rfl (T.of (g_Board _)) (b_Board___init__ _) .nil passE (pa_cons (pv 0) (pa_cons (pv 1) pa_nil))))
      (pss_cons ps_never (pss_cons ps_never (pss_cons ps_never (pss_one ps_never))))), ?_⟩
    exact ⟨_, rfl, _, rfl, fun a dx h1 h2 n => ⟨_, t, x, rfl, b.same (made h1 h2 n), fun H' s' => q _ ((made h1 h2 n).trans s')⟩⟩
end
end K52
namespace K52
open PySem PySem.Spec PyProof.Rows TJ L2
section
variable {P : Program} {w : World} {mg : Str → Option Value} {base : Heap}
inductive Ev
  | beg (h : Int) (n v x : V)
  | fin (h : Int) (a : V)
def EvAt (K : PySem.W.Frag) (H : Hp) : Ev → V → Prop
  | .beg h n v x, y => ∃ p, y = .ref p ∧ SqT K H p [.str "begin", .int h, n, v, x]
  | .fin h a, y => ∃ p, y = .ref p ∧ SqT K H p [.str "end", .int h, a]
structure Rc where
  h : Int
  n : V
  v : V
  x : V
  a : V
  b : Nat
  e : Option Nat
def endV : Option Nat → V
  | none => .non
  | some i => .int i
def RcAt (K : PySem.W.Frag) (H : Hp) (r : Rc) (y : V) : Prop := ∃ p, y = .ref p ∧ SqT K H p [.int r.h, r.n, r.v, r.x, r.a, .int r.b, endV r.e]
def Tups (K : PySem.W.Frag) (H H' : Hp) : Prop := ∀ a xs, SqT K H a xs → SqT K H' a xs
theorem Tups.of {K : PySem.W.Frag} {H H' : Hp} (s : Same H H') : Tups K H H' := fun _ _ q => s.seqT q
theorem Tups.trans {K : PySem.W.Frag} {H H1 H2 : Hp} (a : Tups K H H1) (b : Tups K H1 H2) : Tups K H H2 := fun _ _ q => b _ _ (a _ _ q)
theorem Tups.dict {K : PySem.W.Frag} {H : Hp} {l : Addr} {o : HO} {kvs : List (Key × V)} (e : H l = some (.dK kvs)) : Tups K H (upd H l o) := fun a xs h => by
  rcases h with (h | ⟨ob, h⟩) | h
  · exact .inl (.inl (by rw [upd_ne (ne_of h e (by intro z; cases z))]; exact h))
  · exact .inl (.inr ⟨ob, by rw [upd_ne (ne_of h e (by intro z; cases z))]; exact h⟩)
  · exact .inr h
theorem all2_snoc {α β : Type} {R : α → β → Prop} {x : α} {y : β} : ∀ {xs : List α} {ys : List β}, All2 R xs ys → R x y → All2 R (xs ++ [x]) (ys ++ [y])
  | _, _, .nil, h => .cons h .nil
  | _, _, .cons a r, h => .cons a (all2_snoc r h)
def lastI (h : Int) (hs : List Int) : Option Nat := (hs.foldl (fun (acc : Nat × Option Nat) k => (acc.1 + 1, if k = h then some acc.1 else acc.2)) (0, none)).2
def dstep (i : Nat) (rs : List Rc) : Ev → List Rc
  | .beg h n v x => rs ++ [⟨h, n, v, x, .non, i, none⟩]
  | .fin h a => match lastI h (rs.map Rc.h) with | some j => rs.modify j (fun r => { r with a := a, e := some i }) | none => rs
def dAll : Nat → List Rc → List Ev → List Rc
  | _, rs, [] => rs
  | i, rs, e :: es => dAll (i + 1) (dstep i rs e) es
def dWf : Nat → List Rc → List Ev → Prop
  | _, _, [] => True
  | i, rs, e :: es => (∀ h a, e = .fin h a → (lastI h (rs.map Rc.h)).isSome = true) ∧ dWf (i + 1) (dstep i rs e) es
theorem EvAt.tups {K : PySem.W.Frag} {H H' : Hp} (t : Tups K H H') : ∀ {e : Ev} {y : V}, EvAt K H e y → EvAt K H' e y
  | .beg h n v x, _, z => z.elim fun p z => ⟨p, z.1, t _ _ z.2⟩
  | .fin h a, _, z => z.elim fun p z => ⟨p, z.1, t _ _ z.2⟩
end
end K52
namespace K52
open PySem PySem.Spec PyProof.Rows TJ L2
section
variable {P : Program} {w : World} {mg : Str → Option Value} {base : Heap}
def HandAt (H : Hp) (r : Addr) : Prop := ∃ a b c : Int, H r = some (.lst [.int a, .int b, .int c]) ∧ 0 ≤ b ∧ b < 4294967296 ∧ 0 ≤ c ∧ c < 2
theorem HandAt.same {H H' : Hp} {r : Addr} (h : HandAt H r) (s : Same H H') : HandAt H' r := by
  obtain ⟨a, b, c, e, z⟩ := h
  exact ⟨a, b, c, s _ _ e, z⟩
theorem HandAt.fresh {r p : Addr} {H : Hp} (h : HandAt H r) (e : H p = none) : p ≠ r := fun z => by
  obtain ⟨a, b, c, e2, _⟩ := h
  rw [z, e2] at e
  cases e
structure Hw (r : Addr) (H H' : Hp) : Prop where
  k : Kept r H H'
  r : HandAt H' r
theorem Hw.trans {r : Addr} {H H1 H2 : Hp} (a : Hw r H H1) (b : Hw r H1 H2) : Hw r H H2 := ⟨a.k.trans b.k, b.r⟩
theorem Hw.same {r : Addr} {H H1 H2 : Hp} (a : Hw r H H1) (s : Same H1 H2) : Hw r H H2 := ⟨a.k.trans s.kept, a.r.same s⟩
theorem HandAt.hw {r : Addr} {H : Hp} (h : HandAt H r) : Hw r H H := ⟨.refl, h⟩
theorem isPds_ints {K : PySem.W.Frag} {H : Hp} : ∀ ns : List Int, IsPds K H (ns.map PyData.int) (ns.map V.int)
  | [] => rfl
  | n :: ns => ⟨.int n, ns.map V.int, rfl, rfl, isPds_ints ns⟩
theorem plain_ints : ∀ ns : List Int, plainPs (ns.map PyData.int) = true
  | [] => rfl
  | n :: ns => by
    show (true && plainPs (ns.map PyData.int)) = true
    rw [plain_ints ns]
    rfl
theorem depth_ints : ∀ ns : List Int, PyData.depthAll (ns.map PyData.int) ≤ 1
  | [] => by decide
  | n :: ns => by
    have := depth_ints ns
    show max (PyData.depth (.int n)) (PyData.depthAll (ns.map PyData.int)) ≤ 1
    exact Nat.max_le.mpr ⟨(show (0 : Nat) ≤ 1 by decide), this⟩
def sp__law_hand (K : PySem.W.Frag) : Sp := fun vs H Q _ => ∃ (a : Addr) (ns : List Int) (c k : Int), vs = [.ref a, .int c, .int k] ∧ SqL K H a (ns.map V.int) ∧ 0 ≤ k ∧ k < 1000 ∧ ∀ r H', Same H H' → HandAt H' r → H r = none → Q (.ref r) H'
theorem ok__law_hand (T : TX (KX w.params) mg) : FnOk P w (KX w.params) mg base CX0 1 465 fd__law_hand ["script", "cell", "k"] (sp__law_hand (KX w.params)) := by
  refine (F__law_hand w.params).ok sc__law_hand (fun vs H Q E h => ?_) (fun cdv A outer s H vs Q E hr h => ?_)
  · obtain ⟨a, ns, c, k, rfl, _⟩ := h
    rfl
  · obtain ⟨a, ns, c, k, rfl, sq, hk0, hk1, q⟩ := h
    refine ⟨_, (pss_cons (ps_set (i := 3) sc__law_hand.nd rfl (by first | exact Or.inl rfl | exact Or.inr rfl) pe_int)
      (pss_cons (ps_if (pt_cmpR (op_neP hr) (pv 0) (pe_lst pa_nil) (nomark _))
      (pss_one (ps_set (i := 3) sc__law_hand.nd rfl (by first | exact Or.inl rfl | exact Or.inr rfl) (pe_op op_mod (pe_callB (call_sumA rfl) rfl (T.no (n_sum _)) boot_sum (pa_cons (pv 0) pa_nil)) pe_int)))
      pss_nil)
      (pss_one (ps_ret (pe_lst (pa_cons (pv 1) (pa_cons (pe_op op_mod (pe_op op_mul (pe_op opAdd (pe_op opAdd (pe_op op_mod (pv 1) pe_int) (pe_op op_mul pe_int (pv 2))) pe_int) pe_int) pe_int) (pa_cons (pv 3) pa_nil)))))))), ?_⟩
    refine seq_asg ?_
    refine g_name ?_
    refine seq_any (fun σ1 H1 => Same H H1 ∧ ∃ y : Int, (0 ≤ y ∧ y < 2) ∧ σ1 = [some (.ref a), some (.int c), some (.int k), some (.int y)]) ?_ (fun tl => ?_)
    rotate_left
    · refine ⟨_, rfl, (show (0 : Nat) ≤ sizeLine by decide), fun p hp => ?_⟩
      have s1 := Same.upd (o := .lst []) hp
      refine ⟨.list (ns.map PyData.int), .list [], ⟨a, _, rfl, s1.seq sq, isPds_ints ns⟩, ⟨p, [], rfl, SqL.of upd_same, rfl⟩, plain_ints ns, rfl, Nat.le_trans (Nat.add_le_add_right (depth_ints ns) 1) (by decide), _, rfl, ?_⟩
      refine ite2 (fun _ => ?_) fun _ => ?_
      · exact ⟨_, rfl, a, ns, rfl, s1.seq sq, _, _, rfl, rfl, (show (0 : Int) < 2 by decide), tl _ _ ⟨s1, _, ⟨Int.emod_nonneg _ (by decide), Int.emod_lt_of_pos _ (by decide)⟩, rfl⟩⟩
      · exact tl _ _ ⟨s1, 0, by decide, rfl⟩
    rintro σ1 H1 ⟨s1, y, ⟨hy0, hy1⟩, rfl⟩
    refine ⟨_, rfl, _, rfl, _, _, rfl, rfl, (show (0 : Int) < 2147483629 by decide), ?_⟩
    refine ⟨_, rfl, _, _, rfl, rfl, .inl (by decide), .inl ⟨_, _, rfl, rfl, .inl ⟨_, _, rfl, rfl, ?_⟩⟩⟩
    refine ⟨_, _, rfl, rfl, .inr (by decide), _, _, rfl, rfl, (show (0 : Int) < 2147483647 by decide), _, rfl, (show (3 : Nat) ≤ sizeLine by decide), fun r hr => ?_⟩
    have h0 : 0 ≤ ((c % 2147483629 + 7919 * k + 1) * 48271) % 2147483647 := Int.emod_nonneg _ (by decide)
    have h1 : ((c % 2147483629 + 7919 * k + 1) * 48271) % 2147483647 < 2147483647 := Int.emod_lt_of_pos _ (by decide)
    exact q r _ (s1.trans (Same.upd hr)) ⟨_, _, _, upd_same, h0, by omega, hy0, hy1⟩ (s1.free hr)
def sp__law_draw : Sp := fun vs H Q _ => ∃ (r : Addr) (m : Int), vs = [.ref r, .int m] ∧ HandAt H r ∧ 0 < m ∧ m < 2 ^ 64 ∧ ∀ t H', Hw r H H' → 0 ≤ t → t < m → Q (.int t) H'
theorem ok__law_draw (T : TX (KX w.params) mg) : FnOk P w (KX w.params) mg base CX0 1 472 fd__law_draw ["hand", "limit"] sp__law_draw := by
  refine (F__law_draw w.params).ok sc__law_draw (fun vs H Q E h => ?_) (fun cdv A outer s H vs Q E hr h => ?_)
  · obtain ⟨r, m, rfl, _⟩ := h
    rfl
  · obtain ⟨r, m, rfl, ⟨a, b, c, e, hb0, hb1, hc0, hc1⟩, hm, hm', q⟩ := h
    refine ⟨_, (pss_cons (ps_if (pt_cmpR opEq (pe_ix ix_seq (pv 0) pe_int (fun _ _ => rfl)) pe_int (nomark _))
      (pss_cons (ps_set (i := 2) sc__law_draw.nd rfl (by first | exact Or.inl rfl | exact Or.inr rfl) (pe_op op_mod (pe_ix ix_seq (pv 0) pe_int (fun _ _ => rfl)) (pv 1)))
      (pss_cons (ps_asg (pe_op op_fdivB (pe_ix ix_seq (pv 0) pe_int (fun _ _ => rfl)) (pv 1)) (pg_sub (pv 0) pe_int set_list))
      (pss_one (ps_ret (pv 2)))))
      pss_nil)
      (pss_cons (ps_asg (pe_op opAdd (pe_op op_mod (pe_op op_mul (pe_ix ix_seq (pv 0) pe_int (fun _ _ => rfl)) (pe_ix ix_seq (pv 0) pe_int (fun _ _ => rfl))) pe_int) pe_int) (pg_sub (pv 0) pe_int set_list))
      (pss_one (ps_ret (pe_op op_mod (pe_op op_fdivB (pe_op op_mod (pe_op op_mul (pe_ix ix_seq (pv 0) pe_int (fun _ _ => rfl)) pe_int) pe_int) pe_int) (pv 1)))))), ?_⟩
    refine ⟨_, rfl, .inl ⟨r, _, 2, .int c, rfl, rfl, SqL.of e, rfl, rfl, _, rfl, ?_⟩⟩
    refine ite2 (fun _ => ?_) fun _ => ?_
    · refine ⟨_, rfl, .inl ⟨r, _, 0, .int a, rfl, rfl, SqL.of e, rfl, _, rfl, _, _, rfl, rfl, hm, ?_⟩⟩
      refine ⟨_, rfl, .inl ⟨r, _, 0, .int a, rfl, rfl, SqL.of e, rfl, _, rfl, _, _, rfl, rfl, ⟨hm, hm'⟩, ?_⟩⟩
      refine ⟨_, rfl, r, _, 0, 0, rfl, rfl, e, rfl, ?_⟩
      exact ⟨_, rfl, q _ _ ⟨.set, _, b, c, upd_same, hb0, hb1, hc0, hc1⟩ (Int.emod_nonneg _ (by omega)) (Int.emod_lt_of_pos _ hm)⟩
    · have h0 : 0 ≤ (b * b) % 2147483629 := Int.emod_nonneg _ (by decide)
      have h1 : (b * b) % 2147483629 < 2147483629 := Int.emod_lt_of_pos _ (by decide)
      refine ⟨_, rfl, .inl ⟨r, _, 1, .int b, rfl, rfl, SqL.of e, rfl, _, rfl, .inl ⟨r, _, 1, .int b, rfl, rfl, SqL.of e, rfl, ?_⟩⟩⟩
      refine ⟨_, _, rfl, rfl, .inl ⟨by omega, by omega⟩, _, _, rfl, rfl, (show (0 : Int) < 2147483629 by decide), .inl ⟨_, _, rfl, rfl, ?_⟩⟩
      refine ⟨_, rfl, r, _, 1, 1, rfl, rfl, e, rfl, ?_⟩
      refine ⟨_, rfl, .inl ⟨r, _, 1, .int _, rfl, rfl, SqL.of upd_same, rfl, ?_⟩⟩
      refine ⟨_, _, rfl, rfl, .inr (by decide), _, _, rfl, rfl, (show (0 : Int) < 2147483563 by decide), _, _, rfl, rfl, ⟨by decide, by decide⟩, _, rfl, _, _, rfl, rfl, hm, ?_⟩
      exact q _ _ ⟨.set, a, _, c, upd_same, by omega, by omega, hc0, hc1⟩ (Int.emod_nonneg _ (by omega)) (Int.emod_lt_of_pos _ hm)
end
end K52
namespace K52
open PySem PySem.Spec PyProof.Rows TJ L2
section
variable {P : Program} {w : World} {mg : Str → Option Value} {base : Heap}
def near (i : Int) : Prop := -1000000000 ≤ i ∧ i ≤ 1000000000
inductive DeedOk : Str → Str → Dt → Prop
  | regR : DeedOk "register" "read" .non
  | regW {i : Int} : near i → DeedOk "register" "write" (.int i)
  | cntR : DeedOk "counter" "read" .non
  | cntA {i : Int} : near i → DeedOk "counter" "add" (.int i)
  | quP {i : Int} : near i → DeedOk "queue" "put" (.int i)
  | quT : DeedOk "queue" "take" .non
  | setP {i : Int} : near i → DeedOk "set" "put" (.int i)
  | setC {i : Int} : near i → DeedOk "set" "cut" (.int i)
  | setH {i : Int} : near i → DeedOk "set" "has" (.int i)
  | celR : DeedOk "cell" "read" .non
  | celW {i : Int} : near i → DeedOk "cell" "write" (.int i)
  | celS {i j : Int} : near i → near j → DeedOk "cell" "swap" (.tup [.int i, .int j])
def kinds5 : List Str := ["register", "counter", "queue", "set", "cell"]
def verbsT (k : Str) : List Str := if k = "register" then ["write", "read"] else if k = "counter" then ["add", "read"] else if k = "queue" then ["put", "take"] else if k = "set" then ["put", "cut", "has"] else ["read", "write", "swap", "swap"]
def VerbOk (k v : Str) : Prop := ((v = "read" ∨ v = "take") ∧ DeedOk k v .non) ∨ (v = "swap" ∧ ∀ i j, near i → near j → DeedOk k v (.tup [.int i, .int j])) ∨ (v ≠ "read" ∧ v ≠ "take" ∧ v ≠ "swap" ∧ ∀ i, near i → DeedOk k v (.int i))
theorem verb_okT {k v : Str} (hk : k ∈ kinds5) (hv : v ∈ verbsT k) : VerbOk k v := by
  unfold kinds5 at hk
  simp only [List.mem_cons, List.not_mem_nil, or_false] at hk
  rcases hk with rfl | rfl | rfl | rfl | rfl
  · rw [show verbsT "register" = (["write", "read"] : List Str) by decide +kernel] at hv
    simp only [List.mem_cons, List.not_mem_nil, or_false] at hv
    rcases hv with rfl | rfl
    · exact .inr (.inr ⟨by decide +kernel, by decide +kernel, by decide +kernel, fun i h => .regW h⟩)
    · exact .inl ⟨.inl rfl, .regR⟩
  · rw [show verbsT "counter" = (["add", "read"] : List Str) by decide +kernel] at hv
    simp only [List.mem_cons, List.not_mem_nil, or_false] at hv
    rcases hv with rfl | rfl
    · exact .inr (.inr ⟨by decide +kernel, by decide +kernel, by decide +kernel, fun i h => .cntA h⟩)
    · exact .inl ⟨.inl rfl, .cntR⟩
  · rw [show verbsT "queue" = (["put", "take"] : List Str) by decide +kernel] at hv
    simp only [List.mem_cons, List.not_mem_nil, or_false] at hv
    rcases hv with rfl | rfl
    · exact .inr (.inr ⟨by decide +kernel, by decide +kernel, by decide +kernel, fun i h => .quP h⟩)
    · exact .inl ⟨.inr rfl, .quT⟩
  · rw [show verbsT "set" = (["put", "cut", "has"] : List Str) by decide +kernel] at hv
    simp only [List.mem_cons, List.not_mem_nil, or_false] at hv
    rcases hv with rfl | rfl | rfl
    · exact .inr (.inr ⟨by decide +kernel, by decide +kernel, by decide +kernel, fun i h => .setP h⟩)
    · exact .inr (.inr ⟨by decide +kernel, by decide +kernel, by decide +kernel, fun i h => .setC h⟩)
    · exact .inr (.inr ⟨by decide +kernel, by decide +kernel, by decide +kernel, fun i h => .setH h⟩)
  · rw [show verbsT "cell" = (["read", "write", "swap", "swap"] : List Str) by decide +kernel] at hv
    simp only [List.mem_cons, List.not_mem_nil, or_false] at hv
    rcases hv with rfl | rfl | rfl | rfl
    · exact .inl ⟨.inl rfl, .celR⟩
    · exact .inr (.inr ⟨by decide +kernel, by decide +kernel, by decide +kernel, fun i h => .celW h⟩)
    · exact .inr (.inl ⟨rfl, fun i j h1 h2 => .celS h1 h2⟩)
    · exact .inr (.inl ⟨rfl, fun i j h1 h2 => .celS h1 h2⟩)
theorem inV_str (z : Str) (ws : List Str) : inV (.str z) (ws.map V.str) = decide (z ∈ ws) := by
  unfold inV
  rw [List.any_map, Bool.eq_iff_iff, List.any_eq_true, decide_eq_true_eq]
  constructor
  · rintro ⟨x, hx, e⟩
    have e : x = z := eq_of_beq (show (x == z) = true from e)
    rw [← e]
    exact hx
  · exact fun h => ⟨z, h, (show (z == z) = true from beq_self_eq_true z)⟩
theorem same_of_kept {L : List Addr} {H H' : Hp} (k : KeptL L H H') (n : ∀ l ∈ L, H l = none) : Same H H' := fun b o e => k b o (fun z => by rw [n b z] at e; cases e) e
structure WordsAt (H : Hp) (p : Addr) (n : Nat) (f : Str → Option (List Str)) : Prop where
  ex : ∃ kvs : List (Key × V), H p = some (.dK kvs) ∧ kvs.length ≤ n ∧ ∀ k ws, f k = some ws → ∃ l, valV kvs (.inr k) = some (.ref l) ∧ H l = some (.lst (ws.map V.str))
theorem putK_lenE (kvs : List (Key × V)) (k : Key) (v : V) : (putK kvs k v).length ≤ kvs.length + 1 := by
  unfold putK
  split
  · rw [List.length_map]; exact Nat.le_succ _
  · rw [List.length_append]; exact Nat.le_refl _
theorem WordsAt.put {H : Hp} {p l : Addr} {n : Nat} {f : Str → Option (List Str)} {kvs : List (Key × V)} {k : Str} {ws : List Str} (hl : H l = none) (e : H p = some (.dK kvs)) (hn : kvs.length ≤ n) (h : ∀ k ws, f k = some ws → ∃ l, valV kvs (.inr k) = some (.ref l) ∧ H l = some (.lst (ws.map V.str))) :
    ∃ H', H' = upd (upd H l (.lst (ws.map V.str))) p (.dK (putK kvs (.inr k) (.ref l))) ∧ WordsAt H' p (n + 1) (fun j => if j = k then some ws else f j) ∧ KeptL [p] H H' := by
  have np : p ≠ l := ne_of_none e hl
  refine ⟨_, rfl, ⟨_, upd_same, Nat.le_trans (putK_lenE _ _ _) (Nat.succ_le_succ hn), fun j us hj => ?_⟩, fun b o hb eb => ?_⟩
  · by_cases z : j = k
    · subst z
      rw [if_pos rfl] at hj
      cases hj
      refine ⟨l, by rw [valV_put, if_pos rfl], ?_⟩
      rw [upd_ne np.symm]
      exact upd_same
    · rw [if_neg z] at hj
      obtain ⟨m, e1, e2⟩ := h j us hj
      refine ⟨m, by rw [valV_put, if_neg (fun y => z (Sum.inr.inj y))]; exact e1, ?_⟩
      have nm : m ≠ p := fun y => by rw [y, e] at e2; cases e2
      rw [upd_ne nm, upd_ne (ne_of_none e2 hl)]
      exact e2
  · have nb : b ≠ p := fun z => hb (by rw [z]; exact List.mem_singleton.mpr rfl)
    rw [upd_ne nb, upd_ne (ne_of_none eb hl)]
    exact eb
theorem words3 {H : Hp} {p l1 l2 l3 : Addr} {k1 k2 k3 : Str} {w1 w2 w3 : List Str} (hp : H p = none) (h1 : upd H p (.dK []) l1 = none) (h2 : upd (upd H p (.dK [])) l1 (.lst (w1.map V.str)) l2 = none)
    (h3 : upd (upd (upd H p (.dK [])) l1 (.lst (w1.map V.str))) l2 (.lst (w2.map V.str)) l3 = none) (n12 : k1 ≠ k2) (n13 : k1 ≠ k3) (n23 : k2 ≠ k3) :
    upd (upd (upd (upd H p (.dK [])) l1 (.lst (w1.map V.str))) l2 (.lst (w2.map V.str))) l3 (.lst (w3.map V.str)) p = some (.dK []) ∧
    ∃ H', H' = upd (upd (upd (upd (upd H p (.dK [])) l1 (.lst (w1.map V.str))) l2 (.lst (w2.map V.str))) l3 (.lst (w3.map V.str))) p (.dK [(.inr k1, .ref l1), (.inr k2, .ref l2), (.inr k3, .ref l3)]) ∧ Same H H' ∧
      H' p = some (.dK [(.inr k1, .ref l1), (.inr k2, .ref l2), (.inr k3, .ref l3)]) ∧ ∀ k ws, (if k = k1 then some w1 else if k = k2 then some w2 else if k = k3 then some w3 else none) = some ws → ∃ l, valV [((.inr k1 : Key), V.ref l1), (.inr k2, .ref l2), (.inr k3, .ref l3)] (.inr k) = some (.ref l) ∧ H' l = some (.lst (ws.map V.str)) := by
  have p1 : p ≠ l1 := ne_of_none upd_same h1
  have p2 : p ≠ l2 := ne_of_none (by rw [upd_ne p1]; exact upd_same) h2
  have p3 : p ≠ l3 := ne_of_none (by rw [upd_ne p2, upd_ne p1]; exact upd_same) h3
  have a12 : l1 ≠ l2 := ne_of_none upd_same h2
  have a13 : l1 ≠ l3 := ne_of_none (by rw [upd_ne a12]; exact upd_same) h3
  have a23 : l2 ≠ l3 := ne_of_none upd_same h3
  refine ⟨by rw [upd_ne p3, upd_ne p2, upd_ne p1]; exact upd_same, _, rfl, fun b o e => ?_, upd_same, fun k ws e => ?_⟩
  · rw [upd_ne (ne_of_none e hp)]
    exact ((((Same.upd hp).trans (Same.upd h1)).trans (Same.upd h2)).trans (Same.upd h3)) b o e
  · have ne : ∀ {a b : Str}, a ≠ b → (Sum.inr a : Key) ≠ Sum.inr b := fun h e => h (Sum.inr.inj e)
    by_cases z1 : k = k1
    · rw [if_pos z1] at e
      cases e
      exact ⟨l1, by rw [z1]; exact valV_pos rfl, by rw [upd_ne p1.symm, upd_ne a13, upd_ne a12]; exact upd_same⟩
    · rw [if_neg z1] at e
      by_cases z2 : k = k2
      · rw [if_pos z2] at e
        cases e
        exact ⟨l2, by rw [z2, valV_neg (ne n12)]; exact valV_pos rfl, by rw [upd_ne p2.symm, upd_ne a23]; exact upd_same⟩
      · rw [if_neg z2] at e
        by_cases z3 : k = k3
        · rw [if_pos z3] at e
          cases e
          exact ⟨l3, by rw [z3, valV_neg (ne n13), valV_neg (ne n23)]; exact valV_pos rfl, by rw [upd_ne p3.symm]; exact upd_same⟩
        · rw [if_neg z3] at e
          cases e
def WorthIn (H : Hp) (d : Dt) (x : V) : Prop := ∀ a b : Int, d = .tup [.int a, .int b] → ∃ t, x = .ref t ∧ H t = some (.tup [.int a, .int b])
theorem e9 : (10 : Int) ^ (9 : Int).toNat = 1000000000 := by decide
theorem p9 : CPow 10 9 := ⟨by decide, by decide, by decide⟩
def sp__law_worth : Sp := fun vs H Q _ => ∃ r : Addr, vs = [.ref r] ∧ HandAt H r ∧ ∀ i H', Hw r H H' → near i → Q (.int i) H'
theorem ok__law_worth (T : TX (KX w.params) mg) (c__law_draw : Cal P w (KX w.params) mg base "_law_draw" ["hand", "limit"] 1 sp__law_draw) : FnOk P w (KX w.params) mg base CX0 2 491 fd__law_worth ["hand"] sp__law_worth := by
  refine (F__law_worth w.params).ok sc__law_worth (fun vs H Q E h => ?_) (fun cdv A outer s H vs Q E hr h => ?_)
  · obtain ⟨r, rfl, _⟩ := h
    rfl
  · obtain ⟨r, rfl, R, q⟩ := h
    refine ⟨_, (pss_cons (ps_if (pt_cmpR opEq (pe_cal c__law_draw (hr.mono (by first | decide | omega)) rfl (pa_cons (pv 0) (pa_cons pe_int pa_nil))) pe_int (nomark _))
      (pss_one (ps_ret (pe_ix ix_seq (pe_lst (pa_cons (pe_op op_pow pe_int pe_int) (pa_cons (pe_op op_sub pe_int (pe_op op_pow pe_int pe_int)) (pa_cons (pe_op op_sub (pe_cal c__law_draw (hr.mono (by first | decide | omega)) rfl (pa_cons (pv 0) (pa_cons (pe_op opAdd (pe_op op_mul pe_int (pe_op op_pow pe_int pe_int)) pe_int) pa_nil))) (pe_op op_pow pe_int pe_int)) pa_nil)))) (pe_cal c__law_draw (hr.mono (by first | decide | omega)) rfl (pa_cons (pv 0) (pa_cons pe_int pa_nil))) (fun _ _ => rfl))))
      pss_nil)
      (pss_one (ps_ret (pe_ix ix_seq (pe_lst (pa_cons pe_int (pa_cons pe_int (pa_cons pe_int (pa_cons pe_int (pa_cons (pe_un un_neg pe_int) pa_nil)))))) (pe_cal c__law_draw (hr.mono (by first | decide | omega)) rfl (pa_cons (pv 0) (pa_cons pe_int pa_nil))) (fun _ _ => rfl))))), ?_⟩
    refine ⟨_, rfl, r, 6, rfl, R, by decide, by decide, fun t H1 w1 _ _ => ⟨rfl, _, rfl, ?_⟩⟩
    refine ite2 (fun _ => ?_) fun _ => ?_
    · refine ⟨_, _, rfl, rfl, p9, _, _, rfl, rfl, p9, _, _, rfl, rfl, _, rfl, _, _, rfl, rfl, p9, _, _, rfl, rfl, .inl ⟨by decide, by decide⟩, .inl ⟨_, _, rfl, rfl, r, _, rfl, w1.r, by decide, by decide, fun t2 H2 w2 h2 h3 => ?_⟩⟩
      rw [e9] at h3
      refine ⟨_, _, rfl, rfl, p9, _, _, rfl, rfl, (show (3 : Nat) ≤ sizeLine by decide), fun l hl => ?_⟩
      rw [e9]
      have w12 := w1.trans w2
      refine ⟨_, rfl, r, 3, rfl, w12.r.same (Same.upd hl), by decide, by decide, fun t3 H3 w3 h4 h5 => ?_⟩
      obtain ⟨v, hv, hm⟩ := atI_of (xs := [V.int 1000000000, .int (0 - 1000000000), .int (t2 - 1000000000)]) h4 h5
      refine .inl ⟨l, _, t3, v, rfl, rfl, SqL.of (w3.k _ _ (w12.r.fresh hl) upd_same), hv, ?_⟩
      have w13 := (w12.same (Same.upd (o := .lst [V.int 1000000000, .int (0 - 1000000000), .int (t2 - 1000000000)]) hl)).trans w3
      simp only [List.mem_cons, List.not_mem_nil, or_false] at hm
      rcases hm with rfl | rfl | rfl
      · exact q _ _ w13 ⟨by decide, by decide⟩
      · exact q _ _ w13 ⟨by decide, by decide⟩
      · exact q _ _ w13 ⟨by omega, by omega⟩
    · refine ⟨_, rfl, (show (5 : Nat) ≤ sizeLine by decide), fun l hl => ⟨_, rfl, r, 5, rfl, w1.r.same (Same.upd hl), by decide, by decide, fun t2 H2 w2 h0 h1 => ?_⟩⟩
      obtain ⟨v, hv, hm⟩ := atI_of (xs := [V.int 0, .int 1, .int 2, .int 3, .int (-1)]) h0 h1
      refine .inl ⟨l, _, t2, v, rfl, rfl, SqL.of (w2.k _ _ (w1.r.fresh hl) upd_same), hv, ?_⟩
      have w12 := (w1.same (Same.upd (o := .lst [V.int 0, .int 1, .int 2, .int 3, .int (-1)]) hl)).trans w2
      simp only [List.mem_cons, List.not_mem_nil, or_false] at hm
      rcases hm with rfl | rfl | rfl | rfl | rfl <;> exact q _ _ w12 ⟨by decide, by decide⟩
def sp__law_act (K : PySem.W.Frag) : Sp := fun vs H Q _ => ∃ (r : Addr) (k : Str), vs = [.ref r, .str k] ∧ HandAt H r ∧ k ∈ kinds5 ∧ ∀ p v x d H', Hw r H H' → H' p = some (.tup [.str v, x]) → H p = none → DeedOk k v d → IsDt K H' d x → WorthIn H' d x → Q (.ref p) H'
theorem ok__law_act (T : TX (KX w.params) mg) (c__law_draw : Cal P w (KX w.params) mg base "_law_draw" ["hand", "limit"] 1 sp__law_draw) (c__law_worth : Cal P w (KX w.params) mg base "_law_worth" ["hand"] 2 sp__law_worth) : FnOk P w (KX w.params) mg base CX0 3 498 fd__law_act ["hand", "kind"] (sp__law_act (KX w.params)) := by
  refine (F__law_act w.params).ok sc__law_act (fun vs H Q E h => ?_) (fun cdv A outer s H vs Q E hr h => ?_)
  · obtain ⟨r, k, rfl, _⟩ := h
    rfl
  · obtain ⟨r, k, rfl, R, hk, q⟩ := h
    refine q_of (qss_cons (qs_set (i := 2) sc__law_act.nd rfl (by first | exact Or.inl rfl | exact Or.inr rfl) (qe_disp (qps_cons (QE.mk pe_str) (qe_lst (qa_cons (QE.mk pe_str) (qa_cons (QE.mk pe_str) qa_nil))) (qps_cons (QE.mk pe_str) (qe_lst (qa_cons (QE.mk pe_str) (qa_cons (QE.mk pe_str) qa_nil))) (qps_cons (QE.mk pe_str) (qe_lst (qa_cons (QE.mk pe_str) (qa_cons (QE.mk pe_str) qa_nil))) qps_nil))) rfl rfl (by simp) (by decide)))
      (qss_cons (qs_dput (hu_of hr) (QE.mk (pv 2)) (QE.mk pe_str) (qe_lst (qa_cons (QE.mk pe_str) (qa_cons (QE.mk pe_str) (qa_cons (QE.mk pe_str) qa_nil)))) rfl)
      (qss_cons (qs_dput (hu_of hr) (QE.mk (pv 2)) (QE.mk pe_str) (qe_lst (qa_cons (QE.mk pe_str) (qa_cons (QE.mk pe_str) (qa_cons (QE.mk pe_str) (qa_cons (QE.mk pe_str) qa_nil))))) rfl)
      (qss_cons (QS.mk (ps_set (i := 3) sc__law_act.nd rfl (by first | exact Or.inl rfl | exact Or.inr rfl) (pe_ix ix_seq (pe_dget (hu_of hr) (pv 2) (pv 1) (fun _ _ => rfl)) (pe_cal c__law_draw (hr.mono (by first | decide | omega)) rfl (pa_cons (pv 0) (pa_cons (pe_callB callLen rfl (T.no (n_len _)) boot_len (pa_cons (pe_dget (hu_of hr) (pv 2) (pv 1) (fun _ _ => rfl)) pa_nil)) pa_nil))) (fun _ _ => rfl))))
      (qss_cons (QS.mk (ps_if (pt_cmpR op_in_seq (pv 3) (pe_tup (pa_cons pe_str (pa_cons pe_str pa_nil))) (by with_unfolding_all rfl))
      (pss_one (ps_ret (pe_tup (pa_cons (pv 3) (pa_cons pe_non pa_nil)))))
      pss_nil))
      (qss_cons (QS.mk (ps_if (pt_cmpR opEq (pv 3) pe_str (nomark _))
      (pss_one (ps_ret (pe_tup (pa_cons (pv 3) (pa_cons (pe_tup (pa_cons (pe_cal c__law_worth (hr.mono (by first | decide | omega)) rfl (pa_cons (pv 0) pa_nil)) (pa_cons (pe_cal c__law_worth (hr.mono (by first | decide | omega)) rfl (pa_cons (pv 0) pa_nil)) pa_nil))) pa_nil)))))
      pss_nil))
      (qss_one (QS.mk (ps_ret (pe_tup (pa_cons (pv 3) (pa_cons (pe_cal c__law_worth (hr.mono (by first | decide | omega)) rfl (pa_cons (pv 0) pa_nil)) pa_nil)))))))))))) ?_
    refine seq_asg ?_
    intro p hp
    refine ⟨(show (2 : Nat) ≤ sizeLine by decide), fun l1 h1 => ⟨(show (2 : Nat) ≤ sizeLine by decide), fun l2 h2 => ⟨(show (2 : Nat) ≤ sizeLine by decide), fun l3 h3 => ?_⟩⟩⟩
    obtain ⟨ep, H2, eH2, s2, e2, f2⟩ := words3 (H := H) (k1 := "register") (k2 := "counter") (k3 := "queue") (w1 := ["write", "read"]) (w2 := ["add", "read"]) (w3 := ["put", "take"]) hp h1 h2 h3 (by decide +kernel) (by decide +kernel) (by decide +kernel)
    refine ⟨ep, [(.inr "register", .ref l1), (.inr "counter", .ref l2), (.inr "queue", .ref l3)], rfl, (show (3 : Nat) ≤ 15 by decide), ?_⟩
    rw [show mergeK [] [((.inr "register" : Key), V.ref l1), (.inr "counter", .ref l2), (.inr "queue", .ref l3)] = [(.inr "register", .ref l1), (.inr "counter", .ref l2), (.inr "queue", .ref l3)] from rfl]
    refine g_name ?_
    refine (show ∀ A, H2 = A → tSeq _ _ _ _ A from ?_) _ eH2
    intro A eA
    subst eA
    refine ⟨(show (3 : Nat) ≤ sizeLine by decide), fun l4 h4 => ⟨_, rfl, p, _, rfl, DPut.k (k := .inr "set") ((Same.upd h4) _ _ e2) (show (3 : Nat) < sizeLine by decide), ?_⟩⟩
    obtain ⟨H4, eH4, W4, k4⟩ := WordsAt.put (k := "set") (ws := ["put", "cut", "has"]) h4 e2 (n := 3) (Nat.le_refl _) f2
    refine (show ∀ A, H4 = A → tSeq _ _ _ _ A from ?_) _ eH4
    intro A eA
    subst eA
    obtain ⟨kvs4, e4, n4, f4⟩ := W4.ex
    refine ⟨(show (4 : Nat) ≤ sizeLine by decide), fun l5 h5 => ⟨_, rfl, p, _, rfl, DPut.k (k := .inr "cell") ((Same.upd h5) _ _ e4) (Nat.lt_of_le_of_lt n4 (by decide)), ?_⟩⟩
    obtain ⟨H5, eH5, W5, k5⟩ := WordsAt.put (k := "cell") (ws := ["read", "write", "swap", "swap"]) h5 e4 n4 f4
    refine (show ∀ A, H5 = A → tSeq _ _ _ _ A from ?_) _ eH5
    intro A eA
    subst eA
    have s5 : Same H H5 := same_of_kept (L := [p]) ((s2.keptL.trans k4).trans k5) (fun l hl => by rw [List.mem_singleton.mp hl]; exact hp)
    obtain ⟨kvs, e5, _, f5⟩ := W5.ex
    have w5 := R.hw.same s5
    have fk : (if k = "cell" then some ["read", "write", "swap", "swap"] else if k = "set" then some ["put", "cut", "has"] else if k = "register" then some ["write", "read"] else if k = "counter" then some ["add", "read"] else if k = "queue" then some ["put", "take"] else none : Option (List Str)) = some (verbsT k) := by
      have hk' := hk
      unfold kinds5 at hk'
      simp only [List.mem_cons, List.not_mem_nil, or_false] at hk'
      rcases hk' with rfl | rfl | rfl | rfl | rfl <;> decide +kernel
    obtain ⟨l6, v6, e6⟩ := f5 k _ fk
    have dg : DGet H5 p (.str k) (some (.ref l6)) := by
      have := DGet.k (k := .inr k) e5
      rw [v6] at this
      exact this
    refine ⟨_, rfl, _, rfl, p, .ref l6, rfl, dg, _, rfl, _, rfl, _, rfl, p, .ref l6, rfl, dg, .inl ⟨l6, _, rfl, .inl (SqL.of e6), ?_⟩⟩
    have hlen : 0 < (verbsT k).length ∧ (verbsT k).length ≤ 4 := by
      have hk' := hk
      unfold kinds5 at hk'
      simp only [List.mem_cons, List.not_mem_nil, or_false] at hk'
      rcases hk' with rfl | rfl | rfl | rfl | rfl <;> decide +kernel
    refine ⟨r, _, rfl, w5.r, by rw [List.length_map]; omega, by rw [List.length_map]; omega, fun t7 H7 w7 h70 h71 => ?_⟩
    obtain ⟨v0, hv0, hm0⟩ := atI_of (xs := (verbsT k).map V.str) h70 h71
    obtain ⟨v, hv, rfl⟩ := List.mem_map.mp hm0
    have n6 : l6 ≠ r := fun z => by
      obtain ⟨a, b, c, er, _⟩ := w5.r
      rw [z, er] at e6
      cases hws : verbsT k with
      | nil => rw [hws] at hlen; exact absurd hlen.1 (by decide)
      | cons y ys => rw [hws] at e6; cases e6
    refine .inl ⟨l6, _, t7, _, rfl, rfl, SqL.of (w7.k _ _ n6 e6), hv0, ?_⟩
    have w57 := w5.trans w7
    refine ⟨_, rfl, (show (2 : Nat) ≤ sizeLine by decide), fun p8 hp8 => ⟨p8, [V.str "read", .str "take"], rfl, .inr (SqT.of upd_same), rfl, rfl, _, rfl, ?_⟩⟩
    have iv : inV (.str v) [.str "read", .str "take"] = decide (v ∈ (["read", "take"] : List Str)) := inV_str v ["read", "take"]
    rw [if_neg Bool.false_ne_true, iv]
    have w8 := w57.same (Same.upd (o := .tup [.str "read", .str "take"]) hp8)
    generalize upd H7 p8 (.tup [.str "read", .str "take"]) = H8 at w8 ⊢
    have fr : ∀ {H' : Hp} {p' : Addr}, Hw r H H' → H' p' = none → H p' = none := fun {H' p'} hw e => by
      cases z : H p' with
      | none => rfl
      | some o =>
        have nr : p' ≠ r := hw.r.fresh e
        rw [hw.k _ _ nr z] at e
        cases e
    rcases verb_okT hk hv with ⟨hrt, hd⟩ | ⟨hsw, hd⟩ | ⟨h1, h2, h3, hd⟩
    · refine iteP (decide_eq_true (by rcases hrt with rfl | rfl <;> decide +kernel)) ?_
      exact ⟨_, rfl, (show (2 : Nat) ≤ sizeLine by decide), fun p9 hp9 => q p9 v .non .non _ (w8.same (Same.upd hp9)) upd_same (fr w8 hp9) hd rfl (fun _ _ e => by cases e)⟩
    · subst hsw
      refine iteN (by decide +kernel) ⟨_, rfl, rfl, _, rfl, iteP (decide_eq_true rfl) ?_⟩
      refine ⟨_, rfl, _, rfl, r, rfl, w8.r, fun i H9 w9 ni => ⟨_, rfl, r, rfl, w9.r, fun j H10 w10 nj => ⟨(show (2 : Nat) ≤ sizeLine by decide), fun p11 hp11 => ⟨(show (2 : Nat) ≤ sizeLine by decide), fun p12 hp12 => ?_⟩⟩⟩⟩
      have s11 := Same.upd (o := .tup [.int i, .int j]) hp11
      have s12 := s11.trans (Same.upd (o := .tup [.str "swap", .ref p11]) hp12)
      have w10 := (w8.trans w9).trans w10
      exact q p12 "swap" (.ref p11) _ _ (w10.same s12) upd_same (fr (w10.same s11) hp12) (hd i j ni nj) (.mkT ((Same.upd hp12) _ _ upd_same) (.mk2 rfl rfl)) (fun a b e => by cases e; exact ⟨p11, rfl, (Same.upd hp12) _ _ upd_same⟩)
    · refine iteN (fun z => ?_) ⟨_, rfl, rfl, _, rfl, iteN (by rw [decide_eq_false fun e => h3 (by injection e)]; decide) ?_⟩
      · have := of_decide_eq_true z
        simp only [List.mem_cons, List.not_mem_nil, or_false] at this
        rcases this with z | z
        · exact h1 z
        · exact h2 z
      · exact ⟨_, rfl, _, rfl, r, rfl, w8.r, fun i H9 w9 ni => ⟨(show (2 : Nat) ≤ sizeLine by decide), fun p12 hp12 => q p12 v (.int i) _ _ ((w8.trans w9).same (Same.upd hp12)) upd_same (fr (w8.trans w9) hp12) (hd i ni) rfl (fun _ _ e => by cases e)⟩⟩
end
end K52
namespace K52
open PySem PySem.Spec PyProof.Rows TJ L2
section
def oStep (os : List Int) : Ev → List Int
  | .beg h _ _ _ => os ++ [h]
  | .fin h _ => os.filter fun k => decide (k ≠ h)
def oOk (os : List Int) : Ev → Prop
  | .beg h _ _ _ => h ∉ os
  | .fin h _ => h ∈ os
def EWf : List Int → List Ev → Prop
  | _, [] => True
  | os, e :: es => oOk os e ∧ EWf (oStep os e) es
theorem EWf.snoc : ∀ {es : List Ev} {os : List Int} {e : Ev}, EWf os es → oOk (es.foldl oStep os) e → EWf os (es ++ [e])
  | [], os, e, _, h => ⟨h, trivial⟩
  | x :: es, os, e, w, h => ⟨w.1, EWf.snoc w.2 h⟩
structure DInv (i : Nat) (rs : List Rc) (os : List Int) : Prop where
  b : ∀ r ∈ rs, r.b < i
  e : ∀ r ∈ rs, ∀ e, r.e = some e → e < i
  p : ∀ (x y : Nat) (r q : Rc), x < y → rs[x]? = some r → rs[y]? = some q → r.b < q.b ∧ (r.h = q.h → ∃ e, r.e = some e ∧ e < q.b)
  o : ∀ r ∈ rs, r.h ∉ os → r.e.isSome = true
  m : ∀ h ∈ os, h ∈ rs.map Rc.h
theorem valV_drop {kvs : List (Key × V)} {k j : Key} (h : j ≠ k) : valV (dropK kvs k) j = valV kvs j := by
  induction kvs with
  | nil => rfl
  | cons p r ih =>
    by_cases z : p.1 = k
    · rw [dropK_pos z, ih]
      have : p.1 ≠ j := fun y => h (y.symm.trans z)
      obtain ⟨pk, pv⟩ := p
      exact (valV_neg this).symm
    · rw [dropK_neg z]
      obtain ⟨pk, pv⟩ := p
      by_cases y : pk = j
      · subst y
        rw [valV_pos rfl, valV_pos rfl]
      · rw [valV_neg y, valV_neg y, ih]
theorem keys_drop {kvs : List (Key × V)} {h : Int} : ∀ {os : List Int}, kvs.map (·.1) = os.map Sum.inl → (dropK kvs (.inl h)).map (·.1) = (os.filter fun k => decide (k ≠ h)).map Sum.inl := by
  induction kvs with
  | nil => intro os e; cases os with | nil => rfl | cons o os => cases e
  | cons p r ih =>
    intro os e
    cases os with
    | nil => cases e
    | cons o os =>
      rw [List.map_cons, List.map_cons] at e
      injection e with e1 e2
      by_cases z : o = h
      · rw [dropK_pos (by rw [e1, z]), List.filter_cons_of_neg (by simp [z])]
        exact ih e2
      · rw [dropK_neg (by rw [e1]; exact fun y => z (Sum.inl.inj y)), List.filter_cons_of_pos (by simp [z]), List.map_cons, List.map_cons, e1, ih e2]
theorem valV_isSome {kvs : List (Key × V)} {k : Key} : (valV kvs k).isSome = true ↔ k ∈ kvs.map (·.1) := by
  induction kvs with
  | nil => simp [valV]
  | cons p r ih =>
    obtain ⟨pk, pv⟩ := p
    by_cases y : pk = k
    · subst y
      rw [valV_pos rfl]
      simp
    · rw [valV_neg y, ih, List.map_cons, List.mem_cons]
      exact ⟨fun z => .inr z, fun z => z.resolve_left fun x => y x.symm⟩
theorem putK_fresh {kvs : List (Key × V)} {k : Key} {v : V} (h : k ∉ kvs.map (·.1)) : putK kvs k v = kvs ++ [(k, v)] := by
  unfold putK
  rw [if_neg]
  intro z
  obtain ⟨p, hp, e⟩ := List.any_eq_true.mp z
  exact h (List.mem_map.mpr ⟨p, hp, of_decide_eq_true e⟩)
end
end K52
namespace K52
open PySem PySem.Spec PyProof.Rows TJ L2
section
variable {P : Program} {w : World} {mg : Str → Option Value} {base : Heap}
def rowK (k : Str) : Prop := k = "queue" ∨ k = "set"
instance (k : Str) : Decidable (rowK k) := by unfold rowK; infer_instance
def StAt (K : PySem.W.Frag) (H : Hp) (n : Nat) (k : Str) (v : V) : Prop := (rowK k ∧ ∃ (p : Addr) (ns : List Int), v = .ref p ∧ SqT K H p (ns.map V.int) ∧ ns.length ≤ n) ∨ (¬ rowK k ∧ ∃ i : Int, v = .int i)
theorem StAt.isRow {K : PySem.W.Frag} {H : Hp} {n : Nat} {k : Str} {v : V} (h : StAt K H n k v) (hk : rowK k) : ∃ (p : Addr) (ns : List Int), v = .ref p ∧ SqT K H p (ns.map V.int) ∧ ns.length ≤ n := h.elim (fun z => z.2) fun z => absurd hk z.1
theorem StAt.isNum {K : PySem.W.Frag} {H : Hp} {n : Nat} {k : Str} {v : V} (h : StAt K H n k v) (hk : ¬ rowK k) : ∃ i : Int, v = .int i := h.elim (fun z => absurd z.1 hk) fun z => z.2
theorem StAt.mk {K : PySem.W.Frag} {H : Hp} {n : Nat} {k : Str} {p : Addr} {ns : List Int} (hk : rowK k) (s : SqT K H p (ns.map V.int)) (l : ns.length ≤ n) : StAt K H n k (.ref p) := .inl ⟨hk, p, ns, rfl, s, l⟩
theorem StAt.num {K : PySem.W.Frag} {H : Hp} {n : Nat} {k : Str} {i : Int} (hk : ¬ rowK k) : StAt K H n k (.int i) := .inr ⟨hk, i, rfl⟩
theorem StAt.tups {K : PySem.W.Frag} {H H' : Hp} {n : Nat} {k : Str} {v : V} (t : Tups K H H') (h : StAt K H n k v) : StAt K H' n k v := h.imp (fun z => ⟨z.1, z.2.elim fun p y => y.elim fun ns y => ⟨p, ns, y.1, t _ _ y.2.1, y.2.2⟩⟩) id
theorem StAt.le {K : PySem.W.Frag} {H : Hp} {n m : Nat} {k : Str} {v : V} (l : n ≤ m) (h : StAt K H n k v) : StAt K H m k v := h.imp (fun z => ⟨z.1, z.2.elim fun p y => y.elim fun ns y => ⟨p, ns, y.1, y.2.1, Nat.le_trans y.2.2 l⟩⟩) id
def sp__law_begun (K : PySem.W.Frag) : Sp := fun vs H Q _ => ∃ (k : Str), vs = [.str k] ∧ ∀ v H', Same H H' → StAt K H' 0 k v → Q v H'
theorem ok__law_begun (T : TX (KX w.params) mg) : FnOk P w (KX w.params) mg base CX0 1 479 fd__law_begun ["kind"] (sp__law_begun (KX w.params)) := by
  refine (F__law_begun w.params).ok sc__law_begun (fun vs H Q E h => ?_) (fun cdv A outer s H vs Q E hr h => ?_)
  · obtain ⟨k, rfl, _⟩ := h
    rfl
  · obtain ⟨k, rfl, q⟩ := h
    refine ⟨_, (pss_cons (ps_if (pt_cmpR op_in_seq (pv 0) (pe_tup (pa_cons pe_str (pa_cons pe_str pa_nil))) (by with_unfolding_all rfl))
      (pss_one (ps_ret (pe_tup pa_nil)))
      pss_nil)
      (pss_one (ps_ret pe_int))), ?_⟩
    refine ⟨_, rfl, (show (2 : Nat) ≤ sizeLine by decide), fun p hp => ⟨p, [V.str "queue", .str "set"], rfl, .inr (SqT.of upd_same), rfl, rfl, _, rfl, ?_⟩⟩
    have iv : inV (.str k) [.str "queue", .str "set"] = decide (k ∈ (["queue", "set"] : List Str)) := inV_str k ["queue", "set"]
    rw [if_neg Bool.false_ne_true, iv]
    have s1 := Same.upd (o := .tup [.str "queue", .str "set"]) hp
    by_cases z : k ∈ (["queue", "set"] : List Str)
    · refine iteP (decide_eq_true z) ⟨(show (0 : Nat) ≤ sizeLine by decide), fun p2 hp2 => ?_⟩
      have hk : rowK k := by simpa [rowK] using z
      exact q _ _ (s1.trans (Same.upd hp2)) (.mk (ns := []) hk (SqT.of upd_same) (Nat.le_refl _))
    · refine iteN (by rw [decide_eq_false z]; decide) ?_
      exact q _ _ s1 (.num fun hk => z (by simpa [rowK] using hk))
def sp__law_does (K : PySem.W.Frag) : Sp := fun vs H Q _ => ∃ (k v : Str) (st x : V) (d : Dt) (n : Nat), vs = [.str k, st, .str v, x] ∧ StAt K H n k st ∧ n < 63 ∧ DeedOk k v d ∧ IsDt K H d x ∧ WorthIn H d x ∧ ∀ p st' a H', Same H H' → H' p = some (.tup [st', a]) → StAt K H' (n + 1) k st' → Q (.ref p) H'
theorem ok__law_does (T : TX (KX w.params) mg) : FnOk P w (KX w.params) mg base CX0 1 484 fd__law_does ["kind", "state", "verb", "worth"] (sp__law_does (KX w.params)) := by
  refine (F__law_does w.params).ok sc__law_does (fun vs H Q E h => ?_) (fun cdv A outer s H vs Q E hr h => ?_)
  · obtain ⟨k, v, st, x, d, n, rfl, _⟩ := h
    rfl
  · obtain ⟨k, v, st, x, d, n, rfl, sa, hn, hd, hx, wi, q⟩ := h
    refine ⟨_, (pss_cons (ps_if (pt_cmpR opEq (pv 0) pe_str (nomark _))
      (pss_cons (ps_if (pt_cmpR opEq (pv 2) pe_str (nomark _))
      (pss_one (ps_ret (pe_tup (pa_cons (pe_op op_catS (pv 1) (pe_tup (pa_cons (pv 3) pa_nil))) (pa_cons pe_str pa_nil)))))
      pss_nil)
      (pss_one (ps_ret (pe_tup (pa_cons (pe_slice slSeqW (pv 1) (po_some pe_int) po_none) (pa_cons (pe_ix ix_seq (pe_op op_catS (pv 1) (pe_tup (pa_cons pe_str pa_nil))) pe_int (fun _ _ => rfl)) pa_nil))))))
      pss_nil)
      (pss_cons (ps_if (pt_cmpR opEq (pv 0) pe_str (nomark _))
      (pss_cons (ps_set (i := 4) sc__law_does.nd rfl (by first | exact Or.inl rfl | exact Or.inr rfl) (pe_callTy call_int rfl (T.no (n_int _)) boot_int (pa_cons (pe_cmpR op_in_seq (pv 3) (pv 1) (by with_unfolding_all rfl)) pa_nil)))
      (pss_cons (ps_if (pt_cmpR opEq (pv 2) pe_str (nomark _))
      (pss_one (ps_ret (pe_tup (pa_cons (pe_callTy call_tuple_of rfl (T.no (n_tuple _)) boot_tuple (pa_cons (pe_sortedSet rfl rfl (T.no (n_sorted _)) rfl (T.no (n_set _)) boot_sorted boot_set (pe_op op_catS (pv 1) (pe_tup (pa_cons (pv 3) pa_nil)))) pa_nil)) (pa_cons (pe_op op_sub pe_int (pv 4)) pa_nil)))))
      pss_nil)
      (pss_cons (ps_if (pt_cmpR opEq (pv 2) pe_str (nomark _))
      (pss_one (ps_ret (pe_tup (pa_cons (pe_callTy call_tuple_of rfl (T.no (n_tuple _)) boot_tuple (pa_cons (pe_comp (fr := [(3, "worth")]) rfl (pi_tup (pv 1)) (by decide +kernel) (by intro p hp; obtain rfl := List.mem_singleton.mp hp; first | exact ⟨rfl, .inl rfl⟩ | exact ⟨rfl, .inr rfl⟩) (free_one (n := "worth") (by decide +kernel) (fun _ => by first | exact .inl rfl | exact .inr rfl)) (by intro p hp; obtain rfl := List.mem_singleton.mp hp; exact ⟨by decide +kernel, by first | exact .inl rfl | exact .inr rfl⟩) (by decide +kernel) rfl (by decide +kernel) rfl (fun _ _ _ _ _ => (pf_one (pt_cmpR opNe (pv 0) (pv 1) (nomark _)))) (fun _ _ _ _ _ => (pv 0))) pa_nil)) (pa_cons (pv 4) pa_nil)))))
      pss_nil)
      (pss_one (ps_ret (pe_tup (pa_cons (pv 1) (pa_cons (pv 4) pa_nil))))))))
      pss_nil)
      (pss_cons (ps_if (pt_cmpR opEq (pv 2) pe_str (nomark _))
      (pss_one (ps_ret (pe_tup (pa_cons (pv 1) (pa_cons (pv 1) pa_nil)))))
      pss_nil)
      (pss_cons (ps_if (pt_cmpR opEq (pv 2) pe_str (nomark _))
      (pss_one (ps_ret (pe_tup (pa_cons (pe_op opAdd (pv 1) (pv 3)) (pa_cons (pv 1) pa_nil)))))
      pss_nil)
      (pss_cons (ps_if (pt_cmpR opEq (pv 2) pe_str (nomark _))
      (pss_one (ps_ret (pe_tup (pa_cons (pv 3) (pa_cons pe_str pa_nil)))))
      pss_nil)
      (pss_one (ps_ret (pe_tup (pa_cons (pe_ix ix_seq (pe_lst (pa_cons (pv 1) (pa_cons (pe_ix ix_seq (pv 3) pe_int (fun _ _ => rfl)) pa_nil))) (pe_callTy call_int rfl (T.no (n_int _)) boot_int (pa_cons (pe_cmpR opEq (pv 1) (pe_ix ix_seq (pv 3) pe_int (fun _ _ => rfl)) (nomark _)) pa_nil)) (fun _ _ => rfl)) (pa_cons (pe_callTy call_int rfl (T.no (n_int _)) boot_int (pa_cons (pe_cmpR opEq (pv 1) (pe_ix ix_seq (pv 3) pe_int (fun _ _ => rfl)) (nomark _)) pa_nil)) pa_nil)))))))))), ?_⟩
    have big : ∀ {ns : List Int}, ns.length ≤ n → (ns.map V.int).length + 1 ≤ sizeLine := fun l => by rw [List.length_map]; exact Nat.le_trans (m := 64) (by omega) (by decide)
    have mapS : ∀ (ns : List Int) (i : Int), ns.map V.int ++ [V.int i] = (ns ++ [i]).map V.int := fun ns i => by rw [List.map_append]; rfl
    have isQ : rowK "queue" := .inl rfl
    have isS : rowK "set" := .inr rfl
    cases hd with
    | quP ni =>
      obtain ⟨t, ns, rfl, sq, ln⟩ := sa.isRow isQ
      rename_i i
      cases (show x = V.int i from hx)
      refine ⟨_, rfl, rfl, _, rfl, iteP (decide_eq_true rfl) ⟨_, rfl, rfl, _, rfl, iteP (decide_eq_true rfl) ?_⟩⟩
      refine ⟨_, rfl, _, rfl, (show (1 : Nat) ≤ sizeLine by decide), fun p1 hp1 => ?_⟩
      have s1 := Same.upd (o := .tup [.int i]) hp1
      refine ⟨t, p1, ns.map V.int, [.int i], rfl, rfl, s1.seqT sq, SqT.of upd_same, by simp, big ln, fun p2 H2 s2 sq2 => ?_⟩
      rw [mapS] at sq2
      exact ⟨(show (2 : Nat) ≤ sizeLine by decide), fun p3 hp3 => q p3 _ _ _ ((s1.trans s2).trans (Same.upd hp3)) upd_same (.mk isQ ((Same.upd hp3).seqT sq2) (by rw [List.length_append]; exact Nat.succ_le_succ ln))⟩
    | quT =>
      obtain ⟨t, ns, rfl, sq, ln⟩ := sa.isRow isQ
      refine ⟨_, rfl, rfl, _, rfl, iteP (decide_eq_true rfl) ⟨_, rfl, rfl, _, rfl, iteN (by decide +kernel) ?_⟩⟩
      have sized : (ns.map V.int).length + 1 ≤ sizeLine := big ln
      cases ns with
      | nil =>
        refine ⟨_, rfl, _, rfl, .inr ⟨t, [], rfl, sq, ⟨rfl, rfl⟩, ?_⟩⟩
        refine ⟨_, rfl, (show (1 : Nat) ≤ sizeLine by decide), fun p1 hp1 => ?_⟩
        have s1 := Same.upd (o := .tup [.str "none"]) hp1
        refine ⟨t, p1, [], [.str "none"], rfl, rfl, s1.seqT sq, SqT.of upd_same, by simp, (show (1 : Nat) ≤ sizeLine by decide), fun p2 H2 s2 sq2 => ?_⟩
        refine .inr (.inl ⟨p2, _, 0, _, rfl, rfl, sq2, atI_nat (j := 0) rfl, (show (2 : Nat) ≤ sizeLine by decide), fun p3 hp3 => ?_⟩)
        exact q p3 _ _ _ ((s1.trans s2).trans (Same.upd hp3)) upd_same (.mk (ns := []) isQ (((s1.trans s2).trans (Same.upd hp3)).seqT sq) (Nat.zero_le _))
      | cons m r =>
        refine ⟨_, rfl, _, rfl, .inl (.inr (.inl ⟨t, _, rfl, sq, ?_, fun p0 hp0 => ?_⟩))⟩
        · intro z
          have : HT.sIx ((m :: r).map V.int).length 0 (some 1) = 1 := by
            rw [List.length_map, List.length_cons]
            simp [HT.sIx]
          omega
        · have ec : cutV ((m :: r).map V.int) (some 1) none = r.map V.int := by
            unfold cutV
            simp [HT.sIx]
            exact List.take_of_length_le (by rw [List.length_map]; exact Nat.le_refl _)
          have s0 := Same.upd (o := .tup (cutV ((m :: r).map V.int) (some 1) none)) hp0
          have e0 : upd H p0 (.tup (cutV ((m :: r).map V.int) (some 1) none)) p0 = some (.tup (r.map V.int)) := by rw [upd_same, ec]
          generalize upd H p0 (.tup (cutV ((m :: r).map V.int) (some 1) none)) = H0 at s0 e0 ⊢
          refine ⟨_, rfl, (show (1 : Nat) ≤ sizeLine by decide), fun p1 hp1 => ?_⟩
          have s1 := Same.upd (o := .tup [.str "none"]) hp1
          refine ⟨t, p1, (m :: r).map V.int, [.str "none"], rfl, rfl, (s0.trans s1).seqT sq, SqT.of upd_same, by simp, sized, fun p2 H2 s2 sq2 => ?_⟩
          refine .inr (.inl ⟨p2, _, 0, .int m, rfl, rfl, sq2, atI_nat (j := 0) rfl, (show (2 : Nat) ≤ sizeLine by decide), fun p3 hp3 => ?_⟩)
          have s3 := (s1.trans s2).trans (Same.upd (o := .tup [.ref p0, .int m]) hp3)
          exact q p3 _ _ _ (s0.trans s3) upd_same (.mk (ns := r) isQ (s3.seqT (SqT.of e0)) (by rw [List.length_cons] at ln; omega))
    | setP ni =>
      rename_i i
      obtain ⟨t, ns, rfl, sq, ln⟩ := sa.isRow isS
      cases (show x = V.int i from hx)
      refine ⟨_, rfl, rfl, _, rfl, iteN (by decide +kernel) ⟨_, rfl, rfl, _, rfl, iteP (decide_eq_true rfl) ?_⟩⟩
      refine ⟨_, rfl, _, rfl, t, _, rfl, .inr sq, rfl, flat_ints ns, .inl (.inr ⟨_, rfl, ?_⟩)⟩
      refine ⟨_, rfl, rfl, _, rfl, iteP (decide_eq_true rfl) ?_⟩
      refine ⟨_, rfl, _, rfl, (show (1 : Nat) ≤ sizeLine by decide), fun p1 hp1 => ?_⟩
      have s1 := Same.upd (o := .tup [.int i]) hp1
      refine ⟨t, p1, ns.map V.int, [.int i], rfl, rfl, s1.seqT sq, SqT.of upd_same, by simp, big ln, fun p2 H2 s2 sq2 => ?_⟩
      rw [mapS] at sq2
      refine ⟨p2, ns ++ [i], rfl, sq2, by rw [List.length_append]; exact (show ns.length + 1 < 64 by omega), fun l ns' hl pm pw => ?_⟩
      have s3 := Same.upd (o := .lst (ns'.map V.int)) hl
      refine ⟨l, _, rfl, .inl ⟨SqL.of upd_same, fun p4 hp4 => ?_⟩⟩
      refine ⟨_, rfl, _, _, rfl, rfl, (show (2 : Nat) ≤ sizeLine by decide), fun p5 hp5 => ?_⟩
      refine q p5 _ _ _ ((((s1.trans s2).trans s3).trans (Same.upd hp4)).trans (Same.upd hp5)) upd_same (.mk (ns := ns') isS (SqT.of ((Same.upd hp5) _ _ upd_same)) ?_)
      rw [pm.length_eq]
      have := addI_fold_len (ns ++ [i]) []
      rw [List.length_append, List.length_nil, Nat.zero_add] at this
      exact Nat.le_trans this (Nat.succ_le_succ ln)
    | setC ni =>
      rename_i i
      obtain ⟨t, ns, rfl, sq, ln⟩ := sa.isRow isS
      cases (show x = V.int i from hx)
      refine ⟨_, rfl, rfl, _, rfl, iteN (by decide +kernel) ⟨_, rfl, rfl, _, rfl, iteP (decide_eq_true rfl) ?_⟩⟩
      refine ⟨_, rfl, _, rfl, t, _, rfl, .inr sq, rfl, flat_ints ns, .inl (.inr ⟨_, rfl, ?_⟩)⟩
      refine ⟨_, rfl, rfl, _, rfl, iteN (by decide +kernel) ⟨_, rfl, rfl, _, rfl, iteP (decide_eq_true rfl) ?_⟩⟩
      have zl : (ns.map V.int).length ≤ sizeLine := Nat.le_trans (Nat.le_succ _) (big ln)
      simp only [tRet, tTup, tCB, tCons, tNil]
      refine tcomp_tup_if (fun v => !decide (v = V.int i)) (fun v => v) (fun R h => ⟨_, rfl, h⟩) sq zl (fun v hv H' s' R hR => ?_) (fun v hv H' s' R hR => ⟨_, rfl, hR _ (Same.refl _)⟩) fun l H' s' hl' => ?_
      · obtain ⟨j, _, rfl⟩ := List.mem_map.mp hv
        exact ⟨_, rfl, _, rfl, rfl, _, rfl, hR _ (Same.refl _)⟩
      · rw [List.map_id', filter_ints (fun j => !decide (j = i)) _ (fun j => by simp) ns]
        have s3 := Same.upd (o := .lst ((ns.filter fun j => !decide (j = i)).map V.int)) hl'
        refine ⟨l, _, rfl, .inl ⟨SqL.of upd_same, fun p4 hp4 => ⟨_, rfl, (show (2 : Nat) ≤ sizeLine by decide), fun p5 hp5 => ?_⟩⟩⟩
        exact q p5 _ _ _ (((s'.trans s3).trans (Same.upd hp4)).trans (Same.upd hp5)) upd_same (.mk (ns := ns.filter fun j => !decide (j = i)) isS (SqT.of ((Same.upd hp5) _ _ upd_same)) (Nat.le_trans (List.length_filter_le _ _) (Nat.le_succ_of_le ln)))
    | setH ni =>
      rename_i i
      obtain ⟨t, ns, rfl, sq, ln⟩ := sa.isRow isS
      cases (show x = V.int i from hx)
      refine ⟨_, rfl, rfl, _, rfl, iteN (by decide +kernel) ⟨_, rfl, rfl, _, rfl, iteP (decide_eq_true rfl) ?_⟩⟩
      refine ⟨_, rfl, _, rfl, t, _, rfl, .inr sq, rfl, flat_ints ns, .inl (.inr ⟨_, rfl, ?_⟩)⟩
      refine ⟨_, rfl, rfl, _, rfl, iteN (by decide +kernel) ⟨_, rfl, rfl, _, rfl, iteN (by decide +kernel) ?_⟩⟩
      exact ⟨_, rfl, _, rfl, (show (2 : Nat) ≤ sizeLine by decide), fun p hp => q p _ _ _ (Same.upd hp) upd_same (.mk isS ((Same.upd hp).seqT sq) (Nat.le_succ_of_le ln))⟩
    | regR =>
      have nk : ¬ rowK "register" := by decide +kernel
      obtain ⟨a, rfl⟩ := sa.isNum nk
      refine ⟨_, rfl, rfl, _, rfl, iteN (by decide +kernel) ⟨_, rfl, rfl, _, rfl, iteN (by decide +kernel) ⟨_, rfl, rfl, _, rfl, iteP (decide_eq_true rfl) ?_⟩⟩⟩
      exact ⟨_, rfl, _, rfl, (show (2 : Nat) ≤ sizeLine by decide), fun p hp => q p _ _ _ (Same.upd hp) upd_same (.num nk)⟩
    | cntR =>
      have nk : ¬ rowK "counter" := by decide +kernel
      obtain ⟨a, rfl⟩ := sa.isNum nk
      refine ⟨_, rfl, rfl, _, rfl, iteN (by decide +kernel) ⟨_, rfl, rfl, _, rfl, iteN (by decide +kernel) ⟨_, rfl, rfl, _, rfl, iteP (decide_eq_true rfl) ?_⟩⟩⟩
      exact ⟨_, rfl, _, rfl, (show (2 : Nat) ≤ sizeLine by decide), fun p hp => q p _ _ _ (Same.upd hp) upd_same (.num nk)⟩
    | celR =>
      have nk : ¬ rowK "cell" := by decide +kernel
      obtain ⟨a, rfl⟩ := sa.isNum nk
      refine ⟨_, rfl, rfl, _, rfl, iteN (by decide +kernel) ⟨_, rfl, rfl, _, rfl, iteN (by decide +kernel) ⟨_, rfl, rfl, _, rfl, iteP (decide_eq_true rfl) ?_⟩⟩⟩
      exact ⟨_, rfl, _, rfl, (show (2 : Nat) ≤ sizeLine by decide), fun p hp => q p _ _ _ (Same.upd hp) upd_same (.num nk)⟩
    | cntA ni =>
      rename_i i
      have nk : ¬ rowK "counter" := by decide +kernel
      obtain ⟨a, rfl⟩ := sa.isNum nk
      cases (show x = V.int i from hx)
      refine ⟨_, rfl, rfl, _, rfl, iteN (by decide +kernel) ⟨_, rfl, rfl, _, rfl, iteN (by decide +kernel) ⟨_, rfl, rfl, _, rfl, iteN (by decide +kernel) ⟨_, rfl, rfl, _, rfl, iteP (decide_eq_true rfl) ?_⟩⟩⟩⟩
      exact ⟨_, rfl, _, rfl, .inl ⟨a, i, rfl, rfl, _, rfl, (show (2 : Nat) ≤ sizeLine by decide), fun p hp => q p _ _ _ (Same.upd hp) upd_same (.num nk)⟩⟩
    | regW ni =>
      rename_i i
      have nk : ¬ rowK "register" := by decide +kernel
      cases (show x = V.int i from hx)
      refine ⟨_, rfl, rfl, _, rfl, iteN (by decide +kernel) ⟨_, rfl, rfl, _, rfl, iteN (by decide +kernel) ⟨_, rfl, rfl, _, rfl, iteN (by decide +kernel) ⟨_, rfl, rfl, _, rfl, iteN (by decide +kernel) ⟨_, rfl, rfl, _, rfl, iteP (decide_eq_true rfl) ?_⟩⟩⟩⟩⟩
      exact ⟨_, rfl, (show (2 : Nat) ≤ sizeLine by decide), fun p hp => q p _ _ _ (Same.upd hp) upd_same (.num nk)⟩
    | celW ni =>
      rename_i i
      have nk : ¬ rowK "cell" := by decide +kernel
      cases (show x = V.int i from hx)
      refine ⟨_, rfl, rfl, _, rfl, iteN (by decide +kernel) ⟨_, rfl, rfl, _, rfl, iteN (by decide +kernel) ⟨_, rfl, rfl, _, rfl, iteN (by decide +kernel) ⟨_, rfl, rfl, _, rfl, iteN (by decide +kernel) ⟨_, rfl, rfl, _, rfl, iteP (decide_eq_true rfl) ?_⟩⟩⟩⟩⟩
      exact ⟨_, rfl, (show (2 : Nat) ≤ sizeLine by decide), fun p hp => q p _ _ _ (Same.upd hp) upd_same (.num nk)⟩
    | celS ni nj =>
      rename_i i j
      have nk : ¬ rowK "cell" := by decide +kernel
      obtain ⟨a, rfl⟩ := sa.isNum nk
      obtain ⟨t, rfl, et⟩ := wi i j rfl
      refine ⟨_, rfl, rfl, _, rfl, iteN (by decide +kernel) ⟨_, rfl, rfl, _, rfl, iteN (by decide +kernel) ⟨_, rfl, rfl, _, rfl, iteN (by decide +kernel) ⟨_, rfl, rfl, _, rfl, iteN (by decide +kernel) ⟨_, rfl, rfl, _, rfl, iteN (by decide +kernel) ?_⟩⟩⟩⟩⟩
      refine ⟨_, rfl, _, rfl, .inr (.inl ⟨t, _, 1, .int j, rfl, rfl, SqT.of et, atI_nat (j := 1) rfl, (show (2 : Nat) ≤ sizeLine by decide), fun l hl => ?_⟩)⟩
      have s1 := Same.upd (o := .lst [.int a, .int j]) hl
      have e1 : upd H l (.lst [.int a, .int j]) l = some (.lst [.int a, .int j]) := upd_same
      generalize upd H l (.lst [.int a, .int j]) = H1 at s1 e1 ⊢
      have et1 := s1 _ _ et
      refine ⟨_, rfl, _, rfl, .inr (.inl ⟨t, _, 0, .int i, rfl, rfl, SqT.of et1, atI_nat (j := 0) rfl, rfl, .inl (.inr ⟨_, rfl, ?_⟩)⟩)⟩
      have fin : ∀ c : Int, ∃ e, atI [V.int a, .int j] (if decide (V.int a = V.int i) = true then 1 else 0) = some (.int e) := fun _ => by
        by_cases z : decide (V.int a = V.int i) = true
        · rw [if_pos z]; exact ⟨j, rfl⟩
        · rw [if_neg z]; exact ⟨a, rfl⟩
      obtain ⟨e, he⟩ := fin 0
      refine .inl ⟨l, _, _, .int e, rfl, rfl, SqL.of e1, he, ?_⟩
      refine ⟨_, rfl, _, rfl, .inr (.inl ⟨t, _, 0, .int i, rfl, rfl, SqT.of et1, atI_nat (j := 0) rfl, rfl, .inl (.inr ⟨_, rfl, ?_⟩)⟩)⟩
      exact ⟨(show (2 : Nat) ≤ sizeLine by decide), fun p hp => q p _ _ _ (s1.trans (Same.upd hp)) upd_same (.num nk)⟩
end
end K52
namespace K52
open PySem PySem.Spec PyProof.Rows TJ L2
section
variable {P : Program} {w : World} {mg : Str → Option Value} {base : Heap}
structure Tt (K : PySem.W.Frag) (H H' : Hp) : Prop where
  t : Tups K H H'
  l : ∀ a xs, H a = some (.tup xs) → H' a = some (.tup xs)
theorem Tt.of {K : PySem.W.Frag} {H H' : Hp} (s : Same H H') : Tt K H H' := ⟨.of s, fun _ _ h => s _ _ h⟩
theorem Tt.trans {K : PySem.W.Frag} {H H1 H2 : Hp} (a : Tt K H H1) (b : Tt K H1 H2) : Tt K H H2 := ⟨a.t.trans b.t, fun _ _ h => b.l _ _ (a.l _ _ h)⟩
def MutAt (H : Hp) (l : Addr) : Prop := (∃ zs, H l = some (.lst zs)) ∨ ∃ kvs : List (Key × V), H l = some (.dK kvs)
theorem HandAt.mutAt {H : Hp} {r : Addr} (h : HandAt H r) : MutAt H r := by
  obtain ⟨a, b, c, e, _⟩ := h
  exact .inl ⟨_, e⟩
theorem KeptL.tt {K : PySem.W.Frag} {L : List Addr} {H H' : Hp} (k : KeptL L H H') (m : ∀ l ∈ L, MutAt H l) : Tt K H H' := by
  refine ⟨fun a xs h => ?_, fun a xs h => k _ _ (fun z => ?_) h⟩
  · rcases h with (h | ⟨ob, h⟩) | h
    · exact .inl (.inl (k _ _ (fun z => by rcases m a z with ⟨_, e⟩ | ⟨_, e⟩ <;> (rw [h] at e; cases e)) h))
    · exact .inl (.inr ⟨ob, k _ _ (fun z => by rcases m a z with ⟨_, e⟩ | ⟨_, e⟩ <;> (rw [h] at e; cases e)) h⟩)
    · exact .inr h
  · rcases m a z with ⟨_, e⟩ | ⟨_, e⟩ <;> (rw [h] at e; cases e)
theorem Hw.keptL {r : Addr} {H H' : Hp} {L : List Addr} (h : Hw r H H') (hr : r ∈ L) : KeptL L H H' := fun b o n e => h.k b o (fun z => n (z ▸ hr)) e
theorem Hw.tt {K : PySem.W.Frag} {r : Addr} {H H' : Hp} (R : HandAt H r) (h : Hw r H H') : Tt K H H' := KeptL.tt (h.keptL (List.mem_singleton.mpr rfl)) fun l hl => by rw [List.mem_singleton.mp hl]; exact R.mutAt
theorem Hw.free {r : Addr} {H H' : Hp} {p : Addr} (h : Hw r H H') (e : H' p = none) : H p = none := by
  cases z : H p with
  | none => rfl
  | some o =>
    rw [h.k _ _ (h.r.fresh e) z] at e
    cases e
def ThAt (H : Hp) (p : Addr) (ts : List (Str × Str)) : Prop := ∃ ys, H p = some (.tup ys) ∧ All2 (fun (t : Str × Str) y => ∃ b, y = .ref b ∧ H b = some (.tup [.str t.1, .str t.2])) ts ys
structure ThOk (ts : List (Str × Str)) : Prop where
  n0 : 0 < ts.length
  n6 : ts.length ≤ 6
  nd : (ts.map (·.1)).Nodup
  ks : ∀ t ∈ ts, t.2 ∈ kinds5
theorem ThAt.tt {K : PySem.W.Frag} {H H' : Hp} {p : Addr} {ts : List (Str × Str)} (t : Tt K H H') (h : ThAt H p ts) : ThAt H' p ts := h.elim fun ys z => ⟨ys, t.l _ _ z.1, forall2_mono (fun _ _ y => y.elim fun b x => ⟨b, x.1, t.l _ _ x.2⟩) z.2⟩
theorem map_erase {α β : Type} {f : α → β} : ∀ (xs : List α) (i : Nat), (xs.map f).eraseIdx i = (xs.eraseIdx i).map f
  | [], _ => rfl
  | x :: xs, 0 => rfl
  | x :: xs, i + 1 => by
    show f x :: (xs.map f).eraseIdx i = f x :: (xs.eraseIdx i).map f
    rw [map_erase xs i]
theorem nodup_eraseIdx {α : Type} {xs : List α} (h : xs.Nodup) (i : Nat) : (xs.eraseIdx i).Nodup := h.sublist (List.eraseIdx_sublist xs i)
theorem seqIx_nat {j n : Nat} (h : j < n) : PySem.seqIndex? (j : Int) n = some j := by
  unfold PySem.seqIndex?
  have : ¬ ((j : Int) < 0) := by omega
  simp only [if_neg this]
  rw [if_pos (by simp [h])]
  rfl
def kindR (K : PySem.W.Frag) (x y : V) (H : Hp) : Prop := ∃ (n k : Str) (b : Addr), x = .str n ∧ y = .ref b ∧ k ∈ kinds5 ∧ H b = some (.tup [.str n, .str k])
theorem all2_things {K : PySem.W.Frag} {H : Hp} : ∀ {ks : List Str} {ys : List V}, All2 (fun x y => kindR K x y H) (ks.map V.str) ys → ∃ ts : List (Str × Str), ts.map (·.1) = ks ∧ (∀ t ∈ ts, t.2 ∈ kinds5) ∧ All2 (fun (t : Str × Str) y => ∃ b, y = .ref b ∧ H b = some (.tup [.str t.1, .str t.2])) ts ys
  | [], _, h => by cases h; exact ⟨[], rfl, fun _ z => absurd z List.not_mem_nil, .nil⟩
  | n :: ks, _, h => by
    cases h with
    | cons a r =>
      obtain ⟨ts, e, hk, al⟩ := all2_things r
      obtain ⟨n', k, b, en, ey, kk, hb⟩ := a
      cases en
      refine ⟨(n, k) :: ts, by rw [List.map_cons, e], fun t ht => ?_, .cons ⟨b, ey, hb⟩ al⟩
      rcases List.mem_cons.mp ht with z | z
      · rw [z]; exact kk
      · exact hk t z
def sp__law_things : Sp := fun vs H Q _ => ∃ (r : Addr), vs = [.ref r] ∧ HandAt H r ∧ ∀ p ts H', Hw r H H' → H p = none → ThAt H' p ts → ThOk ts → Q (.ref p) H'
theorem ok__law_things (T : TX (KX w.params) mg) (c__law_draw : Cal P w (KX w.params) mg base "_law_draw" ["hand", "limit"] 1 sp__law_draw) : FnOk P w (KX w.params) mg base CX0 2 503 fd__law_things ["hand"] sp__law_things := by
  refine (F__law_things w.params).ok sc__law_things (fun vs H Q E h => ?_) (fun cdv A outer s H vs Q E hr h => ?_)
  · obtain ⟨r, rfl, _⟩ := h
    rfl
  · obtain ⟨r, rfl, R, q⟩ := h
    refine q_of (qss_cons (qs_set (i := 1) sc__law_things.nd rfl (by first | exact Or.inl rfl | exact Or.inr rfl) (qe_lst (qa_cons (QE.mk pe_str) (qa_cons (QE.mk pe_str) (qa_cons (QE.mk pe_str) (qa_cons (QE.mk pe_str) (qa_cons (QE.mk pe_str) (qa_cons (QE.mk pe_str) qa_nil))))))))
      (qss_cons (qs_set (i := 2) sc__law_things.nd rfl (by first | exact Or.inl rfl | exact Or.inr rfl) (qe_ix ix_seq (qe_lst (qa_cons (QE.mk pe_int) (qa_cons (QE.mk pe_int) (qa_cons (QE.mk pe_int) (qa_cons (QE.mk pe_int) (qa_cons (QE.mk pe_int) qa_nil)))))) (QE.mk (pe_cal c__law_draw (hr.mono (by first | decide | omega)) rfl (pa_cons (pv 0) (pa_cons pe_int pa_nil)))) (fun _ _ => rfl)))
      (qss_cons (QS.mk (ps_while PassesOwn.never (pt_cmpR op_gt (pe_callB callLen rfl (T.no (n_len _)) boot_len (pa_cons (pv 1) pa_nil)) (pv 2) (nomark _))
      (pss_one (ps_expr (pe_lpop (pv 1) (pa_cons (pe_cal c__law_draw (hr.mono (by first | decide | omega)) rfl (pa_cons (pv 0) (pa_cons (pe_callB callLen rfl (T.no (n_len _)) boot_len (pa_cons (pv 1) pa_nil)) pa_nil))) pa_nil))))))
      (qss_one (QS.mk (ps_ret (pe_callTy call_tuple_of rfl (T.no (n_tuple _)) boot_tuple (pa_cons (pe_compG (xs := ["name"]) (g := gName 0) (fr := [(0, "hand")]) rfl (pi_list (pv 1)) (by intro p hp; obtain rfl := List.mem_singleton.mp hp; first | exact ⟨rfl, .inl rfl⟩ | exact ⟨rfl, .inr rfl⟩) (free_one (n := "hand") (by decide +kernel) (fun _ => by first | exact .inl rfl | exact .inr rfl)) (by intro p hp; obtain rfl := List.mem_singleton.mp hp; exact ⟨by decide +kernel, by first | exact .inl rfl | exact .inr rfl⟩) (by decide +kernel) rfl (by decide +kernel) (fun _ _ _ _ _ => (pg_cname (N := ["name", "hand"]) 0 (by decide +kernel) rfl rfl)) (fun _ _ _ _ _ => pf_nil) (fun _ _ _ _ _ => (pe_tup (pa_cons (pv 0) (pa_cons (pe_ix (ix_seqK (K := KX w.params) rfl) (pe_lst (pa_cons pe_str (pa_cons pe_str (pa_cons pe_str (pa_cons pe_str (pa_cons pe_str pa_nil)))))) (pe_cal c__law_draw (hr.mono (by first | decide | omega)) rfl (pa_cons (pv 1) (pa_cons pe_int pa_nil))) (fun _ _ => rfl)) pa_nil))))) pa_nil)))))))) ?_
    refine seq_asg ?_
    refine ⟨(show (6 : Nat) ≤ sizeLine by decide), fun l hl => ?_⟩
    refine g_name ?_
    have nl : l ≠ r := R.fresh hl
    have s1 := Same.upd (o := .lst [.str "a", .str "b", .str "it", .str "thing", .str "x", .str "zzzzzzzz"]) hl
    have e1 : upd H l (.lst [.str "a", .str "b", .str "it", .str "thing", .str "x", .str "zzzzzzzz"]) l = some (.lst ((["a", "b", "it", "thing", "x", "zzzzzzzz"] : List Str).map V.str)) := upd_same
    generalize upd H l (.lst [.str "a", .str "b", .str "it", .str "thing", .str "x", .str "zzzzzzzz"]) = H1 at s1 e1 ⊢
    have w1 : Hw r H H1 := R.hw.same s1
    refine seq_asg ?_
    refine ⟨(show (5 : Nat) ≤ sizeLine by decide), fun l2 hl2 => ⟨_, rfl, r, 5, rfl, w1.r.same (Same.upd hl2), by decide, by decide, fun t H2 w2 h0 h1 => ?_⟩⟩
    obtain ⟨v, hv, hm⟩ := atI_of (xs := [V.int 1, .int 1, .int 2, .int 3, .int 6]) h0 h1
    refine .inl ⟨l2, _, t, v, rfl, rfl, SqL.of (w2.k _ _ (w1.r.fresh hl2) upd_same), hv, ?_⟩
    refine g_name ?_
    have e2 := w2.k _ _ nl ((Same.upd (o := .lst [V.int 1, .int 1, .int 2, .int 3, .int 6]) hl2) _ _ e1)
    have w2 := (w1.same (Same.upd (o := .lst [V.int 1, .int 1, .int 2, .int 3, .int 6]) hl2)).trans w2
    obtain ⟨m, rfl, m1⟩ : ∃ m : Int, v = .int m ∧ 1 ≤ m := by
      simp only [List.mem_cons, List.not_mem_nil, or_false] at hm
      rcases hm with rfl | rfl | rfl | rfl | rfl <;> exact ⟨_, rfl, by decide⟩
    refine seq_any (fun σ1 H3 => ∃ ks : List Str, σ1 = [some (.ref r), some (.ref l), some (.int m)] ∧ H3 l = some (.lst (ks.map V.str)) ∧ ks.Nodup ∧ 0 < ks.length ∧ ks.length ≤ 6 ∧ Hw r H H3) ?_ (fun tl => ?_)
    rotate_left
    · refine ⟨fun k σ1 H3 => ∃ ks : List Str, k = ks.length ∧ σ1 = [some (.ref r), some (.ref l), some (.int m)] ∧ H3 l = some (.lst (ks.map V.str)) ∧ ks.Nodup ∧ 0 < ks.length ∧ ks.length ≤ 6 ∧ Hw r H H3, ⟨6, ["a", "b", "it", "thing", "x", "zzzzzzzz"], rfl, rfl, e2, by decide +kernel, by decide, by decide, w2⟩, ?_⟩
      rintro k σ1 H3 ⟨ks, rfl, rfl, e3, nd, k0, k6, w3⟩
      refine ⟨_, rfl, .inl ⟨l, _, rfl, .inl (SqL.of e3), _, rfl, _, _, rfl, rfl, _, rfl, ?_⟩⟩
      refine ite2 (fun z => ?_) fun z => tl _ _ ⟨ks, rfl, e3, nd, k0, k6, w3⟩
      have z : m < ((ks.map V.str).length : Int) := of_decide_eq_true z
      rw [List.length_map] at z
      refine ⟨_, fun _ _ h => h, ?_⟩
      refine ⟨_, rfl, .inl ⟨rfl, _, SqL.of e3⟩, _, rfl, _, rfl, .inl ⟨l, _, rfl, .inl (SqL.of e3), r, _, rfl, w3.r, by rw [List.length_map]; omega, by rw [List.length_map]; omega, fun t4 H4 w4 h40 h41 => ?_⟩⟩
      rw [List.length_map] at h41
      have e4 := w4.k _ _ nl e3
      obtain ⟨j, rfl⟩ := Int.eq_ofNat_of_zero_le h40
      have hj : j < ks.length := by omega
      refine ⟨l, _, _, j, .str ks[j], rfl, rfl, e4, by omega, by omega, ?_, ?_, ?_⟩
      · rw [List.length_map]
        exact seqIx_nat hj
      · rw [List.getElem?_map, List.getElem?_eq_getElem hj]; rfl
      · refine ⟨ks.length - 1, by omega, ks.eraseIdx j, by rw [List.length_eraseIdx, if_pos hj], rfl, ?_, nodup_eraseIdx nd j, ?_, ?_, ?_⟩
        · rw [upd_same, map_erase]
        · rw [List.length_eraseIdx, if_pos hj]; omega
        · rw [List.length_eraseIdx, if_pos hj]; omega
        · have w5 := w3.trans w4
          refine ⟨fun b o hb e => by rw [upd_ne (ne_of_none e hl)]; exact w5.k b o hb e, ?_⟩
          obtain ⟨a1, b1, c1, e1, z1⟩ := w5.r
          exact ⟨a1, b1, c1, by rw [upd_ne nl.symm]; exact e1, z1⟩
    rintro σ1 H3 ⟨ks, rfl, e3, nd, k0, k6, w3⟩
    refine ret_cb1 ?_
    refine tcompR_list (S := fun H H' => HandAt H r ∧ Hw r H H') (K := KX w.params) (a := l) (xs := ks.map V.str) (kindR (KX w.params)) ⟨w3.r, w3.r.hw⟩ (fun _ _ _ a b => ⟨a.1, a.2.trans b.2⟩) (fun _ s => ⟨s.2.r, s.2.r.hw⟩) ?_ (fun R h => ⟨_, rfl, h⟩) (fun H' s' => SqL.of (s'.2.k _ _ nl e3)) (by rw [List.length_map]; exact Nat.le_trans k6 (by decide)) ?_ ?_
    · rintro x y Ha Hb ⟨Ra, wa⟩ ⟨n, k, b, e1, e2, e3, e4⟩
      exact ⟨n, k, b, e1, e2, e3, (wa.tt (K := KX w.params) Ra).l _ _ e4⟩
    · intro v hv H4 s4 KT hKT KF
      obtain ⟨n, _, rfl⟩ := List.mem_map.mp hv
      refine ⟨[some (.str n)], rfl, rfl, iteT ?_⟩
      refine ⟨_, rfl, (show (5 : Nat) ≤ sizeLine by decide), fun l5 hl5 => ⟨_, rfl, r, 5, rfl, s4.2.r.same (Same.upd hl5), by decide, by decide, fun t6 H6 w6 h60 h61 => ?_⟩⟩
      obtain ⟨v6, hv6, hm6⟩ := atI_of (xs := kinds5.map V.str) h60 h61
      obtain ⟨k, hk, rfl⟩ := List.mem_map.mp hm6
      refine .inl ⟨l5, _, t6, _, rfl, rfl, SqL.of (w6.k _ _ (s4.2.r.fresh hl5) upd_same), hv6, (show (2 : Nat) ≤ sizeLine by decide), fun p7 hp7 => ?_⟩
      exact hKT _ _ ⟨s4.2.r, ((s4.2.r.hw.same (Same.upd hl5)).trans w6).same (Same.upd hp7)⟩ ⟨n, k, p7, rfl, rfl, hk, upd_same⟩
    · intro l7 H7 ys s7 hl7 al7
      obtain ⟨ts, e1, e2, al8⟩ := all2_things al7
      have s8 := Same.upd (o := .lst ys) hl7
      refine ⟨l7, ys, rfl, .inl ⟨SqL.of upd_same, fun p8 hp8 => ?_⟩⟩
      have w8 := (w3.trans s7.2).same s8
      have s9 := s8.trans (Same.upd (o := .tup ys) hp8)
      have tl : ts.length = ks.length := by rw [← e1, List.length_map]
      exact q p8 ts _ (w8.same (Same.upd hp8)) (w8.free hp8) ⟨ys, upd_same, forall2_mono (fun _ _ z => z.elim fun b y => ⟨b, y.1, s9 _ _ y.2⟩) al8⟩ ⟨by omega, by omega, by rw [e1]; exact nd, e2⟩
def StsAt (K : PySem.W.Frag) (H : Hp) (d : Addr) (n : Nat) (ts : List (Str × Str)) : Prop := ∃ kvs : List (Key × V), H d = some (.dK kvs) ∧ kvs.length ≤ 6 + n ∧ ∀ t ∈ ts, ∃ v, valV kvs (.inr t.1) = some v ∧ StAt K H n t.2 v
def AcAt (K : PySem.W.Frag) (H : Hp) (ts : List (Str × Str)) (y : V) : Prop := ∃ (p : Addr) (nm v : Str) (x hd : V) (k : Str) (dt : Dt), y = .ref p ∧ H p = some (.tup [.str nm, .str v, x, hd]) ∧ (nm, k) ∈ ts ∧ DeedOk k v dt ∧ IsDt K H dt x ∧ WorthIn H dt x
theorem WorthIn.tt {K : PySem.W.Frag} {H H' : Hp} {d : Dt} {x : V} (t : Tt K H H') (h : WorthIn H d x) : WorthIn H' d x := fun a b e => (h a b e).elim fun p z => ⟨p, z.1, t.l _ _ z.2⟩
theorem AcAt.tt {K : PySem.W.Frag} {H H' : Hp} {ts : List (Str × Str)} {y : V} (t : Tt K H H') (h : AcAt K H ts y) : AcAt K H' ts y := by
  obtain ⟨p, nm, v, x, hd, k, dt, e, ep, hm, dk, ix, wi⟩ := h
  exact ⟨p, nm, v, x, hd, k, dt, e, t.l _ _ ep, hm, dk, IsDt.mono' t.t dt x ix, wi.tt t⟩
theorem StsAt.tt {K : PySem.W.Frag} {H H' : Hp} {d : Addr} {n : Nat} {ts : List (Str × Str)} (t : Tt K H H') (e : ∀ o, H d = some o → H' d = some o) (h : StsAt K H d n ts) : StsAt K H' d n ts := by
  obtain ⟨kvs, ed, l, f⟩ := h
  exact ⟨kvs, e _ ed, l, fun u hu => (f u hu).elim fun v z => ⟨v, z.1, z.2.tups t.t⟩⟩
theorem StsAt.le {K : PySem.W.Frag} {H : Hp} {d : Addr} {n m : Nat} {ts : List (Str × Str)} (l : n ≤ m) (h : StsAt K H d n ts) : StsAt K H d m ts := by
  obtain ⟨kvs, ed, l', f⟩ := h
  exact ⟨kvs, ed, by omega, fun u hu => (f u hu).elim fun v z => ⟨v, z.1, z.2.le l⟩⟩
theorem StsAt.mutAt {K : PySem.W.Frag} {H : Hp} {d : Addr} {n : Nat} {ts : List (Str × Str)} (h : StsAt K H d n ts) : MutAt H d := h.elim fun kvs z => .inr ⟨kvs, z.1⟩
theorem th_same {ts : List (Str × Str)} (ok : ThOk ts) {n k k' : Str} (h1 : (n, k) ∈ ts) (h2 : (n, k') ∈ ts) : k = k' := by
  have go : ∀ {ts : List (Str × Str)}, (ts.map (·.1)).Nodup → (n, k) ∈ ts → (n, k') ∈ ts → k = k' := by
    intro ts
    induction ts with
    | nil => intro _ h; cases h
    | cons t ts ih =>
      intro nd h1 h2
      rw [List.map_cons, List.nodup_cons] at nd
      rcases List.mem_cons.mp h1 with z1 | z1
      · rcases List.mem_cons.mp h2 with z2 | z2
        · rw [← z1] at z2; cases z2; rfl
        · exact absurd (List.mem_map.mpr ⟨_, z2, rfl⟩) (by rw [← z1] at nd; exact nd.1)
      · rcases List.mem_cons.mp h2 with z2 | z2
        · exact absurd (List.mem_map.mpr ⟨_, z1, rfl⟩) (by rw [← z2] at nd; exact nd.1)
        · exact ih nd.2 z1 z2
  exact go ok.nd h1 h2
theorem StsAt.put {K : PySem.W.Frag} {H H2 : Hp} {d : Addr} {n : Nat} {ts : List (Str × Str)} {nm k : Str} {v : V} {kvs : List (Key × V)} (ok : ThOk ts) (s : Same H H2) (ed : H d = some (.dK kvs)) (l : kvs.length ≤ 6 + n) (f : ∀ t ∈ ts, ∃ v, valV kvs (.inr t.1) = some v ∧ StAt K H n t.2 v) (hm : (nm, k) ∈ ts) (sa : StAt K H2 (n + 1) k v) :
    StsAt K (upd H2 d (.dK (putK kvs (.inr nm) v))) d (n + 1) ts := by
  have t2 : Tups K H2 (upd H2 d (.dK (putK kvs (.inr nm) v))) := Tups.dict (s _ _ ed)
  refine ⟨_, upd_same, Nat.le_trans (putK_lenE _ _ _) (by omega), fun t ht => ?_⟩
  by_cases z : t.1 = nm
  · refine ⟨v, by rw [valV_put, if_pos (by rw [z])], ?_⟩
    have : t.2 = k := th_same ok (n := nm) (by rw [← z]; exact ht) hm
    rw [this]
    exact sa.tups t2
  · obtain ⟨u, e, h⟩ := f t ht
    exact ⟨u, by rw [valV_put, if_neg (fun y => z (Sum.inr.inj y))]; exact e, (h.tups ((Tups.of s).trans t2)).le (Nat.le_succ _)⟩
theorem valV_merge_no : ∀ {more acc : List (Key × V)} {k : Key}, k ∉ more.map (·.1) → valV (mergeK acc more) k = valV acc k
  | [], _, _, _ => rfl
  | p :: r, acc, k, h => by
    rw [List.map_cons, List.mem_cons, not_or] at h
    show valV (mergeK (putK acc p.1 p.2) r) k = _
    rw [valV_merge_no h.2, valV_put, if_neg h.1]
theorem valV_merge : ∀ {more acc : List (Key × V)} {k : Key} {v : V}, (more.map (·.1)).Nodup → (k, v) ∈ more → valV (mergeK acc more) k = some v
  | [], _, _, _, _, h => by cases h
  | p :: r, acc, k, v, nd, h => by
    rw [List.map_cons, List.nodup_cons] at nd
    show valV (mergeK (putK acc p.1 p.2) r) k = _
    rcases List.mem_cons.mp h with z | z
    · subst z
      rw [valV_merge_no nd.1, valV_put, if_pos rfl]
    · exact valV_merge nd.2 z
theorem mergeK_len : ∀ {more acc : List (Key × V)}, (mergeK acc more).length ≤ acc.length + more.length
  | [], _ => Nat.le_refl _
  | p :: r, acc => by
    have h1 := mergeK_len (more := r) (acc := putK acc p.1 p.2)
    have h2 := putK_lenE acc p.1 p.2
    show (mergeK (putK acc p.1 p.2) r).length ≤ _
    rw [List.length_cons]
    omega
def thK (ts : List (Str × Str)) : List (Key × V) := ts.map fun t => (.inr t.1, .str t.2)
theorem thK_keys {ts : List (Str × Str)} (nd : (ts.map (·.1)).Nodup) : ((thK ts).map (·.1)).Nodup := by
  unfold thK
  rw [List.map_map]
  have : ((fun x : Key × V => x.1) ∘ fun t : Str × Str => ((.inr t.1, .str t.2) : Key × V)) = (Sum.inr : Str → Key) ∘ (fun t : Str × Str => t.1) := rfl
  rw [this, ← List.map_map]
  exact List.Pairwise.map _ (fun a b h e => h (Sum.inr.inj e)) nd
theorem thK_all {K : PySem.W.Frag} {H : Hp} {ts : List (Str × Str)} : ∀ {ys : List V}, All2 (fun (t : Str × Str) y => ∃ b, y = .ref b ∧ H b = some (.tup [.str t.1, .str t.2])) ts ys → All2 (fun (p : Key × V) y => ∃ b, y = .ref b ∧ SqT K H b [kV p.1, p.2]) (thK ts) ys := by
  induction ts with
  | nil => intro ys h; cases h; exact .nil
  | cons t ts ih => intro ys h; cases h with | cons a r => exact .cons (a.elim fun b z => ⟨b, z.1, SqT.of z.2⟩) (ih r)
def sp__law_ended (K : PySem.W.Frag) : Sp := fun vs H Q _ => ∃ (r pt d : Addr) (y : V) (ts : List (Str × Str)) (n : Nat), vs = [.ref r, .ref pt, .ref d, y] ∧ HandAt H r ∧ ThAt H pt ts ∧ ThOk ts ∧ StsAt K H d n ts ∧ n < 63 ∧ AcAt K H ts y ∧ ∀ a H', KeptL [r, d] H H' → HandAt H' r → StsAt K H' d (n + 1) ts → Q a H'
theorem ok__law_ended (T : TX (KX w.params) mg) (c__law_draw : Cal P w (KX w.params) mg base "_law_draw" ["hand", "limit"] 1 sp__law_draw) (c__law_does : Cal P w (KX w.params) mg base "_law_does" ["kind", "state", "verb", "worth"] 1 (sp__law_does (KX w.params))) : FnOk P w (KX w.params) mg base CX0 2 510 fd__law_ended ["hand", "things", "states", "act"] (sp__law_ended (KX w.params)) := by
  refine (F__law_ended w.params).ok sc__law_ended (fun vs H Q E h => ?_) (fun cdv A outer s H vs Q E hr h => ?_)
  · obtain ⟨r, pt, d, y, ts, n, rfl, _⟩ := h
    rfl
  · obtain ⟨r, pt, d, y, ts, n, rfl, R, th, ok, sts, hn, ⟨p, nm, v, x, hd, k, dt, rfl, ep, hm, dk, ix, wi⟩, q⟩ := h
    have nrd : r ≠ d := fun z => by
      obtain ⟨a, b, c, e, _⟩ := R
      obtain ⟨kvs, e2, _⟩ := sts
      rw [z, e2] at e
      cases e
    refine ⟨_, (pss_cons (ps_asg (pv 3) (pg_tup rfl (pgs_cons (pg_name (i := 4) sc__law_ended.nd rfl (by first | exact Or.inl rfl | exact Or.inr rfl)) (pgs_cons (pg_name (i := 5) sc__law_ended.nd rfl (by first | exact Or.inl rfl | exact Or.inr rfl)) (pgs_cons (pg_name (i := 6) sc__law_ended.nd rfl (by first | exact Or.inl rfl | exact Or.inr rfl)) (pgs_cons (pg_name (i := 7) sc__law_ended.nd rfl (by first | exact Or.inl rfl | exact Or.inr rfl)) pgs_nil))))))
      (pss_cons (ps_if (pt_cmpR op_isN (pv 7) pe_non (nomark _))
      (pss_cons (ps_set (i := 8) sc__law_ended.nd rfl (by first | exact Or.inl rfl | exact Or.inr rfl) (pe_dget (hu_of hr) (pe_callTy (call_dictOf rfl) rfl (T.no (n_dict _)) boot_dict (pa_cons (pv 1) pa_nil)) (pv 4) (fun _ _ => rfl)))
      (pss_one (ps_asg (pe_cal c__law_does (hr.mono (by first | decide | omega)) rfl (pa_cons (pv 8) (pa_cons (pe_dget (hu_of hr) (pv 2) (pv 4) (fun _ _ => rfl)) (pa_cons (pv 5) (pa_cons (pv 6) pa_nil))))) (pg_tup rfl (pgs_cons (pg_sub (pv 2) (pv 4) (set_dict (hu_of hr))) (pgs_cons (pg_name (i := 7) sc__law_ended.nd rfl (by first | exact Or.inl rfl | exact Or.inr rfl)) pgs_nil))))))
      pss_nil)
      (pss_cons (ps_if (pt_cmpR opEq (pe_cal c__law_draw (hr.mono (by first | decide | omega)) rfl (pa_cons (pv 0) (pa_cons pe_int pa_nil))) pe_int (nomark _))
      (pss_one (ps_set (i := 7) sc__law_ended.nd rfl (by first | exact Or.inl rfl | exact Or.inr rfl) (pe_ix ix_seq (pe_lst (pa_cons pe_int (pa_cons pe_int (pa_cons pe_str (pa_cons pe_str (pa_cons pe_int (pa_cons (pe_un un_neg pe_int) (pa_cons (pv 7) pa_nil)))))))) (pe_cal c__law_draw (hr.mono (by first | decide | omega)) rfl (pa_cons (pv 0) (pa_cons pe_int pa_nil))) (fun _ _ => rfl))))
      pss_nil)
      (pss_one (ps_ret (pv 7)))))), ?_⟩
    refine ⟨_, rfl, p, _, rfl, SqT.of ep, rfl, _, _, rfl, _, _, rfl, _, _, rfl, _, _, rfl, rfl, t_nx ?_⟩
    refine seq_any (fun σ1 H1 => KeptL [r, d] H H1 ∧ HandAt H1 r ∧ StsAt (KX w.params) H1 d (n + 1) ts ∧ ∃ hd' x8, σ1 = [some (.ref r), some (.ref pt), some (.ref d), some (.ref p), some (.str nm), some (.str v), some x, some hd', x8]) ?_ (fun tl => ?_)
    rotate_left
    · refine ⟨_, rfl, rfl, _, rfl, ite2 (fun _ => ?_) fun _ => tl _ _ ⟨KeptL.refl, R, sts.le (Nat.le_succ _), _, _, rfl⟩⟩
      obtain ⟨ys, ey, al⟩ := th
      refine ⟨_, rfl, pt, ys, thK ts, rfl, .inr ey, thK_all al, fun pd hpd => ?_⟩
      have s1 := Same.upd (o := .dK (mergeK [] (thK ts))) hpd
      have dg : DGet (upd H pd (.dK (mergeK [] (thK ts)))) pd (.str nm) (some (.str k)) := by
        have := DGet.k (k := .inr nm) (upd_same (H := H) (a := pd) (o := .dK (mergeK [] (thK ts))))
        rw [valV_merge (thK_keys ok.nd) (List.mem_map.mpr ⟨(nm, k), hm, rfl⟩)] at this
        exact this
      refine ⟨_, rfl, pd, .str k, rfl, dg, ?_⟩
      generalize upd H pd (.dK (mergeK [] (thK ts))) = H1 at s1 ⊢
      obtain ⟨kvs, ed, hl, f⟩ := StsAt.tt (.of s1) (fun o e => s1 _ _ e) sts
      obtain ⟨st, ev, sa⟩ := f _ hm
      have dg2 : DGet H1 d (.str nm) (some st) := by
        have := DGet.k (k := .inr nm) ed
        rw [ev] at this
        exact this
      refine ⟨_, rfl, _, rfl, _, rfl, d, st, rfl, dg2, _, rfl, _, rfl, k, v, st, x, dt, n, rfl, sa, hn, dk, ix.same s1, wi.tt (.of (K := KX w.params) s1), fun p2 st' a H2 s2 e2 sa2 => ?_⟩
      refine ⟨p2, _, rfl, SqT.of e2, rfl, st', _, rfl, _, rfl, _, rfl, d, _, rfl, DPut.k (k := .inr nm) (s2 _ _ ed) (Nat.lt_of_le_of_lt (m := 100) (by omega) (by decide)), a, _, rfl, rfl, ?_⟩
      refine tl _ _ ⟨((s1.trans s2).keptL).trans (KeptL.set (by simp)), ?_, .put ok s2 ed hl f hm sa2, _, _, rfl⟩
      obtain ⟨a1, b1, c1, e1, z1⟩ := R.same (s1.trans s2)
      exact ⟨a1, b1, c1, by rw [upd_ne nrd]; exact e1, z1⟩
    rintro σ1 H1 ⟨k1, R1, st1, hd', x8, rfl⟩
    refine ⟨_, rfl, r, 10, rfl, R1, by decide, by decide, fun t H2 w2 _ _ => ⟨rfl, _, rfl, ?_⟩⟩
    have fin : ∀ H3, Hw r H1 H3 → ∀ a, Q a H3 := fun H3 w3 a => by
      refine q a H3 (k1.trans (w3.keptL (by simp))) w3.r (st1.tt (w3.tt R1) fun o e => w3.k _ _ nrd.symm e)
    refine ite2 (fun _ => ?_) fun _ => ⟨_, rfl, fin _ w2 _⟩
    refine ⟨_, rfl, _, rfl, (show (7 : Nat) ≤ sizeLine by decide), fun l hl => ⟨_, rfl, r, 7, rfl, w2.r.same (Same.upd hl), by decide, by decide, fun t3 H3 w3 h0 h1 => ?_⟩⟩
    obtain ⟨u, hu, _⟩ := atI_of (xs := [V.int 0, .int 1, .str "ok", .str "none", .int 2, .int (-1), hd']) h0 h1
    refine .inl ⟨l, _, t3, u, rfl, rfl, SqL.of (w3.k _ _ (w2.r.fresh hl) upd_same), hu, ?_⟩
    exact ⟨_, rfl, fin _ ((w2.same (Same.upd hl)).trans w3) _⟩
end
end K52
namespace K52
open PySem PySem.Spec PyProof.Rows TJ L2
section
variable {P : Program} {w : World} {mg : Str → Option Value} {base : Heap}
def BzAt (K : PySem.W.Frag) (H : Hp) (b : Addr) (ts : List (Str × Str)) (os : List Int) : Prop := ∃ kvs : List (Key × V), H b = some (.dK kvs) ∧ kvs.map (·.1) = os.map Sum.inl ∧ ∀ h v, valV kvs (.inl h) = some v → AcAt K H ts v
theorem BzAt.tt {K : PySem.W.Frag} {H H' : Hp} {b : Addr} {ts : List (Str × Str)} {os : List Int} (t : Tt K H H') (e : ∀ o, H b = some o → H' b = some o) (h : BzAt K H b ts os) : BzAt K H' b ts os := by
  obtain ⟨kvs, eb, ek, f⟩ := h
  exact ⟨kvs, e _ eb, ek, fun h v z => (f h v z).tt t⟩
structure TaI (K : PySem.W.Frag) (H : Hp) (pt d b l : Addr) (ts : List (Str × Str)) (i : Nat) (es : List Ev) : Prop where
  th : ThAt H pt ts
  st : StsAt K H d i ts
  bz : BzAt K H b ts (es.foldl oStep [])
  ev : ∃ ys, H l = some (.lst ys) ∧ All2 (EvAt K H) es ys
  ln : es.length ≤ i
theorem TaI.tt {K : PySem.W.Frag} {H H' : Hp} {pt d b l : Addr} {ts : List (Str × Str)} {i : Nat} {es : List Ev} (t : Tt K H H') (e : ∀ c ∈ [d, b, l], ∀ o, H c = some o → H' c = some o) (h : TaI K H pt d b l ts i es) : TaI K H' pt d b l ts i es :=
  ⟨h.th.tt t, h.st.tt t (e d (by simp)), h.bz.tt t (e b (by simp)), h.ev.elim fun ys z => ⟨ys, e l (by simp) _ z.1, forall2_mono (fun _ _ y => EvAt.tups t.t y) z.2⟩, h.ln⟩
theorem TaI.same {K : PySem.W.Frag} {H H' : Hp} {pt d b l : Addr} {ts : List (Str × Str)} {i : Nat} {es : List Ev} (s : Same H H') (h : TaI K H pt d b l ts i es) : TaI K H' pt d b l ts i es := h.tt (.of s) fun _ _ _ e => s _ _ e
theorem TaI.hw {K : PySem.W.Frag} {H H' : Hp} {pt d b l r : Addr} {ts : List (Str × Str)} {i : Nat} {es : List Ev} (R : HandAt H r) (w : Hw r H H') (n : r ∉ [d, b, l]) (h : TaI K H pt d b l ts i es) : TaI K H' pt d b l ts i es := h.tt (w.tt R) fun c hc o e => w.k c o (fun z => n (z ▸ hc)) e
theorem oStep_len : ∀ (es : List Ev) (os : List Int), (es.foldl oStep os).length ≤ os.length + es.length
  | [], os => Nat.le_refl _
  | e :: es, os => by
    have h1 := oStep_len es (oStep os e)
    have h2 : (oStep os e).length ≤ os.length + 1 := by
      cases e with
      | beg h _ _ _ => show (os ++ [h]).length ≤ _; rw [List.length_append]; exact Nat.le_refl _
      | fin h _ => exact Nat.le_trans (List.length_filter_le _ _) (Nat.le_succ _)
    show ((es.foldl oStep (oStep os e))).length ≤ _
    rw [List.length_cons]
    omega
theorem same_kept {L : List Addr} {H H1 H2 : Hp} (s : Same H H1) (k : KeptL L H1 H2) (n : ∀ l ∈ L, H l = none) : Same H H2 := fun c o e => k c o (fun z => by rw [n c z] at e; cases e) (s c o e)
def begR (K : PySem.W.Frag) (ts : List (Str × Str)) (x y : V) (H : Hp) : Prop := ∀ (t : Str × Str) (b : Addr), t ∈ ts → x = .ref b → H b = some (.tup [.str t.1, .str t.2]) → ∃ c v, y = .ref c ∧ H c = some (.tup [.str t.1, v]) ∧ StAt K H 0 t.2 v
theorem all2_states {K : PySem.W.Frag} {H : Hp} : ∀ {ts : List (Str × Str)} {ys zs : List V}, All2 (fun (t : Str × Str) y => ∃ b, y = .ref b ∧ H b = some (.tup [.str t.1, .str t.2])) ts ys → All2 (fun x y => ∃ (n k : Str) (b c : Addr) (v : V), x = .ref b ∧ H b = some (.tup [.str n, .str k]) ∧ y = .ref c ∧ H c = some (.tup [.str n, v]) ∧ StAt K H 0 k v) ys zs →
    ∃ kvs : List (Key × V), kvs.map (·.1) = ts.map (fun t => Sum.inr t.1) ∧ All2 (fun (p : Key × V) y => ∃ b, y = .ref b ∧ SqT K H b [kV p.1, p.2]) kvs zs ∧ ∀ t ∈ ts, ∃ v, ((.inr t.1 : Key), v) ∈ kvs ∧ StAt K H 0 t.2 v
  | [], _, _, .nil, .nil => ⟨[], rfl, .nil, fun _ h => absurd h List.not_mem_nil⟩
  | t :: ts, _, _, .cons a r, .cons a' r' => by
    obtain ⟨kvs, e1, e2, e3⟩ := all2_states r r'
    obtain ⟨b, rfl, hb⟩ := a
    obtain ⟨n, k, b', c, v, eb, hb', rfl, hc, sa⟩ := a'
    cases eb
    rw [hb] at hb'
    injection hb' with hb'
    injection hb' with hb'
    have h1 : t.1 = n := by injection hb' with h _; injection h
    have h2 : t.2 = k := by injection hb' with _ h; injection h with h _; injection h
    subst h1 h2
    refine ⟨(.inr t.1, v) :: kvs, by rw [List.map_cons, List.map_cons, e1], .cons ⟨c, rfl, SqT.of hc⟩ e2, fun u hu => ?_⟩
    rcases List.mem_cons.mp hu with z | z
    · rw [z]; exact ⟨v, List.mem_cons_self, sa⟩
    · obtain ⟨v', h, s⟩ := e3 u z
      exact ⟨v', List.mem_cons_of_mem _ h, s⟩
def sp__law_tale (K : PySem.W.Frag) : Sp := fun vs H Q _ => ∃ (sc : Addr) (ns : List Int) (hs mo : Int), vs = [.ref sc, .int 5, .int hs, .int mo] ∧ SqL K H sc (ns.map V.int) ∧ ns.length ≤ 63 ∧ 0 < hs ∧ hs ≤ 6 ∧
  ∀ t pt te ys es ts H', Same H H' → H' t = some (.tup [.ref pt, .ref te]) → H' te = some (.tup ys) → ThAt H' pt ts → ThOk ts → All2 (EvAt K H') es ys → es.length ≤ 63 → EWf [] es → Q (.ref t) H'
theorem ok__law_tale (T : TX (KX w.params) mg) (c__law_hand : Cal P w (KX w.params) mg base "_law_hand" ["script", "cell", "k"] 1 (sp__law_hand (KX w.params))) (c__law_draw : Cal P w (KX w.params) mg base "_law_draw" ["hand", "limit"] 1 sp__law_draw) (c__law_things : Cal P w (KX w.params) mg base "_law_things" ["hand"] 2 sp__law_things) (c__law_begun : Cal P w (KX w.params) mg base "_law_begun" ["kind"] 1 (sp__law_begun (KX w.params))) (c__law_ended : Cal P w (KX w.params) mg base "_law_ended" ["hand", "things", "states", "act"] 2 (sp__law_ended (KX w.params))) (c__law_act : Cal P w (KX w.params) mg base "_law_act" ["hand", "kind"] 3 (sp__law_act (KX w.params))) (c__law_does : Cal P w (KX w.params) mg base "_law_does" ["kind", "state", "verb", "worth"] 1 (sp__law_does (KX w.params))) : FnOk P w (KX w.params) mg base CX0 4 515 fd__law_tale ["script", "first", "hands", "most"] (sp__law_tale (KX w.params)) := by
  refine (F__law_tale w.params).ok sc__law_tale (fun vs H Q E h => ?_) (fun cdv A outer s H vs Q E hr h => ?_)
  · obtain ⟨sc, ns, hs, mo, rfl, _⟩ := h
    rfl
  · obtain ⟨sc, ns, hs, mo, rfl, sq, hn, h0, h6, q⟩ := h
    refine ⟨_, (pss_cons (ps_set (i := 4) sc__law_tale.nd rfl (by first | exact Or.inl rfl | exact Or.inr rfl) (pe_cal c__law_hand (hr.mono (by first | decide | omega)) rfl (pa_cons (pv 0) (pa_cons (pe_ix ix_seq (pe_op op_catQ (pv 0) (pe_lst (pa_cons pe_int (pa_cons pe_int pa_nil)))) pe_int (fun _ _ => rfl)) (pa_cons pe_int pa_nil)))))
      (pss_cons (ps_set (i := 5) sc__law_tale.nd rfl (by first | exact Or.inl rfl | exact Or.inr rfl) (pe_cal c__law_things (hr.mono (by first | decide | omega)) rfl (pa_cons (pv 4) pa_nil)))
      (pss_cons (ps_set (i := 6) sc__law_tale.nd rfl (by first | exact Or.inl rfl | exact Or.inr rfl) (pe_callTy (call_dictOf rfl) rfl (T.no (n_dict _)) boot_dict (pa_cons (pe_compG (xs := ["name", "kind"]) (g := gTup (KX w.params) 2 (gCons (gName 0) (gCons (gName 1) gNil))) (fr := []) rfl (pi_tup (pv 5)) (fun _ z => absurd z List.not_mem_nil) (free_none rfl) (fun _ z => absurd z List.not_mem_nil) (by decide +kernel) rfl (by decide +kernel) (fun _ _ _ _ _ => (pg_tup rfl (pgs_cons (pg_cname (N := ["name", "kind"]) 0 (by decide +kernel) rfl rfl) (pgs_cons (pg_cname (N := ["name", "kind"]) 1 (by decide +kernel) rfl rfl) pgs_nil)))) (fun _ _ _ _ _ => pf_nil) (fun _ _ _ _ _ => (pe_tup (pa_cons (pv 0) (pa_cons (pe_cal c__law_begun (hr.mono (by first | decide | omega)) rfl (pa_cons (pv 1) pa_nil)) pa_nil))))) pa_nil)))
      (pss_cons (ps_set (i := 7) sc__law_tale.nd rfl (by first | exact Or.inl rfl | exact Or.inr rfl) (pe_and (pe_cmpR opEq (pe_cal c__law_draw (hr.mono (by first | decide | omega)) rfl (pa_cons (pv 4) (pa_cons pe_int pa_nil))) pe_int (nomark _)) (pe_one (pe_cmpR op_gt (pv 3) pe_int (nomark _)))))
      (pss_cons (ps_set (i := 8) sc__law_tale.nd rfl (by first | exact Or.inl rfl | exact Or.inr rfl) pe_dnewK)
      (pss_cons (ps_set (i := 9) sc__law_tale.nd rfl (by first | exact Or.inl rfl | exact Or.inr rfl) pe_int)
      (pss_cons (ps_set (i := 10) sc__law_tale.nd rfl (by first | exact Or.inl rfl | exact Or.inr rfl) (pe_lst pa_nil))
      (pss_cons (ps_for PassesOwn.never rfl (pi_enumL rfl (T.no (n_enumerate _)) (pa_cons (pe_slice slSeq (pv 0) (po_some (pv 1)) (po_some pe_int)) pa_nil)) (pg_tup rfl (pgs_cons (pg_name (i := 11) sc__law_tale.nd rfl (by first | exact Or.inl rfl | exact Or.inr rfl)) (pgs_cons (pg_name (i := 12) sc__law_tale.nd rfl (by first | exact Or.inl rfl | exact Or.inr rfl)) pgs_nil)))
      (pss_cons (ps_set (i := 13) sc__law_tale.nd rfl (by first | exact Or.inl rfl | exact Or.inr rfl) (pe_cal c__law_hand (hr.mono (by first | decide | omega)) rfl (pa_cons (pv 0) (pa_cons (pv 12) (pa_cons (pv 11) pa_nil)))))
      (pss_cons (ps_set (i := 14) sc__law_tale.nd rfl (by first | exact Or.inl rfl | exact Or.inr rfl) (pe_cal c__law_draw (hr.mono (by first | decide | omega)) rfl (pa_cons (pv 13) (pa_cons (pv 2) pa_nil))))
      (pss_cons (ps_if (PW.pt (pw_and (pt_val (pv 7) (fun _ => rfl)) (pw_and (pt_cmpR (op_neD0 (hu_of hr)) (pv 8) pe_dnewK (nomark _)) (pw_and1 (PW.pt (pw_or (pt_cmpR op_gt (pe_cal c__law_draw (hr.mono (by first | decide | omega)) rfl (pa_cons (pv 13) (pa_cons pe_int pa_nil))) pe_int (nomark _)) (pw_or1 (pt_cmpR op_gt (pe_callB call_lenD rfl (T.no (n_len _)) boot_len (pa_cons (pv 8) pa_nil)) pe_int (nomark _)))))))))
      (pss_one (ps_set (i := 14) sc__law_tale.nd rfl (by first | exact Or.inl rfl | exact Or.inr rfl) (pe_ix ix_seq (pe_callB (call_sortedD rfl) rfl (T.no (n_sorted _)) boot_sorted (pa_cons (pv 8) pa_nil)) (pe_cal c__law_draw (hr.mono (by first | decide | omega)) rfl (pa_cons (pv 13) (pa_cons (pe_callB call_lenD rfl (T.no (n_len _)) boot_len (pa_cons (pv 8) pa_nil)) pa_nil))) (fun _ _ => rfl))))
      pss_nil)
      (pss_one (ps_if (pt_cmp (pc_din (hu_of hr) (pv 14) (pv 8)) (by with_unfolding_all rfl))
      (pss_one (ps_expr (pe_append (pv 10) (pa_cons (pe_tup (pa_cons pe_str (pa_cons (pv 14) (pa_cons (pe_cal c__law_ended (hr.mono (by first | decide | omega)) rfl (pa_cons (pv 13) (pa_cons (pv 5) (pa_cons (pv 6) (pa_cons (pe_dpop1 (pv 8) (pv 14) ⟨rfl, rfl, rfl, rfl⟩) pa_nil))))) pa_nil)))) pa_nil))))
      (pss_one (ps_if (pt_cmpR op_lt (pv 9) (pe_ix ix_seq (pe_lst (pa_cons (pv 3) (pa_cons pe_int pa_nil))) (pe_callTy call_int rfl (T.no (n_int _)) boot_int (pa_cons (pv 7) pa_nil)) (fun _ _ => rfl)) (nomark _))
      (pss_cons (ps_asg (pe_ix ix_seq (pv 5) (pe_cal c__law_draw (hr.mono (by first | decide | omega)) rfl (pa_cons (pv 13) (pa_cons (pe_callB callLen rfl (T.no (n_len _)) boot_len (pa_cons (pv 5) pa_nil)) pa_nil))) (fun _ _ => rfl)) (pg_tup rfl (pgs_cons (pg_name (i := 15) sc__law_tale.nd rfl (by first | exact Or.inl rfl | exact Or.inr rfl)) (pgs_cons (pg_name (i := 16) sc__law_tale.nd rfl (by first | exact Or.inl rfl | exact Or.inr rfl)) pgs_nil))))
      (pss_cons (ps_asg (pe_cal c__law_act (hr.mono (by first | decide | omega)) rfl (pa_cons (pv 13) (pa_cons (pv 16) pa_nil))) (pg_tup rfl (pgs_cons (pg_name (i := 17) sc__law_tale.nd rfl (by first | exact Or.inl rfl | exact Or.inr rfl)) (pgs_cons (pg_name (i := 18) sc__law_tale.nd rfl (by first | exact Or.inl rfl | exact Or.inr rfl)) pgs_nil))))
      (pss_cons (ps_set (i := 19) sc__law_tale.nd rfl (by first | exact Or.inl rfl | exact Or.inr rfl) pe_non)
      (pss_cons (ps_if (pt_cmpR opEq (pe_cal c__law_draw (hr.mono (by first | decide | omega)) rfl (pa_cons (pv 13) (pa_cons pe_int pa_nil))) pe_int (nomark _))
      (pss_one (ps_asg (pe_cal c__law_does (hr.mono (by first | decide | omega)) rfl (pa_cons (pv 16) (pa_cons (pe_dget (hu_of hr) (pv 6) (pv 15) (fun _ _ => rfl)) (pa_cons (pv 17) (pa_cons (pv 18) pa_nil))))) (pg_tup rfl (pgs_cons (pg_sub (pv 6) (pv 15) (set_dict (hu_of hr))) (pgs_cons (pg_name (i := 19) sc__law_tale.nd rfl (by first | exact Or.inl rfl | exact Or.inr rfl)) pgs_nil)))))
      pss_nil)
      (pss_cons (ps_dput (hu_of hr) (pv 8) (pv 14) (pe_tup (pa_cons (pv 15) (pa_cons (pv 17) (pa_cons (pv 18) (pa_cons (pv 19) pa_nil))))) rfl)
      (pss_cons (ps_expr (pe_append (pv 10) (pa_cons (pe_tup (pa_cons pe_str (pa_cons (pv 14) (pa_cons (pv 15) (pa_cons (pv 17) (pa_cons (pv 18) pa_nil)))))) pa_nil)))
      (pss_one (ps_set (i := 9) sc__law_tale.nd rfl (by first | exact Or.inl rfl | exact Or.inr rfl) (pe_op opAdd (pv 9) pe_int)))))))))
      pss_nil))))))))
      (pss_one (ps_ret (pe_tup (pa_cons (pv 5) (pa_cons (pe_callTy call_tuple_of rfl (T.no (n_tuple _)) boot_tuple (pa_cons (pv 10) pa_nil)) pa_nil))))))))))))), ?_⟩
    have hc : ∃ c : Int, atI (ns.map V.int ++ [V.int 0, .int 0]) 1 = some (.int c) := by
      match ns with
      | [] => exact ⟨0, rfl⟩
      | [a] => exact ⟨0, rfl⟩
      | a :: b :: r => exact ⟨b, atI_nat (j := 1) rfl⟩
    obtain ⟨c, hc⟩ := hc
    refine ⟨_, rfl, _, rfl, (show (2 : Nat) ≤ sizeLine by decide), fun l0 hl0 => ?_⟩
    have sA := Same.upd (o := .lst [V.int 0, .int 0]) hl0
    refine ⟨sc, l0, ns.map V.int, [.int 0, .int 0], rfl, rfl, sA.seq sq, SqL.of upd_same, by rw [List.length_map]; exact Nat.le_trans (m := 65) (by show ns.length + 2 ≤ 65; omega) (by decide), fun l1 hl1 => ?_⟩
    have sB := sA.trans (Same.upd (o := .lst (ns.map V.int ++ [V.int 0, .int 0])) hl1)
    refine .inl ⟨l1, _, 1, .int c, rfl, rfl, SqL.of upd_same, hc, sc, ns, c, 1, rfl, sB.seq sq, by decide, by decide, fun r H1 s1 R1 hr1 => ?_⟩
    have s1 := sB.trans s1
    have fr : H r = none := sB.free hr1
    refine ⟨_, rfl, r, rfl, R1, fun pt ts H2 w2 hpt th ok => ?_⟩
    have s2 : Same H H2 := same_kept s1 (w2.keptL (L := [r]) (by simp)) (fun l hl => by rw [List.mem_singleton.mp hl]; exact fr)
    obtain ⟨yt, eyt, alt⟩ := th
    refine g_name (t_nx ?_)
    refine seq_cb1 ?_
    refine tcompR_tup (S := Same) (K := KX w.params) (a := pt) (xs := yt) (fun x y H => ∃ (n k : Str) (b c : Addr) (v : V), x = .ref b ∧ H b = some (.tup [.str n, .str k]) ∧ y = .ref c ∧ H c = some (.tup [.str n, v]) ∧ StAt (KX w.params) H 0 k v) (Same.refl _) (fun _ _ _ a b => a.trans b) (fun _ _ => Same.refl _) ?_ (fun R h => ⟨_, rfl, h⟩) (fun H' s' => s'.seqT (SqT.of eyt)) (Nat.le_trans (Nat.le_of_eq (forall2_len alt)) (Nat.le_trans ok.n6 (by decide))) ?_ ?_
    · rintro x y H3 H4 s4 ⟨n, k, b, c, v, e1, e2, e3, e4, e5⟩
      exact ⟨n, k, b, c, v, e1, s4 _ _ e2, e3, s4 _ _ e4, e5.tups (.of s4)⟩
    · intro v hv H3 s3 KT hKT KF
      obtain ⟨m, hm⟩ := List.mem_iff_getElem?.mp hv
      obtain ⟨t, ht, b, rfl, eb⟩ := all2_get alt hm
      refine ⟨b, _, rfl, SqT.of (s3 _ _ eb), rfl, _, _, rfl, _, _, rfl, rfl, [some (.str t.1), some (.str t.2)], rfl, rfl, iteT ?_⟩
      refine ⟨_, rfl, _, rfl, t.2, rfl, fun u H4 s4 sa => ⟨(show (2 : Nat) ≤ sizeLine by decide), fun p5 hp5 => hKT _ _ (s4.trans (Same.upd hp5)) ?_⟩⟩
      exact ⟨t.1, t.2, b, p5, u, rfl, (s4.trans (Same.upd hp5)) _ _ (s3 _ _ eb), rfl, upd_same, sa.tups (.of (Same.upd hp5))⟩
    intro l3 H3 zs s3 hl3 al3
    have alt3 : All2 (fun (t : Str × Str) y => ∃ b, y = .ref b ∧ H3 b = some (.tup [.str t.1, .str t.2])) ts yt := forall2_mono (fun _ _ z => z.elim fun b y => ⟨b, y.1, s3 _ _ y.2⟩) alt
    obtain ⟨kvs, ek, alk, fk⟩ := all2_states alt3 al3
    have sl3 := Same.upd (o := .lst zs) hl3
    have el3 : upd H3 l3 (.lst zs) l3 = some (.lst zs) := upd_same
    generalize upd H3 l3 (.lst zs) = H4 at sl3 el3 ⊢
    refine ⟨l3, zs, kvs, rfl, .inl el3, forall2_mono (fun _ _ z => z.elim fun b y => ⟨b, y.1, sl3.seqT y.2⟩) alk, fun d hd => ?_⟩
    refine g_name ?_
    have ed : upd H4 d (.dK (mergeK [] kvs)) d = some (.dK (mergeK [] kvs)) := upd_same
    have s5 := Same.upd (o := .dK (mergeK [] kvs)) hd
    have fd : H d = none := (s2.trans (s3.trans sl3)).free hd
    have st5 : StsAt (KX w.params) (upd H4 d (.dK (mergeK [] kvs))) d 0 ts := by
      refine ⟨_, ed, ?_, fun t ht => ?_⟩
      · have h1 := mergeK_len (more := kvs) (acc := [])
        have h2 := congrArg List.length ek
        rw [List.length_map, List.length_map] at h2
        have := ok.n6
        rw [List.length_nil, Nat.zero_add] at h1
        omega
      · obtain ⟨v, hv, sa⟩ := fk t ht
        refine ⟨v, valV_merge ?_ hv, sa.tups (.of (sl3.trans s5))⟩
        rw [ek, show (ts.map fun t => (Sum.inr t.1 : Key)) = (ts.map (·.1)).map Sum.inr by rw [List.map_map]; rfl]
        exact List.Pairwise.map _ (fun a b h e => h (Sum.inr.inj e)) ok.nd
    have th5 : ThAt (upd H4 d (.dK (mergeK [] kvs))) pt ts := ThAt.tt (K := KX w.params) (.of (sl3.trans s5)) ⟨yt, s3 _ _ eyt, alt3⟩
    have R5 : HandAt (upd H4 d (.dK (mergeK [] kvs))) r := w2.r.same ((s3.trans sl3).trans s5)
    have s5 := (s2.trans (s3.trans sl3)).trans s5
    generalize upd H4 d (.dK (mergeK [] kvs)) = H5 at ed s5 st5 th5 R5 ⊢
    refine seq_any (fun σ1 H6 => Hw r H5 H6 ∧ ∃ cm : Bool, σ1 = [some (.ref sc), some (.int 5), some (.int hs), some (.int mo), some (.ref r), some (.ref pt), some (.ref d), some (.bl cm), none, none, none, none, none, none, none, none, none, none, none, none]) ?_ (fun tl => ?_)
    rotate_left
    · refine ⟨_, rfl, r, 3, rfl, R5, by decide, by decide, fun t6 H6 w6 _ _ => ⟨rfl, _, rfl, ?_⟩⟩
      refine ite2 (fun _ => ?_) fun _ => tl _ _ ⟨w6, _, rfl⟩
      exact ⟨_, rfl, _, _, rfl, rfl, tl _ _ ⟨w6, _, rfl⟩⟩
    rintro σ1 H6 ⟨w6, cm, rfl⟩
    have s6 : Same H H6 := same_kept s5 (w6.keptL (L := [r]) (by simp)) (fun l hl => by rw [List.mem_singleton.mp hl]; exact fr)
    have ndr : d ≠ r := fun z => by
      obtain ⟨a1, b1, c1, e1, _⟩ := R5
      rw [← z, ed] at e1
      cases e1
    have st6 : StsAt (KX w.params) H6 d 0 ts := st5.tt (w6.tt R5) fun o e => w6.k _ _ ndr e
    have th6 : ThAt H6 pt ts := th5.tt (w6.tt (K := KX w.params) R5)
    intro b hb
    have fb : H b = none := s6.free hb
    have nbd : b ≠ d := fun z => by
      obtain ⟨kv, e, _⟩ := st6
      rw [z, e] at hb
      cases hb
    have s7 := Same.upd (o := .dK []) hb
    have eb : upd H6 b (.dK []) b = some (.dK []) := upd_same
    have st7 := st6.tt (.of s7) fun o e => s7 _ _ e
    have th7 := th6.tt (.of (K := KX w.params) s7)
    have s7 := s6.trans s7
    generalize upd H6 b (.dK []) = H7 at eb s7 st7 th7 ⊢
    refine ⟨(show (0 : Nat) ≤ sizeLine by decide), fun l hl => ?_⟩
    have fl : H l = none := s7.free hl
    have s8 := Same.upd (o := .lst []) hl
    have el : upd H7 l (.lst []) l = some (.lst []) := upd_same
    have I8 : TaI (KX w.params) (upd H7 l (.lst [])) pt d b l ts 0 [] := ⟨th7.tt (.of (K := KX w.params) s8), st7.tt (.of s8) (fun o e => s8 _ _ e), ⟨[], s8 _ _ eb, rfl, fun h v e => by cases e⟩, ⟨[], el, .nil⟩, Nat.le_refl _⟩
    have s8 := s7.trans s8
    generalize upd H7 l (.lst []) = H8 at s8 I8 ⊢
    have cut : ∃ ms : List Int, cutV (ns.map V.int) (some 5) (some 63) = ms.map V.int ∧ ms.length ≤ 63 := by
      refine ⟨(ns.drop (HT.sIx (ns.map V.int).length 0 (some 5))).take (HT.sIx (ns.map V.int).length (ns.map V.int).length (some 63) - HT.sIx (ns.map V.int).length 0 (some 5)), ?_, ?_⟩
      · unfold cutV
        rw [List.map_take, List.map_drop]
      · rw [List.length_take, List.length_drop]
        omega
    obtain ⟨ms, em, hms⟩ := cut
    refine ⟨_, rfl, _, rfl, 5, rfl, 63, rfl, .inl ⟨sc, _, rfl, s8.seq sq, fun qa hqa => ?_⟩⟩
    rw [em]
    have s9 := Same.upd (o := .lst (ms.map V.int)) hqa
    have eq9 : upd H8 qa (.lst (ms.map V.int)) qa = some (.lst (ms.map V.int)) := upd_same
    have I9 := I8.same s9
    have fqa : H qa = none := s8.free hqa
    have nqa : qa ∉ [d, b, l] := fun z => by
      simp only [List.mem_cons, List.not_mem_nil, or_false] at z
      rcases z with z | z | z
      · obtain ⟨kv, e, _⟩ := I8.st
        rw [z, e] at hqa; cases hqa
      · obtain ⟨kv, e, _⟩ := I8.bz
        rw [z, e] at hqa; cases hqa
      · obtain ⟨kv, e, _⟩ := I8.ev
        rw [z, e] at hqa; cases hqa
    have s9 := s8.trans s9
    generalize upd H8 qa (.lst (ms.map V.int)) = H9 at s9 eq9 I9 ⊢
    refine ⟨qa, _, rfl, SqL.of eq9, ?_⟩
    refine for_enumL (K := KX w.params) (a := qa) (xs := ms.map V.int) (fun i σ H' => ∃ es many, TaI (KX w.params) H' pt d b l ts i es ∧ EWf [] es ∧ H' qa = some (.lst (ms.map V.int)) ∧ Same H H' ∧ ∃ x11 x12 x13 x14 x15 x16 x17 x18 x19, σ = [some (.ref sc), some (.int 5), some (.int hs), some (.int mo), some (.ref r), some (.ref pt), some (.ref d), some (.bl cm), some (.ref b), some (.int many), some (.ref l), x11, x12, x13, x14, x15, x16, x17, x18, x19])
      ⟨[], 0, I9, trivial, eq9, s9, _, _, _, _, _, _, _, _, _, rfl⟩ (fun i σ H' h => ?_) ?_ ?_
    · obtain ⟨es, many, _, _, e, _⟩ := h
      exact SqL.of e
    · rintro i y σ H3 p hy ⟨es, many, ti, wf, eq3, s3, x11, x12, x13, x14, x15, x16, x17, x18, x19, rfl⟩ hp
      obtain ⟨cell, hcell, rfl⟩ := List.getElem?_map .. ▸ hy |> Option.map_eq_some_iff.mp
      have hi : i < ms.length := (List.getElem?_eq_some_iff.mp hcell).1
      have sp := Same.upd (o := .tup [.int i, .int cell]) hp
      have ep4 : upd H3 p (.tup [.int i, .int cell]) p = some (.tup [.int i, .int cell]) := upd_same
      have ti4 := ti.same sp
      have eq4 := sp _ _ eq3
      have s4 := s3.trans sp
      generalize upd H3 p (.tup [.int i, .int cell]) = H4 at ep4 ti4 eq4 s4 ⊢
      refine ⟨p, _, rfl, SqT.of ep4, rfl, .int i, _, rfl, .int cell, _, rfl, rfl, ?_⟩
      refine ⟨_, rfl, _, rfl, _, rfl, sc, ns, cell, i, rfl, s4.seq sq, by omega, by omega, fun ha H5 s5 R5 fha => ?_⟩
      have fH : H ha = none := s4.free fha
      have nhd : ha ≠ d := fun z => by
        obtain ⟨kv, e, _⟩ := ti4.st
        rw [z, e] at fha; cases fha
      have nhb : ha ≠ b := fun z => by
        obtain ⟨kv, e, _⟩ := ti4.bz
        rw [z, e] at fha; cases fha
      have nhl : ha ≠ l := fun z => by
        obtain ⟨kv, e, _⟩ := ti4.ev
        rw [z, e] at fha; cases fha
      have nhq : ha ≠ qa := fun z => by rw [z, eq4] at fha; cases fha
      have nha : ha ∉ [d, b, l] := by simp [nhd, nhb, nhl]
      have ti5 := ti4.same s5
      have eq5 := s5 _ _ eq4
      have s5 := s4.trans s5
      refine ⟨_, rfl, _, rfl, ha, hs, rfl, R5, h0, by omega, fun one H6 w6 _ _ => ?_⟩
      have ti6 := ti5.hw R5 w6 nha
      have eq6 := w6.k _ _ (Ne.symm nhq) eq5
      have s6 : Same H H6 := same_kept s5 (w6.keptL (L := [ha]) (by simp)) (fun l hl => by rw [List.mem_singleton.mp hl]; exact fH)
      have hlen : (es.foldl oStep []).length ≤ i := by
        have h1 := oStep_len es []
        have h2 := ti.ln
        rw [List.length_nil, Nat.zero_add] at h1
        omega
      refine g_name (t_nx ?_)
      refine seq_any (fun σ1 H7 => Hw ha H6 H7 ∧ ∃ one : Int, σ1 = [some (.ref sc), some (.int 5), some (.int hs), some (.int mo), some (.ref r), some (.ref pt), some (.ref d), some (.bl cm), some (.ref b), some (.int many), some (.ref l), some (.int i), some (.int cell), some (.ref ha), some (.int one), x15, x16, x17, x18, x19]) ?_ (fun tl => ?_)
      rotate_left
      · refine ⟨_, rfl, cm, rfl, ?_⟩
        cases cm with
        | false => exact iteF (iteF (tl _ _ ⟨w6.r.hw, _, rfl⟩))
        | true =>
          refine iteT ?_
          obtain ⟨kvs, eb6, ek6, fk6⟩ := ti6.bz
          refine ⟨_, rfl, fun p7 hp7 => ?_⟩
          have sp7 := Same.upd (o := .dK []) hp7
          have e7 : upd H6 p7 (.dK []) p7 = some (.dK []) := upd_same
          generalize upd H6 p7 (.dK []) = H7 at sp7 e7 ⊢
          have w7 : Hw ha H6 H7 := w6.r.hw.same sp7
          have eb7 := sp7 _ _ eb6
          refine ⟨b, p7, kvs, rfl, rfl, eb7, e7, _, rfl, ?_⟩
          have kl : kvs.length = (es.foldl oStep []).length := by have := congrArg List.length ek6; simpa using this
          by_cases z : kvs ≠ []
          · refine iteP (decide_eq_true z) ?_
            have kpos : 0 < kvs.length := List.length_pos_iff.mpr z
            refine ⟨_, rfl, ha, 5, rfl, w7.r, by decide, by decide, fun t8 H8 w8 _ _ => ⟨_, _, rfl, rfl, _, rfl, ?_⟩⟩
            have w8 := w7.trans w8
            have eb8 : H8 b = some (.dK kvs) := w8.k _ _ (Ne.symm nhb) eb6
            refine ite2 (fun _ => ?_) fun _ => ?_
            · refine iteT ?_
              refine ⟨_, rfl, b, kvs, _, rfl, eb8, ek6, by omega, fun lS os' hlS pm pw => ?_⟩
              refine ⟨_, rfl, _, rfl, b, kvs, rfl, (Same.upd hlS) _ _ eb8, ha, _, rfl, w8.r.same (Same.upd hlS), by omega, by omega, fun t9 H9 w9 h90 h91 => ?_⟩
              have osl : os'.length = kvs.length := by rw [pm.length_eq, kl]
              obtain ⟨v, hv, hm⟩ := atI_of (xs := os'.map V.int) h90 (by rw [List.length_map]; omega)
              obtain ⟨o, _, rfl⟩ := List.mem_map.mp hm
              refine .inl ⟨lS, _, t9, _, rfl, rfl, SqL.of (w9.k _ _ (w8.r.fresh hlS) upd_same), hv, ?_⟩
              exact tl _ _ ⟨(w8.same (Same.upd hlS)).trans w9, _, rfl⟩
            · refine ⟨_, rfl, b, kvs, rfl, eb8, _, _, rfl, rfl, _, rfl, ?_⟩
              refine ite2 (fun _ => ?_) fun _ => tl _ _ ⟨w8, _, rfl⟩
              refine ⟨_, rfl, b, kvs, _, rfl, eb8, ek6, by omega, fun lS os' hlS pm pw => ?_⟩
              refine ⟨_, rfl, _, rfl, b, kvs, rfl, (Same.upd hlS) _ _ eb8, ha, _, rfl, w8.r.same (Same.upd hlS), by omega, by omega, fun t9 H9 w9 h90 h91 => ?_⟩
              have osl : os'.length = kvs.length := by rw [pm.length_eq, kl]
              obtain ⟨v, hv, hm⟩ := atI_of (xs := os'.map V.int) h90 (by rw [List.length_map]; omega)
              obtain ⟨o, _, rfl⟩ := List.mem_map.mp hm
              refine .inl ⟨lS, _, t9, _, rfl, rfl, SqL.of (w9.k _ _ (w8.r.fresh hlS) upd_same), hv, ?_⟩
              exact tl _ _ ⟨(w8.same (Same.upd hlS)).trans w9, _, rfl⟩
          · exact iteN (by rw [decide_eq_false z]; decide) (iteF (tl _ _ ⟨w7, _, rfl⟩))
      rintro σ7 H7 ⟨w7, one, rfl⟩
      have ti7 := ti6.hw w6.r w7 nha
      have R7 := w7.r
      have eq7 := w7.k _ _ (Ne.symm nhq) eq6
      have s7 : Same H H7 := same_kept s6 (w7.keptL (L := [ha]) (by simp)) (fun l hl => by rw [List.mem_singleton.mp hl]; exact fH)
      obtain ⟨kvs, eb7, ek7, fk7⟩ := ti7.bz
      obtain ⟨ys, el7, ev7⟩ := ti7.ev
      have kl : kvs.length = (es.foldl oStep []).length := by have := congrArg List.length ek7; simpa using this
      have nlb : l ≠ b := fun z => by rw [z, eb7] at el7; cases el7
      have nld : l ≠ d := fun z => by
        obtain ⟨kv, e, _⟩ := ti7.st
        rw [z, e] at el7; cases el7
      have yl : ys.length ≤ i := by rw [forall2_len ev7]; exact ti.ln
      have dg : DGet H7 b (.int one) (valV kvs (.inl one)) := DGet.k (k := .inl one) eb7
      refine ⟨_, rfl, _, rfl, b, _, rfl, dg, _, rfl, ?_⟩
      cases hv : valV kvs (.inl one) with
      | some v =>
        refine iteP rfl ?_
        have hin : one ∈ es.foldl oStep [] := by
          have : (Sum.inl one : Key) ∈ kvs.map (·.1) := valV_isSome.mp (by rw [hv]; rfl)
          rw [ek7] at this
          obtain ⟨k, hk, e⟩ := List.mem_map.mp this
          exact Sum.inl.inj e ▸ hk
        refine ⟨_, rfl, .inl ⟨rfl, _, SqL.of el7⟩, _, rfl, _, rfl, _, rfl, _, rfl, _, rfl, b, rfl, .inl ⟨_, .inl eb7⟩, _, rfl, kvs, .inl one, v, eb7, rfl, hv, ?_⟩
        have k8 : KeptL [b] H7 (upd H7 b (.dK (dropK kvs (.inl one)))) := KeptL.set (by simp)
        have T8 : Tt (KX w.params) H7 (upd H7 b (.dK (dropK kvs (.inl one)))) := KeptL.tt k8 fun c hc => by rw [List.mem_singleton.mp hc]; exact .inr ⟨_, eb7⟩
        have eb8 : upd H7 b (.dK (dropK kvs (.inl one))) b = some (.dK (dropK kvs (.inl one))) := upd_same
        generalize upd H7 b (.dK (dropK kvs (.inl one))) = H8 at k8 T8 eb8 ⊢
        have R8 : HandAt H8 ha := by
          obtain ⟨a1, b1, c1, e1, z1⟩ := R7
          exact ⟨a1, b1, c1, k8 _ _ (by simp [nhb]) e1, z1⟩
        have st8 : StsAt (KX w.params) H8 d i ts := ti7.st.tt T8 fun o e => k8 _ _ (by simp [nbd.symm]) e
        have el8 : H8 l = some (.lst ys) := k8 _ _ (by simp [nlb]) el7
        refine ⟨ha, pt, d, v, ts, i, rfl, R8, ti7.th.tt T8, ok, st8, by omega, (fk7 _ _ hv).tt T8, fun a H9 k9 R9 st9 => ?_⟩
        have T9 : Tt (KX w.params) H8 H9 := KeptL.tt k9 fun c hc => by
          simp only [List.mem_cons, List.not_mem_nil, or_false] at hc
          rcases hc with rfl | rfl
          · exact R8.mutAt
          · exact st8.mutAt
        have eb9 : H9 b = _ := k9 _ _ (by simp [nbd, Ne.symm nhb]) eb8
        have el9 : H9 l = _ := k9 _ _ (by simp [nld, Ne.symm nhl]) el8
        refine ⟨(show (3 : Nat) ≤ sizeLine by decide), fun p9 hp9 => ?_⟩
        have sp9 := Same.upd (o := .tup [.str "end", .int one, a]) hp9
        have e10 : upd H9 p9 (.tup [.str "end", .int one, a]) p9 = some (.tup [.str "end", .int one, a]) := upd_same
        have st10 := st9.tt (.of sp9) fun o e => sp9 _ _ e
        generalize upd H9 p9 (.tup [.str "end", .int one, a]) = H10 at sp9 e10 st10 ⊢
        have el10 := sp9 _ _ el9
        refine ⟨l, ys, _, rfl, rfl, el10, Nat.lt_of_le_of_lt (m := 63) (by omega) (by decide), ?_⟩
        have k11 : KeptL [l] H10 (upd H10 l (.lst (ys ++ [.ref p9]))) := KeptL.set (by simp)
        have T11 : Tt (KX w.params) H10 (upd H10 l (.lst (ys ++ [.ref p9]))) := KeptL.tt k11 fun c hc => by rw [List.mem_singleton.mp hc]; exact .inl ⟨_, el10⟩
        have el11 : upd H10 l (.lst (ys ++ [.ref p9])) l = some (.lst (ys ++ [.ref p9])) := upd_same
        generalize upd H10 l (.lst (ys ++ [.ref p9])) = H11 at k11 T11 el11 ⊢
        have T : Tt (KX w.params) H7 H11 := ((T8.trans T9).trans (.of sp9)).trans T11
        have kk : KeptL [ha, d, b, l] H7 H11 := fun c o n e => by
          simp only [List.mem_cons, List.not_mem_nil, or_false, not_or] at n
          exact k11 _ _ (by simp [n]) (sp9 _ _ (k9 _ _ (by simp [n]) (k8 _ _ (by simp [n]) e)))
        have nlq : qa ∉ [ha, d, b, l] := by
          intro z
          rcases List.mem_cons.mp z with z | z
          · exact nhq z.symm
          · exact nqa z
        refine ⟨es ++ [.fin one a], many, ⟨ti7.th.tt T, st10.tt T11 (fun o e => k11 _ _ (by simp [Ne.symm nld]) e), ?_, ⟨_, el11, ?_⟩, ?_⟩, EWf.snoc (e := .fin one a) wf hin, kk _ _ nlq eq7, same_kept s7 kk (fun c hc => ?_), _, _, _, _, _, _, _, _, _, rfl⟩
        · refine ⟨_, k11 _ _ (by simp [Ne.symm nlb]) (sp9 _ _ eb9), ?_, fun h u hu => ?_⟩
          · rw [List.foldl_append]
            exact keys_drop ek7
          · refine (fk7 h u ?_).tt T
            by_cases z : h = one
            · subst z
              have : (Sum.inl h : Key) ∈ (dropK kvs (.inl h)).map (·.1) := valV_isSome.mp (by rw [hu]; rfl)
              obtain ⟨q1, hq1, e1⟩ := List.mem_map.mp this
              have := (List.mem_filter.mp hq1).2
              exact absurd e1 (of_decide_eq_true this)
            · rwa [valV_drop (fun e => z (Sum.inl.inj e))] at hu
        · exact all2_snoc (forall2_mono (fun _ _ z => EvAt.tups T.t z) ev7) ⟨p9, rfl, T11.t _ _ (SqT.of e10)⟩
        · rw [List.length_append]
          exact Nat.succ_le_succ ti.ln
        · simp only [List.mem_cons, List.not_mem_nil, or_false] at hc
          rcases hc with rfl | rfl | rfl | rfl
          · exact fH
          · exact fd
          · exact fb
          · exact fl
      | none =>
        refine iteN (by decide) ?_
        have hno : one ∉ es.foldl oStep [] := fun z => by
          have : (valV kvs (.inl one)).isSome = true := valV_isSome.mpr (by rw [ek7]; exact List.mem_map.mpr ⟨one, z, rfl⟩)
          rw [hv] at this
          cases this
        obtain ⟨mc, at24⟩ : ∃ mc : Int, atI [V.int mo, .int 24] (if cm = true then 1 else 0) = some (.int mc) := by cases cm with | true => exact ⟨24, rfl⟩ | false => exact ⟨mo, rfl⟩
        refine ⟨_, rfl, _, rfl, (show (2 : Nat) ≤ sizeLine by decide), fun l8 hl8 => ⟨_, rfl, .inl (.inr ⟨cm, rfl, .inl ⟨l8, _, _, .int mc, rfl, rfl, SqL.of upd_same, at24, _, _, rfl, rfl, _, rfl, ?_⟩⟩)⟩⟩
        have s8 := Same.upd (o := .lst [V.int mo, .int 24]) hl8
        generalize upd H7 l8 (.lst [V.int mo, .int 24]) = H8 at s8 ⊢
        have ti8 := ti7.same s8
        have R8 := R7.same s8
        refine ite2 (fun _ => ?_) fun _ => ⟨es, many, ⟨ti8.th, ti8.st.le (Nat.le_succ _), ti8.bz, ti8.ev, Nat.le_succ_of_le ti8.ln⟩, wf, s8 _ _ eq7, s7.trans s8, _, _, _, _, _, _, _, _, _, rfl⟩
        obtain ⟨yt, eyt, alt⟩ := ti8.th
        have ytl : yt.length = ts.length := forall2_len alt
        have ok0 := ok.n0
        have ok6 := ok.n6
        refine ⟨_, rfl, _, rfl, _, rfl, .inl ⟨pt, yt, rfl, .inr (SqT.of eyt), ha, _, rfl, R8, by omega, by omega, fun t9 H9 w9 h90 h91 => ?_⟩⟩
        obtain ⟨v9, hv9, hm9⟩ := atI_of (xs := yt) h90 h91
        obtain ⟨j, hj⟩ := List.mem_iff_getElem?.mp hm9
        obtain ⟨t, ht, b9, rfl, e9⟩ := all2_get alt hj
        have tmem := List.mem_of_getElem? ht
        have T9 : Tt (KX w.params) H8 H9 := w9.tt R8
        refine .inr (.inl ⟨pt, yt, t9, _, rfl, rfl, SqT.of (T9.l _ _ eyt), hv9, b9, _, rfl, SqT.of (T9.l _ _ e9), rfl, _, _, rfl, _, _, rfl, rfl, ?_⟩)
        refine ⟨_, rfl, _, rfl, ha, t.2, rfl, w9.r, ok.ks t tmem, fun p10 v10 x10 d10 H10 w10 e10 _ dk ix wi => ⟨p10, _, rfl, SqT.of e10, rfl, _, _, rfl, _, _, rfl, rfl, t_nx ?_⟩⟩
        have w810 := w9.trans w10
        have T810 : Tt (KX w.params) H8 H10 := w810.tt R8
        have st10 : StsAt (KX w.params) H10 d i ts := ti8.st.tt T810 fun o e => w810.k _ _ (Ne.symm nhd) e
        refine seq_asg ?_
        refine g_name ?_
        refine seq_any (fun σ1 H11 => KeptL [ha, d] H10 H11 ∧ HandAt H11 ha ∧ StsAt (KX w.params) H11 d (i + 1) ts ∧ ∃ hd', σ1 = [some (.ref sc), some (.int 5), some (.int hs), some (.int mo), some (.ref r), some (.ref pt), some (.ref d), some (.bl cm), some (.ref b), some (.int many), some (.ref l), some (.int i), some (.int cell), some (.ref ha), some (.int one), some (.str t.1), some (.str t.2), some (.str v10), some x10, some hd']) ?_ (fun tl2 => ?_)
        rotate_left
        · refine ⟨_, rfl, ha, 3, rfl, w10.r, by decide, by decide, fun t11 H11 w11 _ _ => ⟨rfl, _, rfl, ?_⟩⟩
          have T11 : Tt (KX w.params) H10 H11 := w11.tt w10.r
          have st11 : StsAt (KX w.params) H11 d i ts := st10.tt T11 fun o e => w11.k _ _ (Ne.symm nhd) e
          refine ite2 (fun _ => ?_) fun _ => tl2 _ _ ⟨w11.keptL (by simp), w11.r, st11.le (Nat.le_succ _), _, rfl⟩
          obtain ⟨kvs2, ed2, hl2, f2⟩ := st11
          obtain ⟨st, ev, sa⟩ := f2 t tmem
          have dg2 : DGet H11 d (.str t.1) (some st) := by
            have := DGet.k (k := .inr t.1) ed2
            rw [ev] at this
            exact this
          refine ⟨_, rfl, _, rfl, _, rfl, d, st, rfl, dg2, _, rfl, _, rfl, t.2, v10, st, x10, d10, i, rfl, sa, by omega, dk, IsDt.mono' T11.t _ _ ix, wi.tt T11, fun p12 st' a H12 s12 e12 sa12 => ?_⟩
          refine ⟨p12, _, rfl, SqT.of e12, rfl, st', _, rfl, _, rfl, _, rfl, d, _, rfl, DPut.k (k := .inr t.1) (s12 _ _ ed2) (Nat.lt_of_le_of_lt (m := 100) (by omega) (by decide)), a, _, rfl, rfl, ?_⟩
          refine tl2 _ _ ⟨((w11.keptL (by simp)).trans s12.keptL).trans (KeptL.set (by simp)), ?_, .put ok s12 ed2 hl2 f2 tmem sa12, _, rfl⟩
          obtain ⟨a1, b1, c1, e1, z1⟩ := w11.r.same s12
          exact ⟨a1, b1, c1, by rw [upd_ne nhd]; exact e1, z1⟩
        rintro σ11 H11 ⟨k11, R11, st11, hd', rfl⟩
        have k7 : KeptL [ha, d] H7 H11 := (s8.keptL.trans (w810.keptL (by simp))).trans k11
        have T1 : Tt (KX w.params) H10 H11 := KeptL.tt k11 fun c hc => by
          simp only [List.mem_cons, List.not_mem_nil, or_false] at hc
          rcases hc with rfl | rfl
          · exact w10.r.mutAt
          · exact st10.mutAt
        have T7 : Tt (KX w.params) H7 H11 := (Tt.trans (.of s8) T810).trans T1
        have eb11 : H11 b = _ := k7 _ _ (by simp [nbd, Ne.symm nhb]) eb7
        have el11 : H11 l = _ := k7 _ _ (by simp [nld, Ne.symm nhl]) el7
        refine ⟨_, rfl, _, rfl, _, rfl, _, rfl, (show (4 : Nat) ≤ sizeLine by decide), fun p12 hp12 => ?_⟩
        have s12 := Same.upd (o := .tup [.str t.1, .str v10, x10, hd']) hp12
        have e12 : upd H11 p12 (.tup [.str t.1, .str v10, x10, hd']) p12 = some (.tup [.str t.1, .str v10, x10, hd']) := upd_same
        have st12 := st11.tt (.of s12) fun o e => s12 _ _ e
        generalize upd H11 p12 (.tup [.str t.1, .str v10, x10, hd']) = H12 at s12 e12 st12 ⊢
        have eb12 := s12 _ _ eb11
        have el12 := s12 _ _ el11
        refine ⟨_, rfl, _, rfl, b, _, rfl, DPut.k (k := .inl one) eb12 (Nat.lt_of_le_of_lt (m := 100) (by omega) (by decide)), ?_⟩
        have k13 : KeptL [b] H12 (upd H12 b (.dK (putK kvs (.inl one) (.ref p12)))) := KeptL.set (by simp)
        have T13 : Tt (KX w.params) H12 (upd H12 b (.dK (putK kvs (.inl one) (.ref p12)))) := KeptL.tt k13 fun c hc => by rw [List.mem_singleton.mp hc]; exact .inr ⟨_, eb12⟩
        have eb13 : upd H12 b (.dK (putK kvs (.inl one) (.ref p12))) b = some (.dK (putK kvs (.inl one) (.ref p12))) := upd_same
        have st13 := st12.tt T13 fun o e => k13 _ _ (by simp [Ne.symm nbd]) e
        have el13 : upd H12 b (.dK (putK kvs (.inl one) (.ref p12))) l = _ := k13 _ _ (by simp [nlb]) el12
        generalize upd H12 b (.dK (putK kvs (.inl one) (.ref p12))) = H13 at k13 T13 eb13 st13 el13 ⊢
        refine ⟨_, rfl, .inl ⟨rfl, _, SqL.of el13⟩, _, rfl, _, rfl, _, rfl, _, rfl, (show (5 : Nat) ≤ sizeLine by decide), fun p14 hp14 => ?_⟩
        have s14 := Same.upd (o := .tup [.str "begin", .int one, .str t.1, .str v10, x10]) hp14
        have e14 : upd H13 p14 (.tup [.str "begin", .int one, .str t.1, .str v10, x10]) p14 = some (.tup [.str "begin", .int one, .str t.1, .str v10, x10]) := upd_same
        have st14 := st13.tt (.of s14) fun o e => s14 _ _ e
        generalize upd H13 p14 (.tup [.str "begin", .int one, .str t.1, .str v10, x10]) = H14 at s14 e14 st14 ⊢
        have el14 := s14 _ _ el13
        have eb14 := s14 _ _ eb13
        refine ⟨l, ys, _, rfl, rfl, el14, Nat.lt_of_le_of_lt (m := 63) (by omega) (by decide), ?_⟩
        have k15 : KeptL [l] H14 (upd H14 l (.lst (ys ++ [.ref p14]))) := KeptL.set (by simp)
        have T15 : Tt (KX w.params) H14 (upd H14 l (.lst (ys ++ [.ref p14]))) := KeptL.tt k15 fun c hc => by rw [List.mem_singleton.mp hc]; exact .inl ⟨_, el14⟩
        have el15 : upd H14 l (.lst (ys ++ [.ref p14])) l = some (.lst (ys ++ [.ref p14])) := upd_same
        generalize upd H14 l (.lst (ys ++ [.ref p14])) = H15 at k15 T15 el15 ⊢
        refine ⟨_, rfl, .inl ⟨_, _, rfl, rfl, ?_⟩⟩
        have T1215 : Tt (KX w.params) H12 H15 := (T13.trans (.of s14)).trans T15
        have T1115 : Tt (KX w.params) H11 H15 := Tt.trans (.of s12) T1215
        have T : Tt (KX w.params) H7 H15 := T7.trans T1115
        have kk : KeptL [ha, d, b, l] H7 H15 := fun c o n e => by
          simp only [List.mem_cons, List.not_mem_nil, or_false, not_or] at n
          exact k15 _ _ (by simp [n]) (s14 _ _ (k13 _ _ (by simp [n]) (s12 _ _ (k7 _ _ (by simp [n]) e))))
        have nlq : qa ∉ [ha, d, b, l] := by
          intro z
          rcases List.mem_cons.mp z with z | z
          · exact nhq z.symm
          · exact nqa z
        have hkn : (Sum.inl one : Key) ∉ kvs.map (·.1) := by
          rw [ek7]
          intro z
          obtain ⟨k, hk, e⟩ := List.mem_map.mp z
          exact hno (Sum.inl.inj e ▸ hk)
        refine ⟨es ++ [.beg one (.str t.1) (.str v10) x10], many + 1, ⟨ti7.th.tt T, st14.tt T15 (fun o e => k15 _ _ (by simp [Ne.symm nld]) e), ?_, ⟨_, el15, ?_⟩, ?_⟩, EWf.snoc (e := .beg one (.str t.1) (.str v10) x10) wf hno, kk _ _ nlq eq7, same_kept s7 kk (fun c hc => ?_), _, _, _, _, _, _, _, _, _, rfl⟩
        · refine ⟨_, k15 _ _ (by simp [Ne.symm nlb]) eb14, ?_, fun h u hu => ?_⟩
          · rw [List.foldl_append, putK_fresh hkn, List.map_append, ek7]
            show _ = ((es.foldl oStep []) ++ [one]).map Sum.inl
            rw [List.map_append]
            rfl
          · rw [valV_put] at hu
            by_cases z : (Sum.inl h : Key) = Sum.inl one
            · rw [if_pos z] at hu
              cases hu
              exact ⟨p12, t.1, v10, x10, hd', t.2, d10, rfl, T1215.l _ _ e12, tmem, dk, IsDt.mono' (T1.trans T1115).t _ _ ix, wi.tt (T1.trans T1115)⟩
            · rw [if_neg z] at hu
              exact (fk7 h u hu).tt T
        · exact all2_snoc (forall2_mono (fun _ _ z => EvAt.tups T.t z) ev7) ⟨p14, rfl, T15.t _ _ (SqT.of e14)⟩
        · rw [List.length_append]
          exact Nat.succ_le_succ ti.ln
        · simp only [List.mem_cons, List.not_mem_nil, or_false] at hc
          rcases hc with rfl | rfl | rfl | rfl
          · exact fH
          · exact fd
          · exact fb
          · exact fl
    · rintro σ H3 ⟨es, many, ti, wf, eq3, s3, x11, x12, x13, x14, x15, x16, x17, x18, x19, rfl⟩
      obtain ⟨ys, el3, ev3⟩ := ti.ev
      refine ⟨_, rfl, _, rfl, l, ys, rfl, .inl ⟨SqL.of el3, fun te hte => ⟨(show (2 : Nat) ≤ sizeLine by decide), fun t ht => ?_⟩⟩⟩
      have sE := Same.upd (o := .tup ys) hte
      have sF := sE.trans (Same.upd (o := .tup [.ref pt, .ref te]) ht)
      refine q t pt te ys es ts _ (s3.trans sF) upd_same ((Same.upd ht) _ _ upd_same) (ti.th.tt (.of (K := KX w.params) sF)) ok (forall2_mono (fun _ _ z => EvAt.tups (.of sF) z) ev3) ?_ wf
      have := ti.ln
      rw [List.length_map] at this
      omega
end
end K52
namespace K52
open PySem PySem.Spec PyProof.Rows TJ L2
section
variable {P : Program} {w : World} {mg : Str → Option Value} {base : Heap}
theorem n_ValueError (P : Params) : PySem.W.nsIn (KX P) mainGlobals "ValueError" = some none := by kernel_rfl
theorem boot_ValueError : bootBuiltins "ValueError" = some (.type "ValueError") := by kernel_rfl
def ThK (K : PySem.W.Frag) (H : Hp) (p : Addr) : Prop := ∃ ys, SqT K H p ys ∧ ys.length ≤ 6 ∧ ∀ y ∈ ys, ∃ (b : Addr) (n k : Str), y = .ref b ∧ SqT K H b [.str n, .str k] ∧ k ∈ kinds5
theorem ThK.same {K : PySem.W.Frag} {H H' : Hp} {p : Addr} (s : Same H H') (h : ThK K H p) : ThK K H' p := by
  obtain ⟨ys, e, l, f⟩ := h
  refine ⟨ys, s.seqT e, l, fun y hy => ?_⟩
  obtain ⟨b, n, k, h1, h2, h3⟩ := f y hy
  exact ⟨b, n, k, h1, s.seqT h2, h3⟩
theorem first_of {k : Str} (h : k ∈ kinds5) : ∃ v, kl_FIRST_STATES.lookup k = some v := by
  unfold kinds5 at h
  simp only [List.mem_cons, List.not_mem_nil, or_false] at h
  rcases h with rfl | rfl | rfl | rfl | rfl <;> exact Option.isSome_iff_exists.mp (by decide +kernel)
def TaleAt (K : PySem.W.Frag) (H : Hp) (x : V) : Prop := ∃ (t pt : Addr) (e : V), x = .ref t ∧ SqT K H t [.ref pt, e] ∧ ThK K H pt
theorem TaleAt.same {K : PySem.W.Frag} {H H' : Hp} {x : V} (s : Same H H') (h : TaleAt K H x) : TaleAt K H' x := by
  obtain ⟨t, pt, e, h1, h2, h3⟩ := h
  exact ⟨t, pt, e, h1, s.seqT h2, h3.same s⟩
def sp_first_place (K : PySem.W.Frag) : Sp := fun vs H Q _ => ∃ (x : V), vs = [x] ∧ TaleAt K H x ∧ ∀ p H', Same H H' → Q (.ref p) H'
theorem ok_first_place (T : TX (KX w.params) mg) (c_first_state : CalE P w (KX w.params) mg base "first_state" ["kind"] 2 sp_first_state) : FnOk P w (KX w.params) mg base CX0 3 430 fd_first_place ["tale"] (sp_first_place (KX w.params)) := by
  refine (F_first_place w.params).ok sc_first_place (fun vs H Q E h => ?_) (fun cdv A outer s H vs Q E hr h => ?_)
  · obtain ⟨x, rfl, _⟩ := h
    rfl
  · obtain ⟨x, rfl, ⟨t, pt, e, rfl, st, ys, sy, hl, f⟩, q⟩ := h
    refine ⟨_, (pss_one (ps_ret (pe_tup (pa_cons (pe_tup pa_nil) (pa_cons (pe_callTy call_tuple_of rfl (T.no (n_tuple _)) boot_tuple (pa_cons (pe_compG (xs := ["name", "kind"]) (g := gTup (KX w.params) 2 (gCons (gName 0) (gCons (gName 1) gNil))) (fr := []) rfl (pi_tup (pe_ix ix_seq (pv 0) pe_int (fun _ _ => rfl))) (fun _ z => absurd z List.not_mem_nil) (free_none rfl) (fun _ z => absurd z List.not_mem_nil) (by decide +kernel) rfl (by decide +kernel) (fun _ _ _ _ _ => (pg_tup rfl (pgs_cons (pg_cname (N := ["name", "kind"]) 0 (by decide +kernel) rfl rfl) (pgs_cons (pg_cname (N := ["name", "kind"]) 1 (by decide +kernel) rfl rfl) pgs_nil)))) (fun _ _ _ _ _ => pf_nil) (fun _ _ _ _ _ => (pe_calN c_first_state (hr.mono (by first | decide | omega)) rfl (pa_cons (pv 1) pa_nil)))) pa_nil)) pa_nil))))), ?_⟩
    refine ⟨(show (0 : Nat) ≤ sizeLine by decide), fun p1 hp1 => ?_⟩
    have s1 := Same.upd (o := .tup []) hp1
    generalize upd H p1 (.tup []) = H1 at s1 ⊢
    refine cons_cb1 ?_
    refine tcompR_tup (S := Same) (K := KX w.params) (a := pt) (xs := ys) (fun _ _ _ => True) (Same.refl _) (fun _ _ _ a b => a.trans b) (fun _ _ => Same.refl _) (fun _ _ _ _ _ _ => trivial) (fun R h => ⟨_, rfl, .inr (.inl ⟨t, _, 0, .ref pt, rfl, rfl, s1.seqT st, atI_nat (j := 0) rfl, h⟩)⟩) (fun H' s' => (s1.trans s').seqT sy) (Nat.le_trans hl (by decide)) ?_ ?_
    · intro v hv H2 s2 KT hKT KF
      obtain ⟨b, n, k, rfl, eb, hk⟩ := f v hv
      obtain ⟨u, hu⟩ := first_of hk
      refine ⟨b, _, rfl, (s1.trans s2).seqT eb, rfl, _, _, rfl, _, _, rfl, rfl, [some (.str n), some (.str k)], rfl, rfl, iteT ?_⟩
      exact ⟨_, rfl, .str k, "str", rfl, rfl, .inl ⟨k, u, rfl, hu, hKT _ _ (Same.refl _) trivial⟩⟩
    · intro l3 H3 zs s3 hl3 _
      refine ⟨l3, zs, rfl, .inl ⟨SqL.of upd_same, fun p4 hp4 => ⟨(show (2 : Nat) ≤ sizeLine by decide), fun p5 hp5 => ?_⟩⟩⟩
      exact q _ _ ((((s1.trans s3).trans (Same.upd hl3)).trans (Same.upd hp4)).trans (Same.upd hp5))
def sp__law_bad_strictness : Sp := fun vs H Q _ => ∃ (r : Addr), vs = [.ref r] ∧ HandAt H r ∧ ∀ v H', Hw r H H' → BadS H' v → Q v H'
theorem ok__law_bad_strictness (T : TX (KX w.params) mg) (c__law_draw : Cal P w (KX w.params) mg base "_law_draw" ["hand", "limit"] 1 sp__law_draw) : FnOk P w (KX w.params) mg base CX0 2 543 fd__law_bad_strictness ["hand"] sp__law_bad_strictness := by
  refine (F__law_bad_strictness w.params).ok sc__law_bad_strictness (fun vs H Q E h => ?_) (fun cdv A outer s H vs Q E hr h => ?_)
  · obtain ⟨r, rfl, _⟩ := h
    rfl
  · obtain ⟨r, rfl, R, q⟩ := h
    refine q_of (qss_one (qs_ret (qe_ix ix_seq (qe_lst (qa_cons (QE.mk pe_non) (qa_cons (QE.mk pe_str) (qa_cons (QE.mk pe_str) (qa_cons (QE.mk pe_str) (qa_cons (QE.mk pe_int) (qa_cons (QE.mk pe_bl) (qa_cons (qe_lst (qa_cons (QE.mk pe_str) qa_nil)) (qa_cons (qe_tup (qa_cons (QE.mk pe_str) qa_nil)) (qa_cons (QE.mk pe_str) (qa_cons (QE.mk pe_dnewK) qa_nil))))))))))) (QE.mk (pe_cal c__law_draw (hr.mono (by first | decide | omega)) rfl (pa_cons (pv 0) (pa_cons pe_int pa_nil)))) (fun _ _ => rfl)))) ?_
    refine ⟨(show (1 : Nat) ≤ sizeLine by decide), fun a1 h1 => ⟨(show (1 : Nat) ≤ sizeLine by decide), fun a2 h2 => fun a3 h3 => ⟨(show (10 : Nat) ≤ sizeLine by decide), fun l hl => ?_⟩⟩⟩
    have s1 := Same.upd (o := .lst [.str "strict"]) h1
    have s2 := Same.upd (o := .tup [.str "bare"]) h2
    have s3 := Same.upd (o := .dK []) h3
    have s4 := Same.upd (o := .lst [.non, .str "", .str "Strict", .str "hand", .int 0, .bl true, .ref a1, .ref a2, .str "strict ", .ref a3]) hl
    have e1 := s4 _ _ (s3 _ _ (s2 _ _ (upd_same (H := H) (a := a1) (o := .lst [.str "strict"]))))
    have e2 := s4 _ _ (s3 _ _ (upd_same (H := upd H a1 (.lst [.str "strict"])) (a := a2) (o := .tup [.str "bare"])))
    have e3 := s4 _ _ (upd_same (H := upd (upd H a1 (.lst [.str "strict"])) a2 (.tup [.str "bare"])) (a := a3) (o := .dK []))
    have n1 : a1 ≠ r := R.fresh h1
    have n2 : a2 ≠ r := (R.same s1).fresh h2
    have n3 : a3 ≠ r := (R.same (s1.trans s2)).fresh h3
    have nl : l ≠ r := (R.same ((s1.trans s2).trans s3)).fresh hl
    have e4 : upd (upd (upd (upd H a1 (.lst [.str "strict"])) a2 (.tup [.str "bare"])) a3 (.dK [])) l (.lst [.non, .str "", .str "Strict", .str "hand", .int 0, .bl true, .ref a1, .ref a2, .str "strict ", .ref a3]) l = some (.lst [.non, .str "", .str "Strict", .str "hand", .int 0, .bl true, .ref a1, .ref a2, .str "strict ", .ref a3]) := upd_same
    have w4 := R.hw.same (((s1.trans s2).trans s3).trans s4)
    generalize upd (upd (upd (upd H a1 (.lst [.str "strict"])) a2 (.tup [.str "bare"])) a3 (.dK [])) l (.lst [.non, .str "", .str "Strict", .str "hand", .int 0, .bl true, .ref a1, .ref a2, .str "strict ", .ref a3]) = H4 at e1 e2 e3 e4 w4 ⊢
    refine ⟨_, rfl, r, 10, rfl, w4.r, by decide, by decide, fun t H5 w5 h50 h51 => ?_⟩
    obtain ⟨v, hv, hm⟩ := atI_of (xs := [V.non, .str "", .str "Strict", .str "hand", .int 0, .bl true, .ref a1, .ref a2, .str "strict ", .ref a3]) h50 h51
    refine .inl ⟨l, _, t, v, rfl, rfl, SqL.of (w5.k _ _ nl e4), hv, ?_⟩
    refine q _ _ (w4.trans w5) ?_
    simp only [List.mem_cons, List.not_mem_nil, or_false] at hm
    have st : ∀ {z : Str}, z ∉ (["strict", "hands", "bare"] : List Str) → BadS H5 (.str z) := fun {z} h => ⟨"str", rfl, fun y e => by cases e; exact h⟩
    rcases hm with rfl | rfl | rfl | rfl | rfl | rfl | rfl | rfl | rfl | rfl
    · exact ⟨"NoneType", rfl, fun z e => by cases e⟩
    · exact st (by decide +kernel)
    · exact st (by decide +kernel)
    · exact st (by decide +kernel)
    · exact ⟨"int", rfl, fun z e => by cases e⟩
    · exact ⟨"bool", rfl, fun z e => by cases e⟩
    · exact ⟨"list", .inl ⟨⟨_, w5.k _ _ n1 e1⟩, rfl⟩, fun z e => by cases e⟩
    · exact ⟨"tuple", .inr (.inl ⟨⟨_, w5.k _ _ n2 e2⟩, rfl⟩), fun z e => by cases e⟩
    · exact st (by decide +kernel)
    · exact ⟨"dict", .inr (.inr ⟨⟨_, w5.k _ _ n3 e3⟩, rfl⟩), fun z e => by cases e⟩
def sp__law_other_class : Sp := fun vs H Q _ => ∃ (ea : Addr), vs = [.ref ea] ∧ H ea = some (ExcO ea (.ref 96)) ∧ ∀ H', Same H H' → Q (.bl false) H'
theorem ok__law_other_class (T : TX (KX w.params) mg) : FnOk P w (KX w.params) mg base CX0 1 550 fd__law_other_class ["caught"] sp__law_other_class := by
  refine (F__law_other_class w.params).ok sc__law_other_class (fun vs H Q E h => ?_) (fun cdv A outer s H vs Q E hr h => ?_)
  · obtain ⟨ea, rfl, _⟩ := h
    rfl
  · obtain ⟨ea, rfl, e, q⟩ := h
    refine ⟨_, (pss_one (ps_ret (pe_callB (call_isinstXT (KX w.params)) rfl (T.no (n_isinstance _)) boot_isinstance (pa_cons (pv 0) (pa_cons (pe_tup (pa_cons (pe_glob (v := .ref 72) rfl (T.of (g_NoDeed _)) rfl) (pa_cons (pe_glob (v := .ref 84) rfl (T.of (g_NoTale _)) rfl) (pa_cons (pe_glob (v := .ref 108) rfl (T.of (g_NoThing _)) rfl) (pa_cons (pe_glob (v := .ref 120) rfl (T.of (g_NoOrder _)) rfl) (pa_cons (pe_glob (v := .ref 132) rfl (T.of (g_NoHand _)) rfl) (pa_cons (pe_glob (v := .ref 144) rfl (T.of (g_NotPlain _)) rfl) (pa_cons (pe_glob (v := .ref 156) rfl (T.of (g_NoPlan _)) rfl) (pa_cons (pe_glob (v := .ref 168) rfl (T.of (g_NoDealings _)) rfl) (pa_cons (pe_glob (v := .ref 180) rfl (T.of (g_NoRow _)) rfl) pa_nil)))))))))) pa_nil))))), ?_⟩
    exact ⟨_, rfl, (show (9 : Nat) ≤ sizeLine by decide), fun p hp => ⟨ea, 96, p, [72, 84, 108, 120, 132, 144, 156, 168, 180], false, rfl, (Same.upd hp) _ _ e, xc_NoStrictness _, upd_same, by kernel_rfl, q _ (Same.upd hp)⟩⟩
def sp__law_refused (K : PySem.W.Frag) : Sp := fun vs H Q _ => ∃ (x z : V) (m : Int), vs = [x, z, .int m] ∧ TaleAt K H x ∧ BadS H z ∧ ∀ H', Same H H' → Q (.bl true) H'
theorem ok__law_refused (T : TX (KX w.params) mg) (c_has_to : CalE P w (KX w.params) mg base "has_to" ["tale", "strictness"] 2 sp_has_to) (c_explains : CalE P w (KX w.params) mg base "explains" ["tale", "strictness", "order"] 3 sp_explains) (c_nexts : CalE P w (KX w.params) mg base "nexts" ["tale", "strictness", "place"] 5 sp_nexts) (c_all_places : CalE P w (KX w.params) mg base "all_places" ["tale", "strictness"] 5 sp_all_places) (c_judged : CalE P w (KX w.params) mg base "judged" ["tale", "strictness"] 5 sp_judged) (c_first_place : Cal P w (KX w.params) mg base "first_place" ["tale"] 3 (sp_first_place (KX w.params))) (c__law_other_class : Cal P w (KX w.params) mg base "_law_other_class" ["caught"] 1 sp__law_other_class) : FnOk P w (KX w.params) mg base CX0 6 557 fd__law_refused ["tale", "strictness", "way"] (sp__law_refused (KX w.params)) := by
  refine (F__law_refused w.params).ok sc__law_refused (fun vs H Q E h => ?_) (fun cdv A outer s H vs Q E hr h => ?_)
  · obtain ⟨x, z, m, rfl, _⟩ := h
    rfl
  · obtain ⟨x, z, m, rfl, ta, bad, q⟩ := h
    refine ⟨_, (pss_cons (ps_set (i := 3) sc__law_refused.nd rfl (by first | exact Or.inl rfl | exact Or.inr rfl) pe_non)
      (pss_cons (ps_tryAs (i := 4) rfl rfl rfl (T.of (g_TaleError _)) sc__law_refused.nd rfl rfl (fun _ _ => (pss_one (ps_if (pt_cmpR opEq (pv 2) pe_int (nomark _))
      (pss_one (ps_expr (pe_calX passX c_has_to (hr.mono (by first | decide | omega)) rfl (pa_cons (pv 0) (pa_cons (pv 1) pa_nil)))))
      (pss_one (ps_if (pt_cmpR opEq (pv 2) pe_int (nomark _))
      (pss_one (ps_expr (pe_calX passX c_explains (hr.mono (by first | decide | omega)) rfl (pa_cons (pv 0) (pa_cons (pv 1) (pa_cons (pe_lst pa_nil) pa_nil))))))
      (pss_one (ps_if (pt_cmpR opEq (pv 2) pe_int (nomark _))
      (pss_one (ps_expr (pe_calX passX c_explains (hr.mono (by first | decide | omega)) rfl (pa_cons (pv 0) (pa_cons (pv 1) (pa_cons (pe_lst (pa_cons pe_non (pa_cons (pe_tup (pa_cons pe_int (pa_cons pe_str pa_nil))) (pa_cons (pe_tup (pa_cons pe_int (pa_cons pe_str pa_nil))) pa_nil)))) pa_nil))))))
      (pss_one (ps_if (pt_cmpR opEq (pv 2) pe_int (nomark _))
      (pss_one (ps_expr (pe_calX passX c_nexts (hr.mono (by first | decide | omega)) rfl (pa_cons (pv 0) (pa_cons (pv 1) (pa_cons (pe_cal c_first_place (hr.mono (by first | decide | omega)) rfl (pa_cons (pv 0) pa_nil)) pa_nil))))))
      (pss_one (ps_if (pt_cmpR opEq (pv 2) pe_int (nomark _))
      (pss_one (ps_expr (pe_calX passX c_all_places (hr.mono (by first | decide | omega)) rfl (pa_cons (pv 0) (pa_cons (pv 1) pa_nil)))))
      (pss_one (ps_expr (pe_calX passX c_judged (hr.mono (by first | decide | omega)) rfl (pa_cons (pv 0) (pa_cons (pv 1) pa_nil)))))))))))))))) (fun _ => (pss_one (ps_set (i := 3) sc__law_refused.nd rfl (by first | exact Or.inl rfl | exact Or.inr rfl) (pv 4)))))
      (pss_one (ps_ret (pe_and (pe_callB (call_isinstX (KX w.params)) rfl (T.no (n_isinstance _)) boot_isinstance (pa_cons (pv 3) (pa_cons (pe_glob (v := .ref 96) rfl (T.of (g_NoStrictness _)) rfl) pa_nil))) (pe_and (pe_callB (call_isinstX (KX w.params)) rfl (T.no (n_isinstance _)) boot_isinstance (pa_cons (pv 3) (pa_cons (pe_bltn (v := .ty "ValueError") rfl (T.no (n_ValueError _)) boot_ValueError rfl) pa_nil))) (pe_one (pe_not (pe_cal c__law_other_class (hr.mono (by first | decide | omega)) rfl (pa_cons (pv 3) pa_nil)))))))))), ?_⟩
    have exm : PySem.W.exmOne (KX w.params) (.ref 96) (.ref 59) = some true := by kernel_rfl
    refine seq_asg ?_
    refine g_name ?_
    refine seq_any (fun σ1 H1 => ∃ ea, Same H H1 ∧ H1 ea = some (ExcO ea (.ref 96)) ∧ σ1 = [some x, some z, some (.int m), some (.ref ea), none]) ?_ (fun tl => ?_)
    rotate_left
    · refine ⟨_, rfl, rfl, _, rfl, ite2 (fun _ => ?_) fun _ => ?_⟩
      · exact ⟨_, rfl, _, rfl, x, z, rfl, bad, fun H1 s1 => ⟨exm, fun ea hea => ⟨_, rfl, tl _ _ ⟨ea, s1.trans (Same.upd hea), upd_same, rfl⟩⟩⟩⟩
      refine ⟨_, rfl, rfl, _, rfl, ite2 (fun _ => ?_) fun _ => ?_⟩
      · exact ⟨_, rfl, _, rfl, (show (0 : Nat) ≤ sizeLine by decide), fun p hp => ⟨x, z, _, rfl, bad.same (Same.upd hp), fun H1 s1 => ⟨exm, fun ea hea => ⟨_, rfl, tl _ _ ⟨ea, ((Same.upd hp).trans s1).trans (Same.upd hea), upd_same, rfl⟩⟩⟩⟩⟩
      refine ⟨_, rfl, rfl, _, rfl, ite2 (fun _ => ?_) fun _ => ?_⟩
      · refine ⟨_, rfl, _, rfl, (show (2 : Nat) ≤ sizeLine by decide), fun p hp => ⟨(show (2 : Nat) ≤ sizeLine by decide), fun p2 hp2 => ⟨(show (3 : Nat) ≤ sizeLine by decide), fun p3 hp3 => ?_⟩⟩⟩
        have s0 := ((Same.upd hp).trans (Same.upd hp2)).trans (Same.upd (o := .lst [.non, .ref p, .ref p2]) hp3)
        exact ⟨x, z, _, rfl, bad.same s0, fun H1 s1 => ⟨exm, fun ea hea => ⟨_, rfl, tl _ _ ⟨ea, (s0.trans s1).trans (Same.upd hea), upd_same, rfl⟩⟩⟩⟩
      refine ⟨_, rfl, rfl, _, rfl, ite2 (fun _ => ?_) fun _ => ?_⟩
      · exact ⟨_, rfl, _, rfl, _, rfl, x, rfl, ta, fun p H0 s0 => ⟨x, z, _, rfl, bad.same s0, fun H1 s1 => ⟨exm, fun ea hea => ⟨_, rfl, tl _ _ ⟨ea, (s0.trans s1).trans (Same.upd hea), upd_same, rfl⟩⟩⟩⟩⟩
      refine ⟨_, rfl, rfl, _, rfl, ite2 (fun _ => ?_) fun _ => ?_⟩
      · exact ⟨_, rfl, _, rfl, x, z, rfl, bad, fun H1 s1 => ⟨exm, fun ea hea => ⟨_, rfl, tl _ _ ⟨ea, s1.trans (Same.upd hea), upd_same, rfl⟩⟩⟩⟩
      · exact ⟨_, rfl, _, rfl, x, z, rfl, bad, fun H1 s1 => ⟨exm, fun ea hea => ⟨_, rfl, tl _ _ ⟨ea, s1.trans (Same.upd hea), upd_same, rfl⟩⟩⟩⟩
    rintro σ1 H1 ⟨ea, s1, e1, rfl⟩
    refine ⟨_, rfl, ea, 96, .ref 96, .ref 96, true, rfl, e1, xc_NoStrictness _, rfl, fun _ h => h, by kernel_rfl, true, rfl, iteT ?_⟩
    refine ⟨_, rfl, ea, 96, .ty "ValueError", .type "ValueError", true, rfl, e1, xc_NoStrictness _, rfl, fun _ h => h, by kernel_rfl, true, rfl, iteT ?_⟩
    exact ⟨_, rfl, ea, rfl, e1, fun H2 s2 => ⟨false, rfl, q _ (s1.trans s2)⟩⟩
end
end K52
namespace K52
open PySem PySem.Spec PyProof.Rows TJ L2
section
variable {P : Program} {w : World} {mg : Str → Option Value} {base : Heap}
theorem ThAt.k {K : PySem.W.Frag} {H : Hp} {p : Addr} {ts : List (Str × Str)} (h : ThAt H p ts) (ok : ThOk ts) : ThK K H p := by
  obtain ⟨ys, e, al⟩ := h
  refine ⟨ys, SqT.of e, by rw [forall2_len al]; exact ok.n6, fun y hy => ?_⟩
  obtain ⟨j, hj⟩ := List.mem_iff_getElem?.mp hy
  obtain ⟨t, ht, b, rfl, eb⟩ := all2_get al hj
  exact ⟨b, t.1, t.2, rfl, SqT.of eb, ok.ks t (List.mem_of_getElem? ht)⟩
def sp_law (K : PySem.W.Frag) : Sp := fun vs H Q _ => ∃ (a : Addr) (ns : List Int), vs = [.ref a] ∧ SqL K H a (ns.map V.int) ∧ ns.length ≤ 63 ∧ ∀ H', Q (.bl true) H'
theorem ok_law (T : TX (KX w.params) mg) (c__law_hand : Cal P w (KX w.params) mg base "_law_hand" ["script", "cell", "k"] 1 (sp__law_hand (KX w.params))) (c__law_draw : Cal P w (KX w.params) mg base "_law_draw" ["hand", "limit"] 1 sp__law_draw) (c__law_tale : Cal P w (KX w.params) mg base "_law_tale" ["script", "first", "hands", "most"] 4 (sp__law_tale (KX w.params))) (c__law_bad_strictness : Cal P w (KX w.params) mg base "_law_bad_strictness" ["hand"] 2 sp__law_bad_strictness) (c__law_refused : Cal P w (KX w.params) mg base "_law_refused" ["tale", "strictness", "way"] 6 (sp__law_refused (KX w.params))) : FnOk P w (KX w.params) mg base CX0 7 564 fd_law ["script"] (sp_law (KX w.params)) := by
  refine (F_law w.params).ok sc_law (fun vs H Q E h => ?_) (fun cdv A outer s H vs Q E hr h => ?_)
  · obtain ⟨sc, ns, rfl, _⟩ := h
    rfl
  · obtain ⟨sc, ns, rfl, sq, hn, q⟩ := h
    refine ⟨_, (pss_cons (ps_set (i := 1) sc_law.nd rfl (by first | exact Or.inl rfl | exact Or.inr rfl) (pe_cal c__law_hand (hr.mono (by first | decide | omega)) rfl (pa_cons (pv 0) (pa_cons (pe_ix ix_seq (pe_op op_catQ (pv 0) (pe_lst (pa_cons pe_int pa_nil))) pe_int (fun _ _ => rfl)) (pa_cons pe_int pa_nil)))))
      (pss_cons (ps_set (i := 2) sc_law.nd rfl (by first | exact Or.inl rfl | exact Or.inr rfl) (pe_cal c__law_tale (hr.mono (by first | decide | omega)) rfl (pa_cons (pv 0) (pa_cons pe_int (pa_cons (pe_op opAdd pe_int (pe_cal c__law_draw (hr.mono (by first | decide | omega)) rfl (pa_cons (pv 1) (pa_cons pe_int pa_nil)))) (pa_cons pe_int pa_nil))))))
      (pss_cons (ps_for PassesOwn.never rfl (pi_list (pe_slice slSeq (pe_op op_catQ (pv 0) (pe_lst (pa_cons pe_int (pa_cons pe_int (pa_cons pe_int (pa_cons pe_int (pa_cons pe_int pa_nil))))))) po_none (po_some pe_int))) (pg_name (i := 3) sc_law.nd rfl (by first | exact Or.inl rfl | exact Or.inr rfl))
      (pss_cons (ps_set (i := 4) sc_law.nd rfl (by first | exact Or.inl rfl | exact Or.inr rfl) (pe_cal c__law_bad_strictness (hr.mono (by first | decide | omega)) rfl (pa_cons (pe_cal c__law_hand (hr.mono (by first | decide | omega)) rfl (pa_cons (pv 0) (pa_cons (pv 3) (pa_cons pe_int pa_nil)))) pa_nil)))
      (pss_one (ps_for PassesOwn.never rfl (pi_list (pe_lst (pa_cons (pv 2) (pa_cons (pe_tup (pa_cons (pe_ix ix_seq (pv 2) pe_int (fun _ _ => rfl)) (pa_cons (pe_tup pa_nil) pa_nil))) (pa_cons (pe_tup (pa_cons (pe_tup pa_nil) (pa_cons (pe_tup pa_nil) pa_nil))) pa_nil))))) (pg_name (i := 5) sc_law.nd rfl (by first | exact Or.inl rfl | exact Or.inr rfl))
      (pss_one (ps_for PassesOwn.never rfl (pi_range1 rfl (T.no (n_range _)) (pa_cons pe_int pa_nil)) (pg_name (i := 6) sc_law.nd rfl (by first | exact Or.inl rfl | exact Or.inr rfl))
      (pss_one (ps_if (pt_not (pt_val (pe_cal c__law_refused (hr.mono (by first | decide | omega)) rfl (pa_cons (pv 5) (pa_cons (pv 4) (pa_cons (pv 6) pa_nil)))) (fun _ => rfl)))
      (pss_one (ps_ret pe_bl))
      pss_nil))))))))
      (pss_one (ps_ret pe_bl))))), ?_⟩
    have hc : ∃ c : Int, atI (ns.map V.int ++ [V.int 0]) 0 = some (.int c) := by
      match ns with
      | [] => exact ⟨0, rfl⟩
      | a :: r => exact ⟨a, atI_nat (j := 0) rfl⟩
    obtain ⟨c, hc⟩ := hc
    refine ⟨_, rfl, _, rfl, (show (1 : Nat) ≤ sizeLine by decide), fun l0 hl0 => ?_⟩
    have sA := Same.upd (o := .lst [V.int 0]) hl0
    refine ⟨sc, l0, ns.map V.int, [.int 0], rfl, rfl, sA.seq sq, SqL.of upd_same, by rw [List.length_map]; exact Nat.le_trans (m := 65) (by show ns.length + 1 ≤ 65; omega) (by decide), fun l1 hl1 => ?_⟩
    have sB := sA.trans (Same.upd (o := .lst (ns.map V.int ++ [V.int 0])) hl1)
    refine .inl ⟨l1, _, 0, .int c, rfl, rfl, SqL.of upd_same, hc, sc, ns, c, 0, rfl, sB.seq sq, by decide, by decide, fun r H1 s1 R1 hr1 => ?_⟩
    have s1 := sB.trans s1
    have fr : H r = none := sB.free hr1
    refine ⟨_, rfl, _, rfl, r, 3, rfl, R1, by decide, by decide, fun t2 H2 w2 h20 h21 => .inl ⟨1, t2, rfl, rfl, ?_⟩⟩
    have s2 : Same H H2 := same_kept s1 (w2.keptL (L := [r]) (by simp)) (fun l hl => by rw [List.mem_singleton.mp hl]; exact fr)
    refine ⟨sc, ns, 1 + t2, 8, rfl, s2.seq sq, hn, by omega, by omega, fun t pt te ys es ts H3 s3 et ete th3 ok3 _ _ _ => ?_⟩
    have s3 := s2.trans s3
    have tk3 : ThK (KX w.params) H3 pt := th3.k ok3
    refine ⟨_, rfl, (show (5 : Nat) ≤ sizeLine by decide), fun l5 hl5 => ?_⟩
    have s5 := Same.upd (o := .lst [V.int 0, .int 0, .int 0, .int 0, .int 0]) hl5
    refine ⟨sc, l5, ns.map V.int, [.int 0, .int 0, .int 0, .int 0, .int 0], rfl, rfl, (s3.trans s5).seq sq, SqL.of upd_same, by rw [List.length_map]; exact Nat.le_trans (m := 70) (by show ns.length + 5 ≤ 70; omega) (by decide), fun l6 hl6 => ?_⟩
    have s6 := s5.trans (Same.upd (o := .lst (ns.map V.int ++ [V.int 0, .int 0, .int 0, .int 0, .int 0])) hl6)
    refine ⟨5, rfl, .inl ⟨l6, _, rfl, SqL.of upd_same, fun l7 hl7 => ?_⟩⟩
    have ci : ∀ y ∈ cutV (ns.map V.int ++ [V.int 0, .int 0, .int 0, .int 0, .int 0]) none (some 5), ∃ c : Int, y = .int c := fun y hy => by
      have : y ∈ ns.map V.int ++ [V.int 0, .int 0, .int 0, .int 0, .int 0] := List.mem_of_mem_drop (List.mem_of_mem_take hy)
      rcases List.mem_append.mp this with z | z
      · obtain ⟨c, _, rfl⟩ := List.mem_map.mp z
        exact ⟨c, rfl⟩
      · simp only [List.mem_cons, List.not_mem_nil, or_false] at z
        rcases z with rfl | rfl | rfl | rfl | rfl <;> exact ⟨0, rfl⟩
    have s7 := s6.trans (Same.upd (o := .lst (cutV (ns.map V.int ++ [V.int 0, .int 0, .int 0, .int 0, .int 0]) none (some 5))) hl7)
    have e7 : upd (upd (upd H3 l5 (.lst [V.int 0, .int 0, .int 0, .int 0, .int 0])) l6 (.lst (ns.map V.int ++ [V.int 0, .int 0, .int 0, .int 0, .int 0]))) l7 (.lst (cutV (ns.map V.int ++ [V.int 0, .int 0, .int 0, .int 0, .int 0]) none (some 5))) l7 = some (.lst (cutV (ns.map V.int ++ [V.int 0, .int 0, .int 0, .int 0, .int 0]) none (some 5))) := upd_same
    generalize upd (upd (upd H3 l5 (.lst [V.int 0, .int 0, .int 0, .int 0, .int 0])) l6 (.lst (ns.map V.int ++ [V.int 0, .int 0, .int 0, .int 0, .int 0]))) l7 (.lst (cutV (ns.map V.int ++ [V.int 0, .int 0, .int 0, .int 0, .int 0]) none (some 5))) = H7 at s7 e7 ⊢
    generalize cutV (ns.map V.int ++ [V.int 0, .int 0, .int 0, .int 0, .int 0]) none (some 5) = cs at ci e7 ⊢
    have et7 := s7 _ _ et
    have tk7 := tk3.same s7
    have s7 := s3.trans s7
    refine ⟨l7, rfl, ⟨_, SqL.of e7⟩, ?_⟩
    refine for_list (K := KX w.params) (a := l7) (xs := cs) (fun _ σ H' => Same H7 H' ∧ ∃ x3 x4 x5 x6, σ = [some (.ref sc), some (.ref r), some (.ref t), x3, x4, x5, x6]) ⟨Same.refl _, _, _, _, _, rfl⟩ (fun _ σ H' _ h => SqL.of (h.1 _ _ e7)) ?_ ?_
    · rintro i y σ H8 hy ⟨s8, x3, x4, x5, x6, rfl⟩
      obtain ⟨c8, rfl⟩ := ci y (List.mem_of_getElem? hy)
      refine g_name ?_
      refine ⟨_, rfl, _, rfl, sc, ns, c8, 77, rfl, (s7.trans s8).seq sq, by decide, by decide, fun ha H9 s9 R9 f9 => ⟨ha, rfl, R9, fun v H10 w10 bad => ?_⟩⟩
      have s10 : Same H7 H10 := same_kept (s8.trans s9) (w10.keptL (L := [ha]) (by simp)) (fun l hl => by rw [List.mem_singleton.mp hl]; exact s8.free f9)
      refine ⟨_, rfl, _, rfl, .inr (.inl ⟨t, _, 0, .ref pt, rfl, rfl, SqT.of (s10 _ _ et7), atI_nat (j := 0) rfl, (show (0 : Nat) ≤ sizeLine by decide), fun c1 hc1 => ⟨(show (2 : Nat) ≤ sizeLine by decide), fun c2 hc2 => ⟨(show (0 : Nat) ≤ sizeLine by decide), fun c3 hc3 => ⟨(show (0 : Nat) ≤ sizeLine by decide), fun c4 hc4 => ⟨(show (2 : Nat) ≤ sizeLine by decide), fun c5 hc5 => ⟨(show (3 : Nat) ≤ sizeLine by decide), fun l9 hl9 => ?_⟩⟩⟩⟩⟩⟩)⟩
      have q1 := Same.upd (o := .tup []) hc1
      have q2 := Same.upd (o := .tup [.ref pt, .ref c1]) hc2
      have q3 := Same.upd (o := .tup []) hc3
      have q4 := Same.upd (o := .tup []) hc4
      have q5 := Same.upd (o := .tup [.ref c3, .ref c4]) hc5
      have q6 := Same.upd (o := .lst [.ref t, .ref c2, .ref c5]) hl9
      have f2 := q6 _ _ (q5 _ _ (q4 _ _ (q3 _ _ (upd_same (H := upd H10 c1 (.tup [])) (a := c2) (o := .tup [.ref pt, .ref c1])))))
      have f3 := q6 _ _ (q5 _ _ (q4 _ _ (upd_same (H := upd (upd H10 c1 (.tup [])) c2 (.tup [.ref pt, .ref c1])) (a := c3) (o := .tup []))))
      have f5 := q6 _ _ (upd_same (H := upd (upd (upd (upd H10 c1 (.tup [])) c2 (.tup [.ref pt, .ref c1])) c3 (.tup [])) c4 (.tup [])) (a := c5) (o := .tup [.ref c3, .ref c4]))
      have f6 := upd_same (H := upd (upd (upd (upd (upd H10 c1 (.tup [])) c2 (.tup [.ref pt, .ref c1])) c3 (.tup [])) c4 (.tup [])) c5 (.tup [.ref c3, .ref c4])) (a := l9) (o := .lst [.ref t, .ref c2, .ref c5])
      have s11 := ((((q1.trans q2).trans q3).trans q4).trans q5).trans q6
      generalize upd (upd (upd (upd (upd (upd H10 c1 (.tup [])) c2 (.tup [.ref pt, .ref c1])) c3 (.tup [])) c4 (.tup [])) c5 (.tup [.ref c3, .ref c4])) l9 (.lst [.ref t, .ref c2, .ref c5]) = H11 at f2 f3 f5 f6 s11 ⊢
      have s711 := s10.trans s11
      have tk11 := tk7.same s711
      have bad11 := bad.same s11
      refine ⟨l9, rfl, ⟨_, SqL.of f6⟩, ?_⟩
      refine for_list (K := KX w.params) (a := l9) (xs := [.ref t, .ref c2, .ref c5]) (fun _ σ H' => Same H11 H' ∧ ∃ x5 x6, σ = [some (.ref sc), some (.ref r), some (.ref t), some (.int c8), some v, x5, x6]) ⟨Same.refl _, _, _, rfl⟩ (fun _ σ H' _ h => SqL.of (h.1 _ _ f6)) ?_ ?_
      · rintro j y σ H12 hy2 ⟨s12, x5, x6, rfl⟩
        have ta : TaleAt (KX w.params) H12 y := by
          have hm := List.mem_of_getElem? hy2
          simp only [List.mem_cons, List.not_mem_nil, or_false] at hm
          refine TaleAt.same s12 ?_
          rcases hm with rfl | rfl | rfl
          · exact ⟨t, pt, _, rfl, SqT.of (s711 _ _ et7), tk11⟩
          · exact ⟨c2, pt, _, rfl, SqT.of f2, tk11⟩
          · exact ⟨c5, c3, _, rfl, SqT.of f5, [], SqT.of f3, by decide, fun _ h => absurd h List.not_mem_nil⟩
        refine g_name ?_
        refine ⟨6, rfl, by decide, by decide, ?_⟩
        refine for_range (lo := 0) (n := 6) (fun _ σ H' => Same H12 H' ∧ ∃ x6, σ = [some (.ref sc), some (.ref r), some (.ref t), some (.int c8), some v, some y, x6]) ⟨Same.refl _, _, rfl⟩ ?_ ?_
        · rintro m σ H13 _ ⟨s13, x6, rfl⟩
          refine g_name ?_
          exact ⟨_, rfl, _, rfl, _, rfl, y, v, _, rfl, ta.same s13, bad11.same (s12.trans s13), fun H14 s14 => ⟨true, rfl, iteN (by decide) ⟨s13.trans s14, _, rfl⟩⟩⟩
        · rintro σ H13 ⟨s13, x6, rfl⟩
          exact ⟨s12.trans s13, _, _, rfl⟩
      · rintro σ H12 ⟨s12, x5, x6, rfl⟩
        exact ⟨s711.trans s12, _, _, _, _, rfl⟩
    · rintro σ H8 ⟨s8, x3, x4, x5, x6, rfl⟩
      exact q _
end
end K52
namespace K52
open PySem PySem.Spec PyProof.Rows TJ L2
theorem all_law {P : Program} {w : World} {mg : Str → Option Value} {base : Heap} (T : TX (KX w.params) mg) : FnOk P w (KX w.params) mg base CX0 7 564 fd_law ["script"] (sp_law (KX w.params)) := by
  have c_is_kind := cal_is_kind (P := P) (w := w) (base := base) T (ok_is_kind T )
  have c_first_state := calE_first_state (P := P) (w := w) (base := base) T (ok_first_state T c_is_kind)
  have c_check_strictness := calE_check_strictness (P := P) (w := w) (base := base) T (ok_check_strictness T )
  have c_has_to := calE_has_to (P := P) (w := w) (base := base) T (ok_has_to T c_check_strictness)
  have c_explains := calE_explains (P := P) (w := w) (base := base) T (ok_explains T c_has_to)
  have c_Board := ok_Board (P := P) (w := w) (base := base) T c_has_to
  have c_nexts := calE_nexts (P := P) (w := w) (base := base) T (ok_nexts T c_Board)
  have c_all_places := calE_all_places (P := P) (w := w) (base := base) T (ok_all_places T c_Board)
  have c_judged := calE_judged (P := P) (w := w) (base := base) T (ok_judged T c_Board)
  have c__law_hand := cal__law_hand (P := P) (w := w) (base := base) T (ok__law_hand T )
  have c__law_draw := cal__law_draw (P := P) (w := w) (base := base) T (ok__law_draw T )
  have c__law_worth := cal__law_worth (P := P) (w := w) (base := base) T (ok__law_worth T c__law_draw)
  have c__law_act := cal__law_act (P := P) (w := w) (base := base) T (ok__law_act T c__law_draw c__law_worth)
  have c__law_begun := cal__law_begun (P := P) (w := w) (base := base) T (ok__law_begun T )
  have c__law_does := cal__law_does (P := P) (w := w) (base := base) T (ok__law_does T )
  have c__law_things := cal__law_things (P := P) (w := w) (base := base) T (ok__law_things T c__law_draw)
  have c__law_ended := cal__law_ended (P := P) (w := w) (base := base) T (ok__law_ended T c__law_draw c__law_does)
  have c__law_tale := cal__law_tale (P := P) (w := w) (base := base) T (ok__law_tale T c__law_hand c__law_draw c__law_things c__law_begun c__law_ended c__law_act c__law_does)
  have c_first_place := cal_first_place (P := P) (w := w) (base := base) T (ok_first_place T c_first_state)
  have c__law_bad_strictness := cal__law_bad_strictness (P := P) (w := w) (base := base) T (ok__law_bad_strictness T c__law_draw)
  have c__law_other_class := cal__law_other_class (P := P) (w := w) (base := base) T (ok__law_other_class T )
  have c__law_refused := cal__law_refused (P := P) (w := w) (base := base) T (ok__law_refused T c_has_to c_explains c_nexts c_all_places c_judged c_first_place c__law_other_class)
  exact ok_law T c__law_hand c__law_draw c__law_tale c__law_bad_strictness c__law_refused
end K52
open PySem PySem.W PyProof.Rows
set_option maxRecDepth 100000 in
set_option maxHeartbeats 0 in
theorem PySem.Challenge.cw_talejudge_k52_no_strictness_holds : PySem.Challenge.rw_talejudge_k52_no_strictness.Holds := by
  w_on; o_law
  refine holds_open (q := K52.viewX) (loose := K52.looseX) (Xt := K52.XtX) (XP := XL K52.viewX []) (Yf := Hook.obs K52.HX) (Ya := Hook.val K52.HX) (YP := Hook.says K52.HX) (N := 200000) K52.leftX (Hook.of K52.HX) (Hook.keeps K52.HX) (fun s e => xl_of s (Bool.and_eq_true_iff.mp e).1) XL.keeps (by rfl) (by rfl) (by rfl) (fun s e => recFacts_of (Bool.and_eq_true_iff.mp e).2) (by rfl) (by assumption) (by decide +kernel) ⟨rfl, rfl, rfl, rfl, rfl, by decide +kernel⟩ ?hw ?hc
  case hw => w_witness2
  case hc =>
    refine L2.walk_of (l := PySem.Challenge.rw_talejudge_k52_no_strictness) (n := 63) (k := 7) (x := "script") (K := K52.KX) (CX := fun _ => L2.CX0) (sp := fun w => K52.sp_law (K52.KX w.params)) rfl (by decide) rfl ⟨rfl, by decide, by decide⟩ (fun w h Y => PySem.W.kIn_of Y) ?F ?S ?C
    case F =>
      intro w mg fa h KX G hmg
      have T := L2.TX.mk' KX G
      have e0 := hmg.symm.trans (T.of (K52.g_law _))
      cases e0
      exact ⟨K52.fd_law, fun s u => .of_eq rfl, fun base kb nb => K52.all_law T⟩
    case S => exact fun w H a ns hl hO hS => ⟨a, ns, rfl, hS, hl, fun _ => rfl⟩
    case C => exact fun _ _ _ _ _ z => z
