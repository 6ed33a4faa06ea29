import PyProof.Rows.All
import Wide.All
import OpenK.AllK
import Wide.FinOn
import Lean
import PyProof.EqAt
import PyProof.EqKinds
import PyProof.TupleCall
import Open.Tops
import KE.KIntText
import PyProof.ZipIter
import PyProof.Draws
import KE.KDictSum
import KE.KSortedM
import OpenK.KRaise
import OpenK.KOwn
import PyProof.ExcBaseAll.ValueError
import KE.KTryMore
import PyProof.NsDelKeeps
import KE.KDictOf
import KE.KEqDict
import PySem.Challenge.RW_talejudge_k64_parts_of_tales
set_option maxRecDepth 100000
set_option maxHeartbeats 0
namespace K64
open_shared pre for PySem.Challenge.pw_talejudge_k64_parts_of_tales leaving 1
end K64
set_option maxHeartbeats 200000
-- CHANGE: your row's module here, as the last of these rows
set_option Elab.async false
set_option linter.all false
set_option maxRecDepth 100000
namespace L2
open PySem PySem.Spec PyProof.Rows
abbrev Key := Sum Int Str
def keyIs : Key → Value → Bool
  | .inl k, v => Value.isInt k v
  | .inr x, v => Value.isStrOf x v
def keyH (w : World) : Key → Int
  | .inl k => hashInt k
  | .inr x => hashStr w x
theorem keyIs_shape : ∀ {k : Key} {v : Value}, keyIs k v = true → (∃ i t, k = Sum.inl i ∧ v = Value.int i t) ∨ (∃ x t, k = Sum.inr x ∧ v = Value.str x t)
  | .inl i, v, h => by
    obtain ⟨t, e⟩ := Value.isInt_shape (k := i) (v := v) h
    exact .inl ⟨i, t, rfl, e⟩
  | .inr x, v, h => by
    obtain ⟨t, e⟩ := Value.isStrOf_shape (x := x) (v := v) h
    exact .inr ⟨x, t, rfl, e⟩
theorem keyIs_int (i : Int) (t : Tok) : keyIs (.inl i) (.int i t) = true := by simp [keyIs, Value.isInt]
theorem keyIs_str (x : Str) (t : Tok) : keyIs (.inr x) (.str x t) = true := by simp [keyIs, Value.isStrOf]
theorem key_ll (a b : Int) : decide ((Sum.inl a : Key) = Sum.inl b) = (a == b) := by
  by_cases e : a = b
  · subst e; simp
  · have h : ¬ (Sum.inl a : Key) = Sum.inl b := fun q => e (Sum.inl.inj q)
    rw [decide_eq_false h]
    exact (beq_eq_false_iff_ne.mpr e).symm
theorem key_rr (a b : Str) : decide ((Sum.inr a : Key) = Sum.inr b) = decide (a = b) := by
  by_cases e : a = b
  · subst e; simp
  · have h : ¬ (Sum.inr a : Key) = Sum.inr b := fun q => e (Sum.inr.inj q)
    rw [decide_eq_false h, decide_eq_false e]
theorem key_lr (a : Int) (b : Str) : decide ((Sum.inl a : Key) = Sum.inr b) = false := decide_eq_false (fun q => nomatch q)
theorem key_rl (a : Str) (b : Int) : decide ((Sum.inr a : Key) = Sum.inl b) = false := decide_eq_false (fun q => nomatch q)
def mixKind (prog : Program) (w : World) : PySem.KeyKind prog w Key where
  is := keyIs
  hash := keyH w
  inj := fun v a b ha hb => by
    rcases keyIs_shape ha with ⟨i, t, rfl, rfl⟩ | ⟨x, t, rfl, rfl⟩
    · rcases keyIs_shape hb with ⟨j, u, rfl, e⟩ | ⟨y, u, rfl, e⟩
      · injection e with e1 _; rw [e1]
      · exact nomatch e
    · rcases keyIs_shape hb with ⟨j, u, rfl, e⟩ | ⟨y, u, rfl, e⟩
      · exact nomatch e
      · injection e with e1 _; rw [e1]
  byValue := fun k v h => by
    rcases keyIs_shape h with ⟨i, t, rfl, rfl⟩ | ⟨x, t, rfl, rfl⟩ <;> rfl
  pyHash := fun hv h => by
    rcases keyIs_shape hv with ⟨i, t, rfl, rfl⟩ | ⟨x, t, rfl, rfl⟩
    · exact wpAny_pyHash_int h
    · exact wpAny_pyHash_str h
  eqBool := fun hu hv h => by
    rcases keyIs_shape hu with ⟨i, t, rfl, rfl⟩ | ⟨x, t, rfl, rfl⟩
    · rcases keyIs_shape hv with ⟨j, u, rfl, rfl⟩ | ⟨y, u, rfl, rfl⟩
      · rw [key_ll] at h; exact wpAny_eqBool_int h
      · rw [key_lr] at h; exact SeqAt.EqAt.int_str i t y u _ _ _ _ h
    · rcases keyIs_shape hv with ⟨j, u, rfl, rfl⟩ | ⟨y, u, rfl, rfl⟩
      · rw [key_rl] at h; exact SeqAt.EqAt.str_int x t j u _ _ _ _ h
      · rw [key_rr] at h; exact wpAny_eqBool_str h
  «strs» := fun k x t v h => by
    rcases keyIs_shape h with ⟨i, u, rfl, e⟩ | ⟨y, u, rfl, e⟩
    · exact nomatch e
    · injection e with e1 _
      subst e1
      cases v <;> rfl
theorem mixKind_int (prog : Program) (w : World) (i : Int) (t : Tok) : (mixKind prog w).is (.inl i) (.int i t) = true := keyIs_int i t
theorem mixKind_str (prog : Program) (w : World) (x : Str) (t : Tok) : (mixKind prog w).is (.inr x) (.str x t) = true := keyIs_str x t
end L2
namespace L2
open PySem PySem.Spec PyProof.Rows
inductive V where
  | non | bl (b : Bool) | int (i : Int) | str (x : Str) | byt (b : Array UInt8) | flt (b : UInt64) | ref (a : Addr) | ty (n : String)
  deriving DecidableEq
def RelV : V → Value → Prop
  | .non, u => u = Value.none
  | .bl b, u => u = Value.bool b
  | .int i, u => ∃ t, u = Value.int i t
  | .str x, u => ∃ t, u = Value.str x t
  | .byt b, u => ∃ t, u = Value.bytes b t
  | .flt b, u => ∃ t, u = Value.float b t
  | .ref a, u => u = Value.ref a
  | .ty n, u => u = Value.type n
abbrev Vals : List V → List Value → Prop := Paired RelV
theorem Vals.length {xs : List V} {us : List Value} (r : Vals xs us) : xs.length = us.length := Paired.length r
theorem Vals.get : ∀ {xs : List V} {us : List Value} {i : Nat} {x : V}, Vals xs us → xs[i]? = some x → ∃ u, us[i]? = some u ∧ RelV x u
  | _, _, _, _, .nil, e => by simp at e
  | _, _, 0, _, .cons r _, e => by simp at e; subst e; exact ⟨_, rfl, r⟩
  | _, _, i + 1, x, .cons _ t, e => by
    obtain ⟨u, h1, h2⟩ := Vals.get (i := i) (x := x) t (by simpa using e)
    exact ⟨u, by simpa using h1, h2⟩
theorem Vals.set {x : V} {u : Value} (r : RelV x u) : ∀ {xs : List V} {us : List Value} (i : Nat), Vals xs us → Vals (xs.set i x) (us.set i u)
  | _, _, _, .nil => .nil
  | _, _, 0, .cons _ t => .cons r t
  | _, _, i + 1, .cons q t => .cons q (Vals.set r i t)
theorem Vals.append : ∀ {xs ys : List V} {us ws : List Value}, Vals xs us → Vals ys ws → Vals (xs ++ ys) (us ++ ws)
  | _, _, _, _, .nil, s => s
  | _, _, _, _, .cons r t, s => .cons r (Vals.append t s)
theorem Vals.take : ∀ {xs : List V} {us : List Value} (n : Nat), Vals xs us → Vals (xs.take n) (us.take n)
  | _, _, 0, _ => .nil
  | _, _, _ + 1, .nil => .nil
  | _, _, n + 1, .cons r t => .cons r (Vals.take n t)
theorem Vals.drop : ∀ {xs : List V} {us : List Value} (n : Nat), Vals xs us → Vals (xs.drop n) (us.drop n)
  | _, _, 0, r => r
  | _, _, _ + 1, .nil => .nil
  | _, _, n + 1, .cons _ t => Vals.drop n t
def RelO : Option V → Option Value → Prop
  | some v, some u => RelV v u
  | none, none => True
  | _, _ => False
def KV {κ : Type} : List (κ × V) → List (κ × Value) → Prop := Paired fun (p : κ × V) (q : κ × Value) => p.1 = q.1 ∧ RelV p.2 q.2
def kV : Key → V
  | .inl i => .int i
  | .inr x => .str x
inductive HO where
  | lst (xs : List V)
  | tup (xs : List V)
  | dK (kvs : List (Key × V)) | dT (kvs : List (List Key × V))
  | set (S : Int → Bool) (n : Nat)
  | ins (C dx : Addr) (fs : List (Str × V))
  | own (x : Addr)
  | xd (fs : List (Str × V))
  | met (f x : Addr)
  | rng (lo hi : Int)
  | frz (o : Obj) (u : HO)
  | tbl (ps : Array Value)
  | ext (φ : Heap → Prop)
abbrev Hp := Addr → Option HO
def upd (H : Hp) (a : Addr) (o : HO) : Hp := fun b => if b = a then some o else H b
theorem upd_same {H : Hp} {a : Addr} {o : HO} : upd H a o a = some o := by unfold upd; rw [if_pos rfl]
theorem upd_ne {H : Hp} {a b : Addr} {o : HO} (h : b ≠ a) : upd H a o b = H b := by unfold upd; rw [if_neg h]
theorem ne_of {H : Hp} {a b : Addr} {o u : HO} (h : H a = some o) (h' : H b = some u) (d : o ≠ u) : a ≠ b := by
  intro e; subst e; rw [h] at h'; exact d (Option.some.inj h')
theorem ne_of_none {H : Hp} {a b : Addr} {o : HO} (h : H a = some o) (h' : H b = none) : a ≠ b := by
  intro e; subst e; rw [h] at h'; cases h'
section
variable (P : Program) (w : World)
def IsTupN (h : Heap) (a : Addr) (items : Array Value) : Prop := IsTup h a items ∧ ∃ o, h.get? a = some o ∧ o.dict = none
theorem IsTupN.new (h : Heap) (items : Array Value) : IsTupN (h.push { cls := .type "tuple", data := .seq items }) h.objs.size items := ⟨IsTup.new _ _, _, Heap.get?_push_size _ rfl, rfl⟩
def ObjOk (H : Hp) (h : Heap) (a : Addr) : HO → Prop
  | .lst xs => xs.length ≤ sizeLine ∧ ∃ (its : List Value) (n : Nat), Vals xs its ∧ h.get? a = some { cls := .type "list", data := .seq its.toArray n }
  | .tup xs => xs.length ≤ sizeLine ∧ ∃ its : List Value, Vals xs its ∧ IsTupN h a its.toArray
  | .dK kvs => kvs.length ≤ sizeLine ∧ (a == sysModules) = false ∧ ∃ vs, KV kvs vs ∧ h.DictOf (mixKind P w) a vs
  | .dT kvs => kvs.length ≤ sizeLine ∧ (a == sysModules) = false ∧ ∃ xs : List (List Key × Addr × Value),
      Paired (fun (p : List Key × V) (q : List Key × Addr × Value) => p.1 = q.1 ∧ H q.2.1 = some (.tup (p.1.map kV)) ∧ RelV p.2 q.2.2) kvs xs ∧
      ∃ o es ep, h.get? a = some o ∧ o.ExactDict ∧ o.data = .dict es ep ∧ es.toList = xs.map (entryOfKey (tupleKind (mixKind P w))) ∧ (xs.map (·.1)).Nodup
  | .set S n => h.SetOf (intKind P w) a S n
  | .ins C dx fs => H dx = some (.own a) ∧ fs.length ≤ 1000 ∧ dx ≠ a ∧ h.get? a = some (PySem.W.instObj C dx) ∧
      ∃ mA, h.Ns1 dx mA ∧ (∀ f, RelO (fs.lookup f) (mA f)) ∧ PySem.Within mA (fs.map (·.1))
  | .own _ => ∃ o, h.get? a = some o
  | .xd fs => ∃ mA, h.Ns1 a mA ∧ ∀ f, RelO (fs.lookup f) (mA f)
  | .rng lo hi => ∃ t u v, h.get? a = some { cls := .type "range", data := .fields #[.int lo t, .int hi u, .int 1 v] }
  | .frz o u => h.get? a = some o ∧ ObjOk H h a u
  | .tbl ps => h.get? a = some { cls := .none, data := .fields ps }
  | .met f x => h.get? a = some (PySem.W.methodObj (.ref f) (.ref x))
  | .ext φ => φ h ∧ (∃ o, h.get? a = some o) ∧ ∀ h1 h2 : Heap, φ h1 → (∀ o, h1.get? a = some o → h2.get? a = some o) → φ h2
def HOk (H : Hp) (h : Heap) : Prop := ∀ a o, H a = some o → ObjOk P w H h a o
end
section
variable {P : Program} {w : World} {H H' : Hp} {h h' : Heap} {a : Addr} {o : HO}
theorem ObjOk.lt (x : ObjOk P w H h a o) : a < h.objs.size := by
  cases o with
  | lst xs => obtain ⟨_, _, _, _, e⟩ := x; exact Heap.lt_size e
  | tup xs => obtain ⟨_, _, _, p⟩ := x; exact p.1.lt
  | dK kvs => obtain ⟨_, _, _, _, o, _, _, e, _⟩ := x; exact Heap.lt_size e
  | dT kvs => obtain ⟨_, _, _, _, o, _, _, e, _⟩ := x; exact Heap.lt_size e
  | set S n => obtain ⟨o, _, _, _, e, _⟩ := x; exact Heap.lt_size e
  | ins C dx fs => obtain ⟨_, _, _, e, _⟩ := x; exact Heap.lt_size e
  | own y => obtain ⟨_, e⟩ := x; exact Heap.lt_size e
  | xd fs => obtain ⟨_, ⟨_, _, _, e, _⟩, _⟩ := x; exact Heap.lt_size e
  | rng lo hi => obtain ⟨_, _, _, e⟩ := x; exact Heap.lt_size e
  | frz ob u => obtain ⟨e, _⟩ := x; exact Heap.lt_size e
  | tbl ps => exact Heap.lt_size (show h.get? a = some _ from x)
  | met f y => exact Heap.lt_size (show h.get? a = some _ from x)
  | ext φ => obtain ⟨_, ⟨_, e⟩, _⟩ := x; exact Heap.lt_size e
theorem Paired.mapP {α β : Type} {F G : α → β → Prop} : ∀ {l₁ : List α} {l₂ : List β}, Paired F l₁ l₂ → (∀ a b, F a b → G a b) → Paired G l₁ l₂
  | _, _, .nil, _ => .nil
  | _, _, .cons r t, f => .cons (f _ _ r) (Paired.mapP t f)
theorem ObjOk.stay (x : ObjOk P w H h a o) (k : ∀ b u, (b = a ∨ H b = some (.own a)) → h.get? b = some u → h'.get? b = some u)
    (ho : ∀ b, H b = some (.own a) → H' b = some (.own a)) (ht : ∀ b xs, H b = some (.tup xs) → H' b = some (.tup xs)) : ObjOk P w H' h' a o := by
  induction o with
  | lst xs => obtain ⟨z, its, n, r, e⟩ := x; exact ⟨z, its, n, r, k _ _ (.inl rfl) e⟩
  | tup xs => obtain ⟨z, its, r, ⟨ob, e, c⟩, o2, e2, d2⟩ := x; exact ⟨z, its, r, ⟨ob, k _ _ (.inl rfl) e, c⟩, o2, k _ _ (.inl rfl) e2, d2⟩
  | dK kvs => obtain ⟨z, y, vs, r, ob, es, ep, e, c⟩ := x; exact ⟨z, y, vs, r, ob, es, ep, k _ _ (.inl rfl) e, c⟩
  | dT kvs =>
    obtain ⟨z, y, xs, r, ob, es, ep, e, c⟩ := x
    exact ⟨z, y, xs, Paired.mapP r fun p q z => ⟨z.1, ht _ _ z.2.1, z.2.2⟩, ob, es, ep, k _ _ (.inl rfl) e, c⟩
  | set S n => obtain ⟨ob, es, ep, t, e, c⟩ := x; exact ⟨ob, es, ep, t, k _ _ (.inl rfl) e, c⟩
  | ins C dx fs =>
    obtain ⟨d, z, ne, e, mA, ⟨od, es, ep, e2, c⟩, r⟩ := x
    exact ⟨ho _ d, z, ne, k _ _ (.inl rfl) e, mA, ⟨od, es, ep, k _ _ (.inr d) e2, c⟩, r⟩
  | own y => obtain ⟨ob, e⟩ := x; exact ⟨ob, k _ _ (.inl rfl) e⟩
  | xd fs => obtain ⟨mA, ⟨od, es, ep, e, c⟩, r⟩ := x; exact ⟨mA, ⟨od, es, ep, k _ _ (.inl rfl) e, c⟩, r⟩
  | rng lo hi => obtain ⟨t, u, v, e⟩ := x; exact ⟨t, u, v, k _ _ (.inl rfl) e⟩
  | frz ob u ih => obtain ⟨e, q⟩ := x; exact ⟨k _ _ (.inl rfl) e, ih q⟩
  | tbl ps =>
    have e : h.get? a = some { cls := .none, data := .fields ps } := x
    show h'.get? a = some { cls := .none, data := .fields ps }
    exact k a _ (.inl rfl) e
  | met f y =>
    have e : h.get? a = some (PySem.W.methodObj (.ref f) (.ref y)) := x
    show h'.get? a = some (PySem.W.methodObj (.ref f) (.ref y))
    exact k a _ (.inl rfl) e
  | ext φ => obtain ⟨p, ⟨o, e⟩, st⟩ := x; exact ⟨st _ _ p fun o q => k _ _ (.inl rfl) q, ⟨o, k _ _ (.inl rfl) e⟩, st⟩
theorem HOk.lt (x : HOk P w H h) (e : H a = some o) : a < h.objs.size := (x a o e).lt
theorem HOk.fresh (x : HOk P w H h) (e : h.objs.size ≤ a) : H a = none := by
  cases q : H a with
  | none => rfl
  | some u => exact absurd (Nat.lt_of_lt_of_le (x.lt q) e) (Nat.lt_irrefl _)
theorem HOk.kept (x : HOk P w H h) (k : ∀ b u, h.get? b = some u → h'.get? b = some u) : HOk P w H h' := fun a o e =>
  (x a o e).stay (fun b u _ q => k b u q) (fun _ q => q) fun _ _ q => q
theorem HOk.laid (x : HOk P w H h) (k : ∀ b u, h.get? b = some u → h'.get? b = some u) (hp : h.objs.size ≤ a) (new : ObjOk P w (upd H a o) h' a o) : HOk P w (upd H a o) h' := fun b u e => by
  have hn := x.fresh hp
  by_cases hb : b = a
  · subst hb; rw [upd_same] at e; cases e; exact new
  · rw [upd_ne hb] at e
    exact (x b u e).stay (fun c v _ q => k c v q) (fun c q => by rw [upd_ne (ne_of_none q hn)]; exact q) fun c xs q => by rw [upd_ne (ne_of_none q hn)]; exact q
end
def Rd (H : Hp) (a : Addr) (u : HO) : Prop := H a = some u ∨ ∃ o, H a = some (.frz o u)
theorem Rd.ok {P : Program} {w : World} {H : Hp} {h : Heap} {a : Addr} {u : HO} (r : Rd H a u) (x : HOk P w H h) : ObjOk P w H h a u := by
  rcases r with r | ⟨o, r⟩
  · exact x a u r
  · obtain ⟨_, q⟩ := x a _ r
    exact q
def Mut : Option HO → Prop
  | some (.lst _) => True
  | some (.dK _) => True
  | some (.dT _) => True
  | some (.set _ _) => True
  | some (.ins _ _ _) => True
  | some (.ext _) => True
  | _ => False
section
variable {P : Program} {w : World} {H : Hp} {h h' : Heap} {x e : Addr} {o' : HO}
theorem HOk.write (ok : HOk P w H h) (mu : Mut (H x)) (he : e = x ∨ H e = some (.own x)) (k : ∀ b u, b ≠ e → h.get? b = some u → h'.get? b = some u) (heo : ∃ u, h'.get? e = some u)
    (new : ObjOk P w (upd H x o') h' x o') : HOk P w (upd H x o') h' := fun b u q => by
  have nown : ∀ c y, H c = some (.own y) → c ≠ x := fun c y r z => by subst z; rw [r] at mu; exact mu
  have ntup : ∀ c xs, H c = some (.tup xs) → c ≠ x := fun c xs r z => by subst z; rw [r] at mu; exact mu
  by_cases hb : b = x
  · subst hb; rw [upd_same] at q; cases q; exact new
  · rw [upd_ne hb] at q
    by_cases hbe : b = e
    · have q' : H b = some (.own x) := by
        rcases he with z | z
        · exact absurd (hbe.trans z) hb
        · rw [hbe]; exact z
      rw [q] at q'; cases q'
      obtain ⟨v, hv⟩ := heo
      exact ⟨v, by rw [hbe]; exact hv⟩
    · refine (ok b u q).stay (fun c v hc r => k c v ?_ r) (fun c r => by rw [upd_ne (nown c b r)]; exact r) fun c xs r => by rw [upd_ne (ntup c xs r)]; exact r
      rcases hc with rfl | hc
      · exact hbe
      · rintro rfl
        rcases he with z | z
        · exact nown c b hc z
        · rw [hc] at z; cases z; exact hb rfl
end
structure Un (fs ex : List Addr) (H H' : Hp) (h h' : Heap) : Prop where
  keep : ∀ b o, h.get? b = some o → H b = none → b ∉ fs → b ∉ ex → h'.get? b = some o
  slot : ∀ b o, h.get? b = some o → H b = none → b ∈ fs → b ∉ ex → ∃ sl, h'.get? b = some { o with slots := sl }
  free : ∀ b o, h.get? b = some o → H b = none → b ∉ ex → H' b = none
  there : ∀ b o, h.get? b = some o → b ∉ ex → ∃ o', h'.get? b = some o'
  tups : ∀ b xs, H b = some (.tup xs) → H' b = some (.tup xs)
  frzs : ∀ b o u, H b = some (.frz o u) → H' b = some (.frz o u)
  tbls : ∀ b ps, H b = some (.tbl ps) → ∃ more, H' b = some (.tbl (ps ++ more))
section
variable {fs fs' ex ex' : List Addr} {H H1 H2 : Hp} {h h1 h2 h' : Heap} {a x e : Addr} {o : HO}
theorem Un.any (u : Un fs ex H H1 h h1) {b : Addr} {ob : Obj} (q : h.get? b = some ob) (n : H b = none) (hx : b ∉ ex) : ∃ sl, h1.get? b = some { ob with slots := sl } := by
  by_cases hb : b ∈ fs
  · exact u.slot b ob q n hb hx
  · exact ⟨ob.slots, u.keep b ob q n hb hx⟩
theorem Un.kept (k : ∀ b u, h.get? b = some u → h'.get? b = some u) : Un fs ex H H h h' :=
  ⟨fun b ob q _ _ _ => k b ob q, fun b ob q _ _ _ => ⟨ob.slots, k b ob q⟩, fun _ _ _ n _ => n, fun b ob q _ => ⟨ob, k b ob q⟩, fun _ _ q => q, fun _ _ _ q => q, fun _ ps q => ⟨#[], by rw [q]; simp⟩⟩
theorem Un.refl : Un fs ex H H h h := Un.kept fun _ _ q => q
theorem Un.laid (k : ∀ b u, h.get? b = some u → h'.get? b = some u) (hp : h.objs.size ≤ a) (hn : H a = none) : Un fs ex H (upd H a o) h h' where
  keep := fun b u q _ _ _ => k b u q
  slot := fun b u q _ _ _ => ⟨u.slots, k b u q⟩
  free := fun b u q n _ => by rw [upd_ne (Nat.ne_of_lt (Nat.lt_of_lt_of_le (Heap.lt_size q) hp))]; exact n
  there := fun b u q _ => ⟨u, k b u q⟩
  tups := fun b xs q => by rw [upd_ne (ne_of_none q hn)]; exact q
  frzs := fun b u xs q => by rw [upd_ne (ne_of_none q hn)]; exact q
  tbls := fun b ps q => ⟨#[], by rw [upd_ne (ne_of_none q hn), q]; simp⟩
theorem Un.write (mu : Mut (H x)) (he : e = x ∨ H e = some (.own x)) (k : ∀ b u, b ≠ e → h.get? b = some u → h'.get? b = some u) (heo : ∃ u, h'.get? e = some u) : Un fs ex H (upd H x o) h h' := by
  have hx : ∀ b, H b = none → b ≠ x := fun b n z => by subst z; rw [n] at mu; exact mu
  have hb : ∀ b, H b = none → b ≠ e := fun b n z => by
    subst z
    rcases he with r | r
    · exact hx b n r
    · rw [n] at r; cases r
  have hm : ∀ b u, H b = some u → ¬ Mut (some u) → b ≠ x := fun b u q nm z => by subst z; rw [q] at mu; exact nm mu
  refine ⟨fun b u q n _ _ => k b u (hb b n) q, fun b u q n _ _ => ⟨u.slots, k b u (hb b n) q⟩, fun b u q n _ => by rw [upd_ne (hx b n)]; exact n, fun b u q _ => ?_,
    fun b xs q => by rw [upd_ne (hm b _ q fun z => z)]; exact q, fun b u xs q => by rw [upd_ne (hm b _ q fun z => z)]; exact q, fun b ps q => ⟨#[], by rw [upd_ne (hm b _ q fun z => z), q]; simp⟩⟩
  by_cases hbe : b = e
  · subst hbe; exact heo
  · exact ⟨u, k b u hbe q⟩
end
def trk (h : Heap) (H : Hp) : List Addr := (List.range h.objs.size).filter fun a => (H a).isSome
def hidT (h : Heap) (H : Hp) : Heap := PySem.W.hideAll h (trk h H)
theorem hidT_size (h : Heap) (H : Hp) : (hidT h H).objs.size = h.objs.size := PySem.W.hideAll_size _ _
theorem hidT_get {h : Heap} {H : Hp} {b : Addr} {o : Obj} (e : h.get? b = some o) (n : H b = none) : (hidT h H).get? b = some o :=
  PySem.W.hideAll_get _ e fun hm => by
    have q : (H b).isSome = true := (List.mem_filter.mp hm).2
    rw [n] at q; simp at q
theorem of_hidT {h : Heap} {H : Hp} {b : Addr} {o : Obj} (e : (hidT h H).get? b = some o) : h.get? b = some o ∧ H b = none := by
  have e' : h.get? b = some o := PySem.W.of_hideAll (trk h H) e
  refine ⟨e', ?_⟩
  cases q : H b with
  | none => rfl
  | some x =>
    have hm : b ∈ trk h H := List.mem_filter.mpr ⟨List.mem_range.mpr (Heap.lt_size e'), by simp [q]⟩
    have z : (hidT h H).get? b = none := PySem.W.hideAll_none (trk h H) hm
    rw [z] at e; cases e
def allNews (g h : Heap) (L : Addr) : List (Addr × Obj) := (List.range h.objs.size).filterMap fun a => if a = L ∨ (g.get? a).isSome = true then none else (h.get? a).map fun o => (a, o)
def rest (g h : Heap) (L d : Addr) : List (Addr × Obj) := (allNews g h L).filter fun p => decide (p.1 ≠ d)
end L2
namespace L2
open PySem PySem.Spec PyProof.Rows
structure Mod (K : PySem.W.Frag) (mg : Str → Option Value) (base : Heap) : Prop where
  kin : K.In base
  glob : base.Ns mainGlobals mg
  blt : ∃ mb, base.Ns builtinsNs mb ∧ ∀ x : Str, x ≠ "__name__" → mb x = bootBuiltins x
  nolimit : base.NoLimit
structure Cx where
  prog : Program
  w : World
  K : PySem.W.Frag
  mg : Str → Option Value
  base : Heap
  A : Around
  N : List Str
  s₀ : Shared
  H₀ : Hp
  env : Env
  outer : List Env
  stack : List Env
  ex : List Addr
  fn : Str → Bool
  calm : Bool
  pn : List (Addr × Obj)
  xe : Value → Shared → Prop
def frs (l : List Env) : List Addr := l.filterMap (·.frame)
abbrev Cx.fs (X : Cx) : List Addr := frs X.outer
def Vis (sc : Scope) (x : Str) : Prop := sc.names.lookup x = some .local ∨ sc.names.lookup x = some .cell ∨ sc.names.lookup x = some .free
def Loc (sc : Scope) (x : Str) : Prop := sc.names.lookup x = some .local ∨ sc.names.lookup x = some .cell
def Look (env : Env) (h : Heap) (m : Str → Option Value) (x : Str) (u : Value) : Prop :=
  (env.kindOf x = some .local ∧ m x = some u) ∨ ((env.kindOf x = some .cell ∨ env.kindOf x = some .free) ∧ ∃ c, env.cells.lookup x = some c ∧ h.IsCell c (some u))
structure Cx.Ok (X : Cx) : Prop where
  mod : Mod X.K X.mg X.base
  kind : X.env.scope.kind = .function
  glob : X.env.globals = mainGlobals
  blt : X.env.builtins = builtinsNs
  above : X.s₀.heap.objs.size ≤ X.env.locals
  inj : ∀ x y c, X.env.cells.lookup x = some c → X.env.cells.lookup y = some c → x = y
  has : ∀ x, (X.env.kindOf x = some .cell ∨ X.env.kindOf x = some .free) → ∃ c, X.env.cells.lookup x = some c
  cab : ∀ x c, X.fn x = true → X.env.cells.lookup x = some c → X.s₀.heap.objs.size ≤ c
  hd : X.calm = true → X.A.handled = none
  frames : X.A.frames = some X.stack
  stk : X.stack = X.outer ∨ (X.stack = X.env :: X.outer ∧ X.env.frame = some X.env.locals)
  exf : ∀ b ∈ X.ex, b ≠ X.env.locals ∧ ∀ x c, X.env.cells.lookup x = some c → c ≠ b
  bs : ∀ b o, X.base.get? b = some o → X.s₀.heap.get? b = some o ∧ X.H₀ b = none
  bsz : X.base.objs.size ≤ X.s₀.heap.objs.size
  noex : ∀ b o, X.base.get? b = some o → b ∉ X.ex
  exfs : ∀ b ∈ X.ex, b ∉ X.fs
  funs : X.s₀.heap.FunFrames X.base X.outer
  frf : ∀ b ∈ X.fs, X.H₀ b = none
structure Inv (X : Cx) (pins : List (Addr × Obj)) (σ : List (Option V)) (H : Hp) (s : Shared) : Prop where
  ok : X.Ok
  os : s.os = X.s₀.os
  bare : AllBare s.gens
  base : Un X.fs X.ex X.H₀ H X.s₀.heap s.heap
  loc : ∃ m, s.heap.Ns X.env.locals m ∧ ∀ (i : Nat) (x : Str) (v : V), X.N[i]? = some x → σ[i]? = some (some v) → Vis X.env.scope x → ∃ u, RelV v u ∧ Look X.env s.heap m x u
  cell : ∀ x c, X.env.cells.lookup x = some c → ∃ v, s.heap.IsCell c v
  free : H X.env.locals = none
  freeC : ∀ x c, X.env.cells.lookup x = some c → H c = none
  pin : ∀ p ∈ X.pn ++ pins, s.heap.get? p.1 = some p.2 ∧ H p.1 = none ∧ p.1 ≠ X.env.locals ∧ p.1 ∉ X.fs ∧ ∀ v, p.2.data ≠ .cell v
  hok : HOk X.prog X.w H s.heap
  len : σ.length = X.N.length
section
variable {X : Cx} {pins : List (Addr × Obj)} {σ : List (Option V)} {H H' : Hp} {s : Shared} {h' : Heap}
theorem Cx.Ok.nofr (ok : X.Ok) {b : Addr} {o : Obj} (e : X.base.get? b = some o) : b ∉ X.fs := fun hb => by
  have := (ok.funs.mem hb).1
  rw [e] at this; cases this
theorem Inv.bs (I : Inv X pins σ H s) : ∀ b o, X.base.get? b = some o → s.heap.get? b = some o ∧ H b = none := fun b o e =>
  ⟨I.base.keep b o (I.ok.bs b o e).1 (I.ok.bs b o e).2 (I.ok.nofr e) (I.ok.noex b o e), I.base.free b o (I.ok.bs b o e).1 (I.ok.bs b o e).2 (I.ok.noex b o e)⟩
theorem Inv.bk (I : Inv X pins σ H s) : ∀ b o, X.base.get? b = some o → s.heap.get? b = some o := fun b o e => (I.bs b o e).1
theorem Inv.mod (I : Inv X pins σ H s) : Mod X.K X.mg X.base := I.ok.mod
theorem Inv.kIn (I : Inv X pins σ H s) : X.K.In s.heap := I.ok.mod.kin.keeps I.bk
theorem Inv.lt (I : Inv X pins σ H s) : X.env.locals < s.heap.objs.size := let ⟨_, hn, _⟩ := I.loc; hn.lt
theorem Inv.sz (I : Inv X pins σ H s) : X.s₀.heap.objs.size ≤ s.heap.objs.size := Nat.le_trans I.ok.above (Nat.le_of_lt I.lt)
theorem Inv.nofs (I : Inv X pins σ H s) {a : Addr} (h : s.heap.objs.size ≤ a) : a ∉ X.fs := fun hb => by
  obtain ⟨_, o, ho, _⟩ := I.ok.funs.mem hb
  exact absurd (Nat.lt_of_lt_of_le (Heap.lt_size ho) (Nat.le_trans I.sz h)) (Nat.lt_irrefl _)
theorem Inv.cne (I : Inv X pins σ H s) : ∀ x c, X.env.cells.lookup x = some c → c ≠ X.env.locals := fun x c e z => by
  obtain ⟨v, o, ho, hd⟩ := I.cell x c e
  obtain ⟨m, ⟨o', es, ep, ho', hd', _⟩, _⟩ := I.loc
  rw [z, ho'] at ho; cases ho; rw [hd'] at hd; cases hd
theorem Inv.funs (I : Inv X pins σ H s) : s.heap.FunFrames X.base X.outer := by
  have all : ∀ (l : List Env), (∀ b ∈ frs l, b ∈ X.fs) → X.s₀.heap.FunFrames X.base l → s.heap.FunFrames X.base l := by
    intro l
    induction l with
    | nil => intro _ _; trivial
    | cons env r ih =>
      intro hs hl
      obtain ⟨hk, ⟨L, o, hf, hn, ho, hd⟩, hr⟩ := hl
      have hL : L ∈ X.fs := hs L (by unfold frs; rw [List.filterMap_cons, hf]; exact List.mem_cons_self)
      obtain ⟨sl, e⟩ := I.base.slot L o ho (I.ok.frf L hL) hL fun z => I.ok.exfs L z hL
      exact ⟨hk, ⟨L, _, hf, hn, e, hd⟩, ih (fun b hb => hs b (by unfold frs; rw [List.filterMap_cons, hf]; exact List.mem_cons_of_mem _ hb)) hr⟩
  exact all X.outer (fun _ hb => hb) I.ok.funs
theorem Inv.stack (I : Inv X pins σ H s) : s.heap.FunFrames X.base X.stack := by
  rcases I.ok.stk with e | ⟨e, hf⟩
  · rw [e]; exact I.funs
  · rw [e]
    obtain ⟨m, hn, _⟩ := I.loc
    refine .cons (by rw [I.ok.kind]; decide) hf hn ?_ I.funs
    exact Heap.get?_none_of_le (Nat.le_trans I.ok.bsz I.ok.above)
theorem Inv.stkSub (I : Inv X pins σ H s) : ∀ b ∈ frs X.stack, b ∈ X.env.locals :: X.fs := fun b hb => by
  rcases I.ok.stk with e | ⟨e, hf⟩
  · rw [e] at hb; exact List.mem_cons_of_mem _ hb
  · rw [e] at hb
    unfold frs at hb
    rw [List.filterMap_cons, hf] at hb
    exact hb
theorem Inv.stkFree (I : Inv X pins σ H s) : ∀ b ∈ frs X.stack, H b = none := fun b hb => by
  rcases List.mem_cons.mp (I.stkSub b hb) with e | hb
  · rw [e]; exact I.free
  · obtain ⟨_, o, ho, _⟩ := I.ok.funs.mem hb
    exact I.base.free b o ho (I.ok.frf b hb) fun z => I.ok.exfs b z hb
theorem Inv.step {g' : Array GenState} {t' : Nat} {d' : Drawn} {ch : List Addr} (I : Inv X pins σ H s)
    (hch : ∀ b ∈ ch, (b ∈ X.ex ∨ X.s₀.heap.objs.size ≤ b) ∧ b ≠ X.env.locals ∧ (∀ x c, X.env.cells.lookup x = some c → c ≠ b) ∧ ∀ p ∈ X.pn ++ pins, p.1 ≠ b)
    (keep : ∀ b o, b ≠ X.env.locals → b ∉ X.fs → b ∉ ch → s.heap.get? b = some o → H b = none → h'.get? b = some o)
    (slot : ∀ b o, b ≠ X.env.locals → b ∈ X.fs → b ∉ ch → s.heap.get? b = some o → H b = none → ∃ sl, h'.get? b = some { o with slots := sl }) (free : ∀ b o, b ∉ ch → s.heap.get? b = some o → H b = none → H' b = none)
    (there : ∀ b o, b ∉ ch → s.heap.get? b = some o → ∃ o', h'.get? b = some o')
    (tups : ∀ b xs, H b = some (.tup xs) → H' b = some (.tup xs)) (frzs : ∀ b o u, H b = some (.frz o u) → H' b = some (.frz o u)) (tbls : ∀ b ps, H b = some (.tbl ps) → ∃ more, H' b = some (.tbl (ps ++ more)))
    (ns : ∀ m, s.heap.Ns X.env.locals m → h'.Ns X.env.locals m) (hok : HOk X.prog X.w H' h') (hg : AllBare g') :
    Inv X pins σ H' { s with heap := h', gens := g', drawn := d', toks := t' } := by
  have neL : ∀ b o, X.s₀.heap.get? b = some o → b ≠ X.env.locals := fun b o e => Nat.ne_of_lt (Nat.lt_of_lt_of_le (Heap.lt_size e) I.ok.above)
  have neC : ∀ b o, X.s₀.heap.get? b = some o → b ∉ X.ex → b ∉ ch := fun b o e hx hb => by
    rcases (hch b hb).1 with z | z
    · exact hx z
    · exact absurd (Nat.lt_of_lt_of_le (Heap.lt_size e) z) (Nat.lt_irrefl _)
  have cellK : ∀ x c, X.env.cells.lookup x = some c → ∀ v, s.heap.IsCell c v → h'.IsCell c v := fun x c e v ⟨o, ho, hd⟩ => by
    have nch : c ∉ ch := fun z => (hch c z).2.2.1 x c e rfl
    by_cases hc : c ∈ X.fs
    · obtain ⟨sl, q⟩ := slot c o (I.cne x c e) hc nch ho (I.freeC x c e)
      exact ⟨_, q, hd⟩
    · exact ⟨o, keep c o (I.cne x c e) hc nch ho (I.freeC x c e), hd⟩
  refine ⟨I.ok, I.os, hg, ⟨fun b o e n hb hx => ?_, fun b o e n hb hx => ?_, fun b o e n hx => ?_, fun b o e hx => ?_, fun b xs e => tups b xs (I.base.tups b xs e), fun b o xs e => frzs b o xs (I.base.frzs b o xs e), fun b ps e => ?_⟩, ?_, fun x c e => ?_, ?_, fun x c e => ?_, fun p hp => ?_, hok, I.len⟩
  · exact keep b o (neL b o e) hb (neC b o e hx) (I.base.keep b o e n hb hx) (I.base.free b o e n hx)
  · obtain ⟨sl, e1⟩ := I.base.slot b o e n hb hx
    obtain ⟨sl', e2⟩ := slot b _ (neL b o e) hb (neC b o e hx) e1 (I.base.free b o e n hx)
    exact ⟨sl', e2⟩
  · obtain ⟨o', e1⟩ := I.base.there b o e hx
    exact free b o' (neC b o e hx) e1 (I.base.free b o e n hx)
  · obtain ⟨o', e1⟩ := I.base.there b o e hx
    exact there b o' (neC b o e hx) e1
  · obtain ⟨m1, e1⟩ := I.base.tbls b ps e
    obtain ⟨m2, e2⟩ := tbls b _ e1
    exact ⟨m1 ++ m2, by rw [e2, Array.append_assoc]⟩
  · obtain ⟨m, hn, hl⟩ := I.loc
    refine ⟨m, ns m hn, fun i x v e1 e2 e3 => ?_⟩
    obtain ⟨u, r, l⟩ := hl i x v e1 e2 e3
    refine ⟨u, r, ?_⟩
    rcases l with l | ⟨k, c, e, z⟩
    · exact .inl l
    · exact .inr ⟨k, c, e, cellK x c e _ z⟩
  · obtain ⟨v, z⟩ := I.cell x c e
    exact ⟨v, cellK x c e v z⟩
  · obtain ⟨m, ⟨o, _, _, ho, _⟩, _⟩ := I.loc
    exact free _ o (fun z => (hch _ z).2.1 rfl) ho I.free
  · obtain ⟨v, o, ho, hd⟩ := I.cell x c e
    exact free c o (fun z => (hch c z).2.2.1 x c e rfl) ho (I.freeC x c e)
  · obtain ⟨e, n, ne, nf, d⟩ := I.pin p hp
    have nch : p.1 ∉ ch := fun z => (hch p.1 z).2.2.2 p hp rfl
    exact ⟨keep p.1 p.2 ne nf nch e n, free p.1 p.2 nch e n, ne, nf, d⟩
theorem Inv.un {t' : Nat} (I : Inv X pins σ H s) (u : Un X.fs [] H H' s.heap h') (hok : HOk X.prog X.w H' h') : Inv X pins σ H' { s with heap := h', toks := t' } := by
  obtain ⟨m, ⟨o, es, ep, ho, r⟩, _⟩ := id I.loc
  obtain ⟨sl, hL⟩ := u.any ho I.free (by simp)
  exact I.step (g' := s.gens) (d' := s.drawn) (ch := []) (fun _ z => nomatch z) (fun b o _ hb _ e n => u.keep b o e n hb (by simp)) (fun b o _ hb _ e n => u.slot b o e n hb (by simp)) (fun b o _ e n => u.free b o e n (by simp)) (fun b o _ e => u.there b o e (by simp)) u.tups u.frzs u.tbls (fun m' hm => by
    obtain ⟨o', es', ep', ho', r'⟩ := hm
    rw [ho] at ho'; cases ho'
    exact ⟨_, es', ep', hL, r'⟩) hok I.bare
theorem Inv.call {g' : Array GenState} {t' : Nat} {d' : Drawn} {ch : List Addr} (I : Inv X pins σ H s) (u : Un (frs X.stack) ch H H' s.heap h') (hok : HOk X.prog X.w H' h') (hg : AllBare g')
    (hch : ∀ b ∈ ch, (b ∈ X.ex ∨ X.s₀.heap.objs.size ≤ b) ∧ b ≠ X.env.locals ∧ (∀ x c, X.env.cells.lookup x = some c → c ≠ b) ∧ ∀ p ∈ X.pn ++ pins, p.1 ≠ b) :
    Inv X pins σ H' { s with heap := h', gens := g', drawn := d', toks := t' } := by
  obtain ⟨m, ⟨o, es, ep, ho, r⟩, _⟩ := id I.loc
  obtain ⟨sl, hL⟩ := u.any ho I.free fun z => (hch _ z).2.1 rfl
  exact I.step (ch := ch) hch (fun b o hL hb hc e n => u.keep b o e n (fun z => (List.mem_cons.mp (I.stkSub b z)).elim hL hb) hc) (fun b o _ _ hc e n => u.any e n hc) (fun b o hc e n => u.free b o e n hc) (fun b o hc e => u.there b o e hc) u.tups u.frzs u.tbls (fun m' hm => by
    obtain ⟨o', es', ep', ho', r'⟩ := hm
    rw [ho] at ho'; cases ho'
    exact ⟨_, es', ep', hL, r'⟩) hok hg
theorem Inv.turned {t' : Nat} {it : Addr} (I : Inv X pins σ H s) (k : ∀ b o, b ≠ it → s.heap.get? b = some o → h'.get? b = some o) (hn : H it = none) (hL : it ≠ X.env.locals)
    (h1 : it ∈ X.ex ∨ X.s₀.heap.objs.size ≤ it) (h2 : ∀ x c, X.env.cells.lookup x = some c → c ≠ it) (h3 : ∀ p ∈ X.pn ++ pins, p.1 ≠ it) : Inv X pins σ H { s with heap := h', toks := t' } := by
  have nit : ∀ b u, H b = some u → b ≠ it := fun b u e z => by rw [z, hn] at e; cases e
  refine I.step (g' := s.gens) (d' := s.drawn) (ch := [it]) (fun b hb => ?_) (fun b o _ _ hc e _ => k b o (fun z => hc (by simp [z])) e) (fun b o _ _ hc e _ => ⟨o.slots, k b o (fun z => hc (by simp [z])) e⟩) (fun _ _ _ _ n => n)
    (fun b o hc e => ⟨o, k b o (fun z => hc (by simp [z])) e⟩) (fun _ _ e => e) (fun _ _ _ e => e) (fun b ps e => ⟨#[], by rw [e]; simp⟩) (fun m hm => ?_) (fun b u e => ?_) I.bare
  · have e : b = it := by simpa using hb
    subst e
    exact ⟨h1, hL, h2, h3⟩
  · obtain ⟨o, es, ep, ho, r⟩ := hm
    exact ⟨o, es, ep, k _ o (Ne.symm hL) ho, r⟩
  · refine (I.hok b u e).stay (fun c v hc q => k c v ?_ q) (fun _ q => q) fun _ _ q => q
    rcases hc with z | z
    · rw [z]; exact nit b u e
    · exact nit c _ z
theorem Inv.tok (I : Inv X pins σ H s) (t : Nat) : Inv X pins σ H { s with toks := t } := I.un (h' := s.heap) (t' := t) Un.refl I.hok
theorem Inv.kept {t' : Nat} (I : Inv X pins σ H s) (k : ∀ b u, s.heap.get? b = some u → h'.get? b = some u) : Inv X pins σ H { s with heap := h', toks := t' } := I.un (Un.kept k) (I.hok.kept k)
theorem Inv.laid {a : Addr} {o : HO} {t' : Nat} (I : Inv X pins σ H s) (k : ∀ b u, s.heap.get? b = some u → h'.get? b = some u) (hp : s.heap.objs.size ≤ a) (new : ObjOk X.prog X.w (upd H a o) h' a o) :
    Inv X pins σ (upd H a o) { s with heap := h', toks := t' } := I.un (Un.laid k hp (I.hok.fresh hp)) (I.hok.laid k hp new)
theorem Inv.write {x e : Addr} {o : HO} {t' : Nat} (I : Inv X pins σ H s) (mu : Mut (H x)) (he : e = x ∨ H e = some (.own x)) (k : ∀ b u, b ≠ e → s.heap.get? b = some u → h'.get? b = some u) (heo : ∃ u, h'.get? e = some u)
    (new : ObjOk X.prog X.w (upd H x o) h' x o) : Inv X pins σ (upd H x o) { s with heap := h', toks := t' } := I.un (Un.write mu he k heo) (I.hok.write mu he k heo new)
theorem Inv.weak {σ' : List (Option V)} (I : Inv X pins σ H s) (hl : σ'.length = σ.length) (w : ∀ (i : Nat) v, σ'[i]? = some (some v) → σ[i]? = some (some v)) : Inv X pins σ' H s :=
  ⟨I.ok, I.os, I.bare, I.base, let ⟨m, hn, hl'⟩ := I.loc; ⟨m, hn, fun i x v e1 e2 e3 => hl' i x v e1 (w i v e2) e3⟩, I.cell, I.free, I.freeC, I.pin, I.hok, hl.trans I.len⟩
theorem Inv.pins_of {pins' : List (Addr × Obj)} (I : Inv X pins σ H s) (h : ∀ p ∈ pins', s.heap.get? p.1 = some p.2 ∧ H p.1 = none ∧ p.1 ≠ X.env.locals ∧ p.1 ∉ X.fs ∧ ∀ v, p.2.data ≠ .cell v) : Inv X pins' σ H s :=
  ⟨I.ok, I.os, I.bare, I.base, I.loc, I.cell, I.free, I.freeC, fun p hp => (List.mem_append.mp hp).elim (fun z => I.pin p (List.mem_append_left _ z)) (h p), I.hok, I.len⟩
theorem nodup_ix {N : List Str} (hN : N.Nodup) {i j : Nat} {x : Str} (a : N[i]? = some x) (b : N[j]? = some x) : i = j := by
  obtain ⟨h1, e1⟩ := List.getElem?_eq_some_iff.mp a
  obtain ⟨h2, e2⟩ := List.getElem?_eq_some_iff.mp b
  exact (List.getElem_inj hN).mp (e1.trans e2.symm)
theorem store_ok2 {M : Model} {A : Around} {E : Value → Shared → Prop} {i : Nat} {x : Str} {v : V} {u : Value} {Q : Unit → Shared → Prop} (I : Inv X pins σ H s) (hN : X.N.Nodup) (hi : X.N[i]? = some x) (hx : Loc X.env.scope x) (r : RelV v u)
    (h : ∀ s', Inv X pins (σ.set i (some v)) H s' → (∃ a, Heap.SameBut a s.heap s'.heap ∧ (a = X.env.locals ∨ X.env.cells.lookup x = some a)) → Q () s') (hf : X.fn x = true ∨ X.env.scope.names.lookup x = some .local := by first | exact .inl rfl | exact .inr rfl | assumption) : wpAny M A (storeName X.env x u) Q E s := by
  obtain ⟨m, hn, hl⟩ := id I.loc
  have hcls : (X.env.scope.kind == .class || (X.env.scope.kind == .module && X.env.locals != X.env.globals)) = false := by rw [I.ok.kind]; rfl
  have hiσ : i < σ.length := by rw [I.len]; exact (List.getElem?_eq_some_iff.mp hi).1
  have cne := I.cne
  have tracked : ∀ {a : Addr} {h' : Heap}, (∃ o, s.heap.get? a = some o ∧ H a = none) → Heap.SameBut a s.heap h' → HOk X.prog X.w H h' := fun {a h'} ha hs b ob e => by
    obtain ⟨_, _, hfree⟩ := ha
    refine (I.hok b ob e).stay (fun c w' hc q => (hs.2 c ?_).trans q) (fun _ q => q) fun _ _ q => q
    rintro rfl
    rcases hc with rfl | hc
    · rw [hfree] at e; cases e
    · rw [hfree] at hc; cases hc
  rcases hx with hk | hk
  · refine wpAny_storeName_local hk hn (fun h' hn' hs => ?_) hcls
    obtain ⟨oL, _, _, hoL, _⟩ := id hn
    refine h _ ⟨I.ok, I.os, I.bare, ⟨fun b o e n hb hx => ?_, fun b o e n hb hx => ?_, I.base.free, fun b o e hx => ?_, I.base.tups, I.base.frzs, I.base.tbls⟩, ⟨_, hn', fun j y v' e1 e2 e3 => ?_⟩, fun y c e => ?_, I.free, I.freeC, fun p hp => ?_, tracked ⟨oL, hoL, I.free⟩ hs, by simpa using I.len⟩ ⟨_, hs, .inl rfl⟩
    · exact (hs.2 b (Nat.ne_of_lt (Nat.lt_of_lt_of_le (Heap.lt_size e) I.ok.above))).trans (I.base.keep b o e n hb hx)
    · obtain ⟨sl, e1⟩ := I.base.slot b o e n hb hx
      exact ⟨sl, (hs.2 b (Nat.ne_of_lt (Nat.lt_of_lt_of_le (Heap.lt_size e) I.ok.above))).trans e1⟩
    · obtain ⟨o', e1⟩ := I.base.there b o e hx
      exact ⟨o', (hs.2 b (Nat.ne_of_lt (Nat.lt_of_lt_of_le (Heap.lt_size e) I.ok.above))).trans e1⟩
    · by_cases hj : j = i
      · subst hj
        rw [hi] at e1; cases e1
        rw [List.getElem?_set_self hiσ] at e2
        cases e2
        exact ⟨u, r, .inl ⟨hk, by simp⟩⟩
      · rw [List.getElem?_set_ne (Ne.symm hj)] at e2
        obtain ⟨u', r', q⟩ := hl j y v' e1 e2 e3
        refine ⟨u', r', ?_⟩
        rcases q with ⟨k, e⟩ | ⟨k, c, e, z⟩
        · refine .inl ⟨k, ?_⟩
          have : y ≠ x := fun e => hj (nodup_ix hN e1 (e ▸ hi))
          simp [this, e]
        · exact .inr ⟨k, c, e, z.sameBut hs (cne y c e)⟩
    · obtain ⟨w', z⟩ := I.cell y c e
      exact ⟨w', z.sameBut hs (cne y c e)⟩
    · obtain ⟨e, n, ne, nf, d⟩ := I.pin p hp
      exact ⟨(hs.2 p.1 ne).trans e, n, ne, nf, d⟩
  · have hfn : X.fn x = true := by
      rcases hf with z | z
      · exact z
      · rw [z] at hk; cases hk
    obtain ⟨c, hc⟩ := I.ok.has x (.inl hk)
    obtain ⟨w', z⟩ := I.cell x c hc
    refine wpAny_storeName_cell I.ok.kind hk hc z (fun h' hc' hs => ?_)
    obtain ⟨oc, hoc, hocd⟩ := id z
    refine h { s with heap := h' } ⟨I.ok, I.os, I.bare, ⟨fun b o e n hb hx => ?_, fun b o e n hb hx => ?_, I.base.free, fun b o e hx => ?_, I.base.tups, I.base.frzs, I.base.tbls⟩, ⟨m, hn.sameBut hs (Ne.symm (cne x c hc)), fun j y v' e1 e2 e3 => ?_⟩, fun y c' e => ?_, I.free, I.freeC, fun p hp => ?_, tracked ⟨oc, hoc, I.freeC x c hc⟩ hs, by simpa using I.len⟩ ⟨c, hs, .inr hc⟩
    · exact (hs.2 b (Nat.ne_of_lt (Nat.lt_of_lt_of_le (Heap.lt_size e) (I.ok.cab x c hfn hc)))).trans (I.base.keep b o e n hb hx)
    · obtain ⟨sl, e1⟩ := I.base.slot b o e n hb hx
      exact ⟨sl, (hs.2 b (Nat.ne_of_lt (Nat.lt_of_lt_of_le (Heap.lt_size e) (I.ok.cab x c hfn hc)))).trans e1⟩
    · obtain ⟨o', e1⟩ := I.base.there b o e hx
      exact ⟨o', (hs.2 b (Nat.ne_of_lt (Nat.lt_of_lt_of_le (Heap.lt_size e) (I.ok.cab x c hfn hc)))).trans e1⟩
    · by_cases hj : j = i
      · subst hj
        rw [hi] at e1; cases e1
        rw [List.getElem?_set_self hiσ] at e2
        cases e2
        exact ⟨u, r, .inr ⟨.inl hk, c, hc, hc'⟩⟩
      · rw [List.getElem?_set_ne (Ne.symm hj)] at e2
        obtain ⟨u', r', q⟩ := hl j y v' e1 e2 e3
        refine ⟨u', r', ?_⟩
        rcases q with q | ⟨k, c', e, z'⟩
        · exact .inl q
        · refine .inr ⟨k, c', e, z'.sameBut hs ?_⟩
          rintro rfl
          exact hj (nodup_ix hN e1 (I.ok.inj _ _ _ e hc ▸ hi))
    · by_cases hcc : c' = c
      · subst hcc; exact ⟨_, hc'⟩
      · obtain ⟨w2, z2⟩ := I.cell y c' e
        exact ⟨w2, z2.sameBut hs hcc⟩
    · obtain ⟨e, n, ne, nf, d⟩ := I.pin p hp
      refine ⟨(hs.2 p.1 ?_).trans e, n, ne, nf, d⟩
      intro q
      rw [q, hoc] at e
      have q' : oc = p.2 := Option.some.inj e
      exact d w' (by rw [← q']; exact hocd)
theorem store_ok {M : Model} {A : Around} {E : Value → Shared → Prop} {i : Nat} {x : Str} {v : V} {u : Value} {Q : Unit → Shared → Prop} (I : Inv X pins σ H s) (hN : X.N.Nodup) (hi : X.N[i]? = some x) (hx : Loc X.env.scope x) (r : RelV v u)
    (h : ∀ s', Inv X pins (σ.set i (some v)) H s' → Q () s') (hf : X.fn x = true ∨ X.env.scope.names.lookup x = some .local := by first | exact .inl rfl | exact .inr rfl | assumption) : wpAny M A (storeName X.env x u) Q E s :=
  store_ok2 I hN hi hx r (fun s' I' _ => h s' I') hf
theorem Inv.call' {s' : Shared} {ch : List Addr} (I : Inv X pins σ H s) (ho : s'.os = s.os) (u : Un (frs X.stack) ch H H' s.heap s'.heap) (hok : HOk X.prog X.w H' s'.heap) (hg : AllBare s'.gens)
    (hch : ∀ b ∈ ch, (b ∈ X.ex ∨ X.s₀.heap.objs.size ≤ b) ∧ b ≠ X.env.locals ∧ (∀ x c, X.env.cells.lookup x = some c → c ≠ b) ∧ ∀ p ∈ X.pn ++ pins, p.1 ≠ b) : Inv X pins σ H' s' := by
  obtain ⟨h', g', d', t', o'⟩ := s'
  have e : o' = s.os := ho
  subst e
  exact I.call (g' := g') (t' := t') (d' := d') u hok hg hch
end
abbrev XK := Value → Option Addr → Hp → Prop
abbrev St := List (Option V)
abbrev VK := V → Hp → Prop
abbrev TE := St → Hp → VK → Prop
abbrev TT := St → Hp → (Bool → Hp → Prop) → Prop
abbrev TA := St → Hp → (List V → Hp → Prop) → Prop
structure Ends where
  nx : St → Hp → Prop
  rt : VK
  bk : St → Hp → Prop := fun _ _ => False
  ct : St → Hp → Prop := fun _ _ => False
abbrev TS := Ends → St → Hp → Prop
def EP (X : Cx) (pins : List (Addr × Obj)) (σ : St) (Q : VK) (u : Value) (s' : Shared) : Prop := ∃ v H', Inv X pins σ H' s' ∧ RelV v u ∧ Q v H'
def TP (X : Cx) (pins : List (Addr × Obj)) (σ : St) (Q : Bool → Hp → Prop) (b : Bool) (s' : Shared) : Prop := ∃ H', Inv X pins σ H' s' ∧ Q b H'
def AP (X : Cx) (pins : List (Addr × Obj)) (σ : St) (Q : List V → Hp → Prop) (us : List Value) (s' : Shared) : Prop := ∃ vs H', Inv X pins σ H' s' ∧ Vals vs us ∧ Q vs H'
def SP (X : Cx) (pins : List (Addr × Obj)) (D : Ends) (f : Flow) (s' : Shared) : Prop :=
  match f with
  | .next => ∃ σ' H', Inv X pins σ' H' s' ∧ D.nx σ' H'
  | .brk => ∃ σ' H', Inv X pins σ' H' s' ∧ D.bk σ' H'
  | .cont => ∃ σ' H', Inv X pins σ' H' s' ∧ D.ct σ' H'
  | .ret u => ∃ v σ' H', Inv X pins σ' H' s' ∧ RelV v u ∧ D.rt v H'
def PE (X : Cx) (e : Expr) (t : TE) : Prop :=
  ∀ (pins : List (Addr × Obj)) (s : Shared) (σ : St) (H : Hp) (Q : VK), Inv X pins σ H s → t σ H Q → wpAny (model X.prog X.w) X.A (eval e X.env) (EP X pins σ Q) X.xe s
def PT (X : Cx) (e : Expr) (t : TT) : Prop :=
  ∀ (pins : List (Addr × Obj)) (s : Shared) (σ : St) (H : Hp) (Q : Bool → Hp → Prop), Inv X pins σ H s → t σ H Q → wpAny (model X.prog X.w) X.A (isTrue e X.env (eval e X.env)) (TP X pins σ Q) X.xe s
def PW (X : Cx) (e : Expr) (t : TT) : Prop :=
  ∀ (whole : Sem Value) (pins : List (Addr × Obj)) (s : Shared) (σ : St) (H : Hp) (Q : Bool → Hp → Prop), Inv X pins σ H s → t σ H Q → wpAny (model X.prog X.w) X.A (isTrue e X.env whole) (TP X pins σ Q) X.xe s
theorem PW.pt {X : Cx} {e : Expr} {t : TT} (h : PW X e t) : PT X e t := h _
def PA (X : Cx) (es : List Expr) (t : TA) : Prop :=
  ∀ (pos : Pos) (pins : List (Addr × Obj)) (s : Shared) (σ : St) (H : Hp) (Q : List V → Hp → Prop), Inv X pins σ H s → t σ H Q → wpAny (model X.prog X.w) X.A (spliced (backTo pos (starEach es X.env))) (AP X pins σ Q) X.xe s
def PS (X : Cx) (st : Stmt) (t : TS) : Prop :=
  ∀ (pins : List (Addr × Obj)) (s : Shared) (σ : St) (H : Hp) (D : Ends), Inv X pins σ H s → t D σ H → wpAny (model X.prog X.w) X.A (exec st X.env) (SP X pins D) X.xe s
def PSs (X : Cx) (st : List Stmt) (t : TS) : Prop :=
  ∀ (pins : List (Addr × Obj)) (s : Shared) (σ : St) (H : Hp) (D : Ends), Inv X pins σ H s → t D σ H → wpAny (model X.prog X.w) X.A (execs st X.env) (SP X pins D) X.xe s
theorem thn {α : Type} {t : Sem α} {Q Q' : α → Shared → Prop} {M : Model} {A : Around} {E : Value → Shared → Prop} {s : Shared} (h : wpAny M A t Q E s) (hQ : ∀ a s, Q a s → Q' a s) : wpAny M A t Q' E s := wpAny_mono h hQ fun _ _ x => x
end L2
namespace L2
open PySem PySem.Spec PyProof.Rows
section
variable {X : Cx}
def tVar (i : Nat) : TE := fun σ H Q => ∃ v, σ[i]? = some (some v) ∧ Q v H
def tC (v : V) : TE := fun _ H Q => Q v H
theorem pe_var {i : Nat} {x : Str} {pos : Pos} (hN : X.N[i]? = some x) (hv : Vis X.env.scope x) (hd : (x == ("__debug__" : Str)) = false := by decide) (hcd : (x == ("__classdict__" : Str)) = false := by decide) : PE X (.Name x pos) (tVar i) := by
  intro pins s σ H Q I h
  obtain ⟨v, e, h⟩ := h
  obtain ⟨m, hn, hl⟩ := I.loc
  obtain ⟨u, r, l⟩ := hl i x v hN e hv
  have fin : EP X pins σ Q u s := ⟨v, H, I, r, h⟩
  rcases l with ⟨hk, hm⟩ | ⟨hk, c, hc, hcell⟩
  · exact wpAny_Name (wpAny_loadName_local I.ok.kind hk hn hm fin) hd
  · rcases hk with hk | hk
    · exact wpAny_Name (wpAny_loadName_cell I.ok.kind hk hc hcell fin) hd
    · exact wpAny_Name (wpAny_loadName_free I.ok.kind hk hc hcell fin hcd) hd
theorem pe_int {i j pos} : PE X (.Constant (.int i) j pos) (tC (.int i)) := fun _ _ _ H _ I h => wpAny_Constant_int ⟨.int i, H, I.tok _, ⟨_, rfl⟩, h⟩
theorem pe_bl {b j pos} : PE X (.Constant (.bool b) j pos) (tC (.bl b)) := fun _ _ _ H _ I h => Constant_bool ⟨.bl b, H, I, rfl, h⟩
theorem pe_non {j pos} : PE X (.Constant .none j pos) (tC .non) := fun _ _ _ H _ I h => Constant_none ⟨.non, H, I, rfl, h⟩
theorem pe_str {x j pos} : PE X (.Constant (.str x) j pos) (tC (.str x)) := fun _ _ _ H _ I h => Calls.Constant_str ⟨.str x, H, I.tok _, ⟨_, rfl⟩, h⟩
def Gl (X : Cx) (x : Str) : Prop := X.env.kindOf x = some .globalImplicit
theorem ld_glob {E : Value → Shared → Prop} {pins : List (Addr × Obj)} {s : Shared} {σ : St} {H : Hp} {x : Str} {u : Value} {pos : Pos} {Q : Value → Shared → Prop} (I : Inv X pins σ H s) (hg : Gl X x) (hm : X.mg x = some u) (h : Q u s)
    (hd : (x == ("__debug__" : Str)) = false := by decide) : wpAny (model X.prog X.w) X.A (eval (.Name x pos) X.env) Q E s :=
  Calls.Name_function_global I.ok.kind hg (Calls.loadGlobal_global (by rw [I.ok.glob]; exact I.mod.glob.keeps I.bk) hm h) hd
theorem ld_blt {E : Value → Shared → Prop} {pins : List (Addr × Obj)} {s : Shared} {σ : St} {H : Hp} {x : Str} {u : Value} {pos : Pos} {Q : Value → Shared → Prop} (I : Inv X pins σ H s) (hg : Gl X x) (hm : X.mg x = none) (hv : bootBuiltins x = some u) (h : Q u s)
    (hn : x ≠ "__name__" := by decide) (hd : (x == ("__debug__" : Str)) = false := by decide) : wpAny (model X.prog X.w) X.A (eval (.Name x pos) X.env) Q E s := by
  obtain ⟨mb, h1, h2⟩ := I.mod.blt
  exact Calls.Name_function_global I.ok.kind hg (Calls.loadGlobal_builtin (by rw [I.ok.glob]; exact I.mod.glob.keeps I.bk) hm (by rw [I.ok.blt]; exact h1.keeps I.bk) ((h2 x hn).trans hv) h) hd
theorem pe_glob {x : Str} {v : V} {u : Value} {pos : Pos} (hg : Gl X x) (hm : X.mg x = some u) (r : RelV v u) (hd : (x == ("__debug__" : Str)) = false := by decide) : PE X (.Name x pos) (tC v) :=
  fun _ _ _ H _ I h => ld_glob I hg hm ⟨v, H, I, r, h⟩ hd
theorem pe_bltn {x : Str} {v : V} {u : Value} {pos : Pos} (hg : Gl X x) (hm : X.mg x = none) (hv : bootBuiltins x = some u) (r : RelV v u) (hn : x ≠ "__name__" := by decide) (hd : (x == ("__debug__" : Str)) = false := by decide) : PE X (.Name x pos) (tC v) :=
  fun _ _ _ H _ I h => ld_blt I hg hm hv ⟨v, H, I, r, h⟩ hn hd
def t2I (ta tb : TE) (k : Int → Int → Hp → Prop) : St → Hp → Prop := fun σ H => ta σ H fun x H1 => tb σ H1 fun y H2 => ∃ i j, x = .int i ∧ y = .int j ∧ k i j H2
def tAdd (ta tb : TE) : TE := fun σ H Q => t2I ta tb (fun i j H2 => Q (.int (i + j)) H2) σ H
def tSub (ta tb : TE) : TE := fun σ H Q => t2I ta tb (fun i j H2 => Q (.int (i - j)) H2) σ H
def tMul (ta tb : TE) : TE := fun σ H Q => t2I ta tb (fun i j H2 => (-(2 ^ 64) < i ∧ i < 2 ^ 64) ∧ Q (.int (i * j)) H2) σ H
variable {a b : Expr} {ta tb : TE} {pos : Pos}
def PC (X : Cx) (op : CmpOp) (a b : Expr) (t : TE) : Prop :=
  ∀ (pins : List (Addr × Obj)) (s : Shared) (σ : St) (H : Hp) (Q : VK), Inv X pins σ H s → t σ H Q →
    wpAny (model X.prog X.w) X.A (eval a X.env) (fun v s₁ => wpAny (model X.prog X.w) X.A (eval b X.env) (fun u s₂ => wpAny (model X.prog X.w) X.A (compareOp op v u) (EP X pins σ Q) X.xe s₂) X.xe s₁) X.xe s
def tCmp (p : Int → Int → Bool) (ta tb : TE) : TE := fun σ H Q => t2I ta tb (fun i j H2 => Q (.bl (p i j)) H2) σ H
abbrev tLt : TE → TE → TE := tCmp fun i j => decide (i < j)
abbrev tLe : TE → TE → TE := tCmp fun i j => decide (i ≤ j)
abbrev tGt : TE → TE → TE := tCmp fun i j => decide (j < i)
abbrev tGe : TE → TE → TE := tCmp fun i j => decide (j ≤ i)
abbrev tEqI : TE → TE → TE := tCmp fun i j => decide (i = j)
abbrev tNeI : TE → TE → TE := tCmp fun i j => !decide (i = j)
def tIsN (ta : TE) : TE := fun σ H Q => ta σ H fun x H1 => Q (.bl (decide (x = .non))) H1
def tNotN (ta : TE) : TE := fun σ H Q => ta σ H fun x H1 => Q (.bl (!decide (x = .non))) H1
def tB (t : TE) : TT := fun σ H Q => t σ H fun x H1 => ∃ c, x = .bl c ∧ Q c H1
theorem pt_cmp {op : CmpOp} {t : TE} (h : PC X op a b t) (h1 : behindInMarks op b = false := by first | exact nobehind _ (by decide) (by decide) | rfl) : PT X (.Compare a [op] [b] pos) (tB t) := by
  intro pins s σ H Q I hw
  refine wpAny_isTrue_Compare1 (thn (h pins s σ H _ I hw) fun v s1 h1 => thn h1 fun u s2 h2 => thn h2 fun c s3 ⟨x, H1, I1, r1, q1⟩ => ?_) h1
  obtain ⟨d, rfl, q⟩ := q1
  cases r1
  exact wpAny_truthy_bool ⟨H1, I1, q⟩
theorem pt_val {e : Expr} {t : TE} (h : PE X e t) (he : ∀ whole, isTrue e X.env whole = (do let v ← whole; standAt e.pos; holding [v] (truthy v)) := by intro _; rfl) : PT X e (tB t) := by
  intro pins s σ H Q I hw
  refine isTrue_plain (thn (h pins s σ H _ I hw) fun v s1 ⟨x, H1, I1, r1, q1⟩ => ?_) (he _)
  obtain ⟨d, rfl, q⟩ := q1
  cases r1
  exact wpAny_truthy_bool ⟨H1, I1, q⟩
variable {tA tB' : TT} {rest : List Expr}
def tAnd (t u : TT) : TT := fun σ H Q => t σ H fun c H1 => if c = true then u σ H1 Q else Q false H1
def tOr (t u : TT) : TT := fun σ H Q => t σ H fun c H1 => if c = true then Q true H1 else u σ H1 Q
def tNot (t : TT) : TT := fun σ H Q => t σ H fun c H1 => Q (!c) H1
theorem pw_and1 (ha : PT X a tA) : PW X (.BoolOp .And [a] pos) tA := by
  intro wh pins s σ H Q I h
  refine isTrue_and (thn (ha pins s σ H Q I h) fun c s1 e => ?_)
  cases c with
  | true => exact isTrue_and_nil e
  | false => exact e
theorem pw_or1 (ha : PT X a tA) : PW X (.BoolOp .Or [a] pos) tA := by
  intro wh pins s σ H Q I h
  refine isTrue_or (thn (ha pins s σ H Q I h) fun c s1 e => ?_)
  cases c with
  | false => exact isTrue_or_nil e
  | true => exact e
theorem pw_and (ha : PT X a tA) (hb : PW X (.BoolOp .And (b :: rest) pos) tB') : PW X (.BoolOp .And (a :: b :: rest) pos) (tAnd tA tB') := by
  intro wh pins s σ H Q I h
  refine isTrue_and (thn (ha pins s σ H _ I h) fun c s1 ⟨H1, I1, q1⟩ => ?_)
  cases c with
  | true => exact hb wh pins s1 σ H1 Q I1 q1
  | false => exact ⟨H1, I1, q1⟩
theorem pw_or (ha : PT X a tA) (hb : PW X (.BoolOp .Or (b :: rest) pos) tB') : PW X (.BoolOp .Or (a :: b :: rest) pos) (tOr tA tB') := by
  intro wh pins s σ H Q I h
  refine isTrue_or (thn (ha pins s σ H _ I h) fun c s1 ⟨H1, I1, q1⟩ => ?_)
  cases c with
  | true => exact ⟨H1, I1, q1⟩
  | false => exact hb wh pins s1 σ H1 Q I1 q1
theorem pt_not (ha : PT X a tA) : PT X (.UnaryOp .Not a pos) (tNot tA) := by
  intro pins s σ H Q I h
  exact isTrue_not (ha pins s σ H (fun c H1 => Q (!c) H1) I h)
def tAndV (ta tb : TE) : TE := fun σ H Q => ta σ H fun x H1 => ∃ c, x = .bl c ∧ if c = true then tb σ H1 Q else Q (.bl false) H1
def tOrV (ta tb : TE) : TE := fun σ H Q => ta σ H fun x H1 => ∃ c, x = .bl c ∧ if c = true then Q (.bl true) H1 else tb σ H1 Q
def tNotV (ta : TE) : TE := fun σ H Q => ta σ H fun x H1 => ∃ c, x = .bl c ∧ Q (.bl (!c)) H1
theorem pe_one {op} {t : TE} (h : PE X a t) : PE X (.BoolOp op [a] pos) t := fun pins s σ H Q I hw => BoolOp_one (h pins s σ H Q I hw)
theorem pe_and (ha : PE X a ta) (hb : PE X (.BoolOp .And (b :: rest) pos) tb) : PE X (.BoolOp .And (a :: b :: rest) pos) (tAndV ta tb) := by
  intro pins s σ H Q I h
  refine BoolOp_and (thn (ha pins s σ H _ I h) fun v s1 ⟨x, H1, I1, r1, q1⟩ => ?_)
  obtain ⟨c, rfl, q1⟩ := q1
  cases r1
  refine wpAny_truthy_bool ?_
  cases c with
  | true => exact hb pins s1 σ H1 Q I1 q1
  | false => exact ⟨.bl false, H1, I1, rfl, q1⟩
theorem pe_or (ha : PE X a ta) (hb : PE X (.BoolOp .Or (b :: rest) pos) tb) : PE X (.BoolOp .Or (a :: b :: rest) pos) (tOrV ta tb) := by
  intro pins s σ H Q I h
  refine BoolOp_or (thn (ha pins s σ H _ I h) fun v s1 ⟨x, H1, I1, r1, q1⟩ => ?_)
  obtain ⟨c, rfl, q1⟩ := q1
  cases r1
  refine wpAny_truthy_bool ?_
  cases c with
  | false => exact hb pins s1 σ H1 Q I1 q1
  | true => exact ⟨.bl true, H1, I1, rfl, q1⟩
def tIf (t : TT) (ta tb : TE) : TE := fun σ H Q => t σ H fun c H1 => if c = true then ta σ H1 Q else tb σ H1 Q
end
end L2
namespace L2
open PySem PySem.Spec PyProof.Rows
def SqL (K : PySem.W.Frag) (H : Hp) (a : Addr) (xs : List V) : Prop :=
  Rd H a (.lst xs) ∨
    ∃ (o : Obj) (its : Array Value) (n : Nat), K.lookup a = some o ∧ o.cls = .type "list" ∧ o.dict = none ∧ o.data = .seq its n ∧ its.size ≤ sizeLine ∧ Vals xs its.toList
def SqT (K : PySem.W.Frag) (H : Hp) (a : Addr) (xs : List V) : Prop :=
  Rd H a (.tup xs) ∨
    ∃ (o : Obj) (its : Array Value) (n : Nat), K.lookup a = some o ∧ o.cls = .type "tuple" ∧ o.data = .seq its n ∧ its.size ≤ sizeLine ∧ Vals xs its.toList
def absV : Value → Option V
  | .none => some .non
  | .bool b => some (.bl b)
  | .int i _ => some (.int i)
  | .str x _ => some (.str x)
  | .bytes b _ => some (.byt b)
  | .float b _ => some (.flt b)
  | .ref a => some (.ref a)
  | .type n => some (.ty n)
  | _ => none
theorem RelV.abs {x : V} {u : Value} (r : RelV x u) : absV u = some x := by
  cases x with
  | non => cases r; rfl
  | bl _ => cases r; rfl
  | int _ => obtain ⟨t, rfl⟩ := r; rfl
  | str _ => obtain ⟨t, rfl⟩ := r; rfl
  | byt _ => obtain ⟨t, rfl⟩ := r; rfl
  | flt _ => obtain ⟨t, rfl⟩ := r; rfl
  | ref _ => cases r; rfl
  | ty _ => cases r; rfl
theorem RelV.inj {x y : V} {u : Value} (r : RelV x u) (q : RelV y u) : x = y := Option.some.inj (r.abs.symm.trans q.abs)
theorem Vals.inj : ∀ {xs ys : List V} {us : List Value}, Vals xs us → Vals ys us → xs = ys
  | _, _, _, .nil, .nil => rfl
  | _, _, _, .cons r t, .cons r' t' => by rw [r.inj r', Vals.inj t t']
section
variable {X : Cx} {pins : List (Addr × Obj)} {σ : St} {H : Hp} {s : Shared} {a : Addr} {xs ys : List V}
theorem SqL.of {K : PySem.W.Frag} (h : H a = some (.lst xs)) : SqL K H a xs := .inl (.inl h)
theorem SqT.of {K : PySem.W.Frag} (h : H a = some (.tup xs)) : SqT K H a xs := .inl (.inl h)
theorem Inv.list (I : Inv X pins σ H s) (h : SqL X.K H a xs) : ∃ its : List Value, Vals xs its ∧ PlainL s.heap a its.toArray ∧ xs.length ≤ sizeLine := by
  rcases h with h | ⟨o, its, n, hk, hc, hd, hs, hz, r⟩
  · obtain ⟨z, its, n, r, e⟩ := h.ok I.hok
    exact ⟨its, r, ⟨_, n, e, rfl, rfl, rfl⟩, z⟩
  · refine ⟨its.toList, r, ⟨o, n, I.kIn a o hk, hc, hd, by simpa using hs⟩, ?_⟩
    have e := r.length
    simp only [Array.length_toList] at e
    omega
theorem Inv.tuple (I : Inv X pins σ H s) (h : SqT X.K H a xs) : ∃ its : List Value, Vals xs its ∧ IsTup s.heap a its.toArray ∧ xs.length ≤ sizeLine := by
  rcases h with h | ⟨o, its, n, hk, hc, hs, hz, r⟩
  · obtain ⟨z, its, r, p⟩ := h.ok I.hok
    exact ⟨its, r, p.1, z⟩
  · refine ⟨its.toList, r, ⟨o, I.kIn a o hk, hc, n, by simpa using hs⟩, ?_⟩
    have e := r.length
    simp only [Array.length_toList] at e
    omega
theorem Inv.list_inj (I : Inv X pins σ H s) (h : SqL X.K H a xs) (h' : SqL X.K H a ys) : xs = ys := by
  obtain ⟨its, r, ⟨o, n, e, _, _, d⟩, _⟩ := I.list h
  obtain ⟨its', r', ⟨o', n', e', _, _, d'⟩, _⟩ := I.list h'
  rw [e] at e'; cases e'
  rw [d] at d'
  injection d' with d1 _
  have : its = its' := by simpa using congrArg Array.toList d1
  subst this
  exact r.inj r'
theorem Inv.tuple_inj (I : Inv X pins σ H s) (h : SqT X.K H a xs) (h' : SqT X.K H a ys) : xs = ys := by
  obtain ⟨its, r, ⟨o, e, _, n, d⟩, _⟩ := I.tuple h
  obtain ⟨its', r', ⟨o', e', _, n', d'⟩, _⟩ := I.tuple h'
  rw [e] at e'; cases e'
  rw [d] at d'
  injection d' with d1 _
  have : its = its' := by simpa using congrArg Array.toList d1
  subst this
  exact r.inj r'
end
abbrev Cx.wish (X : Cx) (E : Value → Shared → Prop) : Cx := { X with xe := E }
abbrev Cx.nox (X : Cx) : Cx := X.wish fun _ _ => False
theorem Cx.Ok.wish {X : Cx} (ok : X.Ok) (E : Value → Shared → Prop) : (X.wish E).Ok :=
  ⟨ok.mod, ok.kind, ok.glob, ok.blt, ok.above, ok.inj, ok.has, ok.cab, ok.hd, ok.frames, ok.stk, ok.exf, ok.bs, ok.bsz, ok.noex, ok.exfs, ok.funs, ok.frf⟩
theorem Cx.Ok.unwish {X : Cx} {E : Value → Shared → Prop} (ok : (X.wish E).Ok) : X.Ok :=
  ⟨ok.mod, ok.kind, ok.glob, ok.blt, ok.above, ok.inj, ok.has, ok.cab, ok.hd, ok.frames, ok.stk, ok.exf, ok.bs, ok.bsz, ok.noex, ok.exfs, ok.funs, ok.frf⟩
section
variable {X : Cx} {pins : List (Addr × Obj)} {σ : St} {H : Hp} {s : Shared} {E : Value → Shared → Prop}
theorem Inv.wish (I : Inv X pins σ H s) (E : Value → Shared → Prop) : Inv (X.wish E) pins σ H s := ⟨I.ok.wish E, I.os, I.bare, I.base, I.loc, I.cell, I.free, I.freeC, I.pin, I.hok, I.len⟩
theorem Inv.unwish (I : Inv (X.wish E) pins σ H s) : Inv X pins σ H s := ⟨I.ok.unwish, I.os, I.bare, I.base, I.loc, I.cell, I.free, I.freeC, I.pin, I.hok, I.len⟩
theorem SP.unwish {D : Ends} {f : Flow} {s' : Shared} (h : SP (X.wish E) pins D f s') : SP X pins D f s' := by
  cases f with
  | next => obtain ⟨σ', H', I, q⟩ := h; exact ⟨σ', H', I.unwish, q⟩
  | brk => obtain ⟨σ', H', I, q⟩ := h; exact ⟨σ', H', I.unwish, q⟩
  | cont => obtain ⟨σ', H', I, q⟩ := h; exact ⟨σ', H', I.unwish, q⟩
  | ret u => obtain ⟨v, σ', H', I, r, q⟩ := h; exact ⟨v, σ', H', I.unwish, r, q⟩
theorem PSs.nox {st : List Stmt} {t : TS} (h : PSs X.nox st t) : PSs X st t := fun pins s σ H D I hw =>
  wpAny_mono (h pins s σ H D (I.wish _) hw) (fun _ _ q => q.unwish) fun _ _ z => False.elim z
end
section
variable {X : Cx} {st : Stmt} {rest : List Stmt} {t u : TS} {e : Expr} {te : TE} {pos : Pos}
def tNext : TS := fun D σ H => D.nx σ H
def tSeq (t u : TS) : TS := fun D σ H => t { D with nx := u D } σ H
theorem pss_nil : PSs X [] tNext := fun _ _ σ H _ I h => wpAny_execs_nil ⟨σ, H, I, h⟩
theorem pss_cons (h1 : PS X st t) (h2 : PSs X rest u) : PSs X (st :: rest) (tSeq t u) := by
  intro pins s σ H D I h
  refine wpAny_execs_cons (thn (h1 pins s σ H { D with nx := u D } I h) fun f s1 q => ?_)
  cases f with
  | next =>
    obtain ⟨σ', H', I', q⟩ := q
    exact h2 pins s1 σ' H' D I' q
  | ret v => exact q
  | brk => exact q
  | cont => exact q
theorem pss_one (h1 : PS X st t) : PSs X [st] t := by
  intro pins s σ H D I h
  refine wpAny_execs_cons (thn (h1 pins s σ H D I h) fun f s1 q => ?_)
  cases f with
  | next => exact wpAny_execs_nil q
  | ret v => exact q
  | brk => exact q
  | cont => exact q
def tBreak : TS := fun D σ H => D.bk σ H
def tCont : TS := fun D σ H => D.ct σ H
theorem Inv.quiet {pins : List (Addr × Obj)} {σ : St} {H : Hp} {s : Shared} (I : Inv X pins σ H s) : interactive X.env = false := by simp [interactive, I.ok.kind]
def tDrop (te : TE) : TS := fun D σ H => te σ H fun _ H1 => D.nx σ H1
theorem ps_expr (he : PE X e te) (hs : swapsWith e none pos.line X.env = pure false := by rfl) : PS X (.Expr e pos) (tDrop te) := by
  intro pins s σ H D I h
  exact wpAny_Expr_any (thn (he pins s σ H _ I h) fun v s1 ⟨x, H1, I1, r1, q1⟩ => ⟨σ, H1, I1, q1⟩) I.quiet hs
def tRet (te : TE) : TS := fun D σ H => te σ H D.rt
theorem ps_ret (he : PE X e te) : PS X (.Return (some e) pos) (tRet te) := by
  intro pins s σ H D I h
  exact wpAny_Return_some (thn (he pins s σ H _ I h) fun v s1 ⟨x, H1, I1, r1, q1⟩ => ⟨x, σ, H1, I1, r1, q1⟩)
def tRetN : TS := fun D _ H => D.rt .non H
def tIfS (c : TT) (t u : TS) : TS := fun D σ H => c σ H fun b H1 => if b = true then t D σ H1 else u D σ H1
theorem ps_if {c : Expr} {a b : List Stmt} {tc : TT} (hc : PT X c tc) (ha : PSs X a t) (hb : PSs X b u) : PS X (.If c a b pos) (tIfS tc t u) := by
  intro pins s σ H D I h
  refine wpAny_If (thn (hc pins s σ H _ I h) fun d s1 ⟨H1, I1, q1⟩ => ?_)
  cases d with
  | true => exact ha pins s1 σ H1 D I1 q1
  | false => exact hb pins s1 σ H1 D I1 q1
def tNever : TS := fun _ _ _ => False
end
abbrev TG := V → St → Hp → (St → Hp → Prop) → Prop
abbrev TGs := List V → St → Hp → (St → Hp → Prop) → Prop
def PG (X : Cx) (target : Expr) (t : TG) : Prop :=
  ∀ (pins : List (Addr × Obj)) (s : Shared) (σ : St) (H : Hp) (v : V) (u : Value) (Q : St → Hp → Prop), Inv X pins σ H s → RelV v u → t v σ H Q →
    wpAny (model X.prog X.w) X.A (assign target X.env u) (fun _ s' => ∃ σ' H', Inv X pins σ' H' s' ∧ Q σ' H') X.xe s
def PGs (X : Cx) (ts : List Expr) (t : TGs) : Prop :=
  ∀ (pins : List (Addr × Obj)) (s : Shared) (σ : St) (H : Hp) (vs : List V) (us : List Value) (Q : St → Hp → Prop), Inv X pins σ H s → Vals vs us → t vs σ H Q →
    wpAny (model X.prog X.w) X.A (assignInOrder ((assignEach ts X.env).map (·.2)) us) (fun _ s' => ∃ σ' H', Inv X pins σ' H' s' ∧ Q σ' H') X.xe s
abbrev TSet := V → V → V → Hp → (Hp → Prop) → Prop
def PSet (X : Cx) (t : TSet) : Prop :=
  ∀ (pins : List (Addr × Obj)) (s : Shared) (σ : St) (H : Hp) (o i v : V) (ov iv u : Value) (Q : Hp → Prop), Inv X pins σ H s → RelV o ov → RelV i iv → RelV v u → t o i v H Q →
    wpAny (model X.prog X.w) X.A (setItem ov iv u) (fun _ s' => ∃ H', Inv X pins σ H' s' ∧ Q H') X.xe s
abbrev TIp := V → V → Hp → VK → Prop
def PIp (X : Cx) (op : Operator) (t : TIp) : Prop :=
  ∀ (pins : List (Addr × Obj)) (s : Shared) (σ : St) (H : Hp) (x y : V) (v u : Value) (Q : VK), Inv X pins σ H s → RelV x v → RelV y u → t x y H Q →
    wpAny (model X.prog X.w) X.A (inplaceOp op v u) (EP X pins σ Q) X.xe s
section
variable {X : Cx} {pos : Pos}
def gName (i : Nat) : TG := fun v σ H Q => Q (σ.set i (some v)) H
theorem pg_name {i : Nat} {x : Str} (hN : X.N.Nodup) (hi : X.N[i]? = some x) (hx : Loc X.env.scope x) (hf : X.fn x = true ∨ X.env.scope.names.lookup x = some .local := by first | exact .inl rfl | exact .inr rfl | assumption) : PG X (.Name x pos) (gName i) := by
  intro pins s σ H v u Q I r h
  exact wpAny_assign_Name (store_ok I hN hi hx r (fun s' I' => ⟨_, H, I', h⟩) hf)
def gNil : TGs := fun vs σ H Q => vs = [] ∧ Q σ H
def gCons (t : TG) (u : TGs) : TGs := fun vs σ H Q => ∃ v r, vs = v :: r ∧ t v σ H fun σ' H' => u r σ' H' Q
theorem pgs_nil : PGs X [] gNil := by
  intro pins s σ H vs us Q I r h
  obtain ⟨e, h⟩ := h
  subst e
  cases r
  exact assignInOrder_nil ⟨σ, H, I, h⟩
theorem pgs_cons {e : Expr} {es : List Expr} {t : TG} {u : TGs} (h1 : PG X e t) (h2 : PGs X es u)
    (hs : (assignEach (e :: es) X.env).map (·.2) = assign e X.env :: (assignEach es X.env).map (·.2) := by rfl) : PGs X (e :: es) (gCons t u) := by
  intro pins s σ H vs us Q I r h
  obtain ⟨v, vr, e1, h⟩ := h
  subst e1
  cases r with
  | cons r rr =>
    rw [hs]
    refine assignInOrder_cons (thn (h1 pins s σ H _ _ _ I r h) fun _ s1 ⟨σ1, H1, I1, q1⟩ => ?_)
    exact h2 pins s1 σ1 H1 _ _ Q I1 rr q1
def gTup (K : PySem.W.Frag) (n : Nat) (t : TGs) : TG := fun v σ H Q => ∃ a xs, v = .ref a ∧ SqT K H a xs ∧ xs.length = n ∧ t xs σ H Q
theorem pg_tup {es : List Expr} {k : Nat} {t : TGs} {n : Nat} (hc : X.calm = true) (h : PGs X es t)
    (hn : (assignEach es X.env).length = n := by rfl) (hst : (assignEach es X.env).findIdx? (·.1) = none := by rfl) : PG X (.Tuple es k pos) (gTup X.K n t) := by
  intro pins s σ H v u Q I r hw
  obtain ⟨a, xs, e1, hq, hl, hw⟩ := hw
  subst e1
  cases r
  obtain ⟨its, rv, ht, hz⟩ := I.tuple hq
  refine assign_Tuple_tuple (I.ok.hd hc) ht (by simp [hn, ← hl, rv.length]) hst fun h' hx => ?_
  have I1 : Inv X pins σ H { s with heap := h' } := I.kept (t' := s.toks) fun b o e => hx b o (Nat.ne_of_lt (Heap.lt_size e)) e
  exact h pins _ σ H xs _ Q I1 (by simpa using rv) hw
def gSub (to ti : TE) (t : TSet) : TG := fun v σ H Q => to σ H fun o H1 => ti σ H1 fun i H2 => t o i v H2 fun H3 => Q σ H3
theorem pg_sub {o i : Expr} {to ti : TE} {t : TSet} (ho : PE X o to) (hi : PE X i ti) (hs : PSet X t)
    (ha : ∀ v, assign (.Subscript o i pos) X.env v = (do
      let ov ← holding [v] (eval o X.env)
      let iv ← holding [v, ov] (eval i X.env)
      standAt pos
      holding [v, ov, iv] (setItem ov iv v)
      release [v, ov, iv] []) := by intro _; rfl) : PG X (.Subscript o i pos) (gSub to ti t) := by
  intro pins s σ H v u Q I r h
  rw [ha]
  refine wpAny_bind (wpAny_holding (thn (ho pins s σ H _ I h) fun ov s1 ⟨x, H1, I1, r1, q1⟩ => ?_))
  refine wpAny_bind (wpAny_holding (thn (hi pins s1 σ H1 _ I1 q1) fun iv s2 ⟨y, H2, I2, r2, q2⟩ => ?_))
  refine wpAny_bind (wpAny_standAt (wpAny_bind (wpAny_holding (thn (hs pins s2 σ H2 x y v ov iv u _ I2 r1 r2 r q2) fun _ s3 ⟨H3, I3, q3⟩ => ?_))))
  exact wpAny_release ⟨σ, H3, I3, q3⟩
def tAsg (te : TE) (g : TG) : TS := fun D σ H => te σ H fun x H1 => g x σ H1 D.nx
theorem ps_asg {tg e : Expr} {te : TE} {g : TG} (he : PE X e te) (hg : PG X tg g) (hs : swapsWithSole [tg] e pos.line X.env = pure false := by rfl) (hw : swappedStores [tg] e X.env = pure none := by rfl)
    (h1 : (assignEach [tg] X.env).map (·.2) = [assign tg X.env] := by rfl) : PS X (.Assign [tg] e pos) (tAsg te g) := by
  intro pins s σ H D I h
  refine wpAny_Assign_stores (thn (he pins s σ H _ I h) fun v s1 ⟨x, H1, I1, r1, q1⟩ => ?_) hs hw
  rw [h1]
  exact thn (hg pins s1 σ H1 x v _ I1 r1 q1) fun _ s2 q => q
theorem ps_set {i : Nat} {x : Str} {e : Expr} {te : TE} {pos' : Pos} (hN : X.N.Nodup) (hi : X.N[i]? = some x) (hx : Loc X.env.scope x) (he : PE X e te) (hs : swapsWith e (some (.Name x pos')) pos.line X.env = pure false := by rfl) (hf : X.fn x = true ∨ X.env.scope.names.lookup x = some .local := by first | exact .inl rfl | exact .inr rfl | assumption) :
    PS X (.Assign [.Name x pos'] e pos) (tAsg te (gName i)) := by
  intro pins s σ H D I h
  refine wpAny_Assign_Name (thn (he pins s σ H _ I h) fun v s1 ⟨y, H1, I1, r1, q1⟩ => ?_) hs
  exact store_ok I1 hN hi hx r1 (fun s2 I2 => ⟨_, H1, I2, q1⟩) hf
def tPar (i j : Nat) (ta : TA) : TS := fun D σ H => ta σ H fun vs H1 => ∃ v w, vs = [v, w] ∧ D.nx ((σ.set i (some v)).set j (some w)) H1
def tAug (i : Nat) (te : TE) (ti : TIp) : TS := fun D σ H => ∃ x, σ[i]? = some (some x) ∧ te σ H fun y H1 => ti x y H1 fun z H2 => D.nx (σ.set i (some z)) H2
def tAugS (to ti te : TE) (tget : V → V → Hp → VK → Prop) (tip : TIp) (tset : TSet) : TS := fun D σ H => to σ H fun o H1 => ti σ H1 fun i H2 => tget o i H2 fun x H3 => te σ H3 fun y H4 => tip x y H4 fun z H5 => tset o i z H5 fun H6 => D.nx σ H6
def PGet (X : Cx) (t : V → V → Hp → VK → Prop) : Prop :=
  ∀ (pins : List (Addr × Obj)) (s : Shared) (σ : St) (H : Hp) (o i : V) (ov iv : Value) (Q : VK), Inv X pins σ H s → RelV o ov → RelV i iv → t o i H Q →
    wpAny (model X.prog X.w) X.A (getItem ov iv) (EP X pins σ Q) X.xe s
def ipI (f : Int → Int → Int) : TIp := fun x y H Q => ∃ i j, x = .int i ∧ y = .int j ∧ Q (.int (f i j)) H
end
section
variable {X : Cx} {pos : Pos}
def tWhile (c : TT) (tb : TS) : TS := fun D σ H => ∃ W : Nat → St → Hp → Prop, (∃ m, W m σ H) ∧ ∀ m σ H, W m σ H →
  c σ H fun b H1 => if b = true then ∃ N : St → Hp → Prop, (∀ σ' H', N σ' H' → ∃ m', m' < m ∧ W m' σ' H') ∧ tb { D with nx := N, ct := N, bk := D.nx } σ H1 else D.nx σ H1
end
structure It where
  go : Nat → Hp → Prop
  yld : Nat → Hp → V → Hp → Prop
  stop : Nat → Hp → Prop
def FpOk (X : Cx) (pins : List (Addr × Obj)) (H : Hp) (b : Addr) : Prop :=
  H b = none ∧ b ≠ X.env.locals ∧ b ∉ X.fs ∧ (b ∈ X.ex ∨ X.s₀.heap.objs.size ≤ b) ∧ (∀ x c, X.env.cells.lookup x = some c → c ≠ b) ∧ ∀ p ∈ X.pn ++ pins, p.1 ≠ b
theorem Inv.fpOk {X : Cx} {pins : List (Addr × Obj)} {σ : St} {H H' : Hp} {s : Shared} {b : Addr} (I : Inv X pins σ H s) (hb : s.heap.objs.size ≤ b) (hn : H' b = none) : FpOk X pins H' b := by
  refine ⟨hn, Nat.ne_of_gt (Nat.lt_of_lt_of_le I.lt hb), I.nofs hb, .inr (Nat.le_trans I.sz hb), fun x c e z => ?_, fun p hp z => ?_⟩
  · obtain ⟨v, q⟩ := I.cell x c e
    exact absurd (Nat.lt_of_lt_of_le q.lt (by rw [z]; exact hb)) (Nat.lt_irrefl _)
  · exact absurd (Nat.lt_of_lt_of_le (Heap.lt_size (I.pin p hp).1) (by rw [z]; exact hb)) (Nat.lt_irrefl _)
structure Turn (P : Program) (w : World) (K : PySem.W.Frag) (tg : Expr) (J : It) (fp : List Addr) (it : Addr) (tn : Nat → Heap → Prop) : Prop where
  mem : it ∈ fp
  obj : ∀ i h, tn i h → ∀ b ∈ fp, ∃ o, h.get? b = some o ∧ ∀ v, o.data ≠ .cell v
  keep : ∀ i h h', tn i h → (∀ b ∈ fp, ∀ o, h.get? b = some o → h'.get? b = some o) → tn i h'
  item : ∀ (X : Cx), X.prog = P → X.w = w → X.K = K → X.calm = true → ∀ (i : Nat) (pins : List (Addr × Obj)) (s : Shared) (σ : St) (H : Hp) (E : Value → Shared → Prop), Inv X pins σ H s → (∀ b ∈ fp, FpOk X pins H b) → tn i s.heap → J.go i H →
    wpAny (model P w) X.A (pyNext (.ref it)) (fun r s1 => ∃ u, r = some u ∧
      wpAny (model P w) X.A (letOwnedTupleGo tg (.ref it) u) (fun _ s2 => ∃ x H', Inv X pins σ H' s2 ∧ RelV x u ∧ J.yld i H x H' ∧ tn (i + 1) s2.heap ∧ ∀ b ∈ fp, H' b = none) E s1) E s
  done : ∀ (X : Cx), X.prog = P → X.w = w → X.K = K → X.calm = true → ∀ (i : Nat) (pins : List (Addr × Obj)) (s : Shared) (σ : St) (H : Hp) (E : Value → Shared → Prop), Inv X pins σ H s → (∀ b ∈ fp, FpOk X pins H b) → tn i s.heap → J.stop i H →
    wpAny (model P w) X.A (pyNext (.ref it)) (fun r s1 => r = none ∧ Inv X pins σ H s1) E s
  self : ∀ (A : Around) (i : Nat) (s : Shared) (Q : Value → Shared → Prop) (E : Value → Shared → Prop), tn i s.heap → Q (.ref it) s → wpAny (model P w) A (pyIter (.ref it)) Q E s
abbrev TI := St → Hp → (It → Hp → Prop) → Prop
def PIE (X : Cx) (pins : List (Addr × Obj)) (σ : St) (tg : Expr) (R : It → Hp → Prop) (itv : Value) (s2 : Shared) : Prop :=
  ∃ (it : Addr) (fp : List Addr) (tn : Nat → Heap → Prop) (J : It) (H' : Hp), itv = .ref it ∧ Inv X pins σ H' s2 ∧ Turn X.prog X.w X.K tg J fp it tn ∧ tn 0 s2.heap ∧ (∀ b ∈ fp, FpOk X pins H' b) ∧ R J H'
def PI (X : Cx) (tg iter : Expr) (wi : TI) : Prop :=
  ∀ (pins : List (Addr × Obj)) (s : Shared) (σ : St) (H : Hp) (R : It → Hp → Prop), Inv X pins σ H s → wi σ H R →
    wpAny (model X.prog X.w) X.A (eval iter X.env) (fun v s1 => wpAny (model X.prog X.w) X.A (pyIter v) (PIE X pins σ tg R) X.xe s1) X.xe s
theorem go_of {M : Model} {A : Around} {E : Value → Shared → Prop} {s : Shared} {tg : Expr} {it : Addr} {u : Value} {o : Obj} {n : String} {vs : Array Value} {Q : Unit → Shared → Prop} (ho : s.heap.get? it = some o) (hc : o.cls = .type n) (hd : o.data = .fields vs)
    (hn : ["enumerate", "zip", "dict_itemiterator", "dict_reverseitemiterator", "odict_iterator", "itertools.zip_longest", "itertools.pairwise"].contains n = false) (hQ : Q () s) : wpAny M A (letOwnedTupleGo tg (.ref it) u) Q E s := by
  unfold letOwnedTupleGo
  cases tg <;> first
    | exact wpAny_pure hQ
    | (cases u <;> first
        | exact wpAny_pure hQ
        | (refine wpAny_bind (wpAny_load ho ?_)
           rw [hc, hd]
           show wpAny M A (if (["enumerate", "zip", "dict_itemiterator", "dict_reverseitemiterator", "odict_iterator", "itertools.zip_longest", "itertools.pairwise"].contains n && vs[0]? == some (rawInt _)) = true then _ else _) Q E s
           rw [if_neg (by intro h; rw [hn, Bool.false_and] at h; cases h)]
           exact wpAny_pure hQ))
def Itl (K : PySem.W.Frag) (a : Addr) : It :=
  ⟨fun i H => ∃ xs x, SqL K H a xs ∧ xs[i]? = some x, fun i H x H' => H' = H ∧ ∀ xs, SqL K H a xs → xs[i]? = some x, fun i H => ∃ xs, SqL K H a xs ∧ xs.length ≤ i⟩
def Itt (K : PySem.W.Frag) (a : Addr) : It :=
  ⟨fun i H => ∃ xs x, SqT K H a xs ∧ xs[i]? = some x, fun i H x H' => H' = H ∧ ∀ xs, SqT K H a xs → xs[i]? = some x, fun i H => ∃ xs, SqT K H a xs ∧ xs.length ≤ i⟩
def Itr (lo : Int) (n : Nat) : It := ⟨fun i _ => i < n, fun i H x H' => H' = H ∧ x = .int (lo + i), fun i _ => n ≤ i⟩
theorem turn_list {P : Program} {w : World} {K : PySem.W.Frag} {tg : Expr} (a it : Addr) : Turn P w K tg (Itl K a) [it] it (fun i h => h.IsListIter it a i) where
  mem := by simp
  obj := fun i h st b hb => by
    have e : b = it := by simpa using hb
    subst e
    obtain ⟨o, e, c, d⟩ := st
    exact ⟨o, e, fun v z => by rw [d] at z; cases z⟩
  keep := fun i h h' st k => st.at fun o e => k it (by simp) o e
  item := by
    intro X hP hw hK hc i pins s σ H E I hf st hg
    subst hP hw hK
    obtain ⟨xs, x, hq, hx⟩ := hg
    obtain ⟨its, rv, p, hz⟩ := I.list hq
    obtain ⟨u, hu, ru⟩ := rv.get hx
    obtain ⟨f0, f1, f2, f3, f4, f5⟩ := hf it (by simp)
    refine wpAny_pyNext_list_item st p.isList (x := u) (by simpa using hu) fun h' st' sb => ?_
    have I1 : Inv X pins σ H { s with heap := h' } := I.turned (t' := s.toks) (fun b o hb e => (sb.2 b hb).trans e) f0 f1 f3 f4 f5
    obtain ⟨o, e, c, d⟩ := id st'
    exact ⟨u, rfl, go_of (s := { s with heap := h' }) e c d (by decide) ⟨x, H, I1, ru, ⟨rfl, fun ys hy => by rw [I.list_inj hy hq]; exact hx⟩, st', fun b hb => (hf b hb).1⟩⟩
  done := by
    intro X hP hw hK hc i pins s σ H E I hf st hg
    subst hP hw hK
    obtain ⟨xs, hq, hx⟩ := hg
    obtain ⟨its, rv, p, hz⟩ := I.list hq
    obtain ⟨f0, f1, f2, f3, f4, f5⟩ := hf it (by simp)
    have hl := rv.length
    exact wpAny_pyNext_list_end (I.ok.hd hc) st p.isList (by simp; omega) fun h' eb => ⟨rfl, I.turned (t' := s.toks) (fun b o hb e => eb b o hb e) f0 f1 f3 f4 f5⟩
  self := fun _ _ _ _ _ st h => wpAny_pyIter_listiter st h
theorem turn_tuple {P : Program} {w : World} {K : PySem.W.Frag} {tg : Expr} (a it : Addr) : Turn P w K tg (Itt K a) [it] it (fun i h => h.IsTupleIter it a i) where
  mem := by simp
  obj := fun i h st b hb => by
    have e : b = it := by simpa using hb
    subst e
    obtain ⟨o, e, c, d⟩ := st
    exact ⟨o, e, fun v z => by rw [d] at z; cases z⟩
  keep := fun i h h' st k => st.at fun o e => k it (by simp) o e
  item := by
    intro X hP hw hK hc i pins s σ H E I hf st hg
    subst hP hw hK
    obtain ⟨xs, x, hq, hx⟩ := hg
    obtain ⟨its, rv, p, hz⟩ := I.tuple hq
    obtain ⟨u, hu, ru⟩ := rv.get hx
    obtain ⟨f0, f1, f2, f3, f4, f5⟩ := hf it (by simp)
    refine wpAny_pyNext_tuple_item st (show s.heap.IsTuple a its.toArray from p) (x := u) (by simpa using hu) fun h' st' sb => ?_
    have I1 : Inv X pins σ H { s with heap := h' } := I.turned (t' := s.toks) (fun b o hb e => (sb.2 b hb).trans e) f0 f1 f3 f4 f5
    obtain ⟨o, e, c, d⟩ := id st'
    exact ⟨u, rfl, go_of (s := { s with heap := h' }) e c d (by decide) ⟨x, H, I1, ru, ⟨rfl, fun ys hy => by rw [I.tuple_inj hy hq]; exact hx⟩, st', fun b hb => (hf b hb).1⟩⟩
  done := by
    intro X hP hw hK hc i pins s σ H E I hf st hg
    subst hP hw hK
    obtain ⟨xs, hq, hx⟩ := hg
    obtain ⟨its, rv, p, hz⟩ := I.tuple hq
    obtain ⟨f0, f1, f2, f3, f4, f5⟩ := hf it (by simp)
    have hl := rv.length
    exact wpAny_pyNext_tuple_end (I.ok.hd hc) st (show s.heap.IsTuple a its.toArray from p) (by simp; omega) fun h' eb => ⟨rfl, I.turned (t' := s.toks) (fun b o hb e => eb b o hb e) f0 f1 f3 f4 f5⟩
  self := fun _ _ _ _ _ st h => wpAny_pyIter_tupleiter st h
theorem turn_range {P : Program} {w : World} {K : PySem.W.Frag} {tg : Expr} (it : Addr) (lo : Int) (n : Nat) : Turn P w K tg (Itr lo n) [it] it (fun i h => IsRangeIter h it (lo + (i : Nat) * 1) ((n : Int) - (i : Nat)) 1) where
  mem := by simp
  obj := fun i h st b hb => by
    have e : b = it := by simpa using hb
    subst e
    exact ⟨_, st, fun v z => by
      have z' : Data.fields _ = Data.cell v := z
      cases z'⟩
  keep := fun i h h' st k => k it (by simp) _ st
  item := by
    intro X hP hw hK hc i pins s σ H E I hf st hg
    subst hP hw hK
    obtain ⟨f0, f1, f2, f3, f4, f5⟩ := hf it (by simp)
    have W := Walks.range (prog := X.prog) (w := X.w) (I.ok.hd hc) it lo 1 n
    refine W.item i s _ _ hg st fun v h' tk hv st' kk => ?_
    obtain ⟨t, rfl⟩ := hv
    have I1 : Inv X pins σ H { s with heap := h', toks := tk } := I.turned (fun b o hb e => kk b o (by simpa using hb) e) f0 f1 f3 f4 f5
    refine ⟨_, rfl, go_of (s := { s with heap := h', toks := tk }) (n := "range_iterator") st' rfl rfl (by decide) ⟨.int (lo + i), H, I1, ⟨t, ?_⟩, ⟨rfl, rfl⟩, st', fun b hb => (hf b hb).1⟩⟩
    rw [Int.mul_one]
  done := by
    intro X hP hw hK hc i pins s σ H E I hf st hg
    subst hP hw hK
    obtain ⟨f0, f1, f2, f3, f4, f5⟩ := hf it (by simp)
    exact wpAny_pyNext_range_end (I.ok.hd hc) st (by have : n ≤ i := hg; omega) fun h' eb => ⟨rfl, I.turned (t' := s.toks) (fun b o hb e => eb b o hb e) f0 f1 f3 f4 f5⟩
  self := fun _ _ _ _ _ st h => wpAny_pyIter_rangeiter st h
end L2
namespace L2
open PySem PySem.Spec PyProof.Rows
section
variable {X : Cx} {tg : Expr}
def iList (K : PySem.W.Frag) (tl : TE) : TI := fun σ H R => tl σ H fun x H1 => ∃ a, x = .ref a ∧ (∃ xs, SqL K H1 a xs) ∧ R (Itl K a) H1
def iTup (K : PySem.W.Frag) (tl : TE) : TI := fun σ H R => tl σ H fun x H1 => ∃ a, x = .ref a ∧ (∃ xs, SqT K H1 a xs) ∧ R (Itt K a) H1
theorem pi_list {l : Expr} {tl : TE} (hl : PE X l tl) : PI X tg l (iList X.K tl) := by
  intro pins s σ H R I h
  refine thn (hl pins s σ H _ I h) fun v s1 ⟨x, H1, I1, r1, q1⟩ => ?_
  obtain ⟨a, e, ⟨xs, hq⟩, q⟩ := q1
  subst e
  cases r1
  obtain ⟨its, rv, p, hz⟩ := I1.list hq
  refine wpAny_pyIter_list p.isList ?_
  refine ⟨s1.heap.objs.size, [s1.heap.objs.size], _, _, H1, rfl, I1.kept (t' := s1.toks) fun b o e => Heap.get?_push_of_some _ e, turn_list a _, ⟨_, Heap.get?_push_size _ rfl, rfl, rfl⟩, fun b hb => ?_, q⟩
  have e : b = s1.heap.objs.size := by simpa using hb
  subst e
  exact I1.fpOk (Nat.le_refl _) (I1.hok.fresh (Nat.le_refl _))
theorem pi_tup {l : Expr} {tl : TE} (hl : PE X l tl) : PI X tg l (iTup X.K tl) := by
  intro pins s σ H R I h
  refine thn (hl pins s σ H _ I h) fun v s1 ⟨x, H1, I1, r1, q1⟩ => ?_
  obtain ⟨a, e, ⟨xs, hq⟩, q⟩ := q1
  subst e
  cases r1
  obtain ⟨its, rv, p, hz⟩ := I1.tuple hq
  refine wpAny_pyIter_tuple (show s1.heap.IsTuple a its.toArray from p) ?_
  refine ⟨s1.heap.objs.size, [s1.heap.objs.size], _, _, H1, rfl, I1.kept (t' := s1.toks) fun b o e => Heap.get?_push_of_some _ e, turn_tuple a _, ⟨_, Heap.get?_push_size _ rfl, rfl, rfl⟩, fun b hb => ?_, q⟩
  have e : b = s1.heap.objs.size := by simpa using hb
  subst e
  exact I1.fpOk (Nat.le_refl _) (I1.hok.fresh (Nat.le_refl _))
theorem range_it {pins : List (Addr × Obj)} {σ : St} {H : Hp} {s : Shared} {R : It → Hp → Prop} {E : Value → Shared → Prop} {lo hi : Int} {t u v : Tok} {tk : Nat} (I : Inv X pins σ H s) (h1 : -(2 ^ 62) ≤ lo) (h2 : lo < 2 ^ 62) (h3 : -(2 ^ 62) ≤ hi) (h4 : hi < 2 ^ 62)
    (q : R (Itr lo (hi - lo).toNat) H) : wpAny (model X.prog X.w) X.A (pyIter (.ref s.heap.objs.size)) (PIE X pins σ tg R) E { s with heap := s.heap.push { cls := .type "range", data := .fields #[.int lo t, .int hi u, .int 1 v] }, toks := tk } := by
  refine wpAny_pyIter_range (IsRange.new ..) (small_one h1 h2 h3 h4) ?_
  have I1 : Inv X pins σ H { s with heap := s.heap.push { cls := .type "range", data := .fields #[.int lo t, .int hi u, .int 1 v] }, toks := tk } := I.kept fun b o e => Heap.get?_push_of_some _ e
  refine ⟨(s.heap.push { cls := .type "range", data := .fields #[.int lo t, .int hi u, .int 1 v] }).objs.size, [(s.heap.push { cls := .type "range", data := .fields #[.int lo t, .int hi u, .int 1 v] }).objs.size], _, _, H, rfl,
    I1.kept (t' := tk) fun b o e => Heap.get?_push_of_some _ e, turn_range _ lo (hi - lo).toNat, ?_, fun b hb => ?_, q⟩
  · have e1 : lo + ((0 : Nat) : Int) * 1 = lo := by simp
    have e2 : (((hi - lo).toNat : Nat) : Int) - ((0 : Nat) : Int) = Builtin.Range.rangeSize lo hi 1 := by rw [rangeSize_one]; split <;> omega
    show IsRangeIter _ _ (lo + ((0 : Nat) : Int) * 1) ((((hi - lo).toNat : Nat) : Int) - ((0 : Nat) : Int)) 1
    rw [e1, e2]
    exact Heap.get?_push_size _ rfl
  · have e : b = (s.heap.push { cls := .type "range", data := .fields #[.int lo t, .int hi u, .int 1 v] }).objs.size := by simpa using hb
    subst e
    exact I1.fpOk (Nat.le_refl _) (I1.hok.fresh (Nat.le_refl _))
def iRng1 (ta : TA) : TI := fun σ H R => ta σ H fun vs H1 => ∃ j : Int, vs = [.int j] ∧ -(2 ^ 62) ≤ j ∧ j < 2 ^ 62 ∧ R (Itr 0 j.toNat) H1
def iRng2 (ta : TA) : TI := fun σ H R => ta σ H fun vs H1 => ∃ i j : Int, vs = [.int i, .int j] ∧ (-(2 ^ 62) ≤ i ∧ i < 2 ^ 62 ∧ -(2 ^ 62) ≤ j ∧ j < 2 ^ 62) ∧ R (Itr i (j - i).toNat) H1
theorem pi_range1 {a : Expr} {ta : TA} {p pos : Pos} (hg : Gl X "range") (hm : X.mg "range" = none) (ha : PA X [a] ta) (hs : starEach [a] X.env = [(false, eval a X.env)] := by rfl) : PI X tg (.Call (.Name "range" p) [a] [] pos) (iRng1 ta) := by
  intro pins s σ H R I h
  refine Call_ (ld_blt I hg hm boot_range (PyProof.Rows.callWith_type1 (thn (ha pos pins s σ H _ I h) fun us s1 ⟨vs, H1, I1, r1, q1⟩ => ?_) hs rfl))
  obtain ⟨j, e, q1, q2, q⟩ := q1
  subst e
  cases r1 with
  | cons r rr =>
    cases rr
    obtain ⟨t, rfl⟩ := r
    exact call_range_1 (range_it I1 (by omega) (by omega) q1 q2 (by simpa using q))
def tFor (wi : TI) (g : TG) (tb : TS) : TS := fun D σ H => wi σ H fun J H1 => ∃ W : Nat → Nat → St → Hp → Prop, (∃ m, W 0 m σ H1) ∧ ∀ i m σ H, W i m σ H →
  (J.stop i H ∧ D.nx σ H) ∨ (J.go i H ∧ ∃ N : St → Hp → Prop, (∀ σ' H', N σ' H' → ∃ m', m' < m ∧ W (i + 1) m' σ' H') ∧ ∀ x H', J.yld i H x H' → g x σ H' fun σ2 H2 => tb { D with nx := N, ct := N, bk := D.nx } σ2 H2)
def pinsAt (fp : List Addr) (h : Heap) : List (Addr × Obj) := fp.filterMap fun b => (h.get? b).map fun o => (b, o)
theorem mem_pinsAt {fp : List Addr} {h : Heap} {b : Addr} {o : Obj} (hb : b ∈ fp) (e : h.get? b = some o) : (b, o) ∈ pinsAt fp h := List.mem_filterMap.mpr ⟨b, hb, by rw [e]; rfl⟩
theorem of_pinsAt {fp : List Addr} {h : Heap} {p : Addr × Obj} (hp : p ∈ pinsAt fp h) : p.1 ∈ fp ∧ h.get? p.1 = some p.2 := by
  obtain ⟨b, hb, e⟩ := List.mem_filterMap.mp hp
  cases q : h.get? b with
  | none => rw [q] at e; cases e
  | some o =>
    rw [q] at e
    have e' : (b, o) = p := Option.some.inj e
    subst e'
    exact ⟨hb, q⟩
theorem Inv.pinned {pins : List (Addr × Obj)} {σ : St} {H : Hp} {s : Shared} {fp : List Addr} (I : Inv X pins σ H s) (hf : ∀ b ∈ fp, FpOk X pins H b) (ho : ∀ b ∈ fp, ∃ o, s.heap.get? b = some o ∧ ∀ v, o.data ≠ .cell v) : Inv X (pins ++ pinsAt fp s.heap) σ H s :=
  I.pins_of fun p hp => (List.mem_append.mp hp).elim (fun z => I.pin p (List.mem_append_right _ z)) fun z => by
    obtain ⟨hb, e⟩ := of_pinsAt z
    obtain ⟨f0, f1, f2, _⟩ := hf p.1 hb
    obtain ⟨o, e', d⟩ := ho p.1 hb
    rw [e] at e'; cases e'
    exact ⟨e, f0, f1, f2, d⟩
theorem Inv.unpinned {pins pl : List (Addr × Obj)} {σ : St} {H : Hp} {s : Shared} (I : Inv X (pins ++ pl) σ H s) : Inv X pins σ H s := I.pins_of fun p hp => I.pin p (List.mem_append_right _ (List.mem_append_left _ hp))
theorem ps_for {iter : Expr} {body : List Stmt} {wi : TI} {g : TG} {tb : TS} {pos : Pos} (hp : PassesOwn (model X.prog X.w) X.A X.env X.xe) (hc : X.calm = true) (hi : PI X tg iter wi) (hg : PG X tg g) (hb : PSs X body tb)
    (hs : ∀ x, foldedSetIterable iter X.env x = pure x := by intro _; rfl) : PS X (.For tg iter body [] pos) (tFor wi g tb) := by
  intro pins s σ H D I h
  refine wpAny_For (thn (hi pins s σ H _ I h) fun v s1 h1 => thn h1 fun itv s2 h2 => ?_) hs
  obtain ⟨it, fp, tn, J, H2, e, I2, T, st2, f2, W, ⟨m0, w0⟩, turn⟩ := h2
  subst e
  -- what stays true of the iterator's objects through the loop
  have stat : ∀ {H' : Hp}, (∀ b ∈ fp, H' b = none) → ∀ b ∈ fp, FpOk X pins H' b := fun hn b hb => ⟨hn b hb, (f2 b hb).2⟩
  refine codeAny_forLoop_any (fun n s' => ∃ i σ' H', Inv X pins σ' H' s' ∧ tn i s'.heap ∧ (∀ b ∈ fp, H' b = none) ∧ W i n σ' H') ?_ m0 ⟨0, σ, H2, I2, st2, fun b hb => (f2 b hb).1, w0⟩
  rintro n s3 ⟨i, σ3, H3, I3, st3, fr3, w3⟩
  rcases turn i n σ3 H3 w3 with ⟨stop, qn⟩ | ⟨go, N, hN, step⟩
  · refine wpAny_passesOwn hp (thn (T.done X rfl rfl rfl hc i pins s3 σ3 H3 X.xe I3 (stat fr3) st3 stop) fun r s4 ⟨hr, I4⟩ => ?_)
    subst hr
    exact wpAny_execs_nil ⟨σ3, H3, I4, qn⟩
  · refine wpAny_passesOwn hp (thn (T.item X rfl rfl rfl hc i pins s3 σ3 H3 X.xe I3 (stat fr3) st3 go) fun r s4 ⟨u, hr, h4⟩ => ?_)
    subst hr
    refine wpAny_passesOwn hp (thn h4 fun _ s5 ⟨x, H5, I5, r5, y5, st5, fr5⟩ => ?_)
    have I5' := I5.pinned (stat fr5) (T.obj _ _ st5)
    refine wpAny_passesOwn hp (thn (hg _ s5 σ3 H5 x u _ I5' r5 (step x H5 y5)) fun _ s6 ⟨σ6, H6, I6, q6⟩ => ?_)
    refine wpAny_passesOwn hp (thn (hb _ s6 σ6 H6 _ I6 q6) fun f s7 q7 => ?_)
    have again : ∀ {σ7 : St} {H7 : Hp}, Inv X (pins ++ pinsAt fp s5.heap) σ7 H7 s7 → N σ7 H7 → ∃ m, m < n ∧ ∃ i σ' H', Inv X pins σ' H' s7 ∧ tn i s7.heap ∧ (∀ b ∈ fp, H' b = none) ∧ W i m σ' H' := fun {σ7 H7} I7 n7 => by
      obtain ⟨m', hm, w7⟩ := hN σ7 H7 n7
      refine ⟨m', hm, i + 1, σ7, H7, I7.unpinned, T.keep _ _ _ st5 fun b hb o e => (I7.pin (b, o) (List.mem_append_right _ (List.mem_append_right _ (mem_pinsAt hb e)))).1, fun b hb => ?_, w7⟩
      obtain ⟨o, e, d⟩ := T.obj _ _ st5 b hb
      exact (I7.pin (b, o) (List.mem_append_right _ (List.mem_append_right _ (mem_pinsAt hb e)))).2.1
    cases f with
    | next => obtain ⟨σ7, H7, I7, n7⟩ := q7; exact again I7 n7
    | cont => obtain ⟨σ7, H7, I7, n7⟩ := q7; exact again I7 n7
    | brk => obtain ⟨σ7, H7, I7, q7⟩ := q7; exact ⟨σ7, H7, I7.unpinned, q7⟩
    | ret v => obtain ⟨x7, σ7, H7, I7, r7, q7⟩ := q7; exact ⟨x7, σ7, H7, I7.unpinned, r7, q7⟩
end
theorem for_list {K : PySem.W.Frag} {a : Addr} {xs : List V} {g : TG} {tb : TS} {D : Ends} {σ : St} {H : Hp} (Pv : Nat → St → Hp → Prop) (h0 : Pv 0 σ H) (hl : ∀ i σ H, i ≤ xs.length → Pv i σ H → SqL K H a xs)
    (hs : ∀ i x σ H, xs[i]? = some x → Pv i σ H → g x σ H fun σ2 H2 => tb { D with nx := Pv (i + 1), ct := Pv (i + 1), bk := D.nx } σ2 H2) (hd : ∀ σ H, Pv xs.length σ H → D.nx σ H) :
    ∃ W : Nat → Nat → St → Hp → Prop, (∃ m, W 0 m σ H) ∧ ∀ i m σ H, W i m σ H →
      ((Itl K a).stop i H ∧ D.nx σ H) ∨ ((Itl K a).go i H ∧ ∃ N : St → Hp → Prop, (∀ σ' H', N σ' H' → ∃ m', m' < m ∧ W (i + 1) m' σ' H') ∧ ∀ x H', (Itl K a).yld i H x H' → g x σ H' fun σ2 H2 => tb { D with nx := N, ct := N, bk := D.nx } σ2 H2) := by
  refine ⟨fun i m σ H => m = xs.length - i ∧ i ≤ xs.length ∧ Pv i σ H, ⟨xs.length, by simp, Nat.zero_le _, h0⟩, ?_⟩
  rintro i m σ H ⟨rfl, hi, p⟩
  have q := hl i σ H hi p
  by_cases hlt : i < xs.length
  · refine .inr ⟨⟨xs, xs[i], q, by simp [hlt]⟩, Pv (i + 1), fun σ' H' p' => ⟨xs.length - (i + 1), by omega, rfl, hlt, p'⟩, fun x H' y => ?_⟩
    obtain ⟨e, y⟩ := y
    subst e
    exact hs i x σ _ (y xs q) p
  · have e : i = xs.length := by omega
    subst e
    exact .inl ⟨⟨xs, q, Nat.le_refl _⟩, hd σ H p⟩
theorem for_tup {K : PySem.W.Frag} {a : Addr} {xs : List V} {g : TG} {tb : TS} {D : Ends} {σ : St} {H : Hp} (Pv : Nat → St → Hp → Prop) (h0 : Pv 0 σ H) (hl : ∀ i σ H, i ≤ xs.length → Pv i σ H → SqT K H a xs)
    (hs : ∀ i x σ H, xs[i]? = some x → Pv i σ H → g x σ H fun σ2 H2 => tb { D with nx := Pv (i + 1), ct := Pv (i + 1), bk := D.nx } σ2 H2) (hd : ∀ σ H, Pv xs.length σ H → D.nx σ H) :
    ∃ W : Nat → Nat → St → Hp → Prop, (∃ m, W 0 m σ H) ∧ ∀ i m σ H, W i m σ H →
      ((Itt K a).stop i H ∧ D.nx σ H) ∨ ((Itt K a).go i H ∧ ∃ N : St → Hp → Prop, (∀ σ' H', N σ' H' → ∃ m', m' < m ∧ W (i + 1) m' σ' H') ∧ ∀ x H', (Itt K a).yld i H x H' → g x σ H' fun σ2 H2 => tb { D with nx := N, ct := N, bk := D.nx } σ2 H2) := by
  refine ⟨fun i m σ H => m = xs.length - i ∧ i ≤ xs.length ∧ Pv i σ H, ⟨xs.length, by simp, Nat.zero_le _, h0⟩, ?_⟩
  rintro i m σ H ⟨rfl, hi, p⟩
  have q := hl i σ H hi p
  by_cases hlt : i < xs.length
  · refine .inr ⟨⟨xs, xs[i], q, by simp [hlt]⟩, Pv (i + 1), fun σ' H' p' => ⟨xs.length - (i + 1), by omega, rfl, hlt, p'⟩, fun x H' y => ?_⟩
    obtain ⟨e, y⟩ := y
    subst e
    exact hs i x σ _ (y xs q) p
  · have e : i = xs.length := by omega
    subst e
    exact .inl ⟨⟨xs, q, Nat.le_refl _⟩, hd σ H p⟩
theorem for_range {lo : Int} {n : Nat} {g : TG} {tb : TS} {D : Ends} {σ : St} {H : Hp} (Pv : Nat → St → Hp → Prop) (h0 : Pv 0 σ H)
    (hs : ∀ i σ H, i < n → Pv i σ H → g (.int (lo + i)) σ H fun σ2 H2 => tb { D with nx := Pv (i + 1), ct := Pv (i + 1), bk := D.nx } σ2 H2) (hd : ∀ σ H, Pv n σ H → D.nx σ H) :
    ∃ W : Nat → Nat → St → Hp → Prop, (∃ m, W 0 m σ H) ∧ ∀ i m σ H, W i m σ H →
      ((Itr lo n).stop i H ∧ D.nx σ H) ∨ ((Itr lo n).go i H ∧ ∃ N : St → Hp → Prop, (∀ σ' H', N σ' H' → ∃ m', m' < m ∧ W (i + 1) m' σ' H') ∧ ∀ x H', (Itr lo n).yld i H x H' → g x σ H' fun σ2 H2 => tb { D with nx := N, ct := N, bk := D.nx } σ2 H2) := by
  refine ⟨fun i m σ H => m = n - i ∧ i ≤ n ∧ Pv i σ H, ⟨n, by simp, Nat.zero_le _, h0⟩, ?_⟩
  rintro i m σ H ⟨rfl, hi, p⟩
  by_cases hlt : i < n
  · refine .inr ⟨hlt, Pv (i + 1), fun σ' H' p' => ⟨n - (i + 1), by omega, rfl, hlt, p'⟩, fun x H' y => ?_⟩
    obtain ⟨e, y⟩ := y
    subst e y
    exact hs i σ _ hlt p
  · have e : i = n := by omega
    subst e
    exact .inl ⟨Nat.le_refl _, hd σ H p⟩
end L2
namespace L2
open PySem PySem.Spec PyProof.Rows
abbrev R2 := V → V → Hp → VK → Prop
def OpR (X : Cx) (f : Value → Value → Sem Value) (r : R2) : Prop :=
  ∀ (pins : List (Addr × Obj)) (s : Shared) (σ : St) (H : Hp) (x y : V) (v u : Value) (Q : VK), Inv X pins σ H s → RelV x v → RelV y u → r x y H Q →
    wpAny (model X.prog X.w) X.A (f v u) (EP X pins σ Q) X.xe s
def UnR (X : Cx) (f : Value → Sem Value) (r : V → Hp → VK → Prop) : Prop :=
  ∀ (pins : List (Addr × Obj)) (s : Shared) (σ : St) (H : Hp) (x : V) (v : Value) (Q : VK), Inv X pins σ H s → RelV x v → r x H Q →
    wpAny (model X.prog X.w) X.A (f v) (EP X pins σ Q) X.xe s
def CallR (X : Cx) (f : Value) (r : List V → Hp → VK → Prop) : Prop :=
  ∀ (pins : List (Addr × Obj)) (s : Shared) (σ : St) (H : Hp) (xs : List V) (us : List Value) (Q : VK), Inv X pins σ H s → Vals xs us → r xs H Q →
    wpAny (model X.prog X.w) X.A (call f us) (EP X pins σ Q) X.xe s
def TruR (X : Cx) (r : V → Hp → (Bool → Hp → Prop) → Prop) : Prop :=
  ∀ (pins : List (Addr × Obj)) (s : Shared) (σ : St) (H : Hp) (x : V) (v : Value) (Q : Bool → Hp → Prop), Inv X pins σ H s → RelV x v → r x H Q →
    wpAny (model X.prog X.w) X.A (truthy v) (TP X pins σ Q) X.xe s
def tOp (r : R2) (ta tb : TE) : TE := fun σ H Q => ta σ H fun x H1 => tb σ H1 fun y H2 => r x y H2 Q
def tUn (r : V → Hp → VK → Prop) (ta : TE) : TE := fun σ H Q => ta σ H fun x H1 => r x H1 Q
def rI (C : Int → Int → Prop) (g : Int → Int → V) : R2 := fun x y H Q => ∃ i j, x = .int i ∧ y = .int j ∧ C i j ∧ Q (g i j) H
def rI0 (g : Int → Int → V) : R2 := fun x y H Q => ∃ i j, x = .int i ∧ y = .int j ∧ Q (g i j) H
def rU (g : Int → V) : V → Hp → VK → Prop := fun x H Q => ∃ i, x = .int i ∧ Q (g i) H
section
variable {X : Cx} {a b c : Expr} {ta tb tc : TE} {pos : Pos}
theorem binT (ha : PE X a ta) (hb : PE X b tb) {pins : List (Addr × Obj)} {s : Shared} {σ : St} {H : Hp} {R : V → V → Hp → Prop} (I : Inv X pins σ H s)
    (h : ta σ H fun x H1 => tb σ H1 fun y H2 => R x y H2) {Q : Value → Shared → Prop} {f : Value → Value → Sem Value}
    (hf : ∀ v u s2 x y H2, Inv X pins σ H2 s2 → RelV x v → RelV y u → R x y H2 → wpAny (model X.prog X.w) X.A (f v u) Q X.xe s2) :
    wpAny (model X.prog X.w) X.A (eval a X.env) (fun v s₁ => wpAny (model X.prog X.w) X.A (eval b X.env) (fun u s₂ => wpAny (model X.prog X.w) X.A (f v u) Q X.xe s₂) X.xe s₁) X.xe s := by
  refine thn (ha pins s σ H _ I h) fun v s1 ⟨x, H1, I1, r1, q1⟩ => ?_
  refine thn (hb pins s1 σ H1 _ I1 q1) fun u s2 ⟨y, H2, I2, r2, q2⟩ => ?_
  exact hf v u s2 x y H2 I2 r1 r2 q2
theorem pe_op {op : Operator} {r : R2} (ho : OpR X (binaryOp op) r) (ha : PE X a ta) (hb : PE X b tb) : PE X (.BinOp a op b pos) (tOp r ta tb) := by
  intro pins s σ H Q I h
  exact wpAny_BinOp (binT ha hb I h fun v u s2 x y H2 I2 rx ry q => ho pins s2 σ H2 x y v u Q I2 rx ry q)
theorem pe_un {op : UnaryOp} {r : V → Hp → VK → Prop} (ho : UnR X (unaryOp op) r) (ha : PE X a ta) : PE X (.UnaryOp op a pos) (tUn r ta) := by
  intro pins s σ H Q I h
  exact UnaryOp_ (thn (ha pins s σ H _ I h) fun v s1 ⟨x, H1, I1, r1, q1⟩ => ho pins s1 σ H1 x v Q I1 r1 q1)
theorem opI {f : Value → Value → Sem Value} {C : Int → Int → Prop} {g : Int → Int → Int}
    (rule : ∀ (i j : Int) (t u : Tok) (s : Shared) (Q : Value → Shared → Prop) (E : Value → Shared → Prop), C i j → Q (.int (g i j) s.toks) { s with toks := s.toks + 1 } → wpAny (model X.prog X.w) X.A (f (.int i t) (.int j u)) Q E s) :
    OpR X f (rI C fun i j => .int (g i j)) := by
  intro pins s σ H x y v u Q I rx ry h
  obtain ⟨i, j, rfl, rfl, hc, q⟩ := h
  obtain ⟨t, rfl⟩ := rx
  obtain ⟨t', rfl⟩ := ry
  exact rule i j t t' s _ _ hc ⟨.int (g i j), H, I.tok _, ⟨_, rfl⟩, q⟩
theorem opI0 {f : Value → Value → Sem Value} {g : Int → Int → Int}
    (rule : ∀ (i j : Int) (t u : Tok) (s : Shared) (Q : Value → Shared → Prop) (E : Value → Shared → Prop), Q (.int (g i j) s.toks) { s with toks := s.toks + 1 } → wpAny (model X.prog X.w) X.A (f (.int i t) (.int j u)) Q E s) :
    OpR X f (rI0 fun i j => .int (g i j)) := by
  intro pins s σ H x y v u Q I rx ry h
  obtain ⟨i, j, rfl, rfl, q⟩ := h
  obtain ⟨t, rfl⟩ := rx
  obtain ⟨t', rfl⟩ := ry
  exact rule i j t t' s _ _ ⟨.int (g i j), H, I.tok _, ⟨_, rfl⟩, q⟩
theorem opB0 {f : Value → Value → Sem Value} {g : Int → Int → Bool}
    (rule : ∀ (i j : Int) (t u : Tok) (s : Shared) (Q : Value → Shared → Prop) (E : Value → Shared → Prop), Q (.bool (g i j)) s → wpAny (model X.prog X.w) X.A (f (.int i t) (.int j u)) Q E s) :
    OpR X f (rI0 fun i j => .bl (g i j)) := by
  intro pins s σ H x y v u Q I rx ry h
  obtain ⟨i, j, rfl, rfl, q⟩ := h
  obtain ⟨t, rfl⟩ := rx
  obtain ⟨t', rfl⟩ := ry
  exact rule i j t t' s _ _ ⟨.bl (g i j), H, I, rfl, q⟩
def CDiv (i j : Int) : Prop := 0 < j ∧ j < 1073741824
def CDivN (i j : Int) : Prop := j ≠ 0 ∧ j.natAbs < 1073741824
def CPow (i j : Int) : Prop := 0 ≤ j ∧ j ≤ 1000000 ∧ i.natAbs < 2 ^ 64
def CMul (i j : Int) : Prop := (-(2 ^ 64) < i ∧ i < 2 ^ 64) ∨ (-(2 ^ 64) < j ∧ j < 2 ^ 64)
theorem CMul.ok {i j : Int} (h : CMul i j) : IntMulOk i j := by
  rcases h with ⟨h1, h2⟩ | ⟨h1, h2⟩
  · exact .of_left (intBits_le_64 h1 h2)
  · exact .of_right (intBits_le_64 h1 h2)
theorem op_add : OpR X (binaryOp .Add) (rI0 fun i j => .int (i + j)) := opI0 fun _ _ _ _ _ _ _ q => add_int q
theorem op_sub : OpR X (binaryOp .Sub) (rI0 fun i j => .int (i - j)) := opI0 fun _ _ _ _ _ _ _ q => sub_int q
theorem op_mul : OpR X (binaryOp .Mult) (rI CMul fun i j => .int (i * j)) := opI fun _ _ _ _ _ _ _ hc q => mul_int q hc.ok
theorem op_mod : OpR X (binaryOp .Mod) (rI (fun _ j => 0 < j) fun i j => .int (i % j)) := opI fun i j _ _ _ _ _ hc q => by
  have h1 : (0 : Int) < j := hc
  exact mod_int' (by omega) (by rw [Int.fmod_eq_emod_of_nonneg i (by omega)]; exact q)
theorem op_pow : OpR X (binaryOp .Pow) (rI CPow fun i j => .int (i ^ j.toNat)) := opI fun _ _ _ _ _ _ _ hc q => pow_int_small hc.1 hc.2.1 hc.2.2 q
theorem unI {f : Value → Sem Value} {g : Int → Int}
    (rule : ∀ (i : Int) (t : Tok) (s : Shared) (Q : Value → Shared → Prop) (E : Value → Shared → Prop), Q (.int (g i) s.toks) { s with toks := s.toks + 1 } → wpAny (model X.prog X.w) X.A (f (.int i t)) Q E s) :
    UnR X f (rU fun i => .int (g i)) := by
  intro pins s σ H x v Q I rx h
  obtain ⟨i, rfl, q⟩ := h
  obtain ⟨t, rfl⟩ := rx
  exact rule i t s _ _ ⟨.int (g i), H, I.tok _, ⟨_, rfl⟩, q⟩
theorem un_neg : UnR X (unaryOp .USub) (rU fun i => .int (-i)) := unI fun _ _ _ _ _ q => neg_int q
end
def scal : V → V → Bool
  | .non, .non => true | .non, .int _ => true | .int _, .non => true | .non, .bl _ => true | .bl _, .non => true | .non, .str _ => true | .str _, .non => true
  | .int _, .int _ => true | .bl _, .bl _ => true | .str _, .str _ => true | .byt _, .byt _ => true
  | .int _, .str _ => true | .str _, .int _ => true | .bl _, .str _ => true | .str _, .bl _ => true
  | _, _ => false
def rEq : R2 := fun x y H Q => scal x y = true ∧ Q (.bl (decide (x = y))) H
def rNe : R2 := fun x y H Q => scal x y = true ∧ Q (.bl (!decide (x = y))) H
theorem dec_int {i j : Int} : decide (V.int i = V.int j) = (i == j) := by
  rw [Bool.eq_iff_iff]
  simp
theorem dec_bl {i j : Bool} : decide (V.bl i = V.bl j) = (i == j) := by
  rw [Bool.eq_iff_iff]
  simp
theorem dec_str {i j : Str} : decide (V.str i = V.str j) = (i == j) := by
  rw [Bool.eq_iff_iff]
  simp
theorem dec_byt {i j : Array UInt8} : decide (V.byt i = V.byt j) = (i.toList == j.toList) := by
  rw [Bool.eq_iff_iff]
  cases i
  cases j
  simp
section
variable {X : Cx} {a b c : Expr} {ta tb tc : TE} {pos : Pos}
theorem fin_bl {pins : List (Addr × Obj)} {σ : St} {H : Hp} {s : Shared} {Q : VK} {k k' : Bool} (I : Inv X pins σ H s) (q : Q (.bl k) H) (e : k = k') : EP X pins σ Q (.bool k') s := by
  subst e
  exact ⟨.bl k, H, I, rfl, q⟩
theorem op_eq : OpR X (compareOp .Eq) rEq := by
  intro pins s σ H x y v u Q I rx ry h
  obtain ⟨hs, q⟩ := h
  cases x with
  | non =>
    cases rx
    cases y with
    | non => cases ry; exact PySem.EqNone.eq_none_none (fin_bl I q (by simp))
    | bl j => cases ry; exact PySem.EqNone.eq_none_bool (fin_bl I q (by simp))
    | int j => obtain ⟨t', rfl⟩ := ry; exact PySem.EqNone.eq_none_int (fin_bl I q (by simp))
    | str j => obtain ⟨t', rfl⟩ := ry; exact PySem.EqNone.eq_none_str (fin_bl I q (by simp))
    | _ => exact absurd (show false = true from hs) Bool.false_ne_true
  | bl i =>
    cases rx
    cases y with
    | non => cases ry; exact PySem.EqNone.eq_bool_none (fin_bl I q (by simp))
    | bl j => cases ry; exact eq_bool (fin_bl I q dec_bl)
    | str j => obtain ⟨t', rfl⟩ := ry; exact PySem.EqMixed.eq_bool_str (fin_bl I q (by simp))
    | _ => exact absurd (show false = true from hs) Bool.false_ne_true
  | int i =>
    obtain ⟨t, rfl⟩ := rx
    cases y with
    | non => cases ry; exact PySem.EqNone.eq_int_none (fin_bl I q (by simp))
    | int j => obtain ⟨t', rfl⟩ := ry; exact eq_int (fin_bl I q dec_int)
    | str j => obtain ⟨t', rfl⟩ := ry; exact PySem.EqMixed.eq_int_str (fin_bl I q (by simp))
    | _ => exact absurd (show false = true from hs) Bool.false_ne_true
  | str i =>
    obtain ⟨t, rfl⟩ := rx
    cases y with
    | non => cases ry; exact PySem.EqNone.eq_str_none (fin_bl I q (by simp))
    | bl j => cases ry; exact PySem.EqMixed.eq_str_bool (fin_bl I q (by simp))
    | int j => obtain ⟨t', rfl⟩ := ry; exact PySem.EqMixed.eq_str_int (fin_bl I q (by simp))
    | str j => obtain ⟨t', rfl⟩ := ry; exact eq_str (fin_bl I q dec_str)
    | _ => exact absurd (show false = true from hs) Bool.false_ne_true
  | byt i =>
    obtain ⟨t, rfl⟩ := rx
    cases y with
    | byt j => obtain ⟨t', rfl⟩ := ry; exact PySem.W.eq_bytes (fin_bl I q dec_byt)
    | _ => exact absurd (show false = true from hs) Bool.false_ne_true
  | _ => cases y <;> exact absurd (show false = true from hs) Bool.false_ne_true
theorem op_ne : OpR X (compareOp .NotEq) rNe := by
  intro pins s σ H x y v u Q I rx ry h
  obtain ⟨hs, q⟩ := h
  cases x with
  | non =>
    cases rx
    cases y with
    | non => cases ry; exact PySem.EqNone.ne_none_none (fin_bl I q (by simp))
    | bl j => cases ry; exact PySem.EqNone.ne_none_bool (fin_bl I q (by simp))
    | int j => obtain ⟨t', rfl⟩ := ry; exact PySem.EqNone.ne_none_int (fin_bl I q (by simp))
    | str j => obtain ⟨t', rfl⟩ := ry; exact PySem.EqNone.ne_none_str (fin_bl I q (by simp))
    | _ => exact absurd (show false = true from hs) Bool.false_ne_true
  | bl i =>
    cases rx
    cases y with
    | non => cases ry; exact PySem.EqNone.ne_bool_none (fin_bl I q (by simp))
    | bl j => cases ry; exact ne_bool (fin_bl I q (congrArg not dec_bl))
    | str j => obtain ⟨t', rfl⟩ := ry; exact PySem.EqMixed.ne_bool_str (fin_bl I q (by simp))
    | _ => exact absurd (show false = true from hs) Bool.false_ne_true
  | int i =>
    obtain ⟨t, rfl⟩ := rx
    cases y with
    | non => cases ry; exact PySem.EqNone.ne_int_none (fin_bl I q (by simp))
    | int j => obtain ⟨t', rfl⟩ := ry; exact ne_int (fin_bl I q (congrArg not dec_int))
    | str j => obtain ⟨t', rfl⟩ := ry; exact PySem.EqMixed.ne_int_str (fin_bl I q (by simp))
    | _ => exact absurd (show false = true from hs) Bool.false_ne_true
  | str i =>
    obtain ⟨t, rfl⟩ := rx
    cases y with
    | non => cases ry; exact PySem.EqNone.ne_str_none (fin_bl I q (by simp))
    | bl j => cases ry; exact PySem.EqMixed.ne_str_bool (fin_bl I q (by simp))
    | int j => obtain ⟨t', rfl⟩ := ry; exact PySem.EqMixed.ne_str_int (fin_bl I q (by simp))
    | str j => obtain ⟨t', rfl⟩ := ry; exact ne_str (fin_bl I q (congrArg not dec_str))
    | _ => exact absurd (show false = true from hs) Bool.false_ne_true
  | byt i =>
    obtain ⟨t, rfl⟩ := rx
    cases y with
    | byt j => obtain ⟨t', rfl⟩ := ry; exact PySem.W.ne_bytes (fin_bl I q (congrArg not dec_byt))
    | _ => exact absurd (show false = true from hs) Bool.false_ne_true
  | _ => cases y <;> exact absurd (show false = true from hs) Bool.false_ne_true
theorem op_lt : OpR X (compareOp .Lt) (rI0 fun i j => .bl (decide (i < j))) := opB0 fun _ _ _ _ _ _ _ q => lt_int q
theorem op_isN : OpR X (compareOp .Is) (fun x y H Q => y = .non ∧ Q (.bl (decide (x = .non))) H) := by
  intro pins s σ H x y v u Q I rx ry h
  obtain ⟨rfl, q⟩ := h
  cases ry
  refine is_none_gen (fin_bl I q ?_)
  cases x <;> first
    | (cases rx; rfl)
    | (obtain ⟨t, rfl⟩ := rx; rfl)
def isObj : HO → Bool
  | .lst _ => true
  | .ins _ _ _ => true
  | _ => false
theorem OpR.or {f : Value → Value → Sem Value} {r r' : R2} (h : OpR X f r) (h' : OpR X f r') : OpR X f (fun x y H Q => r x y H Q ∨ r' x y H Q) := by
  intro pins s σ H x y v u Q I rx ry q
  rcases q with q | q
  · exact h pins s σ H x y v u Q I rx ry q
  · exact h' pins s σ H x y v u Q I rx ry q
theorem nomark (b : Expr) {op : CmpOp} (h : op ≠ .In := by decide) (h2 : op ≠ .NotIn := by decide) : behindInMarks op b = false := by
  have e1 : (op == CmpOp.In) = false := by cases op <;> first | rfl | exact absurd rfl h
  have e2 : (op == CmpOp.NotIn) = false := by cases op <;> first | rfl | exact absurd rfl h2
  cases b <;> simp [behindInMarks, e1, e2]
theorem pe_cmpR {op : CmpOp} {r : R2} (ho : OpR X (compareOp op) r) (ha : PE X a ta) (hb : PE X b tb) (hm : behindInMarks op b = false) : PE X (.Compare a [op] [b] pos) (tOp r ta tb) := by
  intro pins s σ H Q I h
  exact wpAny_Compare1 (binT ha hb I h fun v u s2 x y H2 I2 rx ry q => ho pins s2 σ H2 x y v u Q I2 rx ry q) hm
def tTest (t : TE) : TT := fun σ H Q => t σ H fun x H' => ∃ k, x = .bl k ∧ Q k H'
theorem pt_cmpR {op : CmpOp} {r : R2} (ho : OpR X (compareOp op) r) (ha : PE X a ta) (hb : PE X b tb) (hm : behindInMarks op b = false) : PT X (.Compare a [op] [b] pos) (tTest (tOp r ta tb)) := by
  intro pins s σ H Q I h
  refine wpAny_isTrue_Compare1 (thn (ha pins s σ H _ I h) fun v s1 ⟨x, H1, I1, r1, q1⟩ => thn (hb pins s1 σ H1 _ I1 q1) fun u s2 ⟨y, H2, I2, r2, q2⟩ =>
    thn (ho pins s2 σ H2 x y v u _ I2 r1 r2 q2) fun c s3 ⟨z, H3, I3, r3, k, e, q3⟩ => ?_) hm
  subst e
  cases r3
  exact wpAny_truthy_bool ⟨H3, I3, q3⟩
def tChain (r r' : R2) (ta tb tc : TE) : TE := fun σ H Q => ta σ H fun x H1 => tb σ H1 fun y H2 => r x y H2 fun z H3 => ∃ k, z = .bl k ∧
  (if k = true then tc σ H3 fun w' H4 => r' y w' H4 Q else Q (.bl false) H3)
def TruV (K : PySem.W.Frag) (x : V) (H : Hp) (k : Bool) : Prop :=
  match x with
  | .non => k = false
  | .bl b => k = b
  | .int i => k = (i != 0)
  | .str y => y.length ≤ sizeLine ∧ k = ((y.length : Int) != 0)
  | .byt y => y.size ≤ sizeLine ∧ k = ((y.size : Int) != 0)
  | .ref p => (∃ xs, SqL K H p xs ∧ k = !xs.isEmpty) ∨ (∃ xs, SqT K H p xs ∧ k = !xs.isEmpty) ∨ ∃ kvs, H p = some (.dK kvs) ∧ k = !kvs.isEmpty
  | _ => False
theorem line63 : (sizeLine : Nat) < 2 ^ 63 := by rw [sizeLine_eq]; decide
theorem op_add_str : OpR X (binaryOp .Add) (fun x y H Q => ∃ i j, x = .str i ∧ y = .str j ∧ i.length + j.length ≤ sizeLine ∧ Q (.str (i ++ j)) H) := by
  intro pins s σ H x y v u Q I rx ry h
  obtain ⟨i, j, rfl, rfl, hz, q⟩ := h
  obtain ⟨t, rfl⟩ := rx
  obtain ⟨t', rfl⟩ := ry
  exact add_str (fun t' tk => ⟨.str (i ++ j), H, I.tok _, ⟨_, rfl⟩, q⟩) hz
def PlainIxT (b : Expr) : Prop := ∀ o i, subscripted b false o i = operate [o, i] (getItem o i)
theorem vals1 {x : V} {us : List Value} (r : Vals [x] us) : ∃ u, us = [u] ∧ RelV x u := by
  cases r with
  | cons r1 r2 => cases r2; exact ⟨_, rfl, r1⟩
theorem vals2 {x y : V} {us : List Value} (r : Vals [x, y] us) : ∃ u w', us = [u, w'] ∧ RelV x u ∧ RelV y w' := by
  cases r with
  | cons r1 r2 =>
    cases r2 with
    | cons r3 r4 => cases r4; exact ⟨_, _, rfl, r1, r3⟩
theorem call_max2 (hc : X.calm = true) : CallR X (.builtin "max") (fun xs H Q => ∃ i j, xs = [.int i, .int j] ∧ Q (.int (if j > i then j else i)) H) := by
  intro pins s σ H xs us Q I r h
  obtain ⟨i, j, rfl, q⟩ := h
  obtain ⟨u, w', rfl, ⟨t, rfl⟩, ⟨t', rfl⟩⟩ := vals2 r
  refine max_two_ints (I.ok.hd hc) fun h' tk k => ⟨_, H, I.kept k, ?_, q⟩
  by_cases hj : j > i
  · rw [if_pos hj, if_pos hj]; exact ⟨_, rfl⟩
  · rw [if_neg hj, if_neg hj]; exact ⟨_, rfl⟩
theorem call_min2 (hc : X.calm = true) : CallR X (.builtin "min") (fun xs H Q => ∃ i j, xs = [.int i, .int j] ∧ Q (.int (if j < i then j else i)) H) := by
  intro pins s σ H xs us Q I r h
  obtain ⟨i, j, rfl, q⟩ := h
  obtain ⟨u, w', rfl, ⟨t, rfl⟩, ⟨t', rfl⟩⟩ := vals2 r
  refine min_two_ints (I.ok.hd hc) fun h' tk k => ⟨_, H, I.kept k, ?_, q⟩
  by_cases hj : j < i
  · rw [if_pos hj, if_pos hj]; exact ⟨_, rfl⟩
  · rw [if_neg hj, if_neg hj]; exact ⟨_, rfl⟩
theorem call_int1 : CallR X (.type "int") (fun xs H Q => (∃ i, xs = [.int i] ∧ Q (.int i) H) ∨ ∃ k, xs = [.bl k] ∧ Q (.int (if k then 1 else 0)) H) := by
  intro pins s σ H xs us Q I r h
  rcases h with ⟨i, rfl, q⟩ | ⟨k, rfl, q⟩
  · obtain ⟨u, rfl, t, rfl⟩ := vals1 r
    exact call_int_int ⟨.int i, H, I, ⟨_, rfl⟩, q⟩
  · obtain ⟨u, rfl, r1⟩ := vals1 r
    cases r1
    exact call_int_bool ⟨.int (if k then 1 else 0), H, I.tok _, ⟨_, rfl⟩, q⟩
def LenV (K : PySem.W.Frag) (x : V) (H : Hp) (n : Nat) : Prop :=
  match x with
  | .str y => y.length ≤ sizeLine ∧ n = y.length
  | .byt y => y.size ≤ sizeLine ∧ n = y.size
  | .ref p => (∃ xs, SqL K H p xs ∧ n = xs.length) ∨ ∃ xs, SqT K H p xs ∧ n = xs.length
  | _ => False
end
end L2
namespace L2
open PySem PySem.Spec PyProof.Rows
structure ObjM (h : Heap) (x dx C : Addr) (mA : Str → Option Value) : Prop where
  obj : h.get? x = some (PySem.W.instObj C dx)
  ns : h.Ns1 dx mA
  ne : dx ≠ x
theorem lookIn_ns {h : Heap} {dx : Addr} {mA : Str → Option Value} (n : h.Ns1 dx mA) : ∃ od, h.get? dx = some od ∧ ∀ name, PySem.W.lookIn name od = some (mA name) := by
  obtain ⟨o, es, ep, ho, hd, hk, _, hm⟩ := n
  refine ⟨o, ho, fun name => ?_⟩
  have e := hm name
  unfold nsFind findBy at e
  rw [← Array.find?_toList] at e
  unfold PySem.W.lookIn
  rw [hd]
  dsimp only
  split
  · rename_i y q
    rw [q] at e
    exact congrArg some e
  · rename_i q
    rw [q] at e
    have a : es.toList.any (·.refKey) = false := by
      rw [List.any_eq_false]
      intro y hy
      obtain ⟨z, t, hkey⟩ := hk y (Array.mem_toList_iff.mp hy)
      simp [DictEntry.refKey, hkey]
    have a' : ¬ es.toList.any (·.refKey) = true := by rw [a]; exact Bool.false_ne_true
    rw [if_neg a']
    exact congrArg some e
theorem ObjM.look {h : Heap} {x dx C : Addr} {mA : Str → Option Value} (I : ObjM h x dx C mA) : ∃ od, PySem.W.InstAt h x (PySem.W.instObj C dx) C (some od) ∧ ∀ name, PySem.W.lookIn name od = some (mA name) :=
  let ⟨od, ho, hl⟩ := lookIn_ns I.ns
  ⟨od, ⟨I.obj, rfl, rfl, ho⟩, hl⟩
section
variable {prog : Program} {w : World} {A : Around} {E : Value → Shared → Prop} {s : Shared} {K : PySem.W.Frag} {x dx C f : Addr} {mA : Str → Option Value} {name : Str} {v : Value}
end
def putF (f : Str) (v : V) : List (Str × V) → List (Str × V)
  | [] => [(f, v)]
  | (g, x) :: r => if g = f then (g, v) :: r else (g, x) :: putF f v r
theorem RelO.some_of {v : V} {o : Option Value} (r : RelO (some v) o) : ∃ u, o = some u ∧ RelV v u := by
  cases o with
  | none => exact (show False from r).elim
  | some u => exact ⟨u, rfl, r⟩
section
variable {P : Program} {w : World} {H H' : Hp} {h h' : Heap} {a C dx : Addr} {fs fs' : List (Str × V)}
theorem ins_get (hok : HOk P w H h) (e : H a = some (.ins C dx fs)) : ∃ mA, ObjM h a dx C mA ∧ (∀ f, RelO (fs.lookup f) (mA f)) ∧ PySem.Within mA (fs.map (·.1)) ∧ fs.length ≤ 1000 ∧ H dx = some (.own a) := by
  obtain ⟨d, z, ne, ob, mA, n, r, q⟩ := (show ObjOk P w H h a (.ins C dx fs) from hok a _ e)
  exact ⟨mA, ⟨ob, n, ne⟩, r, q, z, d⟩
end
structure Cls (K : PySem.W.Frag) (C : Addr) : Prop where
  pg : PySem.W.plainGet K C Str.empty = true
  hd : PySem.W.hasDictIn K C = true
  po : PySem.W.plainOver K C = true
  sa : PySem.W.findIn K (.ref C) "__setattr__" = some (some (.builtin "object.__setattr__"))
theorem Cls.get {K : PySem.W.Frag} {C : Addr} (c : Cls K C) (f : Str) : PySem.W.plainGet K C f = true := c.pg
def NoAttr (K : PySem.W.Frag) (C : Addr) (f : Str) : Prop := PySem.W.findIn K (.ref C) f = some none
structure Con (K : PySem.W.Frag) (C : Addr) (f : Str) (v : V) (u : Value) : Prop where
  at_ : PySem.W.findIn K (.ref C) f = some (some u)
  rel : RelV v u
  get : PySem.W.specialIn K u "__get__" = some none
  cp : PySem.W.copiedNames.contains f = false
structure Meth (K : PySem.W.Frag) (C : Addr) (m : Str) (f : Addr) : Prop where
  at_ : PySem.W.findIn K (.ref C) m = some (some (.ref f))
  fn : PySem.W.isFn K (.ref f) = true
  kp : PySem.W.keepIn K (.ref f) = true
section
variable {X : Cx} {pins : List (Addr × Obj)} {σ : St} {H : Hp} {s : Shared} {a C dx : Addr} {fs : List (Str × V)} {f : Str} {v : V} {A : Around} {E : Value → Shared → Prop}
end
def tFld (K : PySem.W.Frag) (ta : TE) (f : Str) : TE := fun σ H Q => ta σ H fun x H1 => ∃ a C dx fs v, x = .ref a ∧ H1 a = some (.ins C dx fs) ∧ Cls K C ∧ NoAttr K C f ∧ fs.lookup f = some v ∧ Q v H1
def tCon (K : PySem.W.Frag) (ta : TE) (f : Str) : TE := fun σ H Q => ta σ H fun x H1 => ∃ a C dx fs v u, x = .ref a ∧ H1 a = some (.ins C dx fs) ∧ Cls K C ∧ Con K C f v u ∧ fs.lookup f = none ∧ Q v H1
def sFld (K : PySem.W.Frag) (ta tv : TE) (f : Str) : TS := fun D σ H => tv σ H fun y H1 => ta σ H1 fun x H2 => ∃ a C dx fs, x = .ref a ∧ H2 a = some (.ins C dx fs) ∧ Cls K C ∧ NoAttr K C f ∧ fs.length < 1000 ∧
  D.nx σ (upd H2 a (.ins C dx (putF f y fs)))
def InOp (X : Cx) (op : Operator) (rd : V → V → Hp → VK → Prop) : Prop :=
  ∀ (pins : List (Addr × Obj)) (s : Shared) (σ : St) (H : Hp) (x y : V) (u v : Value) (Q : VK), Inv X pins σ H s → RelV x u → RelV y v → rd x y H Q → wpAny (model X.prog X.w) X.A (inplaceOp op u v) (EP X pins σ Q) X.xe s
def sFldAug (K : PySem.W.Frag) (ta tv : TE) (rd : V → V → Hp → VK → Prop) (f : Str) : TS := fun D σ H => ta σ H fun x H1 => ∃ a C dx fs v, x = .ref a ∧ H1 a = some (.ins C dx fs) ∧ Cls K C ∧ NoAttr K C f ∧ fs.lookup f = some v ∧
  tv σ H1 fun y H2 => rd v y H2 fun z H3 => ∃ dx' fs', H3 a = some (.ins C dx' fs') ∧ fs'.length < 1000 ∧ D.nx σ (upd H3 a (.ins C dx' (putF f z fs')))
section
variable {X : Cx} {o e value : Expr} {f : Str} {pos pos' tpos : Pos} {ta tv : TE}
def rAdd : V → V → Hp → VK → Prop := fun x y H Q => ∃ i j, x = .int i ∧ y = .int j ∧ Q (.int (i + j)) H
def rSub : V → V → Hp → VK → Prop := fun x y H Q => ∃ i j, x = .int i ∧ y = .int j ∧ Q (.int (i - j)) H
end
section
variable {X : Cx} {pins : List (Addr × Obj)} {σ : St} {H : Hp} {s : Shared} {A : Around} {E : Value → Shared → Prop} {Q : Value → Shared → Prop} {c : Value} {b : Bool}
inductive TyOf (K : PySem.W.Frag) (H : Hp) : V → Value → Prop where
  | non : TyOf K H .non (.type "NoneType")
  | bl (x : Bool) : TyOf K H (.bl x) (.type "bool")
  | int (i : Int) : TyOf K H (.int i) (.type "int")
  | str (x : Str) : TyOf K H (.str x) (.type "str")
  | flt (x : UInt64) : TyOf K H (.flt x) (.type "float")
  | lst {a : Addr} {xs : List V} (e : H a = some (.lst xs)) : TyOf K H (.ref a) (.type "list")
  | frz {a : Addr} {o : Obj} {xs : List V} (e : H a = some (.frz o (.lst xs))) : TyOf K H (.ref a) (.type "list")
  | tup {a : Addr} {xs : List V} (e : H a = some (.tup xs)) : TyOf K H (.ref a) (.type "tuple")
  | dK {a : Addr} {kvs : List (Key × V)} (e : H a = some (.dK kvs)) : TyOf K H (.ref a) (.type "dict")
  | dT {a : Addr} {kvs : List (List Key × V)} (e : H a = some (.dT kvs)) : TyOf K H (.ref a) (.type "dict")
  | ins {a C dx : Addr} {fs : List (Str × V)} (e : H a = some (.ins C dx fs)) (cl : Cls K C) (ha : PySem.W.findIn K (.ref C) "__class__" = some (some (.builtin "object.__class__")))
      (hn : PySem.W.specialIn K (.builtin "object.__class__") "__get__" = some (some (.builtin "getset_descriptor.__get__"))) (htk : PySem.W.takesIn K (.builtin "object.__class__") = some true)
      (hm : PySem.W.mroIn K C (.type "object") = some true) : TyOf K H (.ref a) (.ref C)
theorem isinst_ok {x : V} {u t : Value} (I : Inv X pins σ H s) (rx : RelV x u) (ty : TyOf X.K H x t) (e : PySem.W.kitOne X.K t c = some b) (h : ∀ tk, Q (.bool b) { s with toks := tk }) :
    wpAny (model X.prog X.w) A (call (.builtin "isinstance") [u, c]) Q E s := by
  cases ty with
  | non => cases (show u = Value.none from rx); exact PySem.W.kia_one PySem.W.kitx_none I.kIn True.intro e (fun z => nomatch z) h
  | bl y => cases (show u = Value.bool y from rx); exact PySem.W.kia_one PySem.W.kitx_bool I.kIn True.intro e (fun z => nomatch z) h
  | int i => obtain ⟨t, q⟩ := (show ∃ t, u = Value.int i t from rx); cases q; exact PySem.W.kia_one PySem.W.kitx_int I.kIn True.intro e (fun z => nomatch z) h
  | str y => obtain ⟨t, q⟩ := (show ∃ t, u = Value.str y t from rx); cases q; exact PySem.W.kia_one PySem.W.kitx_str I.kIn True.intro e (fun z => nomatch z) h
  | flt y => obtain ⟨t, q⟩ := (show ∃ t, u = Value.float y t from rx); cases q; exact PySem.W.kia_one PySem.W.kitx_float I.kIn True.intro e (fun z => nomatch z) h
  | @lst a xs ea =>
    cases (show u = Value.ref a from rx)
    obtain ⟨_, _, n, _, h1⟩ := (show ObjOk X.prog X.w H s.heap a (.lst xs) from I.hok a _ ea)
    exact PySem.W.kia_one PySem.W.kitx_list I.kIn ⟨_, h1, rfl⟩ e (fun z => nomatch z) h
  | @frz a ob xs ea =>
    cases (show u = Value.ref a from rx)
    obtain ⟨_, _, _, n, _, h1⟩ := (show ObjOk X.prog X.w H s.heap a (.frz ob (.lst xs)) from I.hok a _ ea)
    exact PySem.W.kia_one PySem.W.kitx_list I.kIn ⟨_, h1, rfl⟩ e (fun z => nomatch z) h
  | @tup a xs ea =>
    cases (show u = Value.ref a from rx)
    obtain ⟨_, _, _, p, _⟩ := (show ObjOk X.prog X.w H s.heap a (.tup xs) from I.hok a _ ea)
    obtain ⟨o, h1, h2, _⟩ := p
    exact PySem.W.kia_one PySem.W.kitx_tuple I.kIn ⟨o, h1, h2⟩ e (fun z => nomatch z) h
  | @dK a kvs ea =>
    cases (show u = Value.ref a from rx)
    obtain ⟨_, _, vs, _, p⟩ := (show ObjOk X.prog X.w H s.heap a (.dK kvs) from I.hok a _ ea)
    obtain ⟨o, es, ep, h1, h2, _⟩ := p
    exact PySem.W.kia_one PySem.W.kitx_dict I.kIn ⟨o, h1, h2.1⟩ e (fun z => nomatch z) h
  | @dT a kvs ea =>
    cases (show u = Value.ref a from rx)
    obtain ⟨_, _, xs, _, o, es, ep, h1, h2, _⟩ := (show ObjOk X.prog X.w H s.heap a (.dT kvs) from I.hok a _ ea)
    exact PySem.W.kia_one PySem.W.kitx_dict I.kIn ⟨o, h1, h2.1⟩ e (fun z => nomatch z) h
  | @ins a C dx fs ea cl ha hn htk hm =>
    cases (show u = Value.ref a from rx)
    obtain ⟨mA, O, _⟩ := ins_get I.hok ea
    obtain ⟨od, J, _⟩ := O.look
    exact PySem.W.kia_one (PySem.W.kitx_own (cl.get _) cl.hd ha hn htk hm) I.kIn J e (fun z => nomatch z) h
end
end L2
namespace L2
open PySem PySem.Spec PyProof.Rows
structure Room (k : Nat) (A : Around) : Prop where
  hd : A.handled = none
  dp : A.depth + 3 * k + 5 < recursionLimit
  un : A.units + 16 * k + 200 < cLine
theorem Room.mono {j k : Nat} {A : Around} (r : Room k A) (h : j ≤ k) : Room j A := ⟨r.hd, by have := r.dp; omega, by have := r.un; omega⟩
theorem Room.deeper {k : Nat} {A : Around} (r : Room (k + 1) A) (env : Env) : Room k (A.deeper env) :=
  ⟨r.hd, by have := r.dp; show A.depth + 1 + 3 * k + 5 < _; omega, by have := r.un; show A.units + 3 + 16 * k + 200 < _; omega⟩
theorem Room.depth {k : Nat} {A : Around} (r : Room k A) : A.depth < recursionLimit := by have := r.dp; omega
theorem Room.units {k : Nat} {A : Around} (r : Room k A) : A.units + 64 < cLine := by have := r.un; omega
def tNil : TA := fun _ H Q => Q [] H
def tCons (ta : TE) (tr : TA) : TA := fun σ H Q => ta σ H fun x H1 => tr σ H1 fun xs H2 => Q (x :: xs) H2
section
variable {X : Cx} {e : Expr} {es : List Expr} {te : TE} {t : TA} {pos : Pos}
theorem pa_nil : PA X [] tNil := fun _ _ _ _ H Q I h => Calls.spliced_nil ⟨[], H, I, .nil, h⟩
theorem pa_cons (ha : PE X e te) (hr : PA X es t) (hs : starEach (e :: es) X.env = (false, eval e X.env) :: starEach es X.env := by rfl) : PA X (e :: es) (tCons te t) := by
  intro pos pins s σ H Q I h
  rw [hs]
  show wpAny _ _ (spliced ((false, eval e X.env) :: backTo pos (starEach es X.env))) _ _ s
  refine Calls.spliced_cons (thn (ha pins s σ H _ I h) fun u s1 ⟨x, H1, I1, r1, q1⟩ => ?_)
  exact thn (hr pos pins s1 σ H1 _ I1 q1) fun us s2 ⟨xs, H2, I2, r2, q2⟩ => ⟨x :: xs, H2, I2, .cons r1 r2, q2⟩
def tTup (t : TA) : TE := fun σ H Q => t σ H fun xs H1 => xs.length ≤ sizeLine ∧ ∀ p, H1 p = none → Q (.ref p) (upd H1 p (.tup xs))
def tLst (t : TA) : TE := fun σ H Q => t σ H fun xs H1 => xs.length ≤ sizeLine ∧ ∀ p, H1 p = none → Q (.ref p) (upd H1 p (.lst xs))
theorem pe_tup {x1} (h : PA X es t) : PE X (.Tuple es x1 pos) (tTup t) := by
  intro pins s σ H Q I hq
  refine wpAny_Tuple_spliced (thn (h pos pins s σ H _ I hq) fun us s1 ⟨xs, H1, I1, r, z, q⟩ => ⟨by rw [← r.length]; exact z, ?_⟩)
  have hf : H1 s1.heap.objs.size = none := I1.hok.fresh (Nat.le_refl _)
  refine ⟨.ref s1.heap.objs.size, upd H1 s1.heap.objs.size (.tup xs), I1.laid (t' := s1.toks) (fun b u e => Heap.get?_push_of_some _ e) (Nat.le_refl _) ?_, rfl, q _ hf⟩
  exact ⟨z, us, r, IsTupN.new _ _⟩
theorem pe_lst (h : PA X es t) : PE X (.List es pos) (tLst t) := by
  intro pins s σ H Q I hq
  refine wpAny_List_spliced (thn (h pos pins s σ H _ I hq) fun us s1 ⟨xs, H1, I1, r, z, q⟩ => ⟨by rw [← r.length]; exact z, ?_⟩)
  have hf : H1 s1.heap.objs.size = none := I1.hok.fresh (Nat.le_refl _)
  refine ⟨.ref s1.heap.objs.size, upd H1 s1.heap.objs.size (.lst xs), I1.laid (t' := s1.toks) (fun b u e => Heap.get?_push_of_some _ e) (Nat.le_refl _) ?_, rfl, q _ hf⟩
  exact ⟨z, us, 0, r, Heap.get?_push_size _ rfl⟩
end
abbrev Sp := List V → Hp → VK → XK → Prop
abbrev CXT := List Env → Hp → Shared → XK → Value → Shared → Prop
structure Env0 (P : Program) (w : World) (K : PySem.W.Frag) (mg : Str → Option Value) (base : Heap) (A : Around) (outer : List Env) (s : Shared) (H : Hp) : Prop where
  frames : A.frames = some outer
  mod : Mod K mg base
  bs : ∀ b o, base.get? b = some o → s.heap.get? b = some o ∧ H b = none
  bsz : base.objs.size ≤ s.heap.objs.size
  funs : s.heap.FunFrames base outer
  frf : ∀ b ∈ frs outer, H b = none
  hok : HOk P w H s.heap
  bare : AllBare s.gens
def CE (outer : List Env) (P : Program) (w : World) (H : Hp) (s : Shared) (Q : VK) (u : Value) (s' : Shared) : Prop :=
  ∃ v H', s'.os = s.os ∧ AllBare s'.gens ∧ Un (frs outer) [] H H' s.heap s'.heap ∧ HOk P w H' s'.heap ∧ RelV v u ∧ Q v H'
def CR (CX : CXT) (outer : List Env) (P : Program) (w : World) (H : Hp) (s : Shared) (Q : VK) (E : XK) (r : Result) (s' : Shared) : Prop :=
  match r with
  | .ok (.ret u) => CE outer P w H s Q u s'
  | .ok _ => False
  | .error e => CX outer H s E e s'
structure FnOk (P : Program) (w : World) (K : PySem.W.Frag) (mg : Str → Option Value) (base : Heap) (CX : CXT) (k : Nat) (f : Addr) (fd : FuncData) (ps : List Str) (sp : Sp) : Prop where
  len : ∀ vs H Q E, sp vs H Q E → vs.length = ps.length
  run : ∀ (A : Around) (outer : List Env) (s : Shared) (H : Hp) (args : Args) (us : List Value) (vs : List V) (Q : VK) (E : XK), Room k A → Env0 P w K mg base A outer s H → BindsTo s fd args (ps.zip us) → Vals vs us → sp vs H Q E →
    codeAny (model P w) A (.call (.ref f) args) (CR CX outer P w H s Q E) s
section
variable {X : Cx} {pins : List (Addr × Obj)} {σ : St} {H : Hp} {s s' : Shared}
theorem Inv.env0 (I : Inv X pins σ H s) : Env0 X.prog X.w X.K X.mg X.base X.A X.stack s H :=
  ⟨I.ok.frames, I.ok.mod, I.bs, Nat.le_trans I.ok.bsz I.sz, I.stack, I.stkFree, I.hok, I.bare⟩
theorem Inv.after {Q : VK} {u : Value} (I : Inv X pins σ H s) (h : CE X.stack X.prog X.w H s Q u s') : EP X pins σ Q u s' := by
  obtain ⟨v, H', os, bare, un, hok, r, q⟩ := h
  obtain ⟨hh, g, d, t, os'⟩ := s'
  obtain rfl : os' = s.os := os
  exact ⟨v, H', I.call (h' := hh) (g' := g) (d' := d) (t' := t) (ch := []) un hok bare (fun b z => absurd z (by simp)), r, q⟩
end
def tCall (sp : Sp) (dvs : List V) (E : XK) (t : TA) : TE := fun σ H Q => t σ H fun vs H1 => sp (vs ++ dvs) H1 Q E
def tMeth (C : Addr) (m : Str) (sp : Sp) (dvs : List V) (E : XK) (ta : TE) (t : TA) : TE := fun σ H Q => ta σ H fun x H1 => ∃ a dx fs, x = .ref a ∧ H1 a = some (.ins C dx fs) ∧ fs.lookup m = none ∧
  t σ H1 fun vs H2 => sp (x :: (vs ++ dvs)) H2 Q E
def tMake (C : Addr) (sp : Sp) (dvs : List V) (E : XK) (t : TA) : TE := fun σ H Q => t σ H fun vs H1 => ∀ x dx, H1 x = none → H1 dx = none → dx ≠ x →
  sp (.ref x :: (vs ++ dvs)) (upd (upd H1 dx (.own x)) x (.ins C dx [])) (fun v H2 => v = .non ∧ Q (.ref x) H2) E
def Binds (K : PySem.W.Frag) (fd : FuncData) (ps : List Str) (ds : List Value) : Prop :=
  ∀ (s : Shared) (us : List Value), K.In s.heap → (us ++ ds).length = ps.length → BindsTo s fd ⟨us, []⟩ (ps.zip (us ++ ds))
theorem Binds.all {K : PySem.W.Frag} {fd : FuncData} {ps : List Str} (h : ∀ us : List Value, us.length = ps.length → bindArgs fd ⟨us, []⟩ = pure (ps.zip us)) : Binds K fd ps [] := fun s us _ hl => by
  rw [List.append_nil] at hl ⊢
  exact .of_eq (h us hl)
def Passes (CX : CXT) (X : Cx) (E : XK) : Prop := ∀ (pins : List (Addr × Obj)) (σ : St) (H : Hp) (s : Shared) (e : Value) (s' : Shared), Inv X pins σ H s → CX X.stack H s E e s' → X.xe e s'
section
variable {X : Cx} {CX : CXT} {k : Nat} {f C : Addr} {fd : FuncData} {ps : List Str} {sp : Sp} {dvs : List V} {ds : List Value} {E : XK} {x m : Str} {p pos apos : Pos} {e o : Expr} {es : List Expr} {ta : TE} {t : TA}
theorem run_fn {pins : List (Addr × Obj)} {σ : St} {H : Hp} {s : Shared} {Q : VK} {us : List Value} {vs : List V} (F : FnOk X.prog X.w X.K X.mg X.base CX k f fd ps sp) (hr : Room k X.A) (hb : Binds X.K fd ps ds) (hd : Vals dvs ds) (hx : Passes CX X E)
    (I : Inv X pins σ H s) (r : Vals vs us) (h : sp (vs ++ dvs) H Q E) : wpAny (model X.prog X.w) X.A (call (.ref f) us) (EP X pins σ Q) X.xe s := by
  have r2 : Vals (vs ++ dvs) (us ++ ds) := r.append hd
  have hl : (us ++ ds).length = ps.length := by rw [← r2.length]; exact F.len _ _ _ _ h
  refine wpAny_call (codeAny_mono (F.run X.A X.stack s H ⟨us, []⟩ (us ++ ds) (vs ++ dvs) Q E hr I.env0 (hb s us I.kIn hl) r2 h) fun r s' hq => ?_)
  cases r with
  | error e => exact hx pins σ H s e s' I hq
  | ok fl =>
    cases fl with
    | ret u => exact I.after hq
    | next => exact False.elim hq
    | brk => exact False.elim hq
    | cont => exact False.elim hq
theorem pe_call (F : FnOk X.prog X.w X.K X.mg X.base CX k f fd ps sp) (hr : Room k X.A) (hg : Gl X x) (hm : X.mg x = some (.ref f)) (hk : PySem.W.keepIn X.K (.ref f) = true) (hb : Binds X.K fd ps ds) (hd : Vals dvs ds) (hx : Passes CX X E)
    (ha : PA X (e :: es) t) (hdb : (x == ("__debug__" : Str)) = false := by decide) (he : starEach (e :: es) X.env = (false, eval e X.env) :: starEach es X.env := by rfl) (hpl : (backTo pos (starEach es X.env)).any (·.1) = false := by rfl) :
    PE X (.Call (.Name x p) (e :: es) [] pos) (tCall sp dvs E t) := by
  intro pins s σ H Q I h
  refine wpAny_Call_Name_kw (ld_glob I hg hm ?_ hdb)
  refine PySem.W.callWith_K (h₀ := X.base) I.ok.mod.kin hk (thn (ha pos pins s σ H _ I h) fun us s1 ⟨vs, H1, I1, r, q⟩ => ⟨I1.kIn, ?_⟩) he hpl
  exact run_fn F hr hb hd hx I1 r q
structure Mk (K : PySem.W.Frag) (C f : Addr) : Prop where
  makes : PySem.W.makesIn K C = true
  init : PySem.W.findIn K (.ref C) "__init__" = some (some (.ref f))
  fn : PySem.W.isFn K (.ref f) = true
  kp : PySem.W.keepIn K (.ref C) = true
end
def PK (X : Cx) (kws : List Keyword) (t : TA) : Prop :=
  ∀ (pos : Pos) (pins : List (Addr × Obj)) (s : Shared) (σ : St) (H : Hp) (Q : List V → Hp → Prop), Inv X pins σ H s → t σ H Q → wpAny (model X.prog X.w) X.A (evalAll ((backToKw pos (keywordEach kws X.env)).map (·.2))) (AP X pins σ Q) X.xe s
section
variable {X : Cx} {CX : CXT} {k : Nat} {f C : Addr} {fd : FuncData} {ps ks : List Str} {sp : Sp} {E : XK} {x m : Str} {p pos apos kpos : Pos} {e o : Expr} {es : List Expr} {kws : List Keyword} {te ta : TE} {t tk : TA} {nm : Option Str}
structure KBinds (K : PySem.W.Frag) (fd : FuncData) (ps ks : List Str) (g : List Value → List Value → List Value) (gV : List V → List V → List V) : Prop where
  to : ∀ (s : Shared) (us ws : List Value), K.In s.heap → (g us ws).length = ps.length → BindsTo s fd ⟨us, ks.zip ws⟩ (ps.zip (g us ws))
  rel : ∀ {vs : List V} {us : List Value} {zs : List V} {ws : List Value}, Vals vs us → Vals zs ws → Vals (gV vs zs) (g us ws)
def tCallK (sp : Sp) (gV : List V → List V → List V) (E : XK) (t tk : TA) : TE := fun σ H Q => t σ H fun vs H1 => tk σ H1 fun zs H2 => sp (gV vs zs) H2 Q E
variable {g : List Value → List Value → List Value} {gV : List V → List V → List V}
end
structure FnScope (N P : List Str) (sc : Scope) : Prop where
  kind : sc.kind = .function
  co : sc.isCoroutine = false
  gen : sc.isGenerator = false
  nd : N.Nodup
  pre : N.take P.length = P
  par : ∀ x ∈ P, sc.names.lookup x = some .local ∨ sc.names.lookup x = some .cell
  nofree : ∀ y ∈ sc.names, y.2 ≠ .free
theorem bindL_out {kindOf : Str → Option NameKind} {x : Str} : ∀ {binds : List (Str × Value)} {m : Str → Option Value}, (∀ v, (x, v) ∉ binds) → bindL kindOf binds m x = m x
  | [], _, _ => rfl
  | (n, v) :: r, m, h => by
    unfold bindL
    rw [bindL_out fun w hw => h w (List.mem_cons_of_mem _ hw)]
    split
    · have : x ≠ n := by rintro rfl; exact h v List.mem_cons_self
      simp [this]
    · rfl
theorem bindC_out {kindOf : Str → Option NameKind} {x : Str} : ∀ {binds : List (Str × Value)} {m : Str → Option Value}, (∀ v, (x, v) ∉ binds) → bindC kindOf binds m x = m x
  | [], _, _ => rfl
  | (n, v) :: r, m, h => by
    unfold bindC
    rw [bindC_out fun w hw => h w (List.mem_cons_of_mem _ hw)]
    split
    · rfl
    · have : x ≠ n := by rintro rfl; exact h v List.mem_cons_self
      simp [this]
theorem bindL_get {kindOf : Str → Option NameKind} {x : Str} {v : Value} : ∀ {P : List Str} {vs : List Value} {i : Nat} {m : Str → Option Value}, P.Nodup → P[i]? = some x → vs[i]? = some v → kindOf x = some .local →
    bindL kindOf (P.zip vs) m x = some v
  | [], _, _, _, _, h, _, _ => by simp at h
  | _ :: _, [], _, _, _, _, h, _ => by simp at h
  | p :: P, w :: vs, 0, m, nd, h1, h2, hk => by
    simp at h1 h2; subst h1; subst h2
    show bindL kindOf ((p, w) :: P.zip vs) m p = _
    unfold bindL
    rw [bindL_out fun v hv => (List.nodup_cons.mp nd).1 (List.of_mem_zip hv).1, if_pos hk]
    simp
  | p :: P, w :: vs, i + 1, m, nd, h1, h2, hk => by
    show bindL kindOf ((p, w) :: P.zip vs) m x = _
    unfold bindL
    exact bindL_get (i := i) (List.nodup_cons.mp nd).2 (by simpa using h1) (by simpa using h2) hk
theorem bindC_get {kindOf : Str → Option NameKind} {x : Str} {v : Value} : ∀ {P : List Str} {vs : List Value} {i : Nat} {m : Str → Option Value}, P.Nodup → P[i]? = some x → vs[i]? = some v → kindOf x ≠ some .local →
    bindC kindOf (P.zip vs) m x = some v
  | [], _, _, _, _, h, _, _ => by simp at h
  | _ :: _, [], _, _, _, _, h, _ => by simp at h
  | p :: P, w :: vs, 0, m, nd, h1, h2, hk => by
    simp at h1 h2; subst h1; subst h2
    show bindC kindOf ((p, w) :: P.zip vs) m p = _
    unfold bindC
    rw [bindC_out fun v hv => (List.nodup_cons.mp nd).1 (List.of_mem_zip hv).1, if_neg hk]
    simp
  | p :: P, w :: vs, i + 1, m, nd, h1, h2, hk => by
    show bindC kindOf ((p, w) :: P.zip vs) m x = _
    unfold bindC
    exact bindC_get (i := i) (List.nodup_cons.mp nd).2 (by simpa using h1) (by simpa using h2) hk
def start (N : List Str) (vs : List V) : St := vs.map some ++ List.replicate (N.length - vs.length) none
def cxOf (CX : CXT) (P : Program) (w : World) (K : PySem.W.Frag) (mg : Str → Option Value) (base : Heap) (N : List Str) (qual : Str) (scope : Scope) (f : Addr) (cd : Value) (A : Around) (outer : List Env) (s : Shared) (H : Hp) (E : XK) : Cx where
  prog := P
  w := w
  K := K
  mg := mg
  base := base
  A := A.deeper (envOfC qual scope s.heap.objs.size f cd)
  N := N
  s₀ := s
  H₀ := H
  env := envOfC qual scope s.heap.objs.size f cd
  outer := outer
  stack := envOfC qual scope s.heap.objs.size f cd :: outer
  ex := []
  calm := true
  fn := fun _ => true
  pn := []
  xe := fun e s' => wpAny (model P w) (A.deeper (envOfC qual scope s.heap.objs.size f cd)) («leaving» (envOfC qual scope s.heap.objs.size f cd) e) (fun _ s'' => CX outer H s E e s'') (fun e' s'' => CX outer H s E e' s'') s'
theorem cell_has {sc : Scope} {n : Nat} {x : Str} (h : sc.names.lookup x = some .cell) : ∃ c, (cellsFrom n sc.names []).lookup x = some c := by
  have q := PySem.W.cellsFrom_some sc.names n [] (.inl h)
  exact Option.isSome_iff_exists.mp q
theorem inv_start {CX : CXT} {P : Program} {w : World} {K : PySem.W.Frag} {mg : Str → Option Value} {base : Heap} {N ps : List Str} {qual : Str} {scope : Scope} {f : Addr} {cd : Value} {A : Around} {outer : List Env} {s s1 : Shared} {H : Hp} {E : XK} {us : List Value} {vs : List V}
    (S : FnScope N ps scope) (hd : A.handled = none) (e0 : Env0 P w K mg base A outer s H) (hl : vs.length = ps.length) (r : Vals vs us)
    (x : InCallC s s.heap.objs.size (bindL (envOfC qual scope s.heap.objs.size f cd).kindOf (ps.zip us) fun _ => none) (cellsFrom (s.heap.objs.size + 1) scope.names []) (bindC (envOfC qual scope s.heap.objs.size f cd).kindOf (ps.zip us) fun _ => none) s1) :
    Inv (cxOf CX P w K mg base N qual scope f cd A outer s H E) [] (start N vs) H s1 := by
  have hpl : ps.length ≤ N.length := by have := congrArg List.length S.pre; rw [List.length_take] at this; omega
  obtain ⟨h1, tk, rfl, hk⟩ := x.done
  have noA : ∀ b : Addr, b ∉ (cxOf CX P w K mg base N qual scope f cd A outer s H E).ex := fun b z => absurd (show b ∈ ([] : List Addr) from z) (by simp)
  refine ⟨⟨e0.mod, S.kind, rfl, rfl, Nat.le_refl _, fun y z c h1 h2 => ?_, fun y hy => ?_, fun y c _ h => ?_, fun _ => hd, Around.frames_deeper e0.frames, .inr ⟨rfl, rfl⟩, fun b z => absurd z (noA b), e0.bs, e0.bsz, fun b _ _ => noA b, fun b z => absurd z (noA b), e0.funs, e0.frf⟩,
    rfl, e0.bare, Un.kept hk, ⟨_, x.toInCall.ns, fun i y v h1 h2 h3 => ?_⟩, fun y c h => ⟨_, x.cell y c h⟩, e0.hok.fresh (Nat.le_refl _), fun y c h => ?_, fun p hp => absurd (show p ∈ ([] : List (Addr × Obj)) from hp) (by simp), e0.hok.kept hk, ?_⟩
  · exact name_of_addr x.apart (PySem.mem_of_lookup h1) (PySem.mem_of_lookup h2)
  · have hy : scope.names.lookup y = some .cell ∨ scope.names.lookup y = some .free := hy
    rcases hy with hy | hy
    · exact cell_has hy
    · exact absurd rfl (S.nofree _ (PySem.mem_of_lookup hy))
  · exact Nat.le_of_lt (x.above y c (PySem.mem_of_lookup h))
  · have hi : i < vs.length := by
      unfold start at h2
      by_cases hi : i < vs.length
      · exact hi
      · rw [List.getElem?_append_right (by simpa using hi)] at h2
        rw [List.getElem?_replicate] at h2
        split at h2 <;> cases h2
    have ha : vs[i]? = some v := by
      unfold start at h2
      rw [List.getElem?_append_left (by simpa using hi), List.getElem?_map] at h2
      cases e : vs[i]? with
      | none => rw [e] at h2; cases h2
      | some a => rw [e] at h2; cases h2; rfl
    obtain ⟨u, hu, rv⟩ := r.get ha
    have hp : ps[i]? = some y := by
      rw [← S.pre, List.getElem?_take_of_lt (by omega)]; exact h1
    have ndP : ps.Nodup := by rw [← S.pre]; exact S.nd.sublist (List.take_sublist _ _)
    refine ⟨u, rv, ?_⟩
    rcases S.par y (List.mem_of_getElem? hp) with k | k
    · exact .inl ⟨k, bindL_get ndP hp hu k⟩
    · obtain ⟨c, e⟩ := cell_has (n := s.heap.objs.size + 1) k
      refine .inr ⟨.inl k, c, e, ?_⟩
      have q := x.cell y c e
      rw [bindC_get ndP hp hu (by show scope.names.lookup y ≠ _; rw [k]; decide)] at q
      exact q
  · exact e0.hok.fresh (Nat.le_of_lt (x.above y c (PySem.mem_of_lookup h)))
  · unfold start
    show _ = N.length
    rw [List.length_append, List.length_map, List.length_replicate]
    omega
theorem fn_of {CX : CXT} {P : Program} {w : World} {K : PySem.W.Frag} {mg : Str → Option Value} {base : Heap} {k : Nat} {f : Addr} {name qual : Str} {params : Arguments} {body : List Stmt} {scope : Scope} {dV kV doc pm cdv ct oc : Value} {an od : Option Addr}
    {osl : Array (Option Value)} {N ps : List Str} {sp : Sp} (lk : K.lookup f = some ⟨oc, od, .func (PySem.W.fnOf name qual params body scope dV kV doc pm an cdv ct), osl⟩) (hcd : PySem.W.codeIn K cdv qual = true) (S : FnScope N ps scope)
    (len : ∀ vs H Q E, sp vs H Q E → vs.length = ps.length)
    (hbody : ∀ (A : Around) (outer : List Env) (s : Shared) (H : Hp) (vs : List V) (Q : VK) (E : XK), Room k (A.deeper (envOfC qual scope s.heap.objs.size f cdv)) → sp vs H Q E →
      ∃ t, PSs (cxOf CX P w K mg base N qual scope f cdv A outer s H E) body t ∧ t { nx := fun _ H' => Q .non H', rt := Q } (start N vs) H) :
    FnOk P w K mg base CX (k + 1) f (PySem.W.fnOf name qual params body scope dV kV doc pm an cdv ct) ps sp := by
  refine ⟨len, fun A outer s H args us vs Q E hr e0 hb r hsp => ?_⟩
  have hl := len _ _ _ _ hsp
  have KX : K.In s.heap := e0.mod.kin.keeps fun b o e => (e0.bs b o e).1
  have lim : s.heap.NoLimit := e0.mod.nolimit.keeps fun b o e => (e0.bs b o e).1
  have hkind : ∀ y ∈ ps.zip us, scope.names.lookup y.1 = some .local ∨ (scope.names.lookup y.1 = some .cell ∧ ((cellsFrom (s.heap.objs.size + 1) scope.names []).lookup y.1).isSome = true) := fun ⟨n, v⟩ hy => by
    rcases S.par n (List.of_mem_zip hy).1 with q | q
    · exact .inl q
    · exact .inr ⟨q, PySem.W.cellsFrom_some _ _ _ (.inl q)⟩
  refine codeAny_call_function hr.depth (KX _ _ lk) rfl S.co S.gen rfl (PySem.W.codeRec_of KX hcd) (hb _ _ _ _ ?_)
  refine wpAny_newFunctionEnv_cells S.kind hkind fun env he s1 x => ?_
  subst he
  refine ⟨lim.keeps x.toInCall.keep, codeAny_func ?_⟩
  obtain ⟨t, ht, hq⟩ := hbody A outer s H vs Q E (hr.deeper _) hsp
  have I : Inv (cxOf CX P w K mg base N qual scope f cdv A outer s H E) [] (start N vs) H s1 := inv_start S hr.hd e0 hl r x
  refine wpAny_mono (ht [] s1 (start N vs) H _ I hq) (fun fl s' hs => ?_) fun e s' hs => hs
  have fin : ∀ {σ' : St} {H' : Hp} {v : V} {u : Value}, Inv (cxOf CX P w K mg base N qual scope f cdv A outer s H E) [] σ' H' s' → RelV v u → Q v H' → CE outer P w H s Q u s' :=
    fun {σ' H' v u} J rv q => ⟨v, H', J.os, J.bare, J.base, J.hok, rv, q⟩
  cases fl with
  | ret u =>
    obtain ⟨v, σ', H', J, rv, q⟩ := hs
    exact fin J rv q
  | next =>
    obtain ⟨σ', H', J, q⟩ := hs
    exact fin (v := V.non) (u := Value.none) J rfl q
  | brk =>
    obtain ⟨_, _, _, q⟩ := hs
    exact False.elim q
  | cont =>
    obtain ⟨_, _, _, q⟩ := hs
    exact False.elim q
end L2
namespace L2
open PySem PySem.Spec PyProof.Rows
section
variable {X : Cx} {x : Str} {p pos : Pos} {e : Expr} {es : List Expr} {t : TA} {id T : String} {r : List V → Hp → VK → Prop}
def tCB (r : List V → Hp → VK → Prop) (t : TA) : TE := fun σ H Q => t σ H fun vs H1 => r vs H1 Q
theorem pe_callB (hc : CallR X (.builtin id) r) (hg : Gl X x) (hm : X.mg x = none) (hv : bootBuiltins x = some (.builtin id)) (ha : PA X (e :: es) t) (hn : x ≠ "__name__" := by decide) (hdb : (x == ("__debug__" : Str)) = false := by decide)
    (he : starEach (e :: es) X.env = (false, eval e X.env) :: starEach es X.env := by rfl) (hpl : (backTo pos (starEach es X.env)).any (·.1) = false := by rfl) : PE X (.Call (.Name x p) (e :: es) [] pos) (tCB r t) := by
  intro pins s σ H Q I h
  refine wpAny_Call_Name_kw (ld_blt I hg hm hv ?_ hn hdb)
  exact PyProof.Rows.callWith_builtin1 (thn (ha pos pins s σ H _ I h) fun us s1 ⟨vs, H1, I1, r1, q1⟩ => hc pins s1 σ H1 vs us Q I1 r1 q1) he hpl
theorem pe_callTy (hc : CallR X (.type T) r) (hg : Gl X x) (hm : X.mg x = none) (hv : bootBuiltins x = some (.type T)) (ha : PA X (e :: es) t) (hn : x ≠ "__name__" := by decide) (hdb : (x == ("__debug__" : Str)) = false := by decide)
    (he : starEach (e :: es) X.env = (false, eval e X.env) :: starEach es X.env := by rfl) (hpl : (backTo pos (starEach es X.env)).any (·.1) = false := by rfl) : PE X (.Call (.Name x p) (e :: es) [] pos) (tCB r t) := by
  intro pins s σ H Q I h
  refine wpAny_Call_Name_kw (ld_blt I hg hm hv ?_ hn hdb)
  exact PyProof.Rows.callWith_type1 (thn (ha pos pins s σ H _ I h) fun us s1 ⟨vs, H1, I1, r1, q1⟩ => hc pins s1 σ H1 vs us Q I1 r1 q1) he hpl
end
end L2
namespace HT
open PySem PyProof.Rows
def lexLt : List Int → List Int → Bool
  | [], [] => false
  | [], _ :: _ => true
  | _ :: _, [] => false
  | x :: xs, y :: ys => if x = y then lexLt xs ys else decide (x < y)
section
open PySem.SeqAt
open PySem.AutoSeq1 (wpAny_loadPart')
open PySem.MeetsSeq PySem.MeetsSeq2 PySem.MeetsSeq3
end
section
variable {prog : Program} {w : World} {A : Around} {E : Value → Shared → Prop} {s : Shared}
theorem cat_tup {t b : Addr} {vs ws : List Value} {Q : Value → Shared → Prop} (ht : IsTup s.heap t vs.toArray) (hb : IsTup s.heap b ws.toArray) (hv : vs ≠ [])
    (h1 : ws = [] → Q (.ref t) s) (h2 : ws ≠ [] → Q (.ref s.heap.objs.size) { s with heap := s.heap.push { cls := .type "tuple", data := .seq (vs ++ ws).toArray } })
    (hsz : vs.length + ws.length ≤ sizeLine) : wpAny (model prog w) A (binaryOp .Add (.ref t) (.ref b)) Q E s := by
  obtain ⟨⟨cls, dd, data, sl⟩, ho, hc, n, hd⟩ := id ht
  obtain ⟨⟨cls2, dd2, data2, sl2⟩, ho2, hc2, n2, hd2⟩ := id hb
  simp only at hc hd hc2 hd2
  subst hc hd hc2 hd2
  have e : vs.toArray ++ ws.toArray = (vs ++ ws).toArray := by simp
  by_cases hw : ws = []
  · exact concat_meets ⟨_, ho, rfl⟩ ⟨_, ho2, rfl⟩ noFill_tuple_add seq_tuple_add PySem.F.slot_tuple_add PySem.F.entry_tuple_add (PySem.F.args_tuple_add_2 _ _)
      (tuple_addW1 t b vs.toArray ws.toArray n n2 dd dd2 sl sl2 (by simpa using hv) (by simp [hw])) ⟨ho, ho2, h1 hw⟩
  · refine concat_meets ⟨_, ho, rfl⟩ ⟨_, ho2, rfl⟩ noFill_tuple_add seq_tuple_add PySem.F.slot_tuple_add PySem.F.entry_tuple_add (PySem.F.args_tuple_add_2 _ _)
      (tuple_addW2 t b vs.toArray ws.toArray n n2 dd dd2 sl sl2 (by simpa using hv) (by simpa using hw) (by rw [List.size_toArray, List.size_toArray]; exact hsz)) ⟨ho, ho2, ?_⟩
    rw [e]
    exact h2 hw
def sIx (n d : Nat) : Option Int → Nat
  | none => d
  | some v => if v < 0 then (v + (n : Int)).toNat else min v.toNat n
theorem sIx_le (n d : Nat) (hd : d ≤ n) (o : Option Int) : sIx n d o ≤ n := by
  cases o with
  | none => exact hd
  | some v =>
    show (if v < 0 then (v + (n : Int)).toNat else min v.toNat n) ≤ n
    by_cases hv : v < 0
    · rw [if_pos hv]; omega
    · rw [if_neg hv]; exact Nat.min_le_right _ _
theorem clip_eq (v : Int) (n d : Nat) : (if v < 0 then max (v + (n : Int)) 0 else min v (n : Int)) = ((sIx n d (some v) : Nat) : Int) := by
  show (if v < 0 then max (v + (n : Int)) 0 else min v (n : Int)) = (((if v < 0 then (v + (n : Int)).toNat else min v.toNat n) : Nat) : Int)
  by_cases hv : v < 0
  · simp only [if_pos hv]; omega
  · simp only [if_neg hv]; omega
theorem adjust_gen (lo hi : Option Int) (n : Nat) : Builtin.Slice.sliceAdjust lo hi 1 (n : Int) = (((sIx n 0 lo : Nat) : Int), ((sIx n n hi : Nat) : Int)) := by
  have h1 : ¬ ((1 : Int) < 0) := by omega
  unfold Builtin.Slice.sliceAdjust
  simp only [h1, if_false]
  refine Prod.ext ?_ ?_
  · cases lo with
    | none => rfl
    | some v => exact clip_eq v n 0
  · cases hi with
    | none => rfl
    | some v => exact clip_eq v n n
theorem places_gen (i j : Nat) : Builtin.Slice.slicePlaces (i : Int) (j : Int) 1 = j - i := by
  unfold Builtin.Slice.slicePlaces
  have h1 : (1 : Int) > 0 := by omega
  simp only [h1, if_true, Int.ediv_one]
  split <;> omega
theorem slicePart_ {v : Value} {o : Option Int} {Q : Option Int → Shared → Prop} (p : IsPart v o) (h : Q o s) : wpAny (model prog w) A (Builtin.Slice.slicePartIndex v) Q E s := by
  cases p with
  | none => exact slicePart_none h
  | int i t => exact slicePart_int h
theorem sliceApplied_gen {sl : Addr} {vl vu : Value} {lo hi : Option Int} {n : Nat} {Q : Int × Int × Nat → Shared → Prop} (hs : s.heap.IsSliceOf sl vl vu .none) (pl : IsPart vl lo) (pu : IsPart vu hi)
    (h : Q (((sIx n 0 lo : Nat) : Int), 1, sIx n n hi - sIx n 0 lo) s) : wpAny (model prog w) A (Builtin.Slice.sliceApplied (.ref sl) (pure (n : Int))) Q E s := by
  obtain ⟨os, hos, hcs, hds⟩ := id hs
  unfold Builtin.Slice.sliceApplied Builtin.Slice.sliceFields
  refine wpAny_bind (wpAny_bind (wpAny_field hos hds (x := vl) rfl (wpAny_bind (wpAny_field hos hds (x := vu) rfl (wpAny_bind (wpAny_field hos hds (x := .none) rfl (wpAny_pure ?_)))))))
  refine wpAny_bind (slicePart_none ?_)
  show wpAny _ _ (if ((1 : Int) == 0) = true then _ else _) _ _ s
  rw [if_neg (by decide)]
  refine wpAny_bind (slicePart_ pl (wpAny_bind (slicePart_ pu (wpAny_bind (wpAny_pure ?_)))))
  show wpAny _ _ (match Builtin.Slice.sliceAdjust lo hi 1 (n : Int) with | (lo, hi) => pure (lo, (1 : Int), Builtin.Slice.slicePlaces lo hi 1)) _ _ s
  rw [adjust_gen lo hi n]
  show wpAny _ _ (pure (((sIx n 0 lo : Nat) : Int), (1 : Int), Builtin.Slice.slicePlaces ((sIx n 0 lo : Nat) : Int) ((sIx n n hi : Nat) : Int) 1)) _ _ s
  rw [places_gen]
  exact wpAny_pure h
theorem pick_gen (xs : Array Value) (i k : Nat) : ((List.range k).filterMap fun (m : Nat) => xs[((i : Int) + (m : Int) * 1).toNat]?).toArray = ((xs.toList.drop i).take k).toArray := by
  have e : (fun (m : Nat) => xs[((i : Int) + (m : Int) * 1).toNat]?) = fun m => xs[i + m]? := by
    funext m
    have : ((i : Int) + (m : Int) * 1).toNat = i + m := by omega
    rw [this]
  rw [e]
  have := pick_run xs i k
  rw [List.filterMap_map] at this
  have e2 : ((fun x => xs[x]?) ∘ fun x => i + x) = fun m => xs[i + m]? := rfl
  rw [e2] at this
  rw [this]
theorem getItem_tuple_cut {t sl : Addr} {items : Array Value} {vl vu : Value} {lo hi : Option Int} {Q : Value → Shared → Prop} (ht : IsTup s.heap t items) (hs : s.heap.IsSliceOf sl vl vu .none) (pl : IsPart vl lo) (pu : IsPart vu hi)
    (hw : ¬ (sIx items.size 0 lo = 0 ∧ sIx items.size items.size hi = items.size))
    (h : Q (.ref s.heap.objs.size) { s with heap := s.heap.push { cls := .type "tuple", data := .seq ((items.toList.drop (sIx items.size 0 lo)).take (sIx items.size items.size hi - sIx items.size 0 lo)).toArray } })
    (hsz : items.size ≤ sizeLine) : wpAny (model prog w) A (getItem (.ref t) (.ref sl)) Q E s := by
  have htake : sizeOk (.seq ((items.toList.drop (sIx items.size 0 lo)).take (sIx items.size items.size hi - sIx items.size 0 lo)).toArray) := by
    show ((items.toList.drop (sIx items.size 0 lo)).take (sIx items.size items.size hi - sIx items.size 0 lo)).toArray.size ≤ sizeLine
    rw [List.size_toArray, List.length_take, List.length_drop, Array.length_toList]
    omega
  have hj : sIx items.size items.size hi ≤ items.size := sIx_le _ _ (Nat.le_refl _) hi
  obtain ⟨os, hos, hcs, hds⟩ := id hs
  have hTs : s.TypeIs (.ref sl) "slice" := ⟨os, hos, hcs⟩
  unfold getItem
  try with_reducible refine wpAny_holding ?_
  first | refine wpAny_bind (wpAny_pure ?_) | skip
  refine wpAny_bind (wpAny_sequenceKey ht.typeIs (by decide) ?_)
  refine wpAny_bind (wpAny_callSpecial?_slot (name := Str.ofString "__getitem__") ht.typeIs PyProof.Rows.slot_tuple_getitem
    (wpAny_call_entry PyProof.Rows.slot_tuple_getitem ht.typeIs entry_tuple_getitem ?_ (args_tuple_getitem _ _)))
  show wpAny _ _ (Builtin.Tuple.tupleItemsOf (.ref t) >>= _) _ _ s
  refine wpAny_bind (tupleItemsOf_ ht ?_)
  refine wpAny_bind (wpAny_typeOf hTs ?_)
  rw [if_pos (by decide)]
  refine wpAny_bind (sliceApplied_gen hs pl pu ?_)
  have hno : ¬ ((((sIx items.size 0 lo : Nat) : Int) == 0 && (1 : Int) == 1 && (sIx items.size items.size hi - sIx items.size 0 lo) == items.size) = true) := by
    intro q
    rw [Bool.and_eq_true, Bool.and_eq_true] at q
    have q1 : ((sIx items.size 0 lo : Nat) : Int) = 0 := eq_of_beq q.1.1
    have q2 : sIx items.size items.size hi - sIx items.size 0 lo = items.size := eq_of_beq q.2
    exact hw ⟨by omega, by omega⟩
  show wpAny _ _ (if (((sIx items.size 0 lo : Nat) : Int) == 0 && (1 : Int) == 1 && (sIx items.size items.size hi - sIx items.size 0 lo) == items.size) = true then _ else _) _ _ s
  rw [if_neg hno, pick_gen]
  first
    | exact wpAny_bind (m := Builtin.Tuple.tupleExact _) (wpAny_newObj_type (wpAny_pure ⟨_, rfl, wpAny_pure h⟩) htake)
    | exact wpAny_bind (m := Builtin.Tuple.tupleExact _) (wpAny_newObj_type (wpAny_bind (wpAny_pure (wpAny_pure ⟨_, rfl, wpAny_pure h⟩))) htake)
    | exact wpAny_bind (wpAny_bind (m := Builtin.Tuple.tupleExact _) (wpAny_newObj_type (wpAny_pure (wpAny_pure ⟨_, rfl, wpAny_pure h⟩)) htake))
    | exact wpAny_bind (wpAny_bind (m := Builtin.Tuple.tupleExact _) (wpAny_newObj_type (wpAny_pure ⟨_, rfl, wpAny_pure h⟩) htake))
end
end HT
namespace L2
open PySem PySem.Spec PyProof.Rows
abbrev TO := St → Hp → (Option Int → Hp → Prop) → Prop
def PO (X : Cx) (e : Option Expr) (t : TO) : Prop :=
  ∀ (pins : List (Addr × Obj)) (s : Shared) (σ : St) (H : Hp) (Q : Option Int → Hp → Prop), Inv X pins σ H s → t σ H Q →
    wpAny (model X.prog X.w) X.A (evalPart e X.env) (fun u s' => ∃ o H', Inv X pins σ H' s' ∧ IsPart u o ∧ Q o H') X.xe s
def tNoPart : TO := fun _ H Q => Q none H
def tPart (t : TE) : TO := fun σ H Q => t σ H fun x H1 => ∃ i, x = .int i ∧ Q (some i) H1
theorem intsAre_of {ns : List Int} : ∀ {us : List Value}, Vals (ns.map V.int) us → IntsAre us ns := by
  induction ns with
  | nil => intro us r; rw [List.map_nil] at r; cases r; exact .nil
  | cons n ns ih =>
    intro us r
    rw [List.map_cons] at r
    cases r with
    | cons r1 r2 =>
      obtain ⟨t, e⟩ := r1
      subst e
      exact .cons n t (ih r2)
section
variable {X : Cx} {e : Expr} {te : TE} {lo hi : Option Expr} {tl th : TO} {pos p2 : Pos}
theorem po_none : PO X none tNoPart := by
  intro pins s σ H Q I h
  rw [evalPart_none]
  exact wpAny_pure ⟨none, H, I, .none, h⟩
theorem po_some (h : PE X e te) : PO X (some e) (tPart te) := by
  intro pins s σ H Q I hw
  rw [evalPart_some]
  refine thn (h pins s σ H _ I hw) fun u s1 ⟨x, H1, I1, r1, q1⟩ => ?_
  obtain ⟨i, rfl, q⟩ := q1
  obtain ⟨t, rfl⟩ := r1
  exact ⟨some i, H1, I1, .int i t, q⟩
def SlR (X : Cx) (r : V → Option Int → Option Int → Hp → VK → Prop) : Prop :=
  ∀ (pins : List (Addr × Obj)) (s : Shared) (σ : St) (H : Hp) (x : V) (v vl vu : Value) (lo hi : Option Int) (sl : Addr) (Q : VK), Inv X pins σ H s → RelV x v → s.heap.IsSliceOf sl vl vu .none → IsPart vl lo → IsPart vu hi → r x lo hi H Q →
    ∃ T id, typeLookup (.type T) "__getitem__" = pure (some (.builtin id)) ∧ s.TypeIs v T ∧ wpAny (model X.prog X.w) X.A (getItem v (.ref sl)) (EP X pins σ Q) X.xe s
theorem SlR.or {r r' : V → Option Int → Option Int → Hp → VK → Prop} (h : SlR X r) (h' : SlR X r') : SlR X (fun x lo hi H Q => r x lo hi H Q ∨ r' x lo hi H Q) := by
  intro pins s σ H x v vl vu lo hi sl Q I rx hs pl pu q
  rcases q with q | q
  · exact h pins s σ H x v vl vu lo hi sl Q I rx hs pl pu q
  · exact h' pins s σ H x v vl vu lo hi sl Q I rx hs pl pu q
def tSl (r : V → Option Int → Option Int → Hp → VK → Prop) (te : TE) (tl th : TO) : TE := fun σ H Q => te σ H fun x H1 => tl σ H1 fun l H2 => th σ H2 fun u H3 => r x l u H3 Q
theorem pe_slice {r : V → Option Int → Option Int → Hp → VK → Prop} (hr : SlR X r) (he : PE X e te) (hl : PO X lo tl) (hu : PO X hi th) : PE X (.Subscript e (.Slice lo hi none p2) pos) (tSl r te tl th) := by
  intro pins s σ H Q I h
  refine Subscript_ (thn (he pins s σ H _ I h) fun v s1 ⟨x, H1, I1, r1, q1⟩ => ?_)
  refine wpAny_Slice (thn (hl pins s1 σ H1 _ I1 q1) fun vl s2 ⟨l, H2, I2, pl, q2⟩ => thn (hu pins s2 σ H2 _ I2 q2) fun vu s3 ⟨u, H3, I3, pu, q3⟩ => ?_)
  rw [evalPart_none]
  refine wpAny_pure ?_
  have I4 : Inv X pins σ H3 { s3 with heap := s3.heap.push { cls := .type "slice", data := .fields #[vl, vu, .none] } } := I3.kept (t' := s3.toks) fun b ob q => Heap.get?_push_of_some _ q
  obtain ⟨T, id, hT, ht, hg⟩ := hr pins { s3 with heap := s3.heap.push { cls := .type "slice", data := .fields #[vl, vu, .none] } } σ H3 x v vl vu l u s3.heap.objs.size Q I4 r1 (Heap.IsSliceOf.new ..) pl pu q3
  show wpAny (model X.prog X.w) X.A (subscriptTail e (.Slice lo hi none p2) v (.ref s3.heap.objs.size)) (EP X pins σ Q) X.xe { s3 with heap := s3.heap.push { cls := .type "slice", data := .fields #[vl, vu, .none] } }
  exact tail_any (ops := [.ref s3.heap.objs.size, v]) ht hT hg (by with_unfolding_all rfl)
def cutV (xs : List V) (lo hi : Option Int) : List V := (xs.drop (HT.sIx xs.length 0 lo)).take (HT.sIx xs.length xs.length hi - HT.sIx xs.length 0 lo)
theorem cutV_length (xs : List V) (lo hi : Option Int) : (cutV xs lo hi).length ≤ xs.length := by
  unfold cutV
  rw [List.length_take, List.length_drop]
  omega
def rSlT (K : PySem.W.Frag) : V → Option Int → Option Int → Hp → VK → Prop := fun x lo hi H Q => ∃ a xs, x = .ref a ∧ SqT K H a xs ∧
  ¬ (HT.sIx xs.length 0 lo = 0 ∧ HT.sIx xs.length xs.length hi = xs.length) ∧ ∀ p, H p = none → Q (.ref p) (upd H p (.tup (cutV xs lo hi)))
theorem sl_tup : SlR X (rSlT X.K) := by
  intro pins s σ H x v vl vu lo hi sl Q I rx hs pl pu h
  obtain ⟨a, xs, rfl, hx, hw, q⟩ := h
  cases rx
  obtain ⟨its, r, ht, hz⟩ := I.tuple hx
  have hlen : its.toArray.size = xs.length := by rw [List.size_toArray]; exact r.length.symm
  refine ⟨"tuple", _, PyProof.Rows.slot_tuple_getitem.lookup, ht.typeIs, ?_⟩
  refine HT.getItem_tuple_cut ht hs pl pu (by rw [hlen]; exact hw) ?_ (by rw [hlen]; exact hz)
  rw [hlen]
  refine ⟨.ref s.heap.objs.size, _, I.laid (t' := s.toks) (o := .tup (cutV xs lo hi)) (fun b ob q => Heap.get?_push_of_some _ q) (Nat.le_refl _) ?_, rfl, q _ (I.hok.fresh (Nat.le_refl _))⟩
  exact ⟨Nat.le_trans (cutV_length xs lo hi) hz, _, (r.drop (HT.sIx xs.length 0 lo)).take (HT.sIx xs.length xs.length hi - HT.sIx xs.length 0 lo), IsTupN.new _ _⟩
def rLtT (K : PySem.W.Frag) : R2 := fun x y H Q => ∃ a b ns ms, x = .ref a ∧ y = .ref b ∧ SqT K H a (ns.map V.int) ∧ SqT K H b (ms.map V.int) ∧ Q (.bl (HT.lexLt ns ms)) H
def rCatT (K : PySem.W.Frag) : R2 := fun x y H Q => ∃ a b xs ys, x = .ref a ∧ y = .ref b ∧ SqT K H a xs ∧ SqT K H b ys ∧ xs ≠ [] ∧ xs.length + ys.length ≤ sizeLine ∧
  (ys = [] → Q (.ref a) H) ∧ (ys ≠ [] → ∀ p, H p = none → Q (.ref p) (upd H p (.tup (xs ++ ys))))
theorem Vals.nil_iff {xs : List V} {us : List Value} (r : Vals xs us) : us = [] ↔ xs = [] := by
  cases r with
  | nil => simp
  | cons _ _ => simp
theorem op_catT : OpR X (binaryOp .Add) (rCatT X.K) := by
  intro pins s σ H x y v u Q I rx ry h
  obtain ⟨a, b, xs, ys, rfl, rfl, ha, hb, hx, hz, q1, q2⟩ := h
  cases rx
  cases ry
  obtain ⟨its, r1, p1, _⟩ := I.tuple ha
  obtain ⟨its2, r2, p2, _⟩ := I.tuple hb
  refine HT.cat_tup p1 p2 (fun z => hx (r1.nil_iff.mp z)) (fun z => ⟨.ref a, H, I, rfl, q1 (r2.nil_iff.mp z)⟩) (fun z => ?_) (by rw [← r1.length, ← r2.length]; exact hz)
  refine ⟨.ref s.heap.objs.size, _, I.laid (t' := s.toks) (o := .tup (xs ++ ys)) (fun b ob q => Heap.get?_push_of_some _ q) (Nat.le_refl _) ?_, rfl, q2 (fun w => z (r2.nil_iff.mpr w)) _ (I.hok.fresh (Nat.le_refl _))⟩
  exact ⟨by rw [List.length_append]; exact hz, _, r1.append r2, IsTupN.new _ _⟩
end
end L2
namespace L2
open PySem PySem.Spec PyProof.Rows
def ixN (n : Nat) (i : Int) : Option Nat := if 0 ≤ i then (if i < n then some i.toNat else none) else if -(n : Int) ≤ i then some (i + n).toNat else none
def atI {α : Type} (xs : List α) (i : Int) : Option α := (ixN xs.length i).bind fun j => xs[j]?
theorem ixN_seq {n : Nat} {i : Int} {j : Nat} (h : ixN n i = some j) : seqIndex? i n = some j ∧ j < n ∧ -(n : Int) ≤ i ∧ i < n := by
  unfold ixN at h
  by_cases h0 : 0 ≤ i
  · rw [if_pos h0] at h
    by_cases h1 : i < n
    · rw [if_pos h1] at h
      have e : i.toNat = j := Option.some.inj h
      exact ⟨by rw [seqIndex_of h0 h1, e], by omega, by omega, h1⟩
    · rw [if_neg h1] at h; cases h
  · rw [if_neg h0] at h
    by_cases h1 : -(n : Int) ≤ i
    · rw [if_pos h1] at h
      have e : (i + n).toNat = j := Option.some.inj h
      exact ⟨by rw [seqIndex_neg (by omega) h1, e], by omega, h1, by omega⟩
    · rw [if_neg h1] at h; cases h
theorem atI_get {α : Type} {xs : List α} {i : Int} {v : α} (h : atI xs i = some v) : ∃ j, seqIndex? i xs.length = some j ∧ xs[j]? = some v ∧ j < xs.length ∧ -(xs.length : Int) ≤ i ∧ i < xs.length := by
  unfold atI at h
  cases e : ixN xs.length i with
  | none => rw [e] at h; cases h
  | some j =>
    rw [e] at h
    obtain ⟨h1, h2, h3, h4⟩ := ixN_seq e
    exact ⟨j, h1, h, h2, h3, h4⟩
theorem atI_nat {α : Type} {xs : List α} {j : Nat} {v : α} (h : xs[j]? = some v) : atI xs (j : Int) = some v := by
  have hj : j < xs.length := (List.getElem?_eq_some_iff.mp h).1
  have e : ixN xs.length (j : Int) = some j := by
    unfold ixN
    rw [if_pos (by omega), if_pos (by omega)]; simp
  unfold atI; rw [e]; exact h
def PlainIx (b : Expr) : Prop := ∀ o i, subscripted b false o i = operate [o, i] (getItem o i)
def IxR (X : Cx) (r : R2) : Prop :=
  ∀ (value slice : Expr) (pins : List (Addr × Obj)) (s : Shared) (σ : St) (H : Hp) (x y : V) (v u : Value) (Q : VK), Inv X pins σ H s → RelV x v → RelV y u → r x y H Q →
    subscripted slice false v u = operate [v, u] (getItem v u) → wpAny (model X.prog X.w) X.A (subscriptTail value slice v u) (EP X pins σ Q) X.xe s
def MtR (X : Cx) (id : String) (r : V → List V → Hp → VK → Prop) : Prop :=
  ∀ (pins : List (Addr × Obj)) (s : Shared) (σ : St) (H : Hp) (x : V) (xs : List V) (v : Value) (us : List Value) (Q : VK), Inv X pins σ H s → RelV x v → Vals xs us → r x xs H Q →
    wpAny (model X.prog X.w) X.A (call (.builtin id) (v :: us)) (EP X pins σ Q) X.xe s
section
variable {X : Cx} {a b : Expr} {ta tb : TE} {pos : Pos}
theorem IxR.or {r r' : R2} (h : IxR X r) (h' : IxR X r') : IxR X (fun x y H Q => r x y H Q ∨ r' x y H Q) := by
  intro value slice pins s σ H x y v u Q I rx ry q hs
  rcases q with q | q
  · exact h value slice pins s σ H x y v u Q I rx ry q hs
  · exact h' value slice pins s σ H x y v u Q I rx ry q hs
theorem pe_ix {r : R2} (hr : IxR X r) (ha : PE X a ta) (hb : PE X b tb) (hs : PlainIx b) : PE X (.Subscript a b pos) (tOp r ta tb) := by
  intro pins s σ H Q I h
  exact Subscript_ (binT ha hb I h fun v u s2 x y H2 I2 rx ry q => hr a b pins s2 σ H2 x y v u Q I2 rx ry q (hs _ _))
def rIxL (K : PySem.W.Frag) : R2 := fun x y H Q => ∃ p xs i v, x = .ref p ∧ y = .int i ∧ SqL K H p xs ∧ atI xs i = some v ∧ Q v H
def rIxT (K : PySem.W.Frag) : R2 := fun x y H Q => ∃ p xs i v, x = .ref p ∧ y = .int i ∧ SqT K H p xs ∧ atI xs i = some v ∧ Q v H
def rIxS : R2 := fun x y H Q => ∃ z i c, x = .str z ∧ y = .int i ∧ z.length ≤ sizeLine ∧ atI z.cps.toList i = some c ∧ Q (.str ⟨#[c]⟩) H
theorem ix_list : IxR X (rIxL X.K) := by
  intro value slice pins s σ H x y v u Q I rx ry h hs
  obtain ⟨p, xs, i, z, rfl, rfl, hq, he, q⟩ := h
  cases rx
  obtain ⟨t, rfl⟩ := ry
  obtain ⟨its, r, pl, hz⟩ := I.list hq
  obtain ⟨j, h1, h2, h3, h4, h5⟩ := atI_get he
  obtain ⟨w, ew, rw'⟩ := r.get h2
  have hl := r.length
  have hn := line63
  have fin : EP X pins σ Q w s := ⟨z, H, I, rw', q⟩
  by_cases h0 : 0 ≤ i
  · have hj : i.toNat = j := by
      rw [seqIndex_of h0 h5] at h1
      exact Option.some.inj h1
    exact item_listR pl.isList h0 (by omega) (by rw [hj]; simpa using ew) fin hs
  · have hj : (i + (its.toArray.size : Int)).toNat = j := by
      rw [seqIndex_neg (by omega) h4] at h1
      rw [List.size_toArray, ← hl]
      exact Option.some.inj h1
    exact subscriptTail_builtinR (x := w) pl.isList.typeIs slot_list_getitem.lookup
      (wpAny_getItem_list_neg (Q := fun r s' => r = w ∧ EP X pins σ Q r s') pl.isList (by omega) (by rw [List.size_toArray] <;> omega) (by omega) (by rw [hj]; simpa using ew) ⟨rfl, fin⟩) hs
theorem ix_tup : IxR X (rIxT X.K) := by
  intro value slice pins s σ H x y v u Q I rx ry h hs
  obtain ⟨p, xs, i, z, rfl, rfl, hq, he, q⟩ := h
  cases rx
  obtain ⟨t, rfl⟩ := ry
  obtain ⟨its, r, pl, hz⟩ := I.tuple hq
  obtain ⟨j, h1, h2, h3, h4, h5⟩ := atI_get he
  obtain ⟨w, ew, rw'⟩ := r.get h2
  have hl := r.length
  have hn := line63
  have fin : EP X pins σ Q w s := ⟨z, H, I, rw', q⟩
  exact subscriptTail_builtinR (x := w) pl.typeIs slot_tuple_getitem.lookup
    (getItem_tuple (j := j) (Q := fun r s' => r = w ∧ EP X pins σ Q r s') pl (by omega) (by omega) (by rw [List.size_toArray, ← hl]; exact h1) (by simpa using ew) ⟨rfl, fin⟩) hs
theorem ix_str : IxR X rIxS := by
  intro value slice pins s σ H x y v u Q I rx ry h hs
  obtain ⟨z, i, c, rfl, rfl, hz, he, q⟩ := h
  obtain ⟨t, rfl⟩ := rx
  obtain ⟨t', rfl⟩ := ry
  obtain ⟨j, h1, h2, h3, h4, h5⟩ := atI_get he
  have hl : z.cps.toList.length = z.length := by simp [Str.length]
  rw [hl] at h1 h4 h5
  have hn := line63
  exact tail_any (typeIs_str s z t) slot_str_getitem.lookup (getItem_str (c := c) (by
    have e1 : decide (i < -(2 ^ 63 : Int)) = false := decide_eq_false (by omega)
    have e2 : decide (i ≥ 2 ^ 63) = false := decide_eq_false (by omega)
    rw [e1, e2, Bool.or_false]) (by rw [h1]; simpa using h2) ⟨.str ⟨#[c]⟩, H, I.tok _, ⟨_, rfl⟩, q⟩) hs
def rIx (K : PySem.W.Frag) : R2 := fun x y H Q => rIxL K x y H Q ∨ rIxT K x y H Q ∨ rIxS x y H Q
theorem ix_seq : IxR X (rIx X.K) := ix_list.or (ix_tup.or ix_str)
theorem mapSeq_set (its : List Value) (n j : Nat) (u : Value) : Obj.mapSeq (·.setIfInBounds j u) { cls := .type "list", data := .seq its.toArray n } = { cls := .type "list", data := .seq (its.set j u).toArray n } := by
  simp [Obj.mapSeq]
theorem Inv.lst {pins : List (Addr × Obj)} {σ : St} {H : Hp} {s : Shared} {p : Addr} {xs : List V} (I : Inv X pins σ H s) (h : H p = some (.lst xs)) :
    ∃ (its : List Value) (n : Nat), Vals xs its ∧ s.heap.get? p = some { cls := .type "list", data := .seq its.toArray n } ∧ xs.length ≤ sizeLine := by
  obtain ⟨z, its, n, r, e⟩ := I.hok p _ h
  exact ⟨its, n, r, e, z⟩
theorem Inv.lstUpd {pins : List (Addr × Obj)} {σ : St} {H : Hp} {s : Shared} {p : Addr} {xs ys : List V} {its its' : List Value} {n n' : Nat} {f : Obj → Obj} (I : Inv X pins σ H s) (h : H p = some (.lst xs))
    (ho : s.heap.get? p = some { cls := .type "list", data := .seq its.toArray n }) (hf : f { cls := .type "list", data := .seq its.toArray n } = { cls := .type "list", data := .seq its'.toArray n' }) (r : Vals ys its') (hz : ys.length ≤ sizeLine) (t : Nat) :
    Inv X pins σ (upd H p (.lst ys)) { s with heap := s.heap.update p f, toks := t } := by
  have e : (s.heap.update p f).get? p = some { cls := .type "list", data := .seq its'.toArray n' } := by
    rw [Heap.get?_update_self f ho (by rw [hf] <;> rfl), hf]
  refine I.write (x := p) (e := p) (by rw [h]; trivial) (.inl rfl) (fun b u hb q => (Heap.get?_update_other _ _ (Ne.symm hb)).trans q) ⟨_, e⟩ ?_
  exact ⟨hz, its', n', r, e⟩
def rSetL : V → V → V → Hp → (Hp → Prop) → Prop := fun o i v H Q => ∃ p xs k j, o = .ref p ∧ i = .int k ∧ H p = some (.lst xs) ∧ ixN xs.length k = some j ∧ Q (upd H p (.lst (xs.set j v)))
theorem set_list : PSet X rSetL := by
  intro pins s σ H o i v ov iv u Q I ro ri rv h
  obtain ⟨p, xs, k, j, rfl, rfl, hp, hj, q⟩ := h
  cases ro
  obtain ⟨t, rfl⟩ := ri
  obtain ⟨its, n, r, ho, hz⟩ := I.lst hp
  obtain ⟨h1, h2, h3, h4⟩ := ixN_seq hj
  have hl := r.length
  have hn := line63
  have I' : Inv X pins σ (upd H p (.lst (xs.set j v))) { s with heap := s.heap.update p (Obj.mapSeq (·.setIfInBounds j u)) } :=
    I.lstUpd hp ho (mapSeq_set its n j u) (r.set rv j) (by rw [List.length_set]; exact hz) s.toks
  by_cases h0 : 0 ≤ k
  · have hk : k.toNat = j := by
      rw [seqIndex_of h0 h4] at h1
      exact Option.some.inj h1
    exact PySem.W.ki_setAt ho h0 (by omega) (by rw [List.size_toArray, ← hl]; exact h4) (by rw [hk]; exact ⟨_, I', q⟩)
  · have hk : (k + (its.toArray.size : Int)).toNat = j := by
      rw [seqIndex_neg (by omega) h3] at h1
      rw [List.size_toArray, ← hl]
      exact Option.some.inj h1
    exact PySem.W.ki_setBack ho (by omega) (by rw [List.size_toArray, ← hl]; exact h3) (by omega) (by rw [hk]; exact ⟨_, I', q⟩)
theorem slice_bounds (lo hi : Option Int) (n : Nat) : (sliceBounds lo hi none n).1 = ((HT.sIx n 0 lo : Nat) : Int) ∧ (sliceBounds lo hi none n).2.1 = ((HT.sIx n n hi : Nat) : Int) ∧ (sliceBounds lo hi none n).2.2 = 1 := by
  refine ⟨?_, ?_, rfl⟩
  · cases lo with
    | none => simp [sliceBounds, HT.sIx]
    | some i =>
      simp only [sliceBounds, HT.sIx, Option.getD_none, show (1 : Int) > 0 by decide, if_true]
      by_cases h : i < 0
      · simp only [h, if_true] <;> omega
      · simp only [h, if_false] <;> omega
  · cases hi with
    | none => simp [sliceBounds, HT.sIx]
    | some i =>
      simp only [sliceBounds, HT.sIx, Option.getD_none, show (1 : Int) > 0 by decide, if_true]
      by_cases h : i < 0
      · simp only [h, if_true] <;> omega
      · simp only [h, if_false] <;> omega
theorem slicePick_cut (its : List Value) (lo hi : Option Int) : slicePick its.toArray lo hi none = ((its.drop (HT.sIx its.length 0 lo)).take (HT.sIx its.length its.length hi - HT.sIx its.length 0 lo)).toArray := by
  obtain ⟨h1, h2, h3⟩ := slice_bounds lo hi its.toArray.size
  unfold slicePick
  rw [h1, h2, h3]
  simp only [sliceRange_one, pick_run, List.size_toArray] <;> rfl
def rSlL (K : PySem.W.Frag) : V → Option Int → Option Int → Hp → VK → Prop := fun x lo hi H Q => ∃ a xs, x = .ref a ∧ SqL K H a xs ∧ ∀ p, H p = none → Q (.ref p) (upd H p (.lst (cutV xs lo hi)))
theorem sl_list : SlR X (rSlL X.K) := by
  intro pins s σ H x v vl vu lo hi sl Q I rx hs pl pu h
  obtain ⟨a, xs, rfl, hx, q⟩ := h
  cases rx
  obtain ⟨its, r, ht, hz⟩ := I.list hx
  have hlen := r.length
  refine ⟨"list", _, slot_list_getitem.lookup, ht.isList.typeIs, ?_⟩
  refine wpAny_getItem_list_slice ht.isList hs pl pu .none (by simp) ?_ (by rw [List.size_toArray] <;> omega)
  rw [slicePick_cut, ← hlen]
  refine ⟨.ref s.heap.objs.size, _, I.laid (t' := s.toks) (o := .lst (cutV xs lo hi)) (fun b ob q => Heap.get?_push_of_some _ q) (Nat.le_refl _) ?_, rfl, q _ (I.hok.fresh (Nat.le_refl _))⟩
  exact ⟨Nat.le_trans (cutV_length xs lo hi) hz, _, 0, (r.drop (HT.sIx xs.length 0 lo)).take (HT.sIx xs.length xs.length hi - HT.sIx xs.length 0 lo), Heap.get?_push_size _ rfl⟩
def flatV : V → Bool
  | .non => true
  | .bl _ => true
  | .int _ => true
  | .str _ => true
  | _ => false
def eqV : V → V → Bool
  | .non, .non => true
  | .bl a, .bl b => a == b
  | .bl a, .int b => (if a then 1 else 0) == b
  | .int a, .bl b => a == (if b then 1 else 0)
  | .int a, .int b => a == b
  | .str a, .str b => a == b
  | _, _ => false
theorem eqAt_V {A : Around} {s : Shared} {y x : V} {u v : Value} (ry : RelV y u) (rx : RelV x v) (fy : flatV y = true) (fx : flatV x = true) : SeqAt.EqAt A s u v (eqV y x) := by
  cases y with
  | non =>
    cases ry
    cases x with
    | non => cases rx; exact SeqAt.EqAt.same _
    | bl b => cases rx; exact SeqAt.EqAt.none_bool b
    | int b => obtain ⟨t, rfl⟩ := rx; exact SeqAt.EqAt.none_int b t
    | str b => obtain ⟨t, rfl⟩ := rx; exact SeqAt.EqAt.none_str b t
    | _ => exact absurd (show false = true from fx) Bool.false_ne_true
  | bl a =>
    cases ry
    cases x with
    | non => cases rx; exact SeqAt.EqAt.bool_none a
    | bl b => cases rx; exact SeqAt.EqAt.bool_bool a b
    | int b => obtain ⟨t, rfl⟩ := rx; exact SeqAt.EqAt.bool_int a b t
    | str b => obtain ⟨t, rfl⟩ := rx; exact SeqAt.EqAt.bool_str a b t
    | _ => exact absurd (show false = true from fx) Bool.false_ne_true
  | int a =>
    obtain ⟨t', rfl⟩ := ry
    cases x with
    | non => cases rx; exact SeqAt.EqAt.int_none a t'
    | bl b => cases rx; exact SeqAt.EqAt.int_bool a t' b
    | int b => obtain ⟨t, rfl⟩ := rx; exact SeqAt.EqAt.int_int a t' b t
    | str b => obtain ⟨t, rfl⟩ := rx; exact SeqAt.EqAt.int_str a t' b t
    | _ => exact absurd (show false = true from fx) Bool.false_ne_true
  | str a =>
    obtain ⟨t', rfl⟩ := ry
    cases x with
    | non => cases rx; exact SeqAt.EqAt.str_none a t'
    | bl b => cases rx; exact SeqAt.EqAt.str_bool a t' b
    | int b => obtain ⟨t, rfl⟩ := rx; exact SeqAt.EqAt.str_int a t' b t
    | str b => obtain ⟨t, rfl⟩ := rx; exact SeqAt.EqAt.str_str a t' b t
    | _ => exact absurd (show false = true from fx) Bool.false_ne_true
  | _ => exact absurd (show false = true from fy) Bool.false_ne_true
def eqU (x : V) (u : Value) : Bool := match u with
  | .none => eqV .non x
  | .bool b => eqV (.bl b) x
  | .int i _ => eqV (.int i) x
  | .str z _ => eqV (.str z) x
  | _ => false
theorem eqU_of {x y : V} {u : Value} (r : RelV y u) (f : flatV y = true) : eqU x u = eqV y x := by
  cases y with
  | non => cases r; rfl
  | bl b => cases r; rfl
  | int i => obtain ⟨t, rfl⟩ := r; rfl
  | str z => obtain ⟨t, rfl⟩ := r; rfl
  | _ => exact absurd (show false = true from f) Bool.false_ne_true
theorem any_eqU {x : V} : ∀ {xs : List V} {us : List Value}, Vals xs us → xs.all flatV = true → us.any (eqU x) = xs.any fun y => eqV y x
  | _, _, .nil, _ => rfl
  | y :: xs, u :: us, .cons r t, f => by
    rw [List.all_cons, Bool.and_eq_true] at f
    rw [List.any_cons, List.any_cons, eqU_of r f.1, any_eqU t f.2]
theorem mem_eqAt {A : Around} {s : Shared} {x : V} {v : Value} (rx : RelV x v) (fx : flatV x = true) : ∀ {xs : List V} {us : List Value}, Vals xs us → xs.all flatV = true → ∀ u ∈ us, SeqAt.EqAt A s u v (eqU x u)
  | _, _, .nil, _ => fun u hu => by cases hu
  | y :: xs, u :: us, .cons r t, f => fun u' hu => by
    rw [List.all_cons, Bool.and_eq_true] at f
    rcases List.mem_cons.mp hu with rfl | hu
    · rw [eqU_of r f.1]; exact eqAt_V r rx f.1 fx
    · exact mem_eqAt rx fx t f.2 u' hu
def inV (x : V) (xs : List V) : Bool := xs.any fun y => eqV y x
def rIn (K : PySem.W.Frag) (neg : Bool) : R2 := fun x y H Q => ∃ p xs, y = .ref p ∧ (SqL K H p xs ∨ SqT K H p xs) ∧ flatV x = true ∧ xs.all flatV = true ∧ Q (.bl (if neg then !inV x xs else inV x xs)) H
theorem op_in_seq : OpR X (compareOp .In) (rIn X.K false) := by
  intro pins s σ H x y v u Q I rx ry h
  obtain ⟨p, xs, rfl, hq, fx, fs, q⟩ := h
  cases ry
  rcases hq with hq | hq
  · obtain ⟨its, r, pl, hz⟩ := I.list hq
    refine SeqAt.in_listAt (eqU x) pl.isList (fun w hw => mem_eqAt rx fx r fs w (by simpa using hw)) ⟨.bl _, H, I, rfl, ?_⟩
    rw [show its.toArray.any (eqU x) = its.any (eqU x) by simp, any_eqU r fs]
    exact q
  · obtain ⟨its, r, pl, hz⟩ := I.tuple hq
    refine SeqAt.in_tupleAt (eqU x) pl (fun w hw => mem_eqAt rx fx r fs w (by simpa using hw)) ⟨.bl _, H, I, rfl, ?_⟩
    rw [show its.toArray.any (eqU x) = its.any (eqU x) by simp, any_eqU r fs]
    exact q
theorem call_len_seq : CallR X (.builtin "len") (fun xs H Q => ∃ p ys, xs = [.ref p] ∧ (SqL X.K H p ys ∨ SqT X.K H p ys) ∧ Q (.int ys.length) H) := by
  intro pins s σ H xs us Q I r h
  obtain ⟨p, ys, rfl, hq, q⟩ := h
  obtain ⟨u, rfl, rx⟩ := vals1 r
  cases rx
  have hn := line63
  rcases hq with hq | hq
  · obtain ⟨its, r', pl, hz⟩ := I.list hq
    have hlen := r'.length
    exact Calls.call_len_list pl.isList (by simp only [List.size_toArray] <;> omega) ⟨.int ys.length, H, I.tok _, ⟨s.toks + 1, by rw [List.size_toArray, hlen]⟩, q⟩
  · obtain ⟨its, r', pl, hz⟩ := I.tuple hq
    have hlen := r'.length
    exact len_tuple pl (by simp only [List.size_toArray] <;> omega) ⟨.int ys.length, H, I.tok _, ⟨s.toks + 1, by rw [List.size_toArray, hlen]⟩, q⟩
theorem call_len_str : CallR X (.builtin "len") (fun xs H Q => ∃ z, xs = [.str z] ∧ z.length ≤ sizeLine ∧ Q (.int z.length) H) := by
  intro pins s σ H xs us Q I r h
  obtain ⟨z, rfl, hz, q⟩ := h
  obtain ⟨u, rfl, t, rfl⟩ := vals1 r
  have hn := line63
  exact len_str (by omega) ⟨.int z.length, H, I.tok _, ⟨_, rfl⟩, q⟩
theorem CallR.or {f : Value} {r r' : List V → Hp → VK → Prop} (h : CallR X f r) (h' : CallR X f r') : CallR X f (fun xs H Q => r xs H Q ∨ r' xs H Q) := by
  intro pins s σ H xs us Q I rs q
  rcases q with q | q
  · exact h pins s σ H xs us Q I rs q
  · exact h' pins s σ H xs us Q I rs q
theorem call_tuple_of : CallR X (.type "tuple") (fun xs H Q => ∃ p ys, xs = [.ref p] ∧ ((SqL X.K H p ys ∧ ∀ l, H l = none → Q (.ref l) (upd H l (.tup ys))) ∨ (SqT X.K H p ys ∧ Q (.ref p) H))) := by
  intro pins s σ H xs us Q I r h
  obtain ⟨p, ys, rfl, h⟩ := h
  obtain ⟨u, rfl, rx⟩ := vals1 r
  cases rx
  rcases h with ⟨hq, q⟩ | ⟨hq, q⟩
  · obtain ⟨its, r', pl, hz⟩ := I.list hq
    have hlen := r'.length
    refine call_tuple_list pl.isList (fun h' kp => ?_) (by simp only [List.size_toArray] <;> omega)
    have I1 : Inv X pins σ H { s with heap := h' } := I.kept (t' := s.toks) kp
    have I2 : Inv X pins σ (upd H h'.objs.size (.tup ys)) { s with heap := h'.push { cls := .type "tuple", data := .seq its.toArray } } :=
      I1.laid (t' := s.toks) (fun b o e => Heap.get?_push_of_some _ e) (Nat.le_refl _) (show ObjOk X.prog X.w _ _ _ (.tup ys) from ⟨hz, its, r', IsTupN.new _ _⟩)
    exact ⟨.ref h'.objs.size, _, I2, rfl, q _ (I1.hok.fresh (Nat.le_refl _))⟩
  · obtain ⟨its, r', pl, hz⟩ := I.tuple hq
    exact call_tuple_same pl ⟨.ref p, H, I, rfl, q⟩
def tyV (K : PySem.W.Frag) (T : String) (x : V) (H : Hp) : Prop := match x with
  | .str _ => T = "str"
  | .int _ => T = "int"
  | .ref p => (T = "list" ∧ ∃ xs, SqL K H p xs) ∨ (T = "tuple" ∧ ∃ o, K.lookup p = some o ∧ o.cls = .type "tuple" ∧ o.dict = none) ∨
      (T = "dict" ∧ ((∃ kvs, H p = some (.dK kvs)) ∨ ∃ kvs, H p = some (.dT kvs))) ∨ (T = "set" ∧ ∃ S n, H p = some (.set S n))
  | _ => False
theorem tyV_is {pins : List (Addr × Obj)} {σ : St} {H : Hp} {s : Shared} {T : String} {x : V} {v : Value} (I : Inv X pins σ H s) (r : RelV x v) (ty : tyV X.K T x H) :
    s.TypeIs v T ∧ ∀ a, v = .ref a → ∃ ob, s.heap.get? a = some ob ∧ ob.dict = none := by
  cases x with
  | str z =>
    obtain ⟨t, rfl⟩ := r
    cases (show T = "str" from ty)
    exact ⟨typeIs_str s z t, fun _ e => nomatch e⟩
  | int i =>
    obtain ⟨t, rfl⟩ := r
    cases (show T = "int" from ty)
    exact ⟨typeIs_int s i t, fun _ e => nomatch e⟩
  | ref p =>
    cases r
    rcases ty with ⟨rfl, xs, hq⟩ | ⟨rfl, o, hk, hc, hd⟩ | ⟨rfl, hk⟩ | ⟨rfl, S, n, hk⟩
    · obtain ⟨its, _, pl, _⟩ := I.list hq
      refine ⟨pl.isList.typeIs, fun a e => ?_⟩
      cases e
      obtain ⟨o, n, e, c, hd, _⟩ := pl
      exact ⟨o, e, hd⟩
    · refine ⟨⟨o, I.kIn p o hk, hc⟩, fun a e => ?_⟩
      cases e
      exact ⟨o, I.kIn _ o hk, hd⟩
    · have z : ∃ o, s.heap.get? p = some o ∧ o.ExactDict := by
        rcases hk with ⟨kvs, hk⟩ | ⟨kvs, hk⟩
        · obtain ⟨_, _, _, _, o, _, _, e, ex, _⟩ := I.hok p _ hk
          exact ⟨o, e, ex⟩
        · obtain ⟨_, _, _, _, o, _, _, e, ex, _⟩ := I.hok p _ hk
          exact ⟨o, e, ex⟩
      obtain ⟨o, e, ex⟩ := z
      refine ⟨⟨o, e, ex.1⟩, fun a e2 => ?_⟩
      cases e2
      exact ⟨o, e, ex.2.1⟩
    · obtain ⟨o, _, _, _, e, ex, _⟩ := I.hok p _ hk
      refine ⟨⟨o, e, ex.1⟩, fun a e2 => ?_⟩
      cases e2
      exact ⟨o, e, ex.2.1⟩
  | _ => exact False.elim ty
def tBM0 (K : PySem.W.Frag) (T : String) (r : V → List V → Hp → VK → Prop) (to : TE) : TE := fun σ H Q => to σ H fun x H1 => tyV K T x H1 ∧ r x [] H1 Q
def tBM (K : PySem.W.Frag) (T : String) (r : V → List V → Hp → VK → Prop) (to : TE) (t : TA) : TE := fun σ H Q => to σ H fun x H1 => tyV K T x H1 ∧ t σ H1 fun xs H2 => r x xs H2 Q
variable {o e : Expr} {es : List Expr} {to : TE} {t : TA} {name : Str} {apos cpos : Pos} {T id : String} {r : V → List V → Hp → VK → Prop}
theorem pe_bm (pa : PlainAttrs T) (slot : Slot T name id) (hty : typeOf (.builtin id) = pure (.type "method_descriptor")) (hm : MtR X id r) (ho : PE X o to) (ha : PA X (e :: es) t)
    (hbase : attributeBase o name X.env (eval o X.env) = eval o X.env := by rfl)
    (hfew : ((backTo cpos (starEach (e :: es) X.env)).all (fun x => !x.1) && (backToKw cpos (keywordEach [] X.env)).all (fun x => x.1.isSome)
      && decide ((e :: es).length + ([] : List Keyword).length + (if ([] : List Keyword).isEmpty then 0 else 1) < 30)) = true := by rfl)
    (hline : (apos.endLine == cpos.line) = true := by rfl) (hs : starEach (e :: es) X.env = (false, eval e X.env) :: starEach es X.env := by rfl) (hplain : (backTo cpos (starEach es X.env)).any (·.1) = false := by rfl) :
    PE X (.Call (.Attribute o name apos) (e :: es) [] cpos) (tBM X.K T r to t) := by
  intro pins s σ H Q I h
  refine wpAny_Call_method_late hbase hfew hline rfl (thn (ho pins s σ H _ I h) fun v s1 ⟨x, H1, I1, r1, ty, q1⟩ => ?_)
  obtain ⟨h1, h2⟩ := tyV_is I1 r1 ty
  refine ⟨T, id, pa, slot, hty, h1, h2, ?_⟩
  have hA := ha cpos pins s1 σ H1 _ I1 q1
  rw [hs] at hA ⊢
  refine Calls.callWith_builtin (by show (false || (backTo cpos (starEach es X.env)).any (·.1)) = false; rw [hplain] <;> rfl) (Calls.evalArgs_plain ?_)
  exact thn hA fun us s2 ⟨vs, H2, I2, r2, q2⟩ => hm pins s2 σ H2 x vs v us Q I2 r1 r2 q2
end
end L2
namespace L2
open PySem PySem.Spec PyProof.Rows
def MtM (X : Cx) (id : String) (r : V → List V → Hp → VK → Prop) : Prop :=
  ∀ (pins : List (Addr × Obj)) (s : Shared) (σ : St) (H : Hp) (x : V) (xs : List V) (v : Value) (us : List Value) (Q : VK), Inv X pins σ H s → RelV x v → Vals xs us → r x xs H Q →
    wpAny (model X.prog X.w) X.A (call (.builtin id) (v :: us)) (EP X pins σ Q) X.xe s
theorem Vals.one : ∀ {x : V} {us : List Value}, Vals [x] us → ∃ u, us = [u] ∧ RelV x u
  | _, _, .cons r .nil => ⟨_, rfl, r⟩
section
variable {X : Cx} {pins : List (Addr × Obj)} {σ : St} {H : Hp} {s : Shared} {l b : Addr} {xs ys zs : List V}
theorem Inv.lset {its its' : List Value} {n : Nat} {f : Array Value → Array Value} {t' : Nat} (I : Inv X pins σ H s) (hH : H l = some (.lst xs))
    (e : s.heap.get? l = some { cls := .type "list", data := .seq its.toArray n }) (hf : f its.toArray = its'.toArray) (hv : Vals ys its') (hz : ys.length ≤ sizeLine) :
    Inv X pins σ (upd H l (.lst ys)) { s with heap := s.heap.update l (Obj.mapSeq f), toks := t' } := by
  have q := PySem.IsL.update e f
  rw [hf] at q
  refine I.write (x := l) (e := l) (by rw [hH]; exact trivial) (.inl rfl) (fun b' u hb hu => (Heap.get?_update_other s.heap (Obj.mapSeq f) (Ne.symm hb)).trans hu) ⟨_, q⟩ ?_
  exact ⟨hz, its', _, hv, q⟩
theorem Inv.lnew {its : List Value} {t' : Nat} (I : Inv X pins σ H s) (hv : Vals ys its) (hz : ys.length ≤ sizeLine) :
    Inv X pins σ (upd H s.heap.objs.size (.lst ys)) { s with heap := s.heap.push { cls := .type "list", data := .seq its.toArray }, toks := t' } :=
  I.laid (fun _ _ q => Heap.get?_push_of_some _ q) (Nat.le_refl _) ⟨hz, its, 0, hv, Heap.get?_push_size _ rfl⟩
theorem Inv.fresh (I : Inv X pins σ H s) : H s.heap.objs.size = none := I.hok.fresh (Nat.le_refl _)
theorem Inv.lstM (I : Inv X pins σ H s) (hH : H l = some (.lst xs)) : xs.length ≤ sizeLine ∧ ∃ (its : List Value) (n : Nat), Vals xs its ∧ xs.length = its.length ∧ s.heap.get? l = some { cls := .type "list", data := .seq its.toArray n } := by
  obtain ⟨z, its, n, r, e⟩ := I.hok l _ hH
  exact ⟨z, its, n, r, r.length, e⟩
theorem notLongL {n : Nat} (h : n ≤ sizeLine) : Builtin.List.listTooLong n = false := by
  unfold Builtin.List.listTooLong
  exact decide_eq_false (by omega)
end
section
variable {X : Cx}
def rAppend : V → List V → Hp → VK → Prop := fun x vs H Q => ∃ l xs y, x = .ref l ∧ vs = [y] ∧ H l = some (.lst xs) ∧ xs.length < sizeLine ∧ Q .non (upd H l (.lst (xs ++ [y])))
theorem mt_append : MtM X "list.append" rAppend := by
  intro pins s σ H x vs v us Q I rx rv h
  obtain ⟨l, xs, y, rfl, rfl, hH, hz, q⟩ := h
  cases rx
  obtain ⟨u, rfl, ru⟩ := rv.one
  obtain ⟨z, its, n, r, hl, e⟩ := I.lstM hH
  refine call_meets F.slot_list_append ⟨_, e, rfl⟩ F.entry_list_append (F.args_list_append_2 _ _) (PySem.list_append l its.toArray n u (by rw [List.size_toArray]; omega)) ⟨e, ?_⟩
  refine ⟨.non, _, I.lset (its' := its ++ [u]) hH e (by simp) (r.append (.cons ru .nil)) ?_, rfl, q⟩
  rw [List.length_append, List.length_singleton]
  omega
def rExtend : V → List V → Hp → VK → Prop := fun x vs H Q => ∃ l b xs zs, x = .ref l ∧ vs = [.ref b] ∧ H l = some (.lst xs) ∧ H b = some (.lst zs) ∧ xs.length + zs.length ≤ sizeLine ∧ Q .non (upd H l (.lst (xs ++ zs)))
theorem mt_extend : MtM X "list.extend" rExtend := by
  intro pins s σ H x vs v us Q I rx rv h
  obtain ⟨l, b, xs, zs, rfl, rfl, hH, hB, hz, q⟩ := h
  cases rx
  obtain ⟨u, rfl, ru⟩ := rv.one
  cases ru
  obtain ⟨z, its, n, r, hl, e⟩ := I.lstM hH
  obtain ⟨z2, its2, n2, r2, hl2, e2⟩ := I.lstM hB
  have hsz : its.toArray.size + its2.toArray.size ≤ sizeLine := by rw [List.size_toArray, List.size_toArray]; omega
  have hlong : ¬ (!its.toArray.isEmpty && Builtin.List.listTooLong (its.toArray.size + its2.toArray.size)) = true := by
    rw [notLongL hsz, Bool.and_false]
    exact Bool.false_ne_true
  refine call_meets F.slot_list_extend ⟨_, e, rfl⟩ F.entry_list_extend (F.args_list_extend_2 _ _)
    (AutoSeq1.list_extend_list_list_0 l its.toArray n b its2.toArray n2 hlong (by rw [List.size_toArray]; omega) (by omega)) ⟨e, e2, ?_⟩
  refine ⟨.non, _, I.lset (its' := its ++ its2) hH e (by simp) (r.append r2) ?_, rfl, q⟩
  rw [List.length_append]
  omega
def rPop : V → List V → Hp → VK → Prop := fun x vs H Q => ∃ l xs y, x = .ref l ∧ vs = [] ∧ H l = some (.lst xs) ∧ xs[xs.length - 1]? = some y ∧ Q y (upd H l (.lst xs.dropLast))
def rPopAt : V → List V → Hp → VK → Prop := fun x vs H Q => ∃ l xs i k y, x = .ref l ∧ vs = [.int i] ∧ H l = some (.lst xs) ∧ -(2 ^ 63) ≤ i ∧ i < 2 ^ 63 ∧ seqIndex? i xs.length = some k ∧ xs[k]? = some y ∧ Q y (upd H l (.lst (xs.eraseIdx k)))
def rReverse : V → List V → Hp → VK → Prop := fun x vs H Q => ∃ l xs, x = .ref l ∧ vs = [] ∧ H l = some (.lst xs) ∧ Q .non (upd H l (.lst xs.reverse))
def rClear : V → List V → Hp → VK → Prop := fun x vs H Q => ∃ l xs, x = .ref l ∧ vs = [] ∧ H l = some (.lst xs) ∧ Q .non (upd H l (.lst []))
def rCat : R2 := fun x y H Q => ∃ l b xs zs, x = .ref l ∧ y = .ref b ∧ H l = some (.lst xs) ∧ H b = some (.lst zs) ∧ xs.length + zs.length ≤ sizeLine ∧ ∀ p, H p = none → Q (.ref p) (upd H p (.lst (xs ++ zs)))
theorem op_cat : OpR X (binaryOp .Add) rCat := by
  intro pins s σ H x y v u Q I rx ry h
  obtain ⟨l, b, xs, zs, rfl, rfl, hH, hB, hz, q⟩ := h
  cases rx
  cases ry
  obtain ⟨z, its, n, r, hl, e⟩ := I.lstM hH
  obtain ⟨z2, its2, n2, r2, hl2, e2⟩ := I.lstM hB
  refine PySem.P.add_list e e2 ?_ (by rw [List.size_toArray, List.size_toArray]; omega)
  have ea : its.toArray ++ its2.toArray = (its ++ its2).toArray := by simp
  rw [ea]
  exact ⟨.ref _, _, I.lnew (t' := s.toks) (r.append r2) (by rw [List.length_append]; omega), rfl, q _ I.fresh⟩
def rRep : R2 := fun x y H Q => ∃ l k xs, x = .ref l ∧ y = .int k ∧ H l = some (.lst xs) ∧ -(2 ^ 63) ≤ k ∧ k < 2 ^ 63 ∧ xs.length * k.toNat ≤ sizeLine ∧
  ∀ p, H p = none → Q (.ref p) (upd H p (.lst (List.replicate k.toNat xs).flatten))
end
section
variable {prog : Program} {w : World} {A : Around} {E : Value → Shared → Prop} {s : Shared}
set_option maxRecDepth 100000 in
end
section
variable {X : Cx}
end
end L2
namespace L2
open PySem PySem.Spec PyProof.Rows
section
variable {κ : Type} [DecidableEq κ]
def valV (kvs : List (κ × V)) (k : κ) : Option V := (kvs.find? fun kv => decide (kv.1 = k)).map (·.2)
def putK (kvs : List (κ × V)) (k : κ) (v : V) : List (κ × V) :=
  if (kvs.any fun kv => decide (kv.1 = k)) = true then kvs.map (fun kv => if kv.1 = k then (kv.1, v) else kv) else kvs ++ [(k, v)]
def dropK (kvs : List (κ × V)) (k : κ) : List (κ × V) := kvs.filter fun kv => decide (kv.1 ≠ k)
theorem valV_pos {p : κ × V} {r : List (κ × V)} {k : κ} (e : p.1 = k) : valV (p :: r) k = some p.2 := by simp [valV, List.find?_cons, e]
theorem valV_neg {p : κ × V} {r : List (κ × V)} {k : κ} (e : ¬ p.1 = k) : valV (p :: r) k = valV r k := by simp [valV, List.find?_cons, e]
theorem valV_any (k : κ) : ∀ kvs : List (κ × V), (kvs.any fun kv => decide (kv.1 = k)) = (valV kvs k).isSome
  | [] => rfl
  | p :: r => by
    rw [List.any_cons]
    by_cases e : p.1 = k
    · simp only [valV_pos e, decide_eq_true e, Bool.true_or, Option.isSome_some]
    · rw [valV_neg e, decide_eq_false e, Bool.false_or]; exact valV_any k r
theorem valV_map (k j : κ) (y : V) : ∀ kvs : List (κ × V), valV (kvs.map fun kv => if kv.1 = k then (kv.1, y) else kv) j = (valV kvs j).map fun x => if j = k then y else x
  | [] => rfl
  | p :: r => by
    have ih := valV_map k j y r
    rw [List.map_cons]
    by_cases h : p.1 = k
    · rw [if_pos h]
      by_cases e : p.1 = j
      · rw [valV_pos (p := (p.1, y)) e, valV_pos e, Option.map_some, if_pos (e.symm.trans h)]
      · rw [valV_neg (p := (p.1, y)) e, valV_neg e, ih]
    · rw [if_neg h]
      by_cases e : p.1 = j
      · rw [valV_pos (p := p) e, valV_pos e, Option.map_some, if_neg (fun z => h (e.trans z))]
      · rw [valV_neg (p := p) e, valV_neg e, ih]
theorem valV_snoc (k j : κ) (y : V) : ∀ kvs : List (κ × V), valV kvs k = none → valV (kvs ++ [(k, y)]) j = if j = k then some y else valV kvs j
  | [], _ => by
    by_cases e : k = j
    · rw [if_pos e.symm]; exact valV_pos (p := (k, y)) e
    · rw [if_neg (fun z => e z.symm)]; exact valV_neg (p := (k, y)) e
  | p :: r, hn => by
    rw [List.cons_append]
    have hk : ¬ p.1 = k := fun z => by rw [valV_pos z] at hn; cases hn
    rw [valV_neg hk] at hn
    have ih := valV_snoc k j y r hn
    by_cases e : p.1 = j
    · rw [valV_pos e, valV_pos e, if_neg (fun z => hk (e.trans z))]
    · rw [valV_neg e, valV_neg e, ih]
theorem valV_put (kvs : List (κ × V)) (k j : κ) (y : V) : valV (putK kvs k y) j = if j = k then some y else valV kvs j := by
  unfold putK
  by_cases a : (kvs.any fun kv => decide (kv.1 = k)) = true
  · rw [if_pos a, valV_map]
    rw [valV_any] at a
    by_cases e : j = k
    · obtain ⟨x, hx⟩ := Option.isSome_iff_exists.mp a
      rw [if_pos e, e, hx, Option.map_some, if_pos rfl]
    · rw [if_neg e]
      cases valV kvs j with
      | none => rfl
      | some x => rw [Option.map_some, if_neg e]
  · rw [if_neg a]
    refine valV_snoc k j y kvs ?_
    rw [valV_any] at a
    cases q : valV kvs k with
    | none => rfl
    | some x => rw [q] at a; exact (a rfl).elim
theorem length_putK (kvs : List (κ × V)) (k : κ) (v : V) : (putK kvs k v).length ≤ kvs.length + 1 := by
  unfold putK
  split
  · rw [List.length_map]; omega
  · rw [List.length_append, List.length_cons, List.length_nil]; omega
theorem RelO.isSome_eq {o : Option V} {u : Option Value} (r : RelO o u) : o.isSome = u.isSome := by
  cases o with
  | none => cases u with
    | none => rfl
    | some _ => exact (show False from r).elim
  | some _ => cases u with
    | none => exact (show False from r).elim
    | some _ => rfl
theorem RelO.getD {o : Option V} {u : Option Value} {d : V} {d' : Value} (r : RelO o u) (rd : RelV d d') : RelV (o.getD d) (u.getD d') := by
  cases o with
  | none => cases u with
    | none => exact rd
    | some _ => exact (show False from r).elim
  | some _ => cases u with
    | none => exact (show False from r).elim
    | some _ => exact r
theorem KV.val {kvs : List (κ × V)} {vs : List (κ × Value)} (r : KV kvs vs) (k : κ) : RelO (valV kvs k) (valueAt vs k) := by
  unfold KV at r
  induction r with
  | nil => exact True.intro
  | @cons p q ps qs h t ih =>
    obtain ⟨h1, h2⟩ := h
    by_cases e : p.1 = k
    · have e' : q.1 = k := h1.symm.trans e
      have b : valueAt (q :: qs) k = some q.2 := by simp [valueAt, List.find?_cons, e']
      rw [valV_pos e, b]; exact h2
    · have e' : ¬ q.1 = k := fun z => e (h1.trans z)
      have b : valueAt (q :: qs) k = valueAt qs k := by simp [valueAt, List.find?_cons, e']
      rw [valV_neg e, b]; exact ih
theorem KV.any {kvs : List (κ × V)} {vs : List (κ × Value)} (r : KV kvs vs) (k : κ) : (kvs.any fun kv => decide (kv.1 = k)) = vs.any fun kv => decide (kv.1 = k) := by
  unfold KV at r
  induction r with
  | nil => rfl
  | cons h t ih => rw [List.any_cons, List.any_cons, ih, h.1]
theorem KV.repl {kvs : List (κ × V)} {vs : List (κ × Value)} (r : KV kvs vs) (k : κ) {y : V} {u : Value} (ry : RelV y u) :
    KV (kvs.map fun kv => if kv.1 = k then (kv.1, y) else kv) (vs.map fun kv => if kv.1 = k then (kv.1, u) else kv) := by
  unfold KV at r ⊢
  induction r with
  | nil => exact .nil
  | @cons p q ps qs h t ih =>
    rw [List.map_cons, List.map_cons]
    refine .cons ?_ ih
    obtain ⟨h1, h2⟩ := h
    by_cases e : p.1 = k
    · rw [if_pos e, if_pos (h1.symm.trans e)]; exact ⟨h1, ry⟩
    · rw [if_neg e, if_neg (fun z => e (h1.trans z))]; exact ⟨h1, h2⟩
theorem KV.put {kvs : List (κ × V)} {vs : List (κ × Value)} (r : KV kvs vs) (k : κ) {y : V} {u : Value} (ry : RelV y u) : KV (putK kvs k y) (stored vs k u) := by
  unfold putK stored
  rw [r.any k]
  by_cases e : (vs.any fun kv => decide (kv.1 = k)) = true
  · rw [if_pos e, if_pos e]; exact r.repl k ry
  · rw [if_neg e, if_neg e]; exact Paired.snoc r ⟨rfl, ry⟩
theorem KV.drop {kvs : List (κ × V)} {vs : List (κ × Value)} (r : KV kvs vs) (k : κ) : KV (dropK kvs k) (without vs k) := by
  unfold KV at r ⊢
  unfold dropK without
  induction r with
  | nil => exact .nil
  | @cons p q ps qs h t ih =>
    obtain ⟨h1, h2⟩ := h
    rw [List.filter_cons, List.filter_cons]
    by_cases e : p.1 = k
    · have a : ¬ decide (p.1 ≠ k) = true := by simp [e]
      have b : ¬ decide (q.1 ≠ k) = true := by simp [h1.symm.trans e]
      rw [if_neg a, if_neg b]; exact ih
    · have e' : ¬ q.1 = k := fun z => e (h1.trans z)
      have a : decide (p.1 ≠ k) = true := by simp [e]
      have b : decide (q.1 ≠ k) = true := by simp [e']
      rw [if_pos a, if_pos b]; exact .cons ⟨h1, h2⟩ ih
theorem KV.keys {kvs : List (κ × V)} {vs : List (κ × Value)} (r : KV kvs vs) : kvs.map (·.1) = vs.map (·.1) := by
  unfold KV at r
  induction r with
  | nil => rfl
  | cons h t ih => rw [List.map_cons, List.map_cons, ih, h.1]
theorem KV.length {kvs : List (κ × V)} {vs : List (κ × Value)} (r : KV kvs vs) : kvs.length = vs.length := Paired.length r
theorem dropK_le (kvs : List (κ × V)) (k : κ) : (dropK kvs k).length ≤ kvs.length := List.length_filter_le _ _
end
theorem kV_is {P : Program} {w : World} {k : Key} {u : Value} (r : RelV (kV k) u) : (mixKind P w).is k u = true := by
  cases k with
  | inl i => obtain ⟨t, e⟩ := (show ∃ t, u = Value.int i t from r); subst e; exact mixKind_int P w i t
  | inr x => obtain ⟨t, e⟩ := (show ∃ t, u = Value.str x t from r); subst e; exact mixKind_str P w x t
theorem items_are {P : Program} {w : World} : ∀ {ks : List Key} {us : List Value}, Vals (ks.map kV) us → ItemsAre (mixKind P w) ks us
  | [], _, r => by rw [List.map_nil] at r; cases r; exact .nil
  | k :: ks, _, r => by
    rw [List.map_cons] at r
    cases r with
    | cons h t => exact .cons (kV_is h) (items_are t)
abbrev KT (H : Hp) : List (List Key × V) → List (List Key × Addr × Value) → Prop := Paired fun p q => p.1 = q.1 ∧ H q.2.1 = some (.tup (p.1.map kV)) ∧ RelV p.2 q.2.2
theorem KT.val {H : Hp} {kvs : List (List Key × V)} {xs : List (List Key × Addr × Value)} (r : KT H kvs xs) (k : List Key) : RelO (valV kvs k) ((atKey xs k).map (·.2)) := by
  induction r with
  | nil => exact True.intro
  | @cons p q ps qs h t ih =>
    obtain ⟨h1, _, h2⟩ := h
    by_cases e : p.1 = k
    · have e' : q.1 = k := h1.symm.trans e
      have b : atKey (q :: qs) k = some q.2 := by simp [atKey, List.find?_cons, e']
      rw [valV_pos e, b]; exact h2
    · have e' : ¬ q.1 = k := fun z => e (h1.trans z)
      have b : atKey (q :: qs) k = atKey qs k := by simp [atKey, List.find?_cons, e']
      rw [valV_neg e, b]; exact ih
theorem KT.repl {H : Hp} {kvs : List (List Key × V)} {xs : List (List Key × Addr × Value)} (r : KT H kvs xs) (k : List Key) {y : V} {u : Value} (ry : RelV y u) :
    KT H (kvs.map fun kv => if kv.1 = k then (kv.1, y) else kv) (xs.map (putAt k u)) := by
  induction r with
  | nil => exact .nil
  | @cons p q ps qs h t ih =>
    rw [List.map_cons, List.map_cons]
    refine .cons ?_ ih
    obtain ⟨h1, h2, h3⟩ := h
    unfold putAt
    by_cases e : p.1 = k
    · rw [if_pos e, if_pos (h1.symm.trans e)]; exact ⟨h1, h2, ry⟩
    · rw [if_neg e, if_neg (fun z => e (h1.trans z))]; exact ⟨h1, h2, h3⟩
theorem KT.put {H : Hp} {kvs : List (List Key × V)} {xs : List (List Key × Addr × Value)} (r : KT H kvs xs) (k : List Key) {b : Addr} {y : V} {u : Value} (hb : H b = some (.tup (k.map kV))) (ry : RelV y u) :
    KT H (putK kvs k y) (storedH xs k b u) := by
  have e : (kvs.any fun kv => decide (kv.1 = k)) = (atKey xs k).isSome := by
    rw [valV_any, (r.val k).isSome_eq, Option.isSome_map]
  unfold putK storedH
  rw [e]
  by_cases q : (atKey xs k).isSome = true
  · rw [if_pos q, if_pos q]; exact r.repl k ry
  · rw [if_neg q, if_neg q]; exact Paired.snoc r ⟨rfl, hb, ry⟩
theorem KT.keeps {H H' : Hp} {kvs : List (List Key × V)} {xs : List (List Key × Addr × Value)} (r : KT H kvs xs) (ht : ∀ b ys, H b = some (.tup ys) → H' b = some (.tup ys)) : KT H' kvs xs :=
  Paired.mapP r fun _ _ z => ⟨z.1, ht _ _ z.2.1, z.2.2⟩
section
variable {P : Program} {w : World} {H : Hp} {h : Heap} {a : Addr}
theorem rd_of {u : HO} (ok : HOk P w H h) (e : Rd H a u) : ObjOk P w H h a u := e.ok ok
theorem dk_rd {kvs : List (Key × V)} (ok : HOk P w H h) (e : Rd H a (.dK kvs)) : kvs.length ≤ sizeLine ∧ (a == sysModules) = false ∧ ∃ vs, KV kvs vs ∧ h.DictOf (mixKind P w) a vs :=
  show ObjOk P w H h a (.dK kvs) from rd_of ok e
theorem dk_of {kvs : List (Key × V)} (ok : HOk P w H h) (e : H a = some (.dK kvs)) : kvs.length ≤ sizeLine ∧ (a == sysModules) = false ∧ ∃ vs, KV kvs vs ∧ h.DictOf (mixKind P w) a vs := dk_rd ok (.inl e)
theorem key_of {ks : List Key} (ok : HOk P w H h) (e : H a = some (.tup (ks.map kV))) : (tupleKind (mixKind P w)).is h ks a := by
  obtain ⟨_, its, r, ⟨o, h1, h2, n, h3⟩, _⟩ := (show ObjOk P w H h a (.tup (ks.map kV)) from ok a _ e)
  exact ⟨o, its.toArray, n, h1, h2, h3, by simpa using items_are r⟩
theorem dt_rd {kvs : List (List Key × V)} (ok : HOk P w H h) (e : Rd H a (.dT kvs)) : kvs.length ≤ sizeLine ∧ (a == sysModules) = false ∧
    ∃ xs, KT H kvs xs ∧ h.DictOfH (tupleKind (mixKind P w)) a xs := by
  obtain ⟨z, y, xs, r, o, es, ep, h1, h2, h3, h4, h5⟩ := (show ObjOk P w H h a (.dT kvs) from rd_of ok e)
  refine ⟨z, y, xs, r, o, es, ep, h1, h2, h3, h4, fun x hx => ?_, h5⟩
  have all : ∀ {l : List (List Key × V)} {m : List (List Key × Addr × Value)}, KT H l m → ∀ x ∈ m, (tupleKind (mixKind P w)).is h x.1 x.2.1 := by
    intro l m q
    induction q with
    | nil => intro x hx; exact nomatch hx
    | @cons p q ps qs hq t ih =>
      intro x hx
      rcases List.mem_cons.mp hx with e | hx
      · subst e
        exact key_of ok (by rw [← hq.1]; exact hq.2.1)
      · exact ih x hx
  exact all r x hx
theorem dt_of {kvs : List (List Key × V)} (ok : HOk P w H h) (e : H a = some (.dT kvs)) : kvs.length ≤ sizeLine ∧ (a == sysModules) = false ∧
    ∃ xs, KT H kvs xs ∧ h.DictOfH (tupleKind (mixKind P w)) a xs := dt_rd ok (.inl e)
end
def DGet (H : Hp) (a : Addr) (y : V) (r : Option V) : Prop :=
  (∃ kvs k, Rd H a (.dK kvs) ∧ y = kV k ∧ r = valV kvs k) ∨ ∃ kvs k b, Rd H a (.dT kvs) ∧ y = .ref b ∧ H b = some (.tup (k.map kV)) ∧ r = valV kvs k
def DPut (H : Hp) (a : Addr) (y v : V) (H' : Hp) : Prop :=
  (∃ kvs k, H a = some (.dK kvs) ∧ y = kV k ∧ kvs.length < sizeLine ∧ H' = upd H a (.dK (putK kvs k v))) ∨
  ∃ kvs k b, H a = some (.dT kvs) ∧ y = .ref b ∧ H b = some (.tup (k.map kV)) ∧ kvs.length < sizeLine ∧ H' = upd H a (.dT (putK kvs k v))
theorem DGet.k {H : Hp} {a : Addr} {kvs : List (Key × V)} {k : Key} (e : H a = some (.dK kvs)) : DGet H a (kV k) (valV kvs k) := .inl ⟨kvs, k, .inl e, rfl, rfl⟩
theorem DPut.k {H : Hp} {a : Addr} {kvs : List (Key × V)} {k : Key} {v : V} (e : H a = some (.dK kvs)) (hl : kvs.length < sizeLine) : DPut H a (kV k) v (upd H a (.dK (putK kvs k v))) := .inl ⟨kvs, k, e, rfl, hl, rfl⟩
section
variable {X : Cx} {pins : List (Addr × Obj)} {σ : St} {H : Hp} {s : Shared} {a : Addr} {y v : V} {u r : Value} {o : Option V} {A : Around} {E : Value → Shared → Prop}
theorem Inv.big (I : Inv X pins σ H s) : sysModules < s.heap.objs.size := by
  have h : mainGlobals < s.heap.objs.size := (I.mod.glob.keeps I.bk).lt
  exact Nat.lt_trans (by decide) h
theorem d_getItem {Q : Value → Shared → Prop} (hu : A.units + 1 < cLine) (I : Inv X pins σ H s) (g : DGet H a y (some v)) (ry : RelV y u) (h : ∀ w' s', Inv X pins σ H s' → RelV v w' → Q w' s') :
    wpAny (model X.prog X.w) A (getItem (.ref a) u) Q E s := by
  rcases g with ⟨kvs, k, e, ey, l⟩ | ⟨kvs, k, b, e, ey, eb, l⟩
  · subst ey
    obtain ⟨z, hd, vs, rel, dd⟩ := dk_rd I.hok e
    obtain ⟨w', hw, rw'⟩ := RelO.some_of (v := v) (o := valueAt vs k) (by rw [l]; exact rel.val k)
    exact wpAny_getItem_of (kV_is ry) dd.mapOf hw (h w' _ (I.tok _) rw')
  · subst ey
    cases (show u = Value.ref b from ry)
    obtain ⟨z, hd, xs, rel, dd⟩ := dt_rd I.hok e
    obtain ⟨w', hw, rw'⟩ := RelO.some_of (v := v) (o := (atKey xs k).map (·.2)) (by rw [l]; exact rel.val k)
    obtain ⟨p, hp, hp2⟩ := Option.map_eq_some_iff.mp hw
    refine wpAny_getItem_heap (tupleKind_room_in1 hu) (key_of I.hok eb) dd hp ?_
    rw [hp2]
    exact h w' _ (I.tok _) rw'
theorem d_in {Q : Value → Shared → Prop} (hu : A.units + 1 < cLine) (I : Inv X pins σ H s) (g : DGet H a y o) (ry : RelV y u) (h : ∀ s', Inv X pins σ H s' → Q (.bool o.isSome) s') :
    wpAny (model X.prog X.w) A (compareOp .In u (.ref a)) Q E s := by
  rcases g with ⟨kvs, k, e, ey, l⟩ | ⟨kvs, k, b, e, ey, eb, l⟩
  · subst ey
    obtain ⟨z, hd, vs, rel, dd⟩ := dk_rd I.hok e
    refine wpAny_in_of (kV_is ry) hd dd.mapOf ?_
    rw [← (rel.val k).isSome_eq, ← l]
    exact h _ (I.tok _)
  · subst ey
    cases (show u = Value.ref b from ry)
    obtain ⟨z, hd, xs, rel, dd⟩ := dt_rd I.hok e
    refine wpAny_in_heap (tupleKind_room_in1 hu) (key_of I.hok eb) hd dd ?_
    have q := (rel.val k).isSome_eq
    rw [Option.isSome_map] at q
    rw [← q, ← l]
    exact h _ (I.tok _)
theorem d_write {h' : Heap} {t' : Nat} {ob : HO} (I : Inv X pins σ H s) (mu : Mut (H a)) (hs : Heap.SameBut a s.heap h') (he : ∃ q, h'.get? a = some q) (new : ObjOk X.prog X.w (upd H a ob) h' a ob) :
    Inv X pins σ (upd H a ob) { s with heap := h', toks := t' } :=
  I.write (x := a) (e := a) mu (.inl rfl) (fun b q hb z => (hs.2 b hb).trans z) he new
theorem dk_new {P : Program} {w : World} {H' : Hp} {h' : Heap} {kvs : List (Key × V)} {vs : List (Key × Value)} (z : kvs.length ≤ sizeLine) (hd : (a == sysModules) = false) (rel : KV kvs vs) (dd : h'.DictOf (mixKind P w) a vs) :
    ObjOk P w H' h' a (.dK kvs) := ⟨z, hd, vs, rel, dd⟩
theorem d_setItem {H' : Hp} {Q : Unit → Shared → Prop} (hu : A.units + 1 < cLine) (I : Inv X pins σ H s) (g : DPut H a y v H') (ry : RelV y u) (rv : RelV v r) (h : ∀ s', Inv X pins σ H' s' → Q () s') :
    wpAny (model X.prog X.w) A (setItem (.ref a) u r) Q E s := by
  rcases g with ⟨kvs, k, e, ey, l, eH⟩ | ⟨kvs, k, b, e, ey, eb, l, eH⟩
  · subst ey eH
    obtain ⟨z, hd, vs, rel, dd⟩ := dk_of I.hok e
    have hz : vs.length ≤ sizeLine := by rw [← rel.length]; exact z
    have hl : (putK kvs k v).length ≤ sizeLine := by have := length_putK kvs k v; omega
    refine wpAny_setItem_pairs (hsz := hz) (kV_is ry) dd fun h' dd' hs => h _ ?_
    have he : ∃ q, h'.get? a = some q := let ⟨q, _, _, hq, _⟩ := dd'; ⟨q, hq⟩
    exact d_write I (by rw [e]; exact True.intro) hs he (dk_new hl hd (rel.put k rv) dd')
  · subst ey eH
    cases (show u = Value.ref b from ry)
    obtain ⟨z, hd, xs, rel, dd⟩ := dt_of I.hok e
    have hz : xs.length ≤ sizeLine := by rw [← Paired.length rel]; exact z
    have hl : (putK kvs k v).length ≤ sizeLine := by have := length_putK kvs k v; omega
    refine wpAny_setItem_heap (hsz := hz) (tupleKind_room_in1 hu) (key_of I.hok eb) dd fun h' dd' hs => h _ ?_
    obtain ⟨q, es, ep, hq, h2, h3, h4, _, h5⟩ := dd'
    refine d_write I (by rw [e]; exact True.intro) hs ⟨q, hq⟩ ⟨hl, hd, _, (rel.put k eb rv).keeps fun c ys ec => ?_, q, es, ep, hq, h2, h3, h4, h5⟩
    rw [upd_ne (ne_of ec e (fun z => nomatch z))]
    exact ec
end
section
variable {X : Cx} {pins : List (Addr × Obj)} {σ : St} {H : Hp} {s : Shared} {a : Addr} {kvs : List (Key × V)} {k : Key} {u : Value} {A : Around} {E : Value → Shared → Prop}
theorem d_pop {v : V} {more : List Value} {Q : Value → Shared → Prop} (I : Inv X pins σ H s) (e : H a = some (.dK kvs)) (ry : RelV (kV k) u) (l : valV kvs k = some v) (hm : more = [] ∨ ∃ x, more = [x])
    (h : ∀ w' s', Inv X pins σ (upd H a (.dK (dropK kvs k))) s' → RelV v w' → Q w' s') : wpAny (model X.prog X.w) A (call (.builtin "dict.pop") (.ref a :: u :: more)) Q E s := by
  obtain ⟨z, hd, vs, rel, dd⟩ := dk_of I.hok e
  obtain ⟨w', hw, rw'⟩ := RelO.some_of (v := v) (o := valueAt vs k) (by rw [← l]; exact rel.val k)
  have hp : (keyPart u).isSome = true := by
    cases k with
    | inl i => obtain ⟨t, q⟩ := (show ∃ t, u = Value.int i t from ry); subst q; rfl
    | inr x => obtain ⟨t, q⟩ := (show ∃ t, u = Value.str x t from ry); subst q; rfl
  have ha : argsOk "dict.pop" ⟨.ref a :: u :: more, []⟩ := by
    rcases hm with q | ⟨x, q⟩
    · subst q; exact PySem.F.args_dict_pop_2 _ _
    · subst q; exact PySem.F.args_dict_pop_3 _ _ _
  refine call_meetsIn PySem.F.slot_dict_pop dd.typeIs PySem.F.entry_dict_pop ha (meets_dict_pop_there (mixKind X.prog X.w) a (kV_is ry) more hm hp)
    ⟨vs, w', dd, by rw [← rel.length]; exact z, hw, fun h' dd' hs => h w' _ ?_ rw'⟩
  have he : ∃ q, h'.get? a = some q := let ⟨q, _, _, hq, _⟩ := dd'; ⟨q, hq⟩
  exact d_write I (by rw [e]; exact True.intro) hs he (dk_new (Nat.le_trans (dropK_le kvs k) z) hd (rel.drop k) dd')
end
def NoSl (i : Expr) : Prop := ∀ ov iv, subscripted i false ov iv = operate [ov, iv] (getItem ov iv)
theorem subD_of {prog : Program} {w : World} {A : Around} {E : Value → Shared → Prop} {s : Shared} {env : Env} {value slice : Expr} {pos : Pos} {T id : String} {Q : Value → Shared → Prop}
    (hl : typeLookup (.type T) "__getitem__" = pure (some (.builtin id))) (hs : NoSl slice)
    (h : wpAny (model prog w) A (eval value env) (fun o s₁ => wpAny (model prog w) A (eval slice env) (fun i s₂ => s₂.TypeIs o T ∧ wpAny (model prog w) A (getItem o i) Q E s₂) E s₁) E s) :
    wpAny (model prog w) A (eval (.Subscript value slice pos) env) Q E s := by
  refine Subscript_ (wpAny_mono h (fun o s₁ h₁ => wpAny_mono h₁ (fun i s₂ h₂ => ?_) fun _ _ x => x) fun _ _ x => x)
  obtain ⟨hT, h₂⟩ := h₂
  unfold subscriptTail
  refine wpAny_bind ?_
  rw [getitemInPython_of_ne hT.not_modules]
  refine wpAny_bind (wpAny_specialOf hT hl ?_)
  have fin : wpAny (model prog w) A (subscripted slice false o i) (fun r s₃ => wpAny (model prog w) A (letTemporaryGo value o r >>= fun _ => pure r) Q E s₃) E s₂ := by
    rw [hs o i]
    exact wpAny_operating (wpAny_mono h₂ (fun r s₃ h₃ => wpAny_bind (wpAny_letTemporaryGo (wpAny_pure h₃))) fun _ _ x => x)
  first
    | exact wpAny_pure (wpAny_bind fin)
    | exact wpAny_bind (wpAny_pure (wpAny_bind fin))
    | exact wpAny_bind fin
theorem dict_typeIs {X : Cx} {pins : List (Addr × Obj)} {σ : St} {H : Hp} {s : Shared} {a : Addr} {y : V} {o : Option V} (I : Inv X pins σ H s) (g : DGet H a y o) : s.TypeIs (.ref a) "dict" := by
  rcases g with ⟨kvs, k, e, _, _⟩ | ⟨kvs, k, b, e, _, _, _⟩
  · obtain ⟨_, _, vs, _, dd⟩ := dk_rd I.hok e
    exact dd.typeIs
  · obtain ⟨_, _, xs, _, dd⟩ := dt_rd I.hok e
    exact dd.typeIs
def tDGet (td ty : TE) : TE := fun σ H Q => td σ H fun x H1 => ty σ H1 fun y H2 => ∃ a v, x = .ref a ∧ DGet H2 a y (some v) ∧ Q v H2
def tDIn (ty td : TE) : TE := fun σ H Q => ty σ H fun y H1 => td σ H1 fun x H2 => ∃ a o, x = .ref a ∧ DGet H2 a y o ∧ Q (.bl o.isSome) H2
def tDNotIn (ty td : TE) : TE := fun σ H Q => ty σ H fun y H1 => td σ H1 fun x H2 => ∃ a o, x = .ref a ∧ DGet H2 a y o ∧ Q (.bl (!o.isSome)) H2
def sDPut (td ty tv : TE) : TS := fun D σ H => tv σ H fun v H1 => td σ H1 fun x H2 => ty σ H2 fun y H3 => ∃ a H4, x = .ref a ∧ DPut H3 a y v H4 ∧ D.nx σ H4
def sDAug (td ty tv : TE) (rd : V → V → Hp → VK → Prop) : TS := fun D σ H => td σ H fun x H1 => ty σ H1 fun y H2 => ∃ a v, x = .ref a ∧ DGet H2 a y (some v) ∧
  tv σ H2 fun y2 H3 => rd v y2 H3 fun z H4 => ∃ H5, DPut H4 a y z H5 ∧ D.nx σ H5
def sDDel (td ty : TE) : TS := fun D σ H => td σ H fun x H1 => ty σ H1 fun y H2 => ∃ a kvs k, x = .ref a ∧ H2 a = some (.dK kvs) ∧ y = kV k ∧ (valV kvs k).isSome = true ∧ D.nx σ (upd H2 a (.dK (dropK kvs k)))
section
variable {X : Cx} {o i e value : Expr} {pos pos' tpos : Pos} {td ty tv : TE}
theorem pe_dget (hu : X.A.units + 1 < cLine) (ho : PE X o td) (hi : PE X i ty) (hs : NoSl i) : PE X (.Subscript o i pos) (tDGet td ty) := by
  intro pins s σ H Q I h
  refine subD_of PySem.F.slot_dict_getitem.lookup hs (thn (ho pins s σ H _ I h) fun u s1 ⟨x, H1, I1, rx, q1⟩ => thn (hi pins s1 σ H1 _ I1 q1) fun iv s2 ⟨y, H2, I2, ry, a, v, ex, g, q2⟩ => ?_)
  subst ex
  obtain rfl : u = Value.ref a := rx
  exact ⟨dict_typeIs I2 g, d_getItem hu I2 g ry fun w' s3 I3 rw' => ⟨v, H2, I3, rw', q2⟩⟩
theorem pc_din (hu : X.A.units + 1 < cLine) (hi : PE X i ty) (ho : PE X o td) : PC X .In i o (tDIn ty td) := by
  intro pins s σ H Q I h
  refine thn (hi pins s σ H _ I h) fun iv s1 ⟨y, H1, I1, ry, q1⟩ => thn (ho pins s1 σ H1 _ I1 q1) fun u s2 ⟨x, H2, I2, rx, a, ov, ex, g, q2⟩ => ?_
  subst ex
  obtain rfl : u = Value.ref a := rx
  exact d_in hu I2 g ry fun s3 I3 => ⟨.bl ov.isSome, H2, I3, rfl, q2⟩
theorem ps_dput (hu : X.A.units + 1 < cLine) (ho : PE X o td) (hi : PE X i ty) (hv : PE X value tv) (hs : swapsWith value (some (.Subscript o i pos')) pos.line X.env = pure false) :
    PS X (.Assign [.Subscript o i pos'] value pos) (sDPut td ty tv) := by
  intro pins s σ H D I h
  refine wpAny_Assign_Subscript (thn (hv pins s σ H _ I h) fun r s1 ⟨v, H1, I1, rv, q1⟩ => thn (ho pins s1 σ H1 _ I1 q1) fun u s2 ⟨x, H2, I2, rx, q2⟩ => thn (hi pins s2 σ H2 _ I2 q2) fun iv s3 ⟨y, H3, I3, ry, a, H4, ex, g, q3⟩ => ?_) hs
  subst ex
  obtain rfl : u = Value.ref a := rx
  exact d_setItem hu I3 g ry rv fun s4 I4 => ⟨σ, H4, I4, q3⟩
end
theorem dk_empty {P : Program} {w : World} {H : Hp} (h : Heap) (hb : sysModules < h.objs.size) : ObjOk P w H (h.push { cls := .type "dict", data := .dict #[] }) h.objs.size (.dK []) :=
  ⟨Nat.zero_le _, beq_eq_false_iff_ne.mpr (Ne.symm (Nat.ne_of_lt hb)), [], .nil, Heap.DictOf.new h⟩
def tDNewK : TE := fun _ H Q => ∀ p, H p = none → Q (.ref p) (upd H p (.dK []))
def tDNewT : TE := fun _ H Q => ∀ p, H p = none → Q (.ref p) (upd H p (.dT []))
section
variable {X : Cx} {pos : Pos}
theorem pe_dnewK : PE X (.Dict [] [] pos) tDNewK := fun pins s σ H Q I h =>
  wpAny_Dict_empty ⟨.ref s.heap.objs.size, _, I.laid (a := s.heap.objs.size) (o := .dK []) (t' := s.toks) (fun _ _ q => Heap.get?_push_of_some _ q) (Nat.le_refl _) (dk_empty s.heap I.big), rfl, h _ (I.hok.fresh (Nat.le_refl _))⟩
end
def tPairs : List (TE × TE) → St → Hp → (List (V × V) → Hp → Prop) → Prop
  | [], _, H, Q => Q [] H
  | (tk, tv) :: r, σ, H, Q => tk σ H fun x H1 => tv σ H1 fun y H2 => tPairs r σ H2 fun ps H3 => Q ((x, y) :: ps) H3
abbrev VV : List (V × V) → List (Value × Value) → Prop := Paired fun p q => RelV p.1 q.1 ∧ RelV p.2 q.2
def PPs (X : Cx) (pos : Pos) (keys : List (Option Expr)) (values : List Expr) (trs : List (TE × TE)) : Prop :=
  ∀ (pins : List (Addr × Obj)) (s : Shared) (σ : St) (H : Hp) (Q : List (V × V) → Hp → Prop), Inv X pins σ H s → tPairs trs σ H Q →
    wpAny (model X.prog X.w) X.A (evalPairs (pairTrees keys values X.env pos)) (fun vs s' => ∃ ps H', Inv X pins σ H' s' ∧ VV ps vs ∧ Q ps H') X.xe s
theorem pps_nil {X : Cx} {pos : Pos} : PPs X pos [] [] [] := fun pins s σ H Q I h => pairTrees_nil_walk ⟨[], H, I, .nil, h⟩
theorem pps_cons {X : Cx} {pos : Pos} {k v : Expr} {ks : List (Option Expr)} {vs : List Expr} {tk tv : TE} {trs : List (TE × TE)} (hk : PE X k tk) (hv : PE X v tv) (hr : PPs X pos ks vs trs) :
    PPs X pos (some k :: ks) (v :: vs) ((tk, tv) :: trs) := fun pins s σ H Q I h =>
  pairTrees_cons_walk (thn (hk pins s σ H _ I h) fun u s1 ⟨x, H1, I1, rx, q1⟩ => thn (hv pins s1 σ H1 _ I1 q1) fun w2 s2 ⟨y, H2, I2, ry, q2⟩ =>
    thn (hr pins s2 σ H2 _ I2 q2) fun ws s3 ⟨ps, H3, I3, rel, q3⟩ => ⟨(x, y) :: ps, H3, I3, .cons ⟨rx, ry⟩ rel, q3⟩)
def mergeK (kvs more : List (Key × V)) : List (Key × V) := more.foldl (fun acc kv => putK acc kv.1 kv.2) kvs
theorem KV.merge : ∀ {more : List (Key × V)} {rs : List (Key × Value)} {kvs : List (Key × V)} {vs : List (Key × Value)}, KV more rs → KV kvs vs → KV (mergeK kvs more) (merged vs rs) := by
  intro more rs kvs vs r
  unfold KV at r
  induction r generalizing kvs vs with
  | nil => intro q; exact q
  | @cons p q ps qs h t ih =>
    intro r0
    have e : KV (putK kvs p.1 p.2) (stored vs q.1 q.2) := by
      have := r0.put p.1 h.2
      rw [← h.1]; exact this
    exact ih e
theorem length_mergeK : ∀ (more kvs : List (Key × V)), (mergeK kvs more).length ≤ kvs.length + more.length
  | [], kvs => by show kvs.length ≤ kvs.length + 0; omega
  | p :: r, kvs => by
    have h1 := length_mergeK r (putK kvs p.1 p.2)
    have h2 := length_putK kvs p.1 p.2
    show (mergeK (putK kvs p.1 p.2) r).length ≤ _
    rw [List.length_cons]; omega
theorem carries_of {P : Program} {w : World} : ∀ {kvs : List (Key × V)} {ws : List (Value × Value)}, VV (kvs.map fun kv => (kV kv.1, kv.2)) ws → ∃ rs, Carries (mixKind P w) ws rs ∧ KV kvs rs
  | [], _, r => by rw [List.map_nil] at r; cases r; exact ⟨[], True.intro, .nil⟩
  | p :: kvs, _, r => by
    rw [List.map_cons] at r
    cases r with
    | @cons a b as bs h t =>
      obtain ⟨rs, c, q⟩ := carries_of (P := P) (w := w) t
      obtain ⟨b1, b2⟩ := b
      exact ⟨(p.1, b2) :: rs, ⟨kV_is h.1, rfl, c⟩, .cons ⟨rfl, h.2⟩ q⟩
def tDisp (trs : List (TE × TE)) : TE := fun σ H Q => ∀ p, H p = none → tPairs trs σ (upd H p (.dK [])) fun ps H2 => H2 p = some (.dK []) ∧ ∃ kvs : List (Key × V), ps = kvs.map (fun kv => (kV kv.1, kv.2)) ∧ kvs.length ≤ 15 ∧ Q (.ref p) (upd H2 p (.dK (mergeK [] kvs)))
theorem pe_disp {X : Cx} {pos : Pos} {keys : List (Option Expr)} {values : List Expr} {trs : List (TE × TE)} (h : PPs X pos keys values trs) (hall : keys.all (·.isSome) = true) (hl : keys.length = values.length) (h0 : keys ≠ [])
    (h15 : keys.length ≤ 15) : PE X (.Dict keys values pos) (tDisp trs) := by
  intro pins s σ H Q I q
  have hn := I.hok.fresh (Nat.le_refl s.heap.objs.size)
  have I1 := I.laid (a := s.heap.objs.size) (o := .dK []) (h' := s.heap.push { cls := .type "dict", data := .dict #[] }) (t' := s.toks) (fun _ _ q => Heap.get?_push_of_some _ q) (Nat.le_refl _) (dk_empty s.heap I.big)
  refine wpAny_Dict_walk (knd := mixKind X.prog X.w) hall hl h0 h15 (thn (h pins _ σ _ _ I1 (q _ hn)) fun ws s2 ⟨ps, H2, I2, rel, e, kvs, ep, lk, q2⟩ => ?_)
  subst ep
  obtain ⟨rs, c, rk⟩ := carries_of (P := X.prog) (w := X.w) rel
  obtain ⟨z, hd, vs0, r0, dd⟩ := dk_of I2.hok e
  cases r0
  refine ⟨rs, c, dd, fun h' dd' hs => ⟨.ref s.heap.objs.size, _, ?_, rfl, q2⟩⟩
  have hz : (mergeK [] kvs).length ≤ sizeLine := by
    have h1 := length_mergeK kvs []
    rw [List.length_nil] at h1
    rw [sizeLine_eq]; omega
  have he : ∃ q, h'.get? s.heap.objs.size = some q := let ⟨q, _, _, hq, _⟩ := dd'; ⟨q, hq⟩
  exact d_write I2 (by rw [e]; exact True.intro) hs he (dk_new hz hd (rk.merge .nil) dd')
structure M1 (X : Cx) (o : Expr) (m : Str) (apos : Pos) (e : Expr) (cpos : Pos) : Prop where
  base : attributeBase o m X.env (eval o X.env) = eval o X.env
  few : ((backTo cpos (starEach [e] X.env)).all (fun x => !x.1) && (backToKw cpos (keywordEach [] X.env)).all (fun x => x.1.isSome)
    && decide (([e] : List Expr).length + ([] : List Keyword).length + (if ([] : List Keyword).isEmpty then 0 else 1) < 30)) = true
  line : (apos.endLine == cpos.line) = true
  trees : backTo cpos (starEach [e] X.env) = [(false, eval e X.env)]
structure M2 (X : Cx) (o : Expr) (m : Str) (apos : Pos) (e f : Expr) (cpos : Pos) : Prop where
  base : attributeBase o m X.env (eval o X.env) = eval o X.env
  few : ((backTo cpos (starEach [e, f] X.env)).all (fun x => !x.1) && (backToKw cpos (keywordEach [] X.env)).all (fun x => x.1.isSome)
    && decide (([e, f] : List Expr).length + ([] : List Keyword).length + (if ([] : List Keyword).isEmpty then 0 else 1) < 30)) = true
  line : (apos.endLine == cpos.line) = true
  trees : backTo cpos (starEach [e, f] X.env) = [(false, eval e X.env), (false, eval f X.env)]
def IsD (H : Hp) (a : Addr) : Prop := (∃ kvs, Rd H a (.dK kvs)) ∨ ∃ kvs, Rd H a (.dT kvs)
theorem isD_at {X : Cx} {pins : List (Addr × Obj)} {σ : St} {H : Hp} {s : Shared} {a : Addr} (I : Inv X pins σ H s) (d : IsD H a) :
    s.TypeIs (.ref a) "dict" ∧ (∀ b, Value.ref a = .ref b → ∃ ob, s.heap.get? b = some ob ∧ ob.dict = none) ∧ (a == sysModules) = false := by
  rcases d with ⟨kvs, e⟩ | ⟨kvs, e⟩
  · obtain ⟨_, hd, vs, _, dd⟩ := dk_rd I.hok e
    refine ⟨dd.typeIs, fun b q => ?_, hd⟩
    cases q
    obtain ⟨ob, _, _, h1, h2, _⟩ := dd
    exact ⟨ob, h1, h2.2.1⟩
  · obtain ⟨_, hd, xs, _, dd⟩ := dt_rd I.hok e
    refine ⟨dd.typeIs, fun b q => ?_, hd⟩
    cases q
    obtain ⟨ob, _, _, h1, h2, _⟩ := dd
    exact ⟨ob, h1, h2.2.1⟩
section
variable {X : Cx} {pins : List (Addr × Obj)} {σ : St} {H : Hp} {s : Shared} {a : Addr} {y d : V} {u r : Value} {o : Option V} {A : Around} {E : Value → Shared → Prop}
theorem d_get2 {Q : Value → Shared → Prop} (hu : A.units + 1 < cLine) (I : Inv X pins σ H s) (g : DGet H a y o) (ry : RelV y u) (rd : RelV d r) (h : ∀ w' s', Inv X pins σ H s' → RelV (o.getD d) w' → Q w' s') :
    wpAny (model X.prog X.w) A (call (.builtin "dict.get") [.ref a, u, r]) Q E s := by
  rcases g with ⟨kvs, k, e, ey, l⟩ | ⟨kvs, k, b, e, ey, eb, l⟩
  · subst ey
    obtain ⟨z, hd, vs, rel, dd⟩ := dk_rd I.hok e
    refine call_meetsIn PySem.F.slot_dict_get dd.typeIs PySem.F.entry_dict_get (PySem.F.args_dict_get_3 _ _ _) (meets_dict_get_default (mixKind X.prog X.w) a (kV_is ry) hd r) ⟨_, dd.mapOf, h _ _ (I.tok _) ?_⟩
    rw [l]
    exact (rel.val k).getD rd
  · subst ey
    cases (show u = Value.ref b from ry)
    obtain ⟨z, hd, xs, rel, dd⟩ := dt_rd I.hok e
    refine call_meetsIn PySem.F.slot_dict_get dd.typeIs PySem.F.entry_dict_get (PySem.F.args_dict_get_3 _ _ _) (meetsH_dict_get_default (tupleKind (mixKind X.prog X.w)) a b hd r) ⟨tupleKind_room_in1 hu, k, xs, key_of I.hok eb, dd, h _ _ (I.tok _) ?_⟩
    rw [l]
    exact (rel.val k).getD rd
end
def tDGet1 (td ty : TE) : TE := fun σ H Q => td σ H fun x H1 => ∃ a, x = .ref a ∧ IsD H1 a ∧ ty σ H1 fun y H2 => ∃ o, DGet H2 a y o ∧ Q (o.getD .non) H2
def tDGet2 (td ty tx : TE) : TE := fun σ H Q => td σ H fun x H1 => ∃ a, x = .ref a ∧ IsD H1 a ∧ ty σ H1 fun y H2 => tx σ H2 fun z H3 => ∃ o, DGet H3 a y o ∧ Q (o.getD z) H3
def tDPop1 (td ty : TE) : TE := fun σ H Q => td σ H fun x H1 => ∃ a, x = .ref a ∧ IsD H1 a ∧ ty σ H1 fun y H2 => ∃ kvs k v, H2 a = some (.dK kvs) ∧ y = kV k ∧ valV kvs k = some v ∧ Q v (upd H2 a (.dK (dropK kvs k)))
def tDPop2 (td ty tx : TE) : TE := fun σ H Q => td σ H fun x H1 => ∃ a, x = .ref a ∧ IsD H1 a ∧ ty σ H1 fun y H2 => tx σ H2 fun z H3 => ∃ kvs k, H3 a = some (.dK kvs) ∧ y = kV k ∧
  (∀ v, valV kvs k = some v → Q v (upd H3 a (.dK (dropK kvs k)))) ∧ (valV kvs k = none → Q z H3)
section
variable {X : Cx} {o e f : Expr} {apos cpos : Pos} {td ty tx : TE}
theorem pe_dget2 (hu : X.A.units + 1 < cLine) (ho : PE X o td) (he : PE X e ty) (hf : PE X f tx) (m : M2 X o "get" apos e f cpos) : PE X (.Call (.Attribute o "get" apos) [e, f] [] cpos) (tDGet2 td ty tx) := by
  intro pins s σ H Q I h
  refine wpAny_Call_method m.base m.few m.line PySem.F.plainAttrs_dict PySem.F.slot_dict_get PySem.F.type_dict_get (thn (ho pins s σ H _ I h) fun u s1 ⟨x, H1, I1, rx, a, ex, d, q1⟩ => ?_)
  subst ex
  obtain rfl : u = Value.ref a := rx
  obtain ⟨t1, t2, _⟩ := isD_at I1 d
  refine ⟨t1, t2, ?_⟩
  rw [m.trees]
  refine Calls.callWith_builtin rfl (Calls.evalArgs_plain (Calls.spliced_cons (thn (he pins s1 σ H1 _ I1 q1) fun iv s2 ⟨y, H2, I2, ry, q2⟩ =>
    Calls.spliced_cons (thn (hf pins s2 σ H2 _ I2 q2) fun fv s3 ⟨z, H3, I3, rz, ov, g, q3⟩ => Calls.spliced_nil ?_))))
  exact d_get2 hu I3 g ry rz fun w' s4 I4 rw' => ⟨_, H3, I4, rw', q3⟩
theorem pe_dpop1 (ho : PE X o td) (he : PE X e ty) (m : M1 X o "pop" apos e cpos) : PE X (.Call (.Attribute o "pop" apos) [e] [] cpos) (tDPop1 td ty) := by
  intro pins s σ H Q I h
  refine wpAny_Call_method m.base m.few m.line PySem.F.plainAttrs_dict PySem.F.slot_dict_pop PySem.F.type_dict_pop (thn (ho pins s σ H _ I h) fun u s1 ⟨x, H1, I1, rx, a, ex, d, q1⟩ => ?_)
  subst ex
  obtain rfl : u = Value.ref a := rx
  obtain ⟨t1, t2, _⟩ := isD_at I1 d
  refine ⟨t1, t2, ?_⟩
  rw [m.trees]
  refine Calls.callWith_builtin rfl (Calls.evalArgs_plain (Calls.spliced_cons (thn (he pins s1 σ H1 _ I1 q1) fun iv s2 ⟨y, H2, I2, ry, kvs, k, v, ea, ey, l, q2⟩ => Calls.spliced_nil ?_)))
  subst ey
  exact d_pop I2 ea ry l (.inl rfl) fun w' s3 I3 rw' => ⟨v, _, I3, rw', q2⟩
end
section
variable {X : Cx} {pins : List (Addr × Obj)} {σ : St} {H : Hp} {s : Shared} {a : Addr} {kvs : List (Key × V)} {A : Around} {E : Value → Shared → Prop}
end
section
variable {X : Cx} {pins : List (Addr × Obj)} {σ : St} {H : Hp} {s : Shared} {a : Addr} {y : V} {u : Value} {A : Around} {E : Value → Shared → Prop}
end
end L2
namespace Att
open PySem PySem.W PySem.Calls PyProof.Rows
theorem ints_of_wellAll {P : Params} {h : Heap} : ∀ (ns : List Int) (vs : List Value), WellAll P h vs (ns.map WData.int) → IntsAre vs ns := by
  intro ns
  induction ns with
  | nil =>
    intro vs w
    rw [List.map_nil] at w
    cases w
    exact .nil
  | cons n ns ih =>
    intro vs w
    rw [List.map_cons] at w
    cases w with
    | cons a b =>
      cases a
      exact .cons _ _ (ih _ b)
theorem script_of {l : OpenLaw} {n : Nat} (hn : l.most = some n) {P : Params} {h : Heap} {args : List WData} {vals : List Value}
    (hpre : l.row.toRowW.claim.pre args = true) (hwl : WellAll P h vals args) :
    ∃ a vs ns, vals = [Value.ref a] ∧ args = [WData.list (ns.map WData.int)] ∧ h.get? a = some { cls := .type "list", data := .seq vs.toArray } ∧ IntsAre vs ns ∧ ns.length ≤ n := by
  have hsh : WShape.hasAll [] args [.list .int] = true := (pre_splitW hpre).1
  have hc : l.pre.holds [] { args := args } = true := (pre_splitW hpre).2
  obtain ⟨d, r, rfl, h1, h2⟩ := hasAllW_cons hsh
  obtain rfl := hasAllW_nil h2
  obtain ⟨xs, rfl, h3⟩ := hasW_list h1
  obtain ⟨ns, rfl⟩ := items_int h3
  have hlen : ns.length ≤ n := by
    unfold OpenLaw.pre at hc
    have h4 : (WTm.not (.lt (.lit (.int (n : Int))) (.len (.arg 0)))).holds [] { args := [.list (ns.map .int)] } = true := by
      have h4 := (holds_andW hc).1
      rw [hn] at h4
      exact h4
    have h5 := condW_of h4 (w_not (w_lt w_lit (w_len_list (w_arg rfl))))
    rw [List.length_map] at h5
    refine Nat.le_of_not_lt fun q => ?_
    have q' : (n : Int) < ((ns.length : Nat) : Int) := by omega
    first
      | (rw [decide_eq_true q'] at h5; exact absurd h5 (by decide))
      | (simp at h5; omega)
  cases hwl with
  | cons w1 w2 =>
    cases w2
    cases w1 with
    | list ho hall => exact ⟨_, _, ns, rfl, rfl, ho, ints_of_wellAll ns _ hall, hlen⟩
theorem post_true (l : OpenLaw) (args : List WData) : l.row.toRowW.claim.post args (.bool true) args = true :=
  postW_of (r := l.row.toRowW) (X := (true == true))
    (show WShape.has [] (.bool true) .bool = true by first | rfl | decide | simp [WShape.has, WShape.arms, WShape.armsAll])
    (show (WTm.eq .res (.lit (.bool true))).value [] { args := args, res := some (.bool true), after := args } = some (.bool (true == true)) from w_eq_bool (w_res rfl) w_lit) rfl
theorem attach_call {l : OpenLaw} {n : Nat} {q : Program} {loose : List Str} {XP : (Str → Option Value) → Heap → Prop} {YP : World → Heap → Prop} {d : DefRec}
    (hn : l.most = some n) (hdf : d.params.defaults = [])
    (call : ∀ (w : World) (s₀ s₁ : Shared) (mg mb : Str → Option Value) (fa : Addr) (o : Obj) (pm cd doc : Value) (a : Addr) (vs : List Value) (ns : List Int),
      Ground q loose [] XP w s₀ mg mb s₁.heap → YP w s₁.heap →
      s₁.heap.get? fa = some o → o.data = .func (docDef d.name d.params d.body d.scope pm cd doc) → s₁.heap.CodeRec cd d.name → mg d.name = some (.ref fa) →
      s₁.heap.get? a = some { cls := .type "list", data := .seq vs.toArray } → IntsAre vs ns → ns.length ≤ n → s₁.gens = #[] →
      codeAny (model l.prog w) callerA (.call (.ref fa) ⟨[.ref a], []⟩) (fun r s' => r = .ok (.ret (.bool true)) ∧ OldK s₁.heap s'.heap ∧ s'.os = s₁.os ∧ AllBare s'.gens) s₁) :
    WalkO q loose XP YP l.row.toRowW d [] (fun f vs => PySem.call f vs) := by
  intro w s₀ s₁ mg mb G Y fa o pm cd doc dV kV ho hd hcd hD hmg hg args vals as hpre hlay hrd hwl hlo
  obtain rfl : dV = .none := Dflts.none hD hdf
  obtain rfl : kV = .none := Dflts.noKw hD
  obtain ⟨a, vs, ns, rfl, rfl, hobj, hints, hlen⟩ := script_of hn hpre hwl
  refine enter_call (codeAny_mono (call w s₀ s₁ mg mb fa o pm cd doc a vs ns G Y ho (fd_plain hd) hcd hmg hobj hints hlen hg) fun r s' hq => ?_)
  obtain ⟨rfl, h2, h3, h4⟩ := hq
  exact ⟨.inl ⟨.bool true, .bool true, [], rfl, fun _ => rfl, .bool true, post_true l _, fun _ => ⟨List.Pairwise.nil, fun _ hm => (nomatch hm)⟩⟩, h2, h3, h4⟩
section
variable {prog : Program} {w : World} {A : Around} {E : Value → Shared → Prop} {s : Shared} {K : Frag}
def noObjs (h : Heap) : Heap := { h with objs := #[] }
def ledger (h : Heap) (L d : Addr) : List (Addr × Obj) := (List.range h.objs.size).filterMap fun a => if a = L ∨ a = d then none else (h.get? a).map fun o => (a, o)
end
end Att
namespace L2
open PySem PySem.Spec PyProof.Rows
theorem vals_ints : ∀ {vs : List Value} {ns : List Int}, IntsAre vs ns → Vals (ns.map V.int) vs
  | _, _, .nil => .nil
  | _, _, .cons n t h => .cons ⟨t, rfl⟩ (vals_ints h)
def Only (H : Hp) : Prop := ∀ b, H b = none ∨ ∃ o xs, H b = some (.frz o (.lst xs))
theorem law_call {P : Program} {w : World} {K : PySem.W.Frag} {mg mb : Str → Option Value} {CX : CXT} {k : Nat} {fa a : Addr} {fd : FuncData} {x : Str} {sp : Sp} {s₁ : Shared} {vs : List Value} {ns : List Int}
    (KX : K.In s₁.heap) (hns : s₁.heap.Ns mainGlobals mg) (hb : s₁.heap.Ns builtinsNs mb) (hbb : ∀ x : Str, x ≠ "__name__" → mb x = bootBuiltins x) (hlim : s₁.heap.NoLimit) (hg : s₁.gens = #[])
    (ha : s₁.heap.get? a = some { cls := .type "list", data := .seq vs.toArray }) (hi : IntsAre vs ns) (hl : ns.length ≤ sizeLine) (hr : Room k callerA)
    (F : ∀ base : Heap, K.In base → base.Ns mainGlobals mg → FnOk P w K mg base CX k fa fd [x] sp) (hbind : ∀ (s : Shared) (u : Value), BindsTo s fd ⟨[u], []⟩ [(x, u)])
    (hsp : ∀ H : Hp, Only H → SqL K H a (ns.map V.int) → sp [.ref a] H (fun v _ => v = .bl true) fun _ _ _ => False)
    (hCX : ∀ H e s', CX [] H s₁ (fun _ _ _ => False) e s' → False) :
    codeAny (model P w) callerA (.call (.ref fa) ⟨[.ref a], []⟩) (fun r s' => r = .ok (.ret (.bool true)) ∧ OldK s₁.heap s'.heap ∧ s'.os = s₁.os ∧ AllBare s'.gens) s₁ := by
  have rv := vals_ints hi
  have lenV := hi.length
  -- from an abstract heap in which nothing but the script may be tracked
  have core : ∀ H : Hp, Only H → SqL K H a (ns.map V.int) → HOk P w H s₁.heap → (∀ b, H b ≠ none → b = a) → (H a ≠ none → K.lookup a = none) →
      codeAny (model P w) callerA (.call (.ref fa) ⟨[.ref a], []⟩) (fun r s' => r = .ok (.ret (.bool true)) ∧ OldK s₁.heap s'.heap ∧ s'.os = s₁.os ∧ AllBare s'.gens) s₁ := by
    intro H hO hS hok hA hK
    have base_of : ∀ {b : Addr} {o : Obj}, s₁.heap.get? b = some o → H b = none → (hidT s₁.heap H).get? b = some o := fun e n => hidT_get e n
    have noA : ∀ {b : Addr} {o : Obj} {es : Array DictEntry} {ep : Nat}, s₁.heap.get? b = some o → o.data = .dict es ep → H b = none := fun {b o es ep} e d => by
      cases q : H b with
      | none => rfl
      | some u =>
        have e' : b = a := hA b (by rw [q]; simp)
        subst e'
        rw [ha] at e; cases e
        have d' : Data.seq vs.toArray _ = Data.dict es ep := d
        cases d'
    have nsK : ∀ {b : Addr} {m : Str → Option Value}, s₁.heap.Ns b m → (hidT s₁.heap H).Ns b m := fun {b m} ⟨o, es, ep, e, d, r⟩ => ⟨o, es, ep, base_of e (noA e d), d, r⟩
    have hKb : K.In (hidT s₁.heap H) := fun b o e => base_of (KX b o e) (by
      cases q : H b with
      | none => rfl
      | some u =>
        have e' : b = a := hA b (by rw [q]; simp)
        subst e'
        rw [hK (by rw [q]; simp)] at e; cases e)
    have hM : Mod K mg (hidT s₁.heap H) := ⟨hKb, nsK hns, ⟨mb, nsK hb, hbb⟩, let ⟨mc, h1, h2⟩ := hlim; ⟨mc, nsK h1, h2⟩⟩
    have e0 : Env0 P w K mg (hidT s₁.heap H) callerA [] s₁ H := ⟨rfl, hM, fun b o e => of_hidT e, Nat.le_of_eq (hidT_size _ _), trivial, fun b hb => absurd (show b ∈ ([] : List Addr) from hb) (by simp), hok, .of_eq hg⟩
    refine codeAny_mono ((F _ hKb (nsK hns)).run callerA [] s₁ H ⟨[.ref a], []⟩ [.ref a] [.ref a] _ _ hr e0 (hbind s₁ (.ref a)) (.cons rfl .nil) (hsp H hO hS)) fun r s' h => ?_
    cases r with
    | error e => exact (hCX H e s' h).elim
    | ok fl =>
      cases fl with
      | next => exact False.elim h
      | brk => exact False.elim h
      | cont => exact False.elim h
      | ret u =>
        obtain ⟨v, H', os, bare, un, hok', r', q⟩ := h
        have q' : v = .bl true := q
        subst q'
        obtain rfl : u = Value.bool true := r'
        refine ⟨rfl, OldK.of_keep fun b o e => ?_, os, bare⟩
        cases q : H b with
        | none => exact un.keep b o e q (by intro z; exact absurd (show b ∈ ([] : List Addr) from z) (by simp)) (by simp)
        | some u =>
          rcases hO b with z | ⟨ob, xs, z⟩
          · rw [q] at z; cases z
          · have z2 := un.frzs b ob _ z
            obtain ⟨e1, _⟩ := hok b _ z
            obtain ⟨e2, _⟩ := hok' b _ z2
            rw [e] at e1; cases e1
            exact e2
  cases hk : K.lookup a with
  | some o =>
    -- the script is one of the module's own objects
    have e := KX a o hk
    rw [ha] at e
    cases e
    refine core (fun _ => none) (fun _ => .inl rfl) (.inr ⟨_, vs.toArray, _, hk, rfl, rfl, rfl, by rw [List.size_toArray, lenV]; exact hl, by simpa using rv⟩) (fun b u z => by have z' : (none : Option HO) = some u := z; cases z') (fun b z => absurd rfl z) fun z => absurd rfl z
  | none =>
    refine core (fun b => if b = a then some (.frz { cls := .type "list", data := .seq vs.toArray } (.lst (ns.map V.int))) else none) (fun b => ?_) (.inl (.inr ⟨{ cls := .type "list", data := .seq vs.toArray }, if_pos rfl⟩)) (fun b u z => ?_) (fun b z => ?_) fun _ => hk
    · by_cases hb : b = a
      · exact .inr ⟨_, _, if_pos hb⟩
      · exact .inl (if_neg hb)
    · by_cases hb : b = a
      · have z' := (if_pos hb).symm.trans z
        cases z'
        subst hb
        exact ⟨ha, by rw [List.length_map]; exact hl, vs, _, rv, ha⟩
      · have z' := (if_neg hb).symm.trans z
        cases z'
    · by_cases hb : b = a
      · exact hb
      · exact absurd (if_neg hb) z
end L2
namespace L2
open PySem PySem.Spec PyProof.Rows
abbrev KOf {K : PySem.W.Frag} {h : Heap} (_ : K.In h) : PySem.W.Frag := K
theorem walk_of {l : PySem.W.OpenLaw} {n k : Nat} {q : Program} {loose : List Str} {XP : (Str → Option Value) → Heap → Prop} {YP : World → Heap → Prop} {d : DefRec} {K : Params → PySem.W.Frag} {CX : World → CXT} {sp : World → Sp} {x : Str}
    (hn : l.most = some n) (hn2 : n ≤ sizeLine) (hdf : d.params.defaults = []) (hr : Room k callerA)
    (hY : ∀ (w : World) (h : Heap), YP w h → (K w.params).In h)
    (F : ∀ (w : World) (mg : Str → Option Value) (fa : Addr) (h : Heap), (K w.params).In h → h.Ns mainGlobals mg → mg d.name = some (.ref fa) →
      ∃ fd : FuncData, (∀ (s : Shared) (u : Value), BindsTo s fd ⟨[u], []⟩ [(x, u)]) ∧
        ∀ base : Heap, (K w.params).In base → base.Ns mainGlobals mg → FnOk l.prog w (K w.params) mg base (CX w) k fa fd [x] (sp w))
    (hsp : ∀ (w : World) (H : Hp) (a : Addr) (ns : List Int), ns.length ≤ n → Only H → SqL (K w.params) H a (ns.map V.int) → sp w [.ref a] H (fun v _ => v = .bl true) fun _ _ _ => False)
    (hCX : ∀ (w : World) (H : Hp) (s : Shared) (e : Value) (s' : Shared), CX w [] H s (fun _ _ _ => False) e s' → False) :
    PySem.W.WalkO q loose XP YP l.row.toRowW d [] (fun f vs => PySem.call f vs) := by
  refine Att.attach_call hn hdf fun w s₀ s₁ mg mb fa o pm cd doc a vs ns G Y ho hd hcd hmg hobj hints hlen hg => ?_
  have KX := hY w _ Y
  obtain ⟨fd, hb, hF⟩ := F w mg fa _ KX G.T.g hmg
  exact law_call KX G.T.g G.T.b G.T.builtins G.T.nolimit hg hobj hints (Nat.le_trans hlen hn2) hr hF hb (fun H hO hS => hsp w H a ns hlen hO hS) fun H e s' => hCX w H s₁ e s'
end L2
namespace L2
open PySem PySem.Spec PyProof.Rows
def inClass (s : Stmt) (j : Nat) : Stmt := match s with
  | .ClassDef _ _ _ body _ _ _ _ _ _ _ => body.getD j (.Pass ⟨0, 0, 0, 0⟩)
  | _ => .Pass ⟨0, 0, 0, 0⟩
def defArgs (s : Stmt) : Arguments := match s with
  | .FunctionDef _ a _ _ _ _ _ _ _ _ => a
  | _ => { posonlyargs := [], args := [], vararg := none, kwonlyargs := [], kw_defaults := [], kwarg := none, defaults := [] }
def defBody (s : Stmt) : List Stmt := match s with
  | .FunctionDef _ _ b _ _ _ _ _ _ _ => b
  | _ => []
def defScope (s : Stmt) : Scope := match s with
  | .FunctionDef _ _ _ _ _ _ sc _ _ _ => sc
  | _ => { kind := .function, names := [], isGenerator := false, isCoroutine := false }
abbrev CX0 : CXT := fun _ _ _ _ _ _ => False
abbrev E0 : XK := fun _ _ _ => False
theorem pass0 {X : Cx} : Passes CX0 X E0 := fun _ _ _ _ _ _ _ h => h.elim
structure Fun (K : PySem.W.Frag) (x qual : Str) (st : Stmt) (f : Addr) (fd : FuncData) : Prop where
  ex : ∃ (oc : Value) (od : Option Addr) (kV doc pm : Value) (an : Option Addr) (cdv ct : Value) (osl : Array (Option Value)),
    fd = PySem.W.fnOf x qual (defArgs st) (defBody st) (defScope st) .none kV doc pm an cdv ct ∧ K.lookup f = some ⟨oc, od, .func fd, osl⟩ ∧ PySem.W.codeIn K cdv qual = true
  kp : PySem.W.keepIn K (.ref f) = true
section
variable {P : Program} {w : World} {K : PySem.W.Frag} {mg : Str → Option Value} {base : Heap}
theorem Fun.ok {x qual : Str} {st : Stmt} {f : Addr} {fd : FuncData} {N ps : List Str} {k : Nat} {sp : Sp} (F : Fun K x qual st f fd) (S : FnScope N ps (defScope st)) (len : ∀ vs H Q E, sp vs H Q E → vs.length = ps.length)
    (hbody : ∀ (cdv : Value) (A : Around) (outer : List Env) (s : Shared) (H : Hp) (vs : List V) (Q : VK) (E : XK), Room k (A.deeper (envOfC qual (defScope st) s.heap.objs.size f cdv)) → sp vs H Q E →
      ∃ t, PSs (cxOf CX0 P w K mg base N qual (defScope st) f cdv A outer s H E).nox (defBody st) t ∧ t { nx := fun _ H' => Q .non H', rt := Q } (start N vs) H) : FnOk P w K mg base CX0 (k + 1) f fd ps sp := by
  obtain ⟨oc, od, kV, doc, pm, an, cdv, ct, osl, rfl, lk, hcd⟩ := F.ex
  refine fn_of lk hcd S len fun A outer s H vs Q E hr hsp => ?_
  obtain ⟨t, h, q⟩ := hbody cdv A outer s H vs Q E hr hsp
  exact ⟨t, h.nox, q⟩
theorem Fun.binds {x qual : Str} {st : Stmt} {f : Addr} {fd : FuncData} {ps : List Str} (F : Fun K x qual st f fd)
    (h : ∀ (kV doc pm : Value) (an : Option Addr) (cdv ct : Value) (us : List Value), us.length = ps.length → bindArgs (PySem.W.fnOf x qual (defArgs st) (defBody st) (defScope st) .none kV doc pm an cdv ct) ⟨us, []⟩ = pure (ps.zip us)) : Binds K fd ps [] := by
  obtain ⟨oc, od, kV, doc, pm, an, cdv, ct, osl, rfl, lk, hcd⟩ := F.ex
  exact .all (h kV doc pm an cdv ct)
theorem fun_mk {x qual : Str} {st : Stmt} {f : Addr} {oc : Value} {od an : Option Addr} {osl : Array (Option Value)} {kV doc pm cdv ct : Value} (l : K.lookup f = some ⟨oc, od, .func (PySem.W.fnOf x qual (defArgs st) (defBody st) (defScope st) .none kV doc pm an cdv ct), osl⟩)
    (c : PySem.W.codeIn K cdv qual = true) (k : PySem.W.keepIn K (.ref f) = true) : Fun K x qual st f (PySem.W.fnOf x qual (defArgs st) (defBody st) (defScope st) .none kV doc pm an cdv ct) := ⟨⟨oc, od, kV, doc, pm, an, cdv, ct, osl, rfl, l, c⟩, k⟩
end
theorem hu_of {A : Around} {k : Nat} (hr : Room k A) : A.units + 1 < cLine := Nat.lt_of_le_of_lt (Nat.add_le_add_left (by decide : 1 ≤ 64) _) hr.units
section
variable {X : Cx}
theorem pv (i : Nat) {x : Str} {pos : Pos} (hN : X.N[i]? = some x := by rfl) (hv : Vis X.env.scope x := by first | exact Or.inl rfl | exact Or.inr (Or.inl rfl) | exact Or.inr (Or.inr rfl)) (hd : (x == ("__debug__" : Str)) = false := by decide)
    (hcd : (x == ("__classdict__" : Str)) = false := by decide) : PE X (.Name x pos) (tVar i) := pe_var hN hv hd hcd
end
theorem iteF {A B : Prop} (h : B) : if false = true then A else B := by
  rw [if_neg Bool.false_ne_true]
  exact h
theorem iteT {A B : Prop} (h : A) : if true = true then A else B := by
  rw [if_pos rfl]
  exact h
theorem ite2 {c A B : Prop} [Decidable c] (h1 : c → A) (h2 : ¬ c → B) : if c then A else B := by
  by_cases h : c
  · rw [if_pos h]
    exact h1 h
  · rw [if_neg h]
    exact h2 h
def Same (H H' : Hp) : Prop := ∀ b o, H b = some o → H' b = some o
theorem Same.refl (H : Hp) : Same H H := fun _ _ h => h
theorem Same.trans {H H1 H2 : Hp} (a : Same H H1) (b : Same H1 H2) : Same H H2 := fun c o h => b c o (a c o h)
theorem Same.free {H H' : Hp} (e : Same H H') {l : Addr} (h : H' l = Option.none) : H l = Option.none := by
  cases q : H l with
  | none => rfl
  | some o =>
    rw [e l o q] at h
    cases h
theorem Same.seq {K : PySem.W.Frag} {H H' : Hp} {a : Addr} {xs : List V} (e : Same H H') (h : SqL K H a xs) : SqL K H' a xs := by
  rcases h with (h | ⟨o, h⟩) | h
  · exact .inl (.inl (e _ _ h))
  · exact .inl (.inr ⟨o, e _ _ h⟩)
  · exact .inr h
end L2
namespace L2
open PySem PySem.Spec PyProof.Rows
section
variable {X : Cx}
end
section
variable {κ : Type} [DecidableEq κ]
theorem dropK_pos {p : κ × V} {r : List (κ × V)} {k : κ} (e : p.1 = k) : dropK (p :: r) k = dropK r k := by
  unfold dropK
  rw [List.filter_cons, if_neg (by simp [e])]
theorem dropK_neg {p : κ × V} {r : List (κ × V)} {k : κ} (e : ¬ p.1 = k) : dropK (p :: r) k = p :: dropK r k := by
  unfold dropK
  rw [List.filter_cons, if_pos (by simp [e])]
end
end L2
set_option Elab.async false
set_option linter.all false
set_option maxRecDepth 100000
set_option maxHeartbeats 4000000
namespace L2
open PySem PySem.Spec PyProof.Rows
section
variable {prog : Program} {w : World} {A : Around} {R : Result → Shared → Prop} {s : Shared}
theorem comp_loop {elt target iter : Expr} {ifs : List Expr} {scope : Scope} {pos : Pos} {it acc : Value} {env : Env} (J : Nat → Shared → Prop)
    (turn : ∀ n s, J n s → wpAny (model prog w) A (pyNext it) (fun r s₁ => match r with
      | none => R (.ok .next) s₁
      | some v => wpAny (model prog w) A (letOwnedTupleGo target it v) (fun _ s₂ => wpAny (model prog w) A (assign target env v) (fun _ s₃ =>
          wpAny (model prog w) A (forIn ifs true fun c r => if r = true then do let ok ← isTrue c env (eval c env); pure (ForInStep.yield ok) else pure (ForInStep.yield r)) (fun ok s₄ =>
            if ok = true then wpAny (model prog w) A (eval elt env) (fun x s₅ => wpAny (model prog w) A (call (.builtin "list.append") [acc, x]) (fun _ s₆ => ∃ m, m < n ∧ J m s₆) (fun _ _ => False) s₅) (fun _ _ => False) s₄
            else ∃ m, m < n ∧ J m s₄) (fun _ _ => False) s₃) (fun _ _ => False) s₂) (fun _ _ => False) s₁) (fun _ _ => False) s)
    (n : Nat) (h : J n s) : codeAny (model prog w) A (.compLoop (.ListComp elt [⟨target, iter, ifs, 0⟩] scope pos) 0 it acc env) R s := by
  refine codeAny_loop rfl J (fun n s hJ => ?_) n h
  show wpAny _ A ((compTurn (.ListComp elt [⟨target, iter, ifs, 0⟩] scope pos) 0 it acc env).onRaise (fun x => do noteFrame x env; theTreesLotGoes x)) _ _ s
  refine wpAny_noted ?_
  rw [compTurn_list]
  refine wpAny_bind (wpAny_standAt (wpAny_bind (wpAny_mono (turn n s hJ) (fun r s₁ h₁ => ?_) fun _ _ f => f.elim)))
  cases r with
  | none => exact wpAny_pure h₁
  | some v =>
    refine wpAny_bind (wpAny_mono h₁ (fun _ s₂ h₂ => wpAny_bind (wpAny_mono h₂ (fun _ s₃ h₃ => wpAny_bind (wpAny_mono h₃ (fun ok s₄ h₄ => ?_) fun _ _ f => f.elim)) fun _ _ f => f.elim)) fun _ _ f => f.elim)
    cases ok with
    | false => exact wpAny_pure ⟨rfl, h₄⟩
    | true => exact wpAny_bind (wpAny_bind (wpAny_mono h₄ (fun x s₅ h₅ => wpAny_bind (wpAny_mono h₅ (fun _ s₆ h₆ => wpAny_pure (wpAny_pure ⟨rfl, h₆⟩)) fun _ _ f => f.elim)) fun _ _ f => f.elim))
end
theorem closure_fold {env : Env} : ∀ (names : List (Str × NameKind)) (acc : List (Str × Addr)), (∀ y ∈ names, y.2 = NameKind.free → ∃ c, env.cells.lookup y.1 = some c) → (∀ y c, acc.lookup y = some c → env.cells.lookup y = some c) →
    ∃ cl, (forIn names acc fun (x : Str × NameKind) (r : List (Str × Addr)) => (match x with
        | (name, kind) => if (kind == NameKind.free) = true then do let c ← cellOf env name; pure (ForInStep.yield ((name, c) :: r)) else pure (ForInStep.yield r) : Sem (ForInStep (List (Str × Addr))))) = pure cl ∧
      (∀ y c, cl.lookup y = some c → env.cells.lookup y = some c) ∧ (∀ y, ((y, NameKind.free) ∈ names ∨ ∃ c, acc.lookup y = some c) → ∃ c, cl.lookup y = some c)
  | [], acc, _, ha => ⟨acc, by rw [List.forIn_nil], ha, fun y h => h.elim (fun z => nomatch z) id⟩
  | (n, k) :: r, acc, hf, ha => by
    rw [List.forIn_cons]
    dsimp only
    by_cases hk : k = NameKind.free
    · subst hk
      obtain ⟨c, hc⟩ := hf (n, .free) List.mem_cons_self rfl
      have e : cellOf env n = pure c := by unfold cellOf; rw [hc]
      rw [if_pos (by rfl), e]
      obtain ⟨cl, h1, h2, h3⟩ := closure_fold r ((n, c) :: acc) (fun y hy => hf y (List.mem_cons_of_mem _ hy)) (fun y d hd => by
        rw [List.lookup_cons] at hd
        by_cases hy : (y == n) = true
        · rw [hy] at hd
          have := eq_of_beq hy
          subst this
          cases hd
          exact hc
        · rw [Bool.not_eq_true] at hy
          rw [hy] at hd
          exact ha y d hd)
      refine ⟨cl, h1, h2, fun y hy => h3 y ?_⟩
      rcases hy with hy | ⟨d, hd⟩
      · rcases List.mem_cons.mp hy with z | z
        · cases z
          exact .inr ⟨c, by rw [List.lookup_cons]; simp⟩
        · exact .inl z
      · refine .inr ?_
        rw [List.lookup_cons]
        by_cases hy : (y == n) = true
        · rw [hy]; exact ⟨c, rfl⟩
        · rw [Bool.not_eq_true] at hy
          rw [hy]; exact ⟨d, hd⟩
    · rw [if_neg (by simpa using hk)]
      obtain ⟨cl, h1, h2, h3⟩ := closure_fold r acc (fun y hy => hf y (List.mem_cons_of_mem _ hy)) ha
      refine ⟨cl, h1, h2, fun y hy => h3 y ?_⟩
      rcases hy with hy | hy
      · rcases List.mem_cons.mp hy with z | z
        · cases z; exact absurd rfl hk
        · exact .inl z
      · exact .inr hy
theorem closure_ok {scope : Scope} {env : Env} (hf : ∀ y ∈ scope.names, y.2 = NameKind.free → ∃ c, env.cells.lookup y.1 = some c) :
    ∃ cl, closureFor scope env = pure cl ∧ (∀ y c, cl.lookup y = some c → env.cells.lookup y = some c) ∧ (∀ y, (y, NameKind.free) ∈ scope.names → ∃ c, cl.lookup y = some c) := by
  obtain ⟨cl, h1, h2, h3⟩ := closure_fold (env := env) scope.names [] hf (fun _ _ z => nomatch z)
  refine ⟨cl, ?_, h2, fun y hy => h3 y (.inl hy)⟩
  simp only [closureFor]
  rw [h1]
  rfl
theorem mem_of_lookup {κ : Type} {y : Str} {k : κ} : ∀ {l : List (Str × κ)}, l.lookup y = some k → (y, k) ∈ l
  | (n, c) :: r, h => by
    rw [List.lookup_cons] at h
    by_cases hy : (y == n) = true
    · rw [hy] at h; cases h; rw [eq_of_beq hy]; exact List.mem_cons_self
    · rw [Bool.not_eq_true] at hy; rw [hy] at h; exact List.mem_cons_of_mem _ (mem_of_lookup h)
theorem relabel_free {scope : Scope} {env : Env} (hcell : ∀ y ∈ scope.names, y.2 ≠ NameKind.cell) {y : Str} {k : NameKind} (h : (relabel scope env).names.lookup y = some k) (hk : k = .cell ∨ k = .free) : (y, NameKind.free) ∈ scope.names := by
  have m := mem_of_lookup h
  unfold relabel at m
  obtain ⟨⟨n, c⟩, hm, e⟩ := List.mem_map.mp m
  dsimp only at e
  by_cases hc : (c == NameKind.free) = true
  · have := eq_of_beq hc
    subst this
    split at e <;> (injection e with e1 e2; subst e1; exact hm)
  · rw [if_neg (by simp [hc])] at e
    injection e with e1 e2
    subst e1 e2
    rcases hk with rfl | rfl
    · exact absurd rfl (hcell _ hm)
    · exact absurd rfl hc
abbrev cxComp (X : Cx) (scope : Scope) (cl : List (Str × Addr)) (N : List Str) (C : Addr) (s₂ : Shared) (H₂ : Hp) (fp : List Addr) : Cx :=
  { X with N := N, s₀ := s₂, H₀ := H₂, env := compEnvC scope cl C X.env, outer := X.stack, stack := X.stack, ex := fp, fn := fun _ => false, pn := [], xe := fun _ _ => False }
def PF (X : Cx) (ifs : List Expr) (t : TT) : Prop :=
  ∀ (pins : List (Addr × Obj)) (s : Shared) (σ : St) (H : Hp) (Q : Bool → Hp → Prop), Inv X pins σ H s → t σ H Q →
    wpAny (model X.prog X.w) X.A (forIn ifs true fun c r => if r = true then do let ok ← isTrue c X.env (eval c X.env); pure (ForInStep.yield ok) else pure (ForInStep.yield r)) (TP X pins σ Q) X.xe s
theorem pf_nil {X : Cx} : PF X [] (fun _ H Q => Q true H) := fun _ _ _ H _ I h => wpAny_tests_nil ⟨H, I, h⟩
theorem pf_one {X : Cx} {c : Expr} {t : TT} (h : PT X c t) : PF X [c] t := fun pins s σ H Q I q => wpAny_tests_one (h pins s σ H Q I q)
def cSt (σ : St) (fr : List (Nat × Str)) (v : Option V) : St := v :: fr.map fun p => (σ[p.1]?).join
def tComp (wi : TI) (fr : List (Nat × Str)) (tc : TT) (te : TE) : TE := fun σ H Q => wi σ H fun J H1 => ∃ W : Nat → Nat → List V → Hp → Prop, (∃ m, W 0 m [] H1) ∧ ∀ i m ys H, W i m ys H →
  (J.stop i H ∧ ys.length ≤ sizeLine ∧ ∀ p, H p = none → Q (.ref p) (upd H p (.lst ys))) ∨
  (J.go i H ∧ ys.length ≤ sizeLine ∧ ∀ v H', J.yld i H v H' → tc (cSt σ fr (some v)) H' fun b H2 => if b = true then te (cSt σ fr (some v)) H2 fun y H3 => ∃ m', m' < m ∧ W (i + 1) m' (ys ++ [y]) H3 else ∃ m', m' < m ∧ W (i + 1) m' ys H2)
theorem Vals.snoc {xs : List V} {us : List Value} {x : V} {u : Value} (r : Vals xs us) (q : RelV x u) : Vals (xs ++ [x]) (us ++ [u]) := Vals.append r (.cons q .nil)
section
variable {X : Cx}
theorem pe_comp {x : Str} {px pos : Pos} {elt iter : Expr} {ifs : List Expr} {scope : Scope} {fr : List (Nat × Str)} {wi : TI} {tc : TT} {te : TE} (hcalm : X.calm = true) (hi : PI X (.Name x px) iter wi)
    (hN : (x :: fr.map (·.2)).Nodup) (hfr : ∀ p ∈ fr, X.N[p.1]? = some p.2 ∧ (X.env.kindOf p.2 = some .cell ∨ X.env.kindOf p.2 = some .free))
    (hfree : ∀ y ∈ scope.names, y.2 = NameKind.free → X.env.kindOf y.1 = some .cell ∨ X.env.kindOf y.1 = some .free)
    (hfs : ∀ p ∈ fr, (p.2, NameKind.free) ∈ scope.names ∧ ((relabel scope X.env).names.lookup p.2 = some .cell ∨ (relabel scope X.env).names.lookup p.2 = some .free))
    (hcell : ∀ y ∈ scope.names, y.2 ≠ NameKind.cell) (hkind : scope.kind = .function) (hnames : ∀ y ∈ scope.names, y.2 = NameKind.local → scope.names.lookup y.1 = some .local) (hx : scope.names.lookup x = some .local)
    (ht : ∀ cl C s₂ H₂ fp, PF (cxComp X scope cl (x :: fr.map (·.2)) C s₂ H₂ fp) ifs tc) (he : ∀ cl C s₂ H₂ fp, PE (cxComp X scope cl (x :: fr.map (·.2)) C s₂ H₂ fp) elt te)
    (hs : ∀ x, foldedSetIterable iter X.env x = pure x := by intro _; rfl) : PE X (.ListComp elt [⟨.Name x px, iter, ifs, 0⟩] scope pos) (tComp wi fr tc te) := by
  intro pins s σ H Q I h
  obtain ⟨cl, hcl, hc1, hc2⟩ := closure_ok (scope := scope) (env := X.env) fun y hy hk => I.ok.has y.1 (hfree y hy hk)
  rw [eval_ListComp]
  refine wpAny_comprehension_free (use := none) rfl hs hcl hkind hnames (thn (hi pins s σ H _ I h) fun xv s₁ h₁ => thn h₁ fun itv s₂ h₂ => ?_)
  obtain ⟨it, fp, tn, J, H2, e, I2, T, st2, f2, W, ⟨m0, w0⟩, turn⟩ := h₂
  subst e
  -- the list that is filled, the block's names
  refine wpAny_newObj_type (wpAny_newFunctionEnv hcell (by intro y hy; simp at hy) (fun h₁ hns₁ hsb₁ => ?_) hkind)
  dsimp only at hns₁ hsb₁ ⊢
  generalize hD : s₂.heap.objs.size = D at hns₁ hsb₁ ⊢
  generalize hG : s₂.heap.push { cls := .type "list", dict := none, data := .seq ([] : List Value).toArray } = G at hns₁ hsb₁ ⊢
  have hC : G.objs.size = D + 1 := by rw [← hG, Heap.size_push, hD]
  generalize hCC : G.objs.size = C at hns₁ hsb₁ hC ⊢
  subst hC
  have fpD : ∀ b ∈ fp, b < D := fun b hb => by
    obtain ⟨o, e, _⟩ := T.obj _ _ st2 b hb
    rw [← hD]; exact Heap.lt_size e
  have old : ∀ b o, s₂.heap.get? b = some o → h₁.get? b = some o := fun b o e => hsb₁.extBut b o (Nat.ne_of_lt (Nat.lt_succ_of_lt (by rw [← hD]; exact Heap.lt_size e))) (Heap.get?_push_of_some _ (hG ▸ Heap.get?_push_of_some _ e))
  have hGD : G.get? D = some { cls := .type "list", dict := none, data := .seq ([] : List Value).toArray } := by
    rw [← hG, ← hD]
    exact Heap.get?_push_size _ rfl
  have hacc : h₁.PlainList D #[] := ⟨0, hsb₁.extBut _ _ (Nat.ne_of_lt (Nat.lt_succ_self D)) (Heap.get?_push_of_some _ hGD)⟩
  have clD : ∀ y c, cl.lookup y = some c → c < D := fun y c e => by
    obtain ⟨v, q⟩ := I2.cell y c (hc1 y c e)
    rw [← hD]; exact q.lt
  have stkD : ∀ b ∈ frs X.stack, b < D := fun b hb => by
    rcases List.mem_cons.mp (I2.stkSub b hb) with e | hb
    · rw [e, ← hD]; exact I2.lt
    · rw [← hD]
      exact Nat.lt_of_not_le fun z => I2.nofs z hb
  have fpS : ∀ b ∈ fp, b ∉ frs X.stack := fun b hb hb' => by
    rcases List.mem_cons.mp (I2.stkSub b hb') with e | z
    · exact (f2 b hb).2.1 e
    · exact (f2 b hb).2.2.1 z
  generalize hX' : cxComp X scope cl (x :: fr.map (·.2)) (D + 1) s₂ H2 fp = X'
  have ok' : X'.Ok := by
    subst hX'
    refine ⟨I2.ok.mod, hkind, I2.ok.glob, I2.ok.blt, (by show s₂.heap.objs.size ≤ D + 1; omega), fun y z c e1 e2 => I2.ok.inj y z c (hc1 _ _ e1) (hc1 _ _ e2), fun y hy => ?_, (fun _ _ z => Bool.noConfusion z), I2.ok.hd, I2.ok.frames, .inl rfl, fun b hb => ⟨?_, fun y c e => ?_⟩, fun b o e => I2.bs b o e, ?_, fun b o e hb => ?_, fpS, I2.env0.funs, I2.stkFree⟩
    · rcases hy with hy | hy
      · exact hc2 y (relabel_free hcell hy (.inl rfl))
      · exact hc2 y (relabel_free hcell hy (.inr rfl))
    · exact Nat.ne_of_lt (Nat.lt_succ_of_lt (fpD b hb))
    · exact (f2 b hb).2.2.2.2.1 y c (hc1 y c e)
    · exact Nat.le_trans I2.ok.bsz I2.sz
    · rcases (f2 b hb).2.2.2.1 with z | z
      · exact I2.ok.noex b o e z
      · exact absurd (Nat.lt_of_lt_of_le (Heap.lt_size (I2.ok.bs b o e).1) z) (Nat.lt_irrefl _)
  have hL' : X'.env.locals = D + 1 := by subst hX'; rfl
  have hcells' : X'.env.cells = cl := by subst hX'; rfl
  have hfs' : X'.fs = frs X.stack := by subst hX'; rfl
  have hpn' : X'.pn = [] := by subst hX'; rfl
  have hs0' : X'.s₀ = s₂ := by subst hX'; rfl
  have hH0' : X'.H₀ = H2 := by subst hX'; rfl
  have hex' : X'.ex = fp := by subst hX'; rfl
  have hN' : X'.N = x :: fr.map (·.2) := by subst hX'; rfl
  have hA' : X'.A = X.A := by subst hX'; rfl
  have hPr : X'.prog = X.prog ∧ X'.w = X.w ∧ X'.K = X.K ∧ X'.calm = true := by subst hX'; exact ⟨rfl, rfl, rfl, hcalm⟩
  have hxe' : X'.xe = fun _ _ => False := by subst hX'; rfl
  have henv' : X'.env = compEnvC scope cl (D + 1) X.env := by subst hX'; rfl
  have ht' : PF X' ifs tc := hX' ▸ ht cl (D + 1) s₂ H2 fp
  have he' : PE X' elt te := hX' ▸ he cl (D + 1) s₂ H2 fp
  have hg' : PG X' (.Name x px) (gName 0) := by
    refine pg_name (by rw [hN']; exact hN) (by rw [hN']; rfl) (.inl ?_) (.inr ?_) <;> (rw [henv']; exact lookup_relabel_local hx)
  have fresh : ∀ b, D ≤ b → H2 b = none := fun b hb => I2.hok.fresh (by rw [hD]; exact hb)
  have start : ∀ t, Inv X' [] (cSt σ fr none) H2 { s₂ with heap := h₁, toks := t } := fun t => by
    refine ⟨ok', by rw [hs0'], I2.bare, ?_, ⟨_, by rw [hL']; exact hns₁, fun i y v e1 e2 e3 => ?_⟩, fun y c e => ?_, by rw [hL']; exact fresh _ (Nat.le_succ _), fun y c e => ?_, fun p hp => ?_, ?_, ?_⟩
    · rw [hfs', hex', hH0', hs0']
      exact Un.kept old
    · rw [hN'] at e1
      cases i with
      | zero => cases e2
      | succ i =>
        rw [List.getElem?_cons_succ, List.getElem?_map] at e1
        cases ej : fr[i]? with
        | none => rw [ej] at e1; cases e1
        | some p =>
          rw [ej] at e1
          obtain rfl : p.2 = y := Option.some.inj e1
          have e2' : (σ[p.1]?).join = some v := by
            unfold cSt at e2
            rw [List.getElem?_cons_succ, List.getElem?_map, ej] at e2
            exact Option.some.inj e2
          have e2'' : σ[p.1]? = some (some v) := by
            cases q : σ[p.1]? with
            | none => rw [q] at e2'; cases e2'
            | some z => rw [q] at e2'; exact congrArg some e2'
          have hp := List.mem_of_getElem? ej
          obtain ⟨m, hn, hl⟩ := I2.loc
          obtain ⟨u, r, l⟩ := hl p.1 p.2 v (hfr p hp).1 e2'' (by rcases (hfr p hp).2 with z | z; exact .inr (.inl z); exact .inr (.inr z))
          refine ⟨u, r, .inr ⟨?_, ?_⟩⟩
          · rw [henv']; exact (hfs p hp).2
          · rcases l with ⟨z, _⟩ | ⟨_, c, ec, q⟩
            · exfalso
              rcases (hfr p hp).2 with z' | z' <;> (rw [z] at z'; cases z')
            · obtain ⟨c', ec'⟩ := hc2 p.2 (hfs p hp).1
              have := hc1 _ _ ec'
              rw [ec] at this
              cases this
              obtain ⟨o, ho, hd⟩ := q
              exact ⟨c, by rw [hcells']; exact ec', o, old _ _ ho, hd⟩
    · rw [hcells'] at e
      obtain ⟨v, o, ho, hd⟩ := I2.cell y c (hc1 y c e)
      exact ⟨v, o, old _ _ ho, hd⟩
    · rw [hcells'] at e
      exact I2.freeC y c (hc1 y c e)
    · rw [hpn'] at hp; exact nomatch hp
    · rw [hPr.1, hPr.2.1]
      exact I2.hok.kept old
    · rw [hN']; unfold cSt; simp
  have FP : ∀ {pins' : List (Addr × Obj)} {H' : Hp}, (∀ b ∈ fp, H' b = none) → (∀ p ∈ pins', p.1 = D) → ∀ b ∈ fp, FpOk X' pins' H' b := fun hn hp b hb => by
    refine ⟨hn b hb, ?_, ?_, .inl (by rw [hex']; exact hb), fun y c e => ?_, fun p hp' => ?_⟩
    · rw [hL']; exact Nat.ne_of_lt (Nat.lt_succ_of_lt (fpD b hb))
    · rw [hfs']; exact fpS b hb
    · rw [hcells'] at e; exact (f2 b hb).2.2.2.2.1 y c (hc1 y c e)
    · rw [hpn'] at hp'
      rw [hp p hp']
      exact Nat.ne_of_gt (fpD b hb)
  -- the turns
  have loop : ∀ s₃ : Shared, s₃ = { s₂ with heap := h₁, toks := s₂.toks + ([] : List (Str × Value)).length } →
      codeAny (model X.prog X.w) X.A (.compLoop (.ListComp elt [⟨.Name x px, iter, ifs, 0⟩] scope pos) 0 (.ref it) (.ref D) (compEnvC scope cl (D + 1) X.env))
        (compPost (model X.prog X.w) X.A X.xe none (EP X pins σ Q) (.ref D) (D + 1)) s₃ := by
    rintro s₃ rfl
    rw [← henv', ← hPr.1, ← hPr.2.1, ← hA']
    refine comp_loop (fun k s' => ∃ i ys its H', Inv X' [] (cSt σ fr none) H' s' ∧ tn i s'.heap ∧ (∀ b ∈ fp, H' b = none) ∧ s'.heap.PlainList D its.toArray ∧ Vals ys its ∧ H' D = none ∧ W i k ys H') ?_ m0
      ⟨0, [], [], H2, start _, T.keep _ _ _ st2 fun b hb o e => old b o e, fun b hb => (f2 b hb).1, hacc, .nil, fresh _ (Nat.le_refl _), w0⟩
    rintro n s3 ⟨i, ys, its, H3, I3, st3, fr3, ac3, rv3, hD3, w3⟩
    obtain ⟨na, ac3'⟩ := id ac3
    have I3' : Inv X' [(D, { cls := .type "list", data := .seq its.toArray na })] (cSt σ fr none) H3 s3 := I3.pins_of fun p hp => by
      rw [List.mem_singleton] at hp
      subst hp
      refine ⟨ac3', hD3, by rw [hL']; exact Nat.ne_of_lt (Nat.lt_succ_self D), by rw [hfs']; exact fun z => Nat.lt_irrefl _ (stkD D z), fun v z => nomatch z⟩
    have hT := T
    rw [← hPr.1, ← hPr.2.1, ← hPr.2.2.1] at hT
    rcases turn i n ys H3 w3 with ⟨stop, hlen, qn⟩ | ⟨go, hlen, step⟩
    · refine thn (hT.done X' rfl rfl rfl hPr.2.2.2 i _ s3 _ H3 _ I3' (FP fr3 (by intro p hp; rw [List.mem_singleton.mp hp])) st3 stop) fun r s4 ⟨hr, I4⟩ => ?_
      subst hr
      obtain ⟨m4, hn4, _⟩ := id I4.loc
      refine ⟨m4, hL' ▸ hn4, fun h' hs' => ?_⟩
      have hneD : D ≠ D + 1 := Nat.ne_of_lt (Nat.lt_succ_self D)
      have ac4 := (I4.pin (D, _) (List.mem_append_right _ List.mem_cons_self))
      have ac5 : h'.get? D = some { cls := .type "list", data := .seq its.toArray na } := (hs'.2 D hneD).trans ac4.1
      have un : Un (frs X.stack) fp H2 H3 s₂.heap s4.heap := by
        have := I4.base
        rw [hfs', hex', hH0', hs0'] at this
        exact this
      have kp : ∀ b o, b ≠ D + 1 → s4.heap.get? b = some o → h'.get? b = some o := fun b o hb e => (hs'.2 b hb).trans e
      have neC : ∀ b o, s₂.heap.get? b = some o → b ≠ D + 1 ∧ b ≠ D := fun b o e => by
        have := Heap.lt_size e
        rw [hD] at this
        exact ⟨Nat.ne_of_lt (Nat.lt_succ_of_lt this), Nat.ne_of_lt this⟩
      have un' : Un (frs X.stack) fp H2 (upd H3 D (.lst ys)) s₂.heap h' := by
        refine ⟨fun b o e n hb hx => kp b o (neC b o e).1 (un.keep b o e n hb hx), fun b o e n hb hx => ?_, fun b o e n hx => by rw [upd_ne (neC b o e).2]; exact un.free b o e n hx, fun b o e hx => ?_, fun b xs e => ?_, fun b o u e => ?_, fun b ps e => ?_⟩
        · obtain ⟨sl, z⟩ := un.slot b o e n hb hx
          exact ⟨sl, kp _ _ (neC b o e).1 z⟩
        · obtain ⟨o', z⟩ := un.there b o e hx
          exact ⟨o', kp _ _ (neC b o e).1 z⟩
        · rw [upd_ne (ne_of_none e (fresh D (Nat.le_refl _)))]; exact un.tups b xs e
        · rw [upd_ne (ne_of_none e (fresh D (Nat.le_refl _)))]; exact un.frzs b o u e
        · rw [upd_ne (ne_of_none e (fresh D (Nat.le_refl _)))]; exact un.tbls b ps e
      have hfreeC : H3 (D + 1) = none := by have := I4.free; rw [hL'] at this; exact this
      have hok' : HOk X.prog X.w (upd H3 D (.lst ys)) h' := fun b u e => by
        by_cases hb : b = D
        · subst hb
          rw [upd_same] at e
          cases e
          exact ⟨hlen, its, na, rv3, ac5⟩
        · rw [upd_ne hb] at e
          have z := I4.hok b u e
          rw [hPr.1, hPr.2.1] at z
          refine z.stay (fun c v hc q => kp c v ?_ q) (fun c q => by rw [upd_ne (ne_of_none q hD3)]; exact q) fun c xs q => by rw [upd_ne (ne_of_none q hD3)]; exact q
          rintro rfl
          rcases hc with rfl | hc
          · rw [hfreeC] at e; cases e
          · rw [hfreeC] at hc; cases hc
      refine ⟨.ref D, _, I2.call' (s' := { s4 with heap := h' }) (ch := fp) ?_ un' hok' I4.bare (fun b hb => ⟨(f2 b hb).2.2.2.1, (f2 b hb).2.1, (f2 b hb).2.2.2.2.1, (f2 b hb).2.2.2.2.2⟩), rfl, qn D hD3⟩
      have := I4.os
      rw [hs0'] at this
      exact this
    · refine thn (hT.item X' rfl rfl rfl hPr.2.2.2 i _ s3 _ H3 _ I3' (FP fr3 (by intro p hp; rw [List.mem_singleton.mp hp])) st3 go) fun r s4 ⟨u, hr, h4⟩ => ?_
      subst hr
      refine thn h4 fun _ s5 ⟨v, H5, I5, r5, y5, st5, fr5⟩ => ?_
      have I5' := I5.pinned (FP fr5 (by intro p hp; rw [List.mem_singleton.mp hp])) (T.obj _ _ st5)
      have g5 := hg' _ s5 (cSt σ fr none) H5 v u (fun σ6 H6 => σ6 = cSt σ fr (some v) ∧ H6 = H5) I5' r5 ⟨rfl, rfl⟩
      rw [hxe'] at g5
      refine thn g5 fun _ s6 ⟨σ6, H6, I6, e6, e6'⟩ => ?_
      subst e6 e6'
      have t6 := ht' _ s6 _ H6 _ I6 (step v H6 y5)
      rw [hxe'] at t6
      refine thn t6 fun ok s7 ⟨H7, I7, q7⟩ => ?_
      have back : ∀ {H8 : Hp} {s8 : Shared} {ys' : List V} {its' : List Value} {pl : List (Addr × Obj)}, Inv X' (pl ++ pinsAt fp s5.heap) (cSt σ fr (some v)) H8 s8 → s8.heap.PlainList D its'.toArray → Vals ys' its' → H8 D = none → (∃ m', m' < n ∧ W (i + 1) m' ys' H8) →
          ∃ m, m < n ∧ ∃ i ys its H', Inv X' [] (cSt σ fr none) H' s8 ∧ tn i s8.heap ∧ (∀ b ∈ fp, H' b = none) ∧ s8.heap.PlainList D its.toArray ∧ Vals ys its ∧ H' D = none ∧ W i m ys H' := fun {H8 s8 ys' its' pl} I8 ac8 rv8 hD8 ⟨m', hm, w8⟩ => by
        refine ⟨m', hm, i + 1, ys', its', H8, (I8.pins_of (pins' := []) (fun p hp => absurd hp List.not_mem_nil)).weak (by unfold cSt; simp) ?_, T.keep _ _ _ st5 fun b hb o e => (I8.pin (b, o) (List.mem_append_right _ (List.mem_append_right _ (mem_pinsAt hb e)))).1, fun b hb => ?_, ac8, rv8, hD8, w8⟩
        · intro j z e
          cases j with
          | zero => cases e
          | succ j => exact e
        · obtain ⟨o, e, d⟩ := T.obj _ _ st5 b hb
          exact (I8.pin (b, o) (List.mem_append_right _ (List.mem_append_right _ (mem_pinsAt hb e)))).2.1
      have accOf : ∀ {H8 : Hp} {s8 : Shared} {σ8 : St}, Inv X' ([(D, { cls := .type "list", data := .seq its.toArray na })] ++ pinsAt fp s5.heap) σ8 H8 s8 → s8.heap.PlainList D its.toArray ∧ H8 D = none := fun I8 =>
        have z := I8.pin (D, _) (List.mem_append_right _ (List.mem_append_left _ List.mem_cons_self))
        ⟨⟨na, z.1⟩, z.2.1⟩
      cases ok with
      | false =>
        rw [if_neg Bool.false_ne_true] at q7 ⊢
        exact back I7 (accOf I7).1 rv3 (accOf I7).2 q7
      | true =>
        rw [if_pos rfl] at q7 ⊢
        have t7 := he' _ s7 _ H7 _ I7 q7
        rw [hxe'] at t7
        refine thn t7 fun y s8 ⟨vy, H8, I8, r8, q8⟩ => ?_
        obtain ⟨ac8, hD8⟩ := accOf I8
        refine wpAny_list_append_plain (hsz := by have := rv3.length; rw [List.size_toArray, ← this]; exact hlen) ac8 fun h9 ac9 hs9 => ?_
        have I9 : Inv X' ([] ++ pinsAt fp s5.heap) (cSt σ fr (some v)) H8 s8 := I8.pins_of fun p hp => (I8.pin p (List.mem_append_right _ (List.mem_append_right _ hp)))
        have I10 : Inv X' ([] ++ pinsAt fp s5.heap) (cSt σ fr (some v)) H8 { s8 with heap := h9 } := by
          refine I9.turned (t' := s8.toks) (it := D) (fun b o hb e => (hs9.2 b hb).trans e) hD8 (by rw [hL']; exact Nat.ne_of_lt (Nat.lt_succ_self D)) (.inr (by rw [hs0', hD]; exact Nat.le_refl _)) (fun y' c e => ?_) fun p hp => ?_
          · rw [hcells'] at e; exact Nat.ne_of_lt (clD y' c e)
          · rw [hpn'] at hp
            exact Nat.ne_of_lt (fpD _ (of_pinsAt hp).1)
        have e9 : its.toArray.push y = (its ++ [y]).toArray := by simp
        rw [e9] at ac9
        exact back I10 ac9 (rv3.snoc r8) hD8 q8
  exact codeAny_compStart_list (loop _ rfl) (T.self _ 0 _ _ _ (T.keep _ _ _ st2 fun b hb o e => old b o e) (loop _ rfl))
end
end L2
set_option Elab.async false
set_option linter.all false
set_option maxRecDepth 100000
set_option maxHeartbeats 4000000
namespace L2
open PySem PySem.Spec PyProof.Rows
def TagOf (H : Hp) (x : V) (T : String) : Prop := match x with
  | .non => T = "NoneType"
  | .bl _ => T = "bool"
  | .int _ => T = "int"
  | .str _ => T = "str"
  | .ref a => ((∃ xs, H a = some (.lst xs)) ∧ T = "list") ∨ ((∃ xs, H a = some (.tup xs)) ∧ T = "tuple") ∨ ((∃ kvs, H a = some (.dK kvs)) ∧ T = "dict")
  | _ => False
def instB (T C : String) : Bool := T == C || (T == "bool" && C == "int")
theorem TagOf.ty {K : PySem.W.Frag} {H : Hp} {x : V} {T : String} (h : TagOf H x T) : TyOf K H x (.type T) := by
  cases x with
  | non => cases (show T = "NoneType" from h); exact .non
  | bl b => cases (show T = "bool" from h); exact .bl b
  | int i => cases (show T = "int" from h); exact .int i
  | str z => cases (show T = "str" from h); exact .str z
  | ref a =>
    rcases h with ⟨⟨xs, e⟩, rfl⟩ | ⟨⟨xs, e⟩, rfl⟩ | ⟨⟨xs, e⟩, rfl⟩
    · exact .lst e
    · exact .tup e
    · exact .dK e
  | _ => exact h.elim
theorem TagOf.one {H : Hp} {x : V} {T : String} (h : TagOf H x T) : T = "NoneType" ∨ T = "bool" ∨ T = "int" ∨ T = "str" ∨ T = "list" ∨ T = "tuple" ∨ T = "dict" := by
  cases x with
  | non => exact .inl h
  | bl b => exact .inr (.inl h)
  | int i => exact .inr (.inr (.inl h))
  | str z => exact .inr (.inr (.inr (.inl h)))
  | ref a =>
    rcases h with ⟨_, rfl⟩ | ⟨_, rfl⟩ | ⟨_, rfl⟩ <;> simp
  | _ => exact h.elim
def isiC : List String := ["int", "str", "bool", "tuple", "list"]
theorem kit_of (K : PySem.W.Frag) {T C : String} (h : T = "NoneType" ∨ T = "bool" ∨ T = "int" ∨ T = "str" ∨ T = "list" ∨ T = "tuple" ∨ T = "dict") (hC : C ∈ isiC) : PySem.W.kitOne K (.type T) (.type C) = some (instB T C) := by
  have hC : C = "int" ∨ C = "str" ∨ C = "bool" ∨ C = "tuple" ∨ C = "list" := by simpa [isiC] using hC
  rcases h with rfl | rfl | rfl | rfl | rfl | rfl | rfl <;> rcases hC with rfl | rfl | rfl | rfl | rfl <;> kernel_rfl
section
variable {X : Cx}
theorem call_isinst : CallR X (.builtin "isinstance") (fun xs H Q => ∃ x C T, xs = [x, .ty C] ∧ TagOf H x T ∧ C ∈ isiC ∧ Q (.bl (instB T C)) H) := by
  intro pins s σ H xs us Q I r h
  obtain ⟨x, C, T, rfl, ht, hC, q⟩ := h
  obtain ⟨u, w', rfl, rx, ry⟩ := vals2 r
  cases (show w' = Value.type C from ry)
  exact isinst_ok I rx ht.ty (kit_of X.K ht.one hC) fun tk => ⟨.bl _, H, I.tok tk, rfl, q⟩
def CDivB (i j : Int) : Prop := 0 < j ∧ j < 2 ^ 64
theorem op_fdivB : OpR X (binaryOp .FloorDiv) (rI CDivB fun i j => .int (i / j)) := opI fun i j _ _ _ _ _ hc q => by
  obtain ⟨h0, h1⟩ := hc
  refine floordiv_int (by omega) ?_ (.inl (PyProof.noPylong_of_log2 ?_))
  · rw [Int.fdiv_eq_ediv_of_nonneg _ (by omega)]
    exact q
  · have : j.natAbs.log2 < 64 := (Nat.log2_lt (by omega)).mpr (by omega)
    omega
structure KDict (K : PySem.W.Frag) (P : Params) (a : Addr) (kvs : List (Str × V)) : Prop where
  ex : ∃ es n, K.lookup a = some ⟨.type "dict", none, .dict es n, #[]⟩ ∧ Paired (fun (p : Str × V) (e : DictEntry) => (∃ t, e.key = .str p.1 t) ∧ e.hash = PyData.keyHash P p.1 ∧ RelV p.2 e.val) kvs es.toList
  lo : (a == sysModules) = false
structure KDictT (K : PySem.W.Frag) (P : Params) (a : Addr) (kvs : List ((Str × Str) × V)) : Prop where
  ex : ∃ es n, K.lookup a = some ⟨.type "dict", none, .dict es n, #[]⟩ ∧ Paired (fun (p : (Str × Str) × V) (e : DictEntry) => (∃ (b : Addr) (t t' : Tok) (m : Nat), e.key = .ref b ∧ K.lookup b = some ⟨.type "tuple", none, .seq #[.str p.1.1 t, .str p.1.2 t'] m, #[]⟩) ∧
    e.hash = reduceHash (Builtin.Tuple.tupleHashOf [PyData.keyHash P p.1.1, PyData.keyHash P p.1.2]) ∧ RelV p.2 e.val) kvs es.toList
  nd : (kvs.map (·.1)).Nodup
  lo : (a == sysModules) = false
end
end L2
namespace L2
open PySem PySem.Spec PyProof.Rows
structure Cal (P : Program) (w : World) (K : PySem.W.Frag) (mg : Str → Option Value) (base : Heap) (x : Str) (ps : List Str) (k : Nat) (sp : Sp) : Prop where
  ex : ∃ f fd, FnOk P w K mg base CX0 k f fd ps sp ∧ mg x = some (.ref f) ∧ PySem.W.keepIn K (.ref f) = true ∧ Binds K fd ps []
section
variable {X : Cx} {x : Str} {ps : List Str} {k : Nat} {sp : Sp} {e : Expr} {es : List Expr} {t : TA} {p pos : Pos}
theorem pe_cal (c : Cal X.prog X.w X.K X.mg X.base x ps k sp) (hr : Room k X.A) (hg : Gl X x) (ha : PA X (e :: es) t) (hn : x ≠ "__name__" := by decide) (hdb : (x == ("__debug__" : Str)) = false := by decide)
    (he : starEach (e :: es) X.env = (false, eval e X.env) :: starEach es X.env := by rfl) (hpl : (backTo pos (starEach es X.env)).any (·.1) = false := by rfl) : PE X (.Call (.Name x p) (e :: es) [] pos) (tCall sp [] E0 t) := by
  obtain ⟨f, fd, F, hm, hk, hb⟩ := c.ex
  exact pe_call F hr hg hm hk hb .nil pass0 ha hdb he hpl
end
structure TX (K : PySem.W.Frag) (mg : Str → Option Value) : Prop where
  of : ∀ {n : Str} {v : Value}, PySem.W.nsIn K mainGlobals n = some (some v) → mg n = some v
  no : ∀ {n : Str}, PySem.W.nsIn K mainGlobals n = some none → mg n = none
theorem TX.mk' {K : PySem.W.Frag} {mg : Str → Option Value} {h : Heap} (X : K.In h) (G : h.Ns mainGlobals mg) : TX K mg := ⟨fun e => PySem.W.mg_of X G e, fun e => PySem.W.mg_none_of X G e⟩
end L2
namespace L2
open PySem PySem.Spec PyProof.Rows
section
variable {X : Cx}
def rAdd4 (K : PySem.W.Frag) : R2 := fun x y H Q => (∃ i j, x = .int i ∧ y = .int j ∧ Q (.int (i + j)) H) ∨ (∃ i j, x = .str i ∧ y = .str j ∧ i.length + j.length ≤ sizeLine ∧ Q (.str (i ++ j)) H) ∨ rCat x y H Q ∨ rCatT K x y H Q
theorem opAdd : OpR X (binaryOp .Add) (rAdd4 X.K) := op_add.or (op_add_str.or (op_cat.or op_catT))
theorem opEq : OpR X (compareOp .Eq) rEq := op_eq
theorem opNe : OpR X (compareOp .NotEq) rNe := op_ne
theorem callLen : CallR X (.builtin "len") (fun xs H Q => (∃ p ys, xs = [.ref p] ∧ (SqL X.K H p ys ∨ SqT X.K H p ys) ∧ Q (.int ys.length) H) ∨ ∃ z, xs = [.str z] ∧ z.length ≤ sizeLine ∧ Q (.int z.length) H) := call_len_seq.or call_len_str
end
end L2
set_option Elab.async false
set_option linter.all false
set_option maxRecDepth 100000
set_option maxHeartbeats 4000000
namespace L2
open PySem PySem.Spec PyProof.Rows
def wholeIn (x : V) (g : Int) : Bool := match x with
  | .int i => decide (-g ≤ i) && decide (i ≤ g)
  | _ => false
def tupOf (H : Hp) (x : V) : Option (List V) := match x with
  | .ref a => (match H a with | some (.tup xs) => some xs | _ => none)
  | _ => none
def Flat (H : Hp) (x : V) : Prop := ∀ xs, tupOf H x = some xs → xs.length ≤ 1000 ∧ ∀ y ∈ xs, ∃ T, TagOf H y T
theorem free_none {names : List (Str × NameKind)} {Q : Str × NameKind → Prop} (h : (names.all fun y => y.2 != NameKind.free) = true) : ∀ y ∈ names, y.2 = NameKind.free → Q y := fun y hy e => by
  have := List.all_eq_true.mp h y hy
  rw [e] at this
  exact absurd this (by decide)
theorem Same.upd {H : Hp} {p : Addr} {o : HO} (h : H p = none) : Same H (upd H p o) := fun b u e => by
  rw [upd_ne (ne_of_none e h)]
  exact e
theorem Same.seqT {K : PySem.W.Frag} {H H' : Hp} {a : Addr} {xs : List V} (e : Same H H') (h : SqT K H a xs) : SqT K H' a xs := by
  rcases h with (h | ⟨o, h⟩) | h
  · exact .inl (.inl (e _ _ h))
  · exact .inl (.inr ⟨o, e _ _ h⟩)
  · exact .inr h
end L2
set_option Elab.async false
set_option linter.all false
set_option maxRecDepth 100000
set_option maxHeartbeats 4000000
namespace L2
open PySem PySem.Spec PyProof.Rows
open Builtin.Str (occurrences partsBetween strKind)
section
variable {X : Cx}
def rSplit : V → List V → Hp → VK → Prop := fun x vs H Q => ∃ z y, x = .str z ∧ vs = [.str y] ∧ (y.length == 0) = false ∧ z.length ≤ sizeLine ∧ (partsBetween z (occurrences z y 0 z.length (z.length + 1)) y.length).length ≤ sizeLine ∧
  ∀ p, H p = none → Q (.ref p) (upd H p (.lst ((Txt.split z y).map V.str)))
def rUpper : V → List V → Hp → VK → Prop := fun x vs H Q => ∃ z, x = .str z ∧ vs = [] ∧ z.length ≤ 5592405 ∧ ((Txt.upper z).length ≤ 3 * z.length → Q (.str (Txt.upper z)) H)
theorem isPart_of {vl : Value} {lo : Option Int} (p : IsPart vl lo) : ∃ l : Option (Int × Tok), vl = partValue l ∧ l.map (·.1) = lo := by
  cases p with
  | none => exact ⟨none, rfl, rfl⟩
  | int i t => exact ⟨some (i, t), rfl, rfl⟩
end
end L2
set_option Elab.async false
set_option linter.all false
set_option maxRecDepth 100000
set_option maxHeartbeats 4000000
namespace L2
open PySem PySem.Spec PyProof.Rows
section
variable {X : Cx}
def rSlS : V → Option Int → Option Int → Hp → VK → Prop := fun x lo hi H Q => ∃ z, x = .str z ∧ z.length ≤ sizeLine ∧ Q (.str (Txt.slice z lo hi)) H
theorem sl_str : SlR X rSlS := by
  intro pins s σ H x v vl vu lo hi sl Q I rx hs pl pu h
  obtain ⟨z, rfl, hz, q⟩ := h
  obtain ⟨t, rfl⟩ := rx
  obtain ⟨l, rfl, el⟩ := isPart_of pl
  obtain ⟨u, rfl, eu⟩ := isPart_of pu
  subst el eu
  refine ⟨"str", _, F.slot_str_getitem.lookup, typeIs_str _ _ _, wpAny_getItem_str_slice (l := l) (u := u) (st := none) hs rfl
    (post_val_or_str ⟨Nat.le_trans (Txt.slice_le z _ _) hz, fun t' k => ⟨.str (Txt.slice z _ _), H, I.tok k, ⟨t', rfl⟩, q⟩⟩)⟩
theorem slSeq : SlR X (fun x lo hi H Q => rSlL X.K x lo hi H Q ∨ rSlT X.K x lo hi H Q ∨ rSlS x lo hi H Q) := sl_list.or (sl_tup.or sl_str)
theorem call_intT : CallR X (.type "int") (fun xs H Q => ∃ z n, xs = [.str z] ∧ PySem.intText? z = some n ∧ z.length ≤ 640 ∧ Q (.int n) H) := by
  intro pins s σ H xs us Q I r h
  obtain ⟨z, n, rfl, hn, hl, q⟩ := h
  obtain ⟨u, rfl, t, rfl⟩ := vals1 r
  exact PySem.W.KIN.call_text hn hl ⟨.int n, H, I.tok _, ⟨_, rfl⟩, q⟩
theorem call_int : CallR X (.type "int") (fun xs H Q => ((∃ i, xs = [.int i] ∧ Q (.int i) H) ∨ ∃ k, xs = [.bl k] ∧ Q (.int (if k then 1 else 0)) H) ∨ ∃ z n, xs = [.str z] ∧ PySem.intText? z = some n ∧ z.length ≤ 640 ∧ Q (.int n) H) := call_int1.or call_intT
end
def Itr3 (lo c : Int) (n : Nat) : It := ⟨fun i _ => i < n, fun i H x H' => H' = H ∧ x = .int (lo + i * c), fun i _ => n ≤ i⟩
section
variable {X : Cx} {tg : Expr}
def iRng3 (ta : TA) : TI := fun σ H R => ta σ H fun vs H1 => ∃ i j c : Int, vs = [.int i, .int j, .int c] ∧ c ≠ 0 ∧ Builtin.divisionGoesByPylong (j - i) c = false ∧ Builtin.Range.small i j c = true ∧ 0 ≤ Builtin.Range.rangeSize i j c ∧ R (Itr3 i c (Builtin.Range.rangeSize i j c).toNat) H1
end
end L2
set_option Elab.async false
set_option linter.all false
set_option maxRecDepth 100000
set_option maxHeartbeats 4000000
namespace L2
open PySem PySem.Spec PyProof.Rows
def RowAt (H : Hp) (r : Addr) : Prop := ∃ a b c : Int, H r = some (.lst [.int a, .int b, .int c]) ∧ 0 ≤ c ∧ c < 536870909
def Kept (r : Addr) (H H' : Hp) : Prop := ∀ b o, b ≠ r → H b = some o → H' b = some o
theorem Kept.refl {r : Addr} {H : Hp} : Kept r H H := fun _ _ _ h => h
theorem Kept.trans {r : Addr} {H H1 H2 : Hp} (a : Kept r H H1) (b : Kept r H1 H2) : Kept r H H2 := fun c o n h => b c o n (a c o n h)
theorem Same.kept {r : Addr} {H H' : Hp} (s : Same H H') : Kept r H H' := fun b o _ h => s b o h
theorem Kept.set {r : Addr} {H : Hp} {o : HO} : Kept r H (upd H r o) := fun b u n h => by rw [upd_ne n]; exact h
structure Rw (r : Addr) (H H' : Hp) : Prop where
  k : Kept r H H'
  r : RowAt H' r
def Off (r : Addr) (H : Hp) (x : V) : Prop := ∃ T, TagOf H x T ∧ x ≠ .ref r
def Good (r : Addr) (H : Hp) (x : V) : Prop := Off r H x ∧ ∀ xs, tupOf H x = some xs → xs.length ≤ 1000 ∧ ∀ y ∈ xs, Off r H y
def GE (r : Addr) (te : TE) (σ : St) (H0 : Hp) : Prop := ∀ H, Same H0 H → ∀ Q : VK, (∀ x H', Same H H' → Good r H' x → Q x H') → te σ H Q
def GA (r : Addr) (n : Nat) (ta : TA) (σ : St) (H0 : Hp) : Prop := ∀ H, Same H0 H → ∀ Q : List V → Hp → Prop, (∀ xs H', Same H H' → xs.length = n → (∀ y ∈ xs, Good r H' y) → Q xs H') → ta σ H Q
section
variable {r : Addr} {σ : St} {H0 : Hp} {te : TE} {ta : TA} {n : Nat}
end
theorem atI_of {α : Type} {xs : List α} {t : Int} (h0 : 0 ≤ t) (h1 : t < xs.length) : ∃ v, atI xs t = some v ∧ v ∈ xs := by
  have hl : t.toNat < xs.length := by omega
  refine ⟨xs[t.toNat], ?_, List.getElem_mem hl⟩
  have := atI_nat (xs := xs) (j := t.toNat) (v := xs[t.toNat]) (by simp [hl])
  rw [Int.toNat_of_nonneg h0] at this
  exact this
end L2
set_option Elab.async false
set_option linter.all false
set_option maxRecDepth 100000
set_option maxHeartbeats 4000000
namespace L2
open PySem PySem.Spec PyProof.Rows
section
variable {r : Addr} {σ : St} {H0 : Hp} {K : PySem.W.Frag}
theorem g_name {i : Nat} {v : V} {σ : St} {H : Hp} {Q : St → Hp → Prop} (h : Q (σ.set i (some v)) H) : gName i v σ H Q := h
theorem t_nx {nx ct bk : St → Hp → Prop} {rt : VK} {σ : St} {H : Hp} (h : nx σ H) : Ends.nx { nx := nx, rt := rt, bk := bk, ct := ct } σ H := h
end
end L2
set_option Elab.async false
set_option linter.all false
set_option maxRecDepth 100000
set_option maxHeartbeats 4000000
namespace L2
open PySem
section
variable {prog : Program} {w : World} {A : Around} {E : Value → Shared → Prop} {s : Shared}
theorem tupOn {it t : Addr} {i : Nat} {its : Array Value} {x : Value} {Q : Value → Shared → Prop} (a : s.heap.IsTupleIter it t i) (b : s.heap.IsTuple t its) (c : its[i]? = some x)
    (q : ∀ h', h'.IsTupleIter it t (i + 1) → Heap.SameBut it s.heap h' → Q x { s with heap := h' }) : wpAny (model prog w) A (Builtin.SmallTypes.nextOf (.ref it)) Q E s := by
  obtain ⟨o, o1, o2, o3⟩ := id a
  obtain ⟨p, p1, _, n, p2⟩ := b
  unfold Builtin.SmallTypes.nextOf
  refine wpAny_bind (wpAny_callSpecial?_slot (name := Str.ofString "__next__") a.typeIs F.slot_tuple_iterator_next (wpAny_call_entry F.slot_tuple_iterator_next a.typeIs F.entry_tuple_iterator_next (show wpAny _ _ (field (.ref it) 0 >>= _) _ _ s from wpAny_bind (wpAny_field o1 o3 (x := .ref t) rfl ?_)) (F.args_tuple_iterator_next_1 _)))
  show wpAny _ _ (if (Value.ref t == Value.none) = true then _ else (field (.ref it) 1 >>= _)) _ _ s
  rw [if_neg (by exact Bool.false_ne_true)]
  refine wpAny_bind (wpAny_field o1 o3 (x := .int i 0) rfl (show wpAny _ _ (seqItems? (.ref t) >>= _) _ _ s from wpAny_bind (wpAny_seqItems p1 p2 ?_)))
  simp only [Int.toNat_natCast, c]
  refine wpAny_bind (wpAny_setField o1 o3 (by simp) (wpAny_pure ⟨x, rfl, wpAny_pure (q _ ⟨_, Heap.get?_update_self _ o1 (Obj.isFreed_of_fields (Obj.data_mapFields o3 _)), (Obj.cls_mapFields ..).trans o2, ?_⟩ (Heap.SameBut.update ..))⟩))
  rw [Obj.data_mapFields o3]
  simp [rawInt]
theorem tupOff {it t : Addr} {i : Nat} {its : Array Value} {Q : Value → Shared → Prop} (hh : A.handled = none) (a : s.heap.IsTupleIter it t i) (b : s.heap.IsTuple t its) (c : its[i]? = none)
    (q : ∀ h' e, Heap.ExtBut it s.heap h' → (∃ o, h'.get? e = some o ∧ o.cls = .type "StopIteration") → E (.ref e) { s with heap := h' }) : wpAny (model prog w) A (Builtin.SmallTypes.nextOf (.ref it)) Q E s := by
  obtain ⟨o, o1, o2, o3⟩ := id a
  obtain ⟨p, p1, _, n, p2⟩ := b
  unfold Builtin.SmallTypes.nextOf
  refine wpAny_bind (wpAny_callSpecial?_slot (name := Str.ofString "__next__") a.typeIs F.slot_tuple_iterator_next (wpAny_call_entry F.slot_tuple_iterator_next a.typeIs F.entry_tuple_iterator_next (show wpAny _ _ (field (.ref it) 0 >>= _) _ _ s from wpAny_bind (wpAny_field o1 o3 (x := .ref t) rfl ?_)) (F.args_tuple_iterator_next_1 _)))
  show wpAny _ _ (if (Value.ref t == Value.none) = true then _ else (field (.ref it) 1 >>= _)) _ _ s
  rw [if_neg (by exact Bool.false_ne_true)]
  refine wpAny_bind (wpAny_field o1 o3 (x := .int i 0) rfl (show wpAny _ _ (seqItems? (.ref t) >>= _) _ _ s from wpAny_bind (wpAny_seqItems p1 p2 ?_)))
  simp only [Int.toNat_natCast, c]
  refine wpAny_bind (wpAny_rule (wpAny_bind (wpAny_setField o1 o3 (by simp) (show wpAny _ _ (newExc (.type "StopIteration") [] >>= _) _ _ _ from wpAny_bind ?_))))
  simp only [newExc, newTuple]
  refine wpAny_bind (wpAny_newObj_type (wpAny_bind (m := firstArgMember _ _) (wpAny_of_eq (a := Value.none) (by first | rfl | (simp only [firstArgMember]; rfl)) (wpAny_newObj_type ?_ (by size_fits)))) (by size_fits))
  simp only [raiseNew]
  refine wpAny_bind (wpAny_handled ?_)
  first | rw [show A.in1.handled = none from hh] | rw [hh]
  exact wpAny_bind (wpAny_pure (wpAny_throw (q _ _ (((Heap.SameBut.update ..).extBut.push _).push _) ⟨_, Heap.get?_push_size _ rfl, rfl⟩)))
structure ZApart (z T U i j a b : Addr) : Prop where
  dis : [z, T, U, i, j].Nodup
  fa : a ∉ [z, T, U, i, j]
  fb : b ∉ [z, T, U, i, j]
structure ZAt (h : Heap) (z T U i j a b : Addr) (n : Nat) (f : Value) : Prop where
  z : IsZip h z T U f
  t : IsPair h T (.ref i) (.ref j)
  u : ∃ p q, IsPair h U p q
  i : h.IsTupleIter i a n
  j : h.IsTupleIter j b n
def zObs (n a b : Addr) : List Obj := [{ cls := .type "tuple_iterator", data := .fields #[.ref a, .int 0 0] }, { cls := .type "tuple_iterator", data := .fields #[.ref b, .int 0 0] }, { cls := .type "tuple", data := .seq #[.ref n, .ref (n + 1)] },
  { cls := .type "tuple", data := .seq #[.none, .none] }, { cls := .type "zip", data := .fields #[.none, .bool false, .bool false, .ref (n + 2), .ref (n + 3)] }]
def zHeap (h : Heap) (a b : Addr) : Heap := (zObs h.objs.size a b).foldl Heap.push h
end
end L2
set_option Elab.async false
set_option linter.all false
set_option maxRecDepth 100000
set_option maxHeartbeats 4000000
namespace L2
open PySem PySem.Spec PyProof.Rows
inductive Dt where
  | non | bl (b : Bool) | int (i : Int) | str (z : Str) | tup (ds : List Dt)
mutual
def IsDt (K : PySem.W.Frag) (H : Hp) : Dt → V → Prop
  | .non, v => v = .non
  | .bl b, v => v = .bl b
  | .int i, v => v = .int i
  | .str z, v => v = .str z
  | .tup ds, v => ∃ a xs, v = .ref a ∧ SqT K H a xs ∧ IsDts K H ds xs
def IsDts (K : PySem.W.Frag) (H : Hp) : List Dt → List V → Prop
  | [], xs => xs = []
  | d :: ds, xs => ∃ x r, xs = x :: r ∧ IsDt K H d x ∧ IsDts K H ds r
end
mutual
theorem IsDt.same' {K : PySem.W.Frag} {H H' : Hp} (s : Same H H') : ∀ (d : Dt) (v : V), IsDt K H d v → IsDt K H' d v
  | .non, v, h => h
  | .bl b, v, h => h
  | .int i, v, h => h
  | .str z, v, h => h
  | .tup ds, v, h => by
    obtain ⟨a, xs, rfl, e, r⟩ := h
    exact ⟨a, xs, rfl, s.seqT e, IsDts.same' s ds xs r⟩
theorem IsDts.same' {K : PySem.W.Frag} {H H' : Hp} (s : Same H H') : ∀ (d : List Dt) (v : List V), IsDts K H d v → IsDts K H' d v
  | [], xs, h => h
  | d :: ds, xs, h => by
    obtain ⟨x, r, rfl, a, b⟩ := h
    exact ⟨x, r, rfl, IsDt.same' s d x a, IsDts.same' s ds r b⟩
end
theorem IsDt.same {K : PySem.W.Frag} {H H' : Hp} {d : Dt} {v : V} (h : IsDt K H d v) (s : Same H H') : IsDt K H' d v := IsDt.same' s d v h
theorem IsDts.mk2 {K : PySem.W.Frag} {H : Hp} {d e : Dt} {x y : V} (a : IsDt K H d x) (b : IsDt K H e y) : IsDts K H [d, e] [x, y] := ⟨x, [y], rfl, a, y, [], rfl, b, rfl⟩
theorem IsDt.mkT {K : PySem.W.Frag} {H : Hp} {p : Addr} {xs : List V} {ds : List Dt} (h : H p = some (.tup xs)) (r : IsDts K H ds xs) : IsDt K H (.tup ds) (.ref p) := ⟨p, xs, rfl, SqT.of h, r⟩
mutual
def Dt.deep : Dt → Nat
  | .tup ds => Dt.deeps ds + 1
  | _ => 0
def Dt.deeps : List Dt → Nat
  | [] => 0
  | d :: ds => max d.deep (Dt.deeps ds)
def Dt.plain : Dt → Bool
  | .int _ => true
  | .str _ => true
  | .tup ds => Dt.plains ds
  | _ => false
def Dt.plains : List Dt → Bool
  | [] => true
  | d :: ds => d.plain && Dt.plains ds
end
def tagD : Dt → String
  | .non => "NoneType"
  | .bl _ => "bool"
  | .int _ => "int"
  | .str _ => "str"
  | .tup _ => "tuple"
section
variable {X : Cx}
theorem Inv.turnedL {pins : List (Addr × Obj)} {σ : St} {H : Hp} {s : Shared} {h' : Heap} {t' : Nat} {fp : List Addr} (I : Inv X pins σ H s) (k : ∀ b o, b ∉ fp → s.heap.get? b = some o → h'.get? b = some o) (hf : ∀ b ∈ fp, FpOk X pins H b) :
    Inv X pins σ H { s with heap := h', toks := t' } := by
  have nit : ∀ b u, H b = some u → b ∉ fp := fun b u e z => by
    have := (hf b z).1
    rw [this] at e
    cases e
  refine I.step (g' := s.gens) (d' := s.drawn) (ch := fp) (fun b hb => ⟨(hf b hb).2.2.2.1, (hf b hb).2.1, (hf b hb).2.2.2.2.1, (hf b hb).2.2.2.2.2⟩) (fun b o _ _ hc e _ => k b o hc e) (fun b o _ _ hc e _ => ⟨o.slots, k b o hc e⟩) (fun _ _ _ _ n => n)
    (fun b o hc e => ⟨o, k b o hc e⟩) (fun _ _ e => e) (fun _ _ _ e => e) (fun b ps e => ⟨#[], by rw [e]; simp⟩) (fun m hm => ?_) (fun b u e => ?_) I.bare
  · obtain ⟨o, es, ep, ho, r⟩ := hm
    exact ⟨o, es, ep, k _ o (fun z => (hf _ z).2.1 rfl) ho, r⟩
  · refine (I.hok b u e).stay (fun c v hc q => k c v ?_ q) (fun _ q => q) fun _ _ q => q
    rcases hc with z | z
    · rw [z]; exact nit b u e
    · exact nit c _ z
theorem Inv.turnedLaid {pins : List (Addr × Obj)} {σ : St} {H : Hp} {s : Shared} {h' : Heap} {t' : Nat} {fp : List Addr} {a : Addr} {o : HO} (I : Inv X pins σ H s) (k : ∀ b o, b ∉ fp → s.heap.get? b = some o → h'.get? b = some o) (hf : ∀ b ∈ fp, FpOk X pins H b)
    (hp : s.heap.objs.size ≤ a) (new : ObjOk X.prog X.w (upd H a o) h' a o) : Inv X pins σ (upd H a o) { s with heap := h', toks := t' } := by
  have hn : H a = none := I.hok.fresh hp
  have nit : ∀ b u, H b = some u → b ∉ fp := fun b u e z => by
    have := (hf b z).1
    rw [this] at e
    cases e
  have old : ∀ b u, H b = some u → upd H a o b = some u := fun b u e => by rw [upd_ne (ne_of_none e hn)]; exact e
  refine I.step (g' := s.gens) (d' := s.drawn) (ch := fp) (fun b hb => ⟨(hf b hb).2.2.2.1, (hf b hb).2.1, (hf b hb).2.2.2.2.1, (hf b hb).2.2.2.2.2⟩) (fun b o _ _ hc e _ => k b o hc e) (fun b o _ _ hc e _ => ⟨o.slots, k b o hc e⟩)
    (fun b u _ e n => by rw [upd_ne (fun z => by subst z; exact absurd (Heap.lt_size e) (Nat.not_lt.mpr hp))]; exact n)
    (fun b o hc e => ⟨o, k b o hc e⟩) (fun _ _ e => old _ _ e) (fun _ _ _ e => old _ _ e) (fun b ps e => ⟨#[], by rw [old _ _ e]; simp⟩) (fun m hm => ?_) (fun b u e => ?_) I.bare
  · obtain ⟨o, es, ep, ho, r⟩ := hm
    exact ⟨o, es, ep, k _ o (fun z => (hf _ z).2.1 rfl) ho, r⟩
  · by_cases hb : b = a
    · subst hb
      rw [upd_same] at e
      cases e
      exact new
    · rw [upd_ne hb] at e
      refine (I.hok b u e).stay (fun c v hc q => k c v ?_ q) (fun c q => old _ _ q) fun c xs q => old _ _ q
      rcases hc with z | z
      · rw [z]; exact nit b u e
      · exact nit c _ z
end
def Itz (K : PySem.W.Frag) (a b : Addr) : It :=
  ⟨fun i H => ∃ xs ys x y, SqT K H a xs ∧ SqT K H b ys ∧ xs[i]? = some x ∧ ys[i]? = some y,
   fun i H v H' => ∃ p, H p = none ∧ v = .ref p ∧ ∀ xs ys, SqT K H a xs → SqT K H b ys → ∃ x y, xs[i]? = some x ∧ ys[i]? = some y ∧ H' = upd H p (.tup [x, y]),
   fun i H => ∃ xs ys, SqT K H a xs ∧ SqT K H b ys ∧ (xs.length ≤ i ∨ ys.length ≤ i)⟩
section
variable {X : Cx}
def iZip (K : PySem.W.Frag) (ta : TA) : TI := fun σ H R => ta σ H fun vs H1 => ∃ a b xs ys, vs = [.ref a, .ref b] ∧ SqT K H1 a xs ∧ SqT K H1 b ys ∧ R (Itz K a b) H1
def eqVs (xs ys : List V) : Bool := ((List.range (min xs.length ys.length)).all fun j => match xs[j]?, ys[j]? with | some x, some y => eqV x y | _, _ => false) && xs.length == ys.length
def rEqT (K : PySem.W.Frag) : R2 := fun x y H Q => ∃ a b xs ys, x = .ref a ∧ y = .ref b ∧ SqT K H a xs ∧ SqT K H b ys ∧ xs.all flatV = true ∧ ys.all flatV = true ∧ Q (.bl (eqVs xs ys)) H
end
end L2
set_option Elab.async false
set_option linter.all false
set_option maxRecDepth 100000
set_option maxHeartbeats 4000000
namespace L2
open PySem PySem.Spec PyProof.Rows
section
variable {prog : Program} {w : World} {A : Around} {E : Value → Shared → Prop} {s : Shared}
end
section
variable {X : Cx} {pos p2 : Pos}
def gSlice (to : TE) (tl th : TO) : TG := fun v σ H Q => to σ H fun o H1 => tl σ H1 fun lo H2 => th σ H2 fun hi H3 => ∃ (l b : Addr) (xs ys : List V) (a c : Nat), o = .ref l ∧ v = .ref b ∧ H3 l = some (.lst xs) ∧ H3 b = some (.lst ys) ∧ l ≠ b ∧
  sliceBounds lo hi none xs.length = ((a : Int), (c : Int), 1) ∧ a ≤ c ∧ c ≤ xs.length ∧ xs.length + ys.length ≤ sizeLine ∧ Q σ (upd H3 l (.lst (xs.take a ++ ys ++ xs.drop c)))
end
section
variable {X : Cx}
theorem op_catT0 : OpR X (binaryOp .Add) (fun x y H Q => ∃ a b ys, x = .ref a ∧ y = .ref b ∧ SqT X.K H a [] ∧ SqT X.K H b ys ∧ Q (.ref b) H) := by
  intro pins s σ H x y v u Q I rx ry h
  obtain ⟨a, b, ys, rfl, rfl, ha, hb, q⟩ := h
  cases rx
  cases ry
  obtain ⟨ia, ra, pa, _⟩ := I.tuple ha
  obtain ⟨ib, rb, pb, _⟩ := I.tuple hb
  cases ra
  obtain ⟨⟨c1, d1, t1, l1⟩, g1, h1, n1, k1⟩ := id pa
  obtain ⟨⟨c2, d2, t2, l2⟩, g2, h2, n2, k2⟩ := id pb
  simp only at h1 k1 h2 k2
  subst h1 k1 h2 k2
  exact concat_meets ⟨_, g1, rfl⟩ ⟨_, g2, rfl⟩ noFill_tuple_add seq_tuple_add PySem.F.slot_tuple_add PySem.F.entry_tuple_add (PySem.F.args_tuple_add_2 _ _) (tuple_addW0 a b ([] : List Value).toArray ib.toArray n1 n2 d1 d2 l1 l2 (by simp)) ⟨g1, g2, ⟨.ref b, H, I, rfl, q⟩⟩
def rCatS (K : PySem.W.Frag) : R2 := fun x y H Q => ∃ a b xs ys, x = .ref a ∧ y = .ref b ∧ SqT K H a xs ∧ SqT K H b ys ∧ ys ≠ [] ∧ xs.length + ys.length ≤ sizeLine ∧ ∀ p H', Same H H' → SqT K H' p (xs ++ ys) → Q (.ref p) H'
theorem op_catS : OpR X (binaryOp .Add) (rCatS X.K) := by
  intro pins s σ H x y v u Q I rx ry h
  obtain ⟨a, b, xs, ys, rfl, rfl, ha, hb, hn, hz, q⟩ := h
  cases xs with
  | nil => exact op_catT0 pins s σ H _ _ v u Q I rx ry ⟨a, b, ys, rfl, rfl, ha, hb, q b H (Same.refl H) hb⟩
  | cons x xs => exact op_catT pins s σ H _ _ v u Q I rx ry ⟨a, b, x :: xs, ys, rfl, rfl, ha, hb, by simp, hz, fun z => absurd z hn, fun _ p hp => q p _ (Same.upd hp) (SqT.of upd_same)⟩
theorem pe_append {o e : Expr} {es : List Expr} {to : TE} {t : TA} {apos cpos : Pos} (ho : PE X o to) (ha : PA X (e :: es) t)
    (hbase : attributeBase o "append" X.env (eval o X.env) = eval o X.env := by rfl)
    (hfew : ((backTo cpos (starEach (e :: es) X.env)).all (fun x => !x.1) && (backToKw cpos (keywordEach [] X.env)).all (fun x => x.1.isSome)
      && decide ((e :: es).length + ([] : List Keyword).length + (if ([] : List Keyword).isEmpty then 0 else 1) < 30)) = true := by rfl)
    (hline : (apos.endLine == cpos.line) = true := by rfl) (hs : starEach (e :: es) X.env = (false, eval e X.env) :: starEach es X.env := by rfl) (hplain : (backTo cpos (starEach es X.env)).any (·.1) = false := by rfl) :
    PE X (.Call (.Attribute o "append" apos) (e :: es) [] cpos) (tBM X.K "list" rAppend to t) := pe_bm PySem.F.plainAttrs_list PySem.F.slot_list_append PySem.F.type_list_append mt_append ho ha hbase hfew hline hs hplain
end
def KeptL (L : List Addr) (H H' : Hp) : Prop := ∀ b o, b ∉ L → H b = some o → H' b = some o
theorem KeptL.refl {L : List Addr} {H : Hp} : KeptL L H H := fun _ _ _ h => h
theorem KeptL.trans {L : List Addr} {H H1 H2 : Hp} (a : KeptL L H H1) (b : KeptL L H1 H2) : KeptL L H H2 := fun c o n h => b c o n (a c o n h)
theorem Same.keptL {L : List Addr} {H H' : Hp} (s : Same H H') : KeptL L H H' := fun b o _ h => s b o h
theorem KeptL.set {L : List Addr} {H : Hp} {l : Addr} {o : HO} (h : l ∈ L) : KeptL L H (upd H l o) := fun b u n e => by
  rw [upd_ne (fun z => n (by rw [z]; exact h))]
  exact e
mutual
theorem IsDt.mono' {K : PySem.W.Frag} {H H' : Hp} (s : ∀ a xs, SqT K H a xs → SqT K H' a xs) : ∀ (d : Dt) (v : V), IsDt K H d v → IsDt K H' d v
  | .non, v, h => h
  | .bl b, v, h => h
  | .int i, v, h => h
  | .str z, v, h => h
  | .tup ds, v, h => by
    obtain ⟨a, xs, rfl, e, r⟩ := h
    exact ⟨a, xs, rfl, s _ _ e, IsDts.mono' s ds xs r⟩
theorem IsDts.mono' {K : PySem.W.Frag} {H H' : Hp} (s : ∀ a xs, SqT K H a xs → SqT K H' a xs) : ∀ (d : List Dt) (v : List V), IsDts K H d v → IsDts K H' d v
  | [], xs, h => h
  | d :: ds, xs, h => by
    obtain ⟨x, r, rfl, a, b⟩ := h
    exact ⟨x, r, rfl, IsDt.mono' s d x a, IsDts.mono' s ds r b⟩
end
theorem SqT.wrote {K : PySem.W.Frag} {H : Hp} {l a : Addr} {o : HO} {zs xs : List V} (e : H l = some (.lst zs)) (h : SqT K H a xs) : SqT K (upd H l o) a xs := by
  rcases h with (h | ⟨ob, h⟩) | h
  · exact .inl (.inl (by rw [upd_ne (ne_of h e (by intro z; cases z))]; exact h))
  · exact .inl (.inr ⟨ob, by rw [upd_ne (ne_of h e (by intro z; cases z))]; exact h⟩)
  · exact .inr h
end L2
set_option Elab.async false
set_option linter.all false
set_option maxRecDepth 100000
set_option maxHeartbeats 4000000
namespace L2
open PySem PySem.Spec PyProof.Rows
section
variable {prog : Program} {w : World} {A : Around} {E : Value → Shared → Prop} {s : Shared}
theorem sortedBy {v : Value} {Q : Value → Shared → Prop} {ns : List Int} (hn : ns.length < 64)
    (hc : ∀ R : List Value → Shared → Prop, (∀ h' tk vs, (∀ b o, s.heap.get? b = some o → h'.get? b = some o) → IntsAre vs ns → R vs { s with heap := h', toks := tk }) → wpAny (model prog w) A.in1 (collect v) R E s)
    (h : ∀ (h1 h' : Heap) (tk : Nat) (out : Array Value) (ns' : List Int) (e : Nat), (∀ b o, s.heap.get? b = some o → h1.get? b = some o) → (∀ b o, h1.get? b = some o → h'.get? b = some o) → h'.get? h1.objs.size = some { cls := .type "list", data := .seq out e } → IntsAre out.toList ns' → ns'.Perm ns → ns'.Pairwise (· ≤ ·) → Q (.ref h1.objs.size) { s with heap := h', toks := tk }) :
    wpAny (model prog w) A (call (.builtin "sorted") [v]) Q E s := by
  refine Calls.call_function_entry kind_sorted plain_sorted entry_sorted (args_sorted1 _) ?_
  unfold Builtin.«sorted»
  refine wpAny_bind (m := checkCount "sorted" 1 1 _) (wpAny_pure (wpAny_bind (hc _ fun h1 tk vs k1 i1 => ?_)))
  have hl : vs.length < 64 := by rw [i1.length]; exact hn
  refine wpAny_bind (wpAny_newList ?_ (Nat.le_trans (Nat.le_of_lt hl) (by decide)))
  have oL : (h1.push (seqObj "list" vs.toArray 0)).get? h1.objs.size = some (seqObj "list" vs.toArray 0) := Heap.get?_push_size _ rfl
  refine wpAny_bind (wpAny_holding (wpAny_call_entry slot_list_sort ⟨_, oL, rfl⟩ entry_list_sort (list_sort_tree oL i1 hl fun out ns' a1 a2 a3 => ⟨_, rfl, ?_⟩) (args_list_sort _)))
  obtain ⟨e, he⟩ := sortedHeap_at (out := out) oL
  refine wpAny_pure ⟨_, rfl, h h1 _ tk out ns' e k1 (fun b o g1 => ?_) he a1 a2 a3⟩
  have lt := Heap.lt_size g1
  refine (sortedHeap_old (Nat.ne_of_lt lt) ?_).trans (Heap.get?_push_of_some _ g1)
  rw [size_push']
  exact Nat.lt_succ_of_lt lt
end
section
variable {X : Cx}
def srt (ns : List Int) (H : Hp) (Q : VK) : Prop := ∀ (l : Addr) (ns' : List Int), H l = none → ns'.Perm ns → ns'.Pairwise (· ≤ ·) → Q (.ref l) (upd H l (.lst (ns'.map V.int)))
theorem srt_fin {pins : List (Addr × Obj)} {σ : St} {H : Hp} {s : Shared} {Q : VK} {ns : List Int} {h1 h' : Heap} {tk : Nat} {out : Array Value} {ns' : List Int} {e : Nat} (I : Inv X pins σ H s) (hn : ns.length < 64) (q : srt ns H Q)
    (k1 : ∀ b o, s.heap.get? b = some o → h1.get? b = some o) (k2 : ∀ b o, h1.get? b = some o → h'.get? b = some o) (g : h'.get? h1.objs.size = some { cls := .type "list", data := .seq out e }) (i : IntsAre out.toList ns') (p : ns'.Perm ns) (r : ns'.Pairwise (· ≤ ·)) :
    EP X pins σ Q (.ref h1.objs.size) { s with heap := h', toks := tk } := by
  have I1 : Inv X pins σ H { s with heap := h1 } := I.kept (t' := s.toks) k1
  refine ⟨.ref h1.objs.size, _, I1.laid (t' := tk) (o := .lst (ns'.map V.int)) k2 (Nat.le_refl _) ⟨?_, out.toList, e, vals_ints i, by simpa using g⟩, rfl, q _ ns' (I1.hok.fresh (Nat.le_refl _)) p r⟩
  rw [List.length_map, p.length_eq]
  exact Nat.le_trans (Nat.le_of_lt hn) (by decide)
theorem call_sortedS : CallR X (.builtin "sorted") (fun xs H Q => ∃ a ns, xs = [.ref a] ∧ (SqL X.K H a (ns.map V.int) ∨ SqT X.K H a (ns.map V.int)) ∧ ns.length < 64 ∧ srt ns H Q) := by
  intro pins s σ H xs us Q I r h
  obtain ⟨a, ns, rfl, hq, hn, q⟩ := h
  obtain ⟨u, rfl, rx⟩ := vals1 r
  cases rx
  refine sortedBy hn (fun R hR => ?_) fun h1 h' tk out ns' e k1 k2 g i p r => srt_fin I hn q k1 k2 g i p r
  rcases hq with hq | hq
  · obtain ⟨its, rv, pl, hz⟩ := I.list hq
    obtain ⟨o, ho, hc, n, hd⟩ := pl.isList
    exact wpAny_collect_seq a (.inl rfl) ho hc hd (fun h' k => hR h' s.toks _ k (by simpa using intsAre_of rv)) (by rw [List.size_toArray, ← rv.length]; exact hz)
  · obtain ⟨its, rv, pl, hz⟩ := I.tuple hq
    obtain ⟨o, ho, hc, n, hd⟩ := pl
    exact wpAny_collect_seq a (.inr rfl) ho hc hd (fun h' k => hR h' s.toks _ k (by simpa using intsAre_of rv)) (by rw [List.size_toArray, ← rv.length]; exact hz)
end
end L2
set_option Elab.async false
set_option linter.all false
set_option maxRecDepth 100000
set_option maxHeartbeats 4000000
namespace L2
open PySem PySem.Spec PyProof.Rows
theorem iteP {c A B : Prop} [Decidable c] (hc : c) (h : A) : if c then A else B := by rw [if_pos hc]; exact h
theorem iteN {c A B : Prop} [Decidable c] (hc : ¬ c) (h : B) : if c then A else B := by rw [if_neg hc]; exact h
theorem inV_ints (i : Int) (ns : List Int) : inV (.int i) (ns.map V.int) = decide (i ∈ ns) := by
  unfold inV
  rw [List.any_map, Bool.eq_iff_iff, List.any_eq_true, decide_eq_true_eq]
  constructor
  · rintro ⟨x, hx, e⟩
    have e : (x == i) = true := e
    rw [beq_iff_eq] at e
    exact e ▸ hx
  · intro h
    exact ⟨i, h, by show (i == i) = true; simp⟩
theorem flat_ints (ns : List Int) : (ns.map V.int).all flatV = true := by
  rw [List.all_eq_true]
  intro x hx
  obtain ⟨i, _, rfl⟩ := List.mem_map.mp hx
  rfl
theorem filter_ints (p : Int → Bool) (f : V → Bool) (h : ∀ i, f (.int i) = p i) : ∀ ns : List Int, (ns.map V.int).filter f = (ns.filter p).map V.int
  | [] => rfl
  | n :: ns => by
    rw [List.map_cons, List.filter_cons, List.filter_cons, h n]
    cases hp : p n with
    | true => rw [if_pos rfl, if_pos rfl, List.map_cons, filter_ints p f h ns]
    | false => rw [if_neg Bool.false_ne_true, if_neg Bool.false_ne_true, filter_ints p f h ns]
theorem free_one {names : List (Str × NameKind)} {n : Str} {Q : Str × NameKind → Prop} (h : (names.all fun y => y.2 != NameKind.free || y.1 == n) = true) (q : ∀ k, Q (n, k)) : ∀ y ∈ names, y.2 = NameKind.free → Q y := fun y hy e => by
  have := List.all_eq_true.mp h y hy
  rw [e] at this
  have : (y.1 == n) = true := by simpa using this
  obtain ⟨a, b⟩ := y
  rw [beq_iff_eq] at this
  have : a = n := this
  subst this
  exact q b
theorem tcomp_tup_if {K : PySem.W.Frag} {a : Addr} {xs : List V} {tl te : TE} {tc : TT} {fr : List (Nat × Str)} {σ : St} {H H1 : Hp} {Q : VK} (p : V → Bool) (f : V → V) (htl : ∀ R : VK, R (.ref a) H1 → tl σ H R) (hq : SqT K H1 a xs) (hl : xs.length ≤ sizeLine)
    (ht : ∀ v ∈ xs, ∀ H', Same H1 H' → ∀ R : Bool → Hp → Prop, (∀ H2, Same H' H2 → R (p v) H2) → tc (cSt σ fr (some v)) H' R)
    (he : ∀ v ∈ xs, ∀ H', Same H1 H' → ∀ R : VK, (∀ H2, Same H' H2 → R (f v) H2) → te (cSt σ fr (some v)) H' R) (hQ : ∀ l H', Same H1 H' → H' l = none → Q (.ref l) (upd H' l (.lst ((xs.filter p).map f)))) :
    tComp (iTup K tl) fr tc te σ H Q := by
  refine htl _ ⟨a, rfl, ⟨xs, hq⟩, fun i m ys H' => m = xs.length - i ∧ i ≤ xs.length ∧ ys = ((xs.take i).filter p).map f ∧ Same H1 H', ⟨xs.length, by simp, Nat.zero_le _, by simp, Same.refl H1⟩, ?_⟩
  rintro i m ys H' ⟨rfl, hi, rfl, sm⟩
  have q := sm.seqT hq
  have hl2 : (((xs.take i).filter p).map f).length ≤ sizeLine := by
    rw [List.length_map]
    have := List.length_filter_le p (xs.take i)
    rw [List.length_take] at this
    omega
  by_cases hlt : i < xs.length
  · refine .inr ⟨⟨xs, xs[i], q, by simp [hlt]⟩, hl2, fun v H2 y => ?_⟩
    obtain ⟨e, y⟩ := y
    subst e
    have hv : xs[i] = v := by have := y xs q; simpa [hlt] using this
    have hm : v ∈ xs := hv ▸ List.getElem_mem hlt
    refine ht v hm _ sm _ fun H3 s3 => ?_
    have et : xs.take (i + 1) = xs.take i ++ [v] := by rw [List.take_succ_eq_append_getElem hlt, hv]
    cases hp : p v with
    | true =>
      refine iteT (he v hm _ (sm.trans s3) _ fun H4 s4 => ⟨xs.length - (i + 1), by omega, rfl, hlt, ?_, (sm.trans s3).trans s4⟩)
      rw [et, List.filter_append, List.map_append, List.filter_cons, hp]
      rfl
    | false =>
      refine iteF ⟨xs.length - (i + 1), by omega, rfl, hlt, ?_, sm.trans s3⟩
      rw [et, List.filter_append, List.map_append, List.filter_cons, hp]
      simp
  · have e : i = xs.length := by omega
    subst e
    refine .inl ⟨⟨xs, q, Nat.le_refl _⟩, hl2, fun l hl => ?_⟩
    rw [List.take_length]
    exact hQ l H' sm hl
section
variable {X : Cx}
def rEqNil (K : PySem.W.Frag) : R2 := fun x y H Q => ∃ a b xs, x = .ref a ∧ y = .ref b ∧ SqL K H a xs ∧ SqL K H b [] ∧ Q (.bl (decide (xs = []))) H
end
end L2
set_option Elab.async false
set_option linter.all false
set_option maxRecDepth 100000
set_option maxHeartbeats 4000000
namespace L2
open PySem PySem.Spec PyProof.Rows
theorem ObjOk.there {P : Program} {w : World} {H : Hp} {h : Heap} {a : Addr} {o : HO} (x : ObjOk P w H h a o) : ∃ ob, h.get? a = some ob := by
  cases o with
  | lst xs => obtain ⟨_, _, _, _, e⟩ := x; exact ⟨_, e⟩
  | tup xs => obtain ⟨_, _, _, ⟨o, e, _⟩, _⟩ := x; exact ⟨_, e⟩
  | dK kvs => obtain ⟨_, _, _, _, o, _, _, e, _⟩ := x; exact ⟨_, e⟩
  | dT kvs => obtain ⟨_, _, _, _, o, _, _, e, _⟩ := x; exact ⟨_, e⟩
  | set S n => obtain ⟨o, _, _, _, e, _⟩ := x; exact ⟨_, e⟩
  | ins C dx fs => obtain ⟨_, _, _, e, _⟩ := x; exact ⟨_, e⟩
  | own y => exact x
  | xd fs => obtain ⟨_, ⟨o, _, _, e, _⟩, _⟩ := x; exact ⟨_, e⟩
  | rng lo hi => obtain ⟨_, _, _, e⟩ := x; exact ⟨_, e⟩
  | frz ob u => obtain ⟨e, _⟩ := x; exact ⟨_, e⟩
  | tbl ps => exact ⟨_, show h.get? a = some _ from x⟩
  | met f y => exact ⟨_, show h.get? a = some _ from x⟩
  | ext φ => exact x.2.1
def CXE (P : Program) (w : World) (base : Heap) : CXT := fun outer H s E e s' => ∃ (ea : Addr) (cls a0 : Value) (B : Heap) (H' : Hp), e = .ref ea ∧ s'.os = s.os ∧ AllBare s'.gens ∧ Un (frs outer) [] H H' s.heap s'.heap ∧ HOk P w H' s'.heap ∧ H' ea = none ∧
  base.StaysIn B ∧ Heap.FlyingW B outer ea cls a0 s'.heap ∧ (∀ b o, s'.heap.get? b = some o → b ∉ frs outer → ((∃ u, H' b = some u) ∨ ∃ u, s.heap.get? b = some u) → B.get? b = some o) ∧ E cls none H'
theorem passN {X : Cx} : Passes (CXE X.prog X.w X.base) X E0 := fun _ _ _ _ _ _ _ ⟨_, _, _, _, _, _, _, _, _, _, _, _, _, _, z⟩ => z.elim
theorem frs_cons {env : Env} {l : List Env} {L : Addr} (h : env.frame = some L) : frs (env :: l) = L :: frs l := by
  unfold frs
  rw [List.filterMap_cons, h]
section
variable {P : Program} {w : World} {K : PySem.W.Frag} {mg : Str → Option Value} {base : Heap} {N : List Str} {qual : Str} {scope : Scope} {f : Addr} {cd : Value} {A : Around} {outer : List Env} {s : Shared} {H : Hp} {E : XK}
theorem passE : Passes (CXE P w base) (cxOf (CXE P w base) P w K mg base N qual scope f cd A outer s H E) E := by
  intro pins σ H1 s1 e s' I c
  obtain ⟨ea, cls, a0, B, H', rfl, os, bare, un, hok, hn, hB, fl, keep, hE⟩ := c
  have hfs : frs (envOfC qual scope s.heap.objs.size f cd :: outer) = s.heap.objs.size :: frs outer := frs_cons rfl
  have kp : ∀ b o, s'.heap.get? b = some o → b ∉ s.heap.objs.size :: frs outer → ((∃ u, H' b = some u) ∨ ∃ u, s1.heap.get? b = some u) → B.get? b = some o := fun b o e hb hi => keep b o e (by rw [show frs (cxOf (CXE P w base) P w K mg base N qual scope f cd A outer s H E).stack = _ from hfs]; exact hb) hi
  have un' : Un (s.heap.objs.size :: frs outer) [] H1 H' s1.heap s'.heap := hfs ▸ un
  have ub : Un (frs outer) [] H H1 s.heap s1.heap := I.base
  have oldL : ∀ b o, s.heap.get? b = some o → b ≠ s.heap.objs.size := fun b o e => Nat.ne_of_lt (Heap.lt_size e)
  have frn : ∀ b ∈ s.heap.objs.size :: frs outer, H' b = none := fun b hb => by
    rcases List.mem_cons.mp hb with rfl | hb
    · obtain ⟨m, hn, _⟩ := I.loc
      obtain ⟨o, _, _, ho, _⟩ := hn
      exact un'.free _ o ho I.free (by simp)
    · obtain ⟨_, o, ho, _⟩ := I.ok.funs.mem hb
      obtain ⟨o', ho'⟩ := ub.there b o ho (by simp)
      exact un'.free b o' ho' (ub.free b o ho (I.ok.frf b hb) (by simp)) (by simp)
  show wpAny (model P w) _ («leaving» _ _) _ _ s'
  refine wpAny_leaves_onW I.ok.frames rfl fl fun h'' fl2 up => ?_
  have stay : ∀ b o, s'.heap.get? b = some o → b ∉ s.heap.objs.size :: frs outer → ((∃ u, H' b = some u) ∨ ∃ u, s1.heap.get? b = some u) → h''.get? b = some o := fun b o e hb hi => fl2.1 b o (kp b o e hb hi)
  have slot : ∀ b o, b ∈ frs outer → s'.heap.get? b = some o → ∃ sl, h''.get? b = some { o with slots := sl } := fun b o hb e => by
    obtain ⟨_, o', ho', hd⟩ := fl.2.2.1.mem (show b ∈ (envOfC qual scope s.heap.objs.size f cd :: outer).filterMap (·.frame) from by
      show b ∈ frs (envOfC qual scope s.heap.objs.size f cd :: outer)
      rw [hfs]; exact List.mem_cons_of_mem _ hb)
    rw [e] at ho'
    cases ho'
    exact up b o e hd
  have there : ∀ b o, s.heap.get? b = some o → ∃ o1 o2, s1.heap.get? b = some o1 ∧ s'.heap.get? b = some o2 := fun b o e => by
    obtain ⟨o1, e1⟩ := ub.there b o e (by simp)
    obtain ⟨o2, e2⟩ := un'.there b o1 e1 (by simp)
    exact ⟨o1, o2, e1, e2⟩
  refine ⟨ea, cls, a0, B, H', rfl, os.trans I.os, bare, ⟨fun b o e n hb _ => ?_, fun b o e n hb _ => ?_, fun b o e n _ => ?_, fun b o e _ => ?_, fun b xs e => un'.tups b xs (ub.tups b xs e), fun b o u e => un'.frzs b o u (ub.frzs b o u e), fun b ps e => ?_⟩, fun b u e => ?_, hn, hB, fl2, fun b o e hb hi => ?_, hE⟩
  · have e1 := ub.keep b o e n hb (by simp)
    have hb' : b ∉ s.heap.objs.size :: frs outer := fun z => (List.mem_cons.mp z).elim (oldL b o e) hb
    exact stay b o (un'.keep b o e1 (ub.free b o e n (by simp)) hb' (by simp)) hb' (.inr ⟨o, e1⟩)
  · obtain ⟨sl, e1⟩ := ub.slot b o e n hb (by simp)
    obtain ⟨sl2, e2⟩ := un'.slot b _ e1 (ub.free b o e n (by simp)) (List.mem_cons_of_mem _ hb) (by simp)
    obtain ⟨sl3, e3⟩ := slot b _ hb e2
    exact ⟨sl3, e3⟩
  · obtain ⟨o1, o2, e1, e2⟩ := there b o e
    exact un'.free b o1 e1 (ub.free b o e n (by simp)) (by simp)
  · obtain ⟨o1, o2, e1, e2⟩ := there b o e
    by_cases hb : b ∈ frs outer
    · obtain ⟨sl, e3⟩ := slot b o2 hb e2
      exact ⟨_, e3⟩
    · exact ⟨o2, stay b o2 e2 (fun z => (List.mem_cons.mp z).elim (oldL b o e) hb) (.inr ⟨o1, e1⟩)⟩
  · obtain ⟨m1, e1⟩ := ub.tbls b ps e
    obtain ⟨m2, e2⟩ := un'.tbls b _ e1
    exact ⟨m1 ++ m2, by rw [e2, Array.append_assoc]⟩
  · refine (hok b u e).stay (fun c v hc q => stay c v q ?_ (.inl ?_)) (fun _ q => q) fun _ _ q => q
    · intro z
      have := frn c z
      rcases hc with rfl | hc
      · rw [e] at this; cases this
      · rw [hc] at this; cases this
    · rcases hc with rfl | hc
      · exact ⟨u, e⟩
      · exact ⟨_, hc⟩
  · have key : ∀ o', s'.heap.get? b = some o' → b ∉ s.heap.objs.size :: frs outer → ((∃ u, H' b = some u) ∨ ∃ u, s1.heap.get? b = some u) → B.get? b = some o := fun o' e' hb' hi' => by
      have g := kp b o' e' hb' hi'
      have := fl2.1 b o' g
      rw [show ({ s' with heap := h'' } : Shared).heap.get? b = h''.get? b from rfl, this] at e
      cases e
      exact g
    rcases hi with ⟨u, hu⟩ | ⟨u, hu⟩
    · obtain ⟨o', e'⟩ := (hok b u hu).there
      refine key o' e' (fun z => ?_) (.inl ⟨u, hu⟩)
      rw [frn b z] at hu
      cases hu
    · obtain ⟨o1, o2, e1, e2⟩ := there b u hu
      exact key o2 e2 (fun z => (List.mem_cons.mp z).elim (oldL b u hu) hb) (.inr ⟨o1, e1⟩)
theorem raiseE {pins : List (Addr × Obj)} {σ : St} {H1 : Hp} {s1 : Shared} {h' : Heap} {ea C : Addr} {args : List Value} (I : Inv (cxOf (CXE P w base) P w K mg base N qual scope f cd A outer s H E) pins σ H1 s1) (hx : Heap.MadeExcOf s1.heap h' ea (.ref C) args) (hE : E (.ref C) none H1) :
    (cxOf (CXE P w base) P w K mg base N qual scope f cd A outer s H E).xe (.ref ea) { s1 with heap := h' } := by
  have hfs : frs (envOfC qual scope s.heap.objs.size f cd :: outer) = s.heap.objs.size :: frs outer := frs_cons rfl
  have ub : Un (frs outer) [] H H1 s.heap s1.heap := I.base
  have oldL : ∀ b o, s.heap.get? b = some o → b ≠ s.heap.objs.size := fun b o e => Nat.ne_of_lt (Heap.lt_size e)
  have fu : s1.heap.FunFrames base (envOfC qual scope s.heap.objs.size f cd :: outer) := I.stack
  have hin : ∀ env ∈ (envOfC qual scope s.heap.objs.size f cd :: outer), ∀ a, env.frame = some a → a ∈ s.heap.objs.size :: frs outer := fun env he a ha => by
    rw [← hfs]
    exact List.mem_filterMap.mpr ⟨env, he, ha⟩
  have frn : ∀ b ∈ s.heap.objs.size :: frs outer, H1 b = none := fun b hb => by
    have := I.stkFree b (by rw [show frs (cxOf (CXE P w base) P w K mg base N qual scope f cd A outer s H E).stack = _ from hfs]; exact hb)
    exact this
  have bst : base.StaysIn (PySem.W.hideAll s1.heap (s.heap.objs.size :: frs outer)) := fun b o e => PySem.W.hideAll_get _ (I.bk b o e) fun hm => by
    have := (fu.mem (show b ∈ (envOfC qual scope s.heap.objs.size f cd :: outer).filterMap (·.frame) from (show b ∈ frs (envOfC qual scope s.heap.objs.size f cd :: outer) from by rw [hfs]; exact hm))).1
    rw [e] at this
    cases this
  show wpAny (model P w) _ («leaving» _ _) _ _ _
  refine wpAny_leaves_madeW (s := { s1 with heap := h' }) I.ok.frames rfl (fun b o q => PySem.W.of_hideAll _ q) (PySem.W.funFrames_hide fu hin) hx fun h'' t fl2 _ _ up => ?_
  have stay : ∀ b o, s1.heap.get? b = some o → b ∉ s.heap.objs.size :: frs outer → h''.get? b = some o := fun b o e hb => fl2.1 b o (PySem.W.hideAll_get _ e hb)
  have slot : ∀ b o, b ∈ frs outer → s1.heap.get? b = some o → ∃ sl, h''.get? b = some { o with slots := sl } := fun b o hb e => by
    obtain ⟨_, o', ho', hd⟩ := fu.mem (show b ∈ (envOfC qual scope s.heap.objs.size f cd :: outer).filterMap (·.frame) from by
      show b ∈ frs (envOfC qual scope s.heap.objs.size f cd :: outer)
      rw [hfs]; exact List.mem_cons_of_mem _ hb)
    rw [e] at ho'
    cases ho'
    exact up b o (hx.keeps b o e) hd
  have hen : H1 ea = none := by
    cases q : H1 ea with
    | none => rfl
    | some u =>
      obtain ⟨o, e⟩ := (I.hok ea u q).there
      rw [hx.new] at e
      cases e
  refine ⟨ea, .ref C, .ref t, _, H1, rfl, I.os, I.bare, ⟨fun b o e n hb _ => ?_, fun b o e n hb _ => ?_, fun b o e n _ => ub.free b o e n (by simp), fun b o e _ => ?_, ub.tups, ub.frzs, ub.tbls⟩, fun b u e => ?_, hen, bst, fl2, fun b o e hb hi => ?_, hE⟩
  · exact stay b o (ub.keep b o e n hb (by simp)) fun z => (List.mem_cons.mp z).elim (oldL b o e) hb
  · obtain ⟨sl, e1⟩ := ub.slot b o e n hb (by simp)
    obtain ⟨sl2, e2⟩ := slot b _ hb e1
    exact ⟨sl2, e2⟩
  · obtain ⟨o1, e1⟩ := ub.there b o e (by simp)
    by_cases hb : b ∈ frs outer
    · obtain ⟨sl, e2⟩ := slot b o1 hb e1
      exact ⟨_, e2⟩
    · exact ⟨o1, stay b o1 e1 fun z => (List.mem_cons.mp z).elim (oldL b o e) hb⟩
  · refine (I.hok b u e).stay (fun c v hc q => stay c v q fun z => ?_) (fun _ q => q) fun _ _ q => q
    have := frn c z
    rcases hc with rfl | hc
    · rw [e] at this; cases this
    · rw [hc] at this; cases this
  · have key : ∀ o', s1.heap.get? b = some o' → b ∉ s.heap.objs.size :: frs outer → (PySem.W.hideAll s1.heap (s.heap.objs.size :: frs outer)).get? b = some o := fun o' e' hb' => by
      have g := PySem.W.hideAll_get _ e' hb'
      have := fl2.1 b o' g
      rw [show ({ s1 with heap := h'' } : Shared).heap.get? b = h''.get? b from rfl, this] at e
      cases e
      exact g
    rcases hi with ⟨u, hu⟩ | ⟨u, hu⟩
    · obtain ⟨o', e'⟩ := (I.hok b u hu).there
      refine key o' e' fun z => ?_
      rw [frn b z] at hu
      cases hu
    · obtain ⟨o1, e1⟩ := ub.there b u hu (by simp)
      exact key o1 e1 fun z => (List.mem_cons.mp z).elim (oldL b u hu) hb
end
theorem PS.nox {X : Cx} {st : Stmt} {t : TS} (h : PS X.nox st t) : PS X st t := fun pins s σ H D I hw =>
  wpAny_mono (h pins s σ H D (I.wish _) hw) (fun _ _ q => q.unwish) fun _ _ z => False.elim z
theorem own_in {K : PySem.W.Frag} {h₀ : Heap} {mg : Str → Option Value} {x : Str} {C : Addr} {bmB : List Value} {newId : String} (X : K.In h₀) (hm : mg x = some (.ref C)) (q : PySem.W.excIn K C bmB newId = true) : OwnCls x C bmB newId mg h₀ := by
  refine ⟨hm, ?_⟩
  unfold PySem.W.excIn at q
  split at q
  · rename_i dd cd sl ho
    split at q
    · rename_i C' bm k0 k1 k2 k3 n k5 hm' hs
      simp only [Bool.and_eq_true, beq_iff_eq, Bool.not_eq_true'] at q
      obtain ⟨⟨⟨⟨⟨rfl, rfl⟩, hdel⟩, ht⟩, hok⟩, hni⟩ := q
      obtain ⟨nm, bs, mro, ns, qn, hd, sn, sub, ab, col, del⟩ := cd
      obtain ⟨l⟩ := sl
      dsimp only at hm' hdel hok hni hs
      subst hm' hdel hs
      exact ⟨bm, ns, nm, qn, bs, hd, sn, sub, ab, col, dd, k0, k1, k2, k3, k5, _, X _ _ ho, .of_isNs (PySem.W.isNs_of_in X hok), PySem.W.nsMap_none_of_in X hok hni, PySem.W.tail_of_in X ht⟩
    · cases q
  · cases q
def tRaise (C : Addr) (E : XK) (t : TA) : TS := fun _ σ H => t σ H fun vs H1 => vs.length ≤ sizeLine ∧ E (.ref C) none H1
section
variable {P : Program} {w : World} {K : PySem.W.Frag} {mg : Str → Option Value} {base : Heap} {N : List Str} {qual : Str} {scope : Scope} {f : Addr} {cd : Value} {A : Around} {outer : List Env} {s : Shared} {H : Hp} {E : XK}
theorem ps_raiseE {x : Str} {C : Addr} {B newId initId : String} {bm : List Value} {e0 : Expr} {es : List Expr} {np cpos pos : Pos} {t : TA} (FB : ExcBaseFacts B newId initId bm) (hm : mg x = some (.ref C)) (hK : PySem.W.excIn K C bm newId = true)
    (hg : Gl (cxOf (CXE P w base) P w K mg base N qual scope f cd A outer s H E) x) (ha : PA (cxOf (CXE P w base) P w K mg base N qual scope f cd A outer s H E) (e0 :: es) t)
    (hdb : (x == ("__debug__" : Str)) = false := by decide)
    (he : starEach (e0 :: es) (envOfC qual scope s.heap.objs.size f cd) = (false, eval e0 (envOfC qual scope s.heap.objs.size f cd)) :: starEach es (envOfC qual scope s.heap.objs.size f cd) := by rfl)
    (hpl : (backTo cpos (starEach es (envOfC qual scope s.heap.objs.size f cd))).any (·.1) = false := by rfl) :
    PS (cxOf (CXE P w base) P w K mg base N qual scope f cd A outer s H E) (.Raise (some (.Call (.Name x np) (e0 :: es) [] cpos)) none pos) (tRaise C E t) := by
  intro pins s1 σ H1 D I h
  have O : OwnCls x C bm newId mg base := own_in I.ok.mod.kin hm hK
  obtain ⟨tl, N', nm, q, bs, hdct, sn, sub, ab, col, dd, k0, k1, k2, k3, k5, mN, hC, hN, hni, T⟩ := O.obj
  have ha' := ha cpos pins s1 σ H1 _ I h
  refine wpAny_Raise_call_subT (C := C) (nm := nm) (q := q) (N := N') (bs := bs) (bm := tl) (hdct := hdct) (sn := sn) (sub := sub) (ab := ab) (col := col) (dd := dd) (k0 := k0) (k1 := k1) (k2 := k2) (k3 := k3) (k5 := k5)
    FB (mN := mN) (T.hasType FB.hasBase) (I.ok.hd rfl) (by show (backTo cpos (starEach (e0 :: es) (envOfC qual scope s.heap.objs.size f cd))).any (·.1) = false; rw [he]; show (false || (backTo cpos (starEach es (envOfC qual scope s.heap.objs.size f cd))).any (·.1)) = false; rw [hpl]; rfl) hni (ld_glob I hg O.bound ⟨rfl, ?_⟩ hdb)
  have e1 : starEach (e0 :: es) (cxOf (CXE P w base) P w K mg base N qual scope f cd A outer s H E).env = (false, eval e0 (envOfC qual scope s.heap.objs.size f cd)) :: starEach es (envOfC qual scope s.heap.objs.size f cd) := he
  rw [e1] at ha' ⊢
  exact Calls.evalArgs_plain (wpAny_mono ha' (fun us s2 ⟨vs, H2, I2, r, hl, hE⟩ => ⟨rfl, by rw [← r.length]; exact hl, I2.bk _ _ hC, hN.keeps I2.bk, T.keeps I2.bk, fun h' ea hm => raiseE I2 hm hE⟩) fun _ _ y => y)
theorem Fun.okE {x qual : Str} {st : Stmt} {f : Addr} {fd : FuncData} {N ps : List Str} {k : Nat} {sp : Sp} (F : Fun K x qual st f fd) (S : FnScope N ps (defScope st)) (len : ∀ vs H Q E, sp vs H Q E → vs.length = ps.length)
    (hbody : ∀ (cdv : Value) (A : Around) (outer : List Env) (s : Shared) (H : Hp) (vs : List V) (Q : VK) (E : XK), Room k (A.deeper (envOfC qual (defScope st) s.heap.objs.size f cdv)) → sp vs H Q E →
      ∃ t, PSs (cxOf (CXE P w base) P w K mg base N qual (defScope st) f cdv A outer s H E) (defBody st) t ∧ t { nx := fun _ H' => Q .non H', rt := Q } (start N vs) H) : FnOk P w K mg base (CXE P w base) (k + 1) f fd ps sp := by
  obtain ⟨oc, od, kV, doc, pm, an, cdv, ct, osl, rfl, lk, hcd⟩ := F.ex
  exact fn_of lk hcd S len fun A outer s H vs Q E hr hsp => hbody cdv A outer s H vs Q E hr hsp
end
structure CalE (P : Program) (w : World) (K : PySem.W.Frag) (mg : Str → Option Value) (base : Heap) (x : Str) (ps : List Str) (k : Nat) (sp : Sp) : Prop where
  ex : ∃ f fd, FnOk P w K mg base (CXE P w base) k f fd ps sp ∧ mg x = some (.ref f) ∧ PySem.W.keepIn K (.ref f) = true ∧ Binds K fd ps []
section
variable {X : Cx} {x : Str} {ps : List Str} {k : Nat} {sp : Sp} {e : Expr} {es : List Expr} {t : TA} {p pos : Pos}
theorem pe_calN (c : CalE X.prog X.w X.K X.mg X.base x ps k sp) (hr : Room k X.A) (hg : Gl X x) (ha : PA X (e :: es) t) (hn : x ≠ "__name__" := by decide) (hdb : (x == ("__debug__" : Str)) = false := by decide)
    (he : starEach (e :: es) X.env = (false, eval e X.env) :: starEach es X.env := by rfl) (hpl : (backTo pos (starEach es X.env)).any (·.1) = false := by rfl) : PE X (.Call (.Name x p) (e :: es) [] pos) (tCall sp [] E0 t) := by
  obtain ⟨f, fd, F, hm, hk, hb⟩ := c.ex
  exact pe_call F hr hg hm hk hb .nil passN ha hdb he hpl
theorem pe_calE {E : XK} (hx : Passes (CXE X.prog X.w X.base) X E) (c : CalE X.prog X.w X.K X.mg X.base x ps k sp) (hr : Room k X.A) (hg : Gl X x) (ha : PA X (e :: es) t) (hn : x ≠ "__name__" := by decide) (hdb : (x == ("__debug__" : Str)) = false := by decide)
    (he : starEach (e :: es) X.env = (false, eval e X.env) :: starEach es X.env := by rfl) (hpl : (backTo pos (starEach es X.env)).any (·.1) = false := by rfl) : PE X (.Call (.Name x p) (e :: es) [] pos) (tCall sp [] E t) := by
  obtain ⟨f, fd, F, hm, hk, hb⟩ := c.ex
  exact pe_call F hr hg hm hk hb .nil hx ha hdb he hpl
end
end L2
set_option Elab.async false
set_option linter.all false
set_option maxRecDepth 100000
set_option maxHeartbeats 4000000
namespace L2
open PySem PySem.Spec PyProof.Rows
def ExcO (ea : Addr) (cls : Value) : HO := .ext fun h => ∃ o, h.get? ea = some o ∧ o.cls = cls
theorem excO_ok {P : Program} {w : World} {H : Hp} {h : Heap} {ea : Addr} {cls : Value} {o : Obj} (e : h.get? ea = some o) (c : o.cls = cls) : ObjOk P w H h ea (ExcO ea cls) :=
  ⟨⟨o, e, c⟩, ⟨o, e⟩, fun _ _ ⟨o, e, c⟩ k => ⟨o, k o e, c⟩⟩
theorem Un.track {fs ex : List Addr} {H H1 : Hp} {h h1 : Heap} {a : Addr} {o : HO} (u : Un fs ex H H1 h h1) (hn : h.get? a = none) (hf : H1 a = none) : Un fs ex H (upd H1 a o) h h1 where
  keep := u.keep
  slot := u.slot
  free := fun b ob q n hx => by
    have : b ≠ a := fun z => by subst z; rw [hn] at q; cases q
    rw [upd_ne this]
    exact u.free b ob q n hx
  there := u.there
  tups := fun b xs q => by
    have q' := u.tups b xs q
    rw [upd_ne (ne_of_none q' hf)]
    exact q'
  frzs := fun b ob x q => by
    have q' := u.frzs b ob x q
    rw [upd_ne (ne_of_none q' hf)]
    exact q'
  tbls := fun b ps q => by
    obtain ⟨m, q'⟩ := u.tbls b ps q
    exact ⟨m, by rw [upd_ne (ne_of_none q' hf)]; exact q'⟩
theorem HOk.track {P : Program} {w : World} {H : Hp} {h : Heap} {a : Addr} {o : HO} (x : HOk P w H h) (hf : H a = none) (new : ObjOk P w (upd H a o) h a o) : HOk P w (upd H a o) h := fun b u e => by
  by_cases hb : b = a
  · subst hb
    rw [upd_same] at e
    cases e
    exact new
  · rw [upd_ne hb] at e
    exact (x b u e).stay (fun _ _ _ q => q) (fun c q => by rw [upd_ne (ne_of_none q hf)]; exact q) fun c xs q => by rw [upd_ne (ne_of_none q hf)]; exact q
section
variable {P : Program} {w : World} {base B : Heap} {outer : List Env} {H H' : Hp} {h h1 h6 : Heap} {ea : Addr} {cls a0 : Value}
theorem fly_un (fu : h.FunFrames base outer) (frf : ∀ b ∈ frs outer, H b = none) (un : Un (frs outer) [] H H' h h1) (hok : HOk P w H' h1) (fl : Heap.FlyingW B outer ea cls a0 h1)
    (keep : ∀ b o, h1.get? b = some o → b ∉ frs outer → ((∃ u, H' b = some u) ∨ ∃ u, h.get? b = some u) → B.get? b = some o)
    (fl6 : Heap.FlyingW B outer ea cls a0 h6) (up : h1.UpToSlots h6) : Un (frs outer) [] H H' h h6 ∧ HOk P w H' h6 ∧ h.get? ea = none := by
  have stay : ∀ b o, h1.get? b = some o → b ∉ frs outer → ((∃ u, H' b = some u) ∨ ∃ u, h.get? b = some u) → h6.get? b = some o := fun b o e hb hi => fl6.1 b o (keep b o e hb hi)
  have slot : ∀ b o, b ∈ frs outer → h1.get? b = some o → ∃ sl, h6.get? b = some { o with slots := sl } := fun b o hb e => by
    obtain ⟨_, o', ho', hd⟩ := fl.2.2.1.mem hb
    rw [e] at ho'
    cases ho'
    exact up b o e hd
  have frn : ∀ b ∈ frs outer, H' b = none := fun b hb => by
    obtain ⟨_, o, ho, _⟩ := fu.mem hb
    exact un.free b o ho (frf b hb) (by simp)
  refine ⟨⟨fun b o e n hb _ => ?_, fun b o e n hb _ => ?_, un.free, fun b o e _ => ?_, un.tups, un.frzs, un.tbls⟩, fun b u e => ?_, ?_⟩
  · exact stay b o (un.keep b o e n hb (by simp)) hb (.inr ⟨o, e⟩)
  · obtain ⟨sl, e1⟩ := un.slot b o e n hb (by simp)
    obtain ⟨sl2, e2⟩ := slot b _ hb e1
    exact ⟨sl2, e2⟩
  · obtain ⟨o1, e1⟩ := un.there b o e (by simp)
    by_cases hb : b ∈ frs outer
    · obtain ⟨sl, e2⟩ := slot b o1 hb e1
      exact ⟨_, e2⟩
    · exact ⟨o1, stay b o1 e1 hb (.inr ⟨o, e⟩)⟩
  · refine (hok b u e).stay (fun c v hc q => stay c v q (fun z => ?_) (.inl ?_)) (fun _ q => q) fun _ _ q => q
    · have := frn c z
      rcases hc with rfl | hc
      · rw [e] at this; cases this
      · rw [hc] at this; cases this
    · rcases hc with rfl | hc
      · exact ⟨u, e⟩
      · exact ⟨_, hc⟩
  · cases q : h.get? ea with
    | none => rfl
    | some o =>
      by_cases hb : ea ∈ frs outer
      · obtain ⟨_, o', ho', hd⟩ := fl6.2.2.1.mem hb
        obtain ⟨_, _, _, oe, vs, _, _, _, he, _, hdd, _⟩ := fl6
        rw [he] at ho'
        cases ho'
        exact absurd hdd (hd vs)
      · obtain ⟨o1, e1⟩ := un.there ea o q (by simp)
        have := keep ea o1 e1 hb (.inr ⟨o, q⟩)
        rw [fl6.2.1] at this
        cases this
end
def Cx.tryX (X : Cx) (pn : List (Addr × Obj)) (E : St → XK) : Cx :=
  ({ X with pn := pn } : Cx).wish fun e s' => ∃ pins σ1 H1 s1, Inv { X with pn := pn } pins σ1 H1 s1 ∧ CXE X.prog X.w X.base X.stack H1 s1 (E σ1) e s'
abbrev Cx.exc (X : Cx) (ea : Addr) : Cx := { X with A := X.A.mark (some (.ref ea)), calm := false, xe := fun _ _ => False }
section
variable {X : Cx} {pins pn : List (Addr × Obj)} {σ : St} {H : Hp} {s : Shared} {ea : Addr} {E : St → XK}
theorem Inv.toPn (I : Inv X pins σ H s) : Inv { X with pn := X.pn ++ pins } [] σ H s :=
  ⟨⟨I.ok.mod, I.ok.kind, I.ok.glob, I.ok.blt, I.ok.above, I.ok.inj, I.ok.has, I.ok.cab, I.ok.hd, I.ok.frames, I.ok.stk, I.ok.exf, I.ok.bs, I.ok.bsz, I.ok.noex, I.ok.exfs, I.ok.funs, I.ok.frf⟩, I.os, I.bare, I.base, I.loc, I.cell, I.free, I.freeC, fun p hp => I.pin p (by simpa using hp), I.hok, I.len⟩
theorem Inv.ofPn {pins' : List (Addr × Obj)} (I : Inv { X with pn := X.pn ++ pins } pins' σ H s) : Inv X pins σ H s :=
  ⟨⟨I.ok.mod, I.ok.kind, I.ok.glob, I.ok.blt, I.ok.above, I.ok.inj, I.ok.has, I.ok.cab, I.ok.hd, I.ok.frames, I.ok.stk, I.ok.exf, I.ok.bs, I.ok.bsz, I.ok.noex, I.ok.exfs, I.ok.funs, I.ok.frf⟩, I.os, I.bare, I.base, I.loc, I.cell, I.free, I.freeC, fun p hp => I.pin p (List.mem_append_left _ hp), I.hok, I.len⟩
theorem Inv.toExc (I : Inv X pins σ H s) (ea : Addr) : Inv (X.exc ea) pins σ H s :=
  ⟨⟨I.ok.mod, I.ok.kind, I.ok.glob, I.ok.blt, I.ok.above, I.ok.inj, I.ok.has, I.ok.cab, fun z => (nomatch z), I.ok.frames, I.ok.stk, I.ok.exf, I.ok.bs, I.ok.bsz, I.ok.noex, I.ok.exfs, I.ok.funs, I.ok.frf⟩, I.os, I.bare, I.base, I.loc, I.cell, I.free, I.freeC, I.pin, I.hok, I.len⟩
theorem Inv.ofExc (I : Inv (X.exc ea) pins σ H s) (hd : X.calm = true → X.A.handled = none) : Inv X pins σ H s :=
  ⟨⟨I.ok.mod, I.ok.kind, I.ok.glob, I.ok.blt, I.ok.above, I.ok.inj, I.ok.has, I.ok.cab, hd, I.ok.frames, I.ok.stk, I.ok.exf, I.ok.bs, I.ok.bsz, I.ok.noex, I.ok.exfs, I.ok.funs, I.ok.frf⟩, I.os, I.bare, I.base, I.loc, I.cell, I.free, I.freeC, I.pin, I.hok, I.len⟩
theorem passX : ∀ (pins : List (Addr × Obj)) (σ : St) (H : Hp) (s : Shared) (e : Value) (s' : Shared), Inv (X.tryX pn E) pins σ H s → CXE (X.tryX pn E).prog (X.tryX pn E).w (X.tryX pn E).base (X.tryX pn E).stack H s (E σ) e s' → (X.tryX pn E).xe e s' :=
  fun pins σ H s e s' I c => ⟨pins, σ, H, s, I.unwish, c⟩
theorem SP.ofTry {D : Ends} {f : Flow} {s' : Shared} (h : SP (X.tryX (X.pn ++ pins) E) [] D f s') : SP X pins D f s' := by
  cases f with
  | next => obtain ⟨σ', H', I, q⟩ := h; exact ⟨σ', H', I.unwish.ofPn, q⟩
  | brk => obtain ⟨σ', H', I, q⟩ := h; exact ⟨σ', H', I.unwish.ofPn, q⟩
  | cont => obtain ⟨σ', H', I, q⟩ := h; exact ⟨σ', H', I.unwish.ofPn, q⟩
  | ret u => obtain ⟨v, σ', H', I, r, q⟩ := h; exact ⟨v, σ', H', I.unwish.ofPn, r, q⟩
theorem SP.ofExc {D : Ends} {f : Flow} {s' : Shared} (h : SP (X.exc ea) pins D f s') (hd : X.calm = true → X.A.handled = none) : SP X pins D f s' := by
  cases f with
  | next => obtain ⟨σ', H', I, q⟩ := h; exact ⟨σ', H', I.ofExc hd, q⟩
  | brk => obtain ⟨σ', H', I, q⟩ := h; exact ⟨σ', H', I.ofExc hd, q⟩
  | cont => obtain ⟨σ', H', I, q⟩ := h; exact ⟨σ', H', I.ofExc hd, q⟩
  | ret u => obtain ⟨v, σ', H', I, r, q⟩ := h; exact ⟨v, σ', H', I.ofExc hd, r, q⟩
theorem unbind_ok {M : Model} {A : Around} {E : Value → Shared → Prop} {i : Nat} {x : Str} {pos : Pos} {Q : Unit → Shared → Prop} (I : Inv X pins σ H s) (hN : X.N.Nodup) (hi : X.N[i]? = some x) (hk : X.env.kindOf x = some .local)
    (h : ∀ s', Inv X pins (σ.set i none) H s' → Q () s') : wpAny M A (do bindName X.env x .none; unbindBehindTheSuite X.env x pos) Q E s := by
  obtain ⟨m, hn, hl⟩ := id I.loc
  have hcls : (X.env.scope.kind == .class || (X.env.scope.kind == .module && X.env.locals != X.env.globals)) = false := by rw [I.ok.kind]; rfl
  have hiσ : i < σ.length := by rw [I.len]; exact (List.getElem?_eq_some_iff.mp hi).1
  have cne := I.cne
  refine wpAny_nameGoes_keeps hk hn hcls fun h' v hn' hs => ?_
  refine h _ ⟨I.ok, I.os, I.bare, ⟨fun b o e n hb hx => ?_, fun b o e n hb hx => ?_, I.base.free, fun b o e hx => ?_, I.base.tups, I.base.frzs, I.base.tbls⟩, ⟨_, hn', fun j y v' e1 e2 e3 => ?_⟩, fun y c e => ?_, I.free, I.freeC, fun p hp => ?_, fun b ob e => ?_, by simpa using I.len⟩
  · exact (hs.2 b (Nat.ne_of_lt (Nat.lt_of_lt_of_le (Heap.lt_size e) I.ok.above))).trans (I.base.keep b o e n hb hx)
  · obtain ⟨sl, e1⟩ := I.base.slot b o e n hb hx
    exact ⟨sl, (hs.2 b (Nat.ne_of_lt (Nat.lt_of_lt_of_le (Heap.lt_size e) I.ok.above))).trans e1⟩
  · obtain ⟨o', e1⟩ := I.base.there b o e hx
    exact ⟨o', (hs.2 b (Nat.ne_of_lt (Nat.lt_of_lt_of_le (Heap.lt_size e) I.ok.above))).trans e1⟩
  · by_cases hj : j = i
    · subst hj
      rw [List.getElem?_set_self hiσ] at e2
      cases e2
    · rw [List.getElem?_set_ne (Ne.symm hj)] at e2
      obtain ⟨u', r', q⟩ := hl j y v' e1 e2 e3
      refine ⟨u', r', ?_⟩
      rcases q with ⟨k, e⟩ | ⟨k, c, e, z⟩
      · refine .inl ⟨k, ?_⟩
        have : y ≠ x := fun e => hj (nodup_ix hN e1 (e ▸ hi))
        simp [this, e]
      · exact .inr ⟨k, c, e, z.sameBut hs (cne y c e)⟩
  · obtain ⟨w', z⟩ := I.cell y c e
    exact ⟨w', z.sameBut hs (cne y c e)⟩
  · obtain ⟨e, n, ne, nf, d⟩ := I.pin p hp
    exact ⟨(hs.2 p.1 ne).trans e, n, ne, nf, d⟩
  · refine (I.hok b ob e).stay (fun c w' hc q => (hs.2 c ?_).trans q) (fun _ q => q) fun _ _ q => q
    rintro rfl
    have hfree := I.free
    rcases hc with rfl | hc
    · rw [hfree] at e; cases e
    · rw [hfree] at hc; cases hc
end
def tTry (K : PySem.W.Frag) (c : Value) (tb : (St → XK) → TS) (th : TS) : TS := fun D σ H => tb (fun σ1 cls _ H1 => PySem.W.exmOne K cls c = some true ∧ th D σ1 H1) D σ H
def tTryAs (K : PySem.W.Frag) (c : Value) (i : Nat) (tb : (St → XK) → TS) (th : TS) : TS := fun D σ H => tb (fun σ1 cls _ H1 => PySem.W.exmOne K cls c = some true ∧
  ∀ ea, H1 ea = none → th { nx := fun σ2 H2 => D.nx (σ2.set i none) H2, rt := D.rt, bk := fun σ2 H2 => D.bk (σ2.set i none) H2, ct := fun σ2 H2 => D.ct (σ2.set i none) H2 } (σ1.set i (some (.ref ea))) (upd H1 ea (ExcO ea cls))) D σ H
section
variable {X : Cx} {x n : Str} {c : Value} {i : Nat} {body suite : List Stmt} {b0 : Stmt} {np hpos pos : Pos} {tb : (St → XK) → TS} {th : TS}
theorem ps_tryAs (hst : X.stack = X.env :: X.outer) (hf : X.env.frame = some X.env.locals) (hg : Gl X x) (hm : X.mg x = some c) (hN : X.N.Nodup) (hi : X.N[i]? = some n) (hk : X.env.scope.names.lookup n = some .local) (hb : ∀ pn E, PSs (X.tryX pn E) body (tb E))
    (hh : ∀ ea, PSs (X.exc ea) (b0 :: suite) th) (hdb : (x == ("__debug__" : Str)) = false := by decide) :
    PS X (.Try body [.ExceptHandler (some (.Name x np)) (some n) (b0 :: suite) hpos] [] [] pos) (tTryAs X.K c i tb th) := by
  intro pins s σ H D I h
  refine wpAny_Try_except (wpAny_mono (hb (X.pn ++ pins) _ [] s σ H D (I.toPn.wish _) h) (fun f s1 q => ?_) fun e s1 q => ?_)
  · cases f with
    | next => exact wpAny_execs_nil (SP.ofTry q)
    | brk => exact SP.ofTry q
    | cont => exact SP.ofTry q
    | ret u => exact SP.ofTry q
  · obtain ⟨pins1, σ1, H1, s0, I1, ea, cls, a0, B, H', rfl, os, bare, un, hok, hn, hB, fl, keep, hE, hth⟩ := q
    have I2 : Inv X pins σ1 H1 s0 := I1.ofPn
    have fr : X.A.frames = some (X.env :: X.outer) := hst ▸ I2.ok.frames
    refine wpAny_looks_onW fr hf (hst ▸ fl) fun h4 held4 up4 => ?_
    refine wpAny_landsW held4 fun h5 fl5 up5 => ?_
    rw [← hst] at fl5
    obtain ⟨un5, hok5, hnew⟩ := fly_un I2.stack I2.stkFree un hok fl keep fl5 (up4.trans up5)
    have I5 : Inv X pins σ1 H' { s1 with heap := h5 } := I2.call' (ch := []) os un5 hok5 bare fun b z => absurd z (by simp)
    obtain ⟨ob, hob, hobc⟩ := fl5.there
    refine wpAny_handleBy_cons (codeAny_handlers_test (ld_glob (I5.toExc ea) hg hm ?_ hdb)) (by intro q; cases q)
    have LT : PySem.W.Looks (model X.prog X.w) h5 (typeOf (.ref ea)) cls := by subst hobc; exact (PySem.W.Looks.ld hob).andThen .now
    refine (PySem.W.exm_one (I5.toExc ea).kIn LT hE).here ?_
    refine codeAny_handlers_suite_as ?_
    refine lands_againW fl5 fun h6 fl6 up6 => ?_
    obtain ⟨un6, hok6, _⟩ := fly_un I2.stack I2.stkFree un hok fl keep fl6 ((up4.trans up5).trans up6)
    obtain ⟨ob6, hob6, hobc6⟩ := fl6.there
    have I6 : Inv X pins σ1 (upd H' ea (ExcO ea cls)) { s1 with heap := h6 } := I2.call' (ch := []) os (un6.track hnew hn) (hok6.track hn (excO_ok hob6 hobc6)) bare fun b z => absurd z (by simp)
    refine store_ok (X := X.exc ea) (v := .ref ea) (I6.toExc ea) hN hi (.inl hk) rfl (fun s7 I7 => ?_) (.inr hk)
    refine wpAny_mono (hh ea pins _ _ _ _ I7 (hth ea hn)) (fun f s8 q => ?_) fun _ _ z => False.elim z
    have q' := SP.ofExc q I2.ok.hd
    cases f with
    | next => obtain ⟨σ', H', J, z⟩ := q'; exact unbind_ok J hN hi hk fun s9 J9 => ⟨_, H', J9, z⟩
    | brk => obtain ⟨σ', H', J, z⟩ := q'; exact unbind_ok J hN hi hk fun s9 J9 => ⟨_, H', J9, z⟩
    | cont => obtain ⟨σ', H', J, z⟩ := q'; exact unbind_ok J hN hi hk fun s9 J9 => ⟨_, H', J9, z⟩
    | ret u => obtain ⟨v, σ', H', J, r, z⟩ := q'; exact unbind_ok J hN hi hk fun s9 J9 => ⟨v, _, H', J9, r, z⟩
end
section
variable {X : Cx} {x : Str} {ps : List Str} {k : Nat} {sp : Sp} {e : Expr} {es : List Expr} {t : TA} {p pos : Pos} {E : St → XK}
theorem pe_calX (hx : ∀ (pins : List (Addr × Obj)) (σ : St) (H : Hp) (s : Shared) (e : Value) (s' : Shared), Inv X pins σ H s → CXE X.prog X.w X.base X.stack H s (E σ) e s' → X.xe e s') (c : CalE X.prog X.w X.K X.mg X.base x ps k sp) (hr : Room k X.A) (hg : Gl X x) (ha : PA X (e :: es) t)
    (hdb : (x == ("__debug__" : Str)) = false := by decide) (he : starEach (e :: es) X.env = (false, eval e X.env) :: starEach es X.env := by rfl) (hpl : (backTo pos (starEach es X.env)).any (·.1) = false := by rfl) :
    PE X (.Call (.Name x p) (e :: es) [] pos) (fun σ H Q => t σ H fun vs H1 => sp vs H1 Q (E σ)) := by
  intro pins s σ H Q I h
  obtain ⟨f, fd, F, hm, hk, hb⟩ := c.ex
  refine wpAny_Call_Name_kw (ld_glob I hg hm ?_ hdb)
  refine PySem.W.callWith_K (h₀ := X.base) I.ok.mod.kin hk (thn (ha pos pins s σ H _ I h) fun us s1 ⟨vs, H1, I1, r, q⟩ => ⟨I1.kIn, ?_⟩) he hpl
  have hl : us.length = ps.length := by rw [← r.length]; exact F.len _ _ _ _ q
  have hb1 := hb s1 us I1.kIn (by rw [List.append_nil]; exact hl)
  rw [List.append_nil] at hb1
  refine wpAny_call (codeAny_mono (F.run X.A X.stack s1 H1 ⟨us, []⟩ us vs Q (E σ) hr I1.env0 hb1 r q) fun r s' hq => ?_)
  cases r with
  | error e => exact hx pins σ H1 s1 e s' I1 hq
  | ok fl =>
    cases fl with
    | ret u => exact I1.after hq
    | next => exact False.elim hq
    | brk => exact False.elim hq
    | cont => exact False.elim hq
end
end L2
set_option Elab.async false
set_option linter.all false
set_option maxRecDepth 100000
set_option maxHeartbeats 400000
namespace L2
open PySem PySem.Spec PyProof.Rows PySem.W PySem.Calls PySem.Builtin PySem.Builtin.ObjectAttr PySem.Builtin.Getset_descriptor
section
variable {prog : Program} {w : World} {A : Around} {E : Value → Shared → Prop} {h : Heap} {g : Array GenState} {d : Drawn} {t : Nat} {os : OsState} {K : PySem.W.Frag} {a C : Addr} {o : Obj}
theorem exc_cget {R : Result → Shared → Prop} {tp : Value} (X : K.In h) (L0 : Looks (model prog w) h (typeOf (.ref a)) (.ref C)) (hm : mroIn K C (.type "object") = some true) (hq : R (.ok (.ret (.ref C))) ⟨h, g, d, t, os⟩) :
    codeAny (model prog w) A (.call (.builtin "getset_descriptor.__get__") ⟨[.builtin "object.__class__", .ref a, tp], []⟩) R ⟨h, g, d, t, os⟩ := by
  have L1 := looks_mroIn (M := model prog w) X hm
  refine codeAny_call_builtin KF.slot_gs.plain KF.entry_gs (KF.slot_gs.check _ _ _ _ _ _ _ _ KF.type_class (KF.args_gs _ _ _) ?_)
  unfold Builtin.«getset_descriptor.__get__» descrGet
  rw [dga_obj]
  refine wpAny_bind (wpAny_pure ?_)
  unfold descrGetter descrCheckInstance descrNameAndClass isInstance
  simp only [KF.owner_class]
  repeat lk
  refine ⟨Code.quiet_builtin _ (by decide +kernel), codeAny_builtin KF.entry_class ?_⟩
  unfold Builtin.«object.__class__» shownTypeOf
  repeat lk
  exact hq
theorem exc_entry {tk : Tok} {Q : Fin → Shared → Prop} (X : K.In h) (hx : h.get? a = some o) (hc : o.cls = .ref C) (ha : findIn K (.ref C) "__class__" = some (some (.builtin "object.__class__"))) (hm : mroIn K C (.type "object") = some true)
    (hq : Q (.done (.ret (.ref C))) ⟨h, g, d, t, os⟩) : wpAny (model prog w) A (Builtin.«object.__getattribute__» ⟨[.ref a, .str "__class__" tk], []⟩) Q E ⟨h, g, d, t, os⟩ := by
  have LT : Looks (model prog w) h (typeOf (.ref a)) (.ref C) := hc ▸ (Looks.ld hx).andThen .now
  have L1 := looks_findIn (M := model prog w) X ha
  have hT5 : (⟨h, g, d, t, os⟩ : Shared).TypeIs (.builtin "object.__class__") "getset_descriptor" := KF.type_class
  have f5 := KF.type_class
  have f6 := F.slot_gs_get.lookup
  have f7 := F.slot_gs_set.lookup
  repeat (any_goals (first | assumption | (with_reducible refine wpAny_loadPart_at hx ?_; rw [hc]) | with_reducible refine L1.at ?_ | wp_step))
  refine exc_cget X LT hm ?_
  repeat (any_goals (first | assumption | wp_step))
end
end L2
namespace L2
open PySem PySem.Spec PyProof.Rows PySem.W
section
variable {prog : Program} {w : World} {A : Around} {E : Value → Shared → Prop} {h : Heap} {g : Array GenState} {d : Drawn} {t : Nat} {os : OsState} {K : PySem.W.Frag} {a C : Addr} {o : Obj}
theorem exc_check {M : Model} {nameV : Value} {Q : Unit → Shared → Prop} (X : K.In h) (hx : h.get? a = some o) (hc : o.cls = .ref C) (hm : mroIn K C (.type "BaseException") = some true) (hq : Q () ⟨h, g, d, t, os⟩) :
    wpAny M A (checkBuiltinCall "BaseException.__getattribute__" ⟨[.ref a, nameV], []⟩) Q E ⟨h, g, d, t, os⟩ := by
  have hk : builtinKind "BaseException.__getattribute__" = some .slot := by decide +kernel
  have hsplit : splitId "BaseException.__getattribute__" = some ("BaseException", "__getattribute__") := by decide +kernel
  have L1 := looks_mroIn (M := M) X hm
  have ha := F.args_bexc_ga (.ref a) nameV
  simp only [checkBuiltinCall, hk, hsplit]
  refine wpAny_bind ?_
  · unfold isInstance
    repeat (first | (with_reducible refine wpAny_loadPart_at hx ?_; rw [hc]) | with_reducible refine L1.at ?_ | wp_step)
    exact hq
theorem exc_call {tk : Tok} {R : Result → Shared → Prop} (X : K.In h) (hx : h.get? a = some o) (hc : o.cls = .ref C) (ha : findIn K (.ref C) "__class__" = some (some (.builtin "object.__class__"))) (hm : mroIn K C (.type "object") = some true)
    (hb : mroIn K C (.type "BaseException") = some true) (hq : R (.ok (.ret (.ref C))) ⟨h, g, d, t, os⟩) : codeAny (model prog w) A (.call (.builtin "BaseException.__getattribute__") ⟨[.ref a, .str "__class__" tk], []⟩) R ⟨h, g, d, t, os⟩ :=
  codeAny_call_builtin F.excAttr_ValueError.ga.plain F.entry_bexc_ga (exc_check X hx hc hb (exc_entry X hx hc ha hm hq))
theorem exc_by {tk : Tok} {fill expr : Bool} {Q : Value → Shared → Prop} (X : K.In h) (hx : h.get? a = some o) (hc : o.cls = .ref C) (ha : findIn K (.ref C) "__class__" = some (some (.builtin "object.__class__"))) (hm : mroIn K C (.type "object") = some true)
    (hb : mroIn K C (.type "BaseException") = some true) (hg : findIn K (.ref C) "__getattribute__" = some (some (.builtin "BaseException.__getattribute__"))) (hn : findIn K (.ref C) "__getattr__" = some none) (hq : Q (.ref C) ⟨h, g, d, t, os⟩) :
    wpAny (model prog w) A (getAttrBy (.ref a) (.str "__class__" tk) fill expr) Q E ⟨h, g, d, t, os⟩ := by
  have f3 := F.excAttr_ValueError.ga.bind (.ref a)
  have hx0 : (expr && onTheHeap (Value.builtin "BaseException.__getattribute__")) = false := by cases expr <;> rfl
  have hx2 : (Value.builtin "BaseException.__getattribute__" == Value.builtin "object.__getattribute__") = false := by decide +kernel
  have hx1 : (onTheHeap (Value.ref C) && Value.builtin "BaseException.__getattribute__" == Value.builtin "object.__getattribute__") = false := by rw [hx2]; rfl
  have L1 := looks_findIn (M := model prog w) X hg
  have L2' := looks_findIn (M := model prog w) X hn
  repeat (any_goals (first | assumption | (with_reducible refine wpAny_loadPart_at hx ?_; rw [hc]) | with_reducible refine L1.at ?_ | with_reducible refine L2'.at ?_ | wp_step))
  refine exc_call X hx hc ha hm hb ?_
  repeat (any_goals (first | assumption | wp_step))
theorem exc_cls {Q : Option Value → Shared → Prop} (X : K.In h) (hx : h.get? a = some o) (hc : o.cls = .ref C) (ha : findIn K (.ref C) "__class__" = some (some (.builtin "object.__class__"))) (hm : mroIn K C (.type "object") = some true)
    (hb : mroIn K C (.type "BaseException") = some true) (hg : findIn K (.ref C) "__getattribute__" = some (some (.builtin "BaseException.__getattribute__"))) (hn : findIn K (.ref C) "__getattr__" = some none) (hq : Q (some (.ref C)) ⟨h, g, d, t + 1, os⟩) :
    wpAny (model prog w) A (getAttr? (.ref a) "__class__") Q E ⟨h, g, d, t, os⟩ := by
  unfold getAttr? getAttrBy?
  refine wpAny_bind (wpAny_mkText (wpAny_bind (wpAny_attempt (exc_by X hx hc ha hm hb hg hn (wpAny_pure hq)))))
end
end L2
namespace L2
open PySem PySem.Spec PyProof.Rows PySem.W
def excCls (K : PySem.W.Frag) (C : Addr) : Bool := (clsIn K C).isSome && (findIn K (.ref C) "__class__" == some (some (.builtin "object.__class__")) && (mroIn K C (.type "object") == some true && (mroIn K C (.type "BaseException") == some true &&
  (findIn K (.ref C) "__getattribute__" == some (some (.builtin "BaseException.__getattribute__")) && findIn K (.ref C) "__getattr__" == some none))))
theorem kitx_exc {K : PySem.W.Frag} {a C : Addr} (e : excCls K C = true) : KitX K (.ref a) (.ref C) (fun h => ∃ o, h.get? a = some o ∧ o.cls = .ref C) := by
  unfold excCls at e
  simp only [Bool.and_eq_true, beq_iff_eq] at e
  obtain ⟨e0, ha, hm, hb, hg, hn⟩ := e
  refine ⟨fun M h _ ⟨o, hx, hc⟩ => hc ▸ (Looks.ld hx).andThen .now, fun M h X _ => ?_, fun h tp dd its n sl X htp => ?_, fun {prog w A E Q s} X ⟨o, hx, hc⟩ k => ?_⟩
  · unfold clsIn at e0
    split at e0
    · rename_i c' d' cd' sl' ho
      intro A' Q' E' s' k q
      unfold isType loadHead
      exact wpAny_bind (wpAny_loadPart (k _ _ (X _ _ ho)) (wpAny_pure q))
    · cases e0
  · refine Bool.eq_false_iff.mpr fun q => ?_
    have e : C = tp := Value.ref.inj (beq_iff_eq.mp q)
    subst e
    unfold clsIn at e0
    split at e0
    · rename_i c' d' cd' sl' ho
      have z := (X _ _ ho).symm.trans htp
      cases z
    · cases e0
  · obtain ⟨h, g, d, t, os⟩ := s
    exact exc_cls X hx hc ha hm hb hg hn k
theorem refs_eq : ∀ {cs : List Addr} {its : List Value}, Vals (cs.map V.ref) its → its = cs.map Value.ref
  | [], _, .nil => rfl
  | c :: cs, _, .cons r t => by
    rw [refs_eq t]
    cases (show _ = Value.ref c from r)
    rfl
section
variable {X : Cx}
theorem call_isinstX (K : PySem.W.Frag) (eK : X.K = K := by rfl) : CallR X (.builtin "isinstance") (fun xs H Q => ∃ ea C v u b, xs = [.ref ea, v] ∧ H ea = some (ExcO ea (.ref C)) ∧ excCls K C = true ∧ RelV v u ∧ (∀ u', RelV v u' → u' = u) ∧ kitOne K (.ref C) u = some b ∧ Q (.bl b) H) := by
  subst eK
  intro pins s σ H xs us Q I r h
  obtain ⟨ea, C, v, u, b, rfl, hO, hC, hv, hu, hk, q⟩ := h
  obtain ⟨u0, u1, rfl, rx, ry⟩ := vals2 r
  cases (show u0 = Value.ref ea from rx)
  cases hu _ ry
  obtain ⟨p, _⟩ := I.hok ea _ hO
  exact kia_one (kitx_exc hC) I.kIn p hk (fun z => nomatch z) fun tk => ⟨.bl b, H, I.tok tk, rfl, q⟩
theorem call_isinstXT (K : PySem.W.Frag) (eK : X.K = K := by rfl) : CallR X (.builtin "isinstance") (fun xs H Q => ∃ (ea C p : Addr) (cs : List Addr) (b : Bool), xs = [.ref ea, .ref p] ∧ H ea = some (ExcO ea (.ref C)) ∧ excCls K C = true ∧ H p = some (.tup (cs.map V.ref)) ∧ kitAny K (.ref C) (cs.map Value.ref) = some b ∧ Q (.bl b) H) := by
  subst eK
  intro pins s σ H xs us Q I r h
  obtain ⟨ea, C, p, cs, b, rfl, hO, hC, hp, hk, q⟩ := h
  obtain ⟨u0, u1, rfl, rx, ry⟩ := vals2 r
  cases (show u0 = Value.ref ea from rx)
  cases (show u1 = Value.ref p from ry)
  obtain ⟨po, _⟩ := I.hok ea _ hO
  obtain ⟨_, its, rv, ⟨ob, hob, c1, n, c2⟩, _⟩ := I.hok p _ hp
  have e : its = cs.map Value.ref := refs_eq rv
  subst e
  obtain ⟨oc, od, oda, osl⟩ := ob
  dsimp only at c1 c2
  subst c1 c2
  exact kia_tup (kitx_exc hC) I.kIn po hob hk (fun z => nomatch z) fun tk => ⟨.bl b, H, I.tok tk, rfl, q⟩
end
end L2
set_option Elab.async false
set_option linter.all false
set_option maxRecDepth 100000
set_option maxHeartbeats 400000
namespace L2
open PySem PySem.Spec PyProof.Rows
def tStrs (xs : List Str) : TA := fun _ H Q => Q (xs.map V.str) H
theorem tStrs_cons {a : Str} {xs : List Str} : tStrs (a :: xs) = tCons (tC (.str a)) (tStrs xs) := rfl
theorem star_str {a : Str} {b : Nat} {c : Pos} {es : List Expr} {env : Env} : starEach (.Constant (.str a) b c :: es) env = (false, eval (.Constant (.str a) b c) env) :: starEach es env := rfl
theorem pa_str1 {X : Cx} {a : Str} {b : Nat} {c : Pos} {es : List Expr} {t : TA} (h : PA X es t) : PA X (.Constant (.str a) b c :: es) (tCons (tC (.str a)) t) := pa_cons pe_str h star_str
def cStr (p : Str × Nat × Pos) : Expr := .Constant (.str p.1) p.2.1 p.2.2
theorem pa_strs {X : Cx} (l : List (Str × Nat × Pos)) : PA X (l.map cStr) (tStrs (l.map (·.1))) := by
  induction l with
  | nil => exact pa_nil
  | cons p l ih =>
    obtain ⟨a, b, c⟩ := p
    rw [List.map_cons, List.map_cons, tStrs_cons]
    exact pa_str1 ih
end L2
set_option Elab.async false
set_option linter.all false
set_option maxRecDepth 100000
set_option maxHeartbeats 400000
namespace L2
open PySem PySem.Spec PyProof.Rows
end L2
set_option Elab.async false
set_option linter.all false
set_option maxRecDepth 100000
set_option maxHeartbeats 4000000
namespace L2
open PySem PySem.Spec PyProof.Rows
def cStG (σ : St) (fr : List (Nat × Str)) (us : List (Option V)) : St := us ++ fr.map fun p => (σ[p.1]?).join
def tCompG (wi : TI) (n : Nat) (fr : List (Nat × Str)) (g : TG) (tc : TT) (te : TE) : TE := fun σ H Q => wi σ H fun J H1 => ∃ W : Nat → Nat → List V → Hp → Prop, (∃ m, W 0 m [] H1) ∧ ∀ i m ys H, W i m ys H →
  (J.stop i H ∧ ys.length ≤ sizeLine ∧ ∀ p, H p = none → Q (.ref p) (upd H p (.lst ys))) ∨
  (J.go i H ∧ ys.length ≤ sizeLine ∧ ∀ v H', J.yld i H v H' → g v (cStG σ fr (List.replicate n none)) H' fun σ6 H6 => ∃ us, us.length = n ∧ σ6 = cStG σ fr us ∧ tc (cStG σ fr us) H6 fun b H2 => if b = true then te (cStG σ fr us) H2 fun y H3 => ∃ m', m' < m ∧ W (i + 1) m' (ys ++ [y]) H3 else ∃ m', m' < m ∧ W (i + 1) m' ys H2)
section
variable {X : Cx}
theorem pg_cname {scope : Scope} {cl : List (Str × Addr)} {N : List Str} {C : Addr} {s₂ : Shared} {H₂ : Hp} {fp : List Addr} {x : Str} {px : Pos} (i : Nat) (hN : N.Nodup) (hi : N[i]? = some x) (hx : scope.names.lookup x = some .local) : PG (cxComp X scope cl N C s₂ H₂ fp) (.Name x px) (gName i) :=
  pg_name hN hi (.inl (lookup_relabel_local hx)) (.inr (lookup_relabel_local hx))
theorem comp_gen {xs : List Str} {tg : Expr} {g : TG} {pos : Pos} {elt iter : Expr} {ifs : List Expr} {scope : Scope} {fr : List (Nat × Str)} {wi : TI} {tc : TT} {te : TE} {use : Option (Value → Sem Unit)} {QQ : Value → Shared → Prop} {pins : List (Addr × Obj)} {s : Shared} {σ : St} {H : Hp} {Q : VK} {pp : Pos} (hcalm : X.calm = true) (hi : PI X tg iter wi)
    (hfr : ∀ p ∈ fr, X.N[p.1]? = some p.2 ∧ (X.env.kindOf p.2 = some .cell ∨ X.env.kindOf p.2 = some .free))
    (hfree : ∀ y ∈ scope.names, y.2 = NameKind.free → X.env.kindOf y.1 = some .cell ∨ X.env.kindOf y.1 = some .free)
    (hfs : ∀ p ∈ fr, (p.2, NameKind.free) ∈ scope.names ∧ ((relabel scope X.env).names.lookup p.2 = some .cell ∨ (relabel scope X.env).names.lookup p.2 = some .free))
    (hcell : ∀ y ∈ scope.names, y.2 ≠ NameKind.cell) (hkind : scope.kind = .function) (hnames : ∀ y ∈ scope.names, y.2 = NameKind.local → scope.names.lookup y.1 = some .local)
    (hg : ∀ cl C s₂ H₂ fp, PG (cxComp X scope cl (xs ++ fr.map (·.2)) C s₂ H₂ fp) tg g)
    (ht : ∀ cl C s₂ H₂ fp, PF (cxComp X scope cl (xs ++ fr.map (·.2)) C s₂ H₂ fp) ifs tc) (he : ∀ cl C s₂ H₂ fp, PE (cxComp X scope cl (xs ++ fr.map (·.2)) C s₂ H₂ fp) elt te)
    (hs : ∀ x, foldedSetIterable iter X.env x = pure x) (I : Inv X pins σ H s) (h : tCompG wi xs.length fr g tc te σ H Q)
    (hend : ∀ (D : Addr) (s4 : Shared) (H4 : Hp), Inv X pins σ H4 s4 → (∃ m, s4.heap.Ns (D + 1) m) → H4 (D + 1) = none → D + 1 ≠ X.env.locals → X.s₀.heap.objs.size ≤ D + 1 → (D + 1 ∉ X.fs ∧ (∀ x c, X.env.cells.lookup x = some c → c ≠ D + 1) ∧ ∀ p ∈ X.pn ++ pins, p.1 ≠ D + 1) → Q (.ref D) H4 → compPost (model X.prog X.w) X.A X.xe use QQ (.ref D) (D + 1) (.ok .next) s4) :
    wpAny (model X.prog X.w) X.A (comprehension (.ListComp elt [⟨tg, iter, ifs, 0⟩] scope pos) scope X.env pp (newList []) false (firstIter [⟨tg, iter, ifs, 0⟩] X.env) use) QQ X.xe s := by
  obtain ⟨cl, hcl, hc1, hc2⟩ := closure_ok (scope := scope) (env := X.env) fun y hy hk => I.ok.has y.1 (hfree y hy hk)
  refine wpAny_comprehension_free (use := use) rfl hs hcl hkind hnames (thn (hi pins s σ H _ I h) fun xv s₁ h₁ => thn h₁ fun itv s₂ h₂ => ?_)
  obtain ⟨it, fp, tn, J, H2, e, I2, T, st2, f2, W, ⟨m0, w0⟩, turn⟩ := h₂
  subst e
  -- the list that is filled, the block's names
  refine wpAny_newObj_type (wpAny_newFunctionEnv hcell (by intro y hy; simp at hy) (fun h₁ hns₁ hsb₁ => ?_) hkind)
  dsimp only at hns₁ hsb₁ ⊢
  generalize hD : s₂.heap.objs.size = D at hns₁ hsb₁ ⊢
  generalize hG : s₂.heap.push { cls := .type "list", dict := none, data := .seq ([] : List Value).toArray } = G at hns₁ hsb₁ ⊢
  have hC : G.objs.size = D + 1 := by rw [← hG, Heap.size_push, hD]
  generalize hCC : G.objs.size = C at hns₁ hsb₁ hC ⊢
  subst hC
  have fpD : ∀ b ∈ fp, b < D := fun b hb => by
    obtain ⟨o, e, _⟩ := T.obj _ _ st2 b hb
    rw [← hD]; exact Heap.lt_size e
  have old : ∀ b o, s₂.heap.get? b = some o → h₁.get? b = some o := fun b o e => hsb₁.extBut b o (Nat.ne_of_lt (Nat.lt_succ_of_lt (by rw [← hD]; exact Heap.lt_size e))) (Heap.get?_push_of_some _ (hG ▸ Heap.get?_push_of_some _ e))
  have hGD : G.get? D = some { cls := .type "list", dict := none, data := .seq ([] : List Value).toArray } := by
    rw [← hG, ← hD]
    exact Heap.get?_push_size _ rfl
  have hacc : h₁.PlainList D #[] := ⟨0, hsb₁.extBut _ _ (Nat.ne_of_lt (Nat.lt_succ_self D)) (Heap.get?_push_of_some _ hGD)⟩
  have clD : ∀ y c, cl.lookup y = some c → c < D := fun y c e => by
    obtain ⟨v, q⟩ := I2.cell y c (hc1 y c e)
    rw [← hD]; exact q.lt
  have stkD : ∀ b ∈ frs X.stack, b < D := fun b hb => by
    rcases List.mem_cons.mp (I2.stkSub b hb) with e | hb
    · rw [e, ← hD]; exact I2.lt
    · rw [← hD]
      exact Nat.lt_of_not_le fun z => I2.nofs z hb
  have fpS : ∀ b ∈ fp, b ∉ frs X.stack := fun b hb hb' => by
    rcases List.mem_cons.mp (I2.stkSub b hb') with e | z
    · exact (f2 b hb).2.1 e
    · exact (f2 b hb).2.2.1 z
  generalize hX' : cxComp X scope cl (xs ++ fr.map (·.2)) (D + 1) s₂ H2 fp = X'
  have ok' : X'.Ok := by
    subst hX'
    refine ⟨I2.ok.mod, hkind, I2.ok.glob, I2.ok.blt, (by show s₂.heap.objs.size ≤ D + 1; omega), fun y z c e1 e2 => I2.ok.inj y z c (hc1 _ _ e1) (hc1 _ _ e2), fun y hy => ?_, (fun _ _ z => Bool.noConfusion z), I2.ok.hd, I2.ok.frames, .inl rfl, fun b hb => ⟨?_, fun y c e => ?_⟩, fun b o e => I2.bs b o e, ?_, fun b o e hb => ?_, fpS, I2.env0.funs, I2.stkFree⟩
    · rcases hy with hy | hy
      · exact hc2 y (relabel_free hcell hy (.inl rfl))
      · exact hc2 y (relabel_free hcell hy (.inr rfl))
    · exact Nat.ne_of_lt (Nat.lt_succ_of_lt (fpD b hb))
    · exact (f2 b hb).2.2.2.2.1 y c (hc1 y c e)
    · exact Nat.le_trans I2.ok.bsz I2.sz
    · rcases (f2 b hb).2.2.2.1 with z | z
      · exact I2.ok.noex b o e z
      · exact absurd (Nat.lt_of_lt_of_le (Heap.lt_size (I2.ok.bs b o e).1) z) (Nat.lt_irrefl _)
  have hL' : X'.env.locals = D + 1 := by subst hX'; rfl
  have hcells' : X'.env.cells = cl := by subst hX'; rfl
  have hfs' : X'.fs = frs X.stack := by subst hX'; rfl
  have hpn' : X'.pn = [] := by subst hX'; rfl
  have hs0' : X'.s₀ = s₂ := by subst hX'; rfl
  have hH0' : X'.H₀ = H2 := by subst hX'; rfl
  have hex' : X'.ex = fp := by subst hX'; rfl
  have hN' : X'.N = xs ++ fr.map (·.2) := by subst hX'; rfl
  have hA' : X'.A = X.A := by subst hX'; rfl
  have hPr : X'.prog = X.prog ∧ X'.w = X.w ∧ X'.K = X.K ∧ X'.calm = true := by subst hX'; exact ⟨rfl, rfl, rfl, hcalm⟩
  have hxe' : X'.xe = fun _ _ => False := by subst hX'; rfl
  have henv' : X'.env = compEnvC scope cl (D + 1) X.env := by subst hX'; rfl
  have ht' : PF X' ifs tc := hX' ▸ ht cl (D + 1) s₂ H2 fp
  have he' : PE X' elt te := hX' ▸ he cl (D + 1) s₂ H2 fp
  have hg' : PG X' tg g := hX' ▸ hg cl (D + 1) s₂ H2 fp
  have fresh : ∀ b, D ≤ b → H2 b = none := fun b hb => I2.hok.fresh (by rw [hD]; exact hb)
  have start : ∀ t, Inv X' [] (cStG σ fr (List.replicate xs.length none)) H2 { s₂ with heap := h₁, toks := t } := fun t => by
    refine ⟨ok', by rw [hs0'], I2.bare, ?_, ⟨_, by rw [hL']; exact hns₁, fun i y v e1 e2 e3 => ?_⟩, fun y c e => ?_, by rw [hL']; exact fresh _ (Nat.le_succ _), fun y c e => ?_, fun p hp => ?_, ?_, ?_⟩
    · rw [hfs', hex', hH0', hs0']
      exact Un.kept old
    · rw [hN'] at e1
      by_cases hin : i < xs.length
      · exfalso
        unfold cStG at e2
        rw [List.getElem?_append_left (by rw [List.length_replicate]; exact hin), List.getElem?_replicate, if_pos hin] at e2
        cases e2
      · have hin : xs.length ≤ i := Nat.le_of_not_lt hin
        rw [List.getElem?_append_right hin, List.getElem?_map] at e1
        unfold cStG at e2
        rw [List.getElem?_append_right (by rw [List.length_replicate]; exact hin), List.length_replicate, List.getElem?_map] at e2
        generalize i - xs.length = i at e1 e2
        cases ej : fr[i]? with
        | none => rw [ej] at e1; cases e1
        | some p =>
          rw [ej] at e1
          obtain rfl : p.2 = y := Option.some.inj e1
          have e2' : (σ[p.1]?).join = some v := by
            rw [ej] at e2
            exact Option.some.inj e2
          have e2'' : σ[p.1]? = some (some v) := by
            cases q : σ[p.1]? with
            | none => rw [q] at e2'; cases e2'
            | some z => rw [q] at e2'; exact congrArg some e2'
          have hp := List.mem_of_getElem? ej
          obtain ⟨m, hn, hl⟩ := I2.loc
          obtain ⟨u, r, l⟩ := hl p.1 p.2 v (hfr p hp).1 e2'' (by rcases (hfr p hp).2 with z | z; exact .inr (.inl z); exact .inr (.inr z))
          refine ⟨u, r, .inr ⟨?_, ?_⟩⟩
          · rw [henv']; exact (hfs p hp).2
          · rcases l with ⟨z, _⟩ | ⟨_, c, ec, q⟩
            · exfalso
              rcases (hfr p hp).2 with z' | z' <;> (rw [z] at z'; cases z')
            · obtain ⟨c', ec'⟩ := hc2 p.2 (hfs p hp).1
              have := hc1 _ _ ec'
              rw [ec] at this
              cases this
              obtain ⟨o, ho, hd⟩ := q
              exact ⟨c, by rw [hcells']; exact ec', o, old _ _ ho, hd⟩
    · rw [hcells'] at e
      obtain ⟨v, o, ho, hd⟩ := I2.cell y c (hc1 y c e)
      exact ⟨v, o, old _ _ ho, hd⟩
    · rw [hcells'] at e
      exact I2.freeC y c (hc1 y c e)
    · rw [hpn'] at hp; exact nomatch hp
    · rw [hPr.1, hPr.2.1]
      exact I2.hok.kept old
    · rw [hN']; unfold cStG; simp
  have FP : ∀ {pins' : List (Addr × Obj)} {H' : Hp}, (∀ b ∈ fp, H' b = none) → (∀ p ∈ pins', p.1 = D) → ∀ b ∈ fp, FpOk X' pins' H' b := fun hn hp b hb => by
    refine ⟨hn b hb, ?_, ?_, .inl (by rw [hex']; exact hb), fun y c e => ?_, fun p hp' => ?_⟩
    · rw [hL']; exact Nat.ne_of_lt (Nat.lt_succ_of_lt (fpD b hb))
    · rw [hfs']; exact fpS b hb
    · rw [hcells'] at e; exact (f2 b hb).2.2.2.2.1 y c (hc1 y c e)
    · rw [hpn'] at hp'
      rw [hp p hp']
      exact Nat.ne_of_gt (fpD b hb)
  -- the turns
  have loop : ∀ s₃ : Shared, s₃ = { s₂ with heap := h₁, toks := s₂.toks + ([] : List (Str × Value)).length } →
      codeAny (model X.prog X.w) X.A (.compLoop (.ListComp elt [⟨tg, iter, ifs, 0⟩] scope pos) 0 (.ref it) (.ref D) (compEnvC scope cl (D + 1) X.env))
        (compPost (model X.prog X.w) X.A X.xe use QQ (.ref D) (D + 1)) s₃ := by
    rintro s₃ rfl
    rw [← henv', ← hPr.1, ← hPr.2.1, ← hA']
    refine comp_loop (fun k s' => ∃ i ys its H', Inv X' [] (cStG σ fr (List.replicate xs.length none)) H' s' ∧ tn i s'.heap ∧ (∀ b ∈ fp, H' b = none) ∧ s'.heap.PlainList D its.toArray ∧ Vals ys its ∧ H' D = none ∧ W i k ys H') ?_ m0
      ⟨0, [], [], H2, start _, T.keep _ _ _ st2 fun b hb o e => old b o e, fun b hb => (f2 b hb).1, hacc, .nil, fresh _ (Nat.le_refl _), w0⟩
    rintro n s3 ⟨i, ys, its, H3, I3, st3, fr3, ac3, rv3, hD3, w3⟩
    obtain ⟨na, ac3'⟩ := id ac3
    have I3' : Inv X' [(D, { cls := .type "list", data := .seq its.toArray na })] (cStG σ fr (List.replicate xs.length none)) H3 s3 := I3.pins_of fun p hp => by
      rw [List.mem_singleton] at hp
      subst hp
      refine ⟨ac3', hD3, by rw [hL']; exact Nat.ne_of_lt (Nat.lt_succ_self D), by rw [hfs']; exact fun z => Nat.lt_irrefl _ (stkD D z), fun v z => nomatch z⟩
    have hT := T
    rw [← hPr.1, ← hPr.2.1, ← hPr.2.2.1] at hT
    rcases turn i n ys H3 w3 with ⟨stop, hlen, qn⟩ | ⟨go, hlen, step⟩
    · refine thn (hT.done X' rfl rfl rfl hPr.2.2.2 i _ s3 _ H3 _ I3' (FP fr3 (by intro p hp; rw [List.mem_singleton.mp hp])) st3 stop) fun r s4 ⟨hr, I4⟩ => ?_
      subst hr
      obtain ⟨m4, hn4, _⟩ := id I4.loc
      obtain ⟨h', hh'⟩ : ∃ h', h' = s4.heap := ⟨_, rfl⟩
      have hs' : Heap.SameBut (D + 1) s4.heap h' := by rw [hh']; exact ⟨rfl, fun _ _ => rfl⟩
      have hneD : D ≠ D + 1 := Nat.ne_of_lt (Nat.lt_succ_self D)
      have ac4 := (I4.pin (D, _) (List.mem_append_right _ List.mem_cons_self))
      have ac5 : h'.get? D = some { cls := .type "list", data := .seq its.toArray na } := (hs'.2 D hneD).trans ac4.1
      have un : Un (frs X.stack) fp H2 H3 s₂.heap s4.heap := by
        have := I4.base
        rw [hfs', hex', hH0', hs0'] at this
        exact this
      have kp : ∀ b o, b ≠ D + 1 → s4.heap.get? b = some o → h'.get? b = some o := fun b o hb e => (hs'.2 b hb).trans e
      have neC : ∀ b o, s₂.heap.get? b = some o → b ≠ D + 1 ∧ b ≠ D := fun b o e => by
        have := Heap.lt_size e
        rw [hD] at this
        exact ⟨Nat.ne_of_lt (Nat.lt_succ_of_lt this), Nat.ne_of_lt this⟩
      have un' : Un (frs X.stack) fp H2 (upd H3 D (.lst ys)) s₂.heap h' := by
        refine ⟨fun b o e n hb hx => kp b o (neC b o e).1 (un.keep b o e n hb hx), fun b o e n hb hx => ?_, fun b o e n hx => by rw [upd_ne (neC b o e).2]; exact un.free b o e n hx, fun b o e hx => ?_, fun b xs e => ?_, fun b o u e => ?_, fun b ps e => ?_⟩
        · obtain ⟨sl, z⟩ := un.slot b o e n hb hx
          exact ⟨sl, kp _ _ (neC b o e).1 z⟩
        · obtain ⟨o', z⟩ := un.there b o e hx
          exact ⟨o', kp _ _ (neC b o e).1 z⟩
        · rw [upd_ne (ne_of_none e (fresh D (Nat.le_refl _)))]; exact un.tups b xs e
        · rw [upd_ne (ne_of_none e (fresh D (Nat.le_refl _)))]; exact un.frzs b o u e
        · rw [upd_ne (ne_of_none e (fresh D (Nat.le_refl _)))]; exact un.tbls b ps e
      have hfreeC : H3 (D + 1) = none := by have := I4.free; rw [hL'] at this; exact this
      have hok' : HOk X.prog X.w (upd H3 D (.lst ys)) h' := fun b u e => by
        by_cases hb : b = D
        · subst hb
          rw [upd_same] at e
          cases e
          exact ⟨hlen, its, na, rv3, ac5⟩
        · rw [upd_ne hb] at e
          have z := I4.hok b u e
          rw [hPr.1, hPr.2.1] at z
          refine z.stay (fun c v hc q => kp c v ?_ q) (fun c q => by rw [upd_ne (ne_of_none q hD3)]; exact q) fun c xs q => by rw [upd_ne (ne_of_none q hD3)]; exact q
          rintro rfl
          rcases hc with rfl | hc
          · rw [hfreeC] at e; cases e
          · rw [hfreeC] at hc; cases hc
      subst hh'
      have I5 : Inv X pins σ (upd H3 D (.lst ys)) s4 := I2.call' (s' := s4) (ch := fp) (by have := I4.os; rw [hs0'] at this; exact this) un' hok' I4.bare (fun b hb => ⟨(f2 b hb).2.2.2.1, (f2 b hb).2.1, (f2 b hb).2.2.2.2.1, (f2 b hb).2.2.2.2.2⟩)
      show compPost (model X'.prog X'.w) X'.A X.xe use QQ (.ref D) (D + 1) (.ok .next) s4
      rw [hPr.1, hPr.2.1, hA']
      refine hend D s4 _ I5 ⟨m4, hL' ▸ hn4⟩ ?_ ?_ ?_ ?_ (qn D hD3)
      · rw [upd_ne (Nat.ne_of_gt (Nat.lt_succ_self D))]; exact hfreeC
      · exact Nat.ne_of_gt (Nat.lt_succ_of_lt (by rw [← hD]; exact I2.lt))
      · exact Nat.le_trans I2.sz (by rw [hD]; exact Nat.le_succ D)
      · refine ⟨fun z => I2.nofs (by rw [hD]; exact Nat.le_succ D) z, fun y c e => ?_, fun p hp => ?_⟩
        · obtain ⟨v, q⟩ := I2.cell y c e
          exact Nat.ne_of_lt (Nat.lt_succ_of_lt (by rw [← hD]; exact q.lt))
        · exact Nat.ne_of_lt (Nat.lt_succ_of_lt (by rw [← hD]; exact Heap.lt_size (I2.pin p hp).1))
    · refine thn (hT.item X' rfl rfl rfl hPr.2.2.2 i _ s3 _ H3 _ I3' (FP fr3 (by intro p hp; rw [List.mem_singleton.mp hp])) st3 go) fun r s4 ⟨u, hr, h4⟩ => ?_
      subst hr
      refine thn h4 fun _ s5 ⟨v, H5, I5, r5, y5, st5, fr5⟩ => ?_
      have I5' := I5.pinned (FP fr5 (by intro p hp; rw [List.mem_singleton.mp hp])) (T.obj _ _ st5)
      have g5 := hg' _ s5 (cStG σ fr (List.replicate xs.length none)) H5 v u _ I5' r5 (step v H5 y5)
      rw [hxe'] at g5
      refine thn g5 fun _ s6 ⟨σ6, H6, I6, us, hus, e6, q6⟩ => ?_
      subst e6
      have t6 := ht' _ s6 _ H6 _ I6 q6
      rw [hxe'] at t6
      refine thn t6 fun ok s7 ⟨H7, I7, q7⟩ => ?_
      have back : ∀ {H8 : Hp} {s8 : Shared} {ys' : List V} {its' : List Value} {pl : List (Addr × Obj)}, Inv X' (pl ++ pinsAt fp s5.heap) (cStG σ fr us) H8 s8 → s8.heap.PlainList D its'.toArray → Vals ys' its' → H8 D = none → (∃ m', m' < n ∧ W (i + 1) m' ys' H8) →
          ∃ m, m < n ∧ ∃ i ys its H', Inv X' [] (cStG σ fr (List.replicate xs.length none)) H' s8 ∧ tn i s8.heap ∧ (∀ b ∈ fp, H' b = none) ∧ s8.heap.PlainList D its.toArray ∧ Vals ys its ∧ H' D = none ∧ W i m ys H' := fun {H8 s8 ys' its' pl} I8 ac8 rv8 hD8 ⟨m', hm, w8⟩ => by
        refine ⟨m', hm, i + 1, ys', its', H8, (I8.pins_of (pins' := []) (fun p hp => absurd hp List.not_mem_nil)).weak (by unfold cStG; simp [hus]) ?_, T.keep _ _ _ st5 fun b hb o e => (I8.pin (b, o) (List.mem_append_right _ (List.mem_append_right _ (mem_pinsAt hb e)))).1, fun b hb => ?_, ac8, rv8, hD8, w8⟩
        · intro j z e
          unfold cStG at e ⊢
          by_cases hj : j < xs.length
          · rw [List.getElem?_append_left (by rw [List.length_replicate]; exact hj), List.getElem?_replicate, if_pos hj] at e
            cases e
          · have hj : xs.length ≤ j := Nat.le_of_not_lt hj
            rw [List.getElem?_append_right (by rw [List.length_replicate]; exact hj), List.length_replicate] at e
            rw [List.getElem?_append_right (by rw [hus]; exact hj), hus]
            exact e
        · obtain ⟨o, e, d⟩ := T.obj _ _ st5 b hb
          exact (I8.pin (b, o) (List.mem_append_right _ (List.mem_append_right _ (mem_pinsAt hb e)))).2.1
      have accOf : ∀ {H8 : Hp} {s8 : Shared} {σ8 : St}, Inv X' ([(D, { cls := .type "list", data := .seq its.toArray na })] ++ pinsAt fp s5.heap) σ8 H8 s8 → s8.heap.PlainList D its.toArray ∧ H8 D = none := fun I8 =>
        have z := I8.pin (D, _) (List.mem_append_right _ (List.mem_append_left _ List.mem_cons_self))
        ⟨⟨na, z.1⟩, z.2.1⟩
      cases ok with
      | false =>
        rw [if_neg Bool.false_ne_true] at q7 ⊢
        exact back I7 (accOf I7).1 rv3 (accOf I7).2 q7
      | true =>
        rw [if_pos rfl] at q7 ⊢
        have t7 := he' _ s7 _ H7 _ I7 q7
        rw [hxe'] at t7
        refine thn t7 fun y s8 ⟨vy, H8, I8, r8, q8⟩ => ?_
        obtain ⟨ac8, hD8⟩ := accOf I8
        refine wpAny_list_append_plain (hsz := by have := rv3.length; rw [List.size_toArray, ← this]; exact hlen) ac8 fun h9 ac9 hs9 => ?_
        have I9 : Inv X' ([] ++ pinsAt fp s5.heap) (cStG σ fr us) H8 s8 := I8.pins_of fun p hp => (I8.pin p (List.mem_append_right _ (List.mem_append_right _ hp)))
        have I10 : Inv X' ([] ++ pinsAt fp s5.heap) (cStG σ fr us) H8 { s8 with heap := h9 } := by
          refine I9.turned (t' := s8.toks) (it := D) (fun b o hb e => (hs9.2 b hb).trans e) hD8 (by rw [hL']; exact Nat.ne_of_lt (Nat.lt_succ_self D)) (.inr (by rw [hs0', hD]; exact Nat.le_refl _)) (fun y' c e => ?_) fun p hp => ?_
          · rw [hcells'] at e; exact Nat.ne_of_lt (clD y' c e)
          · rw [hpn'] at hp
            exact Nat.ne_of_lt (fpD _ (of_pinsAt hp).1)
        have e9 : its.toArray.push y = (its ++ [y]).toArray := by simp
        rw [e9] at ac9
        exact back I10 ac9 (rv3.snoc r8) hD8 q8
  exact codeAny_compStart_list (loop _ rfl) (T.self _ 0 _ _ _ (T.keep _ _ _ st2 fun b hb o e => old b o e) (loop _ rfl))
theorem pe_compG {xs : List Str} {tg : Expr} {g : TG} {pos : Pos} {elt iter : Expr} {ifs : List Expr} {scope : Scope} {fr : List (Nat × Str)} {wi : TI} {tc : TT} {te : TE} (hcalm : X.calm = true) (hi : PI X tg iter wi)
    (hfr : ∀ p ∈ fr, X.N[p.1]? = some p.2 ∧ (X.env.kindOf p.2 = some .cell ∨ X.env.kindOf p.2 = some .free))
    (hfree : ∀ y ∈ scope.names, y.2 = NameKind.free → X.env.kindOf y.1 = some .cell ∨ X.env.kindOf y.1 = some .free)
    (hfs : ∀ p ∈ fr, (p.2, NameKind.free) ∈ scope.names ∧ ((relabel scope X.env).names.lookup p.2 = some .cell ∨ (relabel scope X.env).names.lookup p.2 = some .free))
    (hcell : ∀ y ∈ scope.names, y.2 ≠ NameKind.cell) (hkind : scope.kind = .function) (hnames : ∀ y ∈ scope.names, y.2 = NameKind.local → scope.names.lookup y.1 = some .local)
    (hg : ∀ cl C s₂ H₂ fp, PG (cxComp X scope cl (xs ++ fr.map (·.2)) C s₂ H₂ fp) tg g)
    (ht : ∀ cl C s₂ H₂ fp, PF (cxComp X scope cl (xs ++ fr.map (·.2)) C s₂ H₂ fp) ifs tc) (he : ∀ cl C s₂ H₂ fp, PE (cxComp X scope cl (xs ++ fr.map (·.2)) C s₂ H₂ fp) elt te)
    (hs : ∀ x, foldedSetIterable iter X.env x = pure x := by intro _; rfl) : PE X (.ListComp elt [⟨tg, iter, ifs, 0⟩] scope pos) (tCompG wi xs.length fr g tc te) := by
  intro pins s σ H Q I h
  rw [eval_ListComp]
  refine comp_gen hcalm hi hfr hfree hfs hcell hkind hnames hg ht he hs I h fun D s4 H4 I4 hn hf hl hz ⟨hb, hc, hp⟩ q => ?_
  obtain ⟨m, hn⟩ := hn
  exact ⟨m, hn, fun h' hs' => ⟨.ref D, H4, I4.turned (t' := s4.toks) (it := D + 1) (fun b o hb e => (hs'.2 b hb).trans e) hf hl (.inr hz) hc hp, rfl, q⟩⟩
theorem ps_setG {xs : List Str} {tg : Expr} {g : TG} {pos : Pos} {elt iter : Expr} {ifs : List Expr} {scope : Scope} {fr : List (Nat × Str)} {wi : TI} {tc : TT} {te : TE} {i : Nat} {y : Str} {py spos : Pos} (hNy : X.N.Nodup) (hiy : X.N[i]? = some y) (hy : Loc X.env.scope y) (hcalm : X.calm = true) (hi : PI X tg iter wi)
    (hfr : ∀ p ∈ fr, X.N[p.1]? = some p.2 ∧ (X.env.kindOf p.2 = some .cell ∨ X.env.kindOf p.2 = some .free))
    (hfree : ∀ y ∈ scope.names, y.2 = NameKind.free → X.env.kindOf y.1 = some .cell ∨ X.env.kindOf y.1 = some .free)
    (hfs : ∀ p ∈ fr, (p.2, NameKind.free) ∈ scope.names ∧ ((relabel scope X.env).names.lookup p.2 = some .cell ∨ (relabel scope X.env).names.lookup p.2 = some .free))
    (hcell : ∀ y ∈ scope.names, y.2 ≠ NameKind.cell) (hkind : scope.kind = .function) (hnames : ∀ y ∈ scope.names, y.2 = NameKind.local → scope.names.lookup y.1 = some .local)
    (hg : ∀ cl C s₂ H₂ fp, PG (cxComp X scope cl (xs ++ fr.map (·.2)) C s₂ H₂ fp) tg g)
    (ht : ∀ cl C s₂ H₂ fp, PF (cxComp X scope cl (xs ++ fr.map (·.2)) C s₂ H₂ fp) ifs tc) (he : ∀ cl C s₂ H₂ fp, PE (cxComp X scope cl (xs ++ fr.map (·.2)) C s₂ H₂ fp) elt te)
    (hs : ∀ x, foldedSetIterable iter X.env x = pure x := by intro _; rfl) (hw : swapsWith (.ListComp elt [⟨tg, iter, ifs, 0⟩] scope pos) (some (.Name y py)) spos.line X.env = pure true := by rfl) (hf : X.fn y = true ∨ X.env.scope.names.lookup y = some .local := by first | exact .inl rfl | exact .inr rfl | assumption) :
    PS X (.Assign [.Name y py] (.ListComp elt [⟨tg, iter, ifs, 0⟩] scope pos) spos) (tAsg (tCompG wi xs.length fr g tc te) (gName i)) := by
  intro pins s σ H D I h
  rw [exec_Assign_Name_used y py _ spos hw]
  refine wpAny_bind (wpAny_standAt (wpAny_bind ?_))
  show wpAny _ _ (do let _ ← comprehension (.ListComp elt [⟨tg, iter, ifs, 0⟩] scope pos) scope X.env (firstIterPos [⟨tg, iter, ifs, 0⟩] pos) (newList []) (firstAsync [⟨tg, iter, ifs, 0⟩]) (firstIter [⟨tg, iter, ifs, 0⟩] X.env) (some (assign (.Name y py) X.env)); pure ()) _ _ _
  refine wpAny_bind (comp_gen hcalm hi hfr hfree hfs hcell hkind hnames hg ht he hs I h fun A s4 H4 I4 hn hz hl hsz ⟨hb, hc, hp⟩ q => ?_)
  obtain ⟨m, hn⟩ := hn
  obtain ⟨o, es, ep, ho, hd, hk, hm⟩ := hn
  have I5 : Inv X ((A + 1, o) :: pins) σ H4 s4 := I4.pins_of fun p hp' => by
    rcases List.mem_cons.mp hp' with rfl | hp'
    · exact ⟨ho, hz, hl, hb, fun v z => by rw [hd] at z; cases z⟩
    · exact I4.pin p (List.mem_append_right _ hp')
  refine thn (pg_name (pos := py) hNy hiy hy hf _ s4 σ H4 (.ref A) (.ref A) D.nx I5 rfl q) fun _ s5 ⟨σ5, H5, I6, q6⟩ => ?_
  have po := I6.pin (A + 1, o) (List.mem_append_right _ List.mem_cons_self)
  have I7 : Inv X pins σ5 H5 s5 := I6.pins_of fun p hp' => I6.pin p (List.mem_append_right _ (List.mem_cons_of_mem _ hp'))
  refine ⟨m, ⟨o, es, ep, po.1, hd, hk, hm⟩, fun h' hs' => ?_⟩
  exact wpAny_pure (wpAny_pure ⟨σ5, H5, I7.turned (t' := s5.toks) (it := A + 1) (fun b o hb e => (hs'.2 b hb).trans e) po.2.1 hl (.inr hsz) hc hp, q6⟩)
end
end L2
set_option Elab.async false
set_option linter.all false
set_option maxRecDepth 100000
set_option maxHeartbeats 400000
namespace L2
open PySem PySem.Spec PyProof.Rows
theorem seq_any {t rest : TS} {D : Ends} {σ : St} {H : Hp} (R : St → Hp → Prop) (hr : ∀ σ1 H1, R σ1 H1 → rest D σ1 H1) (h : (∀ σ1 H1, R σ1 H1 → rest D σ1 H1) → t { D with nx := rest D } σ H) : tSeq t rest D σ H := h hr
theorem seq_asg {te : TE} {g : TG} {rest : TS} {D : Ends} {σ : St} {H : Hp} (h : te σ H fun x H1 => g x σ H1 (rest D)) : tSeq (tAsg te g) rest D σ H := h
structure Runs (J : It) (H1 : Hp) (n : Nat) (Item : Nat → V → Hp → Prop) : Prop where
  go : ∀ i, i < n → ∀ H, Same H1 H → J.go i H
  stop : ∀ H, Same H1 H → J.stop n H
  item : ∀ i, i < n → ∀ H v H', Same H1 H → J.yld i H v H' → Same H H' ∧ Item i v H'
theorem range_filter_succ (p : Nat → Bool) (n : Nat) : (List.range (n + 1)).filter p = (List.range n).filter p ++ (if p n = true then [n] else []) := by
  rw [List.range_succ, List.filter_append, List.filter_cons]
  cases p n <;> rfl
inductive All2 {α β : Type} (R : α → β → Prop) : List α → List β → Prop
  | nil : All2 R [] []
  | cons {a : α} {b : β} {xs : List α} {ys : List β} : R a b → All2 R xs ys → All2 R (a :: xs) (b :: ys)
theorem forall2_snoc {α β : Type} {R : α → β → Prop} : ∀ {xs : List α} {ys : List β} {x : α} {y : β}, All2 R xs ys → R x y → All2 R (xs ++ [x]) (ys ++ [y])
  | [], _, x, y, .nil, h => .cons h .nil
  | _ :: _, _, x, y, .cons a r, h => .cons a (forall2_snoc r h)
theorem forall2_mono {α β : Type} {R S : α → β → Prop} (h : ∀ a b, R a b → S a b) : ∀ {xs : List α} {ys : List β}, All2 R xs ys → All2 S xs ys
  | [], _, .nil => .nil
  | _ :: _, _, .cons a r => .cons (h _ _ a) (forall2_mono h r)
theorem forall2_len {α β : Type} {R : α → β → Prop} : ∀ {xs : List α} {ys : List β}, All2 R xs ys → ys.length = xs.length
  | [], _, .nil => rfl
  | _ :: _, _, .cons _ r => congrArg (· + 1) (forall2_len r)
theorem forall2_fun {α β : Type} {f : α → β} : ∀ {xs : List α} {ys : List β}, All2 (fun x y => y = f x) xs ys → ys = xs.map f
  | [], _, .nil => rfl
  | _ :: _, _, .cons a r => by rw [List.map_cons, forall2_fun r, a]
theorem compG_runs {J : It} {H1 : Hp} {n m : Nat} {Item : Nat → V → Hp → Prop} {fr : List (Nat × Str)} {g : TG} {tc : TT} {te : TE} {σ : St} {Q : VK} (p : Nat → Bool) (R : Nat → V → Hp → Prop) (hR : ∀ i y H H', Same H H' → R i y H → R i y H') (r : Runs J H1 n Item) (hn : n ≤ sizeLine)
    (body : ∀ i, i < n → ∀ v H, Same H1 H → Item i v H → ∀ (KT : VK) (KF : Hp → Prop), (p i = true → ∀ y H', Same H H' → R i y H' → KT y H') → (p i = false → ∀ H', Same H H' → KF H') →
      g v (cStG σ fr (List.replicate m none)) H fun σ6 H6 => ∃ us, us.length = m ∧ σ6 = cStG σ fr us ∧ tc (cStG σ fr us) H6 fun b H2 => if b = true then te (cStG σ fr us) H2 KT else KF H2)
    (hQ : ∀ l H' ys, Same H1 H' → H' l = none → All2 (fun i y => R i y H') ((List.range n).filter p) ys → Q (.ref l) (upd H' l (.lst ys))) :
    ∃ W : Nat → Nat → List V → Hp → Prop, (∃ m, W 0 m [] H1) ∧ ∀ i k ys H, W i k ys H →
      (J.stop i H ∧ ys.length ≤ sizeLine ∧ ∀ p, H p = none → Q (.ref p) (upd H p (.lst ys))) ∨
      (J.go i H ∧ ys.length ≤ sizeLine ∧ ∀ v H', J.yld i H v H' → g v (cStG σ fr (List.replicate m none)) H' fun σ6 H6 => ∃ us, us.length = m ∧ σ6 = cStG σ fr us ∧ tc (cStG σ fr us) H6 fun b H2 => if b = true then te (cStG σ fr us) H2 fun y H3 => ∃ m', m' < k ∧ W (i + 1) m' (ys ++ [y]) H3 else ∃ m', m' < k ∧ W (i + 1) m' ys H2) := by
  refine ⟨fun i k ys H' => k = n - i ∧ i ≤ n ∧ Same H1 H' ∧ All2 (fun i y => R i y H') ((List.range i).filter p) ys, ⟨n, by simp, Nat.zero_le _, Same.refl H1, .nil⟩, ?_⟩
  rintro i k ys H' ⟨rfl, hi, sm, fa⟩
  have hl2 : ys.length ≤ sizeLine := by
    rw [forall2_len fa]
    have := List.length_filter_le p (List.range i)
    rw [List.length_range] at this
    omega
  by_cases hlt : i < n
  · refine .inr ⟨r.go i hlt H' sm, hl2, fun v H2 y => ?_⟩
    obtain ⟨s2, it⟩ := r.item i hlt H' v H2 sm y
    refine body i hlt v H2 (sm.trans s2) it _ _ (fun hp y H3 s3 ry => ⟨n - (i + 1), by omega, rfl, hlt, (sm.trans s2).trans s3, ?_⟩) (fun hp H3 s3 => ⟨n - (i + 1), by omega, rfl, hlt, (sm.trans s2).trans s3, ?_⟩)
    · rw [range_filter_succ, if_pos hp]
      exact forall2_snoc (forall2_mono (fun a b z => hR a b _ _ (s2.trans s3) z) fa) ry
    · rw [range_filter_succ, if_neg (by rw [hp]; decide), List.append_nil]
      exact forall2_mono (fun a b z => hR a b _ _ (s2.trans s3) z) fa
  · have e : i = n := by omega
    subst e
    exact .inl ⟨r.stop H' sm, hl2, fun l hl => hQ l H' ys sm hl fa⟩
theorem runs_list {K : PySem.W.Frag} {a : Addr} {xs : List V} {H1 : Hp} (hq : SqL K H1 a xs) : Runs (Itl K a) H1 xs.length (fun i v _ => xs[i]? = some v) :=
  ⟨fun i hi H s => ⟨xs, xs[i], s.seq hq, by simp [hi]⟩, fun H s => ⟨xs, s.seq hq, Nat.le_refl _⟩, fun i hi H v H' s y => by
    obtain ⟨e, y⟩ := y
    subst e
    exact ⟨Same.refl _, y xs (s.seq hq)⟩⟩
theorem filter_range_map {α β : Type} (p : α → Bool) (f : α → β) (d : α) : ∀ xs : List α, ((List.range xs.length).filter fun i => p (xs[i]?.getD d)).map (fun i => f (xs[i]?.getD d)) = (xs.filter p).map f := by
  intro xs
  have h : (List.range xs.length).map (fun i => xs[i]?.getD d) = xs := by
    apply List.ext_getElem
    · simp
    · intro i h1 h2
      simp only [List.getElem_map, List.getElem_range, List.getElem?_eq_getElem h2, Option.getD_some]
  have e : (xs.filter p).map f = ((((List.range xs.length).map (fun i => xs[i]?.getD d))).filter p).map f := by rw [h]
  rw [e, List.filter_map, List.map_map]
  rfl
theorem compG_fun {J : It} {H1 : Hp} {xs : List V} {m : Nat} {fr : List (Nat × Str)} {g : TG} {tc : TT} {te : TE} {σ : St} {Q : VK} (p : V → Bool) (f : V → V) (r : Runs J H1 xs.length (fun i v _ => xs[i]? = some v)) (hn : xs.length ≤ sizeLine)
    (body : ∀ v ∈ xs, ∀ H, Same H1 H → ∀ (KT : VK) (KF : Hp → Prop), (p v = true → ∀ H', Same H H' → KT (f v) H') → (p v = false → ∀ H', Same H H' → KF H') →
      g v (cStG σ fr (List.replicate m none)) H fun σ6 H6 => ∃ us, us.length = m ∧ σ6 = cStG σ fr us ∧ tc (cStG σ fr us) H6 fun b H2 => if b = true then te (cStG σ fr us) H2 KT else KF H2)
    (hQ : ∀ l H', Same H1 H' → H' l = none → Q (.ref l) (upd H' l (.lst ((xs.filter p).map f)))) :
    ∃ W : Nat → Nat → List V → Hp → Prop, (∃ m, W 0 m [] H1) ∧ ∀ i k ys H, W i k ys H →
      (J.stop i H ∧ ys.length ≤ sizeLine ∧ ∀ p, H p = none → Q (.ref p) (upd H p (.lst ys))) ∨
      (J.go i H ∧ ys.length ≤ sizeLine ∧ ∀ v H', J.yld i H v H' → g v (cStG σ fr (List.replicate m none)) H' fun σ6 H6 => ∃ us, us.length = m ∧ σ6 = cStG σ fr us ∧ tc (cStG σ fr us) H6 fun b H2 => if b = true then te (cStG σ fr us) H2 fun y H3 => ∃ m', m' < k ∧ W (i + 1) m' (ys ++ [y]) H3 else ∃ m', m' < k ∧ W (i + 1) m' ys H2) := by
  refine compG_runs (fun i => p (xs[i]?.getD .non)) (fun i y _ => y = f (xs[i]?.getD .non)) (fun _ _ _ _ _ h => h) r hn (fun i hi v H s it KT KF h1 h2 => ?_) fun l H' ys s hl fa => ?_
  · rw [it] at h1 h2
    exact body v (List.mem_of_getElem? it) H s KT KF (fun hp H' s' => h1 hp _ H' s' rfl) h2
  · have e := forall2_fun fa
    rw [filter_range_map p f .non xs] at e
    rw [e]
    exact hQ l H' s hl
theorem tcompG_list {K : PySem.W.Frag} {a : Addr} {xs : List V} {tl te : TE} {tc : TT} {g : TG} {m : Nat} {fr : List (Nat × Str)} {σ : St} {H H1 : Hp} {Q : VK} (p : V → Bool) (f : V → V) (htl : ∀ R : VK, R (.ref a) H1 → tl σ H R) (hq : SqL K H1 a xs) (hn : xs.length ≤ sizeLine)
    (body : ∀ v ∈ xs, ∀ H, Same H1 H → ∀ (KT : VK) (KF : Hp → Prop), (p v = true → ∀ H', Same H H' → KT (f v) H') → (p v = false → ∀ H', Same H H' → KF H') →
      g v (cStG σ fr (List.replicate m none)) H fun σ6 H6 => ∃ us, us.length = m ∧ σ6 = cStG σ fr us ∧ tc (cStG σ fr us) H6 fun b H2 => if b = true then te (cStG σ fr us) H2 KT else KF H2)
    (hQ : ∀ l H', Same H1 H' → H' l = none → Q (.ref l) (upd H' l (.lst ((xs.filter p).map f)))) : tCompG (iList K tl) m fr g tc te σ H Q :=
  htl _ ⟨a, rfl, ⟨xs, hq⟩, compG_fun p f (runs_list hq) hn body hQ⟩
end L2
set_option Elab.async false
set_option linter.all false
set_option maxRecDepth 100000
set_option maxHeartbeats 400000
namespace L2
open PySem PySem.Spec PyProof.Rows
theorem preSum_take (ns : List Int) : ∀ j, j ≤ ns.length → preSum (fun i => ns[i]?.getD 0) j = (ns.take j).sum
  | 0, _ => by rw [List.take_zero]; rfl
  | j + 1, h => by
    show preSum (fun i => ns[i]?.getD 0) j + ns[j]?.getD 0 = _
    rw [preSum_take ns j (Nat.le_of_succ_le h), List.take_succ_eq_append_getElem h, List.sum_append, List.getElem?_eq_getElem h]
    simp
section
variable {X : Cx}
def rSetD : TSet := fun x y v H Q => ∃ a H', x = .ref a ∧ DPut H a y v H' ∧ Q H'
end
end L2
set_option Elab.async false
set_option linter.all false
set_option maxRecDepth 100000
set_option maxHeartbeats 400000
namespace L2
open PySem PySem.Spec PyProof.Rows
structure QE (X : Cx) (e : Expr) (t : TE) : Prop where
  run : PE X e t
structure QA (X : Cx) (es : List Expr) (t : TA) : Prop where
  run : PA X es t
structure QPs (X : Cx) (pos : Pos) (ks : List (Option Expr)) (vs : List Expr) (t : List (TE × TE)) : Prop where
  run : PPs X pos ks vs t
structure QS (X : Cx) (st : Stmt) (t : TS) : Prop where
  run : PS X st t
structure QSs (X : Cx) (sts : List Stmt) (t : TS) : Prop where
  run : PSs X sts t
section
variable {X : Cx} {pos : Pos}
theorem q_of {sts : List Stmt} {t : TS} {G : TS → Prop} (q : QSs X sts t) (g : G t) : ∃ t, PSs X sts t ∧ G t := ⟨t, q.run, g⟩
theorem qss_one {st : Stmt} {t : TS} (h : QS X st t) : QSs X [st] t := ⟨pss_one h.run⟩
theorem qss_cons {st : Stmt} {rest : List Stmt} {t u : TS} (h : QS X st t) (r : QSs X rest u) : QSs X (st :: rest) (tSeq t u) := ⟨pss_cons h.run r.run⟩
theorem qs_set {i : Nat} {x : Str} {e : Expr} {te : TE} {pos' : Pos} (hN : X.N.Nodup) (hi : X.N[i]? = some x) (hx : Loc X.env.scope x) (he : QE X e te) (hs : swapsWith e (some (.Name x pos')) pos.line X.env = pure false := by rfl) (hf : X.fn x = true ∨ X.env.scope.names.lookup x = some .local := by first | exact .inl rfl | exact .inr rfl | assumption) :
    QS X (.Assign [.Name x pos'] e pos) (tAsg te (gName i)) := ⟨ps_set hN hi hx he.run hs hf⟩
theorem qs_dput {o i value : Expr} {td ty tv : TE} {pos' : Pos} (hu : X.A.units + 1 < cLine) (ho : QE X o td) (hi : QE X i ty) (hv : QE X value tv) (hs : swapsWith value (some (.Subscript o i pos')) pos.line X.env = pure false) :
    QS X (.Assign [.Subscript o i pos'] value pos) (sDPut td ty tv) := ⟨ps_dput hu ho.run hi.run hv.run hs⟩
theorem qs_for {tg iter : Expr} {body : List Stmt} {wi : TI} {g : TG} {tb : TS} (hp : PassesOwn (model X.prog X.w) X.A X.env X.xe) (hc : X.calm = true) (hi : PI X tg iter wi) (hg : PG X tg g) (hb : QSs X body tb)
    (hs : ∀ x, foldedSetIterable iter X.env x = pure x := by intro _; rfl) : QS X (.For tg iter body [] pos) (tFor wi g tb) := ⟨ps_for hp hc hi hg hb.run hs⟩
theorem qe_lst {es : List Expr} {t : TA} (h : QA X es t) : QE X (.List es pos) (tLst t) := ⟨pe_lst h.run⟩
theorem qe_tup {es : List Expr} {t : TA} {x1} (h : QA X es t) : QE X (.Tuple es x1 pos) (tTup t) := ⟨pe_tup h.run⟩
theorem qa_nil : QA X [] tNil := ⟨pa_nil⟩
theorem qa_cons {e : Expr} {es : List Expr} {te : TE} {t : TA} (ha : QE X e te) (hr : QA X es t) (hs : starEach (e :: es) X.env = (false, eval e X.env) :: starEach es X.env := by rfl) : QA X (e :: es) (tCons te t) := ⟨pa_cons ha.run hr.run hs⟩
theorem qa_strs (l : List (Str × Nat × Pos)) : QA X (l.map cStr) (tStrs (l.map (·.1))) := ⟨pa_strs l⟩
theorem qps_nil : QPs X pos [] [] [] := ⟨pps_nil⟩
theorem qps_cons {k v : Expr} {ks : List (Option Expr)} {vs : List Expr} {tk tv : TE} {trs : List (TE × TE)} (hk : QE X k tk) (hv : QE X v tv) (hr : QPs X pos ks vs trs) : QPs X pos (some k :: ks) (v :: vs) ((tk, tv) :: trs) := ⟨pps_cons hk.run hv.run hr.run⟩
theorem qe_disp {keys : List (Option Expr)} {values : List Expr} {trs : List (TE × TE)} (h : QPs X pos keys values trs) (hall : keys.all (·.isSome) = true) (hl : keys.length = values.length) (h0 : keys ≠ []) (h15 : keys.length ≤ 15) : QE X (.Dict keys values pos) (tDisp trs) := ⟨pe_disp h.run hall hl h0 h15⟩
theorem qe_ix {a b : Expr} {ta tb : TE} {r : R2} (hr : IxR X r) (ha : QE X a ta) (hb : QE X b tb) (hs : PlainIx b) : QE X (.Subscript a b pos) (tOp r ta tb) := ⟨pe_ix hr ha.run hb.run hs⟩
end
end L2
set_option Elab.async false
set_option linter.all false
set_option maxRecDepth 100000
set_option maxHeartbeats 400000
namespace L2
open PySem PySem.Spec PyProof.Rows
theorem ix_seqK {X : Cx} {K : PySem.W.Frag} (h : X.K = K) : IxR X (rIx K) := h ▸ ix_seq
theorem ret_cb1 {f : List V → Hp → VK → Prop} {te : TE} {D : Ends} {σ : St} {H : Hp} (h : te σ H fun x H1 => f [x] H1 D.rt) : tRet (tCB f (tCons te tNil)) D σ H := h
theorem all2_get {α β : Type} {R : α → β → Prop} : ∀ {xs : List α} {ys : List β} {i : Nat} {y : β}, All2 R xs ys → ys[i]? = some y → ∃ x, xs[i]? = some x ∧ R x y
  | _, _, i, y, .nil, e => by simp at e
  | _, _, 0, y, .cons a _, e => by
    rw [List.getElem?_cons_zero] at e
    cases e
    exact ⟨_, List.getElem?_cons_zero, a⟩
  | _, _, i + 1, y, .cons _ r, e => by
    rw [List.getElem?_cons_succ] at e
    obtain ⟨x, h1, h2⟩ := all2_get r e
    exact ⟨x, by rw [List.getElem?_cons_succ]; exact h1, h2⟩
theorem compG_all2 {α : Type} {J : It} {H1 : Hp} {rs : List α} {xs : List V} {RA : Hp → α → V → Prop} {m : Nat} {fr : List (Nat × Str)} {g : TG} {tc : TT} {te : TE} {σ : St} {Q : VK} (d : α) (p : α → Bool) (f : α → V) (r : Runs J H1 xs.length (fun i v _ => xs[i]? = some v)) (hm : ∀ H H' a v, Same H H' → RA H a v → RA H' a v) (al : All2 (RA H1) rs xs) (hn : rs.length ≤ sizeLine)
    (body : ∀ a ∈ rs, ∀ v H, Same H1 H → RA H a v → ∀ (KT : VK) (KF : Hp → Prop), (p a = true → ∀ H', Same H H' → KT (f a) H') → (p a = false → ∀ H', Same H H' → KF H') →
      g v (cStG σ fr (List.replicate m none)) H fun σ6 H6 => ∃ us, us.length = m ∧ σ6 = cStG σ fr us ∧ tc (cStG σ fr us) H6 fun b H2 => if b = true then te (cStG σ fr us) H2 KT else KF H2)
    (hQ : ∀ l H', Same H1 H' → H' l = none → Q (.ref l) (upd H' l (.lst ((rs.filter p).map f)))) :
    ∃ W : Nat → Nat → List V → Hp → Prop, (∃ m, W 0 m [] H1) ∧ ∀ i k ys H, W i k ys H →
      (J.stop i H ∧ ys.length ≤ sizeLine ∧ ∀ p, H p = none → Q (.ref p) (upd H p (.lst ys))) ∨
      (J.go i H ∧ ys.length ≤ sizeLine ∧ ∀ v H', J.yld i H v H' → g v (cStG σ fr (List.replicate m none)) H' fun σ6 H6 => ∃ us, us.length = m ∧ σ6 = cStG σ fr us ∧ tc (cStG σ fr us) H6 fun b H2 => if b = true then te (cStG σ fr us) H2 fun y H3 => ∃ m', m' < k ∧ W (i + 1) m' (ys ++ [y]) H3 else ∃ m', m' < k ∧ W (i + 1) m' ys H2) := by
  have len := forall2_len al
  refine compG_runs (fun i => p (rs[i]?.getD d)) (fun i y _ => y = f (rs[i]?.getD d)) (fun _ _ _ _ _ h => h) r (by rw [len]; exact hn) (fun i hi v H s it KT KF h1 h2 => ?_) fun l H' ys s hl fa => ?_
  · obtain ⟨a, ha, ra⟩ := all2_get al it
    rw [ha] at h1 h2
    exact body a (List.mem_of_getElem? ha) v H s (hm _ _ _ _ s ra) KT KF (fun hp H' s' => h1 hp _ H' s' rfl) h2
  · have e := forall2_fun fa
    rw [len, filter_range_map p f d rs] at e
    rw [e]
    exact hQ l H' s hl
theorem tcompG_all2 {α : Type} {K : PySem.W.Frag} {l : Addr} {rs : List α} {xs : List V} {RA : Hp → α → V → Prop} {tl te : TE} {tc : TT} {g : TG} {m : Nat} {fr : List (Nat × Str)} {σ : St} {H H1 : Hp} {Q : VK} (d : α) (p : α → Bool) (f : α → V) (htl : ∀ R : VK, R (.ref l) H1 → tl σ H R) (hq : SqL K H1 l xs) (hm : ∀ H H' a v, Same H H' → RA H a v → RA H' a v) (al : All2 (RA H1) rs xs) (hn : rs.length ≤ sizeLine)
    (body : ∀ a ∈ rs, ∀ v H, Same H1 H → RA H a v → ∀ (KT : VK) (KF : Hp → Prop), (p a = true → ∀ H', Same H H' → KT (f a) H') → (p a = false → ∀ H', Same H H' → KF H') →
      g v (cStG σ fr (List.replicate m none)) H fun σ6 H6 => ∃ us, us.length = m ∧ σ6 = cStG σ fr us ∧ tc (cStG σ fr us) H6 fun b H2 => if b = true then te (cStG σ fr us) H2 KT else KF H2)
    (hQ : ∀ l H', Same H1 H' → H' l = none → Q (.ref l) (upd H' l (.lst ((rs.filter p).map f)))) : tCompG (iList K tl) m fr g tc te σ H Q :=
  htl _ ⟨l, rfl, ⟨xs, hq⟩, compG_all2 d p f (runs_list hq) hm al hn body hQ⟩
end L2
set_option Elab.async false
set_option linter.all false
set_option maxRecDepth 100000
set_option maxHeartbeats 4000000
namespace L2
open PySem PySem.Spec PyProof.Rows
section
variable {prog : Program} {w : World} {A : Around} {E : Value → Shared → Prop} {s : Shared}
theorem draws_tuple (hh : A.handled = none) (it t : Addr) (ne : t ≠ it) (items : Array Value) : Draws prog w A it [it, t] items.size (fun i v => items[i]? = some v) (fun i h => h.IsTupleIter it t i ∧ h.IsTuple t items) where
  live := fun i h st => st.1.elim fun o z => ⟨o, z.1⟩
  frame := fun i h h' st k => ⟨st.1.elim fun o z => ⟨o, k it (by simp) o z.1, z.2⟩, st.2.elim fun o z => ⟨o, k t (by simp) o z.1, z.2⟩⟩
  item := fun i s Q E hi st q => tupOn st.1 st.2 (Array.getElem?_eq_getElem hi) fun h' it' sb => q _ h' s.toks (Array.getElem?_eq_getElem hi) ⟨it', st.2.elim fun o z => ⟨o, (sb.2 t ne).trans z.1, z.2⟩⟩ sb
  done := fun s Q E st q => tupOff hh st.1 st.2 (by simp) fun h' e x y => q h' e x y
theorem enumNew (a : Addr) (xs : Array Value) : Meets (Builtin.«enumerate.__new__» ⟨[.type "enumerate", .ref a], []⟩) (fun _ R s => s.heap.IsTuple a xs ∧ R (.ok (.ret (.ref (s.heap.objs.size + 1))))
    { s with heap := (s.heap.push { cls := .type "tuple_iterator", data := .fields #[.ref a, .int 0 0] }).push { cls := .type "enumerate", data := .fields #[.none, .bool false, .ref s.heap.objs.size, rawInt 0, .none, .none] } }) :=
  .of_wp fun prog w A R s h => by
    obtain ⟨hp, g, d, tk, os⟩ := s
    obtain ⟨ha, h⟩ := h
    have sub := sub_enumerate
    have h1 : Heap.IsTuple (Shared.heap ⟨hp, g, d, tk, os⟩) a xs := ha
    wp_walk using wpAny_pyIter_tuple h1
    intro Γ p hΓ
    show wpAny (model prog w) A.in1 (pure _) _ _ _
    refine wpAny_pure ?_
    generalize List.drop 1 ((Γ.code, p) :: Γ.below) = L
    split
    · rename_i c _ _ _ _
      cases c == Value.type "enumerate" with
      | true =>
        wp_walk using wpAny_pyIter_tuple h1
        refine ⟨_, rfl, ?_⟩
        simpa [Heap.size_push, Builtin.SmallTypes.ownedTupleFields] using h
      | false =>
        wp_walk using wpAny_pyIter_tuple h1
        refine ⟨_, rfl, ?_⟩
        simpa [Heap.size_push, Builtin.SmallTypes.ownedTupleFields] using h
    · wp_walk using wpAny_pyIter_tuple h1
      refine ⟨_, rfl, ?_⟩
      simpa [Heap.size_push, Builtin.SmallTypes.ownedTupleFields] using h
theorem enumMade {a : Addr} {xs : Array Value} {Q : Value → Shared → Prop} (ha : s.heap.IsTuple a xs)
    (q : ∀ h', IsEnum h' (s.heap.objs.size + 1) s.heap.objs.size 0 .none → h'.IsTupleIter s.heap.objs.size a 0 → h'.objs.size = s.heap.objs.size + 2 → (∀ c o, s.heap.get? c = some o → h'.get? c = some o) → Q (.ref (s.heap.objs.size + 1)) { s with heap := h' }) :
    wpAny (model prog w) A (call (.type "enumerate") [.ref a]) Q E s := by
  refine callType_new F.called_enumerate (by decide) (F.typeCall_enumerate_1 _) (F.newCall_enumerate_1 _) (fun obj => F.args_object_init_2 obj _) F.entry_enumerate_new (enumNew a xs) ⟨ha, ?_⟩
  generalize hn : s.heap.objs.size = n at q ⊢
  generalize h0 : s.heap.push { cls := .type "tuple_iterator", data := .fields #[.ref a, .int 0 0] } = k0
  have z0 : k0.objs.size = n + 1 := by rw [← h0, Heap.size_push, hn]
  have g0 : k0.get? n = some { cls := .type "tuple_iterator", data := .fields #[.ref a, .int 0 0] } := by rw [← h0, ← hn]; exact Heap.get?_push_size _ rfl
  have g1 : (k0.push { cls := .type "enumerate", data := .fields #[.none, .bool false, .ref n, rawInt 0, .none, .none] }).get? (n + 1) = some { cls := .type "enumerate", data := .fields #[.none, .bool false, .ref n, rawInt 0, .none, .none] } := by rw [← z0]; exact Heap.get?_push_size _ rfl
  exact ⟨⟨_, g1, rfl⟩, q _ g1 ⟨_, Heap.get?_push_of_some _ g0, rfl, rfl⟩ (by rw [Heap.size_push, z0]) fun c o e => Heap.get?_push_of_some _ (by rw [← h0]; exact Heap.get?_push_of_some _ e)⟩
end
def IteL (K : PySem.W.Frag) (a : Addr) : It :=
  ⟨fun i H => ∃ xs x, SqL K H a xs ∧ xs[i]? = some x,
   fun i H v H' => ∃ p, H p = none ∧ v = .ref p ∧ ∀ xs, SqL K H a xs → ∃ x, xs[i]? = some x ∧ H' = upd H p (.tup [.int i, x]),
   fun i H => ∃ xs, SqL K H a xs ∧ xs.length = i⟩
theorem turn_enumL {P : Program} {w : World} {K : PySem.W.Frag} {elts : List Expr} {x1 : Nat} {pos : Pos} {e it a : Addr} (ne : e ≠ it) (nae : a ≠ e) (nai : a ≠ it) : Turn P w K (.Tuple elts x1 pos) (IteL K a) [e, it] e (fun n h => (∃ old, IsEnum h e it (n : Nat) old) ∧ h.IsListIter it a n) where
  mem := by simp
  obj := fun n h st c hc => by
    simp only [List.mem_cons, List.not_mem_nil, or_false] at hc
    rcases hc with rfl | rfl
    · obtain ⟨⟨old, z⟩, _⟩ := st
      exact ⟨_, z, fun v z => by cases (show Data.fields _ = Data.cell v from z)⟩
    · obtain ⟨_, o, e, _, d⟩ := st
      exact ⟨o, e, fun v z => by rw [d] at z; cases z⟩
  keep := fun n h h' st k => by
    obtain ⟨⟨old, z⟩, o, e1, e2⟩ := st
    exact ⟨⟨old, k e (by simp) _ z⟩, o, k it (by simp) _ e1, e2⟩
  item := by
    intro X hP hw hK hc n pins s σ H E I hf st hg
    subst hP hw hK
    obtain ⟨xs, x, sa, hx⟩ := hg
    obtain ⟨ia, ra, pa, _⟩ := I.list sa
    have pa : s.heap.IsList a ia.toArray := pa.isList
    obtain ⟨u, hu, ru⟩ := ra.get hx
    have D := Draws.list (prog := X.prog) (w := X.w) (A := X.A.in1) (I.ok.hd hc) it a nai ia.toArray
    have hlt : n < ia.toArray.size := by
      have := (List.getElem?_eq_some_iff.mp hu).1
      simpa using this
    obtain ⟨⟨old, se⟩, si⟩ := st
    refine wpAny_pyNext_enum_itemD D se ⟨si, pa⟩ hlt ne (by simp [ne, nae.symm]) fun y h' t hy out si' tT hz kk => ?_
    have hy : ia[n]? = some y := by simpa using hy
    rw [hu] at hy
    cases hy
    have lte : e < s.heap.objs.size := Heap.lt_size se
    have lti : it < s.heap.objs.size := by obtain ⟨o, z, _⟩ := si; exact Heap.lt_size z
    have nTe : s.heap.objs.size ≠ e := Nat.ne_of_gt lte
    have nT : s.heap.objs.size ∉ [e, it] := by simp only [List.mem_cons, List.not_mem_nil, or_false, not_or]; exact ⟨nTe, Nat.ne_of_gt lti⟩
    refine ⟨_, rfl, wpAny_letOwnedTupleGo_enum out fun h2 se2 sb => ?_⟩
    have k2 : ∀ b o, b ∉ [e, it] → s.heap.get? b = some o → h2.get? b = some o := fun b o hb z => by
      simp only [List.mem_cons, List.not_mem_nil, or_false, not_or] at hb
      exact (sb.2 b hb.1).trans (kk b o hb.1 hb.2 z)
    have tT2 := (sb.2 _ nTe).trans tT
    have st2 := si'.1.elim fun o z => (⟨o, (sb.2 it ne.symm).trans z.1, z.2⟩ : h2.IsListIter it a (n + 1))
    have fr : H s.heap.objs.size = none := I.hok.fresh (Nat.le_refl _)
    refine ⟨.ref s.heap.objs.size, upd H s.heap.objs.size (.tup [.int n, x]), I.turnedLaid (t' := t + 1) k2 hf (Nat.le_refl _) ⟨show (2 : Nat) ≤ sizeLine by decide, [.int n t, u], .cons ⟨t, rfl⟩ (.cons ru .nil), ⟨_, tT2, rfl, _, rfl⟩, _, tT2, rfl⟩, rfl, ⟨_, fr, rfl, fun xs' sa' => ⟨x, ?_, rfl⟩⟩, ⟨⟨_, se2⟩, st2⟩, fun c hc => ?_⟩
    · rw [I.list_inj sa' sa]; exact hx
    · rw [upd_ne (fun (z : c = s.heap.objs.size) => nT (z ▸ hc))]
      exact (hf c hc).1
  done := by
    intro X hP hw hK hc n pins s σ H E I hf st hg
    subst hP hw hK
    obtain ⟨xs, sa, rfl⟩ := hg
    obtain ⟨ia, ra, pa, _⟩ := I.list sa
    have pa : s.heap.IsList a ia.toArray := pa.isList
    have D := Draws.list (prog := X.prog) (w := X.w) (A := X.A.in1) (I.ok.hd hc) it a nai ia.toArray
    have W := WalksT.enumerateD D e ne (by simp [ne, nae.symm]) (by simp)
    have la : ia.toArray.size = xs.length := by simpa using ra.length.symm
    exact W.done s _ E (by rw [la]; exact ⟨st.1, st.2, pa⟩) fun h' tk kk => ⟨rfl, I.turnedL (t' := tk) (fun c o hc e => kk c o hc e) hf⟩
  self := fun _ _ _ _ _ st h => st.1.elim fun old z => wpAny_pyIter_enum z h
def ieL (K : PySem.W.Frag) (ta : TA) : TI := fun σ H R => ta σ H fun vs H1 => ∃ a xs, vs = [.ref a] ∧ SqL K H1 a xs ∧ R (IteL K a) H1
theorem pi_enumL {X : Cx} {elts : List Expr} {x1 : Nat} {tpos : Pos} {e : Expr} {ta : TA} {p pos : Pos} (hg : Gl X "enumerate") (hm : X.mg "enumerate" = none) (ha : PA X [e] ta) (hs : starEach [e] X.env = [(false, eval e X.env)] := by rfl) :
    PI X (.Tuple elts x1 tpos) (.Call (.Name "enumerate" p) [e] [] pos) (ieL X.K ta) := by
  intro pins s σ H R I h
  refine Call_ (ld_blt I hg hm boot_enumerate (PyProof.Rows.callWith_type1 (thn (ha pos pins s σ H _ I h) fun us s1 ⟨vs, H1, I1, r1, q1⟩ => ?_) (by rw [hs]; rfl) rfl))
  obtain ⟨a, xs, ev, sa, q⟩ := q1
  subst ev
  obtain ⟨u, rfl, ru⟩ := vals1 r1
  cases (show u = Value.ref a from ru)
  obtain ⟨ia, ra, pa, _⟩ := I1.list sa
  have pa : s1.heap.IsList a ia.toArray := pa.isList
  have la : a < s1.heap.objs.size := by obtain ⟨o, e, _⟩ := id pa; exact Heap.lt_size e
  refine call_enumerate_list pa fun h' st1 st2 _ kk => ?_
  refine wpAny_pyIter_enum st1 ?_
  refine ⟨_, _, _, _, H1, rfl, I1.kept (t' := s1.toks) kk, turn_enumL (Nat.ne_of_gt (Nat.lt_succ_self _)) (Nat.ne_of_lt (Nat.lt_succ_of_lt la)) (Nat.ne_of_lt la), ⟨⟨_, st1⟩, st2⟩, fun c hc => ?_, q⟩
  have hc' : s1.heap.objs.size ≤ c := by
    simp only [List.mem_cons, List.not_mem_nil, or_false] at hc
    rcases hc with rfl | rfl
    · exact Nat.le_add_right _ _
    · exact Nat.le_refl _
  exact I1.fpOk hc' (I1.hok.fresh hc')
def IteT (K : PySem.W.Frag) (a : Addr) : It :=
  ⟨fun i H => ∃ xs x, SqT K H a xs ∧ xs[i]? = some x,
   fun i H v H' => ∃ p, H p = none ∧ v = .ref p ∧ ∀ xs, SqT K H a xs → ∃ x, xs[i]? = some x ∧ H' = upd H p (.tup [.int i, x]),
   fun i H => ∃ xs, SqT K H a xs ∧ xs.length = i⟩
theorem turn_enumT {P : Program} {w : World} {K : PySem.W.Frag} {elts : List Expr} {x1 : Nat} {pos : Pos} {e it a : Addr} (ne : e ≠ it) (nae : a ≠ e) (nai : a ≠ it) : Turn P w K (.Tuple elts x1 pos) (IteT K a) [e, it] e (fun n h => (∃ old, IsEnum h e it (n : Nat) old) ∧ h.IsTupleIter it a n) where
  mem := by simp
  obj := fun n h st c hc => by
    simp only [List.mem_cons, List.not_mem_nil, or_false] at hc
    rcases hc with rfl | rfl
    · obtain ⟨⟨old, z⟩, _⟩ := st
      exact ⟨_, z, fun v z => by cases (show Data.fields _ = Data.cell v from z)⟩
    · obtain ⟨_, o, e, _, d⟩ := st
      exact ⟨o, e, fun v z => by rw [d] at z; cases z⟩
  keep := fun n h h' st k => by
    obtain ⟨⟨old, z⟩, o, e1, e2⟩ := st
    exact ⟨⟨old, k e (by simp) _ z⟩, o, k it (by simp) _ e1, e2⟩
  item := by
    intro X hP hw hK hc n pins s σ H E I hf st hg
    subst hP hw hK
    obtain ⟨xs, x, sa, hx⟩ := hg
    obtain ⟨ia, ra, pa, _⟩ := I.tuple sa
    have pa : s.heap.IsTuple a ia.toArray := pa
    obtain ⟨u, hu, ru⟩ := ra.get hx
    have D := draws_tuple (prog := X.prog) (w := X.w) (A := X.A.in1) (I.ok.hd hc) it a nai ia.toArray
    have hlt : n < ia.toArray.size := by
      have := (List.getElem?_eq_some_iff.mp hu).1
      simpa using this
    obtain ⟨⟨old, se⟩, si⟩ := st
    refine wpAny_pyNext_enum_itemD D se ⟨si, pa⟩ hlt ne (by simp [ne, nae.symm]) fun y h' t hy out si' tT hz kk => ?_
    have hy : ia[n]? = some y := by simpa using hy
    rw [hu] at hy
    cases hy
    have lte : e < s.heap.objs.size := Heap.lt_size se
    have lti : it < s.heap.objs.size := by obtain ⟨o, z, _⟩ := si; exact Heap.lt_size z
    have nTe : s.heap.objs.size ≠ e := Nat.ne_of_gt lte
    have nT : s.heap.objs.size ∉ [e, it] := by simp only [List.mem_cons, List.not_mem_nil, or_false, not_or]; exact ⟨nTe, Nat.ne_of_gt lti⟩
    refine ⟨_, rfl, wpAny_letOwnedTupleGo_enum out fun h2 se2 sb => ?_⟩
    have k2 : ∀ b o, b ∉ [e, it] → s.heap.get? b = some o → h2.get? b = some o := fun b o hb z => by
      simp only [List.mem_cons, List.not_mem_nil, or_false, not_or] at hb
      exact (sb.2 b hb.1).trans (kk b o hb.1 hb.2 z)
    have tT2 := (sb.2 _ nTe).trans tT
    have st2 := si'.1.elim fun o z => (⟨o, (sb.2 it ne.symm).trans z.1, z.2⟩ : h2.IsTupleIter it a (n + 1))
    have fr : H s.heap.objs.size = none := I.hok.fresh (Nat.le_refl _)
    refine ⟨.ref s.heap.objs.size, upd H s.heap.objs.size (.tup [.int n, x]), I.turnedLaid (t' := t + 1) k2 hf (Nat.le_refl _) ⟨show (2 : Nat) ≤ sizeLine by decide, [.int n t, u], .cons ⟨t, rfl⟩ (.cons ru .nil), ⟨_, tT2, rfl, _, rfl⟩, _, tT2, rfl⟩, rfl, ⟨_, fr, rfl, fun xs' sa' => ⟨x, ?_, rfl⟩⟩, ⟨⟨_, se2⟩, st2⟩, fun c hc => ?_⟩
    · rw [I.tuple_inj sa' sa]; exact hx
    · rw [upd_ne (fun (z : c = s.heap.objs.size) => nT (z ▸ hc))]
      exact (hf c hc).1
  done := by
    intro X hP hw hK hc n pins s σ H E I hf st hg
    subst hP hw hK
    obtain ⟨xs, sa, rfl⟩ := hg
    obtain ⟨ia, ra, pa, _⟩ := I.tuple sa
    have pa : s.heap.IsTuple a ia.toArray := pa
    have D := draws_tuple (prog := X.prog) (w := X.w) (A := X.A.in1) (I.ok.hd hc) it a nai ia.toArray
    have W := WalksT.enumerateD D e ne (by simp [ne, nae.symm]) (by simp)
    have la : ia.toArray.size = xs.length := by simpa using ra.length.symm
    exact W.done s _ E (by rw [la]; exact ⟨st.1, st.2, pa⟩) fun h' tk kk => ⟨rfl, I.turnedL (t' := tk) (fun c o hc e => kk c o hc e) hf⟩
  self := fun _ _ _ _ _ st h => st.1.elim fun old z => wpAny_pyIter_enum z h
def ieT (K : PySem.W.Frag) (ta : TA) : TI := fun σ H R => ta σ H fun vs H1 => ∃ a xs, vs = [.ref a] ∧ SqT K H1 a xs ∧ R (IteT K a) H1
theorem pi_enumT {X : Cx} {elts : List Expr} {x1 : Nat} {tpos : Pos} {e : Expr} {ta : TA} {p pos : Pos} (hg : Gl X "enumerate") (hm : X.mg "enumerate" = none) (ha : PA X [e] ta) (hs : starEach [e] X.env = [(false, eval e X.env)] := by rfl) :
    PI X (.Tuple elts x1 tpos) (.Call (.Name "enumerate" p) [e] [] pos) (ieT X.K ta) := by
  intro pins s σ H R I h
  refine Call_ (ld_blt I hg hm boot_enumerate (PyProof.Rows.callWith_type1 (thn (ha pos pins s σ H _ I h) fun us s1 ⟨vs, H1, I1, r1, q1⟩ => ?_) (by rw [hs]; rfl) rfl))
  obtain ⟨a, xs, ev, sa, q⟩ := q1
  subst ev
  obtain ⟨u, rfl, ru⟩ := vals1 r1
  cases (show u = Value.ref a from ru)
  obtain ⟨ia, ra, pa, _⟩ := I1.tuple sa
  have pa : s1.heap.IsTuple a ia.toArray := pa
  have la : a < s1.heap.objs.size := by obtain ⟨o, e, _⟩ := id pa; exact Heap.lt_size e
  refine enumMade pa fun h' st1 st2 _ kk => ?_
  refine wpAny_pyIter_enum st1 ?_
  refine ⟨_, _, _, _, H1, rfl, I1.kept (t' := s1.toks) kk, turn_enumT (Nat.ne_of_gt (Nat.lt_succ_self _)) (Nat.ne_of_lt (Nat.lt_succ_of_lt la)) (Nat.ne_of_lt la), ⟨⟨_, st1⟩, st2⟩, fun c hc => ?_, q⟩
  have hc' : s1.heap.objs.size ≤ c := by
    simp only [List.mem_cons, List.not_mem_nil, or_false] at hc
    rcases hc with rfl | rfl
    · exact Nat.le_add_right _ _
    · exact Nat.le_refl _
  exact I1.fpOk hc' (I1.hok.fresh hc')
theorem for_enumT {K : PySem.W.Frag} {a : Addr} {xs : List V} {g : TG} {tb : TS} {D : Ends} {σ : St} {H : Hp} (Pv : Nat → St → Hp → Prop) (h0 : Pv 0 σ H) (hl : ∀ i σ H, Pv i σ H → SqT K H a xs)
    (hs : ∀ i x σ H p, xs[i]? = some x → Pv i σ H → H p = none → g (.ref p) σ (upd H p (.tup [.int i, x])) fun σ2 H2 => tb { D with nx := Pv (i + 1), ct := Pv (i + 1), bk := D.nx } σ2 H2) (hd : ∀ σ H, Pv xs.length σ H → D.nx σ H) :
    ∃ W : Nat → Nat → St → Hp → Prop, (∃ m, W 0 m σ H) ∧ ∀ i m σ H, W i m σ H →
      ((IteT K a).stop i H ∧ D.nx σ H) ∨ ((IteT K a).go i H ∧ ∃ N : St → Hp → Prop, (∀ σ' H', N σ' H' → ∃ m', m' < m ∧ W (i + 1) m' σ' H') ∧ ∀ x H', (IteT K a).yld i H x H' → g x σ H' fun σ2 H2 => tb { D with nx := N, ct := N, bk := D.nx } σ2 H2) := by
  refine ⟨fun i m σ H => m = xs.length - i ∧ i ≤ xs.length ∧ Pv i σ H, ⟨xs.length, by simp, Nat.zero_le _, h0⟩, ?_⟩
  rintro i m σ H ⟨rfl, hi, p⟩
  have qa := hl i σ H p
  by_cases hlt : i < xs.length
  · refine .inr ⟨⟨xs, xs[i], qa, by simp [hlt]⟩, Pv (i + 1), fun σ' H' p' => ⟨xs.length - (i + 1), by omega, rfl, hlt, p'⟩, fun v H' y => ?_⟩
    obtain ⟨t, ht, rfl, yy⟩ := y
    obtain ⟨x', ex, rfl⟩ := yy xs qa
    exact hs i x' σ H t ex p ht
  · have e : i = xs.length := by omega
    subst e
    exact .inl ⟨⟨xs, qa, rfl⟩, hd σ H p⟩
end L2
set_option Elab.async false
set_option linter.all false
set_option maxRecDepth 100000
set_option maxHeartbeats 400000
namespace L2
open PySem PySem.Spec PyProof.Rows
section
variable {X : Cx}
theorem call_sumA (hc : X.calm = true) : CallR X (.builtin "sum") (fun xs H Q => ∃ (p : Addr) (ns : List Int), xs = [.ref p] ∧ SqL X.K H p (ns.map V.int) ∧ Q (.int ns.sum) H) := by
  intro pins s σ H xs us Q I r h
  obtain ⟨p, ns, rfl, hq, q⟩ := h
  obtain ⟨u, rfl, rx⟩ := vals1 r
  cases rx
  obtain ⟨its, rv, pl, hz⟩ := I.list hq
  have hne : p ≠ s.heap.objs.size := by
    obtain ⟨o, e, _⟩ := pl.isList
    exact Nat.ne_of_lt (Heap.lt_size e)
  have hl : its.length = ns.length := by have := rv.length; rw [List.length_map] at this; exact this.symm
  refine call_sum_walkAnyS (wpAny_pyIter_list pl.isList ?_)
  refine ⟨s.heap.objs.size, _, _, _, _, _, _, fun i => ns[i]?.getD 0, rfl, (Walks.list (show X.A.in1.handled = none from I.ok.hd hc) s.heap.objs.size p hne its.toArray).toS, ⟨⟨_, Heap.get?_push_size _ rfl, rfl, rfl⟩, pl.isList.at fun o e => Heap.get?_push_of_some _ e⟩, ?_, ?_, ?_⟩
  · intro b hb'
    simp only [List.mem_cons, List.not_mem_nil, or_false] at hb'
    rcases hb' with rfl | rfl
    · rw [Heap.size_push]
      exact Nat.lt_succ_self _
    · obtain ⟨o, e, _⟩ := pl.isList
      exact Heap.lt_size (Heap.get?_push_of_some _ e)
  · intro i v hv
    have hv : its[i]? = some v := by simpa using hv
    obtain ⟨hi, e⟩ := List.getElem?_eq_some_iff.mp hv
    have hi' : i < ns.length := by rw [← hl]; exact hi
    obtain ⟨u, e1, e2⟩ := rv.get (i := i) (x := .int ns[i]) (by simp [hi'])
    rw [hv] at e1
    cases e1
    obtain ⟨t, e2⟩ := e2
    exact ⟨t, by show v = Value.int (ns[i]?.getD 0) t; rw [List.getElem?_eq_getElem hi']; exact e2⟩
  · intro s' t' mv
    have e : preSum (fun i => ns[i]?.getD 0) its.toArray.size = ns.sum := by
      rw [List.size_toArray, hl, preSum_take ns _ (Nat.le_refl _), List.take_length]
    rw [e, mv.eq_with]
    refine ⟨.int _, H, I.kept (t' := s'.toks) fun b o z => mv.heap b o ?_ (Heap.get?_push_of_some _ z), ⟨_, rfl⟩, q⟩
    intro hb'
    rw [List.mem_singleton.mp hb'] at z
    exact absurd (Heap.lt_size z) (Nat.lt_irrefl _)
end
end L2
set_option Elab.async false
set_option linter.all false
set_option maxRecDepth 100000
set_option maxHeartbeats 400000
namespace L2
open PySem PySem.Spec PyProof.Rows
mutual
def IsPd (K : PySem.W.Frag) (H : Hp) : PyData → V → Prop
  | .none, v => v = .non
  | .bool b, v => v = .bl b
  | .int i, v => v = .int i
  | .str z, v => v = .str z
  | .list ds, v => ∃ a xs, v = .ref a ∧ SqL K H a xs ∧ IsPds K H ds xs
  | .tuple ds, v => ∃ a xs, v = .ref a ∧ SqT K H a xs ∧ IsPds K H ds xs
  | .dict _, _ => False
def IsPds (K : PySem.W.Frag) (H : Hp) : List PyData → List V → Prop
  | [], xs => xs = []
  | d :: ds, xs => ∃ x r, xs = x :: r ∧ IsPd K H d x ∧ IsPds K H ds r
end
mutual
theorem IsPd.mono' {K : PySem.W.Frag} {H H' : Hp} (s : ∀ a xs, SqT K H a xs → SqT K H' a xs) (t : ∀ a xs, SqL K H a xs → SqL K H' a xs) : ∀ (d : PyData) (v : V), IsPd K H d v → IsPd K H' d v
  | .none, v, h => h
  | .bool _, v, h => h
  | .int _, v, h => h
  | .str _, v, h => h
  | .list ds, v, h => by
    obtain ⟨a, xs, rfl, e, r⟩ := h
    exact ⟨a, xs, rfl, t _ _ e, IsPds.mono' s t ds xs r⟩
  | .tuple ds, v, h => by
    obtain ⟨a, xs, rfl, e, r⟩ := h
    exact ⟨a, xs, rfl, s _ _ e, IsPds.mono' s t ds xs r⟩
  | .dict _, v, h => h.elim
theorem IsPds.mono' {K : PySem.W.Frag} {H H' : Hp} (s : ∀ a xs, SqT K H a xs → SqT K H' a xs) (t : ∀ a xs, SqL K H a xs → SqL K H' a xs) : ∀ (ds : List PyData) (xs : List V), IsPds K H ds xs → IsPds K H' ds xs
  | [], xs, h => h
  | d :: ds, xs, h => by
    obtain ⟨x, r, rfl, a, b⟩ := h
    exact ⟨x, r, rfl, IsPd.mono' s t d x a, IsPds.mono' s t ds r b⟩
end
theorem IsPds.same {K : PySem.W.Frag} {H H' : Hp} {ds : List PyData} {xs : List V} (h : IsPds K H ds xs) (s : Same H H') : IsPds K H' ds xs := IsPds.mono' (fun _ _ q => s.seqT q) (fun _ _ q => s.seq q) ds xs h
section
variable {X : Cx} {pins : List (Addr × Obj)} {σ : St} {H : Hp} {s : Shared}
mutual
theorem pd_reads (I : Inv X pins σ H s) : ∀ (d : PyData) (v : V) (u : Value), IsPd X.K H d v → RelV v u → ∃ as, Reads s.heap u d as
  | .none, v, u, h, r => by
    cases (show v = .non from h)
    cases (show u = .none from r)
    exact ⟨_, .none⟩
  | .bool b, v, u, h, r => by
    cases (show v = .bl b from h)
    cases (show u = .bool b from r)
    exact ⟨_, .bool b⟩
  | .int i, v, u, h, r => by
    cases (show v = .int i from h)
    obtain ⟨t, rfl⟩ := r
    exact ⟨_, .int i t⟩
  | .str z, v, u, h, r => by
    cases (show v = .str z from h)
    obtain ⟨t, rfl⟩ := r
    exact ⟨_, .str z t⟩
  | .list ds, v, u, h, r => by
    obtain ⟨a, xs, rfl, e, hr⟩ := h
    cases (show u = .ref a from r)
    obtain ⟨its, rv, pl, _⟩ := I.list e
    obtain ⟨o, e1, e2, n, e3⟩ := pl.isList
    obtain ⟨as, ra⟩ := pds_reads I ds xs its hr rv
    exact ⟨_, .list e1 e2 e3 ra⟩
  | .tuple ds, v, u, h, r => by
    obtain ⟨a, xs, rfl, e, hr⟩ := h
    cases (show u = .ref a from r)
    obtain ⟨its, rv, pl, _⟩ := I.tuple e
    obtain ⟨o, e1, e2, n, e3⟩ := pl
    obtain ⟨as, ra⟩ := pds_reads I ds xs its hr rv
    exact ⟨_, .tuple e1 e2 e3 ra⟩
  | .dict _, v, u, h, r => h.elim
theorem pds_reads (I : Inv X pins σ H s) : ∀ (ds : List PyData) (xs : List V) (us : List Value), IsPds X.K H ds xs → Vals xs us → ∃ as, ReadsAll s.heap us ds as
  | [], xs, us, h, r => by
    cases (show xs = [] from h)
    cases r
    exact ⟨_, .nil⟩
  | d :: ds, xs, us, h, r => by
    obtain ⟨x, t, rfl, a, b⟩ := h
    cases r with
    | cons r1 r2 =>
      obtain ⟨as, ra⟩ := pd_reads I d x _ a r1
      obtain ⟨bs, rb⟩ := pds_reads I ds t _ b r2
      exact ⟨_, .cons ra rb⟩
end
end
mutual
def plainP : PyData → Bool
  | .none => true
  | .bool _ => false
  | .int _ => true
  | .str z => (PyData.str z).canLay0
  | .list ds => plainPs ds
  | .tuple ds => plainPs ds
  | .dict _ => false
def plainPs : List PyData → Bool
  | [] => true
  | d :: ds => plainP d && plainPs ds
end
mutual
theorem plain_lay : ∀ d : PyData, plainP d = true → d.canLay0 = true
  | .none, _ => rfl
  | .bool _, h => by cases h
  | .int _, _ => rfl
  | .str _, h => h
  | .list ds, h => plains_lay ds h
  | .tuple ds, h => plains_lay ds h
  | .dict _, h => by cases h
theorem plains_lay : ∀ ds : List PyData, plainPs ds = true → PyData.canLayAll0 ds = true
  | [], _ => rfl
  | d :: ds, h => by
    have h : (plainP d && plainPs ds) = true := h
    rw [Bool.and_eq_true] at h
    show (d.canLay0 && PyData.canLayAll0 ds) = true
    rw [plain_lay d h.1, plains_lay ds h.2]
    rfl
end
mutual
theorem eqv_iff : ∀ d e : PyData, plainP d = true → plainP e = true → (d.eqv e = true ↔ d = e)
  | .none, e, _, he => by
    cases e with
    | none => exact ⟨fun _ => rfl, fun _ => rfl⟩
    | bool b => cases he
    | dict _ => cases he
    | _ => exact ⟨fun z => (by cases z), fun z => (by cases z)⟩
  | .bool _, e, hd, _ => by cases hd
  | .int i, e, _, he => by
    cases e with
    | int j => exact ⟨fun z => congrArg _ (eq_of_beq (show (i == j) = true from z)), fun z => by cases z; exact beq_self_eq_true i⟩
    | bool b => cases he
    | dict _ => cases he
    | _ => exact ⟨fun z => (by cases z), fun z => (by cases z)⟩
  | .str i, e, _, he => by
    cases e with
    | str j => exact ⟨fun z => congrArg _ (eq_of_beq (show (i == j) = true from z)), fun z => by cases z; exact beq_self_eq_true i⟩
    | bool b => cases he
    | dict _ => cases he
    | _ => exact ⟨fun z => (by cases z), fun z => (by cases z)⟩
  | .list ds, e, hd, he => by
    cases e with
    | list es => exact ⟨fun z => congrArg _ ((eqvs_iff ds es hd he).mp z), fun z => (eqvs_iff ds es hd he).mpr (by cases z; rfl)⟩
    | bool b => cases he
    | dict _ => cases he
    | _ => exact ⟨fun z => (by cases z), fun z => (by cases z)⟩
  | .tuple ds, e, hd, he => by
    cases e with
    | tuple es => exact ⟨fun z => congrArg _ ((eqvs_iff ds es hd he).mp z), fun z => (eqvs_iff ds es hd he).mpr (by cases z; rfl)⟩
    | bool b => cases he
    | dict _ => cases he
    | _ => exact ⟨fun z => (by cases z), fun z => (by cases z)⟩
  | .dict _, e, hd, _ => by cases hd
theorem eqvs_iff : ∀ ds es : List PyData, plainPs ds = true → plainPs es = true → (PyData.eqvAll ds es = true ↔ ds = es)
  | [], [], _, _ => ⟨fun _ => rfl, fun _ => rfl⟩
  | [], e :: es, _, _ => ⟨fun z => (by cases z), fun z => (by cases z)⟩
  | d :: ds, [], _, _ => ⟨fun z => (by cases z), fun z => (by cases z)⟩
  | d :: ds, e :: es, hd, he => by
    have hd : (plainP d && plainPs ds) = true := hd
    have he : (plainP e && plainPs es) = true := he
    rw [Bool.and_eq_true] at hd he
    show (d.eqv e && PyData.eqvAll ds es) = true ↔ _
    rw [Bool.and_eq_true, eqv_iff d e hd.1 he.1, eqvs_iff ds es hd.2 he.2]
    exact ⟨fun z => by rw [z.1, z.2], fun z => by cases z; exact ⟨rfl, rfl⟩⟩
end
section
variable {X : Cx}
def rEqP (K : PySem.W.Frag) : R2 := fun x y H Q => ∃ d e, IsPd K H d x ∧ IsPd K H e y ∧ plainP d = true ∧ plainP e = true ∧ d.depth ≤ 60 ∧ Q (.bl (d.eqv e)) H
def rNeP (K : PySem.W.Frag) : R2 := fun x y H Q => ∃ d e, IsPd K H d x ∧ IsPd K H e y ∧ plainP d = true ∧ plainP e = true ∧ d.depth ≤ 60 ∧ Q (.bl (!d.eqv e)) H
theorem room60 {A : Around} {k m n : Nat} (hr : Room k A) (h : m ≤ 60) : A.units + min m n < cLine := Nat.lt_of_le_of_lt (Nat.add_le_add_left (Nat.le_trans (Nat.min_le_left _ _) (Nat.le_trans h (by decide : 60 ≤ 64))) _) hr.units
theorem op_eqP {k : Nat} (hr : Room k X.A) : OpR X (compareOp .Eq) (rEqP X.K) := by
  intro pins s σ H x y v u Q I rx ry h
  obtain ⟨d, e, hd, he, pd, pe, dp, q⟩ := h
  obtain ⟨as, ra⟩ := pd_reads I d x v hd rx
  obtain ⟨bs, rb⟩ := pd_reads I e y u he ry
  exact SeqAt.compareEq_reads ra rb (plain_lay _ pd) (plain_lay _ pe) (room60 hr dp) ⟨.bl _, H, I, rfl, q⟩
theorem op_neP {k : Nat} (hr : Room k X.A) : OpR X (compareOp .NotEq) (rNeP X.K) := by
  intro pins s σ H x y v u Q I rx ry h
  obtain ⟨d, e, hd, he, pd, pe, dp, q⟩ := h
  obtain ⟨as, ra⟩ := pd_reads I d x v hd rx
  obtain ⟨bs, rb⟩ := pd_reads I e y u he ry
  exact SeqAt.compareNe_reads ra rb (plain_lay _ pd) (plain_lay _ pe) (room60 hr dp) ⟨.bl _, H, I, rfl, q⟩
def rInP (K : PySem.W.Frag) (neg : Bool) : R2 := fun x y H Q => ∃ d ds, IsPd K H d x ∧ (IsPd K H (.list ds) y ∨ IsPd K H (.tuple ds) y) ∧ plainP d = true ∧ plainPs ds = true ∧ d.depth ≤ 60 ∧ Q (.bl (if neg then !(ds.any fun e => e.eqv d) else ds.any fun e => e.eqv d)) H
end
end L2
set_option Elab.async false
set_option linter.all false
set_option maxRecDepth 100000
set_option maxHeartbeats 1000000
namespace L2
open PySem PySem.Spec PyProof.Rows
section
variable {prog : Program} {w : World} {A : Around} {E : Value → Shared → Prop} {s : Shared}
def PairOf (prog : Program) (w : World) (h : Heap) (p : Key × Value) (u : Value) : Prop := ∃ a kv, u = .ref a ∧ h.IsTuple a #[kv, p.2] ∧ (mixKind prog w).is p.1 kv = true
end
section
variable {X : Cx}
def rDictOf (K : PySem.W.Frag) : List V → Hp → VK → Prop := fun xs H Q => ∃ a ys kvs, xs = [.ref a] ∧ (H a = some (.lst ys) ∨ H a = some (.tup ys)) ∧ All2 (fun (p : Key × V) y => ∃ b, y = .ref b ∧ SqT K H b [kV p.1, p.2]) kvs ys ∧ ∀ p, H p = none → Q (.ref p) (upd H p (.dK (mergeK [] kvs)))
end
end L2
set_option Elab.async false
set_option linter.all false
set_option maxRecDepth 100000
set_option maxHeartbeats 1000000
namespace L2
open PySem PySem.Spec PyProof.Rows
section
variable {X : Cx}
def rNeD0 : R2 := fun x y H Q => ∃ a b kvs, x = .ref a ∧ y = .ref b ∧ H a = some (.dK kvs) ∧ H b = some (.dK []) ∧ Q (.bl (decide (kvs ≠ []))) H
end
end L2
set_option Elab.async false
set_option linter.all false
set_option maxRecDepth 100000
set_option maxHeartbeats 400000
namespace L2
open PySem PySem.Spec PyProof.Rows
structure RunsR (S : Hp → Hp → Prop) (J : It) (H1 : Hp) (n : Nat) (Item : Nat → V → Hp → Prop) : Prop where
  go : ∀ i, i < n → ∀ H, S H1 H → J.go i H
  stop : ∀ H, S H1 H → J.stop n H
  item : ∀ i, i < n → ∀ H v H', S H1 H → J.yld i H v H' → S H H' ∧ Item i v H'
theorem compG_rel {S : Hp → Hp → Prop} {J : It} {H1 : Hp} {n m : Nat} {Item : Nat → V → Hp → Prop} {fr : List (Nat × Str)} {g : TG} {tc : TT} {te : TE} {σ : St} {Q : VK} (s0 : S H1 H1) (st : ∀ a b c, S a b → S b c → S a c) (p : Nat → Bool) (R : Nat → V → Hp → Prop) (hR : ∀ i y H H', S H H' → R i y H → R i y H') (r : RunsR S J H1 n Item) (hn : n ≤ sizeLine)
    (body : ∀ i, i < n → ∀ v H, S H1 H → Item i v H → ∀ (KT : VK) (KF : Hp → Prop), (p i = true → ∀ y H', S H H' → R i y H' → KT y H') → (p i = false → ∀ H', S H H' → KF H') →
      g v (cStG σ fr (List.replicate m none)) H fun σ6 H6 => ∃ us, us.length = m ∧ σ6 = cStG σ fr us ∧ tc (cStG σ fr us) H6 fun b H2 => if b = true then te (cStG σ fr us) H2 KT else KF H2)
    (hQ : ∀ l H' ys, S H1 H' → H' l = none → All2 (fun i y => R i y H') ((List.range n).filter p) ys → Q (.ref l) (upd H' l (.lst ys))) :
    ∃ W : Nat → Nat → List V → Hp → Prop, (∃ m, W 0 m [] H1) ∧ ∀ i k ys H, W i k ys H →
      (J.stop i H ∧ ys.length ≤ sizeLine ∧ ∀ p, H p = none → Q (.ref p) (upd H p (.lst ys))) ∨
      (J.go i H ∧ ys.length ≤ sizeLine ∧ ∀ v H', J.yld i H v H' → g v (cStG σ fr (List.replicate m none)) H' fun σ6 H6 => ∃ us, us.length = m ∧ σ6 = cStG σ fr us ∧ tc (cStG σ fr us) H6 fun b H2 => if b = true then te (cStG σ fr us) H2 fun y H3 => ∃ m', m' < k ∧ W (i + 1) m' (ys ++ [y]) H3 else ∃ m', m' < k ∧ W (i + 1) m' ys H2) := by
  refine ⟨fun i k ys H' => k = n - i ∧ i ≤ n ∧ S H1 H' ∧ All2 (fun i y => R i y H') ((List.range i).filter p) ys, ⟨n, by simp, Nat.zero_le _, s0, .nil⟩, ?_⟩
  rintro i k ys H' ⟨rfl, hi, sm, fa⟩
  have hl2 : ys.length ≤ sizeLine := by
    rw [forall2_len fa]
    have := List.length_filter_le p (List.range i)
    rw [List.length_range] at this
    omega
  by_cases hlt : i < n
  · refine .inr ⟨r.go i hlt H' sm, hl2, fun v H2 y => ?_⟩
    obtain ⟨s2, it⟩ := r.item i hlt H' v H2 sm y
    refine body i hlt v H2 (st _ _ _ sm s2) it _ _ (fun hp y H3 s3 ry => ⟨n - (i + 1), by omega, rfl, hlt, st _ _ _ (st _ _ _ sm s2) s3, ?_⟩) (fun hp H3 s3 => ⟨n - (i + 1), by omega, rfl, hlt, st _ _ _ (st _ _ _ sm s2) s3, ?_⟩)
    · rw [range_filter_succ, if_pos hp]
      exact forall2_snoc (forall2_mono (fun a b z => hR a b _ _ (st _ _ _ s2 s3) z) fa) ry
    · rw [range_filter_succ, if_neg (by rw [hp]; decide), List.append_nil]
      exact forall2_mono (fun a b z => hR a b _ _ (st _ _ _ s2 s3) z) fa
  · have e : i = n := by omega
    subst e
    exact .inl ⟨r.stop H' sm, hl2, fun l hl => hQ l H' ys sm hl fa⟩
theorem runsR_list {S : Hp → Hp → Prop} {K : PySem.W.Frag} {a : Addr} {xs : List V} {H1 : Hp} (hs : ∀ H, S H1 H → S H H) (hq : ∀ H, S H1 H → SqL K H a xs) : RunsR S (Itl K a) H1 xs.length (fun i v _ => xs[i]? = some v) :=
  ⟨fun i hi H s => ⟨xs, xs[i], hq H s, by simp [hi]⟩, fun H s => ⟨xs, hq H s, Nat.le_refl _⟩, fun i hi H v H' s y => by
    obtain ⟨e, y⟩ := y
    subst e
    exact ⟨hs _ s, y xs (hq _ s)⟩⟩
theorem runsR_tup {S : Hp → Hp → Prop} {K : PySem.W.Frag} {a : Addr} {xs : List V} {H1 : Hp} (hs : ∀ H, S H1 H → S H H) (hq : ∀ H, S H1 H → SqT K H a xs) : RunsR S (Itt K a) H1 xs.length (fun i v _ => xs[i]? = some v) :=
  ⟨fun i hi H s => ⟨xs, xs[i], hq H s, by simp [hi]⟩, fun H s => ⟨xs, hq H s, Nat.le_refl _⟩, fun i hi H v H' s y => by
    obtain ⟨e, y⟩ := y
    subst e
    exact ⟨hs _ s, y xs (hq _ s)⟩⟩
theorem tcompR_list {S : Hp → Hp → Prop} {K : PySem.W.Frag} {a : Addr} {xs : List V} {tl te : TE} {tc : TT} {g : TG} {m : Nat} {fr : List (Nat × Str)} {σ : St} {H H1 : Hp} {Q : VK} (R : V → V → Hp → Prop) (s0 : S H1 H1) (st : ∀ a b c, S a b → S b c → S a c) (hs : ∀ H, S H1 H → S H H) (hR : ∀ x y H H', S H H' → R x y H → R x y H')
    (htl : ∀ R : VK, R (.ref a) H1 → tl σ H R) (hq : ∀ H, S H1 H → SqL K H a xs) (hn : xs.length ≤ sizeLine)
    (body : ∀ v ∈ xs, ∀ H, S H1 H → ∀ KT : VK, (∀ y H', S H H' → R v y H' → KT y H') → ∀ KF : Hp → Prop,
      g v (cStG σ fr (List.replicate m none)) H fun σ6 H6 => ∃ us, us.length = m ∧ σ6 = cStG σ fr us ∧ tc (cStG σ fr us) H6 fun b H2 => if b = true then te (cStG σ fr us) H2 KT else KF H2)
    (hQ : ∀ l H' ys, S H1 H' → H' l = none → All2 (fun x y => R x y H') xs ys → Q (.ref l) (upd H' l (.lst ys))) : tCompG (iList K tl) m fr g tc te σ H Q := by
  refine htl _ ⟨a, rfl, ⟨xs, hq _ s0⟩, compG_rel s0 st (fun _ => true) (fun i y H => R (xs[i]?.getD .non) y H) (fun i y H H' s z => hR _ _ _ _ s z) (runsR_list hs hq) hn (fun i hi v H s it KT KF h1 h2 => ?_) fun l H' ys s hl fa => hQ l H' ys s hl ?_⟩
  · refine body v (List.mem_of_getElem? it) H s KT (fun y H' s' ry => h1 rfl y H' s' ?_) KF
    rw [it]
    exact ry
  · rw [List.filter_eq_self.mpr (fun _ _ => rfl)] at fa
    have go : ∀ (is : List Nat) (ys : List V), All2 (fun i y => R (xs[i]?.getD .non) y H') is ys → All2 (fun x y => R x y H') (is.map fun i => xs[i]?.getD .non) ys := by
      intro is
      induction is with
      | nil => intro ys h; cases h; exact .nil
      | cons i is ih => intro ys h; cases h with | cons a r => exact .cons a (ih _ r)
    have h := go _ _ fa
    have e : (List.range xs.length).map (fun i => xs[i]?.getD V.non) = xs := by
      apply List.ext_getElem
      · simp
      · intro i h1 h2
        simp only [List.getElem_map, List.getElem_range, List.getElem?_eq_getElem h2, Option.getD_some]
    rwa [e] at h
theorem runsR_rng {S : Hp → Hp → Prop} {n : Nat} {H1 : Hp} (hs : ∀ H, S H1 H → S H H) : RunsR S (Itr 0 n) H1 n (fun i v _ => v = .int (i : Nat)) :=
  ⟨fun i hi H s => hi, fun H s => Nat.le_refl _, fun i hi H v H' s y => by
    obtain ⟨e, y⟩ := y
    subst e
    exact ⟨hs _ s, by rw [y, Int.zero_add]⟩⟩
theorem all2_range {R : V → V → Prop} {xs ys : List V} (fa : All2 (fun (i : Nat) y => R (xs[i]?.getD .non) y) (List.range xs.length) ys) : All2 R xs ys := by
  have go : ∀ (is : List Nat) (ys : List V), All2 (fun i y => R (xs[i]?.getD .non) y) is ys → All2 R (is.map fun i => xs[i]?.getD .non) ys := by
    intro is
    induction is with
    | nil => intro ys h; cases h; exact .nil
    | cons i is ih => intro ys h; cases h with | cons a r => exact .cons a (ih _ r)
  have h := go _ _ fa
  have e : (List.range xs.length).map (fun i => xs[i]?.getD V.non) = xs := by
    apply List.ext_getElem
    · simp
    · intro i h1 h2
      simp only [List.getElem_map, List.getElem_range, List.getElem?_eq_getElem h2, Option.getD_some]
  rwa [e] at h
theorem tcompR_tup {S : Hp → Hp → Prop} {K : PySem.W.Frag} {a : Addr} {xs : List V} {tl te : TE} {tc : TT} {g : TG} {m : Nat} {fr : List (Nat × Str)} {σ : St} {H H1 : Hp} {Q : VK} (R : V → V → Hp → Prop) (s0 : S H1 H1) (st : ∀ a b c, S a b → S b c → S a c) (hs : ∀ H, S H1 H → S H H) (hR : ∀ x y H H', S H H' → R x y H → R x y H')
    (htl : ∀ R : VK, R (.ref a) H1 → tl σ H R) (hq : ∀ H, S H1 H → SqT K H a xs) (hn : xs.length ≤ sizeLine)
    (body : ∀ v ∈ xs, ∀ H, S H1 H → ∀ KT : VK, (∀ y H', S H H' → R v y H' → KT y H') → ∀ KF : Hp → Prop,
      g v (cStG σ fr (List.replicate m none)) H fun σ6 H6 => ∃ us, us.length = m ∧ σ6 = cStG σ fr us ∧ tc (cStG σ fr us) H6 fun b H2 => if b = true then te (cStG σ fr us) H2 KT else KF H2)
    (hQ : ∀ l H' ys, S H1 H' → H' l = none → All2 (fun x y => R x y H') xs ys → Q (.ref l) (upd H' l (.lst ys))) : tCompG (iTup K tl) m fr g tc te σ H Q := by
  refine htl _ ⟨a, rfl, ⟨xs, hq _ s0⟩, compG_rel s0 st (fun _ => true) (fun i y H => R (xs[i]?.getD .non) y H) (fun i y H H' s z => hR _ _ _ _ s z) (runsR_tup hs hq) hn (fun i hi v H s it KT KF h1 h2 => ?_) fun l H' ys s hl fa => hQ l H' ys s hl ?_⟩
  · refine body v (List.mem_of_getElem? it) H s KT (fun y H' s' ry => h1 rfl y H' s' ?_) KF
    rw [it]
    exact ry
  · rw [List.filter_eq_self.mpr (fun _ _ => rfl)] at fa
    exact all2_range (R := fun x y => R x y H') fa
end L2
set_option Elab.async false
set_option linter.all false
set_option maxRecDepth 100000
set_option maxHeartbeats 400000
namespace L2
open PySem PySem.Spec PyProof.Rows
def Ris (xs : Array Nat) : Prop := xs.toList.Pairwise (· < ·)
def Untaken (t : SetTable) (j : Nat) : Prop := ¬ t.place[SetTable.below t.place j]? = some j
def Tidy (l : Bool) (t : SetTable) : Prop := t.led = l ∧ Ris t.place
end L2
set_option Elab.async false
set_option linter.all false
set_option maxRecDepth 100000
set_option maxHeartbeats 1000000
namespace L2
open PySem PySem.Spec PyProof.Rows
def intOf : Value → Int
  | .int i _ => i
  | _ => 0
section
variable {prog : Program} {w : World} {A : Around} {E : Value → Shared → Prop} {s : Shared}
def SetAt (prog : Program) (w : World) (l : Bool) (h : Heap) (a : Addr) (ns : List Int) : Prop :=
  ∃ es ep t, h.get? a = some { cls := .type "set", dict := none, data := .set es ep t, slots := #[] } ∧ ElemsOf (intKind prog w) es.toList ∧ IntsAre (es.toList.map (·.2)) ns ∧ ns.Nodup ∧ es.size < scanBound ∧ t.fits es.size = true ∧ Tidy l t
def addI (ns : List Int) (v : Int) : List Int := if v ∈ ns then ns else ns ++ [v]
end
end L2
set_option Elab.async false
set_option linter.all false
set_option maxRecDepth 100000
set_option maxHeartbeats 1000000
namespace L2
open PySem PySem.Spec PyProof.Rows
section
variable {prog : Program} {w : World} {A : Around} {E : Value → Shared → Prop} {s : Shared}
def set0 (w : World) : Obj := { cls := .type "set", dict := none, data := .set #[] 0 (.fresh 0 0 (!w.params.followText "set-order")) }
end
end L2
set_option Elab.async false
set_option linter.all false
set_option maxRecDepth 100000
set_option maxHeartbeats 1000000
namespace L2
open PySem PySem.Spec PyProof.Rows
section
variable {prog : Program} {w : World} {A : Around} {E : Value → Shared → Prop} {s : Shared}
abbrev setO (es : Array (Int × Value)) (ep : Nat) (t : SetTable) : Obj := { cls := .type "set", dict := none, data := .set es ep t, slots := #[] }
abbrev setItO (first : Value) (i : Nat) (S : Addr) (n ep : Nat) : Obj := { cls := .type "set_iterator", data := .fields #[first, .int i 0, .ref S, .int n 0, .int ep 0] }
end
end L2
set_option Elab.async false
set_option linter.all false
set_option maxRecDepth 100000
set_option maxHeartbeats 1000000
namespace L2
open PySem PySem.Spec PyProof.Rows
section
variable {prog : Program} {w : World} {A : Around} {E : Value → Shared → Prop}
def slotAt (t : SetTable) : Nat → Nat
  | 0 => 0
  | i + 1 => t.place.getD i 0 + 1
def atV (es : Array (Int × Value)) (k : Nat) : Value := ((es[k]?).map (·.2)).getD .none
end
end L2
set_option Elab.async false
set_option linter.all false
set_option maxRecDepth 100000
set_option maxHeartbeats 1000000
namespace L2
open PySem PySem.Spec PyProof.Rows
section
variable {prog : Program} {w : World} {A : Around} {E : Value → Shared → Prop} {s : Shared}
end
section
variable {X : Cx}
def tSSet (K : PySem.W.Frag) (te : TE) : TE := fun σ H Q => te σ H fun x H1 => ∃ (a : Addr) (ns : List Int), x = .ref a ∧ SqT K H1 a (ns.map V.int) ∧ ns.length < 64 ∧ srt (ns.foldl addI []) H1 Q
end
end L2
set_option Elab.async false
set_option linter.all false
set_option maxRecDepth 100000
set_option maxHeartbeats 400000
namespace HT
open PySem PySem.Spec PyProof.Rows L2
variable {prog : Program} {w : World} {A : Around} {E : Value → Shared → Prop} {s : Shared}
end HT
namespace L2
open PySem PySem.Spec PyProof.Rows
section
variable {X : Cx}
def rCatQ (K : PySem.W.Frag) : R2 := fun x y H Q => ∃ a b xs ys, x = .ref a ∧ y = .ref b ∧ SqL K H a xs ∧ SqL K H b ys ∧ xs.length + ys.length ≤ sizeLine ∧ ∀ p, H p = none → Q (.ref p) (upd H p (.lst (xs ++ ys)))
def rSlW (K : PySem.W.Frag) : V → Option Int → Option Int → Hp → VK → Prop := fun x lo hi H Q => ∃ a xs, x = .ref a ∧ SqT K H a xs ∧ (HT.sIx xs.length 0 lo = 0 ∧ HT.sIx xs.length xs.length hi = xs.length) ∧ Q (.ref a) H
end
theorem free_in {names : List (Str × NameKind)} {ns : List Str} {Q : Str × NameKind → Prop} (h : (names.all fun y => y.2 != NameKind.free || ns.contains y.1) = true) (q : ∀ n, n ∈ ns → ∀ k, Q (n, k)) : ∀ y ∈ names, y.2 = NameKind.free → Q y := fun y hy e => by
  have z := List.all_eq_true.mp h y hy; rw [e] at z
  have z : ns.contains y.1 = true := by simpa using z
  obtain ⟨a, b⟩ := y
  exact q a (by simpa using z) b
theorem tcompR_rng {S : Hp → Hp → Prop} {ta : TA} {te : TE} {tc : TT} {g : TG} {m n : Nat} {fr : List (Nat × Str)} {σ : St} {H H1 : Hp} {Q : VK} (p : Nat → Bool) (R : Nat → V → Hp → Prop) (s0 : S H1 H1) (st : ∀ a b c, S a b → S b c → S a c) (hs : ∀ H, S H1 H → S H H) (hR : ∀ i y H H', S H H' → R i y H → R i y H')
    (hta : ∀ T : List V → Hp → Prop, T [.int (n : Nat)] H1 → ta σ H T) (hn : n ≤ sizeLine)
    (body : ∀ i, i < n → ∀ H, S H1 H → ∀ (KT : VK) (KF : Hp → Prop), (p i = true → ∀ y H', S H H' → R i y H' → KT y H') → (p i = false → ∀ H', S H H' → KF H') →
      g (.int (i : Nat)) (cStG σ fr (List.replicate m none)) H fun σ6 H6 => ∃ us, us.length = m ∧ σ6 = cStG σ fr us ∧ tc (cStG σ fr us) H6 fun b H2 => if b = true then te (cStG σ fr us) H2 KT else KF H2)
    (hQ : ∀ l H' ys, S H1 H' → H' l = none → All2 (fun i y => R i y H') ((List.range n).filter p) ys → Q (.ref l) (upd H' l (.lst ys))) : tCompG (iRng1 ta) m fr g tc te σ H Q := by
  have b : (n : Int) < 2 ^ 62 := Int.lt_of_le_of_lt (Int.ofNat_le.mpr hn) (by decide)
  refine hta _ ⟨n, rfl, by omega, b, ?_⟩
  exact compG_rel s0 st p R hR (runsR_rng hs) hn (fun i hi v H s it KT KF h1 h2 => by subst it; exact body i hi H s KT KF h1 h2) hQ
theorem qs_ret {X : Cx} {pos : Pos} {e : Expr} {te : TE} (h : QE X e te) : QS X (.Return (some e) pos) (tRet te) := ⟨ps_ret h.run⟩
theorem cons_cb1 {f : List V → Hp → VK → Prop} {te : TE} {ta : TA} {σ : St} {H : Hp} {Q : List V → Hp → Prop} (h : te σ H fun x H1 => f [x] H1 fun y H2 => ta σ H2 fun ys H3 => Q (y :: ys) H3) : tCons (tCB f (tCons te tNil)) ta σ H Q := h
end L2
set_option Elab.async false
set_option linter.all false
set_option maxRecDepth 100000
set_option maxHeartbeats 400000
namespace L2
open PySem PySem.Spec PyProof.Rows
section
variable {prog : Program} {w : World} {A : Around} {E : Value → Shared → Prop} {s : Shared}
theorem strs_len : ∀ {vs : List Value} {ss : List Str}, StrsAre vs ss → vs.length = ss.length
  | _, _, .nil => rfl
  | _, _, .cons y t h => by rw [List.length_cons, List.length_cons, strs_len h]
theorem strs_key : ∀ {vs : List Value} {ss : List Str}, StrsAre vs ss → ∀ v ∈ vs, ∃ a, strKind.keyOf v = some a
  | _, _, .nil, v, h => absurd h List.not_mem_nil
  | _, _, .cons y t h, v, hv => by
    rcases List.mem_cons.mp hv with rfl | hv
    · exact ⟨_, rfl⟩
    · exact strs_key h v hv
theorem vals_strsA : ∀ {vs : List Value} {ss : List Str}, StrsAre vs ss → Vals (ss.map V.str) vs
  | _, _, .nil => .nil
  | _, _, .cons n t h => .cons ⟨t, rfl⟩ (vals_strsA h)
theorem strs_by : ∀ {ss : List Str} {us : List Value}, us.length = ss.length → (∀ (j : Nat) (u : Value), us[j]? = some u → ∃ (i : Str) (t : Tok), ss[j]? = some i ∧ u = Value.str i t) → StrsAre us ss
  | [], us, hl, _ => by
    have z : us = [] := List.eq_nil_of_length_eq_zero hl
    subst z
    exact .nil
  | n :: ss, us, hl, h => by
    cases us with
    | nil => cases hl
    | cons u us =>
      obtain ⟨i, t, e, rfl⟩ := h 0 u rfl
      have e : n = i := Option.some.inj e
      subst e
      exact .cons n t (strs_by (Nat.succ.inj hl) fun j v e => h (j + 1) v (by simpa using e))
theorem sortedByS {v : Value} {Q : Value → Shared → Prop} {ss : List Str} (hn : ss.length < 64)
    (hc : ∀ R : List Value → Shared → Prop, (∀ h' tk vs, (∀ b o, s.heap.get? b = some o → h'.get? b = some o) → StrsAre vs ss → R vs { s with heap := h', toks := tk }) → wpAny (model prog w) A.in1 (collect v) R E s)
    (h : ∀ (h1 h' : Heap) (tk : Nat) (out : Array Value) (ss' : List Str) (e : Nat), (∀ b o, s.heap.get? b = some o → h1.get? b = some o) → (∀ b o, h1.get? b = some o → h'.get? b = some o) → h'.get? h1.objs.size = some { cls := .type "list", data := .seq out e } → StrsAre out.toList ss' → ss'.Perm ss → sortedS ss' = true → Q (.ref h1.objs.size) { s with heap := h', toks := tk }) :
    wpAny (model prog w) A (call (.builtin "sorted") [v]) Q E s := by
  refine Calls.call_function_entry kind_sorted plain_sorted entry_sorted (args_sorted1 _) ?_; unfold Builtin.«sorted»
  refine wpAny_bind (m := checkCount "sorted" 1 1 _) (wpAny_pure (wpAny_bind (hc _ fun h1 tk vs k1 i1 => ?_)))
  have hl : vs.length < 64 := by rw [strs_len i1]; exact hn
  refine wpAny_bind (wpAny_newList ?_ (Nat.le_trans (Nat.le_of_lt hl) (by decide)))
  have oL : (h1.push (seqObj "list" vs.toArray 0)).get? h1.objs.size = some (seqObj "list" vs.toArray 0) := Heap.get?_push_size _ rfl
  have ko : KeysOf strKind (pairsOf vs) := fun p hp => by
    have : p.1 ∈ vs := by
      have := (List.of_mem_zip (show (p.1, p.2) ∈ vs.zip vs by simpa [pairsOf] using hp)).1
      exact this
    exact strs_key i1 _ this
  refine wpAny_bind (wpAny_holding (wpAny_call_entry slot_list_sort ⟨_, oL, rfl⟩ entry_list_sort (list_sort_treeK strKind_oneLt oL ko (fun v1 v2 r e => by subst e; exact keyKind_strs i1) hl fun st' a1 a2 => ⟨_, rfl, ?_⟩) (args_list_sort _)))
  obtain ⟨ss', b1, b2, b3⟩ := sorted_out_str i1 a1 a2
  obtain ⟨e, he⟩ := sortedHeap_at (out := Array.map (fun x => x.snd) (arrOf st')) oL
  refine wpAny_pure ⟨_, rfl, h h1 _ tk _ ss' e k1 (fun b o g1 => ?_) he b1 b2 b3⟩
  have lt := Heap.lt_size g1
  refine (sortedHeap_old (Nat.ne_of_lt lt) ?_).trans (Heap.get?_push_of_some _ g1); rw [size_push']
  exact Nat.lt_succ_of_lt lt
end
section
variable {X : Cx}
theorem call_sortedDS (hcalm : X.calm = true) : CallR X (.builtin "sorted") (fun xs H Q => ∃ a kvs ss, xs = [.ref a] ∧ H a = some (.dK kvs) ∧ kvs.map (·.1) = ss.map Sum.inr ∧ ss.length < 64 ∧ ∀ (l : Addr) (ss' : List Str), H l = none → ss'.Perm ss → sortedS ss' = true → Q (.ref l) (upd H l (.lst (ss'.map V.str)))) := by
  intro pins s σ H xs us Q I r h
  obtain ⟨a, kvs, ss, rfl, ha, hk, hn, q⟩ := h
  obtain ⟨u, rfl, rx⟩ := vals1 r
  cases rx
  obtain ⟨hz, lo, vs, rv, dd⟩ := dk_of I.hok ha
  obtain ⟨ep, da⟩ := dd.dictAt
  refine sortedByS hn (fun R hR => ?_) fun h1 h' tk out ss' e k1 k2 g i p r => ?_
  · have keys : vs.map (·.1) = ss.map Sum.inr := rv.keys.symm.trans hk
    have lv : vs.length = ss.length := by
      have := congrArg List.length keys
      simpa using this
    refine PySem.W.kdu_collect (PySem.W.kdl_dict lo) (show X.A.in1.handled = none from I.ok.hd hcalm) da (by rw [← rv.length]; exact hz) fun h' tk acc k it => hR h' tk _ k (strs_by (by rw [Array.length_toList, it.1, lv]) fun j u e => ?_)
    obtain ⟨y, x, e1, e2⟩ := it.2 j u (by rw [← Array.getElem?_toList]; exact e)
    have e3 : (vs.map (·.1))[j]? = some y := by rw [List.getElem?_map, e1]; rfl
    rw [keys, List.getElem?_map] at e3
    cases en : ss[j]? with
    | none => rw [en] at e3; cases e3
    | some i =>
      rw [en] at e3
      have e3 : Sum.inr i = y := Option.some.inj e3
      subst e3
      rcases keyIs_shape (show keyIs (.inr i) u = true from e2) with ⟨_, _, z, _⟩ | ⟨i', t, z, rfl⟩
      · cases z
      · cases z
        exact ⟨i, t, rfl, rfl⟩
  · have I1 : Inv X pins σ H { s with heap := h1 } := I.kept (t' := s.toks) k1
    refine ⟨.ref h1.objs.size, _, I1.laid (t' := tk) (o := .lst (ss'.map V.str)) k2 (Nat.le_refl _) ⟨?_, out.toList, e, vals_strsA i, by simpa using g⟩, rfl, q _ ss' (I1.hok.fresh (Nat.le_refl _)) p r⟩
    rw [List.length_map, p.length_eq]
    exact Nat.le_trans (Nat.le_of_lt hn) (by decide)
end
def rIndex : V → List V → Hp → VK → Prop := fun x vs H Q => ∃ (l : Addr) (ss : List Str) (z : Str) (j : Nat), x = .ref l ∧ vs = [.str z] ∧ H l = some (.lst (ss.map V.str)) ∧ ss.length ≤ 1000 ∧ ss[j]? = some z ∧ (∀ m, m < j → ss[m]? ≠ some z) ∧ Q (.int (j : Nat)) H
section
variable {X : Cx}
theorem strs_of {ss : List Str} : ∀ {us : List Value}, Vals (ss.map V.str) us → ∀ (j : Nat) (u : Value), us[j]? = some u → ∃ y t, ss[j]? = some y ∧ u = Value.str y t := by
  induction ss with
  | nil => intro us r j u e; rw [List.map_nil] at r; cases r; simp at e
  | cons n ss ih =>
    intro us r j u e
    rw [List.map_cons] at r
    cases r with
    | cons r1 r2 =>
      obtain ⟨t, rfl⟩ := r1
      cases j with
      | zero => rw [List.getElem?_cons_zero] at e; cases e; exact ⟨n, t, rfl, rfl⟩
      | succ j => rw [List.getElem?_cons_succ] at e; exact ih r2 j u e
theorem mt_index : MtM X "list.index" rIndex := by
  intro pins s σ H x vs v us Q I rx rv h
  obtain ⟨l, ss, z, j, rfl, rfl, hH, hl, hj, hm, q⟩ := h
  cases rx
  obtain ⟨u, rfl, ru⟩ := rv.one
  obtain ⟨t, rfl⟩ := ru
  obtain ⟨z2, its, n, r, hl2, e⟩ := I.lstM hH
  have lt : j < its.length := by rw [← r.length, List.length_map]; exact (List.getElem?_eq_some_iff.mp hj).1
  let ev : Value → Bool := fun y => match y with | .str a _ => a == z | _ => false
  have at_ : ∀ m (hm : m < its.toArray.size), ∃ y t', ss[m]? = some y ∧ its.toArray[m] = Value.str y t' := fun m hm => strs_of r m _ ((List.getElem?_eq_getElem (show m < its.length by simpa using hm)).trans (by simp))
  refine call_meets F.slot_list_index ⟨_, e, rfl⟩ F.entry_list_index (F.args_list_index_2 _ _) (SeqAt.list_indexAt l its.toArray n none #[] (.str z t) ev j (by simpa using lt) ?_ ?_ ?_) ⟨e, fun y hy => ?_, ?_⟩
  · have := (List.getElem?_eq_some_iff.mp hj).1
    have : (j : Int) < 1000 := by omega
    exact Int.lt_trans this (by decide)
  · obtain ⟨y, t', h1, h2⟩ := at_ j (by simpa using lt)
    rw [h2]
    rw [hj] at h1
    cases h1
    exact beq_self_eq_true z
  · intro m hm' hlt
    obtain ⟨y, t', h1, h2⟩ := at_ m hm'
    rw [h2]
    refine beq_eq_false_iff_ne.mpr fun e => hm m hlt ?_
    rw [h1, e]
  · obtain ⟨m, hm', e2⟩ := Array.mem_iff_getElem.mp hy
    obtain ⟨y', t', h1, h2⟩ := at_ m hm'
    rw [h2] at e2
    subst e2
    exact SeqAt.EqAt.str_str y' t' z t
  · exact ⟨.int (j : Nat), H, I.tok _, ⟨_, rfl⟩, q⟩
theorem pe_index {o e : Expr} {es : List Expr} {to : TE} {t : TA} {apos cpos : Pos} (ho : PE X o to) (ha : PA X (e :: es) t)
    (hbase : attributeBase o "index" X.env (eval o X.env) = eval o X.env := by rfl)
    (hfew : ((backTo cpos (starEach (e :: es) X.env)).all (fun x => !x.1) && (backToKw cpos (keywordEach [] X.env)).all (fun x => x.1.isSome) && decide ((e :: es).length + ([] : List Keyword).length + (if ([] : List Keyword).isEmpty then 0 else 1) < 30)) = true := by rfl)
    (hline : (apos.endLine == cpos.line) = true := by rfl) (hs : starEach (e :: es) X.env = (false, eval e X.env) :: starEach es X.env := by rfl) (hplain : (backTo cpos (starEach es X.env)).any (·.1) = false := by rfl) :
    PE X (.Call (.Attribute o "index" apos) (e :: es) [] cpos) (tBM X.K "list" rIndex to t) := pe_bm PySem.F.plainAttrs_list PySem.F.slot_list_index PySem.F.type_list_index mt_index ho ha hbase hfew hline hs hplain
end
def pickV (xs : List V) (lo hi st : Option Int) : List V := (sliceRange (sliceBounds lo hi st xs.length).1 (sliceBounds lo hi st xs.length).2.1 (sliceBounds lo hi st xs.length).2.2).filterMap fun i => xs[i]?
theorem pickV_mem {xs : List V} {lo hi st : Option Int} {y : V} (h : y ∈ pickV xs lo hi st) : y ∈ xs := by
  obtain ⟨i, _, e⟩ := List.mem_filterMap.mp h
  exact List.mem_of_getElem? e
theorem vals_pick {xs : List V} {us : List Value} (r : Vals xs us) : ∀ is : List Nat, Vals (is.filterMap fun i => xs[i]?) (is.filterMap fun i => us[i]?)
  | [] => .nil
  | i :: is => by
    have ih := vals_pick r is
    have ln := r.length
    cases e : xs[i]? with
    | none =>
      have e2 : us[i]? = none := List.getElem?_eq_none (by rw [← ln]; exact List.getElem?_eq_none_iff.mp e)
      rw [List.filterMap_cons_none e, List.filterMap_cons_none e2]
      exact ih
    | some x =>
      obtain ⟨u, hu, ru⟩ := r.get e
      rw [List.filterMap_cons_some e, List.filterMap_cons_some hu]
      exact .cons ru ih
theorem pickV_len {xs : List V} {lo hi : Option Int} {k : Int} (hk : 0 < k) : (pickV xs lo hi (some k)).length ≤ xs.length := by
  refine Nat.le_trans (List.length_filterMap_le _ _) ?_
  have hst : (sliceBounds lo hi (some k) xs.length).2.2 = k := rfl
  have h0 : 0 ≤ (sliceBounds lo hi (some k) xs.length).1 := by
    cases lo with
    | none => show 0 ≤ (if k > 0 then (0 : Int) else _); rw [if_pos hk]; exact Int.le_refl _
    | some i => show 0 ≤ (if k > 0 then max (0 : Int) _ else _); rw [if_pos hk]; exact Int.le_max_left _ _
  have h1 : (sliceBounds lo hi (some k) xs.length).2.1 ≤ (xs.length : Int) := by
    cases hi with
    | none => show (if k > 0 then (xs.length : Int) else _) ≤ _; rw [if_pos hk]; exact Int.le_refl _
    | some i => show (if k > 0 then max (0 : Int) (min _ (xs.length : Int)) else _) ≤ _; rw [if_pos hk]; omega
  rw [hst]
  generalize (sliceBounds lo hi (some k) xs.length).1 = a at h0 ⊢
  generalize (sliceBounds lo hi (some k) xs.length).2.1 = b at h1 ⊢
  unfold sliceRange
  rw [List.length_map, List.length_range, if_pos hk]
  by_cases z : a < b
  · rw [if_pos z]
    have : (b - a + k - 1) / k < b - a + 1 := by
      apply Int.ediv_lt_of_lt_mul hk
      have : (b - a + 1) * k = (b - a) * k + k := by rw [Int.add_mul, Int.one_mul]
      have h2 : b - a ≤ (b - a) * k := by
        have := Int.mul_le_mul_of_nonneg_left (show (1 : Int) ≤ k by omega) (show 0 ≤ b - a by omega)
        omega
      omega
    omega
  · rw [if_neg z]
    exact Nat.zero_le _
def tSl3 (K : PySem.W.Frag) (te : TE) (tl th ts : TO) : TE := fun σ H Q => te σ H fun x H1 => tl σ H1 fun l H2 => th σ H2 fun u H3 => ts σ H3 fun k H4 => ∃ a xs, x = .ref a ∧ SqL K H4 a xs ∧ k ≠ some 0 ∧ (pickV xs l u k).length ≤ sizeLine ∧ ∀ p, H4 p = none → Q (.ref p) (upd H4 p (.lst (pickV xs l u k)))
theorem pe_slice3 {X : Cx} {e : Expr} {te : TE} {lo hi : Option Expr} {st : Expr} {tl th ts : TO} {pos p2 : Pos} (he : PE X e te) (hl : PO X lo tl) (hu : PO X hi th) (hs : PO X (some st) ts) : PE X (.Subscript e (.Slice lo hi (some st) p2) pos) (tSl3 X.K te tl th ts) := by
  intro pins s σ H Q I h
  refine Subscript_ (thn (he pins s σ H _ I h) fun v s1 ⟨x, H1, I1, r1, q1⟩ => ?_)
  refine wpAny_Slice (thn (hl pins s1 σ H1 _ I1 q1) fun vl s2 ⟨l, H2, I2, pl, q2⟩ => thn (hu pins s2 σ H2 _ I2 q2) fun vu s3 ⟨u, H3, I3, pu, q3⟩ => thn (hs pins s3 σ H3 _ I3 q3) fun vs s4 ⟨k, H4, I4, pk, a, xs, ex, hx, k0, hz, q⟩ => ?_)
  subst ex
  cases r1
  have I5 : Inv X pins σ H4 { s4 with heap := s4.heap.push { cls := .type "slice", data := .fields #[vl, vu, vs] } } := I4.kept (t' := s4.toks) fun b ob q => Heap.get?_push_of_some _ q
  obtain ⟨its, r, ht, hz2⟩ := I5.list hx
  have hlen := r.length
  refine (show wpAny (model X.prog X.w) X.A (subscriptTail e (.Slice lo hi (some st) p2) (.ref a) (.ref s4.heap.objs.size)) (EP X pins σ Q) X.xe { s4 with heap := s4.heap.push { cls := .type "slice", data := .fields #[vl, vu, vs] } } from ?_)
  refine tail_any (ops := [.ref a, .ref s4.heap.objs.size]) ht.isList.typeIs slot_list_getitem.lookup ?_ (by with_unfolding_all rfl)
  refine wpAny_getItem_list_slice ht.isList (Heap.IsSliceOf.new ..) pl pu pk k0 ?_ (by rw [List.size_toArray]; omega)
  have ep : slicePick its.toArray l u k = ((sliceRange (sliceBounds l u k xs.length).1 (sliceBounds l u k xs.length).2.1 (sliceBounds l u k xs.length).2.2).filterMap fun i => its[i]?).toArray := by
    unfold slicePick
    rw [List.size_toArray, ← hlen]
    simp only [List.getElem?_toArray]
  rw [ep]
  exact ⟨.ref _, _, I5.laid (t' := s4.toks) (o := .lst (pickV xs l u k)) (fun b ob q => Heap.get?_push_of_some _ q) (Nat.le_refl _) ⟨hz, _, 0, vals_pick r _, Heap.get?_push_size _ rfl⟩, rfl, q _ (I5.hok.fresh (Nat.le_refl _))⟩
def rEqC (K : PySem.W.Frag) : R2 := fun x y H Q => ∃ d e, IsPd K H d x ∧ IsPd K H e y ∧ d.canLay0 = true ∧ e.canLay0 = true ∧ d.depth ≤ 60 ∧ Q (.bl (d.eqv e)) H
def rNeC (K : PySem.W.Frag) : R2 := fun x y H Q => ∃ d e, IsPd K H d x ∧ IsPd K H e y ∧ d.canLay0 = true ∧ e.canLay0 = true ∧ d.depth ≤ 60 ∧ Q (.bl (!d.eqv e)) H
theorem op_eqC {X : Cx} {k : Nat} (hr : Room k X.A) : OpR X (compareOp .Eq) (rEqC X.K) := by
  intro pins s σ H x y v u Q I rx ry h
  obtain ⟨d, e, hd, he, pd, pe, dp, q⟩ := h
  obtain ⟨as, ra⟩ := pd_reads I d x v hd rx; obtain ⟨bs, rb⟩ := pd_reads I e y u he ry
  exact SeqAt.compareEq_reads ra rb pd pe (room60 hr dp) ⟨.bl _, H, I, rfl, q⟩
theorem op_neC {X : Cx} {k : Nat} (hr : Room k X.A) : OpR X (compareOp .NotEq) (rNeC X.K) := by
  intro pins s σ H x y v u Q I rx ry h
  obtain ⟨d, e, hd, he, pd, pe, dp, q⟩ := h
  obtain ⟨as, ra⟩ := pd_reads I d x v hd rx; obtain ⟨bs, rb⟩ := pd_reads I e y u he ry
  exact SeqAt.compareNe_reads ra rb pd pe (room60 hr dp) ⟨.bl _, H, I, rfl, q⟩
def rCatA (K : PySem.W.Frag) : R2 := fun x y H Q => ∃ a b xs ys, x = .ref a ∧ y = .ref b ∧ SqT K H a xs ∧ SqT K H b ys ∧ xs.length + ys.length ≤ sizeLine ∧ ∀ p H', Same H H' → SqT K H' p (xs ++ ys) → Q (.ref p) H'
theorem op_catA {X : Cx} : OpR X (binaryOp .Add) (rCatA X.K) := by
  intro pins s σ H x y v u Q I rx ry h
  obtain ⟨a, b, xs, ys, rfl, rfl, ha, hb, hz, q⟩ := h
  by_cases hy : ys = []
  · subst hy
    cases xs with
    | nil => exact op_catT0 pins s σ H _ _ v u Q I rx ry ⟨a, b, [], rfl, rfl, ha, hb, q b H (Same.refl H) hb⟩
    | cons x xs => exact op_catT pins s σ H _ _ v u Q I rx ry ⟨a, b, x :: xs, [], rfl, rfl, ha, hb, by simp, hz, fun _ => q a H (Same.refl H) (by rw [List.append_nil]; exact ha), fun z => absurd rfl z⟩
  · exact op_catS pins s σ H _ _ v u Q I rx ry ⟨a, b, xs, ys, rfl, rfl, ha, hb, hy, hz, q⟩
theorem qs_if {X : Cx} {pos : Pos} {c : Expr} {a b : List Stmt} {t : TT} {ta tb : TS} (hc : PT X c t) (ha : QSs X a ta) (hb : QSs X b tb) : QS X (.If c a b pos) (tIfS t ta tb) := ⟨ps_if hc ha.run hb.run⟩
theorem ints_of : ∀ {ys : List V}, (∀ y ∈ ys, ∃ i : Int, y = .int i) → ∃ ms : List Int, ys = ms.map V.int
  | [], _ => ⟨[], rfl⟩
  | y :: ys, h => by
    obtain ⟨i, rfl⟩ := h y List.mem_cons_self
    obtain ⟨ms, rfl⟩ := ints_of fun z hz => h z (List.mem_cons_of_mem _ hz)
    exact ⟨i :: ms, rfl⟩
theorem test_cb1 {f : List V → Hp → VK → Prop} {te tb : TE} {r : R2} {σ : St} {H : Hp} {Q : Bool → Hp → Prop} (h : te σ H fun x H1 => f [x] H1 fun y H2 => tb σ H2 fun z H3 => r y z H3 fun b H4 => ∃ k, b = .bl k ∧ Q k H4) : tTest (tOp r (tCB f (tCons te tNil)) tb) σ H Q := h
theorem if_test {c : TT} {a b : TS} {D : Ends} {σ : St} {H : Hp} (h : c σ H fun k H1 => if k = true then a D σ H1 else b D σ H1) : tIfS c a b D σ H := h
theorem pe_appendK {X : Cx} {K : PySem.W.Frag} (hK : X.K = K) {o e : Expr} {es : List Expr} {to : TE} {t : TA} {apos cpos : Pos} (ho : PE X o to) (ha : PA X (e :: es) t)
    (hbase : attributeBase o "append" X.env (eval o X.env) = eval o X.env := by rfl)
    (hfew : ((backTo cpos (starEach (e :: es) X.env)).all (fun x => !x.1) && (backToKw cpos (keywordEach [] X.env)).all (fun x => x.1.isSome) && decide ((e :: es).length + ([] : List Keyword).length + (if ([] : List Keyword).isEmpty then 0 else 1) < 30)) = true := by rfl)
    (hline : (apos.endLine == cpos.line) = true := by rfl) (hs : starEach (e :: es) X.env = (false, eval e X.env) :: starEach es X.env := by rfl) (hplain : (backTo cpos (starEach es X.env)).any (·.1) = false := by rfl) :
    PE X (.Call (.Attribute o "append" apos) (e :: es) [] cpos) (tBM K "list" rAppend to t) := hK ▸ pe_append ho ha hbase hfew hline hs hplain
end L2
set_option Elab.async false
set_option linter.all false
set_option maxRecDepth 100000
set_option maxHeartbeats 400000
namespace L2
open PySem PySem.Spec PyProof.Rows
section
variable {X : Cx}
def rExtendT (K : PySem.W.Frag) : V → List V → Hp → VK → Prop := fun x vs H Q => ∃ l b xs zs, x = .ref l ∧ vs = [.ref b] ∧ H l = some (.lst xs) ∧ SqT K H b zs ∧ xs.length + zs.length ≤ sizeLine ∧ Q .non (upd H l (.lst (xs ++ zs)))
theorem mt_extendT : MtM X "list.extend" (rExtendT X.K) := by
  intro pins s σ H x vs v us Q I rx rv h
  obtain ⟨l, b, xs, zs, rfl, rfl, hH, hB, hz, q⟩ := h
  cases rx
  obtain ⟨u, rfl, ru⟩ := rv.one
  cases ru
  obtain ⟨z, its, n, r, hl, e⟩ := I.lstM hH
  obtain ⟨its2, r2, t2, hz2⟩ := I.tuple hB
  obtain ⟨o2, g2, c2, n2, d2⟩ := id t2
  have l2 := r2.length
  refine wpAny_call_entry F.slot_list_extend ⟨_, e, rfl⟩ F.entry_list_extend ?_ (F.args_list_extend_2 _ _)
  refine (show wpAny _ _ (Builtin.List.listExtendWith (.ref l) (.ref b) .none) _ _ s from ?_)
  unfold Builtin.List.listExtendWith
  refine wpAny_bind (wpAny_typeOf (T := "tuple") ⟨_, g2, c2⟩ ?_); rw [if_pos (by simp)]
  refine wpAny_bind (listItems_at g2 d2 (wpAny_bind (listItems_at e rfl ?_)))
  have hsz : its.toArray.size + its2.toArray.size ≤ sizeLine := by rw [List.size_toArray, List.size_toArray]; omega
  rw [if_neg (by rw [notLongL hsz, Bool.and_false]; exact Bool.false_ne_true)]
  refine wpAny_bind (listUpdate_at e rfl (wpAny_pure ⟨_, rfl, ?_⟩) (by rw [List.size_toArray]; omega) (by rw [Array.size_append]; omega))
  refine ⟨.non, _, I.lset (its' := its ++ its2) hH e (by simp) (r.append r2) ?_, rfl, q⟩
  rw [List.length_append]; omega
theorem pe_extendT {o e : Expr} {es : List Expr} {to : TE} {t : TA} {apos cpos : Pos} (ho : PE X o to) (ha : PA X (e :: es) t)
    (hbase : attributeBase o "extend" X.env (eval o X.env) = eval o X.env := by rfl)
    (hfew : ((backTo cpos (starEach (e :: es) X.env)).all (fun x => !x.1) && (backToKw cpos (keywordEach [] X.env)).all (fun x => x.1.isSome) && decide ((e :: es).length + ([] : List Keyword).length + (if ([] : List Keyword).isEmpty then 0 else 1) < 30)) = true := by rfl)
    (hline : (apos.endLine == cpos.line) = true := by rfl) (hs : starEach (e :: es) X.env = (false, eval e X.env) :: starEach es X.env := by rfl) (hplain : (backTo cpos (starEach es X.env)).any (·.1) = false := by rfl) :
    PE X (.Call (.Attribute o "extend" apos) (e :: es) [] cpos) (tBM X.K "list" (rExtendT X.K) to t) := pe_bm PySem.F.plainAttrs_list PySem.F.slot_list_extend PySem.F.type_list_extend mt_extendT ho ha hbase hfew hline hs hplain
end
theorem runsR_enumT {K : PySem.W.Frag} {a : Addr} {xs : List V} {H1 : Hp} (hq : SqT K H1 a xs) : RunsR Same (IteT K a) H1 xs.length (fun i v H => ∃ x p, xs[i]? = some x ∧ v = .ref p ∧ H p = some (.tup [.int (i : Nat), x])) := by
  refine ⟨fun i hi H s => ⟨xs, xs[i], s.seqT hq, by simp [hi]⟩, fun H s => ⟨xs, s.seqT hq, rfl⟩, fun i hi H v H' s y => ?_⟩
  obtain ⟨p, hp, rfl, f⟩ := y
  obtain ⟨x, hx, rfl⟩ := f xs (s.seqT hq)
  exact ⟨Same.upd hp, x, p, hx, rfl, upd_same⟩
theorem runsR_enumL {K : PySem.W.Frag} {a : Addr} {xs : List V} {H1 : Hp} (hq : SqL K H1 a xs) : RunsR Same (IteL K a) H1 xs.length (fun i v H => ∃ x p, xs[i]? = some x ∧ v = .ref p ∧ H p = some (.tup [.int (i : Nat), x])) := by
  refine ⟨fun i hi H s => ⟨xs, xs[i], s.seq hq, by simp [hi]⟩, fun H s => ⟨xs, s.seq hq, rfl⟩, fun i hi H v H' s y => ?_⟩
  obtain ⟨p, hp, rfl, f⟩ := y
  obtain ⟨x, hx, rfl⟩ := f xs (s.seq hq)
  exact ⟨Same.upd hp, x, p, hx, rfl, upd_same⟩
theorem tcompE_T {K : PySem.W.Frag} {a : Addr} {xs : List V} {ta : TA} {te : TE} {tc : TT} {g : TG} {m : Nat} {fr : List (Nat × Str)} {σ : St} {H H1 : Hp} {Q : VK} (p : Nat → Bool) (R : Nat → V → Hp → Prop) (hR : ∀ i y H H', Same H H' → R i y H → R i y H') (hta : ∀ T : List V → Hp → Prop, T [.ref a] H1 → ta σ H T) (hq : SqT K H1 a xs) (hn : xs.length ≤ sizeLine)
    (body : ∀ i, i < xs.length → ∀ v H, Same H1 H → (∃ x p, xs[i]? = some x ∧ v = .ref p ∧ H p = some (.tup [.int (i : Nat), x])) → ∀ (KT : VK) (KF : Hp → Prop), (p i = true → ∀ y H', Same H H' → R i y H' → KT y H') → (p i = false → ∀ H', Same H H' → KF H') →
      g v (cStG σ fr (List.replicate m none)) H fun σ6 H6 => ∃ us, us.length = m ∧ σ6 = cStG σ fr us ∧ tc (cStG σ fr us) H6 fun b H2 => if b = true then te (cStG σ fr us) H2 KT else KF H2)
    (hQ : ∀ l H' ys, Same H1 H' → H' l = none → All2 (fun i y => R i y H') ((List.range xs.length).filter p) ys → Q (.ref l) (upd H' l (.lst ys))) : tCompG (ieT K ta) m fr g tc te σ H Q :=
  hta _ ⟨a, xs, rfl, hq, compG_rel (Same.refl _) (fun _ _ _ a b => a.trans b) p R hR (runsR_enumT hq) hn body hQ⟩
theorem tcompE_L {K : PySem.W.Frag} {ta : TA} {te : TE} {tc : TT} {g : TG} {m : Nat} {fr : List (Nat × Str)} {σ : St} {H : Hp} {Q : VK} (Pr : Addr → List V → Hp → Prop) (hta : ∀ T : List V → Hp → Prop, (∀ a xs H1, Pr a xs H1 → T [.ref a] H1) → ta σ H T) (hq : ∀ a xs H1, Pr a xs H1 → SqL K H1 a xs ∧ xs.length ≤ sizeLine)
    (p : Addr → List V → Hp → Nat → Bool) (R : Nat → V → Hp → Prop) (hR : ∀ i y H H', Same H H' → R i y H → R i y H')
    (body : ∀ a xs H1, Pr a xs H1 → ∀ i, i < xs.length → ∀ v H, Same H1 H → (∃ x p, xs[i]? = some x ∧ v = .ref p ∧ H p = some (.tup [.int (i : Nat), x])) → ∀ (KT : VK) (KF : Hp → Prop), (p a xs H1 i = true → ∀ y H', Same H H' → R i y H' → KT y H') → (p a xs H1 i = false → ∀ H', Same H H' → KF H') →
      g v (cStG σ fr (List.replicate m none)) H fun σ6 H6 => ∃ us, us.length = m ∧ σ6 = cStG σ fr us ∧ tc (cStG σ fr us) H6 fun b H2 => if b = true then te (cStG σ fr us) H2 KT else KF H2)
    (hQ : ∀ a xs H1, Pr a xs H1 → ∀ l H' ys, Same H1 H' → H' l = none → All2 (fun i y => R i y H') ((List.range xs.length).filter (p a xs H1)) ys → Q (.ref l) (upd H' l (.lst ys))) : tCompG (ieL K ta) m fr g tc te σ H Q :=
  hta _ fun a xs H1 pr => ⟨a, xs, rfl, (hq a xs H1 pr).1, compG_rel (Same.refl _) (fun _ _ _ a b => a.trans b) (p a xs H1) R hR (runsR_enumL (hq a xs H1 pr).1) (hq a xs H1 pr).2 (body a xs H1 pr) (hQ a xs H1 pr)⟩
theorem op_in_seqK {X : Cx} {K : PySem.W.Frag} (hK : X.K = K) : OpR X (compareOp .In) (rIn K false) := hK ▸ op_in_seq
end L2
open PySem PySem.W PyProof.Rows
set_option Elab.async false
set_option maxRecDepth 100000
set_option maxHeartbeats 4000000
namespace TJ
section
variable (p : Program) (w : World) (n₀ : Nat) (ann : Option Value) (code : Code) (q : Pos)
def Steps (c : Nat) (s : Shared) (t : Thread) (s' : Shared) (t' : Thread) : Prop := ∃ n, n ≤ c ∧ segGo treeTable p w n₀ ann 1 n s t = some (s', t')
def Goes {α : Type} (c : Nat) (x : Sem α) (s : Shared) (pos : Pos) (a : α) (s' : Shared) (pos' : Pos) : Prop :=
  ∀ (K : α → Sem Fin) (H : Value → Sem Fin) (gd : Bool → Bool) (lv : List Value → List Value),
    Steps p w n₀ ann c s ⟨x.wrap K H gd lv, code, pos, [topFrame q]⟩ s' ⟨K a, code, pos', [topFrame q]⟩
end
section
variable {p : Program} {w : World} {n₀ : Nat} {ann : Option Value} {code : Code} {q : Pos}
variable {α β : Type} {s s' s'' : Shared} {pos pos' pos'' : Pos} {a : α} {b : β} {c d : Nat}
end
end TJ
open PySem PySem.W PyProof.Rows
set_option Elab.async false
set_option maxRecDepth 100000
set_option maxHeartbeats 4000000
namespace TJ
section
variable {p : Program} {w : World} {n₀ : Nat} {ann : Option Value} {code : Code} {q : Pos} {s : Shared} {pos : Pos}
end
end TJ
open PySem PySem.W PyProof.Rows
set_option Elab.async false
set_option maxRecDepth 100000
set_option maxHeartbeats 4000000
namespace TJ
abbrev dObj (es : Array DictEntry) (ep : Nat) : Obj := { cls := .type "dict", data := .dict es ep }
abbrev KV3 := Addr × Value × Int
def ent (x : KV3) : DictEntry := ⟨x.2.2, .ref x.1, x.2.1⟩
def unh (a : Addr) : Sem Value := do rule "hash.unhashable"; raiseError "TypeError" s!"unhashable type: '{← typeNameOf (.ref a)}'"
def storing (d : Addr) (vs : List (Value × Value)) : Sem PUnit := forIn vs PUnit.unit fun (x : Value × Value) (_ : PUnit) => (do dictSet d x.1 x.2; pure (ForInStep.yield PUnit.unit) : Sem (ForInStep PUnit))
section
variable {p : Program} {w : World} {n₀ : Nat} {ann : Option Value} {code : Code} {q : Pos} {pos : Pos} {F : Obj → Nat → SharedT} {d : Addr}
structure Fam (n₀ : Nat) (d : Addr) (F : Obj → Nat → SharedT) : Prop where
  le : Nat.ble n₀ d = true
  get : ∀ es ep tk, (F (dObj es ep) tk).abs.heap.get? d = some (dObj es ep)
  upd : ∀ es ep tk (e : DictEntry), ({ (F (dObj es ep) tk).abs with heap := (F (dObj es ep) tk).abs.heap.update d (Obj.mapDictKeys (·.push e)) } : Shared) = (F (dObj (es.push e) (ep + 1)) tk).abs
def foldHash (acc : Nat) : Int := if acc == 2 ^ 64 - 1 then 1546275796 else if acc < 2 ^ 63 then acc else (acc : Int) - (2 ^ 64 : Nat)
end
end TJ
namespace TJ
theorem leftO_by {p q : Program} {loose : List Str} {Xt : Shared → Bool} {α : Type} {Yf : Shared → α} {Ya : World → α} {N : Nat} {H₀ : Params → Heap} {gs₀ : Array GenState} {d₀ : Drawn} {k₀ m₀ : Nat} {ann : Option Value} {S : World → OsState → Shared}
    (opens : ∀ w : World, (fencedOpening treeTable p w N).map (fun s => (s.heap, s.gens, s.drawn, s.toks)) = some (H₀ w.params, gs₀, d₀, k₀))
    (sizes : ∀ w : World, (((H₀ w.params).isNs mainGlobals && gs₀.size == 0), (H₀ w.params).objs.size, (H₀ w.params).nsMap mainGlobals "__annotations__") = (true, m₀, ann))
    (runs : ∀ (w : World) (os : OsState), ∃ M, M ≤ N ∧ topRun treeTable p w m₀ ann M ⟨H₀ w.params, gs₀, d₀, k₀, os⟩ (topStub p) = some (S w os))
    (looks1 : ∀ (w : World) (os : OsState), (staticsOk (importedModules p.main.body) (H₀ w.params) (S w os).heap && namesBound p (S w os).heap && gensDone (S w os) && laidKept (H₀ w.params) (S w os).heap) = true)
    (looks2 : ∀ (w : World) (os : OsState), openSeen q loose (importedModules p.main.body) Xt true (S w os) = openGood q loose) (looks3 : ∀ (w : World) (os : OsState), Yf (S w os) = Ya w) : LeftO p q loose Xt Yf Ya N := by
  intro w
  obtain ⟨⟨h, gs, dr, k, os⟩, e, e'⟩ := Option.map_eq_some_iff.mp (opens w)
  simp only [Prod.mk.injEq] at e'
  obtain ⟨rfl, rfl, rfl, rfl⟩ := e'
  have z := sizes w
  simp only [Prod.mk.injEq] at z
  obtain ⟨z1, z2, z3⟩ := z
  obtain ⟨M, hM, r⟩ := runs w os
  have r := topRun_mono (N - M) _ _ _ _ r
  rw [Nat.add_sub_cancel' hM] at r
  have t : topFrom treeTable p w N ⟨H₀ w.params, gs, dr, k, os⟩ = some (S w os) := by
    unfold topFrom
    dsimp only
    rw [z1, z2, z3, r]
    show (match (staticsOk (importedModules p.main.body) (H₀ w.params) (S w os).heap && namesBound p (S w os).heap && gensDone (S w os) && laidKept (H₀ w.params) (S w os).heap) with | true => some (S w os) | false => none) = _
    rw [looks1 w os]
  unfold openEnds
  rw [e]
  show (topFrom treeTable p w N _).map _ = _
  rw [t]
  show some (_, _) = some (_, _)
  rw [looks2 w os, looks3 w os]
end TJ
set_option Elab.async false
set_option linter.all false
set_option maxRecDepth 100000
set_option maxHeartbeats 0
namespace K64
open PySem PySem.W PyProof.Rows TJ L2
abbrev PX : Program := PySem.Challenge.pw_talejudge_k64_parts_of_tales
noncomputable abbrev annX : Option Value := some (.ref 6)
noncomputable abbrev cdX : Code := .body (behindTheImports PX) K64.pre.env_1
noncomputable abbrev qX : Pos := ⟨0, 0, 0, 0⟩
noncomputable abbrev BX : List Frame := [topFrame qX]
noncomputable def sufX : List Stmt := (behindTheImports PX).drop 38
theorem bodyX : behindTheImports PX = K64.pre.sts_7 ++ (K64.pre.sts_26 ++ (K64.pre.sts_45 ++ (K64.pre.sts_64 ++ (K64.pre.sts_83 ++ (K64.pre.sts_102 ++ (K64.pre.sts_121 ++ (K64.pre.sts_140 ++ (K64.pre.sts_159 ++ (K64.pre.sts_178 ++ (K64.pre.sts_197 ++ (K64.pre.sts_247 ++ (K64.pre.sts_332 ++ sufX)))))))))))) := by kernel_rfl
noncomputable abbrev p3X : Pos := ⟨214, 0, 224, 73⟩
noncomputable abbrev S2X (w : World) (os : OsState) : SharedT := ⟨K64.pre.tree_364 w.params, 287, {}, ⟨[]⟩, {}, 570, os⟩
noncomputable abbrev pLX : Pos := ⟨225, 0, 240, 112⟩
noncomputable def R3X (w : World) (os : OsState) : Option (Flow × SharedT × Code × Pos) := PySem.W.Fast.tw10110043849684766642 PySem.W.Fast.tw14364793385576792824 PX w 11 annX 1 46 (S2X w os) ⟨(PySem.W.Fast.tw12563942051412417395 sufX K64.pre.env_1).wrap doneF deadEnd id id, cdX, p3X, BX⟩
noncomputable def S3X (w : World) (os : OsState) : SharedT := match R3X w os with | some r => r.2.1 | none => S2X w os
theorem R3X_eq (w : World) (os : OsState) : R3X w os = some (.next, S3X w os, cdX, pLX) := by kernel_rfl
theorem suf_run (w : World) (os : OsState) : segRun treeTable PX w 11 annX 1 46 (S2X w os).abs (piecesOf sufX K64.pre.env_1 cdX p3X BX) = some (.next, (S3X w os).abs, cdX, pLX) := by
  have e := R3X_eq w os
  unfold R3X at e
  rw [← PySem.W.Fast.te10110043849684766642, ← PySem.W.Fast.te14364793385576792824, ← PySem.W.Fast.te12563942051412417395] at e
  exact segRun_of e
noncomputable def S0X (w : World) (os : OsState) : SharedT := ⟨K64.pre.tree_6 w.params, 15, {}, ⟨[]⟩, {}, 187, os⟩
theorem pre_go (w : World) (os : OsState) : topGo treeTable PX w 11 annX 12 ⟨boot_heap w.params, Array.mk [], boot_drawn, boot_toks, os⟩ (topStub PX) = some ((S0X w os).abs, ⟨denote treeTable cdX, cdX, qX, BX⟩) := by
  rw [PySem.W.Fast.te15667345088766844465, PySem.W.Fast.te14364793385576792824, PySem.W.Fast.te11892475500146522536]
  kernel_rfl
theorem runX_all (w : World) (os : OsState) : ∃ M, M ≤ 200000 ∧ topRun treeTable PX w 11 annX M ⟨boot_heap w.params, Array.mk [], boot_drawn, boot_toks, os⟩ (topStub PX) = some (S3X w os).abs := by
  have f1 : topRun treeTable PX w 11 annX 2 (S3X w os).abs (restOf [] K64.pre.env_1 cdX pLX BX) = some (S3X w os).abs := rfl
  have f2 := piece_app (suf_run w os) f1
  rw [List.append_nil] at f2
  have f4 := K64.pre.chain PX (behindTheImports PX) w os _ _ _ f2
  rw [← bodyX] at f4
  have b1 : segRun treeTable PX w 11 annX 1 1 (S0X w os).abs (blockOf (behindTheImports PX) K64.pre.env_1 cdX qX BX) = some (.next, (S0X w os).abs, cdX, qX) := rfl
  have f5 := piece_block b1 f4
  have f6 := go_top (pre_go w os) f5
  refine ⟨_, ?_, f6⟩
  simp only [Nat.add_eq]
  omega
noncomputable def looseX : List Str := [("TaleError" : Str), ("NoDeed" : Str), ("NoTale" : Str), ("NoStrictness" : Str), ("NoThing" : Str), ("NoOrder" : Str), ("NoHand" : Str), ("NotPlain" : Str), ("NoPlan" : Str), ("NoDealings" : Str), ("NoRow" : Str), ("deeds" : Str), ("part" : Str), ("thing_named" : Str), ("numbers_of" : Str), ("_law_cell_at" : Str), ("_law_take" : Str), ("_law_do" : Str), ("_law_first" : Str), ("_law_worth" : Str), ("_law_verb" : Str), ("_law_things" : Str), ("_law_applied" : Str), ("_law_tale" : Str), ("_law_deeds" : Str), ("_law_is_ahead" : Str), ("_law_may_be_next" : Str), ("_law_nexts" : Str), ("_law_is_full" : Str), ("_law_places" : Str), ("_law_is_good" : Str), ("_law_part" : Str), ("_law_caught" : Str), ("_law_told" : Str)]
noncomputable def viewX : Program := { PX with main := { PX.main with body := (PX.main.body[38]?).toList } }
noncomputable def top (i : Nat) : Stmt := PX.main.body.getD i (.Pass ⟨0, 0, 0, 0⟩)
noncomputable def asX : List Addr := [3, 11, 13, 15, 17, 18, 20, 22, 23, 24, 28, 30, 31, 33, 35, 36, 37, 40, 42, 43, 45, 47, 48, 49, 52, 54, 55, 57, 59, 60, 61, 64, 66, 67, 69, 71, 72, 73, 76, 78, 79, 81, 83, 84, 85, 88, 90, 91, 93, 95, 96, 97, 100, 102, 103, 105, 107, 108, 109, 112, 114, 115, 117, 119, 120, 121, 124, 126, 127, 129, 131, 132, 133, 136, 138, 139, 141, 143, 144, 145, 148, 150, 151, 153, 154, 155, 158, 159, 160, 162, 163, 165, 166, 167, 170, 171, 172, 174, 175, 177, 178, 179, 181, 182, 184, 185, 186, 189, 190, 191, 194, 195, 196, 198, 199, 201, 202, 203, 205, 206, 208, 209, 210, 213, 214, 215, 218, 219, 220, 223, 224, 225, 227, 228, 230, 231, 232, 234, 235, 239, 241, 242, 246, 248, 249, 253, 258, 260, 261, 265, 270, 273, 274, 275, 277, 278, 280, 281, 282, 285, 286, 287, 290, 291]
noncomputable def KX (P : Params) : Frag := [
  (3, ⟨(.type "dict"), none, (.dict #[⟨(PyData.keyHash P "__name__"), (.str "__name__" 165), (.str "law_talejudge_k64_parts_of_tales" 405)⟩, ⟨(PyData.keyHash P "__doc__"), (.str "__doc__" 166), .none⟩, ⟨(PyData.keyHash P "__package__"), (.str "__package__" 167), .none⟩, ⟨(PyData.keyHash P "__loader__"), (.str "__loader__" 168), (.builtin "__main__.__loader__#opaque")⟩, ⟨(PyData.keyHash P "__spec__"), (.str "__spec__" 169), .none⟩, ⟨(PyData.keyHash P "__annotations__"), (.str "__annotations__" 170), (.ref 6)⟩, ⟨(PyData.keyHash P "__builtins__"), (.str "__builtins__" 171), (.ref 4)⟩, ⟨(PyData.keyHash P "__file__"), (.str "__file__" 173), (.str "/claim/cut.py" 172)⟩, ⟨(PyData.keyHash P "__cached__"), (.str "__cached__" 174), .none⟩, ⟨(PyData.keyHash P "TaleError"), (.str "TaleError" 206), (.ref 24)⟩, ⟨(PyData.keyHash P "NoDeed"), (.str "NoDeed" 222), (.ref 37)⟩, ⟨(PyData.keyHash P "NoTale"), (.str "NoTale" 238), (.ref 49)⟩, ⟨(PyData.keyHash P "NoStrictness"), (.str "NoStrictness" 254), (.ref 61)⟩, ⟨(PyData.keyHash P "NoThing"), (.str "NoThing" 270), (.ref 73)⟩, ⟨(PyData.keyHash P "NoOrder"), (.str "NoOrder" 286), (.ref 85)⟩, ⟨(PyData.keyHash P "NoHand"), (.str "NoHand" 302), (.ref 97)⟩, ⟨(PyData.keyHash P "NotPlain"), (.str "NotPlain" 318), (.ref 109)⟩, ⟨(PyData.keyHash P "NoPlan"), (.str "NoPlan" 334), (.ref 121)⟩, ⟨(PyData.keyHash P "NoDealings"), (.str "NoDealings" 350), (.ref 133)⟩, ⟨(PyData.keyHash P "NoRow"), (.str "NoRow" 366), (.ref 145)⟩, ⟨(PyData.keyHash P "deeds"), (.str "deeds" 381), (.ref 154)⟩, ⟨(PyData.keyHash P "part"), (.str "part" 389), (.ref 159)⟩, ⟨(PyData.keyHash P "thing_named"), (.str "thing_named" 398), (.ref 166)⟩, ⟨(PyData.keyHash P "numbers_of"), (.str "numbers_of" 404), (.ref 171)⟩, ⟨(PyData.keyHash P "_law_cell_at"), (.str "_law_cell_at" 414), (.ref 178)⟩, ⟨(PyData.keyHash P "_law_take"), (.str "_law_take" 424), (.ref 185)⟩, ⟨(PyData.keyHash P "_law_do"), (.str "_law_do" 430), (.ref 190)⟩, ⟨(PyData.keyHash P "_law_first"), (.str "_law_first" 436), (.ref 195)⟩, ⟨(PyData.keyHash P "_law_worth"), (.str "_law_worth" 443), (.ref 202)⟩, ⟨(PyData.keyHash P "_law_verb"), (.str "_law_verb" 453), (.ref 209)⟩, ⟨(PyData.keyHash P "_law_things"), (.str "_law_things" 459), (.ref 214)⟩, ⟨(PyData.keyHash P "_law_applied"), (.str "_law_applied" 465), (.ref 219)⟩, ⟨(PyData.keyHash P "_law_tale"), (.str "_law_tale" 471), (.ref 224)⟩, ⟨(PyData.keyHash P "_law_deeds"), (.str "_law_deeds" 482), (.ref 231)⟩, ⟨(PyData.keyHash P "_law_is_ahead"), (.str "_law_is_ahead" 491), (.ref 238)⟩, ⟨(PyData.keyHash P "_law_may_be_next"), (.str "_law_may_be_next" 502), (.ref 245)⟩, ⟨(PyData.keyHash P "_law_nexts"), (.str "_law_nexts" 518), (.ref 252)⟩, ⟨(PyData.keyHash P "_law_is_full"), (.str "_law_is_full" 524), (.ref 257)⟩, ⟨(PyData.keyHash P "_law_places"), (.str "_law_places" 539), (.ref 264)⟩, ⟨(PyData.keyHash P "_law_is_good"), (.str "_law_is_good" 545), (.ref 269)⟩, ⟨(PyData.keyHash P "_law_part"), (.str "_law_part" 551), (.ref 274)⟩, ⟨(PyData.keyHash P "_law_caught"), (.str "_law_caught" 563), (.ref 281)⟩, ⟨(PyData.keyHash P "_law_told"), (.str "_law_told" 569), (.ref 286)⟩, ⟨(PyData.keyHash P "law"), (.str "law" 575), (.ref 291)⟩] 44), #[]⟩),
  (11, ⟨(.type "tuple"), none, (.seq #[] 0), #[]⟩),
  (13, ⟨(.type "code"), none, (.fields #[(.str "<module>" 182), (.str "<module>" 183), (.str "/claim/cut.py" 184), (.int (1) 0), (.int (0) 0), (.int (0) 0), (.int (0) 0), (.int (0) 0), (.ref 11), (.bool false), (.int (181) 0), (.ref 12), .none, .none, .none, .none, (.int (185) 0), (.int (1) 0), (.str "/claim/cut.py" 186)]), #[]⟩),
  (15, ⟨(.type "tuple"), none, (.seq #[(.type "ValueError")] 0), #[]⟩),
  (17, ⟨(.type "dict"), none, (.dict #[⟨(PyData.keyHash P "__module__"), (.str "__module__" 196), (.str "talejudge.errors" 187)⟩, ⟨(PyData.keyHash P "__qualname__"), (.str "__qualname__" 198), (.str "TaleError" 197)⟩, ⟨(PyData.keyHash P "__firstlineno__"), (.str "__firstlineno__" 200), (.int (2) 199)⟩, ⟨(PyData.keyHash P "__static_attributes__"), (.str "__static_attributes__" 201), (.ref 22)⟩] 4), #[]⟩),
  (18, ⟨(.type "tuple"), none, (.seq #[] 0), #[]⟩),
  (20, ⟨(.type "code"), none, (.fields #[(.str "TaleError" 191), (.str "TaleError" 192), (.str "/claim/cut.py" 193), (.int (2) 0), (.int (0) 0), (.int (0) 0), (.int (0) 0), (.int (0) 0), (.ref 18), (.bool false), (.int (181) 0), (.ref 19), .none, .none, .none, .none, (.int (194) 0), (.int (2) 0), (.str "/claim/cut.py" 195)]), #[]⟩),
  (22, ⟨(.type "tuple"), none, (.seq #[] 0), #[]⟩),
  (23, ⟨(.type "dict"), none, (.dict #[⟨(PyData.keyHash P "__module__"), (.str "__module__" 196), (.str "talejudge.errors" 187)⟩, ⟨(PyData.keyHash P "__firstlineno__"), (.str "__firstlineno__" 200), (.int (2) 199)⟩, ⟨(PyData.keyHash P "__static_attributes__"), (.str "__static_attributes__" 201), (.ref 22)⟩, ⟨(PyData.keyHash P "__weakref__"), (.str "__weakref__" 203), (.ref 25)⟩, ⟨(PyData.keyHash P "__doc__"), (.str "__doc__" 204), .none⟩] 3), #[]⟩),
  (24, ⟨(.type "type"), none, (.cls ⟨"TaleError", [(.type "ValueError")], [(.ref 24), (.type "ValueError"), (.type "Exception"), (.type "BaseException"), (.type "object")], 23, "TaleError", true, [], [(.ref 37), (.ref 49), (.ref 61), (.ref 73), (.ref 85), (.ref 97), (.ref 109), (.ref 121), (.ref 133), (.ref 145)], false, none, false⟩), #[some (.ref 15), none, some (.str "TaleError" 189), some (.str "TaleError" 197), some (.builtin "ValueError.__new__"), some (.bool true)]⟩),
  (28, ⟨(.type "tuple"), none, (.seq #[(.ref 24)] 0), #[]⟩),
  (30, ⟨(.type "dict"), none, (.dict #[⟨(PyData.keyHash P "__module__"), (.str "__module__" 214), (.str "talejudge.errors" 187)⟩, ⟨(PyData.keyHash P "__qualname__"), (.str "__qualname__" 216), (.str "NoDeed" 215)⟩, ⟨(PyData.keyHash P "__firstlineno__"), (.str "__firstlineno__" 218), (.int (4) 217)⟩, ⟨(PyData.keyHash P "__static_attributes__"), (.str "__static_attributes__" 219), (.ref 35)⟩] 4), #[]⟩),
  (31, ⟨(.type "tuple"), none, (.seq #[] 0), #[]⟩),
  (33, ⟨(.type "code"), none, (.fields #[(.str "NoDeed" 209), (.str "NoDeed" 210), (.str "/claim/cut.py" 211), (.int (4) 0), (.int (0) 0), (.int (0) 0), (.int (0) 0), (.int (0) 0), (.ref 31), (.bool false), (.int (181) 0), (.ref 32), .none, .none, .none, .none, (.int (212) 0), (.int (4) 0), (.str "/claim/cut.py" 213)]), #[]⟩),
  (35, ⟨(.type "tuple"), none, (.seq #[] 0), #[]⟩),
  (36, ⟨(.type "dict"), none, (.dict #[⟨(PyData.keyHash P "__module__"), (.str "__module__" 214), (.str "talejudge.errors" 187)⟩, ⟨(PyData.keyHash P "__firstlineno__"), (.str "__firstlineno__" 218), (.int (4) 217)⟩, ⟨(PyData.keyHash P "__static_attributes__"), (.str "__static_attributes__" 219), (.ref 35)⟩, ⟨(PyData.keyHash P "__doc__"), (.str "__doc__" 220), .none⟩] 2), #[]⟩),
  (37, ⟨(.type "type"), none, (.cls ⟨"NoDeed", [(.ref 24)], [(.ref 37), (.ref 24), (.type "ValueError"), (.type "Exception"), (.type "BaseException"), (.type "object")], 36, "NoDeed", true, [], [], false, none, false⟩), #[some (.ref 28), none, some (.str "NoDeed" 207), some (.str "NoDeed" 215), some (.builtin "ValueError.__new__"), some (.bool true)]⟩),
  (40, ⟨(.type "tuple"), none, (.seq #[(.ref 24)] 0), #[]⟩),
  (42, ⟨(.type "dict"), none, (.dict #[⟨(PyData.keyHash P "__module__"), (.str "__module__" 230), (.str "talejudge.errors" 187)⟩, ⟨(PyData.keyHash P "__qualname__"), (.str "__qualname__" 232), (.str "NoTale" 231)⟩, ⟨(PyData.keyHash P "__firstlineno__"), (.str "__firstlineno__" 234), (.int (6) 233)⟩, ⟨(PyData.keyHash P "__static_attributes__"), (.str "__static_attributes__" 235), (.ref 47)⟩] 4), #[]⟩),
  (43, ⟨(.type "tuple"), none, (.seq #[] 0), #[]⟩),
  (45, ⟨(.type "code"), none, (.fields #[(.str "NoTale" 225), (.str "NoTale" 226), (.str "/claim/cut.py" 227), (.int (6) 0), (.int (0) 0), (.int (0) 0), (.int (0) 0), (.int (0) 0), (.ref 43), (.bool false), (.int (181) 0), (.ref 44), .none, .none, .none, .none, (.int (228) 0), (.int (6) 0), (.str "/claim/cut.py" 229)]), #[]⟩),
  (47, ⟨(.type "tuple"), none, (.seq #[] 0), #[]⟩),
  (48, ⟨(.type "dict"), none, (.dict #[⟨(PyData.keyHash P "__module__"), (.str "__module__" 230), (.str "talejudge.errors" 187)⟩, ⟨(PyData.keyHash P "__firstlineno__"), (.str "__firstlineno__" 234), (.int (6) 233)⟩, ⟨(PyData.keyHash P "__static_attributes__"), (.str "__static_attributes__" 235), (.ref 47)⟩, ⟨(PyData.keyHash P "__doc__"), (.str "__doc__" 236), .none⟩] 2), #[]⟩),
  (49, ⟨(.type "type"), none, (.cls ⟨"NoTale", [(.ref 24)], [(.ref 49), (.ref 24), (.type "ValueError"), (.type "Exception"), (.type "BaseException"), (.type "object")], 48, "NoTale", true, [], [], false, none, false⟩), #[some (.ref 40), none, some (.str "NoTale" 223), some (.str "NoTale" 231), some (.builtin "ValueError.__new__"), some (.bool true)]⟩),
  (52, ⟨(.type "tuple"), none, (.seq #[(.ref 24)] 0), #[]⟩),
  (54, ⟨(.type "dict"), none, (.dict #[⟨(PyData.keyHash P "__module__"), (.str "__module__" 246), (.str "talejudge.errors" 187)⟩, ⟨(PyData.keyHash P "__qualname__"), (.str "__qualname__" 248), (.str "NoStrictness" 247)⟩, ⟨(PyData.keyHash P "__firstlineno__"), (.str "__firstlineno__" 250), (.int (8) 249)⟩, ⟨(PyData.keyHash P "__static_attributes__"), (.str "__static_attributes__" 251), (.ref 59)⟩] 4), #[]⟩),
  (55, ⟨(.type "tuple"), none, (.seq #[] 0), #[]⟩),
  (57, ⟨(.type "code"), none, (.fields #[(.str "NoStrictness" 241), (.str "NoStrictness" 242), (.str "/claim/cut.py" 243), (.int (8) 0), (.int (0) 0), (.int (0) 0), (.int (0) 0), (.int (0) 0), (.ref 55), (.bool false), (.int (181) 0), (.ref 56), .none, .none, .none, .none, (.int (244) 0), (.int (8) 0), (.str "/claim/cut.py" 245)]), #[]⟩),
  (59, ⟨(.type "tuple"), none, (.seq #[] 0), #[]⟩),
  (60, ⟨(.type "dict"), none, (.dict #[⟨(PyData.keyHash P "__module__"), (.str "__module__" 246), (.str "talejudge.errors" 187)⟩, ⟨(PyData.keyHash P "__firstlineno__"), (.str "__firstlineno__" 250), (.int (8) 249)⟩, ⟨(PyData.keyHash P "__static_attributes__"), (.str "__static_attributes__" 251), (.ref 59)⟩, ⟨(PyData.keyHash P "__doc__"), (.str "__doc__" 252), .none⟩] 2), #[]⟩),
  (61, ⟨(.type "type"), none, (.cls ⟨"NoStrictness", [(.ref 24)], [(.ref 61), (.ref 24), (.type "ValueError"), (.type "Exception"), (.type "BaseException"), (.type "object")], 60, "NoStrictness", true, [], [], false, none, false⟩), #[some (.ref 52), none, some (.str "NoStrictness" 239), some (.str "NoStrictness" 247), some (.builtin "ValueError.__new__"), some (.bool true)]⟩),
  (64, ⟨(.type "tuple"), none, (.seq #[(.ref 24)] 0), #[]⟩),
  (66, ⟨(.type "dict"), none, (.dict #[⟨(PyData.keyHash P "__module__"), (.str "__module__" 262), (.str "talejudge.errors" 187)⟩, ⟨(PyData.keyHash P "__qualname__"), (.str "__qualname__" 264), (.str "NoThing" 263)⟩, ⟨(PyData.keyHash P "__firstlineno__"), (.str "__firstlineno__" 266), (.int (10) 265)⟩, ⟨(PyData.keyHash P "__static_attributes__"), (.str "__static_attributes__" 267), (.ref 71)⟩] 4), #[]⟩),
  (67, ⟨(.type "tuple"), none, (.seq #[] 0), #[]⟩),
  (69, ⟨(.type "code"), none, (.fields #[(.str "NoThing" 257), (.str "NoThing" 258), (.str "/claim/cut.py" 259), (.int (10) 0), (.int (0) 0), (.int (0) 0), (.int (0) 0), (.int (0) 0), (.ref 67), (.bool false), (.int (181) 0), (.ref 68), .none, .none, .none, .none, (.int (260) 0), (.int (10) 0), (.str "/claim/cut.py" 261)]), #[]⟩),
  (71, ⟨(.type "tuple"), none, (.seq #[] 0), #[]⟩),
  (72, ⟨(.type "dict"), none, (.dict #[⟨(PyData.keyHash P "__module__"), (.str "__module__" 262), (.str "talejudge.errors" 187)⟩, ⟨(PyData.keyHash P "__firstlineno__"), (.str "__firstlineno__" 266), (.int (10) 265)⟩, ⟨(PyData.keyHash P "__static_attributes__"), (.str "__static_attributes__" 267), (.ref 71)⟩, ⟨(PyData.keyHash P "__doc__"), (.str "__doc__" 268), .none⟩] 2), #[]⟩),
  (73, ⟨(.type "type"), none, (.cls ⟨"NoThing", [(.ref 24)], [(.ref 73), (.ref 24), (.type "ValueError"), (.type "Exception"), (.type "BaseException"), (.type "object")], 72, "NoThing", true, [], [], false, none, false⟩), #[some (.ref 64), none, some (.str "NoThing" 255), some (.str "NoThing" 263), some (.builtin "ValueError.__new__"), some (.bool true)]⟩),
  (76, ⟨(.type "tuple"), none, (.seq #[(.ref 24)] 0), #[]⟩),
  (78, ⟨(.type "dict"), none, (.dict #[⟨(PyData.keyHash P "__module__"), (.str "__module__" 278), (.str "talejudge.errors" 187)⟩, ⟨(PyData.keyHash P "__qualname__"), (.str "__qualname__" 280), (.str "NoOrder" 279)⟩, ⟨(PyData.keyHash P "__firstlineno__"), (.str "__firstlineno__" 282), (.int (12) 281)⟩, ⟨(PyData.keyHash P "__static_attributes__"), (.str "__static_attributes__" 283), (.ref 83)⟩] 4), #[]⟩),
  (79, ⟨(.type "tuple"), none, (.seq #[] 0), #[]⟩),
  (81, ⟨(.type "code"), none, (.fields #[(.str "NoOrder" 273), (.str "NoOrder" 274), (.str "/claim/cut.py" 275), (.int (12) 0), (.int (0) 0), (.int (0) 0), (.int (0) 0), (.int (0) 0), (.ref 79), (.bool false), (.int (181) 0), (.ref 80), .none, .none, .none, .none, (.int (276) 0), (.int (12) 0), (.str "/claim/cut.py" 277)]), #[]⟩),
  (83, ⟨(.type "tuple"), none, (.seq #[] 0), #[]⟩),
  (84, ⟨(.type "dict"), none, (.dict #[⟨(PyData.keyHash P "__module__"), (.str "__module__" 278), (.str "talejudge.errors" 187)⟩, ⟨(PyData.keyHash P "__firstlineno__"), (.str "__firstlineno__" 282), (.int (12) 281)⟩, ⟨(PyData.keyHash P "__static_attributes__"), (.str "__static_attributes__" 283), (.ref 83)⟩, ⟨(PyData.keyHash P "__doc__"), (.str "__doc__" 284), .none⟩] 2), #[]⟩),
  (85, ⟨(.type "type"), none, (.cls ⟨"NoOrder", [(.ref 24)], [(.ref 85), (.ref 24), (.type "ValueError"), (.type "Exception"), (.type "BaseException"), (.type "object")], 84, "NoOrder", true, [], [], false, none, false⟩), #[some (.ref 76), none, some (.str "NoOrder" 271), some (.str "NoOrder" 279), some (.builtin "ValueError.__new__"), some (.bool true)]⟩),
  (88, ⟨(.type "tuple"), none, (.seq #[(.ref 24)] 0), #[]⟩),
  (90, ⟨(.type "dict"), none, (.dict #[⟨(PyData.keyHash P "__module__"), (.str "__module__" 294), (.str "talejudge.errors" 187)⟩, ⟨(PyData.keyHash P "__qualname__"), (.str "__qualname__" 296), (.str "NoHand" 295)⟩, ⟨(PyData.keyHash P "__firstlineno__"), (.str "__firstlineno__" 298), (.int (14) 297)⟩, ⟨(PyData.keyHash P "__static_attributes__"), (.str "__static_attributes__" 299), (.ref 95)⟩] 4), #[]⟩),
  (91, ⟨(.type "tuple"), none, (.seq #[] 0), #[]⟩),
  (93, ⟨(.type "code"), none, (.fields #[(.str "NoHand" 289), (.str "NoHand" 290), (.str "/claim/cut.py" 291), (.int (14) 0), (.int (0) 0), (.int (0) 0), (.int (0) 0), (.int (0) 0), (.ref 91), (.bool false), (.int (181) 0), (.ref 92), .none, .none, .none, .none, (.int (292) 0), (.int (14) 0), (.str "/claim/cut.py" 293)]), #[]⟩),
  (95, ⟨(.type "tuple"), none, (.seq #[] 0), #[]⟩),
  (96, ⟨(.type "dict"), none, (.dict #[⟨(PyData.keyHash P "__module__"), (.str "__module__" 294), (.str "talejudge.errors" 187)⟩, ⟨(PyData.keyHash P "__firstlineno__"), (.str "__firstlineno__" 298), (.int (14) 297)⟩, ⟨(PyData.keyHash P "__static_attributes__"), (.str "__static_attributes__" 299), (.ref 95)⟩, ⟨(PyData.keyHash P "__doc__"), (.str "__doc__" 300), .none⟩] 2), #[]⟩),
  (97, ⟨(.type "type"), none, (.cls ⟨"NoHand", [(.ref 24)], [(.ref 97), (.ref 24), (.type "ValueError"), (.type "Exception"), (.type "BaseException"), (.type "object")], 96, "NoHand", true, [], [], false, none, false⟩), #[some (.ref 88), none, some (.str "NoHand" 287), some (.str "NoHand" 295), some (.builtin "ValueError.__new__"), some (.bool true)]⟩),
  (100, ⟨(.type "tuple"), none, (.seq #[(.ref 24)] 0), #[]⟩),
  (102, ⟨(.type "dict"), none, (.dict #[⟨(PyData.keyHash P "__module__"), (.str "__module__" 310), (.str "talejudge.errors" 187)⟩, ⟨(PyData.keyHash P "__qualname__"), (.str "__qualname__" 312), (.str "NotPlain" 311)⟩, ⟨(PyData.keyHash P "__firstlineno__"), (.str "__firstlineno__" 314), (.int (16) 313)⟩, ⟨(PyData.keyHash P "__static_attributes__"), (.str "__static_attributes__" 315), (.ref 107)⟩] 4), #[]⟩),
  (103, ⟨(.type "tuple"), none, (.seq #[] 0), #[]⟩),
  (105, ⟨(.type "code"), none, (.fields #[(.str "NotPlain" 305), (.str "NotPlain" 306), (.str "/claim/cut.py" 307), (.int (16) 0), (.int (0) 0), (.int (0) 0), (.int (0) 0), (.int (0) 0), (.ref 103), (.bool false), (.int (181) 0), (.ref 104), .none, .none, .none, .none, (.int (308) 0), (.int (16) 0), (.str "/claim/cut.py" 309)]), #[]⟩),
  (107, ⟨(.type "tuple"), none, (.seq #[] 0), #[]⟩),
  (108, ⟨(.type "dict"), none, (.dict #[⟨(PyData.keyHash P "__module__"), (.str "__module__" 310), (.str "talejudge.errors" 187)⟩, ⟨(PyData.keyHash P "__firstlineno__"), (.str "__firstlineno__" 314), (.int (16) 313)⟩, ⟨(PyData.keyHash P "__static_attributes__"), (.str "__static_attributes__" 315), (.ref 107)⟩, ⟨(PyData.keyHash P "__doc__"), (.str "__doc__" 316), .none⟩] 2), #[]⟩),
  (109, ⟨(.type "type"), none, (.cls ⟨"NotPlain", [(.ref 24)], [(.ref 109), (.ref 24), (.type "ValueError"), (.type "Exception"), (.type "BaseException"), (.type "object")], 108, "NotPlain", true, [], [], false, none, false⟩), #[some (.ref 100), none, some (.str "NotPlain" 303), some (.str "NotPlain" 311), some (.builtin "ValueError.__new__"), some (.bool true)]⟩),
  (112, ⟨(.type "tuple"), none, (.seq #[(.ref 24)] 0), #[]⟩),
  (114, ⟨(.type "dict"), none, (.dict #[⟨(PyData.keyHash P "__module__"), (.str "__module__" 326), (.str "talejudge.errors" 187)⟩, ⟨(PyData.keyHash P "__qualname__"), (.str "__qualname__" 328), (.str "NoPlan" 327)⟩, ⟨(PyData.keyHash P "__firstlineno__"), (.str "__firstlineno__" 330), (.int (18) 329)⟩, ⟨(PyData.keyHash P "__static_attributes__"), (.str "__static_attributes__" 331), (.ref 119)⟩] 4), #[]⟩),
  (115, ⟨(.type "tuple"), none, (.seq #[] 0), #[]⟩),
  (117, ⟨(.type "code"), none, (.fields #[(.str "NoPlan" 321), (.str "NoPlan" 322), (.str "/claim/cut.py" 323), (.int (18) 0), (.int (0) 0), (.int (0) 0), (.int (0) 0), (.int (0) 0), (.ref 115), (.bool false), (.int (181) 0), (.ref 116), .none, .none, .none, .none, (.int (324) 0), (.int (18) 0), (.str "/claim/cut.py" 325)]), #[]⟩),
  (119, ⟨(.type "tuple"), none, (.seq #[] 0), #[]⟩),
  (120, ⟨(.type "dict"), none, (.dict #[⟨(PyData.keyHash P "__module__"), (.str "__module__" 326), (.str "talejudge.errors" 187)⟩, ⟨(PyData.keyHash P "__firstlineno__"), (.str "__firstlineno__" 330), (.int (18) 329)⟩, ⟨(PyData.keyHash P "__static_attributes__"), (.str "__static_attributes__" 331), (.ref 119)⟩, ⟨(PyData.keyHash P "__doc__"), (.str "__doc__" 332), .none⟩] 2), #[]⟩),
  (121, ⟨(.type "type"), none, (.cls ⟨"NoPlan", [(.ref 24)], [(.ref 121), (.ref 24), (.type "ValueError"), (.type "Exception"), (.type "BaseException"), (.type "object")], 120, "NoPlan", true, [], [], false, none, false⟩), #[some (.ref 112), none, some (.str "NoPlan" 319), some (.str "NoPlan" 327), some (.builtin "ValueError.__new__"), some (.bool true)]⟩),
  (124, ⟨(.type "tuple"), none, (.seq #[(.ref 24)] 0), #[]⟩),
  (126, ⟨(.type "dict"), none, (.dict #[⟨(PyData.keyHash P "__module__"), (.str "__module__" 342), (.str "talejudge.errors" 187)⟩, ⟨(PyData.keyHash P "__qualname__"), (.str "__qualname__" 344), (.str "NoDealings" 343)⟩, ⟨(PyData.keyHash P "__firstlineno__"), (.str "__firstlineno__" 346), (.int (20) 345)⟩, ⟨(PyData.keyHash P "__static_attributes__"), (.str "__static_attributes__" 347), (.ref 131)⟩] 4), #[]⟩),
  (127, ⟨(.type "tuple"), none, (.seq #[] 0), #[]⟩),
  (129, ⟨(.type "code"), none, (.fields #[(.str "NoDealings" 337), (.str "NoDealings" 338), (.str "/claim/cut.py" 339), (.int (20) 0), (.int (0) 0), (.int (0) 0), (.int (0) 0), (.int (0) 0), (.ref 127), (.bool false), (.int (181) 0), (.ref 128), .none, .none, .none, .none, (.int (340) 0), (.int (20) 0), (.str "/claim/cut.py" 341)]), #[]⟩),
  (131, ⟨(.type "tuple"), none, (.seq #[] 0), #[]⟩),
  (132, ⟨(.type "dict"), none, (.dict #[⟨(PyData.keyHash P "__module__"), (.str "__module__" 342), (.str "talejudge.errors" 187)⟩, ⟨(PyData.keyHash P "__firstlineno__"), (.str "__firstlineno__" 346), (.int (20) 345)⟩, ⟨(PyData.keyHash P "__static_attributes__"), (.str "__static_attributes__" 347), (.ref 131)⟩, ⟨(PyData.keyHash P "__doc__"), (.str "__doc__" 348), .none⟩] 2), #[]⟩),
  (133, ⟨(.type "type"), none, (.cls ⟨"NoDealings", [(.ref 24)], [(.ref 133), (.ref 24), (.type "ValueError"), (.type "Exception"), (.type "BaseException"), (.type "object")], 132, "NoDealings", true, [], [], false, none, false⟩), #[some (.ref 124), none, some (.str "NoDealings" 335), some (.str "NoDealings" 343), some (.builtin "ValueError.__new__"), some (.bool true)]⟩),
  (136, ⟨(.type "tuple"), none, (.seq #[(.ref 24)] 0), #[]⟩),
  (138, ⟨(.type "dict"), none, (.dict #[⟨(PyData.keyHash P "__module__"), (.str "__module__" 358), (.str "talejudge.errors" 187)⟩, ⟨(PyData.keyHash P "__qualname__"), (.str "__qualname__" 360), (.str "NoRow" 359)⟩, ⟨(PyData.keyHash P "__firstlineno__"), (.str "__firstlineno__" 362), (.int (22) 361)⟩, ⟨(PyData.keyHash P "__static_attributes__"), (.str "__static_attributes__" 363), (.ref 143)⟩] 4), #[]⟩),
  (139, ⟨(.type "tuple"), none, (.seq #[] 0), #[]⟩),
  (141, ⟨(.type "code"), none, (.fields #[(.str "NoRow" 353), (.str "NoRow" 354), (.str "/claim/cut.py" 355), (.int (22) 0), (.int (0) 0), (.int (0) 0), (.int (0) 0), (.int (0) 0), (.ref 139), (.bool false), (.int (181) 0), (.ref 140), .none, .none, .none, .none, (.int (356) 0), (.int (22) 0), (.str "/claim/cut.py" 357)]), #[]⟩),
  (143, ⟨(.type "tuple"), none, (.seq #[] 0), #[]⟩),
  (144, ⟨(.type "dict"), none, (.dict #[⟨(PyData.keyHash P "__module__"), (.str "__module__" 358), (.str "talejudge.errors" 187)⟩, ⟨(PyData.keyHash P "__firstlineno__"), (.str "__firstlineno__" 362), (.int (22) 361)⟩, ⟨(PyData.keyHash P "__static_attributes__"), (.str "__static_attributes__" 363), (.ref 143)⟩, ⟨(PyData.keyHash P "__doc__"), (.str "__doc__" 364), .none⟩] 2), #[]⟩),
  (145, ⟨(.type "type"), none, (.cls ⟨"NoRow", [(.ref 24)], [(.ref 145), (.ref 24), (.type "ValueError"), (.type "Exception"), (.type "BaseException"), (.type "object")], 144, "NoRow", true, [], [], false, none, false⟩), #[some (.ref 136), none, some (.str "NoRow" 351), some (.str "NoRow" 359), some (.builtin "ValueError.__new__"), some (.bool true)]⟩),
  (148, ⟨(.type "tuple"), none, (.seq #[] 0), #[]⟩),
  (150, ⟨(.type "tuple"), none, (.seq #[(.str "tale" 372), (.str "told" 373), (.str "numbers" 374), (.str "place" 375), (.str "event" 376), (.str "number" 377), (.str "begun" 378)] 0), #[]⟩),
  (151, ⟨(.type "tuple"), none, (.seq #[] 0), #[]⟩),
  (153, ⟨(.type "code"), none, (.fields #[(.str "deeds" 369), (.str "deeds" 370), (.str "/claim/cut.py" 371), (.int (25) 0), (.int (1) 0), (.int (0) 0), (.int (0) 0), (.int (3) 0), (.ref 148), (.bool true), (.int (181) 0), (.ref 149), .none, (.ref 150), (.ref 151), (.ref 152), (.int (379) 0), (.int (25) 0), (.str "/claim/cut.py" 380)]), #[]⟩),
  (154, ⟨(.type "function"), none, (.func (PySem.W.fnOf "deeds" "deeds" (defArgs (top 13)) (defBody (top 13)) (defScope (top 13)) .none .none .none (.str "talejudge.tales" 367) none (.ref 153) .none)), #[]⟩),
  (155, ⟨(.type "tuple"), none, (.seq #[] 0), #[]⟩),
  (158, ⟨(.type "code"), none, (.fields #[(.str "part" 384), (.str "part" 385), (.str "/claim/cut.py" 386), (.int (38) 0), (.int (2) 0), (.int (0) 0), (.int (0) 0), (.int (3) 0), (.ref 155), (.bool true), (.int (181) 0), (.ref 156), .none, .none, .none, (.ref 157), (.int (387) 0), (.int (38) 0), (.str "/claim/cut.py" 388)]), #[]⟩),
  (159, ⟨(.type "function"), none, (.func (PySem.W.fnOf "part" "part" (defArgs (top 15)) (defBody (top 15)) (defScope (top 15)) .none .none .none (.str "talejudge.parts" 382) none (.ref 158) .none)), #[]⟩),
  (160, ⟨(.type "tuple"), none, (.seq #[] 0), #[]⟩),
  (162, ⟨(.type "tuple"), none, (.seq #[(.str "tale" 393), (.str "name" 394), (.str "thing" 395)] 0), #[]⟩),
  (163, ⟨(.type "tuple"), none, (.seq #[] 0), #[]⟩),
  (165, ⟨(.type "code"), none, (.fields #[(.str "thing_named" 390), (.str "thing_named" 391), (.str "/claim/cut.py" 392), (.int (45) 0), (.int (2) 0), (.int (0) 0), (.int (0) 0), (.int (3) 0), (.ref 160), (.bool true), (.int (181) 0), (.ref 161), .none, (.ref 162), (.ref 163), (.ref 164), (.int (396) 0), (.int (45) 0), (.str "/claim/cut.py" 397)]), #[]⟩),
  (166, ⟨(.type "function"), none, (.func (PySem.W.fnOf "thing_named" "thing_named" (defArgs (top 16)) (defBody (top 16)) (defScope (top 16)) .none .none .none (.str "talejudge.parts" 382) none (.ref 165) .none)), #[]⟩),
  (167, ⟨(.type "tuple"), none, (.seq #[] 0), #[]⟩),
  (170, ⟨(.type "code"), none, (.fields #[(.str "numbers_of" 399), (.str "numbers_of" 400), (.str "/claim/cut.py" 401), (.int (51) 0), (.int (2) 0), (.int (0) 0), (.int (0) 0), (.int (3) 0), (.ref 167), (.bool true), (.int (181) 0), (.ref 168), .none, .none, .none, (.ref 169), (.int (402) 0), (.int (51) 0), (.str "/claim/cut.py" 403)]), #[]⟩),
  (171, ⟨(.type "function"), none, (.func (PySem.W.fnOf "numbers_of" "numbers_of" (defArgs (top 17)) (defBody (top 17)) (defScope (top 17)) .none .none .none (.str "talejudge.parts" 382) none (.ref 170) .none)), #[]⟩),
  (172, ⟨(.type "tuple"), none, (.seq #[] 0), #[]⟩),
  (174, ⟨(.type "tuple"), none, (.seq #[(.str "script" 410), (.str "k" 411)] 0), #[]⟩),
  (175, ⟨(.type "tuple"), none, (.seq #[] 0), #[]⟩),
  (177, ⟨(.type "code"), none, (.fields #[(.str "_law_cell_at" 407), (.str "_law_cell_at" 408), (.str "/claim/cut.py" 409), (.int (55) 0), (.int (2) 0), (.int (0) 0), (.int (0) 0), (.int (3) 0), (.ref 172), (.bool true), (.int (181) 0), (.ref 173), .none, (.ref 174), (.ref 175), (.ref 176), (.int (412) 0), (.int (55) 0), (.str "/claim/cut.py" 413)]), #[]⟩),
  (178, ⟨(.type "function"), none, (.func (PySem.W.fnOf "_law_cell_at" "_law_cell_at" (defArgs (top 19)) (defBody (top 19)) (defScope (top 19)) .none .none .none (.str "law_talejudge_k64_parts_of_tales" 405) none (.ref 177) .none)), #[]⟩),
  (179, ⟨(.type "tuple"), none, (.seq #[] 0), #[]⟩),
  (181, ⟨(.type "tuple"), none, (.seq #[(.str "deck" 418), (.str "many" 419), (.str "told" 420), (.str "number" 421)] 0), #[]⟩),
  (182, ⟨(.type "tuple"), none, (.seq #[] 0), #[]⟩),
  (184, ⟨(.type "code"), none, (.fields #[(.str "_law_take" 415), (.str "_law_take" 416), (.str "/claim/cut.py" 417), (.int (59) 0), (.int (2) 0), (.int (0) 0), (.int (0) 0), (.int (3) 0), (.ref 179), (.bool true), (.int (181) 0), (.ref 180), .none, (.ref 181), (.ref 182), (.ref 183), (.int (422) 0), (.int (59) 0), (.str "/claim/cut.py" 423)]), #[]⟩),
  (185, ⟨(.type "function"), none, (.func (PySem.W.fnOf "_law_take" "_law_take" (defArgs (top 20)) (defBody (top 20)) (defScope (top 20)) .none .none .none (.str "law_talejudge_k64_parts_of_tales" 405) none (.ref 184) .none)), #[]⟩),
  (186, ⟨(.type "tuple"), none, (.seq #[] 0), #[]⟩),
  (189, ⟨(.type "code"), none, (.fields #[(.str "_law_do" 425), (.str "_law_do" 426), (.str "/claim/cut.py" 427), (.int (68) 0), (.int (4) 0), (.int (0) 0), (.int (0) 0), (.int (3) 0), (.ref 186), (.bool true), (.int (181) 0), (.ref 187), .none, .none, .none, (.ref 188), (.int (428) 0), (.int (68) 0), (.str "/claim/cut.py" 429)]), #[]⟩),
  (190, ⟨(.type "function"), none, (.func (PySem.W.fnOf "_law_do" "_law_do" (defArgs (top 21)) (defBody (top 21)) (defScope (top 21)) .none .none .none (.str "law_talejudge_k64_parts_of_tales" 405) none (.ref 189) .none)), #[]⟩),
  (191, ⟨(.type "tuple"), none, (.seq #[] 0), #[]⟩),
  (194, ⟨(.type "code"), none, (.fields #[(.str "_law_first" 431), (.str "_law_first" 432), (.str "/claim/cut.py" 433), (.int (91) 0), (.int (1) 0), (.int (0) 0), (.int (0) 0), (.int (3) 0), (.ref 191), (.bool true), (.int (181) 0), (.ref 192), .none, .none, .none, (.ref 193), (.int (434) 0), (.int (91) 0), (.str "/claim/cut.py" 435)]), #[]⟩),
  (195, ⟨(.type "function"), none, (.func (PySem.W.fnOf "_law_first" "_law_first" (defArgs (top 22)) (defBody (top 22)) (defScope (top 22)) .none .none .none (.str "law_talejudge_k64_parts_of_tales" 405) none (.ref 194) .none)), #[]⟩),
  (196, ⟨(.type "tuple"), none, (.seq #[] 0), #[]⟩),
  (198, ⟨(.type "tuple"), none, (.seq #[(.str "deck" 440)] 0), #[]⟩),
  (199, ⟨(.type "tuple"), none, (.seq #[] 0), #[]⟩),
  (201, ⟨(.type "code"), none, (.fields #[(.str "_law_worth" 437), (.str "_law_worth" 438), (.str "/claim/cut.py" 439), (.int (93) 0), (.int (1) 0), (.int (0) 0), (.int (0) 0), (.int (3) 0), (.ref 196), (.bool true), (.int (181) 0), (.ref 197), .none, (.ref 198), (.ref 199), (.ref 200), (.int (441) 0), (.int (93) 0), (.str "/claim/cut.py" 442)]), #[]⟩),
  (202, ⟨(.type "function"), none, (.func (PySem.W.fnOf "_law_worth" "_law_worth" (defArgs (top 23)) (defBody (top 23)) (defScope (top 23)) .none .none .none (.str "law_talejudge_k64_parts_of_tales" 405) none (.ref 201) .none)), #[]⟩),
  (203, ⟨(.type "tuple"), none, (.seq #[] 0), #[]⟩),
  (205, ⟨(.type "tuple"), none, (.seq #[(.str "deck" 447), (.str "kind" 448), (.str "some" 449), (.str "verb" 450)] 0), #[]⟩),
  (206, ⟨(.type "tuple"), none, (.seq #[] 0), #[]⟩),
  (208, ⟨(.type "code"), none, (.fields #[(.str "_law_verb" 444), (.str "_law_verb" 445), (.str "/claim/cut.py" 446), (.int (95) 0), (.int (2) 0), (.int (0) 0), (.int (0) 0), (.int (3) 0), (.ref 203), (.bool true), (.int (181) 0), (.ref 204), .none, (.ref 205), (.ref 206), (.ref 207), (.int (451) 0), (.int (95) 0), (.str "/claim/cut.py" 452)]), #[]⟩),
  (209, ⟨(.type "function"), none, (.func (PySem.W.fnOf "_law_verb" "_law_verb" (defArgs (top 24)) (defBody (top 24)) (defScope (top 24)) .none .none .none (.str "law_talejudge_k64_parts_of_tales" 405) none (.ref 208) .none)), #[]⟩),
  (210, ⟨(.type "tuple"), none, (.seq #[] 0), #[]⟩),
  (213, ⟨(.type "code"), none, (.fields #[(.str "_law_things" 454), (.str "_law_things" 455), (.str "/claim/cut.py" 456), (.int (105) 0), (.int (1) 0), (.int (0) 0), (.int (0) 0), (.int (3) 0), (.ref 210), (.bool true), (.int (181) 0), (.ref 211), .none, .none, .none, (.ref 212), (.int (457) 0), (.int (105) 0), (.str "/claim/cut.py" 458)]), #[]⟩),
  (214, ⟨(.type "function"), none, (.func (PySem.W.fnOf "_law_things" "_law_things" (defArgs (top 25)) (defBody (top 25)) (defScope (top 25)) .none .none .none (.str "law_talejudge_k64_parts_of_tales" 405) none (.ref 213) .none)), #[]⟩),
  (215, ⟨(.type "tuple"), none, (.seq #[] 0), #[]⟩),
  (218, ⟨(.type "code"), none, (.fields #[(.str "_law_applied" 460), (.str "_law_applied" 461), (.str "/claim/cut.py" 462), (.int (111) 0), (.int (3) 0), (.int (0) 0), (.int (0) 0), (.int (3) 0), (.ref 215), (.bool true), (.int (181) 0), (.ref 216), .none, .none, .none, (.ref 217), (.int (463) 0), (.int (111) 0), (.str "/claim/cut.py" 464)]), #[]⟩),
  (219, ⟨(.type "function"), none, (.func (PySem.W.fnOf "_law_applied" "_law_applied" (defArgs (top 26)) (defBody (top 26)) (defScope (top 26)) .none .none .none (.str "law_talejudge_k64_parts_of_tales" 405) none (.ref 218) .none)), #[]⟩),
  (220, ⟨(.type "tuple"), none, (.seq #[] 0), #[]⟩),
  (223, ⟨(.type "code"), none, (.fields #[(.str "_law_tale" 466), (.str "_law_tale" 467), (.str "/claim/cut.py" 468), (.int (116) 0), (.int (2) 0), (.int (0) 0), (.int (0) 0), (.int (3) 0), (.ref 220), (.bool true), (.int (181) 0), (.ref 221), .none, .none, .none, (.ref 222), (.int (469) 0), (.int (116) 0), (.str "/claim/cut.py" 470)]), #[]⟩),
  (224, ⟨(.type "function"), none, (.func (PySem.W.fnOf "_law_tale" "_law_tale" (defArgs (top 27)) (defBody (top 27)) (defScope (top 27)) .none .none .none (.str "law_talejudge_k64_parts_of_tales" 405) none (.ref 223) .none)), #[]⟩),
  (225, ⟨(.type "tuple"), none, (.seq #[] 0), #[]⟩),
  (227, ⟨(.type "tuple"), none, (.seq #[(.str "tale" 475), (.str "told" 476), (.str "last" 477), (.str "at" 478), (.str "event" 479)] 0), #[]⟩),
  (228, ⟨(.type "tuple"), none, (.seq #[] 0), #[]⟩),
  (230, ⟨(.type "code"), none, (.fields #[(.str "_law_deeds" 472), (.str "_law_deeds" 473), (.str "/claim/cut.py" 474), (.int (144) 0), (.int (1) 0), (.int (0) 0), (.int (0) 0), (.int (3) 0), (.ref 225), (.bool true), (.int (181) 0), (.ref 226), .none, (.ref 227), (.ref 228), (.ref 229), (.int (480) 0), (.int (144) 0), (.str "/claim/cut.py" 481)]), #[]⟩),
  (231, ⟨(.type "function"), none, (.func (PySem.W.fnOf "_law_deeds" "_law_deeds" (defArgs (top 28)) (defBody (top 28)) (defScope (top 28)) .none .none .none (.str "law_talejudge_k64_parts_of_tales" 405) none (.ref 230) .none)), #[]⟩),
  (232, ⟨(.type "tuple"), none, (.seq #[] 0), #[]⟩),
  (234, ⟨(.type "tuple"), none, (.seq #[(.str "strictness" 486), (.str "one" 487), (.str "other" 488)] 0), #[]⟩),
  (235, ⟨(.type "tuple"), none, (.seq #[] 0), #[]⟩),
  (239, ⟨(.type "tuple"), none, (.seq #[] 0), #[]⟩),
  (241, ⟨(.type "tuple"), none, (.seq #[(.str "some" 495), (.str "strictness" 496), (.str "done" 497), (.str "number" 498), (.str "other" 499)] 0), #[]⟩),
  (242, ⟨(.type "tuple"), none, (.seq #[] 0), #[]⟩),
  (246, ⟨(.type "tuple"), none, (.seq #[] 0), #[]⟩),
  (248, ⟨(.type "tuple"), none, (.seq #[(.str "tale" 506), (.str "some" 507), (.str "strictness" 508), (.str "place" 509), (.str "told" 510), (.str "done" 511), (.str "states" 512), (.str "number" 513), (.str "own" 514), (.str "behind" 515)] 0), #[]⟩),
  (249, ⟨(.type "tuple"), none, (.seq #[] 0), #[]⟩),
  (253, ⟨(.type "tuple"), none, (.seq #[] 0), #[]⟩),
  (258, ⟨(.type "tuple"), none, (.seq #[] 0), #[]⟩),
  (260, ⟨(.type "tuple"), none, (.seq #[(.str "tale" 528), (.str "strictness" 529), (.str "some" 530), (.str "first" 531), (.str "told" 532), (.str "pile" 533), (.str "number" 534), (.str "answer" 535), (.str "place" 536)] 0), #[]⟩),
  (261, ⟨(.type "tuple"), none, (.seq #[] 0), #[]⟩),
  (265, ⟨(.type "tuple"), none, (.seq #[] 0), #[]⟩),
  (270, ⟨(.type "tuple"), none, (.seq #[] 0), #[]⟩),
  (273, ⟨(.type "code"), none, (.fields #[(.str "_law_part" 546), (.str "_law_part" 547), (.str "/claim/cut.py" 548), (.int (193) 0), (.int (2) 0), (.int (0) 0), (.int (0) 0), (.int (3) 0), (.ref 270), (.bool true), (.int (181) 0), (.ref 271), .none, .none, .none, (.ref 272), (.int (549) 0), (.int (193) 0), (.str "/claim/cut.py" 550)]), #[]⟩),
  (274, ⟨(.type "function"), none, (.func (PySem.W.fnOf "_law_part" "_law_part" (defArgs (top 35)) (defBody (top 35)) (defScope (top 35)) .none .none .none (.str "law_talejudge_k64_parts_of_tales" 405) none (.ref 273) .none)), #[]⟩),
  (275, ⟨(.type "tuple"), none, (.seq #[] 0), #[]⟩),
  (277, ⟨(.type "tuple"), none, (.seq #[(.str "turn" 555), (.str "tale" 556), (.str "name" 557), (.str "kinds" 558), (.str "e" 559), (.str "others" 560)] 0), #[]⟩),
  (278, ⟨(.type "tuple"), none, (.seq #[] 0), #[]⟩),
  (280, ⟨(.type "code"), none, (.fields #[(.str "_law_caught" 552), (.str "_law_caught" 553), (.str "/claim/cut.py" 554), (.int (202) 0), (.int (3) 0), (.int (0) 0), (.int (0) 0), (.int (3) 0), (.ref 275), (.bool true), (.int (181) 0), (.ref 276), .none, (.ref 277), (.ref 278), (.ref 279), (.int (561) 0), (.int (202) 0), (.str "/claim/cut.py" 562)]), #[]⟩),
  (281, ⟨(.type "function"), none, (.func (PySem.W.fnOf "_law_caught" "_law_caught" (defArgs (top 36)) (defBody (top 36)) (defScope (top 36)) .none .none .none (.str "law_talejudge_k64_parts_of_tales" 405) none (.ref 280) .none)), #[]⟩),
  (282, ⟨(.type "tuple"), none, (.seq #[] 0), #[]⟩),
  (285, ⟨(.type "code"), none, (.fields #[(.str "_law_told" 564), (.str "_law_told" 565), (.str "/claim/cut.py" 566), (.int (214) 0), (.int (2) 0), (.int (0) 0), (.int (0) 0), (.int (3) 0), (.ref 282), (.bool true), (.int (181) 0), (.ref 283), .none, .none, .none, (.ref 284), (.int (567) 0), (.int (214) 0), (.str "/claim/cut.py" 568)]), #[]⟩),
  (286, ⟨(.type "function"), none, (.func (PySem.W.fnOf "_law_told" "_law_told" (defArgs (top 37)) (defBody (top 37)) (defScope (top 37)) .none .none .none (.str "law_talejudge_k64_parts_of_tales" 405) none (.ref 285) .none)), #[]⟩),
  (287, ⟨(.type "tuple"), none, (.seq #[] 0), #[]⟩),
  (290, ⟨(.type "code"), none, (.fields #[(.str "law" 570), (.str "law" 571), (.str "/claim/cut.py" 572), (.int (225) 0), (.int (1) 0), (.int (0) 0), (.int (0) 0), (.int (3) 0), (.ref 287), (.bool true), (.int (181) 0), (.ref 288), .none, .none, .none, (.ref 289), (.int (573) 0), (.int (225) 0), (.str "/claim/cut.py" 574)]), #[]⟩),
  (291, ⟨(.type "function"), none, (.func (PySem.W.fnOf "law" "law" (defArgs (top 38)) (defBody (top 38)) (defScope (top 38)) .none .none .none (.str "law_talejudge_k64_parts_of_tales" 405) none (.ref 290) .none)), #[]⟩)]
noncomputable def HX : Hook := kHook KX asX (fun _ => by kernel_rfl)
noncomputable abbrev XtX : Shared → Bool := fun s => xlAt viewX [] s && recOk (RowW.records (OpenRow.toRowW PySem.Challenge.rw_talejudge_k64_parts_of_tales.row)) s
theorem look1 (w : World) (os : OsState) : (staticsOk (importedModules PX.main.body) (boot_heap w.params) (S3X w os).abs.heap && namesBound PX (S3X w os).abs.heap && gensDone (S3X w os).abs && laidKept (boot_heap w.params) (S3X w os).abs.heap) = true := by kernel_rfl
theorem look2 (w : World) (os : OsState) : openSeen viewX looseX (importedModules PX.main.body) XtX true (S3X w os).abs = openGood viewX looseX := by
  rw [PySem.W.Fast.te4187177175401517315]
  kernel_rfl
theorem look3 (w : World) (os : OsState) : Hook.obs HX (S3X w os).abs = Hook.val HX w := by kernel_rfl
theorem leftX : LeftO PX viewX looseX XtX (Hook.obs HX) (Hook.val HX) 200000 :=
  leftO_by (H₀ := boot_heap) (gs₀ := Array.mk []) (boot_open (by kernel_rfl) (by decide) (fun s => rfl)) (fun w => by kernel_rfl) runX_all look1 look2 look3
end K64
set_option Elab.async false
set_option linter.all false
set_option maxRecDepth 100000
set_option maxHeartbeats 4000000
namespace K64
open PySem PySem.Spec PyProof.Rows TJ L2
theorem n_isinstance (P : Params) : PySem.W.nsIn (KX P) mainGlobals "isinstance" = some none := by kernel_rfl
theorem n_len (P : Params) : PySem.W.nsIn (KX P) mainGlobals "len" = some none := by kernel_rfl
theorem n_max (P : Params) : PySem.W.nsIn (KX P) mainGlobals "max" = some none := by kernel_rfl
theorem n_min (P : Params) : PySem.W.nsIn (KX P) mainGlobals "min" = some none := by kernel_rfl
theorem n_int (P : Params) : PySem.W.nsIn (KX P) mainGlobals "int" = some none := by kernel_rfl
theorem n_str (P : Params) : PySem.W.nsIn (KX P) mainGlobals "str" = some none := by kernel_rfl
theorem n_bool (P : Params) : PySem.W.nsIn (KX P) mainGlobals "bool" = some none := by kernel_rfl
theorem n_tuple (P : Params) : PySem.W.nsIn (KX P) mainGlobals "tuple" = some none := by kernel_rfl
theorem n_list (P : Params) : PySem.W.nsIn (KX P) mainGlobals "list" = some none := by kernel_rfl
theorem n_range (P : Params) : PySem.W.nsIn (KX P) mainGlobals "range" = some none := by kernel_rfl
theorem n_sorted (P : Params) : PySem.W.nsIn (KX P) mainGlobals "sorted" = some none := by kernel_rfl
theorem n_sum (P : Params) : PySem.W.nsIn (KX P) mainGlobals "sum" = some none := by kernel_rfl
theorem n_enumerate (P : Params) : PySem.W.nsIn (KX P) mainGlobals "enumerate" = some none := by kernel_rfl
theorem g_TaleError (P : Params) : PySem.W.nsIn (KX P) mainGlobals "TaleError" = some (some (.ref 24)) := by kernel_rfl
theorem g_NoDeed (P : Params) : PySem.W.nsIn (KX P) mainGlobals "NoDeed" = some (some (.ref 37)) := by kernel_rfl
theorem g_NoTale (P : Params) : PySem.W.nsIn (KX P) mainGlobals "NoTale" = some (some (.ref 49)) := by kernel_rfl
theorem g_NoStrictness (P : Params) : PySem.W.nsIn (KX P) mainGlobals "NoStrictness" = some (some (.ref 61)) := by kernel_rfl
theorem g_NoThing (P : Params) : PySem.W.nsIn (KX P) mainGlobals "NoThing" = some (some (.ref 73)) := by kernel_rfl
theorem g_NoOrder (P : Params) : PySem.W.nsIn (KX P) mainGlobals "NoOrder" = some (some (.ref 85)) := by kernel_rfl
theorem g_NoHand (P : Params) : PySem.W.nsIn (KX P) mainGlobals "NoHand" = some (some (.ref 97)) := by kernel_rfl
theorem g_NotPlain (P : Params) : PySem.W.nsIn (KX P) mainGlobals "NotPlain" = some (some (.ref 109)) := by kernel_rfl
theorem g_NoPlan (P : Params) : PySem.W.nsIn (KX P) mainGlobals "NoPlan" = some (some (.ref 121)) := by kernel_rfl
theorem g_NoDealings (P : Params) : PySem.W.nsIn (KX P) mainGlobals "NoDealings" = some (some (.ref 133)) := by kernel_rfl
theorem g_NoRow (P : Params) : PySem.W.nsIn (KX P) mainGlobals "NoRow" = some (some (.ref 145)) := by kernel_rfl
theorem g_deeds (P : Params) : PySem.W.nsIn (KX P) mainGlobals "deeds" = some (some (.ref 154)) := by kernel_rfl
theorem g_part (P : Params) : PySem.W.nsIn (KX P) mainGlobals "part" = some (some (.ref 159)) := by kernel_rfl
theorem g_thing_named (P : Params) : PySem.W.nsIn (KX P) mainGlobals "thing_named" = some (some (.ref 166)) := by kernel_rfl
theorem g_numbers_of (P : Params) : PySem.W.nsIn (KX P) mainGlobals "numbers_of" = some (some (.ref 171)) := by kernel_rfl
theorem g__law_cell_at (P : Params) : PySem.W.nsIn (KX P) mainGlobals "_law_cell_at" = some (some (.ref 178)) := by kernel_rfl
theorem g__law_take (P : Params) : PySem.W.nsIn (KX P) mainGlobals "_law_take" = some (some (.ref 185)) := by kernel_rfl
theorem g__law_do (P : Params) : PySem.W.nsIn (KX P) mainGlobals "_law_do" = some (some (.ref 190)) := by kernel_rfl
theorem g__law_first (P : Params) : PySem.W.nsIn (KX P) mainGlobals "_law_first" = some (some (.ref 195)) := by kernel_rfl
theorem g__law_worth (P : Params) : PySem.W.nsIn (KX P) mainGlobals "_law_worth" = some (some (.ref 202)) := by kernel_rfl
theorem g__law_verb (P : Params) : PySem.W.nsIn (KX P) mainGlobals "_law_verb" = some (some (.ref 209)) := by kernel_rfl
theorem g__law_things (P : Params) : PySem.W.nsIn (KX P) mainGlobals "_law_things" = some (some (.ref 214)) := by kernel_rfl
theorem g__law_applied (P : Params) : PySem.W.nsIn (KX P) mainGlobals "_law_applied" = some (some (.ref 219)) := by kernel_rfl
theorem g__law_tale (P : Params) : PySem.W.nsIn (KX P) mainGlobals "_law_tale" = some (some (.ref 224)) := by kernel_rfl
theorem g__law_deeds (P : Params) : PySem.W.nsIn (KX P) mainGlobals "_law_deeds" = some (some (.ref 231)) := by kernel_rfl
theorem g__law_part (P : Params) : PySem.W.nsIn (KX P) mainGlobals "_law_part" = some (some (.ref 274)) := by kernel_rfl
theorem g__law_caught (P : Params) : PySem.W.nsIn (KX P) mainGlobals "_law_caught" = some (some (.ref 281)) := by kernel_rfl
theorem g__law_told (P : Params) : PySem.W.nsIn (KX P) mainGlobals "_law_told" = some (some (.ref 286)) := by kernel_rfl
theorem g_law (P : Params) : PySem.W.nsIn (KX P) mainGlobals "law" = some (some (.ref 291)) := by kernel_rfl
theorem x_NoThing (P : Params) : PySem.W.excIn (KX P) 73 [.type "ValueError", .type "Exception", .type "BaseException", .type "object"] "ValueError.__new__" = true := by kernel_rfl
theorem xc_NoThing (P : Params) : excCls (KX P) 73 = true := by kernel_rfl
noncomputable abbrev st_deeds : Stmt := top 13
noncomputable abbrev fd_deeds : FuncData := PySem.W.fnOf "deeds" "deeds" (defArgs (top 13)) (defBody (top 13)) (defScope (top 13)) .none .none .none (.str "talejudge.tales" 367) none (.ref 153) .none
theorem F_deeds (P : Params) : Fun (KX P) "deeds" "deeds" st_deeds 154 fd_deeds := fun_mk (oc := .type "function") (od := none) (osl := #[]) (by kernel_rfl) (by kernel_rfl) (by kernel_rfl)
theorem b_deeds (P : Params) : Binds (KX P) fd_deeds ["tale"] [] := (F_deeds P).binds fun _ _ _ _ _ _ us hl => match us, hl with | [_], _ => rfl
theorem sc_deeds : FnScope ["tale", "told", "numbers", "place", "event", "number", "begun"] ["tale"] (defScope st_deeds) := ⟨rfl, rfl, rfl, by decide +kernel, rfl, by decide +kernel, by decide +kernel⟩
theorem cal_deeds {P : Program} {w : World} {mg : Str → Option Value} {base : Heap} {k : Nat} {sp : Sp} (T : TX (KX w.params) mg) (G : FnOk P w (KX w.params) mg base CX0 k 154 fd_deeds ["tale"] sp) : Cal P w (KX w.params) mg base "deeds" ["tale"] k sp := ⟨⟨_, _, G, T.of (g_deeds _), by kernel_rfl, b_deeds _⟩⟩
noncomputable abbrev st_part : Stmt := top 15
noncomputable abbrev fd_part : FuncData := PySem.W.fnOf "part" "part" (defArgs (top 15)) (defBody (top 15)) (defScope (top 15)) .none .none .none (.str "talejudge.parts" 382) none (.ref 158) .none
theorem F_part (P : Params) : Fun (KX P) "part" "part" st_part 159 fd_part := fun_mk (oc := .type "function") (od := none) (osl := #[]) (by kernel_rfl) (by kernel_rfl) (by kernel_rfl)
theorem b_part (P : Params) : Binds (KX P) fd_part ["tale", "name"] [] := (F_part P).binds fun _ _ _ _ _ _ us hl => match us, hl with | [_, _], _ => rfl
theorem sc_part : FnScope ["tale", "name", "thing", "places", "deed"] ["tale", "name"] (defScope st_part) := ⟨rfl, rfl, rfl, by decide +kernel, rfl, by decide +kernel, by decide +kernel⟩
theorem calE_part {P : Program} {w : World} {mg : Str → Option Value} {base : Heap} {k : Nat} {sp : Sp} (T : TX (KX w.params) mg) (G : FnOk P w (KX w.params) mg base (CXE P w base) k 159 fd_part ["tale", "name"] sp) : CalE P w (KX w.params) mg base "part" ["tale", "name"] k sp := ⟨⟨_, _, G, T.of (g_part _), by kernel_rfl, b_part _⟩⟩
noncomputable abbrev st_thing_named : Stmt := top 16
noncomputable abbrev fd_thing_named : FuncData := PySem.W.fnOf "thing_named" "thing_named" (defArgs (top 16)) (defBody (top 16)) (defScope (top 16)) .none .none .none (.str "talejudge.parts" 382) none (.ref 165) .none
theorem F_thing_named (P : Params) : Fun (KX P) "thing_named" "thing_named" st_thing_named 166 fd_thing_named := fun_mk (oc := .type "function") (od := none) (osl := #[]) (by kernel_rfl) (by kernel_rfl) (by kernel_rfl)
theorem b_thing_named (P : Params) : Binds (KX P) fd_thing_named ["tale", "name"] [] := (F_thing_named P).binds fun _ _ _ _ _ _ us hl => match us, hl with | [_, _], _ => rfl
theorem sc_thing_named : FnScope ["tale", "name", "thing"] ["tale", "name"] (defScope st_thing_named) := ⟨rfl, rfl, rfl, by decide +kernel, rfl, by decide +kernel, by decide +kernel⟩
theorem calE_thing_named {P : Program} {w : World} {mg : Str → Option Value} {base : Heap} {k : Nat} {sp : Sp} (T : TX (KX w.params) mg) (G : FnOk P w (KX w.params) mg base (CXE P w base) k 166 fd_thing_named ["tale", "name"] sp) : CalE P w (KX w.params) mg base "thing_named" ["tale", "name"] k sp := ⟨⟨_, _, G, T.of (g_thing_named _), by kernel_rfl, b_thing_named _⟩⟩
noncomputable abbrev st_numbers_of : Stmt := top 17
noncomputable abbrev fd_numbers_of : FuncData := PySem.W.fnOf "numbers_of" "numbers_of" (defArgs (top 17)) (defBody (top 17)) (defScope (top 17)) .none .none .none (.str "talejudge.parts" 382) none (.ref 170) .none
theorem F_numbers_of (P : Params) : Fun (KX P) "numbers_of" "numbers_of" st_numbers_of 171 fd_numbers_of := fun_mk (oc := .type "function") (od := none) (osl := #[]) (by kernel_rfl) (by kernel_rfl) (by kernel_rfl)
theorem b_numbers_of (P : Params) : Binds (KX P) fd_numbers_of ["tale", "name"] [] := (F_numbers_of P).binds fun _ _ _ _ _ _ us hl => match us, hl with | [_, _], _ => rfl
theorem sc_numbers_of : FnScope ["tale", "name", "thing"] ["tale", "name"] (defScope st_numbers_of) := ⟨rfl, rfl, rfl, by decide +kernel, rfl, by decide +kernel, by decide +kernel⟩
theorem calE_numbers_of {P : Program} {w : World} {mg : Str → Option Value} {base : Heap} {k : Nat} {sp : Sp} (T : TX (KX w.params) mg) (G : FnOk P w (KX w.params) mg base (CXE P w base) k 171 fd_numbers_of ["tale", "name"] sp) : CalE P w (KX w.params) mg base "numbers_of" ["tale", "name"] k sp := ⟨⟨_, _, G, T.of (g_numbers_of _), by kernel_rfl, b_numbers_of _⟩⟩
noncomputable abbrev st__law_cell_at : Stmt := top 19
noncomputable abbrev fd__law_cell_at : FuncData := PySem.W.fnOf "_law_cell_at" "_law_cell_at" (defArgs (top 19)) (defBody (top 19)) (defScope (top 19)) .none .none .none (.str "law_talejudge_k64_parts_of_tales" 405) none (.ref 177) .none
theorem F__law_cell_at (P : Params) : Fun (KX P) "_law_cell_at" "_law_cell_at" st__law_cell_at 178 fd__law_cell_at := fun_mk (oc := .type "function") (od := none) (osl := #[]) (by kernel_rfl) (by kernel_rfl) (by kernel_rfl)
theorem b__law_cell_at (P : Params) : Binds (KX P) fd__law_cell_at ["script", "k"] [] := (F__law_cell_at P).binds fun _ _ _ _ _ _ us hl => match us, hl with | [_, _], _ => rfl
theorem sc__law_cell_at : FnScope ["script", "k"] ["script", "k"] (defScope st__law_cell_at) := ⟨rfl, rfl, rfl, by decide +kernel, rfl, by decide +kernel, by decide +kernel⟩
theorem cal__law_cell_at {P : Program} {w : World} {mg : Str → Option Value} {base : Heap} {k : Nat} {sp : Sp} (T : TX (KX w.params) mg) (G : FnOk P w (KX w.params) mg base CX0 k 178 fd__law_cell_at ["script", "k"] sp) : Cal P w (KX w.params) mg base "_law_cell_at" ["script", "k"] k sp := ⟨⟨_, _, G, T.of (g__law_cell_at _), by kernel_rfl, b__law_cell_at _⟩⟩
noncomputable abbrev st__law_take : Stmt := top 20
noncomputable abbrev fd__law_take : FuncData := PySem.W.fnOf "_law_take" "_law_take" (defArgs (top 20)) (defBody (top 20)) (defScope (top 20)) .none .none .none (.str "law_talejudge_k64_parts_of_tales" 405) none (.ref 184) .none
theorem F__law_take (P : Params) : Fun (KX P) "_law_take" "_law_take" st__law_take 185 fd__law_take := fun_mk (oc := .type "function") (od := none) (osl := #[]) (by kernel_rfl) (by kernel_rfl) (by kernel_rfl)
theorem b__law_take (P : Params) : Binds (KX P) fd__law_take ["deck", "many"] [] := (F__law_take P).binds fun _ _ _ _ _ _ us hl => match us, hl with | [_, _], _ => rfl
theorem sc__law_take : FnScope ["deck", "many", "told", "number"] ["deck", "many"] (defScope st__law_take) := ⟨rfl, rfl, rfl, by decide +kernel, rfl, by decide +kernel, by decide +kernel⟩
theorem cal__law_take {P : Program} {w : World} {mg : Str → Option Value} {base : Heap} {k : Nat} {sp : Sp} (T : TX (KX w.params) mg) (G : FnOk P w (KX w.params) mg base CX0 k 185 fd__law_take ["deck", "many"] sp) : Cal P w (KX w.params) mg base "_law_take" ["deck", "many"] k sp := ⟨⟨_, _, G, T.of (g__law_take _), by kernel_rfl, b__law_take _⟩⟩
noncomputable abbrev st__law_do : Stmt := top 21
noncomputable abbrev fd__law_do : FuncData := PySem.W.fnOf "_law_do" "_law_do" (defArgs (top 21)) (defBody (top 21)) (defScope (top 21)) .none .none .none (.str "law_talejudge_k64_parts_of_tales" 405) none (.ref 189) .none
theorem F__law_do (P : Params) : Fun (KX P) "_law_do" "_law_do" st__law_do 190 fd__law_do := fun_mk (oc := .type "function") (od := none) (osl := #[]) (by kernel_rfl) (by kernel_rfl) (by kernel_rfl)
theorem b__law_do (P : Params) : Binds (KX P) fd__law_do ["kind", "state", "verb", "worth"] [] := (F__law_do P).binds fun _ _ _ _ _ _ us hl => match us, hl with | [_, _, _, _], _ => rfl
theorem sc__law_do : FnScope ["kind", "state", "verb", "worth", "there"] ["kind", "state", "verb", "worth"] (defScope st__law_do) := ⟨rfl, rfl, rfl, by decide +kernel, rfl, by decide +kernel, by decide +kernel⟩
theorem cal__law_do {P : Program} {w : World} {mg : Str → Option Value} {base : Heap} {k : Nat} {sp : Sp} (T : TX (KX w.params) mg) (G : FnOk P w (KX w.params) mg base CX0 k 190 fd__law_do ["kind", "state", "verb", "worth"] sp) : Cal P w (KX w.params) mg base "_law_do" ["kind", "state", "verb", "worth"] k sp := ⟨⟨_, _, G, T.of (g__law_do _), by kernel_rfl, b__law_do _⟩⟩
noncomputable abbrev st__law_first : Stmt := top 22
noncomputable abbrev fd__law_first : FuncData := PySem.W.fnOf "_law_first" "_law_first" (defArgs (top 22)) (defBody (top 22)) (defScope (top 22)) .none .none .none (.str "law_talejudge_k64_parts_of_tales" 405) none (.ref 194) .none
theorem F__law_first (P : Params) : Fun (KX P) "_law_first" "_law_first" st__law_first 195 fd__law_first := fun_mk (oc := .type "function") (od := none) (osl := #[]) (by kernel_rfl) (by kernel_rfl) (by kernel_rfl)
theorem b__law_first (P : Params) : Binds (KX P) fd__law_first ["things"] [] := (F__law_first P).binds fun _ _ _ _ _ _ us hl => match us, hl with | [_], _ => rfl
theorem sc__law_first : FnScope ["things"] ["things"] (defScope st__law_first) := ⟨rfl, rfl, rfl, by decide +kernel, rfl, by decide +kernel, by decide +kernel⟩
theorem cal__law_first {P : Program} {w : World} {mg : Str → Option Value} {base : Heap} {k : Nat} {sp : Sp} (T : TX (KX w.params) mg) (G : FnOk P w (KX w.params) mg base CX0 k 195 fd__law_first ["things"] sp) : Cal P w (KX w.params) mg base "_law_first" ["things"] k sp := ⟨⟨_, _, G, T.of (g__law_first _), by kernel_rfl, b__law_first _⟩⟩
noncomputable abbrev st__law_worth : Stmt := top 23
noncomputable abbrev fd__law_worth : FuncData := PySem.W.fnOf "_law_worth" "_law_worth" (defArgs (top 23)) (defBody (top 23)) (defScope (top 23)) .none .none .none (.str "law_talejudge_k64_parts_of_tales" 405) none (.ref 201) .none
theorem F__law_worth (P : Params) : Fun (KX P) "_law_worth" "_law_worth" st__law_worth 202 fd__law_worth := fun_mk (oc := .type "function") (od := none) (osl := #[]) (by kernel_rfl) (by kernel_rfl) (by kernel_rfl)
theorem b__law_worth (P : Params) : Binds (KX P) fd__law_worth ["deck"] [] := (F__law_worth P).binds fun _ _ _ _ _ _ us hl => match us, hl with | [_], _ => rfl
theorem sc__law_worth : FnScope ["deck"] ["deck"] (defScope st__law_worth) := ⟨rfl, rfl, rfl, by decide +kernel, rfl, by decide +kernel, by decide +kernel⟩
theorem cal__law_worth {P : Program} {w : World} {mg : Str → Option Value} {base : Heap} {k : Nat} {sp : Sp} (T : TX (KX w.params) mg) (G : FnOk P w (KX w.params) mg base CX0 k 202 fd__law_worth ["deck"] sp) : Cal P w (KX w.params) mg base "_law_worth" ["deck"] k sp := ⟨⟨_, _, G, T.of (g__law_worth _), by kernel_rfl, b__law_worth _⟩⟩
noncomputable abbrev st__law_verb : Stmt := top 24
noncomputable abbrev fd__law_verb : FuncData := PySem.W.fnOf "_law_verb" "_law_verb" (defArgs (top 24)) (defBody (top 24)) (defScope (top 24)) .none .none .none (.str "law_talejudge_k64_parts_of_tales" 405) none (.ref 208) .none
theorem F__law_verb (P : Params) : Fun (KX P) "_law_verb" "_law_verb" st__law_verb 209 fd__law_verb := fun_mk (oc := .type "function") (od := none) (osl := #[]) (by kernel_rfl) (by kernel_rfl) (by kernel_rfl)
theorem b__law_verb (P : Params) : Binds (KX P) fd__law_verb ["deck", "kind"] [] := (F__law_verb P).binds fun _ _ _ _ _ _ us hl => match us, hl with | [_, _], _ => rfl
theorem sc__law_verb : FnScope ["deck", "kind", "some", "verb"] ["deck", "kind"] (defScope st__law_verb) := ⟨rfl, rfl, rfl, by decide +kernel, rfl, by decide +kernel, by decide +kernel⟩
theorem cal__law_verb {P : Program} {w : World} {mg : Str → Option Value} {base : Heap} {k : Nat} {sp : Sp} (T : TX (KX w.params) mg) (G : FnOk P w (KX w.params) mg base CX0 k 209 fd__law_verb ["deck", "kind"] sp) : Cal P w (KX w.params) mg base "_law_verb" ["deck", "kind"] k sp := ⟨⟨_, _, G, T.of (g__law_verb _), by kernel_rfl, b__law_verb _⟩⟩
noncomputable abbrev st__law_things : Stmt := top 25
noncomputable abbrev fd__law_things : FuncData := PySem.W.fnOf "_law_things" "_law_things" (defArgs (top 25)) (defBody (top 25)) (defScope (top 25)) .none .none .none (.str "law_talejudge_k64_parts_of_tales" 405) none (.ref 213) .none
theorem F__law_things (P : Params) : Fun (KX P) "_law_things" "_law_things" st__law_things 214 fd__law_things := fun_mk (oc := .type "function") (od := none) (osl := #[]) (by kernel_rfl) (by kernel_rfl) (by kernel_rfl)
theorem b__law_things (P : Params) : Binds (KX P) fd__law_things ["deck"] [] := (F__law_things P).binds fun _ _ _ _ _ _ us hl => match us, hl with | [_], _ => rfl
theorem sc__law_things : FnScope ["deck", "words", "told", "k"] ["deck"] (defScope st__law_things) := ⟨rfl, rfl, rfl, by decide +kernel, rfl, by decide +kernel, by decide +kernel⟩
theorem cal__law_things {P : Program} {w : World} {mg : Str → Option Value} {base : Heap} {k : Nat} {sp : Sp} (T : TX (KX w.params) mg) (G : FnOk P w (KX w.params) mg base CX0 k 214 fd__law_things ["deck"] sp) : Cal P w (KX w.params) mg base "_law_things" ["deck"] k sp := ⟨⟨_, _, G, T.of (g__law_things _), by kernel_rfl, b__law_things _⟩⟩
noncomputable abbrev st__law_applied : Stmt := top 26
noncomputable abbrev fd__law_applied : FuncData := PySem.W.fnOf "_law_applied" "_law_applied" (defArgs (top 26)) (defBody (top 26)) (defScope (top 26)) .none .none .none (.str "law_talejudge_k64_parts_of_tales" 405) none (.ref 218) .none
theorem F__law_applied (P : Params) : Fun (KX P) "_law_applied" "_law_applied" st__law_applied 219 fd__law_applied := fun_mk (oc := .type "function") (od := none) (osl := #[]) (by kernel_rfl) (by kernel_rfl) (by kernel_rfl)
theorem b__law_applied (P : Params) : Binds (KX P) fd__law_applied ["things", "states", "own"] [] := (F__law_applied P).binds fun _ _ _ _ _ _ us hl => match us, hl with | [_, _, _], _ => rfl
theorem sc__law_applied : FnScope ["things", "states", "own", "at", "state", "answer"] ["things", "states", "own"] (defScope st__law_applied) := ⟨rfl, rfl, rfl, by decide +kernel, rfl, by decide +kernel, by decide +kernel⟩
theorem cal__law_applied {P : Program} {w : World} {mg : Str → Option Value} {base : Heap} {k : Nat} {sp : Sp} (T : TX (KX w.params) mg) (G : FnOk P w (KX w.params) mg base CX0 k 219 fd__law_applied ["things", "states", "own"] sp) : Cal P w (KX w.params) mg base "_law_applied" ["things", "states", "own"] k sp := ⟨⟨_, _, G, T.of (g__law_applied _), by kernel_rfl, b__law_applied _⟩⟩
noncomputable abbrev st__law_tale : Stmt := top 27
noncomputable abbrev fd__law_tale : FuncData := PySem.W.fnOf "_law_tale" "_law_tale" (defArgs (top 27)) (defBody (top 27)) (defScope (top 27)) .none .none .none (.str "law_talejudge_k64_parts_of_tales" 405) none (.ref 223) .none
theorem F__law_tale (P : Params) : Fun (KX P) "_law_tale" "_law_tale" st__law_tale 224 fd__law_tale := fun_mk (oc := .type "function") (od := none) (osl := #[]) (by kernel_rfl) (by kernel_rfl) (by kernel_rfl)
theorem b__law_tale (P : Params) : Binds (KX P) fd__law_tale ["script", "most"] [] := (F__law_tale P).binds fun _ _ _ _ _ _ us hl => match us, hl with | [_, _], _ => rfl
theorem sc__law_tale : FnScope ["script", "most", "way", "deck", "things", "hands", "spoil", "states", "events", "under_way", "k", "hand", "own", "answer", "name", "kind", "verb", "worth"] ["script", "most"] (defScope st__law_tale) := ⟨rfl, rfl, rfl, by decide +kernel, rfl, by decide +kernel, by decide +kernel⟩
theorem cal__law_tale {P : Program} {w : World} {mg : Str → Option Value} {base : Heap} {k : Nat} {sp : Sp} (T : TX (KX w.params) mg) (G : FnOk P w (KX w.params) mg base CX0 k 224 fd__law_tale ["script", "most"] sp) : Cal P w (KX w.params) mg base "_law_tale" ["script", "most"] k sp := ⟨⟨_, _, G, T.of (g__law_tale _), by kernel_rfl, b__law_tale _⟩⟩
noncomputable abbrev st__law_deeds : Stmt := top 28
noncomputable abbrev fd__law_deeds : FuncData := PySem.W.fnOf "_law_deeds" "_law_deeds" (defArgs (top 28)) (defBody (top 28)) (defScope (top 28)) .none .none .none (.str "law_talejudge_k64_parts_of_tales" 405) none (.ref 230) .none
theorem F__law_deeds (P : Params) : Fun (KX P) "_law_deeds" "_law_deeds" st__law_deeds 231 fd__law_deeds := fun_mk (oc := .type "function") (od := none) (osl := #[]) (by kernel_rfl) (by kernel_rfl) (by kernel_rfl)
theorem b__law_deeds (P : Params) : Binds (KX P) fd__law_deeds ["tale"] [] := (F__law_deeds P).binds fun _ _ _ _ _ _ us hl => match us, hl with | [_], _ => rfl
theorem sc__law_deeds : FnScope ["tale", "told", "last", "at", "event"] ["tale"] (defScope st__law_deeds) := ⟨rfl, rfl, rfl, by decide +kernel, rfl, by decide +kernel, by decide +kernel⟩
theorem cal__law_deeds {P : Program} {w : World} {mg : Str → Option Value} {base : Heap} {k : Nat} {sp : Sp} (T : TX (KX w.params) mg) (G : FnOk P w (KX w.params) mg base CX0 k 231 fd__law_deeds ["tale"] sp) : Cal P w (KX w.params) mg base "_law_deeds" ["tale"] k sp := ⟨⟨_, _, G, T.of (g__law_deeds _), by kernel_rfl, b__law_deeds _⟩⟩
noncomputable abbrev st__law_part : Stmt := top 35
noncomputable abbrev fd__law_part : FuncData := PySem.W.fnOf "_law_part" "_law_part" (defArgs (top 35)) (defBody (top 35)) (defScope (top 35)) .none .none .none (.str "law_talejudge_k64_parts_of_tales" 405) none (.ref 273) .none
theorem F__law_part (P : Params) : Fun (KX P) "_law_part" "_law_part" st__law_part 274 fd__law_part := fun_mk (oc := .type "function") (od := none) (osl := #[]) (by kernel_rfl) (by kernel_rfl) (by kernel_rfl)
theorem b__law_part (P : Params) : Binds (KX P) fd__law_part ["tale", "name"] [] := (F__law_part P).binds fun _ _ _ _ _ _ us hl => match us, hl with | [_, _], _ => rfl
theorem sc__law_part : FnScope ["tale", "name", "events", "under_way", "event"] ["tale", "name"] (defScope st__law_part) := ⟨rfl, rfl, rfl, by decide +kernel, rfl, by decide +kernel, by decide +kernel⟩
theorem cal__law_part {P : Program} {w : World} {mg : Str → Option Value} {base : Heap} {k : Nat} {sp : Sp} (T : TX (KX w.params) mg) (G : FnOk P w (KX w.params) mg base CX0 k 274 fd__law_part ["tale", "name"] sp) : Cal P w (KX w.params) mg base "_law_part" ["tale", "name"] k sp := ⟨⟨_, _, G, T.of (g__law_part _), by kernel_rfl, b__law_part _⟩⟩
noncomputable abbrev st__law_caught : Stmt := top 36
noncomputable abbrev fd__law_caught : FuncData := PySem.W.fnOf "_law_caught" "_law_caught" (defArgs (top 36)) (defBody (top 36)) (defScope (top 36)) .none .none .none (.str "law_talejudge_k64_parts_of_tales" 405) none (.ref 280) .none
theorem F__law_caught (P : Params) : Fun (KX P) "_law_caught" "_law_caught" st__law_caught 281 fd__law_caught := fun_mk (oc := .type "function") (od := none) (osl := #[]) (by kernel_rfl) (by kernel_rfl) (by kernel_rfl)
theorem b__law_caught (P : Params) : Binds (KX P) fd__law_caught ["turn", "tale", "name"] [] := (F__law_caught P).binds fun _ _ _ _ _ _ us hl => match us, hl with | [_, _, _], _ => rfl
theorem sc__law_caught : FnScope ["turn", "tale", "name", "kinds", "e", "others"] ["turn", "tale", "name"] (defScope st__law_caught) := ⟨rfl, rfl, rfl, by decide +kernel, rfl, by decide +kernel, by decide +kernel⟩
theorem cal__law_caught {P : Program} {w : World} {mg : Str → Option Value} {base : Heap} {k : Nat} {sp : Sp} (T : TX (KX w.params) mg) (G : FnOk P w (KX w.params) mg base CX0 k 281 fd__law_caught ["turn", "tale", "name"] sp) : Cal P w (KX w.params) mg base "_law_caught" ["turn", "tale", "name"] k sp := ⟨⟨_, _, G, T.of (g__law_caught _), by kernel_rfl, b__law_caught _⟩⟩
noncomputable abbrev st__law_told : Stmt := top 37
noncomputable abbrev fd__law_told : FuncData := PySem.W.fnOf "_law_told" "_law_told" (defArgs (top 37)) (defBody (top 37)) (defScope (top 37)) .none .none .none (.str "law_talejudge_k64_parts_of_tales" 405) none (.ref 285) .none
theorem F__law_told (P : Params) : Fun (KX P) "_law_told" "_law_told" st__law_told 286 fd__law_told := fun_mk (oc := .type "function") (od := none) (osl := #[]) (by kernel_rfl) (by kernel_rfl) (by kernel_rfl)
theorem b__law_told (P : Params) : Binds (KX P) fd__law_told ["tale", "name"] [] := (F__law_told P).binds fun _ _ _ _ _ _ us hl => match us, hl with | [_, _], _ => rfl
theorem sc__law_told : FnScope ["tale", "name", "some", "due", "told", "own"] ["tale", "name"] (defScope st__law_told) := ⟨rfl, rfl, rfl, by decide +kernel, rfl, by decide +kernel, by decide +kernel⟩
theorem cal__law_told {P : Program} {w : World} {mg : Str → Option Value} {base : Heap} {k : Nat} {sp : Sp} (T : TX (KX w.params) mg) (G : FnOk P w (KX w.params) mg base CX0 k 286 fd__law_told ["tale", "name"] sp) : Cal P w (KX w.params) mg base "_law_told" ["tale", "name"] k sp := ⟨⟨_, _, G, T.of (g__law_told _), by kernel_rfl, b__law_told _⟩⟩
noncomputable abbrev st_law : Stmt := top 38
noncomputable abbrev fd_law : FuncData := PySem.W.fnOf "law" "law" (defArgs (top 38)) (defBody (top 38)) (defScope (top 38)) .none .none .none (.str "law_talejudge_k64_parts_of_tales" 405) none (.ref 290) .none
theorem F_law (P : Params) : Fun (KX P) "law" "law" st_law 291 fd_law := fun_mk (oc := .type "function") (od := none) (osl := #[]) (by kernel_rfl) (by kernel_rfl) (by kernel_rfl)
theorem sc_law : FnScope ["script", "tale", "words", "name", "kind", "there", "word", "due", "none"] ["script"] (defScope st_law) := ⟨rfl, rfl, rfl, by decide +kernel, rfl, by decide +kernel, by decide +kernel⟩
end K64
namespace K64
open PySem PySem.Spec PyProof.Rows TJ L2
section
theorem cut_to {ys : List V} {m : Nat} (h : m ≤ ys.length) : cutV ys none (some (m : Int)) = ys.take m ∧ HT.sIx ys.length 0 none = 0 ∧ HT.sIx ys.length ys.length (some (m : Int)) = m := by
  have a : HT.sIx ys.length 0 none = 0 := by simp [HT.sIx]
  have b : HT.sIx ys.length ys.length (some (m : Int)) = m := by
    simp [HT.sIx]
    rw [if_neg (by omega)]
    exact Nat.min_eq_left h
  refine ⟨?_, a, b⟩
  unfold cutV
  rw [a, b, List.drop_zero, Nat.sub_zero]
end
end K64
namespace K64
open PySem PySem.Spec PyProof.Rows TJ L2
section
variable {P : Program} {w : World} {mg : Str → Option Value} {base : Heap}
inductive Ev
  | beg (h : Int) (n v x : V)
  | fin (h : Int) (a : V)
def EvAt (K : PySem.W.Frag) (H : Hp) : Ev → V → Prop
  | .beg h n v x, y => ∃ p, y = .ref p ∧ SqT K H p [.str "begin", .int h, n, v, x]
  | .fin h a, y => ∃ p, y = .ref p ∧ SqT K H p [.str "end", .int h, a]
structure Rc where
  h : Int
  n : V
  v : V
  x : V
  a : V
  b : Nat
  e : Option Nat
def endV : Option Nat → V
  | none => .non
  | some i => .int i
def RcAt (K : PySem.W.Frag) (H : Hp) (r : Rc) (y : V) : Prop := ∃ p, y = .ref p ∧ SqT K H p [.int r.h, r.n, r.v, r.x, r.a, .int r.b, endV r.e]
def Tups (K : PySem.W.Frag) (H H' : Hp) : Prop := ∀ a xs, SqT K H a xs → SqT K H' a xs
theorem Tups.of {K : PySem.W.Frag} {H H' : Hp} (s : Same H H') : Tups K H H' := fun _ _ q => s.seqT q
theorem Tups.trans {K : PySem.W.Frag} {H H1 H2 : Hp} (a : Tups K H H1) (b : Tups K H1 H2) : Tups K H H2 := fun _ _ q => b _ _ (a _ _ q)
theorem Tups.lst {K : PySem.W.Frag} {H : Hp} {l : Addr} {o : HO} {zs : List V} (e : H l = some (.lst zs)) : Tups K H (upd H l o) := fun _ _ q => q.wrote e
theorem Tups.dict {K : PySem.W.Frag} {H : Hp} {l : Addr} {o : HO} {kvs : List (Key × V)} (e : H l = some (.dK kvs)) : Tups K H (upd H l o) := fun a xs h => by
  rcases h with (h | ⟨ob, h⟩) | h
  · exact .inl (.inl (by rw [upd_ne (ne_of h e (by intro z; cases z))]; exact h))
  · exact .inl (.inr ⟨ob, by rw [upd_ne (ne_of h e (by intro z; cases z))]; exact h⟩)
  · exact .inr h
theorem ixN_nat {n j : Nat} (h : j < n) : ixN n (j : Nat) = some j := by
  unfold ixN
  rw [if_pos (by omega), if_pos (by omega)]
  rfl
theorem Same.keep {H H' : Hp} {l : Addr} {o : HO} (s : Same H H') (n : H l = none) : Same H (upd H' l o) := fun a x e => by
  rw [upd_ne (ne_of_none e n)]
  exact s a x e
theorem all2_snoc {α β : Type} {R : α → β → Prop} {x : α} {y : β} : ∀ {xs : List α} {ys : List β}, All2 R xs ys → R x y → All2 R (xs ++ [x]) (ys ++ [y])
  | _, _, .nil, h => .cons h .nil
  | _, _, .cons a r, h => .cons a (all2_snoc r h)
theorem putK_len {κ : Type} [DecidableEq κ] {kvs : List (κ × V)} {k : κ} {v : V} : (putK kvs k v).length ≤ kvs.length + 1 := by
  unfold putK
  by_cases z : (kvs.any fun kv => decide (kv.1 = k)) = true
  · rw [if_pos z, List.length_map]; omega
  · rw [if_neg z, List.length_append]; exact Nat.le_refl _
def lastI (h : Int) (hs : List Int) : Option Nat := (hs.foldl (fun (acc : Nat × Option Nat) k => (acc.1 + 1, if k = h then some acc.1 else acc.2)) (0, none)).2
theorem lastF (h : Int) : ∀ hs : List Int, (hs.foldl (fun (acc : Nat × Option Nat) k => (acc.1 + 1, if k = h then some acc.1 else acc.2)) (0, none)).1 = hs.length := by
  have go : ∀ (hs : List Int) (a : Nat × Option Nat), (hs.foldl (fun (acc : Nat × Option Nat) k => (acc.1 + 1, if k = h then some acc.1 else acc.2)) a).1 = a.1 + hs.length := by
    intro hs
    induction hs with
    | nil => intro a; rfl
    | cons k hs ih => intro a; rw [List.foldl_cons, ih, List.length_cons]; show a.1 + 1 + hs.length = _; omega
  intro hs
  rw [go hs (0, none)]
  simp
theorem lastI_snoc (h k : Int) (hs : List Int) : lastI h (hs ++ [k]) = if k = h then some hs.length else lastI h hs := by
  unfold lastI
  rw [List.foldl_append]
  show (if k = h then some _ else _) = _
  rw [lastF]
theorem lastI_lt {h : Int} {hs : List Int} {j : Nat} (e : lastI h hs = some j) : j < hs.length := by
  have go : ∀ (hs : List Int) (a : Nat × Option Nat), (∀ j, a.2 = some j → j < a.1) → ∀ j, (hs.foldl (fun (acc : Nat × Option Nat) k => (acc.1 + 1, if k = h then some acc.1 else acc.2)) a).2 = some j → j < a.1 + hs.length := by
    intro hs
    induction hs with
    | nil => intro a ha j e; exact ha j e
    | cons k hs ih =>
      intro a ha j e
      rw [List.foldl_cons] at e
      have := ih (a.1 + 1, if k = h then some a.1 else a.2) (fun j e => by
        dsimp only at e ⊢
        by_cases z : k = h
        · rw [if_pos z] at e; cases e; omega
        · rw [if_neg z] at e; have := ha j e; omega) j e
      rw [List.length_cons]
      dsimp only at this
      omega
  have := go hs (0, none) (fun j e => by cases e) j e
  simpa using this
def dstep (i : Nat) (rs : List Rc) : Ev → List Rc
  | .beg h n v x => rs ++ [⟨h, n, v, x, .non, i, none⟩]
  | .fin h a => match lastI h (rs.map Rc.h) with | some j => rs.modify j (fun r => { r with a := a, e := some i }) | none => rs
def dAll : Nat → List Rc → List Ev → List Rc
  | _, rs, [] => rs
  | i, rs, e :: es => dAll (i + 1) (dstep i rs e) es
def dWf : Nat → List Rc → List Ev → Prop
  | _, _, [] => True
  | i, rs, e :: es => (∀ h a, e = .fin h a → (lastI h (rs.map Rc.h)).isSome = true) ∧ dWf (i + 1) (dstep i rs e) es
theorem RcAt.tups {K : PySem.W.Frag} {H H' : Hp} {r : Rc} {y : V} (t : Tups K H H') (h : RcAt K H r y) : RcAt K H' r y := h.elim fun p z => ⟨p, z.1, t _ _ z.2⟩
theorem EvAt.tups {K : PySem.W.Frag} {H H' : Hp} (t : Tups K H H') : ∀ {e : Ev} {y : V}, EvAt K H e y → EvAt K H' e y
  | .beg h n v x, _, z => z.elim fun p z => ⟨p, z.1, t _ _ z.2⟩
  | .fin h a, _, z => z.elim fun p z => ⟨p, z.1, t _ _ z.2⟩
theorem all2_modify {α β : Type} {R : α → β → Prop} {f : α → α} {y : β} : ∀ {xs : List α} {ys : List β} {j : Nat} {x : α}, All2 R xs ys → xs[j]? = some x → R (f x) y → All2 R (xs.modify j f) (ys.set j y)
  | _, _, _, _, .nil, e, _ => by simp at e
  | _, _, 0, x, .cons a r, e, h => by
    rw [List.getElem?_cons_zero] at e
    cases e
    exact .cons h r
  | _, _, j + 1, x, .cons a r, e, h => by
    rw [List.getElem?_cons_succ] at e
    exact .cons a (all2_modify r e h)
theorem all2_at {α β : Type} {R : α → β → Prop} : ∀ {xs : List α} {ys : List β} {i : Nat} {x : α}, All2 R xs ys → xs[i]? = some x → ∃ y, ys[i]? = some y ∧ R x y
  | _, _, i, x, .nil, e => by simp at e
  | _, _, 0, x, .cons a _, e => by
    rw [List.getElem?_cons_zero] at e
    cases e
    exact ⟨_, List.getElem?_cons_zero, a⟩
  | _, _, i + 1, x, .cons _ r, e => by
    rw [List.getElem?_cons_succ] at e
    obtain ⟨y, h1, h2⟩ := all2_at r e
    exact ⟨y, by rw [List.getElem?_cons_succ]; exact h1, h2⟩
end
end K64
namespace K64
open PySem PySem.Spec PyProof.Rows TJ L2
section
variable {P : Program} {w : World} {mg : Str → Option Value} {base : Heap}
def sp_deeds (K : PySem.W.Frag) : Sp := fun vs H Q _ => ∃ (t te : Addr) (th : V) (ys : List V) (es : List Ev), vs = [.ref t] ∧ SqT K H t [th, .ref te] ∧ SqT K H te ys ∧ All2 (EvAt K H) es ys ∧ es.length ≤ 100 ∧ dWf 0 [] es ∧
  ∀ l zs H', Same H H' → H l = none → H' l = some (.lst zs) → All2 (RcAt K H') (dAll 0 [] es) zs → Q (.ref l) H'
theorem ok_deeds (T : TX (KX w.params) mg) : FnOk P w (KX w.params) mg base CX0 1 154 fd_deeds ["tale"] (sp_deeds (KX w.params)) := by
  refine (F_deeds w.params).ok sc_deeds (fun vs H Q E h => ?_) (fun cdv A outer s H vs Q E hr h => ?_)
  · obtain ⟨t, te, th, ys, es, rfl, _⟩ := h
    rfl
  · obtain ⟨t, te, th, ys, es, rfl, st, se, al, hl, wf, q⟩ := h
    refine ⟨_, (pss_cons (ps_set (i := 1) sc_deeds.nd rfl (by first | exact Or.inl rfl | exact Or.inr rfl) (pe_lst pa_nil))
      (pss_cons (ps_set (i := 2) sc_deeds.nd rfl (by first | exact Or.inl rfl | exact Or.inr rfl) pe_dnewK)
      (pss_cons (ps_for PassesOwn.never rfl (pi_enumT rfl (T.no (n_enumerate _)) (pa_cons (pe_ix ix_seq (pv 0) pe_int (fun _ _ => rfl)) pa_nil)) (pg_tup rfl (pgs_cons (pg_name (i := 3) sc_deeds.nd rfl (by first | exact Or.inl rfl | exact Or.inr rfl)) (pgs_cons (pg_name (i := 4) sc_deeds.nd rfl (by first | exact Or.inl rfl | exact Or.inr rfl)) pgs_nil)))
      (pss_one (ps_if (pt_cmpR opEq (pe_ix ix_seq (pv 4) pe_int (fun _ _ => rfl)) pe_str (nomark _))
      (pss_cons (ps_dput (hu_of hr) (pv 2) (pe_ix ix_seq (pv 4) pe_int (fun _ _ => rfl)) (pe_callB callLen rfl (T.no (n_len _)) boot_len (pa_cons (pv 1) pa_nil)) rfl)
      (pss_one (ps_expr (pe_append (pv 1) (pa_cons (pe_op opAdd (pe_slice slSeq (pv 4) (po_some pe_int) po_none) (pe_tup (pa_cons pe_non (pa_cons (pv 3) (pa_cons pe_non pa_nil))))) pa_nil)))))
      (pss_cons (ps_set (i := 5) sc_deeds.nd rfl (by first | exact Or.inl rfl | exact Or.inr rfl) (pe_dget (hu_of hr) (pv 2) (pe_ix ix_seq (pv 4) pe_int (fun _ _ => rfl)) (fun _ _ => rfl)))
      (pss_cons (ps_set (i := 6) sc_deeds.nd rfl (by first | exact Or.inl rfl | exact Or.inr rfl) (pe_ix ix_seq (pv 1) (pv 5) (fun _ _ => rfl)))
      (pss_one (ps_asg (pe_op opAdd (pe_slice slSeq (pv 6) po_none (po_some pe_int)) (pe_tup (pa_cons (pe_ix ix_seq (pv 4) pe_int (fun _ _ => rfl)) (pa_cons (pe_ix ix_seq (pv 6) pe_int (fun _ _ => rfl)) (pa_cons (pv 3) pa_nil))))) (pg_sub (pv 1) (pv 5) set_list))))))))
      (pss_one (ps_ret (pv 1)))))), ?_⟩
    refine ⟨(show (0 : Nat) ≤ sizeLine by decide), fun l hl0 => ?_⟩
    intro d hd0
    have nld : l ≠ d := ne_of_none upd_same hd0
    have s0 : upd H l (.lst []) d = none → H d = none := fun z => by rwa [upd_ne nld.symm] at z
    have s2 : Same H (upd (upd H l (.lst [])) d (.dK [])) := (Same.upd hl0).trans (Same.upd hd0)
    have e1 : upd (upd H l (.lst [])) d (.dK []) l = some (.lst []) := by rw [upd_ne nld]; exact upd_same
    have e2 : upd (upd H l (.lst [])) d (.dK []) d = some (.dK []) := upd_same
    generalize upd (upd H l (.lst [])) d (.dK []) = H2 at s2 e1 e2 ⊢
    have len := forall2_len al
    refine ⟨_, rfl, .inr (.inl ⟨t, _, 1, .ref te, rfl, rfl, s2.seqT st, atI_nat (j := 1) rfl, te, ys, rfl, s2.seqT se, ?_⟩)⟩
    refine for_enumT (K := KX w.params) (a := te) (xs := ys) (fun i σ H' => ∃ rs zs kvs, H' l = some (.lst zs) ∧ All2 (RcAt (KX w.params) H') rs zs ∧ H' d = some (.dK kvs) ∧ kvs.length ≤ i ∧ rs.length ≤ i ∧ (∀ h, valV kvs (.inl h) = (lastI h (rs.map Rc.h)).map fun j => V.int (j : Nat)) ∧ dAll i rs (es.drop i) = dAll 0 [] es ∧ dWf i rs (es.drop i) ∧ Same H H' ∧ ∃ x3 x4 x5 x6, σ = [some (.ref t), some (.ref l), some (.ref d), x3, x4, x5, x6])
      ⟨[], [], [], e1, .nil, e2, Nat.le_refl _, Nat.le_refl _, fun h => rfl, by rw [List.drop_zero], by rw [List.drop_zero]; exact wf, s2, _, _, _, _, rfl⟩ (fun i σ H' h => ?_) ?_ ?_
    · obtain ⟨rs, zs, kvs, _, _, _, _, _, _, _, _, s', _⟩ := h
      exact s'.seqT se
    · rintro i y σ H3 p hy ⟨rs, zs, kvs, el, ar, ed, hk, hr', hv, da, dw, s3, x3, x4, x5, x6, rfl⟩ hp
      obtain ⟨e, he, ev⟩ := all2_get al hy
      obtain ⟨hi, ee⟩ := List.getElem?_eq_some_iff.mp he
      have dr : es.drop i = e :: es.drop (i + 1) := by rw [List.drop_eq_getElem_cons hi, ee]
      rw [dr] at da dw
      have s4 := s3.trans (Same.upd (o := .tup [.int i, y]) hp)
      have el4 := (Same.upd (o := .tup [.int i, y]) hp) _ _ el
      have ed4 := (Same.upd (o := .tup [.int i, y]) hp) _ _ ed
      have ar4 := forall2_mono (fun a b z => RcAt.tups (.of (Same.upd (o := .tup [.int i, y]) hp)) z) ar
      have ep4 : upd H3 p (.tup [.int i, y]) p = some (.tup [.int i, y]) := upd_same
      generalize upd H3 p (.tup [.int i, y]) = H4 at s4 el4 ed4 ar4 ep4 ⊢
      have ev4 := EvAt.tups (.of s4) ev
      refine ⟨p, _, rfl, SqT.of ep4, rfl, .int i, _, rfl, y, _, rfl, rfl, ?_⟩
      have lz : zs.length = rs.length := forall2_len ar4
      have hz0 : 100 ≤ sizeLine := by decide
      have few : i < 100 := Nat.lt_of_lt_of_le hi hl
      cases e with
      | beg h n v x =>
        obtain ⟨py, rfl, sy⟩ := ev4
        refine ⟨_, rfl, .inr (.inl ⟨py, _, 0, .str "begin", rfl, rfl, sy, atI_nat (j := 0) rfl, rfl, _, rfl, iteP (decide_eq_true rfl) ?_⟩)⟩
        refine ⟨_, rfl, .inl ⟨l, zs, rfl, .inl (SqL.of el4), ⟨_, rfl, ⟨_, rfl, .inr (.inl ⟨py, _, 1, .int h, rfl, rfl, sy, atI_nat (j := 1) rfl, d, _, rfl, DPut.k (k := .inl h) ed4 (Nat.lt_of_le_of_lt hk (Nat.lt_of_lt_of_le few hz0)), ?_⟩)⟩⟩⟩⟩
        have nhd : H d = none := s0 hd0
        have t5 : Tups (KX w.params) H4 (upd H4 d (.dK (putK kvs (.inl h) (.int (zs.length : Nat))))) := Tups.dict ed4
        have s5 := Same.keep (o := .dK (putK kvs (.inl h) (.int (zs.length : Nat)))) s4 nhd
        have el5 : upd H4 d (.dK (putK kvs (.inl h) (.int (zs.length : Nat)))) l = some (.lst zs) := by rw [upd_ne nld]; exact el4
        have ed5 : upd H4 d (.dK (putK kvs (.inl h) (.int (zs.length : Nat)))) d = some (.dK (putK kvs (.inl h) (.int (zs.length : Nat)))) := upd_same
        generalize upd H4 d (.dK (putK kvs (.inl h) (.int (zs.length : Nat)))) = H5 at t5 s5 el5 ed5 ⊢
        have sy5 := t5 _ _ sy
        have ar5 := forall2_mono (fun a b z => RcAt.tups t5 z) ar4
        refine ⟨_, rfl, .inl ⟨rfl, zs, SqL.of el5⟩, ⟨_, rfl, 1, rfl, .inr (.inl ⟨py, _, rfl, sy5, fun z => absurd z.1 (show ¬ HT.sIx 5 0 (some 1) = 0 by decide), fun p1 hp1 => ?_⟩)⟩⟩
        have c1 : cutV [V.str "begin", .int h, n, v, x] (some 1) none = [.int h, n, v, x] := rfl
        rw [c1]
        refine ⟨_, rfl, show (3 : Nat) ≤ sizeLine by decide, fun p2 hp2 => .inr (.inr (.inr ⟨p1, p2, _, _, rfl, rfl, (Same.upd hp2).seqT (SqT.of upd_same), SqT.of upd_same, by simp, (show (7 : Nat) ≤ sizeLine by decide), fun z => (by cases z), fun _ p3 hp3 => ?_⟩))⟩
        have s6 : Same H5 (upd (upd (upd H5 p1 (.tup [.int h, n, v, x])) p2 (.tup [.non, .int i, .non])) p3 (.tup ([.int h, n, v, x] ++ [.non, .int i, .non]))) := ((Same.upd hp1).trans (Same.upd hp2)).trans (Same.upd hp3)
        have e3 : upd (upd (upd H5 p1 (.tup [.int h, n, v, x])) p2 (.tup [.non, .int i, .non])) p3 (.tup ([.int h, n, v, x] ++ [.non, .int i, .non])) p3 = some (.tup ([.int h, n, v, x] ++ [.non, .int i, .non])) := upd_same
        generalize upd (upd (upd H5 p1 (.tup [.int h, n, v, x])) p2 (.tup [.non, .int i, .non])) p3 (.tup ([.int h, n, v, x] ++ [.non, .int i, .non])) = H6 at s6 e3 ⊢
        have el6 := s6 _ _ el5
        have ed6 := s6 _ _ ed5
        have ar6 := forall2_mono (fun a b z => RcAt.tups (.of s6) z) ar5
        have t7 : Tups (KX w.params) H6 (upd H6 l (.lst (zs ++ [.ref p3]))) := Tups.lst el6
        refine ⟨l, zs, _, rfl, rfl, el6, Nat.lt_of_le_of_lt (Nat.le_trans (Nat.le_of_eq lz) hr') (Nat.lt_of_lt_of_le few hz0), ?_⟩
        refine ⟨rs ++ [⟨h, n, v, x, .non, i, none⟩], zs ++ [.ref p3], putK kvs (.inl h) (.int (zs.length : Nat)), upd_same, ?_, ?_, ?_, ?_, ?_, (show dAll (i + 1) (dstep i rs (.beg h n v x)) _ = _ from da), dw.2, Same.keep (s5.trans s6) hl0, _, _, _, _, rfl⟩
        · exact all2_snoc (forall2_mono (fun a b z => RcAt.tups t7 z) ar6) ⟨p3, rfl, t7 _ _ (SqT.of e3)⟩
        · rw [upd_ne nld.symm]; exact ed6
        · exact Nat.le_trans putK_len (by omega)
        · rw [List.length_append]; show rs.length + 1 ≤ i + 1; omega
        · intro k
          rw [valV_put, List.map_append]
          show _ = Option.map _ (lastI k (rs.map Rc.h ++ [h]))
          rw [lastI_snoc, hv k, List.length_map, lz]
          by_cases z : h = k
          · rw [if_pos z, if_pos (by rw [z])]; rfl
          · rw [if_neg z, if_neg (fun y => z (Sum.inl.inj y).symm)]
      | fin h a =>
        obtain ⟨py, rfl, sy⟩ := ev4
        obtain ⟨j, hj⟩ := Option.isSome_iff_exists.mp (dw.1 h a rfl)
        have hvj : valV kvs (.inl h) = some (.int (j : Nat)) := by rw [hv h, hj]; rfl
        have hjl : j < rs.length := by have := lastI_lt hj; rwa [List.length_map] at this
        have hrj : rs[j]? = some rs[j] := List.getElem?_eq_getElem hjl
        obtain ⟨yj, hyj, pj, rfl, sj⟩ := all2_at ar4 hrj
        have dgj : DGet H4 d (.int h) (some (.int (j : Nat))) := hvj ▸ DGet.k (k := .inl h) ed4
        refine ⟨_, rfl, .inr (.inl ⟨py, _, 0, .str "end", rfl, rfl, sy, atI_nat (j := 0) rfl, rfl, _, rfl, iteN (by decide +kernel) ?_⟩)⟩
        refine ⟨_, rfl, ⟨_, rfl, .inr (.inl ⟨py, _, 1, .int h, rfl, rfl, sy, atI_nat (j := 1) rfl, d, _, rfl, dgj, ?_⟩)⟩⟩
        refine ⟨_, rfl, _, rfl, .inl ⟨l, zs, j, .ref pj, rfl, rfl, SqL.of el4, atI_nat hyj, ?_⟩⟩
        refine ⟨_, rfl, 4, rfl, .inr (.inl ⟨pj, _, rfl, sj, fun z => absurd z.2 (show ¬ HT.sIx 7 7 (some 4) = 7 by decide), fun p1 hp1 => ?_⟩)⟩
        have c1 : cutV [.int rs[j].h, rs[j].n, rs[j].v, rs[j].x, rs[j].a, .int rs[j].b, endV rs[j].e] none (some 4) = [.int rs[j].h, rs[j].n, rs[j].v, rs[j].x] := rfl
        rw [c1]
        refine ⟨_, rfl, .inr (.inl ⟨py, _, 2, a, rfl, rfl, (Same.upd hp1).seqT sy, atI_nat (j := 2) rfl, ?_⟩)⟩
        refine ⟨_, rfl, .inr (.inl ⟨pj, _, 5, .int rs[j].b, rfl, rfl, (Same.upd hp1).seqT sj, atI_nat (j := 5) rfl, ?_⟩)⟩
        refine ⟨_, rfl, show (3 : Nat) ≤ sizeLine by decide, fun p2 hp2 => .inr (.inr (.inr ⟨p1, p2, _, _, rfl, rfl, (Same.upd hp2).seqT (SqT.of upd_same), SqT.of upd_same, by simp, (show (7 : Nat) ≤ sizeLine by decide), fun z => (by cases z), fun _ p3 hp3 => ?_⟩))⟩
        have s6 : Same H4 _ := ((Same.upd hp1).trans (Same.upd hp2)).trans (Same.upd (o := .tup ([.int rs[j].h, rs[j].n, rs[j].v, rs[j].x] ++ [a, .int rs[j].b, .int (i : Nat)])) hp3)
        have e3 : upd (upd (upd H4 p1 (.tup [.int rs[j].h, rs[j].n, rs[j].v, rs[j].x])) p2 (.tup [a, .int rs[j].b, .int (i : Nat)])) p3 (.tup ([.int rs[j].h, rs[j].n, rs[j].v, rs[j].x] ++ [a, .int rs[j].b, .int (i : Nat)])) p3 = some (.tup ([.int rs[j].h, rs[j].n, rs[j].v, rs[j].x] ++ [a, .int rs[j].b, .int (i : Nat)])) := upd_same
        generalize upd (upd (upd H4 p1 (.tup [.int rs[j].h, rs[j].n, rs[j].v, rs[j].x])) p2 (.tup [a, .int rs[j].b, .int (i : Nat)])) p3 (.tup ([.int rs[j].h, rs[j].n, rs[j].v, rs[j].x] ++ [a, .int rs[j].b, .int (i : Nat)])) = H6 at s6 e3 ⊢
        have el6 := s6 _ _ el4
        have ed6 := s6 _ _ ed4
        have ar6 := forall2_mono (fun a b z => RcAt.tups (.of s6) z) ar4
        have t7 : Tups (KX w.params) H6 (upd H6 l (.lst (zs.set j (.ref p3)))) := Tups.lst el6
        refine ⟨_, rfl, _, rfl, l, zs, j, j, rfl, rfl, el6, ixN_nat (show j < zs.length by rw [lz]; exact hjl), ?_⟩
        have dd : dstep i rs (.fin h a) = rs.modify j (fun r => { r with a := a, e := some i }) := by unfold dstep; dsimp only; rw [hj]
        have da2 : dAll (i + 1) (dstep i rs (.fin h a)) (List.drop (i + 1) es) = _ := da
        have dw2 := dw.2
        rw [dd] at da2 dw2
        have mh : (rs.modify j (fun r => { r with a := a, e := some i })).map Rc.h = rs.map Rc.h := by
          apply List.ext_getElem?
          intro m
          rw [List.getElem?_map, List.getElem?_map, List.getElem?_modify]
          cases rs[m]? with
          | none => rfl
          | some r =>
            show some (if j = m then _ else r).h = some r.h
            by_cases z : j = m
            · rw [if_pos z]
            · rw [if_neg z]
        refine ⟨_, zs.set j (.ref p3), kvs, upd_same, ?_, ?_, ?_, ?_, ?_, da2, dw2, Same.keep (s4.trans s6) hl0, _, _, _, _, rfl⟩
        · exact all2_modify (forall2_mono (fun a b z => RcAt.tups t7 z) ar6) hrj ⟨p3, rfl, t7 _ _ (SqT.of e3)⟩
        · rw [upd_ne nld.symm]; exact ed6
        · omega
        · rw [List.length_modify]; omega
        · intro k
          rw [mh]
          exact hv k
    · rintro σ H3 ⟨rs, zs, kvs, el, ar, ed, hk, hr', hv, da, dw, s3, x3, x4, x5, x6, rfl⟩
      have : es.drop ys.length = [] := by rw [len]; exact List.drop_length
      rw [this] at da
      have da : rs = dAll 0 [] es := da
      rw [← da] at q
      exact ⟨_, rfl, q l zs H3 s3 hl0 el ar⟩
end
end K64
namespace K64
open PySem PySem.Spec PyProof.Rows TJ L2
section
variable {P : Program} {w : World} {mg : Str → Option Value} {base : Heap}
def near (i : Int) : Prop := -1000000000 ≤ i ∧ i ≤ 1000000000
inductive DeedOk : Str → Str → Dt → Prop
  | regR : DeedOk "register" "read" .non
  | regW {i : Int} : near i → DeedOk "register" "write" (.int i)
  | cntR : DeedOk "counter" "read" .non
  | cntA {i : Int} : near i → DeedOk "counter" "add" (.int i)
  | quP {i : Int} : near i → DeedOk "queue" "put" (.int i)
  | quT : DeedOk "queue" "take" .non
  | setP {i : Int} : near i → DeedOk "set" "put" (.int i)
  | setC {i : Int} : near i → DeedOk "set" "cut" (.int i)
  | setH {i : Int} : near i → DeedOk "set" "has" (.int i)
  | celR : DeedOk "cell" "read" .non
  | celW {i : Int} : near i → DeedOk "cell" "write" (.int i)
  | celS {i j : Int} : near i → near j → DeedOk "cell" "swap" (.tup [.int i, .int j])
def kinds5 : List Str := ["register", "counter", "queue", "set", "cell"]
def verbsT (k : Str) : List Str := if k = "register" then ["write", "read"] else if k = "counter" then ["add", "read"] else if k = "queue" then ["put", "take"] else if k = "set" then ["put", "cut", "has"] else ["read", "write", "swap", "swap"]
def VerbOk (k v : Str) : Prop := ((v = "read" ∨ v = "take") ∧ DeedOk k v .non) ∨ (v = "swap" ∧ ∀ i j, near i → near j → DeedOk k v (.tup [.int i, .int j])) ∨ (v ≠ "read" ∧ v ≠ "take" ∧ v ≠ "swap" ∧ ∀ i, near i → DeedOk k v (.int i))
theorem verb_okT {k v : Str} (hk : k ∈ kinds5) (hv : v ∈ verbsT k) : VerbOk k v := by
  unfold kinds5 at hk
  simp only [List.mem_cons, List.not_mem_nil, or_false] at hk
  rcases hk with rfl | rfl | rfl | rfl | rfl
  · rw [show verbsT "register" = (["write", "read"] : List Str) by decide +kernel] at hv
    simp only [List.mem_cons, List.not_mem_nil, or_false] at hv
    rcases hv with rfl | rfl
    · exact .inr (.inr ⟨by decide +kernel, by decide +kernel, by decide +kernel, fun i h => .regW h⟩)
    · exact .inl ⟨.inl rfl, .regR⟩
  · rw [show verbsT "counter" = (["add", "read"] : List Str) by decide +kernel] at hv
    simp only [List.mem_cons, List.not_mem_nil, or_false] at hv
    rcases hv with rfl | rfl
    · exact .inr (.inr ⟨by decide +kernel, by decide +kernel, by decide +kernel, fun i h => .cntA h⟩)
    · exact .inl ⟨.inl rfl, .cntR⟩
  · rw [show verbsT "queue" = (["put", "take"] : List Str) by decide +kernel] at hv
    simp only [List.mem_cons, List.not_mem_nil, or_false] at hv
    rcases hv with rfl | rfl
    · exact .inr (.inr ⟨by decide +kernel, by decide +kernel, by decide +kernel, fun i h => .quP h⟩)
    · exact .inl ⟨.inr rfl, .quT⟩
  · rw [show verbsT "set" = (["put", "cut", "has"] : List Str) by decide +kernel] at hv
    simp only [List.mem_cons, List.not_mem_nil, or_false] at hv
    rcases hv with rfl | rfl | rfl
    · exact .inr (.inr ⟨by decide +kernel, by decide +kernel, by decide +kernel, fun i h => .setP h⟩)
    · exact .inr (.inr ⟨by decide +kernel, by decide +kernel, by decide +kernel, fun i h => .setC h⟩)
    · exact .inr (.inr ⟨by decide +kernel, by decide +kernel, by decide +kernel, fun i h => .setH h⟩)
  · rw [show verbsT "cell" = (["read", "write", "swap", "swap"] : List Str) by decide +kernel] at hv
    simp only [List.mem_cons, List.not_mem_nil, or_false] at hv
    rcases hv with rfl | rfl | rfl | rfl
    · exact .inl ⟨.inl rfl, .celR⟩
    · exact .inr (.inr ⟨by decide +kernel, by decide +kernel, by decide +kernel, fun i h => .celW h⟩)
    · exact .inr (.inl ⟨rfl, fun i j h1 h2 => .celS h1 h2⟩)
    · exact .inr (.inl ⟨rfl, fun i j h1 h2 => .celS h1 h2⟩)
theorem inV_str (z : Str) (ws : List Str) : inV (.str z) (ws.map V.str) = decide (z ∈ ws) := by
  unfold inV
  rw [List.any_map, Bool.eq_iff_iff, List.any_eq_true, decide_eq_true_eq]
  constructor
  · rintro ⟨x, hx, e⟩
    have e : x = z := eq_of_beq (show (x == z) = true from e)
    rw [← e]
    exact hx
  · exact fun h => ⟨z, h, (show (z == z) = true from beq_self_eq_true z)⟩
theorem same_of_kept {L : List Addr} {H H' : Hp} (k : KeptL L H H') (n : ∀ l ∈ L, H l = none) : Same H H' := fun b o e => k b o (fun z => by rw [n b z] at e; cases e) e
structure WordsAt (H : Hp) (p : Addr) (n : Nat) (f : Str → Option (List Str)) : Prop where
  ex : ∃ kvs : List (Key × V), H p = some (.dK kvs) ∧ kvs.length ≤ n ∧ ∀ k ws, f k = some ws → ∃ l, valV kvs (.inr k) = some (.ref l) ∧ H l = some (.lst (ws.map V.str))
theorem putK_lenE (kvs : List (Key × V)) (k : Key) (v : V) : (putK kvs k v).length ≤ kvs.length + 1 := by
  unfold putK
  split
  · rw [List.length_map]; exact Nat.le_succ _
  · rw [List.length_append]; exact Nat.le_refl _
theorem WordsAt.put {H : Hp} {p l : Addr} {n : Nat} {f : Str → Option (List Str)} {kvs : List (Key × V)} {k : Str} {ws : List Str} (hl : H l = none) (e : H p = some (.dK kvs)) (hn : kvs.length ≤ n) (h : ∀ k ws, f k = some ws → ∃ l, valV kvs (.inr k) = some (.ref l) ∧ H l = some (.lst (ws.map V.str))) :
    ∃ H', H' = upd (upd H l (.lst (ws.map V.str))) p (.dK (putK kvs (.inr k) (.ref l))) ∧ WordsAt H' p (n + 1) (fun j => if j = k then some ws else f j) ∧ KeptL [p] H H' := by
  have np : p ≠ l := ne_of_none e hl
  refine ⟨_, rfl, ⟨_, upd_same, Nat.le_trans (putK_lenE _ _ _) (Nat.succ_le_succ hn), fun j us hj => ?_⟩, fun b o hb eb => ?_⟩
  · by_cases z : j = k
    · subst z
      rw [if_pos rfl] at hj
      cases hj
      refine ⟨l, by rw [valV_put, if_pos rfl], ?_⟩
      rw [upd_ne np.symm]
      exact upd_same
    · rw [if_neg z] at hj
      obtain ⟨m, e1, e2⟩ := h j us hj
      refine ⟨m, by rw [valV_put, if_neg (fun y => z (Sum.inr.inj y))]; exact e1, ?_⟩
      have nm : m ≠ p := fun y => by rw [y, e] at e2; cases e2
      rw [upd_ne nm, upd_ne (ne_of_none e2 hl)]
      exact e2
  · have nb : b ≠ p := fun z => hb (by rw [z]; exact List.mem_singleton.mpr rfl)
    rw [upd_ne nb, upd_ne (ne_of_none eb hl)]
    exact eb
theorem words3 {H : Hp} {p l1 l2 l3 : Addr} {k1 k2 k3 : Str} {w1 w2 w3 : List Str} (hp : H p = none) (h1 : upd H p (.dK []) l1 = none) (h2 : upd (upd H p (.dK [])) l1 (.lst (w1.map V.str)) l2 = none)
    (h3 : upd (upd (upd H p (.dK [])) l1 (.lst (w1.map V.str))) l2 (.lst (w2.map V.str)) l3 = none) (n12 : k1 ≠ k2) (n13 : k1 ≠ k3) (n23 : k2 ≠ k3) :
    upd (upd (upd (upd H p (.dK [])) l1 (.lst (w1.map V.str))) l2 (.lst (w2.map V.str))) l3 (.lst (w3.map V.str)) p = some (.dK []) ∧
    ∃ H', H' = upd (upd (upd (upd (upd H p (.dK [])) l1 (.lst (w1.map V.str))) l2 (.lst (w2.map V.str))) l3 (.lst (w3.map V.str))) p (.dK [(.inr k1, .ref l1), (.inr k2, .ref l2), (.inr k3, .ref l3)]) ∧ Same H H' ∧
      H' p = some (.dK [(.inr k1, .ref l1), (.inr k2, .ref l2), (.inr k3, .ref l3)]) ∧ ∀ k ws, (if k = k1 then some w1 else if k = k2 then some w2 else if k = k3 then some w3 else none) = some ws → ∃ l, valV [((.inr k1 : Key), V.ref l1), (.inr k2, .ref l2), (.inr k3, .ref l3)] (.inr k) = some (.ref l) ∧ H' l = some (.lst (ws.map V.str)) := by
  have p1 : p ≠ l1 := ne_of_none upd_same h1
  have p2 : p ≠ l2 := ne_of_none (by rw [upd_ne p1]; exact upd_same) h2
  have p3 : p ≠ l3 := ne_of_none (by rw [upd_ne p2, upd_ne p1]; exact upd_same) h3
  have a12 : l1 ≠ l2 := ne_of_none upd_same h2
  have a13 : l1 ≠ l3 := ne_of_none (by rw [upd_ne a12]; exact upd_same) h3
  have a23 : l2 ≠ l3 := ne_of_none upd_same h3
  refine ⟨by rw [upd_ne p3, upd_ne p2, upd_ne p1]; exact upd_same, _, rfl, fun b o e => ?_, upd_same, fun k ws e => ?_⟩
  · rw [upd_ne (ne_of_none e hp)]
    exact ((((Same.upd hp).trans (Same.upd h1)).trans (Same.upd h2)).trans (Same.upd h3)) b o e
  · have ne : ∀ {a b : Str}, a ≠ b → (Sum.inr a : Key) ≠ Sum.inr b := fun h e => h (Sum.inr.inj e)
    by_cases z1 : k = k1
    · rw [if_pos z1] at e
      cases e
      exact ⟨l1, by rw [z1]; exact valV_pos rfl, by rw [upd_ne p1.symm, upd_ne a13, upd_ne a12]; exact upd_same⟩
    · rw [if_neg z1] at e
      by_cases z2 : k = k2
      · rw [if_pos z2] at e
        cases e
        exact ⟨l2, by rw [z2, valV_neg (ne n12)]; exact valV_pos rfl, by rw [upd_ne p2.symm, upd_ne a23]; exact upd_same⟩
      · rw [if_neg z2] at e
        by_cases z3 : k = k3
        · rw [if_pos z3] at e
          cases e
          exact ⟨l3, by rw [z3, valV_neg (ne n13), valV_neg (ne n23)]; exact valV_pos rfl, by rw [upd_ne p3.symm]; exact upd_same⟩
        · rw [if_neg z3] at e
          cases e
def WorthIn (H : Hp) (d : Dt) (x : V) : Prop := ∀ a b : Int, d = .tup [.int a, .int b] → ∃ t, x = .ref t ∧ H t = some (.tup [.int a, .int b])
theorem e9 : (10 : Int) ^ (9 : Int).toNat = 1000000000 := by decide
theorem p9 : CPow 10 9 := ⟨by decide, by decide, by decide⟩
end
end K64
namespace K64
open PySem PySem.Spec PyProof.Rows TJ L2
section
variable {P : Program} {w : World} {mg : Str → Option Value} {base : Heap}
def rowK (k : Str) : Prop := k = "queue" ∨ k = "set"
instance (k : Str) : Decidable (rowK k) := by unfold rowK; infer_instance
def StAt (K : PySem.W.Frag) (H : Hp) (n : Nat) (k : Str) (v : V) : Prop := (rowK k ∧ ∃ (p : Addr) (ns : List Int), v = .ref p ∧ SqT K H p (ns.map V.int) ∧ ns.length ≤ n) ∨ (¬ rowK k ∧ ∃ i : Int, v = .int i)
theorem StAt.isRow {K : PySem.W.Frag} {H : Hp} {n : Nat} {k : Str} {v : V} (h : StAt K H n k v) (hk : rowK k) : ∃ (p : Addr) (ns : List Int), v = .ref p ∧ SqT K H p (ns.map V.int) ∧ ns.length ≤ n := h.elim (fun z => z.2) fun z => absurd hk z.1
theorem StAt.isNum {K : PySem.W.Frag} {H : Hp} {n : Nat} {k : Str} {v : V} (h : StAt K H n k v) (hk : ¬ rowK k) : ∃ i : Int, v = .int i := h.elim (fun z => absurd z.1 hk) fun z => z.2
theorem StAt.mk {K : PySem.W.Frag} {H : Hp} {n : Nat} {k : Str} {p : Addr} {ns : List Int} (hk : rowK k) (s : SqT K H p (ns.map V.int)) (l : ns.length ≤ n) : StAt K H n k (.ref p) := .inl ⟨hk, p, ns, rfl, s, l⟩
theorem StAt.num {K : PySem.W.Frag} {H : Hp} {n : Nat} {k : Str} {i : Int} (hk : ¬ rowK k) : StAt K H n k (.int i) := .inr ⟨hk, i, rfl⟩
theorem StAt.tups {K : PySem.W.Frag} {H H' : Hp} {n : Nat} {k : Str} {v : V} (t : Tups K H H') (h : StAt K H n k v) : StAt K H' n k v := h.imp (fun z => ⟨z.1, z.2.elim fun p y => y.elim fun ns y => ⟨p, ns, y.1, t _ _ y.2.1, y.2.2⟩⟩) id
theorem StAt.le {K : PySem.W.Frag} {H : Hp} {n m : Nat} {k : Str} {v : V} (l : n ≤ m) (h : StAt K H n k v) : StAt K H m k v := h.imp (fun z => ⟨z.1, z.2.elim fun p y => y.elim fun ns y => ⟨p, ns, y.1, y.2.1, Nat.le_trans y.2.2 l⟩⟩) id
end
end K64
namespace K64
open PySem PySem.Spec PyProof.Rows TJ L2
section
variable {P : Program} {w : World} {mg : Str → Option Value} {base : Heap}
structure Tt (K : PySem.W.Frag) (H H' : Hp) : Prop where
  t : Tups K H H'
  l : ∀ a xs, H a = some (.tup xs) → H' a = some (.tup xs)
theorem Tt.of {K : PySem.W.Frag} {H H' : Hp} (s : Same H H') : Tt K H H' := ⟨.of s, fun _ _ h => s _ _ h⟩
theorem Tt.trans {K : PySem.W.Frag} {H H1 H2 : Hp} (a : Tt K H H1) (b : Tt K H1 H2) : Tt K H H2 := ⟨a.t.trans b.t, fun _ _ h => b.l _ _ (a.l _ _ h)⟩
def MutAt (H : Hp) (l : Addr) : Prop := (∃ zs, H l = some (.lst zs)) ∨ ∃ kvs : List (Key × V), H l = some (.dK kvs)
theorem KeptL.tt {K : PySem.W.Frag} {L : List Addr} {H H' : Hp} (k : KeptL L H H') (m : ∀ l ∈ L, MutAt H l) : Tt K H H' := by
  refine ⟨fun a xs h => ?_, fun a xs h => k _ _ (fun z => ?_) h⟩
  · rcases h with (h | ⟨ob, h⟩) | h
    · exact .inl (.inl (k _ _ (fun z => by rcases m a z with ⟨_, e⟩ | ⟨_, e⟩ <;> (rw [h] at e; cases e)) h))
    · exact .inl (.inr ⟨ob, k _ _ (fun z => by rcases m a z with ⟨_, e⟩ | ⟨_, e⟩ <;> (rw [h] at e; cases e)) h⟩)
    · exact .inr h
  · rcases m a z with ⟨_, e⟩ | ⟨_, e⟩ <;> (rw [h] at e; cases e)
def ThAt (H : Hp) (p : Addr) (ts : List (Str × Str)) : Prop := ∃ ys, H p = some (.tup ys) ∧ All2 (fun (t : Str × Str) y => ∃ b, y = .ref b ∧ H b = some (.tup [.str t.1, .str t.2])) ts ys
structure ThOk (ts : List (Str × Str)) : Prop where
  n0 : 0 < ts.length
  n6 : ts.length ≤ 6
  nd : (ts.map (·.1)).Nodup
  ks : ∀ t ∈ ts, t.2 ∈ kinds5
theorem ThAt.tt {K : PySem.W.Frag} {H H' : Hp} {p : Addr} {ts : List (Str × Str)} (t : Tt K H H') (h : ThAt H p ts) : ThAt H' p ts := h.elim fun ys z => ⟨ys, t.l _ _ z.1, forall2_mono (fun _ _ y => y.elim fun b x => ⟨b, x.1, t.l _ _ x.2⟩) z.2⟩
def kindR (K : PySem.W.Frag) (x y : V) (H : Hp) : Prop := ∃ (n k : Str) (b : Addr), x = .str n ∧ y = .ref b ∧ k ∈ kinds5 ∧ H b = some (.tup [.str n, .str k])
theorem all2_things {K : PySem.W.Frag} {H : Hp} : ∀ {ks : List Str} {ys : List V}, All2 (fun x y => kindR K x y H) (ks.map V.str) ys → ∃ ts : List (Str × Str), ts.map (·.1) = ks ∧ (∀ t ∈ ts, t.2 ∈ kinds5) ∧ All2 (fun (t : Str × Str) y => ∃ b, y = .ref b ∧ H b = some (.tup [.str t.1, .str t.2])) ts ys
  | [], _, h => by cases h; exact ⟨[], rfl, fun _ z => absurd z List.not_mem_nil, .nil⟩
  | n :: ks, _, h => by
    cases h with
    | cons a r =>
      obtain ⟨ts, e, hk, al⟩ := all2_things r
      obtain ⟨n', k, b, en, ey, kk, hb⟩ := a
      cases en
      refine ⟨(n, k) :: ts, by rw [List.map_cons, e], fun t ht => ?_, .cons ⟨b, ey, hb⟩ al⟩
      rcases List.mem_cons.mp ht with z | z
      · rw [z]; exact kk
      · exact hk t z
theorem WorthIn.tt {K : PySem.W.Frag} {H H' : Hp} {d : Dt} {x : V} (t : Tt K H H') (h : WorthIn H d x) : WorthIn H' d x := fun a b e => (h a b e).elim fun p z => ⟨p, z.1, t.l _ _ z.2⟩
end
end K64
namespace K64
open PySem PySem.Spec PyProof.Rows TJ L2
section
def oStep (os : List Int) : Ev → List Int
  | .beg h _ _ _ => os ++ [h]
  | .fin h _ => os.filter fun k => decide (k ≠ h)
def oOk (os : List Int) : Ev → Prop
  | .beg h _ _ _ => h ∉ os
  | .fin h _ => h ∈ os
def EWf : List Int → List Ev → Prop
  | _, [] => True
  | os, e :: es => oOk os e ∧ EWf (oStep os e) es
theorem EWf.snoc : ∀ {es : List Ev} {os : List Int} {e : Ev}, EWf os es → oOk (es.foldl oStep os) e → EWf os (es ++ [e])
  | [], os, e, _, h => ⟨h, trivial⟩
  | x :: es, os, e, w, h => ⟨w.1, EWf.snoc w.2 h⟩
theorem lastI_get {h : Int} (hs : List Int) : ∀ {j : Nat}, lastI h hs = some j → hs[j]? = some h ∧ ∀ k, j < k → hs[k]? ≠ some h := by
  suffices key : ∀ n (hs : List Int), hs.length = n → ∀ {j : Nat}, lastI h hs = some j → hs[j]? = some h ∧ ∀ k, j < k → hs[k]? ≠ some h from fun {j} hj => key _ hs rfl hj
  intro n
  induction n with
  | zero => intro hs e j hj; have := lastI_lt hj; omega
  | succ n ih =>
    intro hs e j hj
    have ne : hs ≠ [] := fun z => by rw [z] at e; cases e
    obtain ⟨ts, t, rfl⟩ : ∃ ts t, hs = ts ++ [t] := ⟨hs.dropLast, hs.getLast ne, (List.dropLast_concat_getLast ne).symm⟩
    rw [List.length_append] at e
    have e : ts.length = n := by simpa using e
    rw [lastI_snoc] at hj
    by_cases z : t = h
    · rw [if_pos z] at hj
      cases hj
      refine ⟨by simp [z], fun k hk => ?_⟩
      rw [List.getElem?_eq_none (by rw [List.length_append]; show ts.length + 1 ≤ k; omega)]
      intro y; cases y
    · rw [if_neg z] at hj
      obtain ⟨h1, h2⟩ := ih ts e hj
      have lt := lastI_lt hj
      refine ⟨by rw [List.getElem?_append_left lt]; exact h1, fun k hk => ?_⟩
      by_cases y : k < ts.length
      · rw [List.getElem?_append_left y]; exact h2 k hk
      · by_cases y2 : k = ts.length
        · subst y2
          rw [List.getElem?_append_right (Nat.le_refl _)]
          simp
          exact z
        · rw [List.getElem?_eq_none (by rw [List.length_append]; show ts.length + 1 ≤ k; omega)]
          intro y; cases y
theorem lastI_some {h : Int} (hs : List Int) (hm : h ∈ hs) : (lastI h hs).isSome = true := by
  suffices key : ∀ n (hs : List Int), hs.length = n → h ∈ hs → (lastI h hs).isSome = true from key _ hs rfl hm
  intro n
  induction n with
  | zero => intro hs e hm; rw [List.length_eq_zero_iff.mp e] at hm; cases hm
  | succ n ih =>
    intro hs e hm
    have ne : hs ≠ [] := fun z => by rw [z] at e; cases e
    obtain ⟨ts, t, rfl⟩ : ∃ ts t, hs = ts ++ [t] := ⟨hs.dropLast, hs.getLast ne, (List.dropLast_concat_getLast ne).symm⟩
    rw [List.length_append] at e
    rw [lastI_snoc]
    by_cases z : t = h
    · rw [if_pos z]; rfl
    · rw [if_neg z]
      refine ih ts (by simpa using e) ?_
      rcases List.mem_append.mp hm with y | y
      · exact y
      · exact absurd (List.mem_singleton.mp y).symm z
structure DInv (i : Nat) (rs : List Rc) (os : List Int) : Prop where
  b : ∀ r ∈ rs, r.b < i
  e : ∀ r ∈ rs, ∀ e, r.e = some e → e < i
  p : ∀ (x y : Nat) (r q : Rc), x < y → rs[x]? = some r → rs[y]? = some q → r.b < q.b ∧ (r.h = q.h → ∃ e, r.e = some e ∧ e < q.b)
  o : ∀ r ∈ rs, r.h ∉ os → r.e.isSome = true
  m : ∀ h ∈ os, h ∈ rs.map Rc.h
theorem DInv.nil : DInv 0 [] [] := ⟨fun _ h => (by cases h), fun _ h => (by cases h), fun x y r q _ h => (by simp at h), fun _ h => (by cases h), fun _ h => (by cases h)⟩
theorem modify_h {rs : List Rc} {j : Nat} {f : Rc → Rc} (hf : ∀ r, (f r).h = r.h) : (rs.modify j f).map Rc.h = rs.map Rc.h := by
  apply List.ext_getElem?
  intro m
  rw [List.getElem?_map, List.getElem?_map, List.getElem?_modify]
  cases rs[m]? with
  | none => rfl
  | some r =>
    show some (if j = m then f r else r).h = some r.h
    by_cases z : j = m
    · rw [if_pos z, hf]
    · rw [if_neg z]
theorem DInv.step {i : Nat} {rs : List Rc} {os : List Int} (I : DInv i rs os) {e : Ev} (ok : oOk os e) : DInv (i + 1) (dstep i rs e) (oStep os e) ∧ ∀ h a, e = .fin h a → (lastI h (rs.map Rc.h)).isSome = true := by
  cases e with
  | beg h n v x =>
    have ok : h ∉ os := ok
    refine ⟨⟨fun r hr => ?_, fun r hr e he => ?_, fun x' y' r q hxy hx hy => ?_, fun r hr ho => ?_, fun k hk => ?_⟩, fun h a e => by cases e⟩
    · rcases List.mem_append.mp hr with z | z
      · have := I.b r z; omega
      · rw [List.mem_singleton.mp z]; exact Nat.lt_succ_self i
    · rcases List.mem_append.mp hr with z | z
      · have := I.e r z e he; omega
      · rw [List.mem_singleton.mp z] at he; cases he
    · have hy' : y' < (dstep i rs (.beg h n v x)).length := (List.getElem?_eq_some_iff.mp hy).1
      have hl : (dstep i rs (.beg h n v x)).length = rs.length + 1 := by show (rs ++ [_]).length = _; rw [List.length_append]; rfl
      have hx2 : rs[x']? = some r := by
        have : (rs ++ [_])[x']? = some r := hx
        rwa [List.getElem?_append_left (by omega)] at this
      by_cases z : y' < rs.length
      · have hy2 : rs[y']? = some q := by
          have : (rs ++ [_])[y']? = some q := hy
          rwa [List.getElem?_append_left z] at this
        exact I.p x' y' r q hxy hx2 hy2
      · have hy3 : (rs ++ [_])[y']? = some q := hy
        have ey : y' = rs.length := by omega
        subst ey
        rw [List.getElem?_append_right (Nat.le_refl _)] at hy3
        simp at hy3
        have mr := List.mem_of_getElem? hx2
        rw [← hy3]
        refine ⟨I.b r mr, fun hh => ?_⟩
        have : r.e.isSome = true := I.o r mr (by rw [hh]; exact ok)
        obtain ⟨e, he⟩ := Option.isSome_iff_exists.mp this
        exact ⟨e, he, I.e r mr e he⟩
    · rcases List.mem_append.mp hr with z | z
      · exact I.o r z fun y => ho (List.mem_append.mpr (.inl y))
      · rw [List.mem_singleton.mp z] at ho
        exact absurd (List.mem_append.mpr (.inr (List.mem_singleton.mpr rfl))) ho
    · show k ∈ (rs ++ [_]).map Rc.h
      rw [List.map_append]
      rcases List.mem_append.mp hk with z | z
      · exact List.mem_append.mpr (.inl (I.m k z))
      · rw [List.mem_singleton.mp z]
        exact List.mem_append.mpr (.inr (List.mem_singleton.mpr rfl))
  | fin h a =>
    have ok : h ∈ os := ok
    obtain ⟨j, hj⟩ := Option.isSome_iff_exists.mp (lastI_some _ (I.m h ok))
    refine ⟨?_, fun h' a' e => by cases e; rw [hj]; rfl⟩
    obtain ⟨g1, g2⟩ := lastI_get _ hj
    have hd : dstep i rs (.fin h a) = rs.modify j (fun r => { r with a := a, e := some i }) := by unfold dstep; dsimp only; rw [hj]
    rw [hd]
    have hs : oStep os (.fin h a) = os.filter fun k => decide (k ≠ h) := rfl
    rw [hs]
    rw [List.getElem?_map] at g1
    obtain ⟨rj, ej, hjh⟩ := Option.map_eq_some_iff.mp g1
    have get : ∀ m q, (rs.modify j (fun r => { r with a := a, e := some i }))[m]? = some q → ∃ r, rs[m]? = some r ∧ q.h = r.h ∧ q.b = r.b ∧ (m = j → q.e = some i) ∧ (m ≠ j → q = r) := fun m q hq => by
      rw [List.getElem?_modify] at hq
      obtain ⟨r, hr, e⟩ := Option.map_eq_some_iff.mp hq
      refine ⟨r, hr, ?_⟩
      by_cases z : j = m
      · rw [if_pos z] at e
        rw [← e]
        exact ⟨rfl, rfl, fun _ => rfl, fun y => absurd z.symm y⟩
      · rw [if_neg z] at e
        rw [← e]
        exact ⟨rfl, rfl, fun y => absurd y.symm z, fun _ => rfl⟩
    refine ⟨fun r hr => ?_, fun r hr e he => ?_, fun x' y' r q hxy hx hy => ?_, fun r hr ho => ?_, fun k hk => ?_⟩
    · obtain ⟨m, hm⟩ := List.mem_iff_getElem?.mp hr
      obtain ⟨r', h1, _, h3, _⟩ := get m r hm
      have := I.b r' (List.mem_of_getElem? h1)
      omega
    · obtain ⟨m, hm⟩ := List.mem_iff_getElem?.mp hr
      obtain ⟨r', h1, _, _, h4, h5⟩ := get m r hm
      by_cases z : m = j
      · rw [h4 z] at he
        cases he
        exact Nat.lt_succ_self i
      · rw [h5 z] at he
        have := I.e r' (List.mem_of_getElem? h1) e he
        omega
    · obtain ⟨r', r1, r2, r3, r4, r5⟩ := get x' r hx
      obtain ⟨q', q1, q2, q3, _⟩ := get y' q hy
      obtain ⟨p1, p2⟩ := I.p x' y' r' q' hxy r1 q1
      refine ⟨by omega, fun hh => ?_⟩
      by_cases z : x' = j
      · subst z
        rw [ej] at r1
        cases r1
        refine absurd ?_ (g2 y' hxy)
        rw [List.getElem?_map, q1]
        show some q'.h = some h
        rw [← q2, ← hh, r2, hjh]
      · rw [r5 z] at hh ⊢
        rw [q2] at hh
        obtain ⟨e, he, lt⟩ := p2 hh
        exact ⟨e, he, by omega⟩
    · obtain ⟨m, hm⟩ := List.mem_iff_getElem?.mp hr
      obtain ⟨r', h1, h2, _, h4, h5⟩ := get m r hm
      by_cases z : m = j
      · rw [h4 z]; rfl
      · rw [h5 z] at ho ⊢
        by_cases y : r'.h = h
        · have lt : m < j := by
            rcases Nat.lt_or_gt_of_ne z with l | l
            · exact l
            · exact absurd (by rw [List.getElem?_map, h1]; show some r'.h = _; rw [y]) (g2 m l)
          obtain ⟨_, p2⟩ := I.p m j r' rj lt h1 ej
          obtain ⟨e, he, _⟩ := p2 (by rw [y, hjh])
          rw [he]; rfl
        · exact I.o r' (List.mem_of_getElem? h1) fun w => ho (List.mem_filter.mpr ⟨w, decide_eq_true y⟩)
    · rw [modify_h (f := fun r => { r with a := a, e := some i }) (fun r => rfl)]
      exact I.m k (List.mem_filter.mp hk).1
theorem DInv.all : ∀ {es : List Ev} {i : Nat} {rs : List Rc} {os : List Int}, DInv i rs os → EWf os es → dWf i rs es ∧ ∃ os', DInv (i + es.length) (dAll i rs es) os'
  | [], i, rs, os, I, _ => ⟨trivial, os, I⟩
  | e :: es, i, rs, os, I, w => by
    obtain ⟨I1, h1⟩ := I.step w.1
    obtain ⟨h2, os', I2⟩ := DInv.all I1 w.2
    refine ⟨⟨h1, h2⟩, os', ?_⟩
    rw [List.length_cons, show i + (es.length + 1) = i + 1 + es.length by omega]
    exact I2
theorem keys_drop {kvs : List (Key × V)} {h : Int} : ∀ {os : List Int}, kvs.map (·.1) = os.map Sum.inl → (dropK kvs (.inl h)).map (·.1) = (os.filter fun k => decide (k ≠ h)).map Sum.inl := by
  induction kvs with
  | nil => intro os e; cases os with | nil => rfl | cons o os => cases e
  | cons p r ih =>
    intro os e
    cases os with
    | nil => cases e
    | cons o os =>
      rw [List.map_cons, List.map_cons] at e
      injection e with e1 e2
      by_cases z : o = h
      · rw [dropK_pos (by rw [e1, z]), List.filter_cons_of_neg (by simp [z])]
        exact ih e2
      · rw [dropK_neg (by rw [e1]; exact fun y => z (Sum.inl.inj y)), List.filter_cons_of_pos (by simp [z]), List.map_cons, List.map_cons, e1, ih e2]
theorem forall2_mem {α β : Type} {R S : α → β → Prop} : ∀ {xs : List α} {ys : List β}, (∀ a b, b ∈ ys → R a b → S a b) → All2 R xs ys → All2 S xs ys
  | _, _, _, .nil => .nil
  | _, _, h, .cons a r => .cons (h _ _ List.mem_cons_self a) (forall2_mem (fun x y hy z => h x y (List.mem_cons_of_mem _ hy) z) r)
theorem all2_of_get {α β : Type} {R : α → β → Prop} : ∀ {xs : List α} {ys : List β}, ys.length = xs.length → (∀ (k : Nat) a b, xs[k]? = some a → ys[k]? = some b → R a b) → All2 R xs ys
  | [], [], _, _ => .nil
  | [], y :: ys, h, _ => by cases h
  | x :: xs, [], h, _ => by cases h
  | x :: xs, y :: ys, h, f => .cons (f 0 x y rfl rfl) (all2_of_get (by simpa using h) fun k a b ha hb => f (k + 1) a b (by rw [List.getElem?_cons_succ]; exact ha) (by rw [List.getElem?_cons_succ]; exact hb))
end
end K64
namespace K64
open PySem PySem.Spec PyProof.Rows TJ L2
section
variable {P : Program} {w : World} {mg : Str → Option Value} {base : Heap}
def sp_thing_named (K : PySem.W.Frag) : Sp := fun vs H Q E => ∃ (t pt : Addr) (ev : V) (ts : List (Str × Str)) (nm : Str), vs = [.ref t, .str nm] ∧ SqT K H t [.ref pt, ev] ∧ ThAt H pt ts ∧ ts.length ≤ 6 ∧
  ((nm ∈ ts.map (·.1) ∧ ∀ b k, (nm, k) ∈ ts → H b = some (.tup [.str nm, .str k]) → Q (.ref b) H) ∨ (nm ∉ ts.map (·.1) ∧ E (.ref 73) none H))
theorem ok_thing_named (T : TX (KX w.params) mg) : FnOk P w (KX w.params) mg base (CXE P w base) 1 166 fd_thing_named ["tale", "name"] (sp_thing_named (KX w.params)) := by
  refine (F_thing_named w.params).okE sc_thing_named (fun vs H Q E h => ?_) (fun cdv A outer s H vs Q E hr h => ?_)
  · obtain ⟨t, pt, ev, ts, nm, rfl, _⟩ := h
    rfl
  · obtain ⟨t, pt, ev, ts, nm, rfl, st, ⟨yt, eyt, alt⟩, l6, h⟩ := h
    refine ⟨_, (pss_cons (ps_if (pt_val (pe_callB call_isinst rfl (T.no (n_isinstance _)) boot_isinstance (pa_cons (pv 1) (pa_cons (pe_bltn (v := .ty "str") rfl (T.no (n_str _)) boot_str rfl) pa_nil))) (fun _ => rfl))
      (pss_one (PS.nox (ps_for PassesOwn.never rfl (pi_tup (pe_ix ix_seq (pv 0) pe_int (fun _ _ => rfl))) (pg_name (i := 2) sc_thing_named.nd rfl (by first | exact Or.inl rfl | exact Or.inr rfl))
      (pss_one (ps_if (pt_cmpR opEq (pe_ix ix_seq (pv 2) pe_int (fun _ _ => rfl)) (pv 1) (nomark _))
      (pss_one (ps_ret (pv 2)))
      pss_nil)))))
      pss_nil)
      (pss_one (ps_raiseE F.excBase_ValueError (T.of (g_NoThing _)) (x_NoThing _) rfl (pa_cons pe_str pa_nil)))), ?_⟩
    have len : yt.length = ts.length := forall2_len alt
    refine ⟨_, rfl, _, _, "str", rfl, rfl, by decide +kernel, _, rfl, iteP (by decide) ?_⟩
    refine ⟨_, rfl, .inr (.inl ⟨t, _, 0, .ref pt, rfl, rfl, st, atI_nat (j := 0) rfl, pt, rfl, ⟨_, SqT.of eyt⟩, ?_⟩)⟩
    refine for_tup (K := KX w.params) (a := pt) (xs := yt) (fun i σ H' => H' = H ∧ (∀ j t, j < i → ts[j]? = some t → t.1 ≠ nm) ∧ ∃ x2, σ = [some (.ref t), some (.str nm), x2]) ⟨rfl, fun j t hj => absurd hj (Nat.not_lt_zero _), _, rfl⟩ (fun _ σ H' _ h => by rw [h.1]; exact SqT.of eyt) ?_ ?_
    · rintro i y σ H' hy ⟨rfl, hno, x2, rfl⟩
      obtain ⟨tt, ht, b, rfl, eb⟩ := all2_get alt hy
      refine g_name ?_
      refine ⟨_, rfl, .inr (.inl ⟨b, _, 0, .str tt.1, rfl, rfl, SqT.of eb, atI_nat (j := 0) rfl, _, rfl, rfl, _, rfl, ?_⟩)⟩
      by_cases z : tt.1 = nm
      · refine iteP (decide_eq_true (by rw [z])) ⟨_, rfl, ?_⟩
        have hm := List.mem_of_getElem? ht
        rcases h with ⟨_, q⟩ | ⟨hn, _⟩
        · exact q b tt.2 (by rw [← z]; exact hm) (by rw [← z]; exact eb)
        · exact absurd (List.mem_map.mpr ⟨tt, hm, z⟩) hn
      · refine iteN (fun e => z (by have := of_decide_eq_true e; injection this)) ⟨rfl, fun j t' hj ht' => ?_, _, rfl⟩
        rcases Nat.lt_or_ge j i with y | y
        · exact hno j t' y ht'
        · have : j = i := by omega
          subst this
          rw [ht] at ht'
          cases ht'
          exact z
    · rintro σ H' ⟨rfl, hno, x2, rfl⟩
      refine ⟨(show (1 : Nat) ≤ sizeLine by decide), ?_⟩
      rcases h with ⟨hm, _⟩ | ⟨_, e⟩
      · obtain ⟨tt, ht, e⟩ := List.mem_map.mp hm
        obtain ⟨j, hj⟩ := List.mem_iff_getElem?.mp ht
        exact absurd e (hno j tt (by rw [len]; exact (List.getElem?_eq_some_iff.mp hj).1) hj)
      · exact e
end
end K64
namespace K64
open PySem PySem.Spec PyProof.Rows TJ L2
section
variable {P : Program} {w : World} {mg : Str → Option Value} {base : Heap}
def nmS : V → Str
  | .str z => z
  | _ => ""
def EvS : Ev → Prop
  | .beg _ n _ _ => n = .str (nmS n)
  | .fin _ _ => True
theorem dstep_names {i : Nat} {rs : List Rc} {e : Ev} (h : ∀ r ∈ rs, r.n = .str (nmS r.n)) (he : EvS e) : ∀ r ∈ dstep i rs e, r.n = .str (nmS r.n) := by
  cases e with
  | beg hd n v x =>
    intro r hr
    rcases List.mem_append.mp hr with z | z
    · exact h r z
    · rw [List.mem_singleton.mp z]; exact he
  | fin hd a =>
    unfold dstep
    dsimp only
    cases lastI hd (rs.map Rc.h) with
    | none => exact h
    | some j =>
      intro r hr
      obtain ⟨m, hm⟩ := List.mem_iff_getElem?.mp hr
      rw [List.getElem?_modify] at hm
      obtain ⟨r', hr', e⟩ := Option.map_eq_some_iff.mp hm
      by_cases z : j = m
      · rw [if_pos z] at e
        rw [← e]
        exact h r' (List.mem_of_getElem? hr')
      · rw [if_neg z] at e
        rw [← e]
        exact h r' (List.mem_of_getElem? hr')
theorem dAll_names : ∀ {es : List Ev} {i : Nat} {rs : List Rc}, (∀ r ∈ rs, r.n = .str (nmS r.n)) → (∀ e ∈ es, EvS e) → ∀ r ∈ dAll i rs es, r.n = .str (nmS r.n)
  | [], _, _, h, _ => h
  | e :: es, i, rs, h, he => dAll_names (es := es) (i := i + 1) (rs := dstep i rs e) (dstep_names h (he e List.mem_cons_self)) fun x hx => he x (List.mem_cons_of_mem _ hx)
theorem dAll_le {es : List Ev} (h : es.length ≤ 100) : (dAll 0 [] es).length ≤ 100 := by
  have hstep : ∀ (i : Nat) (rs : List Rc) (e : Ev), (dstep i rs e).length ≤ rs.length + 1 := fun i rs e => by
    cases e with
    | beg hd n v x => show (rs ++ [_]).length ≤ _; rw [List.length_append]; exact Nat.le_refl _
    | fin hd a =>
      unfold dstep
      dsimp only
      cases lastI hd (rs.map Rc.h) with
      | none => exact Nat.le_succ _
      | some j => show (rs.modify j _).length ≤ _; rw [List.length_modify]; exact Nat.le_succ _
  have go : ∀ (es : List Ev) (i : Nat) (rs : List Rc), (dAll i rs es).length ≤ rs.length + es.length := by
    intro es
    induction es with
    | nil => intro i rs; exact Nat.le_refl _
    | cons e es ih =>
      intro i rs
      have h1 := ih (i + 1) (dstep i rs e)
      have h2 := hstep i rs e
      show (dAll (i + 1) (dstep i rs e) es).length ≤ _
      rw [List.length_cons]
      omega
  have := go es 0 []
  rw [List.length_nil, Nat.zero_add] at this
  omega
structure TalA (K : PySem.W.Frag) (H : Hp) (t pt te : Addr) (ts : List (Str × Str)) (es : List Ev) (ys : List V) : Prop where
  t : SqT K H t [.ref pt, .ref te]
  th : ThAt H pt ts
  l6 : ts.length ≤ 6
  te : SqT K H te ys
  ev : All2 (EvAt K H) es ys
  ln : es.length ≤ 100
  wf : dWf 0 [] es
  nm : ∀ e ∈ es, EvS e
theorem TalA.same {K : PySem.W.Frag} {H H' : Hp} {t pt te : Addr} {ts : List (Str × Str)} {es : List Ev} {ys : List V} (s : Same H H') (h : TalA K H t pt te ts es ys) : TalA K H' t pt te ts es ys :=
  ⟨s.seqT h.t, h.th.tt (.of (K := K) s), h.l6, s.seqT h.te, forall2_mono (fun _ _ z => EvAt.tups (.of s) z) h.ev, h.ln, h.wf, h.nm⟩
def isN (nm : Str) (rs : List Rc) (i : Nat) : Bool := match rs[i]? with | some r => decide (nmS r.n = nm) | none => false
theorem ret_e {te : TE} {D : Ends} {σ : L2.St} {H : Hp} (h : te σ H D.rt) : tRet te D σ H := h
def sp_numbers_of (K : PySem.W.Frag) : Sp := fun vs H Q E => ∃ (t pt te : Addr) (ts : List (Str × Str)) (es : List Ev) (ys : List V) (nm : Str), vs = [.ref t, .str nm] ∧ TalA K H t pt te ts es ys ∧
  ((nm ∈ ts.map (·.1) ∧ ∀ l H', Same H H' → H l = none → H' l = some (.lst (((List.range (dAll 0 [] es).length).filter (isN nm (dAll 0 [] es))).map fun i => V.int (i : Nat))) → Q (.ref l) H') ∨ (nm ∉ ts.map (·.1) ∧ E (.ref 73) none H))
theorem all2_ints : ∀ {is : List Nat} {ys : List V}, All2 (fun (i : Nat) y => y = V.int (i : Nat)) is ys → ys = is.map fun i => V.int (i : Nat)
  | _, _, .nil => rfl
  | _, _, .cons a r => by rw [List.map_cons, ← all2_ints r, a]
theorem ok_numbers_of (T : TX (KX w.params) mg) (c_thing_named : CalE P w (KX w.params) mg base "thing_named" ["tale", "name"] 1 (sp_thing_named (KX w.params))) (c_deeds : Cal P w (KX w.params) mg base "deeds" ["tale"] 1 (sp_deeds (KX w.params))) : FnOk P w (KX w.params) mg base (CXE P w base) 2 171 fd_numbers_of ["tale", "name"] (sp_numbers_of (KX w.params)) := by
  refine (F_numbers_of w.params).okE sc_numbers_of (fun vs H Q E h => ?_) (fun cdv A outer s H vs Q E hr h => ?_)
  · obtain ⟨t, pt, te, ts, es, ys, nm, rfl, _⟩ := h
    rfl
  · obtain ⟨t, pt, te, ts, es, ys, nm, rfl, ta, h⟩ := h
    refine ⟨_, (pss_cons (ps_set (i := 2) sc_numbers_of.nd rfl (by first | exact Or.inl rfl | exact Or.inr rfl) (pe_calE passE c_thing_named (hr.mono (by first | decide | omega)) rfl (pa_cons (pv 0) (pa_cons (pv 1) pa_nil))))
      (pss_one (ps_ret (pe_compG (xs := ["number", "deed"]) (g := gTup (KX w.params) 2 (gCons (gName 0) (gCons (gName 1) gNil))) (fr := [(2, "thing")]) rfl (pi_enumL rfl (T.no (n_enumerate _)) (pa_cons (pe_cal c_deeds (hr.mono (by first | decide | omega)) rfl (pa_cons (pv 0) pa_nil)) pa_nil)) (by intro p hp; obtain rfl := List.mem_singleton.mp hp; first | exact ⟨rfl, .inl rfl⟩ | exact ⟨rfl, .inr rfl⟩) (free_one (n := "thing") (by decide +kernel) (fun _ => by first | exact .inl rfl | exact .inr rfl)) (by intro p hp; obtain rfl := List.mem_singleton.mp hp; exact ⟨by decide +kernel, by first | exact .inl rfl | exact .inr rfl⟩) (by decide +kernel) rfl (by decide +kernel) (fun _ _ _ _ _ => (pg_tup rfl (pgs_cons (pg_cname (N := ["number", "deed", "thing"]) 0 (by decide +kernel) rfl rfl) (pgs_cons (pg_cname (N := ["number", "deed", "thing"]) 1 (by decide +kernel) rfl rfl) pgs_nil)))) (fun _ _ _ _ _ => (pf_one (pt_cmpR opEq (pe_ix (ix_seqK (K := KX w.params) rfl) (pv 1) pe_int (fun _ _ => rfl)) (pe_ix (ix_seqK (K := KX w.params) rfl) (pv 2) pe_int (fun _ _ => rfl)) (nomark _)))) (fun _ _ _ _ _ => (pv 0)))))), ?_⟩
    rcases h with ⟨hm, q⟩ | ⟨hn, e⟩
    · refine ⟨_, rfl, _, rfl, t, pt, _, ts, nm, rfl, ta.t, ta.th, ta.l6, .inl ⟨hm, fun b k hk eb => ?_⟩⟩
      refine g_name (t_nx (ret_e ?_))
      have nms := dAll_names (i := 0) (rs := []) (fun _ z => absurd z List.not_mem_nil) ta.nm
      have len := dAll_le ta.ln
      refine tcompE_L (K := KX w.params) (fun a xs H1 => Same H H1 ∧ H a = none ∧ H1 a = some (.lst xs) ∧ All2 (RcAt (KX w.params) H1) (dAll 0 [] es) xs) (fun T' hT => ⟨_, rfl, t, te, .ref pt, ys, es, rfl, ta.t, ta.te, ta.ev, ta.ln, ta.wf, fun l zs H1 s1 hl0 el al1 => hT l zs H1 ⟨s1, hl0, el, al1⟩⟩) (fun a xs H1 pr => ⟨SqL.of pr.2.2.1, by rw [forall2_len pr.2.2.2]; exact Nat.le_trans len (by decide)⟩) (fun _ _ _ i => isN nm (dAll 0 [] es) i) (fun i y _ => y = .int (i : Nat)) (fun _ _ _ _ _ z => z) ?_ ?_
      · rintro a xs H1 ⟨s1, ha, ea, al⟩ i hi v H2 s2 ⟨x, p', hx, rfl, ep⟩ KT KF h1 h2
        obtain ⟨r, hr1, px, rfl, sx⟩ := all2_get al hx
        have hn := nms r (List.mem_of_getElem? hr1)
        have isn : isN nm (dAll 0 [] es) i = decide (nmS r.n = nm) := by unfold isN; rw [hr1]
        rw [isn] at h1 h2
        refine ⟨p', _, rfl, SqT.of ep, rfl, _, _, rfl, _, _, rfl, rfl, [some (.int (i : Nat)), some (.ref px)], rfl, rfl, ?_⟩
        refine ⟨_, rfl, .inr (.inl ⟨px, _, 1, .str (nmS r.n), rfl, rfl, s2.seqT sx, atI_nat (j := 1) (by rw [← hn]; rfl), _, rfl, .inr (.inl ⟨b, _, 0, .str nm, rfl, rfl, SqT.of (s2 _ _ (s1 _ _ eb)), atI_nat (j := 0) rfl, rfl, _, rfl, ?_⟩)⟩)⟩
        by_cases z : nmS r.n = nm
        · exact iteP (decide_eq_true (by rw [z])) ⟨_, rfl, h1 (decide_eq_true z) _ _ (Same.refl _) rfl⟩
        · exact iteN (fun e => z (by have := of_decide_eq_true e; injection this)) (h2 (decide_eq_false z) _ (Same.refl _))
      · rintro a xs H1 ⟨s1, ha, ea, al⟩ l H2 zs s2 hl al2
        have ez := all2_ints al2
        rw [forall2_len al] at ez
        exact q l _ ((s1.trans s2).trans (Same.upd hl)) ((s1.trans s2).free hl) (by rw [upd_same, ez])
    · exact ⟨_, rfl, _, rfl, t, pt, _, ts, nm, rfl, ta.t, ta.th, ta.l6, .inr ⟨hn, e⟩⟩
def plV (nm : Str) (rs : List Rc) : List V := (rs.filter fun r => decide (nmS r.n = nm)).flatMap fun r => [V.int r.b, endV r.e]
def inP (nm : Str) (rs : List Rc) (i : Nat) : Bool := inV (.int (i : Nat)) (plV nm rs)
def selV (nm : Str) (rs : List Rc) (ys : List V) : List V := ((List.range ys.length).filter (inP nm rs)).filterMap fun i => ys[i]?
theorem plV_flat (nm : Str) (rs : List Rc) : (plV nm rs).all flatV = true := by
  rw [List.all_eq_true]
  intro y hy
  obtain ⟨r, _, h⟩ := List.mem_flatMap.mp hy
  simp only [List.mem_cons, List.not_mem_nil, or_false] at h
  rcases h with rfl | rfl
  · rfl
  · cases r.e <;> rfl
theorem plV_len (nm : Str) (rs : List Rc) : (plV nm rs).length ≤ 2 * rs.length := by
  have go : ∀ xs : List Rc, (xs.flatMap fun r => [V.int r.b, endV r.e]).length = 2 * xs.length := by
    intro xs
    induction xs with
    | nil => rfl
    | cons x xs ih =>
      have e : ((x :: xs).flatMap fun r => [V.int r.b, endV r.e]).length = 2 + (xs.flatMap fun r => [V.int r.b, endV r.e]).length := by rw [List.flatMap_cons, List.length_append]; rfl
      rw [e, ih, List.length_cons]
      omega
  unfold plV
  rw [go]
  have := List.length_filter_le (fun r : Rc => decide (nmS r.n = nm)) rs
  omega
theorem all2_sel {ys : List V} : ∀ {is : List Nat} {zs : List V}, All2 (fun (i : Nat) y => ys[i]? = some y) is zs → zs = is.filterMap fun i => ys[i]?
  | _, _, .nil => rfl
  | _, _, .cons a r => by rw [List.filterMap_cons_some a, ← all2_sel r]
def sp_part (K : PySem.W.Frag) : Sp := fun vs H Q E => ∃ (t pt te : Addr) (ts : List (Str × Str)) (es : List Ev) (ys : List V) (nm : Str), vs = [.ref t, .str nm] ∧ TalA K H t pt te ts es ys ∧
  ((nm ∈ ts.map (·.1) ∧ ∀ p a b c k H', Same H H' → H' p = some (.tup [.ref a, .ref b]) → H' a = some (.tup [.ref c]) → (nm, k) ∈ ts → H' c = some (.tup [.str nm, .str k]) → H' b = some (.tup (selV nm (dAll 0 [] es) ys)) → Q (.ref p) H') ∨ (nm ∉ ts.map (·.1) ∧ E (.ref 73) none H))
theorem ok_part (T : TX (KX w.params) mg) (c_thing_named : CalE P w (KX w.params) mg base "thing_named" ["tale", "name"] 1 (sp_thing_named (KX w.params))) (c_deeds : Cal P w (KX w.params) mg base "deeds" ["tale"] 1 (sp_deeds (KX w.params))) : FnOk P w (KX w.params) mg base (CXE P w base) 2 159 fd_part ["tale", "name"] (sp_part (KX w.params)) := by
  refine (F_part w.params).okE sc_part (fun vs H Q E h => ?_) (fun cdv A outer s H vs Q E hr h => ?_)
  · obtain ⟨t, pt, te, ts, es, ys, nm, rfl, _⟩ := h
    rfl
  · obtain ⟨t, pt, te, ts, es, ys, nm, rfl, ta, h⟩ := h
    refine ⟨_, (pss_cons (ps_set (i := 2) sc_part.nd rfl (by first | exact Or.inl rfl | exact Or.inr rfl) (pe_calE passE c_thing_named (hr.mono (by first | decide | omega)) rfl (pa_cons (pv 0) (pa_cons (pv 1) pa_nil))))
      (pss_cons (ps_set (i := 3) sc_part.nd rfl (by first | exact Or.inl rfl | exact Or.inr rfl) (pe_lst pa_nil))
      (pss_cons (PS.nox (ps_for PassesOwn.never rfl (pi_list (pe_cal c_deeds (hr.mono (by first | decide | omega)) rfl (pa_cons (pv 0) pa_nil))) (pg_name (i := 4) sc_part.nd rfl (by first | exact Or.inl rfl | exact Or.inr rfl))
      (pss_one (ps_if (pt_cmpR opEq (pe_ix ix_seq (pv 4) pe_int (fun _ _ => rfl)) (pv 1) (nomark _))
      (pss_one (ps_expr (pe_extendT (pv 3) (pa_cons (pe_slice slSeq (pv 4) (po_some pe_int) po_none) pa_nil))))
      pss_nil))))
      (pss_one (ps_ret (pe_tup (pa_cons (pe_tup (pa_cons (pv 2) pa_nil)) (pa_cons (pe_callTy call_tuple_of rfl (T.no (n_tuple _)) boot_tuple (pa_cons (pe_compG (xs := ["place", "event"]) (g := gTup (KX w.params) 2 (gCons (gName 0) (gCons (gName 1) gNil))) (fr := [(3, "places")]) rfl (pi_enumT rfl (T.no (n_enumerate _)) (pa_cons (pe_ix ix_seq (pv 0) pe_int (fun _ _ => rfl)) pa_nil)) (by intro p hp; obtain rfl := List.mem_singleton.mp hp; first | exact ⟨rfl, .inl rfl⟩ | exact ⟨rfl, .inr rfl⟩) (free_one (n := "places") (by decide +kernel) (fun _ => by first | exact .inl rfl | exact .inr rfl)) (by intro p hp; obtain rfl := List.mem_singleton.mp hp; exact ⟨by decide +kernel, by first | exact .inl rfl | exact .inr rfl⟩) (by decide +kernel) rfl (by decide +kernel) (fun _ _ _ _ _ => (pg_tup rfl (pgs_cons (pg_cname (N := ["place", "event", "places"]) 0 (by decide +kernel) rfl rfl) (pgs_cons (pg_cname (N := ["place", "event", "places"]) 1 (by decide +kernel) rfl rfl) pgs_nil)))) (fun _ _ _ _ _ => (pf_one (pt_cmpR (op_in_seqK (K := KX w.params) rfl) (pv 0) (pv 2) (by with_unfolding_all rfl)))) (fun _ _ _ _ _ => (pv 1))) pa_nil)) pa_nil)))))))), ?_⟩
    rcases h with ⟨hm, q⟩ | ⟨hn, e⟩
    · refine ⟨_, rfl, _, rfl, t, pt, _, ts, nm, rfl, ta.t, ta.th, ta.l6, .inl ⟨hm, fun c k hk ec => ?_⟩⟩
      have nms := dAll_names (i := 0) (rs := []) (fun _ z => absurd z List.not_mem_nil) ta.nm
      have len := dAll_le ta.ln
      refine ⟨(show (0 : Nat) ≤ sizeLine by decide), fun lp hlp => ?_⟩
      have s1 := Same.upd (o := .lst []) hlp
      have e1 : upd H lp (.lst []) lp = some (.lst []) := upd_same
      generalize upd H lp (.lst []) = H1 at s1 e1 ⊢
      have ta1 := ta.same s1
      refine ⟨_, rfl, t, te, .ref pt, ys, es, rfl, ta1.t, ta1.te, ta1.ev, ta1.ln, ta1.wf, fun l zs H2 s2 hl0 el al2 => ⟨l, rfl, ⟨_, SqL.of el⟩, ?_⟩⟩
      have nlp : l ≠ lp := fun z => by rw [z, e1] at hl0; cases hl0
      generalize hrs : dAll 0 [] es = rs at al2 nms len q
      have lz : zs.length = rs.length := forall2_len al2
      refine for_list (K := KX w.params) (a := l) (xs := zs) (fun i σ H' => Same H H' ∧ H' l = some (.lst zs) ∧ All2 (RcAt (KX w.params) H') rs zs ∧ H' lp = some (.lst (plV nm (rs.take i))) ∧ ∃ x4, σ = [some (.ref t), some (.str nm), some (.ref c), some (.ref lp), x4]) ⟨s1.trans s2, el, al2, s2 _ _ e1, _, rfl⟩ (fun _ σ H' _ h => SqL.of h.2.1) ?_ ?_
      · rintro i x σ H3 hx ⟨s3, el3, al3, ep3, x4, rfl⟩
        obtain ⟨r, hr1, px, rfl, sx⟩ := all2_get al3 hx
        have hn := nms r (List.mem_of_getElem? hr1)
        have hil : i < rs.length := (List.getElem?_eq_some_iff.mp hr1).1
        have tk : rs.take (i + 1) = rs.take i ++ [r] := by rw [List.take_succ, hr1]; rfl
        refine g_name ?_
        refine ⟨_, rfl, .inr (.inl ⟨px, _, 1, .str (nmS r.n), rfl, rfl, sx, atI_nat (j := 1) (by rw [← hn]; rfl), _, rfl, rfl, _, rfl, ?_⟩)⟩
        have pn : plV nm (rs.take (i + 1)) = plV nm (rs.take i) ++ (if nmS r.n = nm then [V.int r.b, endV r.e] else []) := by
          unfold plV
          rw [tk, List.filter_append, List.flatMap_append]
          by_cases z : nmS r.n = nm
          · rw [if_pos z, show [r].filter (fun r => decide (nmS r.n = nm)) = [r] by simp [z]]; rfl
          · rw [if_neg z, show [r].filter (fun r => decide (nmS r.n = nm)) = [] by simp [z]]; rfl
        by_cases z : nmS r.n = nm
        · refine iteP (decide_eq_true (by rw [z])) ?_
          rw [if_pos z] at pn
          refine ⟨_, rfl, .inl ⟨rfl, _, SqL.of ep3⟩, _, rfl, _, rfl, .inr (.inl ⟨px, _, rfl, sx, fun y => absurd y.1 (show ¬ HT.sIx 7 0 (some 5) = 0 by decide), fun p4 hp4 => ?_⟩)⟩
          have c4 : cutV [.int r.h, r.n, r.v, r.x, r.a, .int r.b, endV r.e] (some 5) none = [V.int r.b, endV r.e] := rfl
          rw [c4]
          have s4 := Same.upd (o := .tup [V.int r.b, endV r.e]) hp4
          have e4 : upd H3 p4 (.tup [V.int r.b, endV r.e]) p4 = some (.tup [V.int r.b, endV r.e]) := upd_same
          generalize upd H3 p4 (.tup [V.int r.b, endV r.e]) = H4 at s4 e4 ⊢
          have ep4 := s4 _ _ ep3
          refine ⟨lp, p4, _, _, rfl, rfl, ep4, SqT.of e4, Nat.le_trans (m := 300) ?_ (by decide), ?_⟩
          · have h1 := plV_len nm (rs.take i)
            have h2 : (rs.take i).length ≤ rs.length := by rw [List.length_take]; omega
            show (plV nm (rs.take i)).length + 2 ≤ 300
            omega
          · rw [← pn]
            have T5 : Tups (KX w.params) H4 (upd H4 lp (.lst (plV nm (rs.take (i + 1))))) := Tups.lst ep4
            exact ⟨Same.keep (s3.trans s4) hlp, by rw [upd_ne nlp]; exact s4 _ _ el3, forall2_mono (fun _ _ y => RcAt.tups ((Tups.of s4).trans T5) y) al3, upd_same, _, rfl⟩
        · refine iteN (fun e => z (by have := of_decide_eq_true e; injection this)) ?_
          rw [if_neg z, List.append_nil] at pn
          exact ⟨s3, el3, al3, by rw [pn]; exact ep3, _, rfl⟩
      · rintro σ H3 ⟨s3, el3, al3, ep3, x4, rfl⟩
        rw [lz, List.take_length] at ep3
        refine ⟨_, rfl, (show (1 : Nat) ≤ sizeLine by decide), fun a ha => ?_⟩
        have s4 := Same.upd (o := .tup [.ref c]) ha
        have ea4 : upd H3 a (.tup [.ref c]) a = some (.tup [.ref c]) := upd_same
        have ep4 := s4 _ _ ep3
        have ta4 := ta.same (s3.trans s4)
        have s04 := s3.trans s4
        generalize upd H3 a (.tup [.ref c]) = H4 at s4 ea4 ep4 ta4 s04 ⊢
        refine cons_cb1 ?_
        refine tcompE_T (K := KX w.params) (a := te) (xs := ys) (fun i => inP nm rs i) (fun i y _ => ys[i]? = some y) (fun _ _ _ _ _ z => z) (fun T' h => ⟨_, rfl, .inr (.inl ⟨t, _, 1, .ref te, rfl, rfl, ta4.t, atI_nat (j := 1) rfl, h⟩)⟩) ta4.te ?_ ?_ ?_
        · rw [forall2_len ta4.ev]
          exact Nat.le_trans ta.ln (by decide)
        · rintro i hi v H5 s5 ⟨x, p', hx, rfl, ep⟩ KT KF h1 h2
          refine ⟨p', _, rfl, SqT.of ep, rfl, _, _, rfl, _, _, rfl, rfl, [some (.int (i : Nat)), some x], rfl, rfl, ?_⟩
          refine ⟨_, rfl, _, rfl, lp, _, rfl, .inl (SqL.of (s5 _ _ ep4)), rfl, plV_flat _ _, _, rfl, ?_⟩
          rw [if_neg Bool.false_ne_true]
          by_cases z : inP nm rs i = true
          · exact iteP z ⟨_, rfl, h1 z _ _ (Same.refl _) hx⟩
          · exact iteN z (h2 (by simpa using z) _ (Same.refl _))
        · intro l5 H5 zs5 s5 hl5 al5
          have ez := all2_sel al5
          subst ez
          have s6 := Same.upd (o := .lst (((List.range ys.length).filter fun i => inP nm rs i).filterMap fun i => ys[i]?)) hl5
          refine ⟨l5, _, rfl, .inl ⟨SqL.of upd_same, fun b hb => ⟨(show (2 : Nat) ≤ sizeLine by decide), fun p hp => ?_⟩⟩⟩
          have s7 := Same.upd (o := .tup (((List.range ys.length).filter fun i => inP nm rs i).filterMap fun i => ys[i]?)) hb
          have s8 := Same.upd (o := .tup [.ref a, .ref b]) hp
          have sx := ((s5.trans s6).trans s7).trans s8
          exact q p a b c k _ (s04.trans sx) upd_same (sx _ _ ea4) hk ((s04.trans sx) _ _ ec) (s8 _ _ upd_same)
    · exact ⟨_, rfl, _, rfl, t, pt, _, ts, nm, rfl, ta.t, ta.th, ta.l6, .inr ⟨hn, e⟩⟩
end
end K64
namespace K64
open PySem PySem.Spec PyProof.Rows TJ L2
section
variable {P : Program} {w : World} {mg : Str → Option Value} {base : Heap}
def DOpen (rs : List Rc) (os : List Int) : Prop := ∀ h ∈ os, ∀ j r, lastI h (rs.map Rc.h) = some j → rs[j]? = some r → r.e = none
theorem DOpen.step {i : Nat} {rs : List Rc} {os : List Int} (D : DOpen rs os) {e : Ev} (ok : oOk os e) : DOpen (dstep i rs e) (oStep os e) := by
  cases e with
  | beg h n v x =>
    intro k hk j r hj hr
    have hm : (dstep i rs (.beg h n v x)).map Rc.h = rs.map Rc.h ++ [h] := by show (rs ++ [_]).map Rc.h = _; rw [List.map_append]; rfl
    rw [hm, lastI_snoc] at hj
    have hr : (rs ++ [_])[j]? = some r := hr
    by_cases z : h = k
    · rw [if_pos z, List.length_map] at hj
      cases hj
      rw [List.getElem?_append_right (Nat.le_refl _), Nat.sub_self] at hr
      cases hr
      rfl
    · rw [if_neg z] at hj
      have hk : k ∈ os ++ [h] := hk
      have hk' : k ∈ os := (List.mem_append.mp hk).resolve_right fun y => z (List.mem_singleton.mp y).symm
      have lt := lastI_lt hj
      rw [List.length_map] at lt
      rw [List.getElem?_append_left lt] at hr
      exact D k hk' j r hj hr
  | fin h a =>
    intro k hk j r hj hr
    obtain ⟨hk1, hk2⟩ := List.mem_filter.mp (show k ∈ os.filter fun k => decide (k ≠ h) from hk)
    have hk2 : k ≠ h := of_decide_eq_true hk2
    cases hl : lastI h (rs.map Rc.h) with
    | none =>
      have hd : dstep i rs (.fin h a) = rs := by unfold dstep; dsimp only; rw [hl]
      rw [hd] at hj hr
      exact D k hk1 j r hj hr
    | some j0 =>
      have hd : dstep i rs (.fin h a) = rs.modify j0 (fun r => { r with a := a, e := some i }) := by unfold dstep; dsimp only; rw [hl]
      rw [hd] at hj hr
      rw [modify_h (f := fun r => { r with a := a, e := some i }) (fun r => rfl)] at hj
      have g1 := (lastI_get _ hl).1
      have g2 := (lastI_get _ hj).1
      have nj : j0 ≠ j := fun e => by
        rw [e] at g1
        rw [g1] at g2
        exact hk2 (Option.some.inj g2).symm
      rw [List.getElem?_modify] at hr
      obtain ⟨r', hr', e⟩ := Option.map_eq_some_iff.mp hr
      rw [if_neg nj] at e
      subst e
      exact D k hk1 j r' hj hr'
def lastN (h : Int) (rs : List Rc) : Str := match lastI h (rs.map Rc.h) with | some j => (match rs[j]? with | some r => nmS r.n | none => "") | none => ""
def nameE (rs : List Rc) : Ev → Str
  | .beg _ n _ _ => nmS n
  | .fin h _ => lastN h rs
def namesL : Nat → List Rc → List Ev → List Str
  | _, _, [] => []
  | i, rs, e :: es => nameE rs e :: namesL (i + 1) (dstep i rs e) es
def hitB (nm : Str) (rs : List Rc) (j : Nat) : Prop := ∃ r ∈ rs, nmS r.n = nm ∧ (r.b = j ∨ r.e = some j)
theorem hit_step {i : Nat} {rs : List Rc} {os : List Int} (I : DInv i rs os) (D : DOpen rs os) {e : Ev} (ok : oOk os e) (nm : Str) : (∀ j, j < i → (hitB nm (dstep i rs e) j ↔ hitB nm rs j)) ∧ (hitB nm (dstep i rs e) i ↔ nameE rs e = nm) := by
  cases e with
  | beg h n v x =>
    refine ⟨fun j hj => ⟨?_, ?_⟩, ⟨?_, fun e => ?_⟩⟩
    · rintro ⟨r, hr, h1, h2⟩
      rcases List.mem_append.mp (show r ∈ rs ++ [_] from hr) with z | z
      · exact ⟨r, z, h1, h2⟩
      · rw [List.mem_singleton.mp z] at h2
        rcases h2 with y | y
        · exact absurd y (Nat.ne_of_gt hj)
        · cases y
    · rintro ⟨r, hr, h1⟩
      exact ⟨r, List.mem_append.mpr (.inl hr), h1⟩
    · rintro ⟨r, hr, h1, h2⟩
      rcases List.mem_append.mp (show r ∈ rs ++ [_] from hr) with z | z
      · rcases h2 with y | y
        · exact absurd y (Nat.ne_of_lt (I.b r z))
        · exact absurd (I.e r z i y) (Nat.lt_irrefl _)
      · rw [List.mem_singleton.mp z] at h1
        exact h1
    · exact ⟨_, List.mem_append.mpr (.inr (List.mem_singleton.mpr rfl)), e, .inl rfl⟩
  | fin h a =>
    have ok : h ∈ os := ok
    obtain ⟨j0, hl⟩ := Option.isSome_iff_exists.mp (lastI_some _ (I.m h ok))
    have hd : dstep i rs (.fin h a) = rs.modify j0 (fun r => { r with a := a, e := some i }) := by unfold dstep; dsimp only; rw [hl]
    have g1 := (lastI_get _ hl).1
    rw [List.getElem?_map] at g1
    obtain ⟨r0, e0, _⟩ := Option.map_eq_some_iff.mp g1
    have ne0 := D h ok j0 r0 hl e0
    have nme : nameE rs (.fin h a) = nmS r0.n := by
      show lastN h rs = _
      unfold lastN
      rw [hl]
      dsimp only
      rw [e0]
    have at0 : (rs.modify j0 (fun r => { r with a := a, e := some i }))[j0]? = some { r0 with a := a, e := some i } := by
      rw [List.getElem?_modify, e0]
      show some (if j0 = j0 then _ else r0) = _
      rw [if_pos rfl]
    have get : ∀ r ∈ dstep i rs (.fin h a), (r = { r0 with a := a, e := some i }) ∨ r ∈ rs := fun r hr => by
      rw [hd] at hr
      obtain ⟨m, hm⟩ := List.mem_iff_getElem?.mp hr
      rw [List.getElem?_modify] at hm
      obtain ⟨r', hr', e⟩ := Option.map_eq_some_iff.mp hm
      by_cases z : j0 = m
      · subst z
        rw [e0] at hr'
        cases hr'
        rw [if_pos rfl] at e
        exact .inl e.symm
      · rw [if_neg z] at e
        exact .inr (e ▸ List.mem_of_getElem? hr')
    have put : ∀ r ∈ rs, r = r0 ∨ r ∈ dstep i rs (.fin h a) := fun r hr => by
      obtain ⟨m, hm⟩ := List.mem_iff_getElem?.mp hr
      by_cases z : j0 = m
      · subst z
        rw [e0] at hm
        exact .inl (Option.some.inj hm).symm
      · refine .inr ?_
        rw [hd]
        refine List.mem_of_getElem? (i := m) ?_
        rw [List.getElem?_modify, hm]
        show some (if j0 = m then _ else r) = _
        rw [if_neg z]
    have in0 : { r0 with a := a, e := some i } ∈ dstep i rs (.fin h a) := by rw [hd]; exact List.mem_of_getElem? at0
    refine ⟨fun j hj => ⟨?_, ?_⟩, ⟨?_, fun e => ?_⟩⟩
    · rintro ⟨r, hr, h1, h2⟩
      rcases get r hr with rfl | z
      · rcases h2 with y | y
        · exact ⟨r0, List.mem_of_getElem? e0, h1, .inl y⟩
        · exact absurd (Option.some.inj y) (Nat.ne_of_gt hj)
      · exact ⟨r, z, h1, h2⟩
    · rintro ⟨r, hr, h1, h2⟩
      rcases put r hr with rfl | z
      · rcases h2 with y | y
        · exact ⟨_, in0, h1, .inl y⟩
        · rw [ne0] at y; cases y
      · exact ⟨r, z, h1, h2⟩
    · rintro ⟨r, hr, h1, h2⟩
      rw [nme]
      rcases get r hr with rfl | z
      · exact h1
      · rcases h2 with y | y
        · exact absurd y (Nat.ne_of_lt (I.b r z))
        · exact absurd (I.e r z i y) (Nat.lt_irrefl _)
    · exact ⟨_, in0, by rw [← e, nme], .inr rfl⟩
theorem hit_all (nm : Str) : ∀ {es : List Ev} {i : Nat} {rs : List Rc} {os : List Int}, DInv i rs os → DOpen rs os → EWf os es → (∀ j, j < i → (hitB nm (dAll i rs es) j ↔ hitB nm rs j)) ∧ ∀ j z, (namesL i rs es)[j]? = some z → (hitB nm (dAll i rs es) (i + j) ↔ z = nm)
  | [], i, rs, os, I, D, _ => ⟨fun j hj => Iff.rfl, fun j z e => by cases e⟩
  | e :: es, i, rs, os, I, D, w => by
    obtain ⟨s1, s2⟩ := hit_step I D w.1 nm
    obtain ⟨h1, h2⟩ := hit_all nm (I.step w.1).1 (D.step w.1) w.2
    refine ⟨fun j hj => (h1 j (by omega)).trans (s1 j hj), fun j z ez => ?_⟩
    cases j with
    | zero =>
      have ez : nameE rs e = z := by rw [show (namesL i rs (e :: es))[0]? = some (nameE rs e) from rfl] at ez; exact Option.some.inj ez
      rw [Nat.add_zero]
      refine (h1 i (Nat.lt_succ_self i)).trans (s2.trans ?_)
      rw [ez]
    | succ j =>
      have := h2 j z ez
      rw [show i + (j + 1) = i + 1 + j by omega]
      exact this
theorem inP_iff (nm : Str) (rs : List Rc) (j : Nat) : inP nm rs j = true ↔ hitB nm rs j := by
  unfold inP inV plV hitB
  rw [List.any_eq_true]
  constructor
  · rintro ⟨y, hy, e⟩
    obtain ⟨r, hr, h⟩ := List.mem_flatMap.mp hy
    obtain ⟨h1, h2⟩ := List.mem_filter.mp hr
    refine ⟨r, h1, of_decide_eq_true h2, ?_⟩
    simp only [List.mem_cons, List.not_mem_nil, or_false] at h
    rcases h with rfl | rfl
    · have e : ((r.b : Int) == (j : Int)) = true := e
      have := eq_of_beq e
      exact .inl (by omega)
    · cases re : r.e with
      | none => rw [re] at e; cases e
      | some m =>
        rw [re] at e
        have e : ((m : Int) == (j : Int)) = true := e
        have := eq_of_beq e
        exact .inr (by congr 1; omega)
  · rintro ⟨r, hr, h1, h2⟩
    have hm : r ∈ rs.filter fun r => decide (nmS r.n = nm) := List.mem_filter.mpr ⟨hr, decide_eq_true h1⟩
    rcases h2 with y | y
    · exact ⟨.int (r.b : Nat), List.mem_flatMap.mpr ⟨r, hm, List.mem_cons_self⟩, by rw [y]; exact beq_self_eq_true (j : Int)⟩
    · refine ⟨endV r.e, List.mem_flatMap.mpr ⟨r, hm, List.mem_cons_of_mem _ List.mem_cons_self⟩, ?_⟩
      rw [y]
      exact beq_self_eq_true (j : Int)
end
end K64
namespace K64
open PySem PySem.Spec PyProof.Rows TJ L2
section
variable {P : Program} {w : World} {mg : Str → Option Value} {base : Heap}
def ActAt (H : Hp) (r : Rc) (y : V) : Prop := ∃ p, y = .ref p ∧ H p = some (.lst [.int r.h, r.n, r.v, r.x, r.a, .int r.b, endV r.e])
theorem ActAt.same {H H' : Hp} {r : Rc} {y : V} (s : Same H H') (h : ActAt H r y) : ActAt H' r y := h.elim fun p z => ⟨p, z.1, s _ _ z.2⟩
theorem ActAt.wrote {H : Hp} {l : Addr} {o : HO} {r : Rc} {y : V} (n : y ≠ .ref l) (h : ActAt H r y) : ActAt (upd H l o) r y := h.elim fun p z => ⟨p, z.1, by rw [upd_ne (fun e => n (by rw [z.1, e]))]; exact z.2⟩
def sp__law_deeds (K : PySem.W.Frag) : Sp := fun vs H Q _ => ∃ (t pt te : Addr) (ts : List (Str × Str)) (es : List Ev) (ys : List V), vs = [.ref t] ∧ TalA K H t pt te ts es ys ∧ ∀ l zs H', Same H H' → H' l = some (.lst zs) → All2 (ActAt H') (dAll 0 [] es) zs → Q (.ref l) H'
theorem ok__law_deeds (T : TX (KX w.params) mg) : FnOk P w (KX w.params) mg base CX0 1 231 fd__law_deeds ["tale"] (sp__law_deeds (KX w.params)) := by
  refine (F__law_deeds w.params).ok sc__law_deeds (fun vs H Q E h => ?_) (fun cdv A outer s H vs Q E hr h => ?_)
  · obtain ⟨t, pt, te, ts, es, ys, rfl, _⟩ := h
    rfl
  · obtain ⟨t, pt, te, ts, es, ys, rfl, ta, q⟩ := h
    have st := ta.t
    have se := ta.te
    have al := ta.ev
    have hl := ta.ln
    have wf := ta.wf
    refine ⟨_, (pss_cons (ps_set (i := 1) sc__law_deeds.nd rfl (by first | exact Or.inl rfl | exact Or.inr rfl) (pe_lst pa_nil))
      (pss_cons (ps_set (i := 2) sc__law_deeds.nd rfl (by first | exact Or.inl rfl | exact Or.inr rfl) pe_dnewK)
      (pss_cons (ps_for PassesOwn.never rfl (pi_range1 rfl (T.no (n_range _)) (pa_cons (pe_callB callLen rfl (T.no (n_len _)) boot_len (pa_cons (pe_ix ix_seq (pv 0) pe_int (fun _ _ => rfl)) pa_nil)) pa_nil)) (pg_name (i := 3) sc__law_deeds.nd rfl (by first | exact Or.inl rfl | exact Or.inr rfl))
      (pss_cons (ps_set (i := 4) sc__law_deeds.nd rfl (by first | exact Or.inl rfl | exact Or.inr rfl) (pe_ix ix_seq (pe_ix ix_seq (pv 0) pe_int (fun _ _ => rfl)) (pv 3) (fun _ _ => rfl)))
      (pss_one (ps_if (pt_cmpR opEq (pe_ix ix_seq (pv 4) pe_int (fun _ _ => rfl)) pe_str (nomark _))
      (pss_cons (ps_dput (hu_of hr) (pv 2) (pe_ix ix_seq (pv 4) pe_int (fun _ _ => rfl)) (pe_callB callLen rfl (T.no (n_len _)) boot_len (pa_cons (pv 1) pa_nil)) rfl)
      (pss_one (ps_expr (pe_append (pv 1) (pa_cons (pe_lst (pa_cons (pe_ix ix_seq (pv 4) pe_int (fun _ _ => rfl)) (pa_cons (pe_ix ix_seq (pv 4) pe_int (fun _ _ => rfl)) (pa_cons (pe_ix ix_seq (pv 4) pe_int (fun _ _ => rfl)) (pa_cons (pe_ix ix_seq (pv 4) pe_int (fun _ _ => rfl)) (pa_cons pe_non (pa_cons (pv 3) (pa_cons pe_non pa_nil)))))))) pa_nil)))))
      (pss_cons (ps_asg (pe_ix ix_seq (pv 4) pe_int (fun _ _ => rfl)) (pg_sub (pe_ix ix_seq (pv 1) (pe_dget (hu_of hr) (pv 2) (pe_ix ix_seq (pv 4) pe_int (fun _ _ => rfl)) (fun _ _ => rfl)) (fun _ _ => rfl)) pe_int set_list))
      (pss_one (ps_asg (pv 3) (pg_sub (pe_ix ix_seq (pv 1) (pe_dget (hu_of hr) (pv 2) (pe_ix ix_seq (pv 4) pe_int (fun _ _ => rfl)) (fun _ _ => rfl)) (fun _ _ => rfl)) pe_int set_list))))))))
      (pss_one (ps_ret (pv 1)))))), ?_⟩
    refine ⟨(show (0 : Nat) ≤ sizeLine by decide), fun l hl0 => ?_⟩
    intro d hd0
    have nld : l ≠ d := ne_of_none upd_same hd0
    have nhd : H d = none := by rwa [upd_ne nld.symm] at hd0
    have s2 : Same H (upd (upd H l (.lst [])) d (.dK [])) := (Same.upd hl0).trans (Same.upd hd0)
    have e1 : upd (upd H l (.lst [])) d (.dK []) l = some (.lst []) := by rw [upd_ne nld]; exact upd_same
    have e2 : upd (upd H l (.lst [])) d (.dK []) d = some (.dK []) := upd_same
    generalize upd (upd H l (.lst [])) d (.dK []) = H2 at s2 e1 e2 ⊢
    have len := forall2_len al
    have hz0 : 100 ≤ sizeLine := by decide
    refine ⟨_, rfl, .inr (.inl ⟨t, _, 1, .ref te, rfl, rfl, s2.seqT st, atI_nat (j := 1) rfl, .inl ⟨te, ys, rfl, .inr (s2.seqT se), ys.length, rfl, by omega, by omega, ?_⟩⟩)⟩
    refine for_range (lo := 0) (n := ys.length) (fun i σ H' => ∃ rs zs kvs, H' l = some (.lst zs) ∧ All2 (ActAt H') rs zs ∧ zs.Nodup ∧ (∀ p, V.ref p ∈ zs → p ≠ l ∧ H p = none) ∧ H' d = some (.dK kvs) ∧ kvs.length ≤ i ∧ rs.length ≤ i ∧ (∀ h, valV kvs (.inl h) = (lastI h (rs.map Rc.h)).map fun j => V.int (j : Nat)) ∧ dAll i rs (es.drop i) = dAll 0 [] es ∧ dWf i rs (es.drop i) ∧ Same H H' ∧ ∃ x3 x4, σ = [some (.ref t), some (.ref l), some (.ref d), x3, x4])
      ⟨[], [], [], e1, .nil, .nil, fun _ z => absurd z List.not_mem_nil, e2, Nat.le_refl _, Nat.le_refl _, fun h => rfl, by rw [List.drop_zero], by rw [List.drop_zero]; exact wf, s2, _, _, rfl⟩ ?_ ?_
    · rintro i σ H4 hi ⟨rs, zs, kvs, el4, ar4, nd, nzl, ed4, hk, hr', hv, da, dw, s4, x3, x4, rfl⟩
      rw [Int.zero_add]
      have hie : i < es.length := by omega
      have hy : ys[i]? = some ys[i] := List.getElem?_eq_getElem hi
      obtain ⟨e, he, ev⟩ := all2_get al hy
      obtain ⟨_, ee⟩ := List.getElem?_eq_some_iff.mp he
      have dr : es.drop i = e :: es.drop (i + 1) := by rw [List.drop_eq_getElem_cons hie, ee]
      rw [dr] at da dw
      have ev4 := EvAt.tups (.of s4) ev
      have few : i < 100 := Nat.lt_of_lt_of_le hie hl
      have lz : zs.length = rs.length := forall2_len ar4
      refine g_name ?_
      refine ⟨_, rfl, .inr (.inl ⟨t, _, 1, .ref te, rfl, rfl, s4.seqT st, atI_nat (j := 1) rfl, _, rfl, .inr (.inl ⟨te, ys, i, ys[i], rfl, rfl, s4.seqT se, atI_nat hy, ?_⟩)⟩)⟩
      generalize ys[i] = y at ev4 ⊢
      cases e with
      | beg h n v x =>
        obtain ⟨py, rfl, sy⟩ := ev4
        refine ⟨_, rfl, .inr (.inl ⟨py, _, 0, .str "begin", rfl, rfl, sy, atI_nat (j := 0) rfl, rfl, _, rfl, iteP (decide_eq_true rfl) ?_⟩)⟩
        refine ⟨_, rfl, .inl ⟨l, zs, rfl, .inl (SqL.of el4), ⟨_, rfl, ⟨_, rfl, .inr (.inl ⟨py, _, 1, .int h, rfl, rfl, sy, atI_nat (j := 1) rfl, d, _, rfl, DPut.k (k := .inl h) ed4 (Nat.lt_of_le_of_lt (m := 100) (by omega) (by decide)), ?_⟩)⟩⟩⟩⟩
        have t5 : Tups (KX w.params) H4 (upd H4 d (.dK (putK kvs (.inl h) (.int (zs.length : Nat))))) := Tups.dict ed4
        have s5 := Same.keep (o := .dK (putK kvs (.inl h) (.int (zs.length : Nat)))) s4 nhd
        have el5 : upd H4 d (.dK (putK kvs (.inl h) (.int (zs.length : Nat)))) l = some (.lst zs) := by rw [upd_ne nld]; exact el4
        have ed5 : upd H4 d (.dK (putK kvs (.inl h) (.int (zs.length : Nat)))) d = some (.dK (putK kvs (.inl h) (.int (zs.length : Nat)))) := upd_same
        have ar5 : All2 (ActAt (upd H4 d (.dK (putK kvs (.inl h) (.int (zs.length : Nat)))))) rs zs := forall2_mono (fun a b z => z.wrote (fun e => by
          obtain ⟨p, e1, e2⟩ := z
          rw [e1] at e
          cases e
          rw [ed4] at e2
          cases e2)) ar4
        generalize upd H4 d (.dK (putK kvs (.inl h) (.int (zs.length : Nat)))) = H5 at t5 s5 el5 ed5 ar5 ⊢
        have sy5 := t5 _ _ sy
        refine ⟨_, rfl, .inl ⟨rfl, zs, SqL.of el5⟩, ?_⟩
        refine ⟨_, rfl, .inr (.inl ⟨py, _, 1, .int h, rfl, rfl, sy5, atI_nat (j := 1) rfl, _, rfl, .inr (.inl ⟨py, _, 2, n, rfl, rfl, sy5, atI_nat (j := 2) rfl, _, rfl, .inr (.inl ⟨py, _, 3, v, rfl, rfl, sy5, atI_nat (j := 3) rfl, _, rfl, .inr (.inl ⟨py, _, 4, x, rfl, rfl, sy5, atI_nat (j := 4) rfl, _, rfl, (show (7 : Nat) ≤ sizeLine by decide), fun p3 hp3 => ?_⟩)⟩)⟩)⟩)⟩
        have s6 := Same.upd (o := .lst [.int h, n, v, x, .non, .int (i : Nat), .non]) hp3
        have e6 : upd H5 p3 (.lst [.int h, n, v, x, .non, .int (i : Nat), .non]) p3 = some (.lst [.int h, n, v, x, .non, .int (i : Nat), .non]) := upd_same
        have fr : ∀ z ∈ zs, z ≠ .ref p3 := fun z hz e => by
          obtain ⟨m, hm⟩ := List.mem_iff_getElem?.mp hz
          obtain ⟨_, _, p, e1, e2⟩ := all2_get ar5 hm
          rw [e1] at e
          cases e
          rw [hp3] at e2
          cases e2
        have np3 : p3 ≠ l := fun z => by rw [z, el5] at hp3; cases hp3
        generalize upd H5 p3 (.lst [.int h, n, v, x, .non, .int (i : Nat), .non]) = H6 at s6 e6 ⊢
        have el6 := s6 _ _ el5
        have ed6 := s6 _ _ ed5
        have ar6 := forall2_mono (fun a b z => ActAt.same s6 z) ar5
        refine ⟨l, zs, _, rfl, rfl, el6, Nat.lt_of_le_of_lt (m := 100) (by omega) (by decide), ?_⟩
        refine ⟨rs ++ [⟨h, n, v, x, .non, i, none⟩], zs ++ [.ref p3], putK kvs (.inl h) (.int (zs.length : Nat)), upd_same, ?_, ?_, ?_, ?_, ?_, ?_, ?_, (show dAll (i + 1) (dstep i rs (.beg h n v x)) _ = _ from da), dw.2, Same.keep (s5.trans s6) hl0, _, _, rfl⟩
        · refine all2_snoc ?_ ⟨p3, rfl, by rw [upd_ne np3]; exact e6⟩
          refine forall2_mem (fun a b hb z => ActAt.wrote (fun e => (nzl l (e ▸ hb)).1 rfl) z) ar6
        · rw [List.nodup_append]
          refine ⟨nd, by simp, fun a ha b hb => ?_⟩
          rw [List.mem_singleton.mp hb]
          exact fr a ha
        · intro p hz
          rcases List.mem_append.mp hz with y | y
          · exact nzl p y
          · have e := List.mem_singleton.mp y
            cases e
            exact ⟨np3, s5.free hp3⟩
        · rw [upd_ne nld.symm]; exact ed6
        · exact Nat.le_trans putK_len (by omega)
        · rw [List.length_append]; show rs.length + 1 ≤ i + 1; omega
        · intro k
          rw [valV_put, List.map_append]
          show _ = Option.map _ (lastI k (rs.map Rc.h ++ [h]))
          rw [lastI_snoc, List.length_map, lz]
          by_cases z : h = k
          · rw [if_pos z, if_pos (by rw [z])]; rfl
          · rw [if_neg z, if_neg (fun y => z (Sum.inl.inj y).symm)]
            exact hv k
      | fin h a =>
        obtain ⟨py, rfl, sy⟩ := ev4
        obtain ⟨j, hj⟩ := Option.isSome_iff_exists.mp (dw.1 h a rfl)
        have hvj : valV kvs (.inl h) = some (.int (j : Nat)) := by rw [hv h, hj]; rfl
        have hjl : j < rs.length := by have := lastI_lt hj; rwa [List.length_map] at this
        have hrj : rs[j]? = some rs[j] := List.getElem?_eq_getElem hjl
        obtain ⟨yj, hyj, pj, rfl, ej⟩ := all2_at ar4 hrj
        have dgj : ∀ {H5 : Hp}, H5 d = some (.dK kvs) → DGet H5 d (.int h) (some (.int (j : Nat))) := fun e5 => hvj ▸ DGet.k (k := .inl h) e5
        refine ⟨_, rfl, .inr (.inl ⟨py, _, 0, .str "end", rfl, rfl, sy, atI_nat (j := 0) rfl, rfl, _, rfl, iteN (by decide +kernel) ?_⟩)⟩
        obtain ⟨npl, fpj⟩ := nzl pj (List.mem_of_getElem? hyj)
        have npd : pj ≠ d := fun z => by rw [z, ed4] at ej; cases ej
        refine ⟨_, rfl, .inr (.inl ⟨py, _, 2, a, rfl, rfl, sy, atI_nat (j := 2) rfl, ?_⟩)⟩
        refine ⟨_, rfl, _, rfl, _, rfl, .inr (.inl ⟨py, _, 1, .int h, rfl, rfl, sy, atI_nat (j := 1) rfl, d, _, rfl, dgj ed4, .inl ⟨l, zs, j, .ref pj, rfl, rfl, SqL.of el4, atI_nat hyj, pj, _, 4, 4, rfl, rfl, ej, rfl, ?_⟩⟩)⟩
        rw [show [V.int rs[j].h, rs[j].n, rs[j].v, rs[j].x, rs[j].a, .int rs[j].b, endV rs[j].e].set 4 a = [.int rs[j].h, rs[j].n, rs[j].v, rs[j].x, a, .int rs[j].b, endV rs[j].e] from rfl]
        have k5 : KeptL [pj] H4 (upd H4 pj (.lst [.int rs[j].h, rs[j].n, rs[j].v, rs[j].x, a, .int rs[j].b, endV rs[j].e])) := KeptL.set (by simp)
        have t5 : Tups (KX w.params) H4 (upd H4 pj (.lst [.int rs[j].h, rs[j].n, rs[j].v, rs[j].x, a, .int rs[j].b, endV rs[j].e])) := Tups.lst ej
        have ej5 : upd H4 pj (.lst [.int rs[j].h, rs[j].n, rs[j].v, rs[j].x, a, .int rs[j].b, endV rs[j].e]) pj = some (.lst [.int rs[j].h, rs[j].n, rs[j].v, rs[j].x, a, .int rs[j].b, endV rs[j].e]) := upd_same
        generalize upd H4 pj (.lst [.int rs[j].h, rs[j].n, rs[j].v, rs[j].x, a, .int rs[j].b, endV rs[j].e]) = H5 at k5 t5 ej5 ⊢
        have el5 := k5 _ _ (show l ∉ [pj] by simp [npl.symm]) el4
        have ed5 := k5 _ _ (show d ∉ [pj] by simp [npd.symm]) ed4
        have sy5 := t5 _ _ sy
        refine ⟨_, rfl, ?_⟩
        refine ⟨_, rfl, _, rfl, _, rfl, .inr (.inl ⟨py, _, 1, .int h, rfl, rfl, sy5, atI_nat (j := 1) rfl, d, _, rfl, dgj ed5, .inl ⟨l, zs, j, .ref pj, rfl, rfl, SqL.of el5, atI_nat hyj, pj, _, 6, 6, rfl, rfl, ej5, rfl, ?_⟩⟩)⟩
        rw [show [V.int rs[j].h, rs[j].n, rs[j].v, rs[j].x, a, .int rs[j].b, endV rs[j].e].set 6 (.int (i : Nat)) = [.int rs[j].h, rs[j].n, rs[j].v, rs[j].x, a, .int rs[j].b, .int (i : Nat)] from rfl]
        have hd : dstep i rs (.fin h a) = rs.modify j (fun r => { r with a := a, e := some i }) := by unfold dstep; dsimp only; rw [hj]
        have da : dAll (i + 1) (dstep i rs (.fin h a)) (es.drop (i + 1)) = _ := da
        have dw2 : dWf (i + 1) (dstep i rs (.fin h a)) (es.drop (i + 1)) := dw.2
        rw [hd] at da dw2
        have k7 : KeptL [pj] H5 (upd H5 pj (.lst [.int rs[j].h, rs[j].n, rs[j].v, rs[j].x, a, .int rs[j].b, .int (i : Nat)])) := KeptL.set (by simp)
        have j7 : upd H5 pj (.lst [.int rs[j].h, rs[j].n, rs[j].v, rs[j].x, a, .int rs[j].b, .int (i : Nat)]) pj = some (.lst [.int rs[j].h, rs[j].n, rs[j].v, rs[j].x, a, .int rs[j].b, .int (i : Nat)]) := upd_same
        generalize upd H5 pj (.lst [.int rs[j].h, rs[j].n, rs[j].v, rs[j].x, a, .int rs[j].b, .int (i : Nat)]) = H7 at k7 j7 ⊢
        have k47 := k5.trans k7
        refine ⟨rs.modify j (fun r => { r with a := a, e := some i }), zs, kvs, k7 _ _ (by simp [npl.symm]) el5, ?_, nd, nzl, k7 _ _ (by simp [npd.symm]) ed5, by omega, by rw [List.length_modify]; omega, ?_, da, dw2, ?_, _, _, rfl⟩
        · refine all2_of_get (by rw [List.length_modify]; exact forall2_len ar4) fun k r y hk hy' => ?_
          rw [List.getElem?_modify] at hk
          obtain ⟨r', hr1, hr2⟩ := Option.map_eq_some_iff.mp hk
          obtain ⟨y2, hy2, p2, rfl, e2⟩ := all2_at ar4 hr1
          rw [hy'] at hy2
          cases hy2
          by_cases z : j = k
          · subst z
            rw [hyj] at hy'
            cases hy'
            rw [if_pos rfl] at hr2
            rw [hrj] at hr1
            cases hr1
            subst hr2
            exact ⟨pj, rfl, j7⟩
          · rw [if_neg z] at hr2
            subst hr2
            refine ⟨p2, rfl, k47 _ _ (fun e => z ?_) e2⟩
            have e := List.mem_singleton.mp e
            subst e
            have h1 : j < zs.length := (List.getElem?_eq_some_iff.mp hyj).1
            exact (List.getElem?_inj h1 nd).mp (hyj.trans hy'.symm)
        · intro k
          rw [modify_h (f := fun r => { r with a := a, e := some i }) (fun r => rfl)]
          exact hv k
        · intro b o e
          exact k47 b o (fun z => by rw [List.mem_singleton.mp z, fpj] at e; cases e) (s4 b o e)
    · rintro σ H3 ⟨rs, zs, kvs, el, ar, _, _, _, _, _, _, da, _, s3, x3, x4, rfl⟩
      have : es.drop ys.length = [] := by rw [len]; exact List.drop_length
      rw [this] at da
      have da : rs = dAll 0 [] es := da
      rw [← da] at q
      exact ⟨_, rfl, q l zs H3 s3 el ar⟩
end
end K64
namespace K64
open PySem PySem.Spec PyProof.Rows TJ L2
section
variable {P : Program} {w : World} {mg : Str → Option Value} {base : Heap}
theorem tcompF_T {K : PySem.W.Frag} {a : Addr} {xs : List V} {tl te : TE} {tc : TT} {g : TG} {m : Nat} {fr : List (Nat × Str)} {σ : L2.St} {H H1 : Hp} {Q : VK} (p : Nat → Bool) (R : Nat → V → Hp → Prop) (hR : ∀ i y H H', Same H H' → R i y H → R i y H') (htl : ∀ R : VK, R (.ref a) H1 → tl σ H R) (hq : SqT K H1 a xs) (hn : xs.length ≤ sizeLine)
    (body : ∀ i, i < xs.length → ∀ v H, Same H1 H → xs[i]? = some v → ∀ (KT : VK) (KF : Hp → Prop), (p i = true → ∀ y H', Same H H' → R i y H' → KT y H') → (p i = false → ∀ H', Same H H' → KF H') →
      g v (cStG σ fr (List.replicate m none)) H fun σ6 H6 => ∃ us, us.length = m ∧ σ6 = cStG σ fr us ∧ tc (cStG σ fr us) H6 fun b H2 => if b = true then te (cStG σ fr us) H2 KT else KF H2)
    (hQ : ∀ l H' ys, Same H1 H' → H' l = none → All2 (fun i y => R i y H') ((List.range xs.length).filter p) ys → Q (.ref l) (upd H' l (.lst ys))) : tCompG (iTup K tl) m fr g tc te σ H Q :=
  htl _ ⟨a, rfl, ⟨xs, hq⟩, compG_rel (Same.refl _) (fun _ _ _ a b => a.trans b) p R hR (runsR_tup (S := Same) (fun _ _ => Same.refl _) fun H s => s.seqT hq) hn body hQ⟩
theorem range_one {p : Nat → Bool} {j : Nat} : ∀ {n : Nat}, j < n → (∀ i, i < n → (p i = true ↔ i = j)) → (List.range n).filter p = [j]
  | 0, h, _ => absurd h (Nat.not_lt_zero _)
  | n + 1, h, f => by
    rw [List.range_succ, List.filter_append]
    by_cases z : j = n
    · subst z
      have a : (List.range j).filter p = [] := List.filter_eq_nil_iff.mpr fun i hi e => by
        have lt := List.mem_range.mp hi
        have := (f i (by omega)).mp e
        omega
      rw [a, List.nil_append, List.filter_cons_of_pos ((f j (Nat.lt_succ_self j)).mpr rfl)]
      rfl
    · have b : ¬ p n = true := fun e => z ((f n (Nat.lt_succ_self n)).mp e).symm
      rw [range_one (n := n) (by omega) fun i hi => f i (by omega), List.filter_cons_of_neg b]
      rfl
theorem lastN_beg {i : Nat} {rs : List Rc} {h k : Int} {n v x : V} : lastN k (dstep i rs (.beg h n v x)) = if h = k then nmS n else lastN k rs := by
  unfold lastN
  have hm : (dstep i rs (.beg h n v x)).map Rc.h = rs.map Rc.h ++ [h] := by show (rs ++ [_]).map Rc.h = _; rw [List.map_append]; rfl
  rw [hm, lastI_snoc]
  by_cases z : h = k
  · rw [if_pos z, if_pos z, List.length_map]
    show (match (rs ++ [_])[rs.length]? with | some r => nmS r.n | none => "") = _
    rw [List.getElem?_append_right (Nat.le_refl _), Nat.sub_self]
    rfl
  · rw [if_neg z, if_neg z]
    cases hl : lastI k (rs.map Rc.h) with
    | none => rfl
    | some j =>
      have lt := lastI_lt hl
      rw [List.length_map] at lt
      show (match (rs ++ [_])[j]? with | some r => nmS r.n | none => "") = _
      rw [List.getElem?_append_left lt]
      try rfl
theorem lastN_fin {i : Nat} {rs : List Rc} {h k : Int} {a : V} : lastN k (dstep i rs (.fin h a)) = lastN k rs := by
  cases hl : lastI h (rs.map Rc.h) with
  | none =>
    have hd : dstep i rs (.fin h a) = rs := by unfold dstep; dsimp only; rw [hl]
    rw [hd]
  | some j0 =>
    have hd : dstep i rs (.fin h a) = rs.modify j0 (fun r => { r with a := a, e := some i }) := by unfold dstep; dsimp only; rw [hl]
    rw [hd]
    unfold lastN
    rw [modify_h (f := fun r => { r with a := a, e := some i }) (fun r => rfl)]
    cases lastI k (rs.map Rc.h) with
    | none => rfl
    | some j =>
      dsimp only
      rw [List.getElem?_modify]
      cases rs[j]? with
      | none => rfl
      | some r =>
        show nmS (if j0 = j then _ else r).n = nmS r.n
        by_cases z : j0 = j
        · rw [if_pos z]
        · rw [if_neg z]
def selN (nm : Str) (names : List Str) (ys : List V) (i : Nat) : List V := ((List.range i).filter fun j => decide (names[j]? = some nm)).filterMap fun j => ys[j]?
theorem selN_succ {nm : Str} {names : List Str} {ys : List V} {i : Nat} {y : V} (hy : ys[i]? = some y) : selN nm names ys (i + 1) = selN nm names ys i ++ if names[i]? = some nm then [y] else [] := by
  unfold selN
  rw [List.range_succ, List.filter_append, List.filterMap_append]
  by_cases z : names[i]? = some nm
  · rw [if_pos z, List.filter_cons_of_pos (by rw [decide_eq_true z])]
    simp [hy]
  · rw [if_neg z, List.filter_cons_of_neg (by rw [decide_eq_false z]; decide)]
    rfl
theorem namesL_len : ∀ {es : List Ev} {i : Nat} {rs : List Rc}, (namesL i rs es).length = es.length
  | [], _, _ => rfl
  | e :: es, i, rs => by show (namesL (i + 1) (dstep i rs e) es).length + 1 = _; rw [namesL_len]; rfl
theorem sel_eq {nm : Str} {es : List Ev} {ys : List V} (wf : EWf [] es) (hl : ys.length = es.length) : selN nm (namesL 0 [] es) ys ys.length = selV nm (dAll 0 [] es) ys := by
  unfold selN selV
  congr 1
  apply List.filter_congr
  intro j hj
  have lt := List.mem_range.mp hj
  obtain ⟨z, hz⟩ : ∃ z, (namesL 0 [] es)[j]? = some z := ⟨_, List.getElem?_eq_getElem (by rw [namesL_len]; omega)⟩
  have := (hit_all nm (es := es) DInv.nil (fun h hh => absurd hh List.not_mem_nil) wf).2 j _ hz
  rw [Nat.zero_add] at this
  rw [hz, Bool.eq_iff_iff, inP_iff, this, decide_eq_true_eq]
  exact ⟨fun e => Option.some.inj e, fun e => by rw [e]⟩
theorem tup_e {t : TA} {σ : L2.St} {H : Hp} {Q : VK} (h : t σ H fun xs H1 => xs.length ≤ sizeLine ∧ ∀ p, H1 p = none → Q (.ref p) (upd H1 p (.tup xs))) : tTup t σ H Q := h
def sp__law_part (K : PySem.W.Frag) : Sp := fun vs H Q _ => ∃ (t pt te : Addr) (ts : List (Str × Str)) (es : List Ev) (ys : List V) (nm k : Str), vs = [.ref t, .str nm] ∧ TalA K H t pt te ts es ys ∧ EWf [] es ∧ (ts.map (·.1)).Nodup ∧ (nm, k) ∈ ts ∧
  ∀ p a b c H', Same H H' → H' p = some (.tup [.ref a, .ref b]) → H' a = some (.tup [.ref c]) → H' c = some (.tup [.str nm, .str k]) → H' b = some (.tup (selV nm (dAll 0 [] es) ys)) → Q (.ref p) H'
theorem ok__law_part (T : TX (KX w.params) mg) : FnOk P w (KX w.params) mg base CX0 1 274 fd__law_part ["tale", "name"] (sp__law_part (KX w.params)) := by
  refine (F__law_part w.params).ok sc__law_part (fun vs H Q E h => ?_) (fun cdv A outer s H vs Q E hr h => ?_)
  · obtain ⟨t, pt, te, ts, es, ys, nm, k, rfl, _⟩ := h
    rfl
  · obtain ⟨t, pt, te, ts, es, ys, nm, k, rfl, ta, wf, nd, hk, q⟩ := h
    refine ⟨_, (pss_cons (ps_set (i := 2) sc__law_part.nd rfl (by first | exact Or.inl rfl | exact Or.inr rfl) (pe_lst pa_nil))
      (pss_cons (ps_set (i := 3) sc__law_part.nd rfl (by first | exact Or.inl rfl | exact Or.inr rfl) pe_dnewK)
      (pss_cons (ps_for PassesOwn.never rfl (pi_tup (pe_ix (ix_seqK (K := KX w.params) rfl) (pv 0) pe_int (fun _ _ => rfl))) (pg_name (i := 4) sc__law_part.nd rfl (by first | exact Or.inl rfl | exact Or.inr rfl))
      (pss_cons (ps_if (pt_cmpR opEq (pe_ix (ix_seqK (K := KX w.params) rfl) (pv 4) pe_int (fun _ _ => rfl)) pe_str (nomark _))
      (pss_one (ps_dput (hu_of hr) (pv 3) (pe_ix (ix_seqK (K := KX w.params) rfl) (pv 4) pe_int (fun _ _ => rfl)) (pe_ix (ix_seqK (K := KX w.params) rfl) (pv 4) pe_int (fun _ _ => rfl)) rfl))
      pss_nil)
      (pss_one (ps_if (pt_cmpR opEq (pe_dget (hu_of hr) (pv 3) (pe_ix (ix_seqK (K := KX w.params) rfl) (pv 4) pe_int (fun _ _ => rfl)) (fun _ _ => rfl)) (pv 1) (nomark _))
      (pss_one (ps_expr (pe_append (pv 2) (pa_cons (pv 4) pa_nil))))
      pss_nil))))
      (pss_one (ps_ret (pe_tup (pa_cons (pe_callTy call_tuple_of rfl (T.no (n_tuple _)) boot_tuple (pa_cons (pe_compG (xs := ["thing"]) (g := gName 0) (fr := [(1, "name")]) rfl (pi_tup (pe_ix (ix_seqK (K := KX w.params) rfl) (pv 0) pe_int (fun _ _ => rfl))) (by intro p hp; obtain rfl := List.mem_singleton.mp hp; first | exact ⟨rfl, .inl rfl⟩ | exact ⟨rfl, .inr rfl⟩) (free_one (n := "name") (by decide +kernel) (fun _ => by first | exact .inl rfl | exact .inr rfl)) (by intro p hp; obtain rfl := List.mem_singleton.mp hp; exact ⟨by decide +kernel, by first | exact .inl rfl | exact .inr rfl⟩) (by decide +kernel) rfl (by decide +kernel) (fun _ _ _ _ _ => (pg_cname (N := ["thing", "name"]) 0 (by decide +kernel) rfl rfl)) (fun _ _ _ _ _ => (pf_one (pt_cmpR opEq (pe_ix (ix_seqK (K := KX w.params) rfl) (pv 0) pe_int (fun _ _ => rfl)) (pv 1) (nomark _)))) (fun _ _ _ _ _ => (pv 0))) pa_nil)) (pa_cons (pe_callTy call_tuple_of rfl (T.no (n_tuple _)) boot_tuple (pa_cons (pv 2) pa_nil)) pa_nil)))))))), ?_⟩
    refine ⟨(show (0 : Nat) ≤ sizeLine by decide), fun l hl => ?_⟩
    intro u hu
    have nlu : l ≠ u := ne_of_none upd_same hu
    have fu : H u = none := by rwa [upd_ne nlu.symm] at hu
    have s1 : Same H (upd (upd H l (.lst [])) u (.dK [])) := (Same.upd hl).trans (Same.upd hu)
    have e1 : upd (upd H l (.lst [])) u (.dK []) l = some (.lst []) := by rw [upd_ne nlu]; exact upd_same
    have e2 : upd (upd H l (.lst [])) u (.dK []) u = some (.dK []) := upd_same
    generalize upd (upd H l (.lst [])) u (.dK []) = H1 at s1 e1 e2 ⊢
    have len : ys.length = es.length := forall2_len ta.ev
    refine ⟨_, rfl, .inr (.inl ⟨t, _, 1, .ref te, rfl, rfl, s1.seqT ta.t, atI_nat (j := 1) rfl, te, rfl, ⟨_, s1.seqT ta.te⟩, ?_⟩)⟩
    refine for_tup (K := KX w.params) (a := te) (xs := ys) (fun i σ H' => ∃ rs kvs, Same H H' ∧ H' l = some (.lst (selN nm (namesL 0 [] es) ys i)) ∧ H' u = some (.dK kvs) ∧ kvs.length ≤ i ∧ (∀ h j, lastI h (rs.map Rc.h) = some j → valV kvs (.inl h) = some (.str (lastN h rs))) ∧ dWf i rs (es.drop i) ∧ (namesL 0 [] es).drop i = namesL i rs (es.drop i) ∧ ∃ x4, σ = [some (.ref t), some (.str nm), some (.ref l), some (.ref u), x4])
      ⟨[], [], s1, e1, e2, Nat.le_refl _, (fun h j e => by cases e), (by rw [List.drop_zero]; exact ta.wf), (by rw [List.drop_zero, List.drop_zero]), _, rfl⟩ (fun _ σ H' _ h => by obtain ⟨_, _, s', _⟩ := h; exact s'.seqT ta.te) ?_ ?_
    · rintro i y σ H2 hy ⟨rs, kvs, s2, el2, eu2, kl, kv, dw, nl, x4, rfl⟩
      obtain ⟨e, he, ev⟩ := all2_get ta.ev hy
      obtain ⟨hi, ee⟩ := List.getElem?_eq_some_iff.mp he
      have few : i < 100 := Nat.lt_of_lt_of_le hi ta.ln
      have dr : es.drop i = e :: es.drop (i + 1) := by rw [List.drop_eq_getElem_cons hi, ee]
      rw [dr] at dw nl
      have nmi : (namesL 0 [] es)[i]? = some (nameE rs e) := by
        have := congrArg (fun z => z[0]?) nl
        rw [List.getElem?_drop, Nat.add_zero] at this
        exact this
      have nl' : (namesL 0 [] es).drop (i + 1) = namesL (i + 1) (dstep i rs e) (es.drop (i + 1)) := by
        have := congrArg List.tail nl
        rw [List.tail_drop] at this
        exact this
      have ev2 := EvAt.tups (.of s2) ev
      refine g_name ?_
      refine seq_any (fun σ1 H3 => ∃ kvs' h py wd r, Same H H3 ∧ H3 l = some (.lst (selN nm (namesL 0 [] es) ys i)) ∧ H3 u = some (.dK kvs') ∧ kvs'.length ≤ i + 1 ∧ valV kvs' (.inl h) = some (.str (nameE rs e)) ∧ (∀ k j, lastI k ((dstep i rs e).map Rc.h) = some j → valV kvs' (.inl k) = some (.str (lastN k (dstep i rs e)))) ∧ y = .ref py ∧ SqT (KX w.params) H3 py (wd :: .int h :: r) ∧ σ1 = [some (.ref t), some (.str nm), some (.ref l), some (.ref u), some y]) ?_ (fun tl => ?_)
      rotate_left
      · cases e with
        | beg h n v x =>
          obtain ⟨py, rfl, sy⟩ := ev2
          have hn : n = .str (nmS n) := ta.nm _ (List.mem_of_getElem? he)
          refine ⟨_, rfl, .inr (.inl ⟨py, _, 0, .str "begin", rfl, rfl, sy, atI_nat (j := 0) rfl, rfl, _, rfl, iteP (decide_eq_true rfl) ?_⟩)⟩
          refine ⟨_, rfl, .inr (.inl ⟨py, _, 2, n, rfl, rfl, sy, atI_nat (j := 2) rfl, _, rfl, _, rfl, .inr (.inl ⟨py, _, 1, .int h, rfl, rfl, sy, atI_nat (j := 1) rfl, u, _, rfl, DPut.k (k := .inl h) eu2 (Nat.lt_of_le_of_lt (m := 100) (by omega) (by decide)), ?_⟩)⟩)⟩
          refine tl _ _ ⟨putK kvs (.inl h) n, h, py, _, _, Same.keep s2 fu, by rw [upd_ne nlu]; exact el2, upd_same, Nat.le_trans putK_len (by omega), ?_, fun k j hj => ?_, rfl, (Tups.dict eu2) _ _ sy, rfl⟩
          · rw [valV_put, if_pos rfl]
            exact congrArg some hn
          · rw [valV_put, lastN_beg]
            have hm : (dstep i rs (.beg h n v x)).map Rc.h = rs.map Rc.h ++ [h] := by show (rs ++ [_]).map Rc.h = _; rw [List.map_append]; rfl
            rw [hm, lastI_snoc] at hj
            by_cases z : h = k
            · rw [if_pos z, if_pos (by rw [z])]
              exact congrArg some hn
            · rw [if_neg z] at hj
              rw [if_neg z, if_neg (fun y => z (Sum.inl.inj y).symm)]
              exact kv k j hj
        | fin h a =>
          obtain ⟨py, rfl, sy⟩ := ev2
          obtain ⟨j0, hj0⟩ := Option.isSome_iff_exists.mp (dw.1 h a rfl)
          refine ⟨_, rfl, .inr (.inl ⟨py, _, 0, .str "end", rfl, rfl, sy, atI_nat (j := 0) rfl, rfl, _, rfl, iteN (by decide +kernel) ?_⟩)⟩
          refine tl _ _ ⟨kvs, h, py, _, _, s2, el2, eu2, by omega, kv h j0 hj0, fun k j hj => ?_, rfl, sy, rfl⟩
          have hd : dstep i rs (.fin h a) = rs.modify j0 (fun r => { r with a := a, e := some i }) := by unfold dstep; dsimp only; rw [hj0]
          rw [lastN_fin]
          rw [hd, modify_h (f := fun r => { r with a := a, e := some i }) (fun r => rfl)] at hj
          exact kv k j hj
      rintro σ3 H3 ⟨kvs', h, py, w', r, s3, el3, eu3, kl3, vh, kv3, rfl, sy3, rfl⟩
      have dg : DGet H3 u (.int h) (some (.str (nameE rs e))) := vh ▸ DGet.k (k := .inl h) eu3
      refine ⟨_, rfl, _, rfl, .inr (.inl ⟨py, _, 1, .int h, rfl, rfl, sy3, atI_nat (j := 1) rfl, u, _, rfl, dg, _, rfl, rfl, _, rfl, ?_⟩)⟩
      have su := selN_succ (nm := nm) (names := namesL 0 [] es) hy
      rw [nmi] at su
      by_cases z : nameE rs e = nm
      · refine iteP (decide_eq_true (by rw [z])) ?_
        rw [if_pos (by rw [z])] at su
        refine ⟨_, rfl, .inl ⟨rfl, _, SqL.of el3⟩, _, rfl, l, _, _, rfl, rfl, el3, ?_, ?_⟩
        · refine Nat.lt_of_le_of_lt (m := 100) ?_ (by decide)
          unfold selN
          refine Nat.le_trans (List.length_filterMap_le _ _) (Nat.le_trans (List.length_filter_le _ _) ?_)
          rw [List.length_range]
          omega
        · rw [← su]
          exact ⟨dstep i rs e, kvs', Same.keep s3 hl, upd_same, by rw [upd_ne nlu.symm]; exact eu3, kl3, kv3, dw.2, nl', _, rfl⟩
      · refine iteN (fun e' => z (by have := of_decide_eq_true e'; injection this)) ?_
        rw [if_neg (fun e' => z (Option.some.inj e')), List.append_nil] at su
        exact ⟨dstep i rs e, kvs', s3, by rw [su]; exact el3, eu3, kl3, kv3, dw.2, nl', _, rfl⟩
    · rintro σ H3 ⟨rs, kvs, s3, el3, _, _, _, _, _, x4, rfl⟩
      rw [sel_eq wf len] at el3
      obtain ⟨yt, eyt, alt⟩ := ta.th
      obtain ⟨j, hj⟩ := List.mem_iff_getElem?.mp hk
      have hjl : j < ts.length := (List.getElem?_eq_some_iff.mp hj).1
      obtain ⟨yj, hyj, bj, rfl, ebj⟩ := all2_at alt hj
      have ly : yt.length = ts.length := forall2_len alt
      refine t_nx (ret_e (tup_e (cons_cb1 ?_)))
      refine tcompF_T (K := KX w.params) (a := pt) (xs := yt) (fun i => decide (i = j)) (fun i y _ => yt[i]? = some y) (fun _ _ _ _ _ z => z) (fun R h => ⟨_, rfl, .inr (.inl ⟨t, _, 0, .ref pt, rfl, rfl, s3.seqT ta.t, atI_nat (j := 0) rfl, h⟩)⟩) (SqT.of (s3 _ _ eyt)) (by rw [ly]; exact Nat.le_trans ta.l6 (by decide)) ?_ ?_
      · intro i hi v H4 s4 hv KT KF h1 h2
        obtain ⟨tt, ht, b, rfl, eb⟩ := all2_get alt hv
        refine ⟨[some (.ref b)], rfl, rfl, ?_⟩
        refine ⟨_, rfl, .inr (.inl ⟨b, _, 0, .str tt.1, rfl, rfl, SqT.of (s4 _ _ (s3 _ _ eb)), atI_nat (j := 0) rfl, _, rfl, rfl, _, rfl, ?_⟩)⟩
        have ij : tt.1 = nm ↔ i = j := by
          have a1 : (ts.map (·.1))[i]? = some tt.1 := by rw [List.getElem?_map, ht]; rfl
          have a2 : (ts.map (·.1))[j]? = some nm := by rw [List.getElem?_map, hj]; rfl
          constructor
          · intro e
            rw [e] at a1
            exact (List.getElem?_inj (by rw [List.length_map]; omega) nd).mp (a1.trans a2.symm)
          · intro e
            rw [e, a2] at a1
            exact (Option.some.inj a1).symm
        by_cases z : i = j
        · exact iteP (decide_eq_true (by rw [ij.mpr z])) ⟨_, rfl, h1 (decide_eq_true z) _ _ (Same.refl _) hv⟩
        · exact iteN (fun e' => z (ij.mp (by have := of_decide_eq_true e'; injection this))) (h2 (decide_eq_false z) _ (Same.refl _))
      · intro l5 H5 zs5 s5 hl5 al5
        rw [range_one (j := j) (by omega) fun i _ => decide_eq_true_iff] at al5
        have ez := all2_sel al5
        rw [List.filterMap_cons_some hyj, List.filterMap_nil] at ez
        subst ez
        have s6 := Same.upd (o := .lst [V.ref bj]) hl5
        refine ⟨l5, _, rfl, .inl ⟨SqL.of upd_same, fun a ha => ?_⟩⟩
        have s7 := Same.upd (o := .tup [V.ref bj]) ha
        have ea : upd (upd H5 l5 (.lst [V.ref bj])) a (.tup [V.ref bj]) a = some (.tup [V.ref bj]) := upd_same
        have sx := (s5.trans s6).trans s7
        generalize upd (upd H5 l5 (.lst [V.ref bj])) a (.tup [V.ref bj]) = H7 at ea sx ⊢
        refine ⟨_, rfl, l, _, rfl, .inl ⟨SqL.of (sx _ _ el3), fun b hb => ⟨(show (2 : Nat) ≤ sizeLine by decide), fun p hp => ?_⟩⟩⟩
        have s8 := Same.upd (o := .tup (selV nm (dAll 0 [] es) ys)) hb
        have s9 := Same.upd (o := .tup [.ref a, .ref b]) hp
        have sy := (s3.trans sx).trans (s8.trans s9)
        exact q p a b bj _ sy upd_same ((s8.trans s9) _ _ ea) (sy _ _ ebj) (s9 _ _ upd_same)
end
end K64
namespace K64
open PySem PySem.Spec PyProof.Rows TJ L2
section
variable {P : Program} {w : World} {mg : Str → Option Value} {base : Heap}
theorem n_ValueError (P : Params) : PySem.W.nsIn (KX P) mainGlobals "ValueError" = some none := by kernel_rfl
theorem boot_ValueError : bootBuiltins "ValueError" = some (.type "ValueError") := by kernel_rfl
def sp__law_caught (K : PySem.W.Frag) : Sp := fun vs H Q _ => ∃ (m : Int) (t pt te : Addr) (ts : List (Str × Str)) (es : List Ev) (ys : List V) (nm : Str), vs = [.int m, .ref t, .str nm] ∧ TalA K H t pt te ts es ys ∧
  ∀ l H', Same H H' → ((nm ∈ ts.map (·.1) ∧ H' l = some (.lst [])) ∨ (nm ∉ ts.map (·.1) ∧ H' l = some (.lst [.bl true, .bl true, .bl false]))) → Q (.ref l) H'
theorem ok__law_caught (T : TX (KX w.params) mg) (c_part : CalE P w (KX w.params) mg base "part" ["tale", "name"] 2 (sp_part (KX w.params))) (c_numbers_of : CalE P w (KX w.params) mg base "numbers_of" ["tale", "name"] 2 (sp_numbers_of (KX w.params))) : FnOk P w (KX w.params) mg base CX0 3 281 fd__law_caught ["turn", "tale", "name"] (sp__law_caught (KX w.params)) := by
  refine (F__law_caught w.params).ok sc__law_caught (fun vs H Q E h => ?_) (fun cdv A outer s H vs Q E hr h => ?_)
  · obtain ⟨m, t, pt, te, ts, es, ys, nm, rfl, _⟩ := h
    rfl
  · obtain ⟨m, t, pt, te, ts, es, ys, nm, rfl, ta, q⟩ := h
    refine ⟨_, (pss_cons (ps_set (i := 3) sc__law_caught.nd rfl (by first | exact Or.inl rfl | exact Or.inr rfl) (pe_lst pa_nil))
      (pss_cons (ps_tryAs (i := 4) rfl rfl rfl (T.of (g_TaleError _)) sc__law_caught.nd rfl rfl (fun _ _ => (pss_one (ps_if (pt_cmpR opEq (pv 0) pe_int (nomark _))
      (pss_one (ps_expr (pe_calX passX c_part (hr.mono (by first | decide | omega)) rfl (pa_cons (pv 1) (pa_cons (pv 2) pa_nil)))))
      (pss_one (ps_expr (pe_calX passX c_numbers_of (hr.mono (by first | decide | omega)) rfl (pa_cons (pv 1) (pa_cons (pv 2) pa_nil)))))))) (fun _ => (pss_cons (ps_set (i := 3) sc__law_caught.nd rfl (by first | exact Or.inl rfl | exact Or.inr rfl) (pe_lst (pa_cons (pe_callB (call_isinstX (KX w.params)) rfl (T.no (n_isinstance _)) boot_isinstance (pa_cons (pv 4) (pa_cons (pe_glob (v := .ref 73) rfl (T.of (g_NoThing _)) rfl) pa_nil))) (pa_cons (pe_callB (call_isinstX (KX w.params)) rfl (T.no (n_isinstance _)) boot_isinstance (pa_cons (pv 4) (pa_cons (pe_bltn (v := .ty "ValueError") rfl (T.no (n_ValueError _)) boot_ValueError rfl) pa_nil))) pa_nil))))
      (pss_cons (ps_set (i := 5) sc__law_caught.nd rfl (by first | exact Or.inl rfl | exact Or.inr rfl) (pe_callB (call_isinstXT (KX w.params)) rfl (T.no (n_isinstance _)) boot_isinstance (pa_cons (pv 4) (pa_cons (pe_tup (pa_cons (pe_glob (v := .ref 133) rfl (T.of (g_NoDealings _)) rfl) (pa_cons (pe_glob (v := .ref 37) rfl (T.of (g_NoDeed _)) rfl) (pa_cons (pe_glob (v := .ref 97) rfl (T.of (g_NoHand _)) rfl) (pa_cons (pe_glob (v := .ref 85) rfl (T.of (g_NoOrder _)) rfl) (pa_cons (pe_glob (v := .ref 121) rfl (T.of (g_NoPlan _)) rfl) pa_nil)))))) pa_nil))))
      (pss_one (ps_expr (pe_appendK (K := KX w.params) rfl (pv 3) (pa_cons (by exact (pe_or (pv 5) (pe_one (pe_callB (call_isinstXT (KX w.params)) rfl (T.no (n_isinstance _)) boot_isinstance (pa_cons (pv 4) (pa_cons (pe_tup (pa_cons (pe_glob (v := .ref 145) rfl (T.of (g_NoRow _)) rfl) (pa_cons (pe_glob (v := .ref 61) rfl (T.of (g_NoStrictness _)) rfl) (pa_cons (pe_glob (v := .ref 49) rfl (T.of (g_NoTale _)) rfl) (pa_cons (pe_glob (v := .ref 109) rfl (T.of (g_NotPlain _)) rfl) pa_nil))))) pa_nil)))))) pa_nil))))))))
      (pss_one (ps_ret (pv 3))))), ?_⟩
    have exm : PySem.W.exmOne (KX w.params) (.ref 73) (.ref 24) = some true := by kernel_rfl
    refine seq_asg ?_
    refine ⟨(show (0 : Nat) ≤ sizeLine by decide), fun l0 hl0 => ?_⟩
    refine g_name ?_
    have s0 := Same.upd (o := .lst []) hl0
    have e0 : upd H l0 (.lst []) l0 = some (.lst []) := upd_same
    generalize upd H l0 (.lst []) = H0 at s0 e0 ⊢
    have ta0 := ta.same s0
    refine seq_any (fun σ1 H1 => ∃ lk x5, Same H H1 ∧ ((nm ∈ ts.map (·.1) ∧ H1 lk = some (.lst [])) ∨ (nm ∉ ts.map (·.1) ∧ H1 lk = some (.lst [.bl true, .bl true, .bl false]))) ∧ σ1 = [some (.int m), some (.ref t), some (.str nm), some (.ref lk), none, x5]) ?_ (fun tl => ?_)
    rotate_left
    · by_cases hn : nm ∈ ts.map (·.1)
      · have fin : ∀ H1, Same H0 H1 → _ := fun H1 s1 => tl _ H1 ⟨l0, none, s0.trans s1, .inl ⟨hn, s1 _ _ e0⟩, rfl⟩
        refine ⟨_, rfl, rfl, _, rfl, ite2 (fun _ => ?_) fun _ => ?_⟩
        · exact ⟨_, rfl, _, rfl, t, pt, te, ts, es, ys, nm, rfl, ta0, .inl ⟨hn, fun p a b c k H1 s1 _ _ _ _ _ => fin H1 s1⟩⟩
        · exact ⟨_, rfl, _, rfl, t, pt, te, ts, es, ys, nm, rfl, ta0, .inl ⟨hn, fun l H1 s1 _ _ => fin H1 s1⟩⟩
      · refine ⟨_, rfl, rfl, _, rfl, ite2 (fun _ => ?_) fun _ => ?_⟩
        case' refine_1 => refine ⟨_, rfl, _, rfl, t, pt, te, ts, es, ys, nm, rfl, ta0, .inr ⟨hn, exm, fun ea hea => ?_⟩⟩
        case' refine_2 => refine ⟨_, rfl, _, rfl, t, pt, te, ts, es, ys, nm, rfl, ta0, .inr ⟨hn, exm, fun ea hea => ?_⟩⟩
        all_goals
          have s1 := Same.upd (o := ExcO ea (.ref 73)) hea
          have e1 : upd H0 ea (ExcO ea (.ref 73)) ea = some (ExcO ea (.ref 73)) := upd_same
          generalize upd H0 ea (ExcO ea (.ref 73)) = H1 at s1 e1 ⊢
          refine ⟨_, rfl, ea, 73, .ref 73, .ref 73, true, rfl, e1, xc_NoThing _, rfl, fun _ h => h, by kernel_rfl, ?_⟩
          refine ⟨_, rfl, ea, 73, .ty "ValueError", .type "ValueError", true, rfl, e1, xc_NoThing _, rfl, fun _ h => h, by kernel_rfl, (show (2 : Nat) ≤ sizeLine by decide), fun l2 hl2 => ?_⟩
          have s2 := Same.upd (o := .lst [.bl true, .bl true]) hl2
          have el2 : upd H1 l2 (.lst [.bl true, .bl true]) l2 = some (.lst [.bl true, .bl true]) := upd_same
          generalize upd H1 l2 (.lst [.bl true, .bl true]) = H2 at s2 el2 ⊢
          refine ⟨_, rfl, (show (5 : Nat) ≤ sizeLine by decide), fun p3 hp3 => ?_⟩
          refine ⟨ea, 73, p3, [133, 37, 97, 85, 121], false, rfl, (Same.upd hp3) _ _ (s2 _ _ e1), xc_NoThing _, upd_same, by kernel_rfl, ?_⟩
          have s3 := Same.upd (o := .tup [.ref 133, .ref 37, .ref 97, .ref 85, .ref 121]) hp3
          generalize upd H2 p3 (.tup [.ref 133, .ref 37, .ref 97, .ref 85, .ref 121]) = H3 at s3 ⊢
          refine ⟨_, rfl, .inl ⟨rfl, _, SqL.of (s3 _ _ el2)⟩, ?_⟩
          refine ⟨_, rfl, false, rfl, iteF ⟨_, rfl, (show (4 : Nat) ≤ sizeLine by decide), fun p4 hp4 => ?_⟩⟩
          refine ⟨ea, 73, p4, [145, 61, 49, 109], false, rfl, (Same.upd hp4) _ _ (s3 _ _ (s2 _ _ e1)), xc_NoThing _, upd_same, by kernel_rfl, ?_⟩
          have s4 := Same.upd (o := .tup [.ref 145, .ref 61, .ref 49, .ref 109]) hp4
          generalize upd H3 p4 (.tup [.ref 145, .ref 61, .ref 49, .ref 109]) = H4 at s4 ⊢
          refine ⟨l2, _, _, rfl, rfl, s4 _ _ (s3 _ _ el2), (show (2 : Nat) < sizeLine by decide), tl _ _ ⟨l2, _, ?_, .inr ⟨hn, upd_same⟩, rfl⟩⟩
          have f2 : H l2 = none := (s0.trans s1).free hl2
          exact Same.keep ((((s0.trans s1).trans s2).trans s3).trans s4) f2
    rintro σ1 H1 ⟨lk, x5, s1, e1, rfl⟩
    exact ⟨_, rfl, q lk H1 s1 e1⟩
end
end K64
namespace K64
open PySem PySem.Spec PyProof.Rows TJ L2
section
variable {P : Program} {w : World} {mg : Str → Option Value} {base : Heap}
def sp__law_cell_at (K : PySem.W.Frag) : Sp := fun vs H Q _ => ∃ (a : Addr) (ns : List Int), vs = [.ref a, .int 0] ∧ SqL K H a (ns.map V.int) ∧ ∀ i, Q (.int i) H
theorem ok__law_cell_at (T : TX (KX w.params) mg) : FnOk P w (KX w.params) mg base CX0 1 178 fd__law_cell_at ["script", "k"] (sp__law_cell_at (KX w.params)) := by
  refine (F__law_cell_at w.params).ok sc__law_cell_at (fun vs H Q E h => ?_) (fun cdv A outer s H vs Q E hr h => ?_)
  · obtain ⟨a, ns, rfl, _⟩ := h
    rfl
  · obtain ⟨a, ns, rfl, sq, q⟩ := h
    refine ⟨_, (pss_cons (ps_if (pt_cmpR op_lt (pv 1) (pe_callB callLen rfl (T.no (n_len _)) boot_len (pa_cons (pv 0) pa_nil)) (nomark _))
      (pss_one (ps_ret (pe_ix ix_seq (pv 0) (pv 1) (fun _ _ => rfl))))
      pss_nil)
      (pss_one (ps_ret pe_int))), ?_⟩
    refine ⟨_, rfl, _, rfl, .inl ⟨a, _, rfl, .inl sq, _, _, rfl, rfl, _, rfl, ?_⟩⟩
    cases ns with
    | nil => exact iteF (q 0)
    | cons n ns =>
      rw [if_pos (by simp)]
      exact ⟨_, rfl, _, rfl, .inl ⟨a, _, 0, .int n, rfl, rfl, sq, atI_nat (xs := (n :: ns).map V.int) (j := 0) rfl, q n⟩⟩
def DeckAt (H : Hp) (r : Addr) (n : Nat) : Prop := ∃ a b c : Int, H r = some (.lst [.int a, .int b, .int c]) ∧ 0 ≤ b ∧ b < 2 ∧ 0 ≤ c ∧ c ≤ n
theorem DeckAt.same {H H' : Hp} {r : Addr} {n : Nat} (h : DeckAt H r n) (s : Same H H') : DeckAt H' r n := by
  obtain ⟨a, b, c, e, z⟩ := h
  exact ⟨a, b, c, s _ _ e, z⟩
theorem DeckAt.fresh {r p : Addr} {H : Hp} {n : Nat} (h : DeckAt H r n) (e : H p = none) : p ≠ r := fun z => by
  obtain ⟨a, b, c, e2, _⟩ := h
  rw [z, e2] at e
  cases e
structure Dw (r : Addr) (n : Nat) (H H' : Hp) : Prop where
  k : Kept r H H'
  r : DeckAt H' r n
theorem Dw.trans {r : Addr} {n m : Nat} {H H1 H2 : Hp} (a : Dw r n H H1) (b : Dw r m H1 H2) : Dw r m H H2 := ⟨a.k.trans b.k, b.r⟩
theorem Dw.same {r : Addr} {n : Nat} {H H1 H2 : Hp} (a : Dw r n H H1) (s : Same H1 H2) : Dw r n H H2 := ⟨a.k.trans s.kept, a.r.same s⟩
theorem DeckAt.dw {r : Addr} {n : Nat} {H : Hp} (h : DeckAt H r n) : Dw r n H H := ⟨.refl, h⟩
theorem Dw.free {r : Addr} {n : Nat} {H H' : Hp} {p : Addr} (h : Dw r n H H') (e : H' p = none) : H p = none := by
  cases z : H p with
  | none => rfl
  | some o =>
    rw [h.k _ _ (h.r.fresh e) z] at e
    cases e
def sp__law_take : Sp := fun vs H Q _ => ∃ (r : Addr) (m : Int) (n : Nat), vs = [.ref r, .int m] ∧ DeckAt H r n ∧ n < 10000 ∧ 0 < m ∧ m < 2 ^ 64 ∧ ∀ t H', Dw r (n + 1) H H' → 0 ≤ t → t < m → Q (.int t) H'
theorem ok__law_take (T : TX (KX w.params) mg) : FnOk P w (KX w.params) mg base CX0 1 185 fd__law_take ["deck", "many"] sp__law_take := by
  refine (F__law_take w.params).ok sc__law_take (fun vs H Q E h => ?_) (fun cdv A outer s H vs Q E hr h => ?_)
  · obtain ⟨r, m, n, rfl, _⟩ := h
    rfl
  · obtain ⟨r, m, n, rfl, ⟨a, b, c, e, hb0, hb1, hc0, hc1⟩, hn, hm, hm', q⟩ := h
    refine ⟨_, (pss_cons (ps_if (pt_cmpR opEq (pe_ix ix_seq (pv 0) pe_int (fun _ _ => rfl)) pe_int (nomark _))
      (pss_cons (ps_set (i := 2) sc__law_take.nd rfl (by first | exact Or.inl rfl | exact Or.inr rfl) (pe_op op_mod (pe_ix ix_seq (pv 0) pe_int (fun _ _ => rfl)) (pv 1)))
      (pss_cons (ps_asg (pe_op op_fdivB (pe_ix ix_seq (pv 0) pe_int (fun _ _ => rfl)) (pv 1)) (pg_sub (pv 0) pe_int set_list))
      (pss_one (ps_ret (pv 2)))))
      pss_nil)
      (pss_cons (ps_asg (pe_op opAdd (pe_ix ix_seq (pv 0) pe_int (fun _ _ => rfl)) pe_int) (pg_sub (pv 0) pe_int set_list))
      (pss_cons (ps_set (i := 3) sc__law_take.nd rfl (by first | exact Or.inl rfl | exact Or.inr rfl) (pe_op op_mod (pe_op opAdd (pe_op op_mul (pe_op op_mod (pe_ix ix_seq (pv 0) pe_int (fun _ _ => rfl)) pe_int) (pe_op opAdd (pe_op op_mul (pe_ix ix_seq (pv 0) pe_int (fun _ _ => rfl)) (pe_ix ix_seq (pv 0) pe_int (fun _ _ => rfl))) pe_int)) (pe_ix ix_seq (pv 0) pe_int (fun _ _ => rfl))) pe_int))
      (pss_cons (ps_set (i := 3) sc__law_take.nd rfl (by first | exact Or.inl rfl | exact Or.inr rfl) (pe_op op_mod (pe_op op_mul (pv 3) (pv 3)) pe_int))
      (pss_one (ps_ret (pe_op op_mod (pe_op op_fdivB (pe_op op_mod (pe_op op_mul (pv 3) pe_int) pe_int) pe_int) (pv 1)))))))), ?_⟩
    refine ⟨_, rfl, .inl ⟨r, _, 1, .int b, rfl, rfl, SqL.of e, rfl, rfl, _, rfl, ?_⟩⟩
    refine ite2 (fun _ => ?_) fun _ => ?_
    · refine ⟨_, rfl, .inl ⟨r, _, 0, .int a, rfl, rfl, SqL.of e, rfl, _, rfl, _, _, rfl, rfl, hm, ?_⟩⟩
      refine ⟨_, rfl, .inl ⟨r, _, 0, .int a, rfl, rfl, SqL.of e, rfl, _, rfl, _, _, rfl, rfl, ⟨hm, hm'⟩, ?_⟩⟩
      refine ⟨_, rfl, r, _, 0, 0, rfl, rfl, e, rfl, ?_⟩
      exact ⟨_, rfl, q _ _ ⟨.set, _, b, c, upd_same, hb0, hb1, hc0, by omega⟩ (Int.emod_nonneg _ (by omega)) (Int.emod_lt_of_pos _ hm)⟩
    · refine ⟨_, rfl, .inl ⟨r, _, 2, .int c, rfl, rfl, SqL.of e, rfl, .inl ⟨_, _, rfl, rfl, ?_⟩⟩⟩
      refine ⟨_, rfl, r, _, 2, 2, rfl, rfl, e, rfl, ?_⟩
      have e2 : upd H r (.lst ([V.int a, .int b, .int c].set 2 (.int (c + 1)))) r = some (.lst [.int a, .int b, .int (c + 1)]) := upd_same
      have kr : Kept r H (upd H r (.lst ([V.int a, .int b, .int c].set 2 (.int (c + 1))))) := .set
      generalize upd H r (.lst ([V.int a, .int b, .int c].set 2 (.int (c + 1)))) = H2 at e2 kr ⊢
      have a0 : 0 ≤ a % 2147483647 := Int.emod_nonneg _ (by decide)
      have a1 : a % 2147483647 < 2147483647 := Int.emod_lt_of_pos _ (by decide)
      refine ⟨_, rfl, .inl ⟨r, _, 0, .int a, rfl, rfl, SqL.of e2, rfl, _, _, rfl, rfl, (show (0 : Int) < 2147483647 by decide), ?_⟩⟩
      refine ⟨_, rfl, .inl ⟨r, _, 2, .int (c + 1), rfl, rfl, SqL.of e2, rfl, _, rfl, .inl ⟨r, _, 2, .int (c + 1), rfl, rfl, SqL.of e2, rfl, _, _, rfl, rfl, .inl ⟨by omega, by omega⟩, .inl ⟨_, _, rfl, rfl, ?_⟩⟩⟩⟩
      refine ⟨_, _, rfl, rfl, .inl ⟨by omega, by omega⟩, _, rfl, .inl ⟨r, _, 2, .int (c + 1), rfl, rfl, SqL.of e2, rfl, .inl ⟨_, _, rfl, rfl, ?_⟩⟩⟩
      refine ⟨_, _, rfl, rfl, (show (0 : Int) < 2147483629 by decide), ?_⟩
      generalize hx : (a % 2147483647 * ((c + 1) * (c + 1) + 48271) + (c + 1)) % 2147483629 = x
      have x0 : 0 ≤ x := by rw [← hx]; exact Int.emod_nonneg _ (by decide)
      have x1 : x < 2147483629 := by rw [← hx]; exact Int.emod_lt_of_pos _ (by decide)
      refine ⟨_, rfl, _, rfl, _, _, rfl, rfl, .inl ⟨by omega, by omega⟩, _, _, rfl, rfl, (show (0 : Int) < 2147483587 by decide), ?_⟩
      refine ⟨_, rfl, _, _, rfl, rfl, .inr (by decide), _, _, rfl, rfl, (show (0 : Int) < 2147483563 by decide), _, _, rfl, rfl, ⟨by decide, by decide⟩, _, rfl, _, _, rfl, rfl, hm, ?_⟩
      exact q _ _ ⟨kr, a, b, c + 1, e2, hb0, hb1, by omega, by omega⟩ (Int.emod_nonneg _ (by omega)) (Int.emod_lt_of_pos _ hm)
def sp__law_worth : Sp := fun vs H Q _ => ∃ (r : Addr) (n : Nat), vs = [.ref r] ∧ DeckAt H r n ∧ n < 10000 ∧ ∀ i H', Dw r (n + 1) H H' → near i → Q (.int i) H'
theorem ok__law_worth (T : TX (KX w.params) mg) (c__law_take : Cal P w (KX w.params) mg base "_law_take" ["deck", "many"] 1 sp__law_take) : FnOk P w (KX w.params) mg base CX0 2 202 fd__law_worth ["deck"] sp__law_worth := by
  refine (F__law_worth w.params).ok sc__law_worth (fun vs H Q E h => ?_) (fun cdv A outer s H vs Q E hr h => ?_)
  · obtain ⟨r, n, rfl, _⟩ := h
    rfl
  · obtain ⟨r, n, rfl, R, hn, q⟩ := h
    refine q_of (qss_one (qs_ret (qe_ix ix_seq (qe_lst (qa_cons (QE.mk pe_int) (qa_cons (QE.mk pe_int) (qa_cons (QE.mk pe_int) (qa_cons (QE.mk pe_int) (qa_cons (QE.mk pe_int) (qa_cons (QE.mk pe_int) (qa_cons (QE.mk (pe_un un_neg pe_int)) (qa_cons (QE.mk (pe_op op_pow pe_int pe_int)) qa_nil))))))))) (QE.mk (pe_cal c__law_take (hr.mono (by first | decide | omega)) rfl (pa_cons (pv 0) (pa_cons pe_int pa_nil)))) (fun _ _ => rfl)))) ?_
    refine ⟨_, rfl, _, _, rfl, rfl, p9, (show (8 : Nat) ≤ sizeLine by decide), fun l hl => ?_⟩
    simp only [e9]
    refine ⟨_, rfl, r, 8, n, rfl, R.same (Same.upd hl), hn, by decide, by decide, fun t H2 w2 h0 h1 => ?_⟩
    obtain ⟨v, hv, hm⟩ := atI_of (xs := [V.int 0, .int 1, .int 2, .int 3, .int 1, .int 2, .int (-1), .int 1000000000]) h0 h1
    refine .inl ⟨l, _, t, v, rfl, rfl, SqL.of (w2.k _ _ (R.fresh hl) upd_same), hv, ?_⟩
    have w12 := (R.dw.same (Same.upd (o := .lst [V.int 0, .int 1, .int 2, .int 3, .int 1, .int 2, .int (-1), .int 1000000000]) hl)).trans w2
    simp only [List.mem_cons, List.not_mem_nil, or_false] at hm
    rcases hm with rfl | rfl | rfl | rfl | rfl | rfl | rfl | rfl <;> exact q _ _ w12 ⟨by decide, by decide⟩
def sp__law_verb (K : PySem.W.Frag) : Sp := fun vs H Q _ => ∃ (r : Addr) (k : Str) (n : Nat), vs = [.ref r, .str k] ∧ DeckAt H r n ∧ n < 9000 ∧ k ∈ kinds5 ∧ ∀ p v x d H' m, Dw r m H H' → m ≤ n + 3 → H' p = some (.tup [.str v, x]) → H p = none → DeedOk k v d → IsDt K H' d x → WorthIn H' d x → Q (.ref p) H'
theorem ok__law_verb (T : TX (KX w.params) mg) (c__law_take : Cal P w (KX w.params) mg base "_law_take" ["deck", "many"] 1 sp__law_take) (c__law_worth : Cal P w (KX w.params) mg base "_law_worth" ["deck"] 2 sp__law_worth) : FnOk P w (KX w.params) mg base CX0 3 209 fd__law_verb ["deck", "kind"] (sp__law_verb (KX w.params)) := by
  refine (F__law_verb w.params).ok sc__law_verb (fun vs H Q E h => ?_) (fun cdv A outer s H vs Q E hr h => ?_)
  · obtain ⟨r, k, n, rfl, _⟩ := h
    rfl
  · obtain ⟨r, k, n, rfl, R, hn, hk, q⟩ := h
    refine q_of (qss_cons (qs_set (i := 2) sc__law_verb.nd rfl (by first | exact Or.inl rfl | exact Or.inr rfl) (qe_disp (qps_cons (QE.mk pe_str) (qe_lst (qa_cons (QE.mk pe_str) (qa_cons (QE.mk pe_str) qa_nil))) (qps_cons (QE.mk pe_str) (qe_lst (qa_cons (QE.mk pe_str) (qa_cons (QE.mk pe_str) qa_nil))) (qps_cons (QE.mk pe_str) (qe_lst (qa_cons (QE.mk pe_str) (qa_cons (QE.mk pe_str) qa_nil))) qps_nil))) rfl rfl (by simp) (by decide)))
      (qss_cons (qs_dput (hu_of hr) (QE.mk (pv 2)) (QE.mk pe_str) (qe_lst (qa_cons (QE.mk pe_str) (qa_cons (QE.mk pe_str) (qa_cons (QE.mk pe_str) qa_nil)))) rfl)
      (qss_cons (qs_dput (hu_of hr) (QE.mk (pv 2)) (QE.mk pe_str) (qe_lst (qa_cons (QE.mk pe_str) (qa_cons (QE.mk pe_str) (qa_cons (QE.mk pe_str) (qa_cons (QE.mk pe_str) qa_nil))))) rfl)
      (qss_cons (QS.mk (ps_set (i := 3) sc__law_verb.nd rfl (by first | exact Or.inl rfl | exact Or.inr rfl) (pe_ix ix_seq (pe_dget (hu_of hr) (pv 2) (pv 1) (fun _ _ => rfl)) (pe_cal c__law_take (hr.mono (by first | decide | omega)) rfl (pa_cons (pv 0) (pa_cons (pe_callB callLen rfl (T.no (n_len _)) boot_len (pa_cons (pe_dget (hu_of hr) (pv 2) (pv 1) (fun _ _ => rfl)) pa_nil)) pa_nil))) (fun _ _ => rfl))))
      (qss_cons (QS.mk (ps_if (pt_cmpR opEq (pv 3) pe_str (nomark _))
      (pss_one (ps_ret (pe_tup (pa_cons (pv 3) (pa_cons (pe_tup (pa_cons (pe_cal c__law_worth (hr.mono (by first | decide | omega)) rfl (pa_cons (pv 0) pa_nil)) (pa_cons (pe_cal c__law_worth (hr.mono (by first | decide | omega)) rfl (pa_cons (pv 0) pa_nil)) pa_nil))) pa_nil)))))
      pss_nil))
      (qss_cons (QS.mk (ps_if (pt_cmpR op_in_seq (pv 3) (pe_lst (pa_cons pe_str (pa_cons pe_str pa_nil))) (by with_unfolding_all rfl))
      (pss_one (ps_ret (pe_tup (pa_cons (pv 3) (pa_cons pe_non pa_nil)))))
      pss_nil))
      (qss_one (QS.mk (ps_ret (pe_tup (pa_cons (pv 3) (pa_cons (pe_cal c__law_worth (hr.mono (by first | decide | omega)) rfl (pa_cons (pv 0) pa_nil)) pa_nil)))))))))))) ?_
    refine seq_asg ?_
    intro p hp
    refine ⟨(show (2 : Nat) ≤ sizeLine by decide), fun l1 h1 => ⟨(show (2 : Nat) ≤ sizeLine by decide), fun l2 h2 => ⟨(show (2 : Nat) ≤ sizeLine by decide), fun l3 h3 => ?_⟩⟩⟩
    obtain ⟨ep, H2, eH2, s2, e2, f2⟩ := words3 (H := H) (k1 := "register") (k2 := "counter") (k3 := "queue") (w1 := ["write", "read"]) (w2 := ["add", "read"]) (w3 := ["put", "take"]) hp h1 h2 h3 (by decide +kernel) (by decide +kernel) (by decide +kernel)
    refine ⟨ep, [(.inr "register", .ref l1), (.inr "counter", .ref l2), (.inr "queue", .ref l3)], rfl, (show (3 : Nat) ≤ 15 by decide), ?_⟩
    rw [show mergeK [] [((.inr "register" : Key), V.ref l1), (.inr "counter", .ref l2), (.inr "queue", .ref l3)] = [(.inr "register", .ref l1), (.inr "counter", .ref l2), (.inr "queue", .ref l3)] from rfl]
    refine g_name ?_
    refine (show ∀ A, H2 = A → tSeq _ _ _ _ A from ?_) _ eH2
    intro A eA
    subst eA
    refine ⟨(show (3 : Nat) ≤ sizeLine by decide), fun l4 h4 => ⟨_, rfl, p, _, rfl, DPut.k (k := .inr "set") ((Same.upd h4) _ _ e2) (show (3 : Nat) < sizeLine by decide), ?_⟩⟩
    obtain ⟨H4, eH4, W4, k4⟩ := WordsAt.put (k := "set") (ws := ["put", "cut", "has"]) h4 e2 (n := 3) (Nat.le_refl _) f2
    refine (show ∀ A, H4 = A → tSeq _ _ _ _ A from ?_) _ eH4
    intro A eA
    subst eA
    obtain ⟨kvs4, e4, n4, f4⟩ := W4.ex
    refine ⟨(show (4 : Nat) ≤ sizeLine by decide), fun l5 h5 => ⟨_, rfl, p, _, rfl, DPut.k (k := .inr "cell") ((Same.upd h5) _ _ e4) (Nat.lt_of_le_of_lt n4 (by decide)), ?_⟩⟩
    obtain ⟨H5, eH5, W5, k5⟩ := WordsAt.put (k := "cell") (ws := ["read", "write", "swap", "swap"]) h5 e4 n4 f4
    refine (show ∀ A, H5 = A → tSeq _ _ _ _ A from ?_) _ eH5
    intro A eA
    subst eA
    have s5 : Same H H5 := same_of_kept (L := [p]) ((s2.keptL.trans k4).trans k5) (fun l hl => by rw [List.mem_singleton.mp hl]; exact hp)
    obtain ⟨kvs, e5, _, f5⟩ := W5.ex
    have w5 := R.dw.same s5
    have fk : (if k = "cell" then some ["read", "write", "swap", "swap"] else if k = "set" then some ["put", "cut", "has"] else if k = "register" then some ["write", "read"] else if k = "counter" then some ["add", "read"] else if k = "queue" then some ["put", "take"] else none : Option (List Str)) = some (verbsT k) := by
      have hk' := hk
      unfold kinds5 at hk'
      simp only [List.mem_cons, List.not_mem_nil, or_false] at hk'
      rcases hk' with rfl | rfl | rfl | rfl | rfl <;> decide +kernel
    obtain ⟨l6, v6, e6⟩ := f5 k _ fk
    have dg : DGet H5 p (.str k) (some (.ref l6)) := by
      have := DGet.k (k := .inr k) e5
      rw [v6] at this
      exact this
    refine ⟨_, rfl, _, rfl, p, .ref l6, rfl, dg, _, rfl, _, rfl, _, rfl, p, .ref l6, rfl, dg, .inl ⟨l6, _, rfl, .inl (SqL.of e6), ?_⟩⟩
    have hlen : 0 < (verbsT k).length ∧ (verbsT k).length ≤ 4 := by
      have hk' := hk
      unfold kinds5 at hk'
      simp only [List.mem_cons, List.not_mem_nil, or_false] at hk'
      rcases hk' with rfl | rfl | rfl | rfl | rfl <;> decide +kernel
    refine ⟨r, _, n, rfl, w5.r, by omega, by rw [List.length_map]; omega, by rw [List.length_map]; omega, fun t7 H7 w7 h70 h71 => ?_⟩
    obtain ⟨v0, hv0, hm0⟩ := atI_of (xs := (verbsT k).map V.str) h70 h71
    obtain ⟨v, hv, rfl⟩ := List.mem_map.mp hm0
    have n6 : l6 ≠ r := fun z => by
      obtain ⟨a, b, c, er, _⟩ := w5.r
      rw [z, er] at e6
      cases hws : verbsT k with
      | nil => rw [hws] at hlen; exact absurd hlen.1 (by decide)
      | cons y ys => rw [hws] at e6; cases e6
    refine .inl ⟨l6, _, t7, _, rfl, rfl, SqL.of (w7.k _ _ n6 e6), hv0, ?_⟩
    have w57 := w5.trans w7
    have fr : ∀ {m : Nat} {H' : Hp} {p' : Addr}, Dw r m H H' → H' p' = none → H p' = none := fun hw e => hw.free e
    have w8 : Dw r (n + 1) H H7 := w57
    have fin : ∀ (d : Dt) (x : V) (H9 : Hp) (m : Nat), Dw r m H H9 → m ≤ n + 3 → DeedOk k v d → IsDt (KX w.params) H9 d x → WorthIn H9 d x → ∀ p9, H9 p9 = none → Q (.ref p9) (upd H9 p9 (.tup [.str v, x])) := fun d x H9 m w9 hm9 dk ix wi p9 hp9 =>
      q p9 v x d _ m (w9.same (Same.upd hp9)) hm9 upd_same (w9.free hp9) dk (ix.same (Same.upd hp9)) (fun a b e => (wi a b e).elim fun t z => ⟨t, z.1, (Same.upd hp9) _ _ z.2⟩)
    rcases verb_okT hk hv with ⟨hrt, hd⟩ | ⟨hsw, hd⟩ | ⟨h1, h2, h3, hd⟩
    · refine ⟨_, rfl, rfl, _, rfl, iteN (by rcases hrt with rfl | rfl <;> decide +kernel) ?_⟩
      refine ⟨_, rfl, (show (2 : Nat) ≤ sizeLine by decide), fun p8 hp8 => ⟨p8, [V.str "read", .str "take"], rfl, .inl (SqL.of upd_same), rfl, rfl, _, rfl, iteP (by rcases hrt with rfl | rfl <;> decide +kernel) ?_⟩⟩
      exact ⟨_, rfl, (show (2 : Nat) ≤ sizeLine by decide), fun p9 hp9 => fin .non .non _ _ (w8.same (Same.upd hp8)) (by omega) hd rfl (fun _ _ e => by cases e) p9 hp9⟩
    · subst hsw
      refine ⟨_, rfl, rfl, _, rfl, iteP (decide_eq_true rfl) ?_⟩
      refine ⟨_, rfl, _, rfl, r, _, rfl, w8.r, by omega, fun i H9 w9 ni => ⟨_, rfl, r, _, rfl, w9.r, by omega, fun j H10 w10 nj => ⟨(show (2 : Nat) ≤ sizeLine by decide), fun p11 hp11 => ⟨(show (2 : Nat) ≤ sizeLine by decide), fun p12 hp12 => ?_⟩⟩⟩⟩
      exact fin (.tup [.int i, .int j]) (.ref p11) _ _ (((w8.trans w9).trans w10).same (Same.upd hp11)) (by omega) (hd i j ni nj) (.mkT upd_same (.mk2 rfl rfl)) (fun a b e => by cases e; exact ⟨p11, rfl, upd_same⟩) p12 hp12
    · refine ⟨_, rfl, rfl, _, rfl, iteN (by rw [decide_eq_false fun e => h3 (by injection e)]; decide) ?_⟩
      refine ⟨_, rfl, (show (2 : Nat) ≤ sizeLine by decide), fun p8 hp8 => ⟨p8, [V.str "read", .str "take"], rfl, .inl (SqL.of upd_same), rfl, rfl, _, rfl, ?_⟩⟩
      have iv : inV (.str v) [.str "read", .str "take"] = decide (v ∈ (["read", "take"] : List Str)) := inV_str v ["read", "take"]
      rw [if_neg Bool.false_ne_true, iv]
      refine iteN (fun z => ?_) ?_
      · have := of_decide_eq_true z
        simp only [List.mem_cons, List.not_mem_nil, or_false] at this
        rcases this with z | z
        · exact h1 z
        · exact h2 z
      · have w9 := w8.same (Same.upd (o := .lst [V.str "read", .str "take"]) hp8)
        exact ⟨_, rfl, _, rfl, r, _, rfl, w9.r, by omega, fun i H9 w10 ni => ⟨(show (2 : Nat) ≤ sizeLine by decide), fun p12 hp12 => fin (.int i) (.int i) _ _ (w9.trans w10) (by omega) (hd i ni) rfl (fun _ _ e => by cases e) p12 hp12⟩⟩
end
end K64
namespace K64
open PySem PySem.Spec PyProof.Rows TJ L2
section
variable {P : Program} {w : World} {mg : Str → Option Value} {base : Heap}
theorem isPds_ints {K : PySem.W.Frag} {H : Hp} : ∀ ns : List Int, IsPds K H (ns.map PyData.int) (ns.map V.int)
  | [] => rfl
  | n :: ns => ⟨.int n, ns.map V.int, rfl, rfl, isPds_ints ns⟩
theorem plain_ints : ∀ ns : List Int, plainPs (ns.map PyData.int) = true
  | [] => rfl
  | n :: ns => by
    show (true && plainPs (ns.map PyData.int)) = true
    rw [plain_ints ns]
    rfl
theorem depth_ints : ∀ ns : List Int, PyData.depthAll (ns.map PyData.int) ≤ 1
  | [] => by decide
  | n :: ns => by
    have := depth_ints ns
    show max (PyData.depth (.int n)) (PyData.depthAll (ns.map PyData.int)) ≤ 1
    exact Nat.max_le.mpr ⟨(show (0 : Nat) ≤ 1 by decide), this⟩
def AnsI (a : V) : Prop := (∃ i, a = .int i) ∨ a = .str "ok" ∨ a = .str "none"
def sp__law_do (K : PySem.W.Frag) : Sp := fun vs H Q _ => ∃ (k v : Str) (st x : V) (d : Dt) (n : Nat), vs = [.str k, st, .str v, x] ∧ StAt K H n k st ∧ n < 63 ∧ DeedOk k v d ∧ IsDt K H d x ∧ WorthIn H d x ∧ ∀ p st' a H', Same H H' → H' p = some (.tup [st', a]) → StAt K H' (n + 1) k st' → AnsI a → Q (.ref p) H'
theorem ok__law_do (T : TX (KX w.params) mg) : FnOk P w (KX w.params) mg base CX0 1 190 fd__law_do ["kind", "state", "verb", "worth"] (sp__law_do (KX w.params)) := by
  refine (F__law_do w.params).ok sc__law_do (fun vs H Q E h => ?_) (fun cdv A outer s H vs Q E hr h => ?_)
  · obtain ⟨k, v, st, x, d, n, rfl, _⟩ := h
    rfl
  · obtain ⟨k, v, st, x, d, n, rfl, sa, hn, hd, hx, wi, q⟩ := h
    refine ⟨_, (pss_cons (ps_if (pt_cmpR opEq (pv 2) pe_str (nomark _))
      (pss_one (ps_ret (pe_tup (pa_cons (pv 1) (pa_cons (pv 1) pa_nil)))))
      pss_nil)
      (pss_cons (ps_if (pt_cmpR opEq (pv 2) pe_str (nomark _))
      (pss_one (ps_ret (pe_tup (pa_cons (pv 3) (pa_cons pe_str pa_nil)))))
      pss_nil)
      (pss_cons (ps_if (pt_cmpR opEq (pv 2) pe_str (nomark _))
      (pss_one (ps_ret (pe_tup (pa_cons (pe_op opAdd (pv 1) (pv 3)) (pa_cons (pv 1) pa_nil)))))
      pss_nil)
      (pss_cons (ps_if (pt_cmpR opEq (pv 2) pe_str (nomark _))
      (pss_one (ps_ret (pe_ix ix_seq (pe_lst (pa_cons (pe_tup (pa_cons (pv 1) (pa_cons pe_int pa_nil))) (pa_cons (pe_tup (pa_cons (pe_ix ix_seq (pv 3) pe_int (fun _ _ => rfl)) (pa_cons pe_int pa_nil))) pa_nil))) (pe_callTy call_int rfl (T.no (n_int _)) boot_int (pa_cons (pe_cmpR opEq (pv 1) (pe_ix ix_seq (pv 3) pe_int (fun _ _ => rfl)) (nomark _)) pa_nil)) (fun _ _ => rfl))))
      pss_nil)
      (pss_cons (ps_if (pt_cmpR opEq (pv 2) pe_str (nomark _))
      (pss_cons (ps_if (pt_cmpR (op_eqP hr) (pv 1) (pe_tup pa_nil) (nomark _))
      (pss_one (ps_ret (pe_tup (pa_cons (pv 1) (pa_cons pe_str pa_nil)))))
      pss_nil)
      (pss_one (ps_ret (pe_tup (pa_cons (pe_slice slSeq (pv 1) (po_some pe_int) po_none) (pa_cons (pe_ix ix_seq (pv 1) pe_int (fun _ _ => rfl)) pa_nil))))))
      pss_nil)
      (pss_cons (ps_if (pt_cmpR opEq (pv 0) pe_str (nomark _))
      (pss_one (ps_ret (pe_tup (pa_cons (pe_op op_catA (pv 1) (pe_tup (pa_cons (pv 3) pa_nil))) (pa_cons pe_str pa_nil)))))
      pss_nil)
      (pss_cons (ps_set (i := 4) sc__law_do.nd rfl (by first | exact Or.inl rfl | exact Or.inr rfl) (pe_cmpR op_in_seq (pv 3) (pv 1) (by with_unfolding_all rfl)))
      (pss_cons (ps_if (PW.pt (pw_and (pt_cmpR opEq (pv 2) pe_str (nomark _)) (pw_and1 (pt_not (pt_val (pv 4) (fun _ => rfl))))))
      (pss_one (ps_ret (pe_tup (pa_cons (pe_callTy call_tuple_of rfl (T.no (n_tuple _)) boot_tuple (pa_cons (pe_callB call_sortedS rfl (T.no (n_sorted _)) boot_sorted (pa_cons (pe_op op_catA (pv 1) (pe_tup (pa_cons (pv 3) pa_nil))) pa_nil)) pa_nil)) (pa_cons pe_int pa_nil)))))
      pss_nil)
      (pss_cons (ps_if (pt_cmpR opEq (pv 2) pe_str (nomark _))
      (pss_one (ps_ret (pe_tup (pa_cons (pv 1) (pa_cons pe_int pa_nil)))))
      pss_nil)
      (pss_cons (ps_if (pt_cmpR opEq (pv 2) pe_str (nomark _))
      (pss_one (ps_ret (pe_tup (pa_cons (pe_callTy call_tuple_of rfl (T.no (n_tuple _)) boot_tuple (pa_cons (pe_comp (fr := [(3, "worth")]) rfl (pi_tup (pv 1)) (by decide +kernel) (by intro p hp; obtain rfl := List.mem_singleton.mp hp; first | exact ⟨rfl, .inl rfl⟩ | exact ⟨rfl, .inr rfl⟩) (free_one (n := "worth") (by decide +kernel) (fun _ => by first | exact .inl rfl | exact .inr rfl)) (by intro p hp; obtain rfl := List.mem_singleton.mp hp; exact ⟨by decide +kernel, by first | exact .inl rfl | exact .inr rfl⟩) (by decide +kernel) rfl (by decide +kernel) rfl (fun _ _ _ _ _ => (pf_one (pt_cmpR opNe (pv 0) (pv 1) (nomark _)))) (fun _ _ _ _ _ => (pv 0))) pa_nil)) (pa_cons (pe_callTy call_int rfl (T.no (n_int _)) boot_int (pa_cons (pv 4) pa_nil)) pa_nil)))))
      pss_nil)
      (pss_one (ps_ret (pe_tup (pa_cons (pv 1) (pa_cons (pe_callTy call_int rfl (T.no (n_int _)) boot_int (pa_cons (pv 4) pa_nil)) pa_nil))))))))))))))), ?_⟩
    have big : ∀ {ns : List Int}, ns.length ≤ n → (ns.map V.int).length + 1 ≤ sizeLine := fun l => by rw [List.length_map]; exact Nat.le_trans (m := 64) (by omega) (by decide)
    have mapS : ∀ (ns : List Int) (i : Int), ns.map V.int ++ [V.int i] = (ns ++ [i]).map V.int := fun ns i => by rw [List.map_append]; rfl
    have isQ : rowK "queue" := .inl rfl
    have isS : rowK "set" := .inr rfl
    have ai : ∀ i, AnsI (.int i) := fun i => .inl ⟨i, rfl⟩
    have as : AnsI (.str "ok") := .inr (.inl rfl)
    have as2 : AnsI (.str "none") := .inr (.inr rfl)
    cases hd with
    | regR =>
      have nk : ¬ rowK "register" := by decide +kernel
      obtain ⟨a, rfl⟩ := sa.isNum nk
      refine ⟨_, rfl, rfl, _, rfl, iteP (decide_eq_true rfl) ?_⟩
      exact ⟨_, rfl, _, rfl, (show (2 : Nat) ≤ sizeLine by decide), fun p hp => q p _ _ _ (Same.upd hp) upd_same (.num nk) (ai _)⟩
    | cntR =>
      have nk : ¬ rowK "counter" := by decide +kernel
      obtain ⟨a, rfl⟩ := sa.isNum nk
      refine ⟨_, rfl, rfl, _, rfl, iteP (decide_eq_true rfl) ?_⟩
      exact ⟨_, rfl, _, rfl, (show (2 : Nat) ≤ sizeLine by decide), fun p hp => q p _ _ _ (Same.upd hp) upd_same (.num nk) (ai _)⟩
    | celR =>
      have nk : ¬ rowK "cell" := by decide +kernel
      obtain ⟨a, rfl⟩ := sa.isNum nk
      refine ⟨_, rfl, rfl, _, rfl, iteP (decide_eq_true rfl) ?_⟩
      exact ⟨_, rfl, _, rfl, (show (2 : Nat) ≤ sizeLine by decide), fun p hp => q p _ _ _ (Same.upd hp) upd_same (.num nk) (ai _)⟩
    | regW ni =>
      rename_i i
      have nk : ¬ rowK "register" := by decide +kernel
      cases (show x = V.int i from hx)
      refine ⟨_, rfl, rfl, _, rfl, iteN (by decide +kernel) ⟨_, rfl, rfl, _, rfl, iteP (decide_eq_true rfl) ?_⟩⟩
      exact ⟨_, rfl, (show (2 : Nat) ≤ sizeLine by decide), fun p hp => q p _ _ _ (Same.upd hp) upd_same (.num nk) as⟩
    | celW ni =>
      rename_i i
      have nk : ¬ rowK "cell" := by decide +kernel
      cases (show x = V.int i from hx)
      refine ⟨_, rfl, rfl, _, rfl, iteN (by decide +kernel) ⟨_, rfl, rfl, _, rfl, iteP (decide_eq_true rfl) ?_⟩⟩
      exact ⟨_, rfl, (show (2 : Nat) ≤ sizeLine by decide), fun p hp => q p _ _ _ (Same.upd hp) upd_same (.num nk) as⟩
    | cntA ni =>
      rename_i i
      have nk : ¬ rowK "counter" := by decide +kernel
      obtain ⟨a, rfl⟩ := sa.isNum nk
      cases (show x = V.int i from hx)
      refine ⟨_, rfl, rfl, _, rfl, iteN (by decide +kernel) ⟨_, rfl, rfl, _, rfl, iteN (by decide +kernel) ⟨_, rfl, rfl, _, rfl, iteP (decide_eq_true rfl) ?_⟩⟩⟩
      exact ⟨_, rfl, _, rfl, .inl ⟨a, i, rfl, rfl, _, rfl, (show (2 : Nat) ≤ sizeLine by decide), fun p hp => q p _ _ _ (Same.upd hp) upd_same (.num nk) (ai _)⟩⟩
    | celS ni nj =>
      rename_i i j
      have nk : ¬ rowK "cell" := by decide +kernel
      obtain ⟨a, rfl⟩ := sa.isNum nk
      obtain ⟨t, rfl, et⟩ := wi i j rfl
      refine ⟨_, rfl, rfl, _, rfl, iteN (by decide +kernel) ⟨_, rfl, rfl, _, rfl, iteN (by decide +kernel) ⟨_, rfl, rfl, _, rfl, iteN (by decide +kernel) ⟨_, rfl, rfl, _, rfl, iteP (decide_eq_true rfl) ?_⟩⟩⟩⟩
      refine ⟨_, rfl, (show (2 : Nat) ≤ sizeLine by decide), fun p1 hp1 => ?_⟩
      have s1 := Same.upd (o := .tup [.int a, .int 0]) hp1
      have e1 : upd H p1 (.tup [.int a, .int 0]) p1 = some (.tup [.int a, .int 0]) := upd_same
      generalize upd H p1 (.tup [.int a, .int 0]) = H1 at s1 e1 ⊢
      refine ⟨_, rfl, .inr (.inl ⟨t, _, 1, .int j, rfl, rfl, SqT.of (s1 _ _ et), atI_nat (j := 1) rfl, (show (2 : Nat) ≤ sizeLine by decide), fun p2 hp2 => ?_⟩)⟩
      have s2 := Same.upd (o := .tup [.int j, .int 1]) hp2
      have e2 : upd H1 p2 (.tup [.int j, .int 1]) p2 = some (.tup [.int j, .int 1]) := upd_same
      have e12 := s2 _ _ e1
      generalize upd H1 p2 (.tup [.int j, .int 1]) = H2 at s2 e2 e12 ⊢
      refine ⟨(show (2 : Nat) ≤ sizeLine by decide), fun l hl => ?_⟩
      have s3 := Same.upd (o := .lst [.ref p1, .ref p2]) hl
      have e3 : upd H2 l (.lst [.ref p1, .ref p2]) l = some (.lst [.ref p1, .ref p2]) := upd_same
      have e13 := s3 _ _ e12
      have e23 := s3 _ _ e2
      generalize upd H2 l (.lst [.ref p1, .ref p2]) = H3 at s3 e3 e13 e23 ⊢
      have sx := (s1.trans s2).trans s3
      refine ⟨_, rfl, _, rfl, .inr (.inl ⟨t, _, 0, .int i, rfl, rfl, SqT.of (sx _ _ et), atI_nat (j := 0) rfl, rfl, .inl (.inr ⟨_, rfl, ?_⟩)⟩)⟩
      by_cases z : decide (V.int a = V.int i) = true
      · exact .inl ⟨l, _, _, .ref p2, rfl, rfl, SqL.of e3, by rw [if_pos z]; rfl, q p2 _ _ _ sx e23 (.num nk) (ai _)⟩
      · exact .inl ⟨l, _, _, .ref p1, rfl, rfl, SqL.of e3, by rw [if_neg z]; rfl, q p1 _ _ _ sx e13 (.num nk) (ai _)⟩
    | quT =>
      obtain ⟨t, ns, rfl, sq, ln⟩ := sa.isRow isQ
      refine ⟨_, rfl, rfl, _, rfl, iteN (by decide +kernel) ⟨_, rfl, rfl, _, rfl, iteN (by decide +kernel) ⟨_, rfl, rfl, _, rfl, iteN (by decide +kernel) ⟨_, rfl, rfl, _, rfl, iteN (by decide +kernel) ⟨_, rfl, rfl, _, rfl, iteP (decide_eq_true rfl) ?_⟩⟩⟩⟩⟩
      refine ⟨_, rfl, (show (0 : Nat) ≤ sizeLine by decide), fun p0 hp0 => ?_⟩
      have s0 := Same.upd (o := .tup []) hp0
      refine ⟨.tuple (ns.map PyData.int), .tuple [], ⟨t, _, rfl, s0.seqT sq, isPds_ints ns⟩, ⟨p0, [], rfl, SqT.of upd_same, rfl⟩, plain_ints ns, rfl, Nat.le_trans (Nat.add_le_add_right (depth_ints ns) 1) (by decide), _, rfl, ?_⟩
      generalize upd H p0 (.tup []) = H0 at s0 ⊢
      have sq0 := s0.seqT sq
      cases ns with
      | nil => exact iteP rfl ⟨_, rfl, (show (2 : Nat) ≤ sizeLine by decide), fun p hp => q p _ _ _ (s0.trans (Same.upd hp)) upd_same (.mk (ns := []) isQ ((Same.upd hp).seqT sq0) (Nat.zero_le _)) as2⟩
      | cons m r =>
        refine iteN Bool.false_ne_true ?_
        refine ⟨_, rfl, _, rfl, .inr (.inl ⟨t, _, rfl, sq0, ?_, fun p1 hp1 => ?_⟩)⟩
        · intro z
          have : HT.sIx ((m :: r).map V.int).length 0 (some 1) = 1 := by
            rw [List.length_map, List.length_cons]
            simp [HT.sIx]
          omega
        · have ec : cutV ((m :: r).map V.int) (some 1) none = r.map V.int := by
            unfold cutV
            simp [HT.sIx]
            exact List.take_of_length_le (by rw [List.length_map]; exact Nat.le_refl _)
          have s1 := Same.upd (o := .tup (cutV ((m :: r).map V.int) (some 1) none)) hp1
          have e1 : upd H0 p1 (.tup (cutV ((m :: r).map V.int) (some 1) none)) p1 = some (.tup (r.map V.int)) := by rw [upd_same, ec]
          generalize upd H0 p1 (.tup (cutV ((m :: r).map V.int) (some 1) none)) = H1 at s1 e1 ⊢
          refine ⟨_, rfl, .inr (.inl ⟨t, _, 0, .int m, rfl, rfl, s1.seqT sq0, atI_nat (j := 0) rfl, (show (2 : Nat) ≤ sizeLine by decide), fun p hp => ?_⟩)⟩
          exact q p _ _ _ ((s0.trans s1).trans (Same.upd hp)) upd_same (.mk (ns := r) isQ ((Same.upd hp).seqT (SqT.of e1)) (by rw [List.length_cons] at ln; omega)) (ai _)
    | quP ni =>
      rename_i i
      obtain ⟨t, ns, rfl, sq, ln⟩ := sa.isRow isQ
      cases (show x = V.int i from hx)
      refine ⟨_, rfl, rfl, _, rfl, iteN (by decide +kernel) ⟨_, rfl, rfl, _, rfl, iteN (by decide +kernel) ⟨_, rfl, rfl, _, rfl, iteN (by decide +kernel) ⟨_, rfl, rfl, _, rfl, iteN (by decide +kernel) ⟨_, rfl, rfl, _, rfl, iteN (by decide +kernel) ⟨_, rfl, rfl, _, rfl, iteP (decide_eq_true rfl) ?_⟩⟩⟩⟩⟩⟩
      refine ⟨_, rfl, _, rfl, (show (1 : Nat) ≤ sizeLine by decide), fun p1 hp1 => ?_⟩
      have s1 := Same.upd (o := .tup [.int i]) hp1
      refine ⟨t, p1, ns.map V.int, [.int i], rfl, rfl, s1.seqT sq, SqT.of upd_same, big ln, fun p2 H2 s2 sq2 => ?_⟩
      rw [mapS] at sq2
      exact ⟨(show (2 : Nat) ≤ sizeLine by decide), fun p3 hp3 => q p3 _ _ _ ((s1.trans s2).trans (Same.upd hp3)) upd_same (.mk isQ ((Same.upd hp3).seqT sq2) (by rw [List.length_append]; exact Nat.succ_le_succ ln)) as⟩
    | setP ni =>
      rename_i i
      obtain ⟨t, ns, rfl, sq, ln⟩ := sa.isRow isS
      cases (show x = V.int i from hx)
      refine ⟨_, rfl, rfl, _, rfl, iteN (by decide +kernel) ⟨_, rfl, rfl, _, rfl, iteN (by decide +kernel) ⟨_, rfl, rfl, _, rfl, iteN (by decide +kernel) ⟨_, rfl, rfl, _, rfl, iteN (by decide +kernel) ⟨_, rfl, rfl, _, rfl, iteN (by decide +kernel) ⟨_, rfl, rfl, _, rfl, iteN (by decide +kernel) ?_⟩⟩⟩⟩⟩⟩
      refine ⟨_, rfl, _, rfl, t, _, rfl, .inr sq, rfl, flat_ints ns, ?_⟩
      rw [if_neg Bool.false_ne_true, inV_ints]
      refine ⟨_, rfl, rfl, _, rfl, iteP (decide_eq_true rfl) ⟨_, rfl, _, rfl, ?_⟩⟩
      by_cases hi : i ∈ ns
      · rw [decide_eq_true hi]
        refine iteN (by decide) ⟨_, rfl, rfl, _, rfl, iteP (decide_eq_true rfl) ?_⟩
        exact ⟨_, rfl, (show (2 : Nat) ≤ sizeLine by decide), fun p hp => q p _ _ _ (Same.upd hp) upd_same (.mk isS ((Same.upd hp).seqT sq) (Nat.le_succ_of_le ln)) (ai _)⟩
      · rw [decide_eq_false hi]
        refine iteP rfl ?_
        refine ⟨_, rfl, _, rfl, (show (1 : Nat) ≤ sizeLine by decide), fun p1 hp1 => ?_⟩
        have s1 := Same.upd (o := .tup [.int i]) hp1
        refine ⟨t, p1, ns.map V.int, [.int i], rfl, rfl, s1.seqT sq, SqT.of upd_same, big ln, fun p2 H2 s2 sq2 => ?_⟩
        rw [mapS] at sq2
        refine ⟨p2, ns ++ [i], rfl, .inr sq2, by rw [List.length_append]; exact (show ns.length + 1 < 64 by omega), fun l ns' hl pm pw => ?_⟩
        have s3 := Same.upd (o := .lst (ns'.map V.int)) hl
        refine ⟨l, _, rfl, .inl ⟨SqL.of upd_same, fun p4 hp4 => ⟨(show (2 : Nat) ≤ sizeLine by decide), fun p5 hp5 => ?_⟩⟩⟩
        exact q p5 _ _ _ ((((s1.trans s2).trans s3).trans (Same.upd hp4)).trans (Same.upd hp5)) upd_same (.mk (ns := ns') isS (SqT.of ((Same.upd hp5) _ _ upd_same)) (by rw [pm.length_eq, List.length_append]; exact Nat.succ_le_succ ln)) (ai _)
    | setC ni =>
      rename_i i
      obtain ⟨t, ns, rfl, sq, ln⟩ := sa.isRow isS
      cases (show x = V.int i from hx)
      refine ⟨_, rfl, rfl, _, rfl, iteN (by decide +kernel) ⟨_, rfl, rfl, _, rfl, iteN (by decide +kernel) ⟨_, rfl, rfl, _, rfl, iteN (by decide +kernel) ⟨_, rfl, rfl, _, rfl, iteN (by decide +kernel) ⟨_, rfl, rfl, _, rfl, iteN (by decide +kernel) ⟨_, rfl, rfl, _, rfl, iteN (by decide +kernel) ?_⟩⟩⟩⟩⟩⟩
      refine ⟨_, rfl, _, rfl, t, _, rfl, .inr sq, rfl, flat_ints ns, ?_⟩
      rw [if_neg Bool.false_ne_true, inV_ints]
      refine ⟨_, rfl, rfl, _, rfl, iteN (by decide +kernel) ?_⟩
      refine iteN Bool.false_ne_true ⟨_, rfl, rfl, _, rfl, iteN (by decide +kernel) ⟨_, rfl, rfl, _, rfl, iteP (decide_eq_true rfl) ?_⟩⟩
      have zl : (ns.map V.int).length ≤ sizeLine := Nat.le_trans (Nat.le_succ _) (big ln)
      simp only [tRet, tTup, tCB, tCons, tNil]
      refine tcomp_tup_if (fun v => !decide (v = V.int i)) (fun v => v) (fun R h => ⟨_, rfl, h⟩) sq zl (fun v hv H' s' R hR => ?_) (fun v hv H' s' R hR => ⟨_, rfl, hR _ (Same.refl _)⟩) fun l H' s' hl' => ?_
      · obtain ⟨j, _, rfl⟩ := List.mem_map.mp hv
        exact ⟨_, rfl, _, rfl, rfl, _, rfl, hR _ (Same.refl _)⟩
      · rw [List.map_id', filter_ints (fun j => !decide (j = i)) _ (fun j => by simp) ns]
        have s3 := Same.upd (o := .lst ((ns.filter fun j => !decide (j = i)).map V.int)) hl'
        refine ⟨l, _, rfl, .inl ⟨SqL.of upd_same, fun p4 hp4 => ⟨_, rfl, .inl (.inr ⟨_, rfl, (show (2 : Nat) ≤ sizeLine by decide), fun p5 hp5 => ?_⟩)⟩⟩⟩
        exact q p5 _ _ _ (((s'.trans s3).trans (Same.upd hp4)).trans (Same.upd hp5)) upd_same (.mk (ns := ns.filter fun j => !decide (j = i)) isS (SqT.of ((Same.upd hp5) _ _ upd_same)) (Nat.le_trans (List.length_filter_le _ _) (Nat.le_succ_of_le ln))) (ai _)
    | setH ni =>
      rename_i i
      obtain ⟨t, ns, rfl, sq, ln⟩ := sa.isRow isS
      cases (show x = V.int i from hx)
      refine ⟨_, rfl, rfl, _, rfl, iteN (by decide +kernel) ⟨_, rfl, rfl, _, rfl, iteN (by decide +kernel) ⟨_, rfl, rfl, _, rfl, iteN (by decide +kernel) ⟨_, rfl, rfl, _, rfl, iteN (by decide +kernel) ⟨_, rfl, rfl, _, rfl, iteN (by decide +kernel) ⟨_, rfl, rfl, _, rfl, iteN (by decide +kernel) ?_⟩⟩⟩⟩⟩⟩
      refine ⟨_, rfl, _, rfl, t, _, rfl, .inr sq, rfl, flat_ints ns, ?_⟩
      rw [if_neg Bool.false_ne_true, inV_ints]
      refine ⟨_, rfl, rfl, _, rfl, iteN (by decide +kernel) ?_⟩
      refine iteN Bool.false_ne_true ⟨_, rfl, rfl, _, rfl, iteN (by decide +kernel) ⟨_, rfl, rfl, _, rfl, iteN (by decide +kernel) ?_⟩⟩
      exact ⟨_, rfl, _, rfl, .inl (.inr ⟨_, rfl, (show (2 : Nat) ≤ sizeLine by decide), fun p hp => q p _ _ _ (Same.upd hp) upd_same (.mk isS ((Same.upd hp).seqT sq) (Nat.le_succ_of_le ln)) (ai _)⟩)⟩
end
end K64
namespace K64
open PySem PySem.Spec PyProof.Rows TJ L2
section
variable {P : Program} {w : World} {mg : Str → Option Value} {base : Heap}
def StsT (K : PySem.W.Frag) (H : Hp) (p : Addr) (ts : List (Str × Str)) (n : Nat) : Prop := ∃ vs, SqT K H p vs ∧ All2 (fun (t : Str × Str) y => StAt K H n t.2 y) ts vs
theorem StsT.tups {K : PySem.W.Frag} {H H' : Hp} {p : Addr} {ts : List (Str × Str)} {n : Nat} (t : Tups K H H') (h : StsT K H p ts n) : StsT K H' p ts n := h.elim fun vs z => ⟨vs, t _ _ z.1, forall2_mono (fun _ _ y => y.tups t) z.2⟩
theorem StsT.le {K : PySem.W.Frag} {H : Hp} {p : Addr} {ts : List (Str × Str)} {n m : Nat} (l : n ≤ m) (h : StsT K H p ts n) : StsT K H p ts m := h.elim fun vs z => ⟨vs, z.1, forall2_mono (fun _ _ y => y.le l) z.2⟩
theorem all2_first {K : PySem.W.Frag} {H : Hp} : ∀ {ts : List (Str × Str)} {ys zs : List V}, All2 (fun (t : Str × Str) y => ∃ b, y = .ref b ∧ H b = some (.tup [.str t.1, .str t.2])) ts ys → All2 (fun x y => ∃ (n k : Str) (b : Addr), x = .ref b ∧ H b = some (.tup [.str n, .str k]) ∧ StAt K H 0 k y) ys zs → All2 (fun (t : Str × Str) y => StAt K H 0 t.2 y) ts zs
  | [], _, _, .nil, .nil => .nil
  | t :: ts, _, _, .cons a r, .cons a' r' => by
    refine .cons ?_ (all2_first r r')
    obtain ⟨b, rfl, hb⟩ := a
    obtain ⟨n, k, b', eb, hb', sa⟩ := a'
    cases eb
    rw [hb] at hb'
    injection hb' with hb'
    injection hb' with hb'
    have h2 : t.2 = k := by injection hb' with _ h; injection h with h _; injection h
    rw [h2]
    exact sa
def sp__law_first (K : PySem.W.Frag) : Sp := fun vs H Q _ => ∃ (pt : Addr) (ts : List (Str × Str)), vs = [.ref pt] ∧ ThAt H pt ts ∧ ts.length ≤ 6 ∧ ∀ p H', Same H H' → StsT K H' p ts 0 → Q (.ref p) H'
theorem ok__law_first (T : TX (KX w.params) mg) : FnOk P w (KX w.params) mg base CX0 1 195 fd__law_first ["things"] (sp__law_first (KX w.params)) := by
  refine (F__law_first w.params).ok sc__law_first (fun vs H Q E h => ?_) (fun cdv A outer s H vs Q E hr h => ?_)
  · obtain ⟨pt, ts, rfl, _⟩ := h
    rfl
  · obtain ⟨pt, ts, rfl, ⟨yt, eyt, alt⟩, hl6, q⟩ := h
    refine ⟨_, (pss_one (ps_ret (pe_callTy call_tuple_of rfl (T.no (n_tuple _)) boot_tuple (pa_cons (pe_compG (xs := ["name", "kind"]) (g := gTup (KX w.params) 2 (gCons (gName 0) (gCons (gName 1) gNil))) (fr := []) rfl (pi_tup (pv 0)) (fun _ z => absurd z List.not_mem_nil) (free_none rfl) (fun _ z => absurd z List.not_mem_nil) (by decide +kernel) rfl (by decide +kernel) (fun _ _ _ _ _ => (pg_tup rfl (pgs_cons (pg_cname (N := ["name", "kind"]) 0 (by decide +kernel) rfl rfl) (pgs_cons (pg_cname (N := ["name", "kind"]) 1 (by decide +kernel) rfl rfl) pgs_nil)))) (fun _ _ _ _ _ => pf_nil) (fun _ _ _ _ _ => (pe_dget2 (hu_of hr) (pe_disp (pps_cons pe_str (pe_tup pa_nil) (pps_cons pe_str (pe_tup pa_nil) pps_nil)) rfl rfl (by simp) (by decide)) (pv 1) pe_int ⟨rfl, rfl, rfl, rfl⟩))) pa_nil)))), ?_⟩
    refine ret_cb1 ?_
    refine tcompR_tup (S := Same) (K := KX w.params) (a := pt) (xs := yt) (fun x y H => ∃ (n k : Str) (b : Addr), x = .ref b ∧ H b = some (.tup [.str n, .str k]) ∧ StAt (KX w.params) H 0 k y) (Same.refl _) (fun _ _ _ a b => a.trans b) (fun _ _ => Same.refl _) ?_ (fun R h => ⟨_, rfl, h⟩) (fun H' s' => s'.seqT (SqT.of eyt)) (Nat.le_trans (Nat.le_of_eq (forall2_len alt)) (Nat.le_trans hl6 (by decide))) ?_ ?_
    · rintro x y H3 H4 s4 ⟨n, k, b, e1, e2, e3⟩
      exact ⟨n, k, b, e1, s4 _ _ e2, e3.tups (.of s4)⟩
    · intro v hv H3 s3 KT hKT KF
      obtain ⟨m, hm⟩ := List.mem_iff_getElem?.mp hv
      obtain ⟨t, ht, b, rfl, eb⟩ := all2_get alt hm
      have eb3 := s3 _ _ eb
      refine ⟨b, _, rfl, SqT.of eb3, rfl, _, _, rfl, _, _, rfl, rfl, [some (.str t.1), some (.str t.2)], rfl, rfl, iteT ?_⟩
      intro p hp
      refine ⟨(show (0 : Nat) ≤ sizeLine by decide), fun c1 h1 => ⟨(show (0 : Nat) ≤ sizeLine by decide), fun c2 h2 => ?_⟩⟩
      have n1 : p ≠ c1 := ne_of_none upd_same h1
      have n2 : p ≠ c2 := ne_of_none (by rw [upd_ne n1]; exact upd_same) h2
      have n12 : c1 ≠ c2 := ne_of_none upd_same h2
      refine ⟨by rw [upd_ne n2, upd_ne n1]; exact upd_same, [(.inr "queue", .ref c1), (.inr "set", .ref c2)], rfl, (show (2 : Nat) ≤ 15 by decide), ?_⟩
      rw [show mergeK [] [((.inr "queue" : Key), V.ref c1), (.inr "set", .ref c2)] = [(.inr "queue", .ref c1), (.inr "set", .ref c2)] from rfl]
      generalize hH4 : upd (upd (upd (upd H3 p (.dK [])) c1 (.tup [])) c2 (.tup [])) p (.dK [(.inr "queue", .ref c1), (.inr "set", .ref c2)]) = H4
      have ep : H4 p = some (.dK [(.inr "queue", .ref c1), (.inr "set", .ref c2)]) := by rw [← hH4]; exact upd_same
      have e1 : H4 c1 = some (.tup []) := by rw [← hH4, upd_ne n1.symm, upd_ne n12]; exact upd_same
      have e2 : H4 c2 = some (.tup []) := by rw [← hH4, upd_ne n2.symm]; exact upd_same
      have s4 : Same H3 H4 := fun c o e => by
        rw [← hH4, upd_ne (ne_of_none e hp)]
        exact ((((Same.upd hp).trans (Same.upd h1)).trans (Same.upd h2))) c o e
      refine ⟨p, rfl, .inl ⟨_, .inl ep⟩, _, rfl, _, DGet.k (k := .inr t.2) ep, ?_⟩
      refine hKT _ _ s4 ⟨t.1, t.2, b, rfl, s4 _ _ eb3, ?_⟩
      by_cases z1 : t.2 = "queue"
      · rw [z1, valV_pos rfl]
        exact .mk (ns := []) (.inl rfl) (SqT.of e1) (Nat.le_refl _)
      · rw [valV_neg (fun e => z1 (Sum.inr.inj e).symm)]
        by_cases z2 : t.2 = "set"
        · rw [z2, valV_pos rfl]
          exact .mk (ns := []) (.inr rfl) (SqT.of e2) (Nat.le_refl _)
        · rw [valV_neg (fun e => z2 (Sum.inr.inj e).symm)]
          exact .num fun h => h.elim z1 z2
    · intro l3 H3 zs s3 hl3 al3
      refine ⟨l3, zs, rfl, .inl ⟨SqL.of upd_same, fun p4 hp4 => ?_⟩⟩
      have alt3 : All2 (fun (t : Str × Str) y => ∃ b, y = .ref b ∧ H3 b = some (.tup [.str t.1, .str t.2])) ts yt := forall2_mono (fun _ _ z => z.elim fun b y => ⟨b, y.1, s3 _ _ y.2⟩) alt
      have s5 := (Same.upd (o := .lst zs) hl3).trans (Same.upd (o := .tup zs) hp4)
      exact q p4 _ (s3.trans s5) ⟨zs, SqT.of upd_same, forall2_mono (fun _ _ z => z.tups (.of s5)) (all2_first alt3 al3)⟩
theorem comp_by {tl : TE} {K : PySem.W.Frag} {m : Nat} {fr : List (Nat × Str)} {g : TG} {tc : TT} {te : TE} {σ : L2.St} {H : Hp} {Q : VK} (Pr : Addr → Hp → Prop) (h1 : ∀ R : VK, (∀ l H1, Pr l H1 → R (.ref l) H1) → tl σ H R) (h2 : ∀ l H1, Pr l H1 → tCompG (iList K fun _ _ R => R (.ref l) H1) m fr g tc te σ H Q) : tCompG (iList K tl) m fr g tc te σ H Q := h1 _ fun l H1 p => h2 l H1 p
theorem seq_bm {K : PySem.W.Frag} {N : String} {r : V → List V → Hp → VK → Prop} {to : TE} {t : TA} {g : TG} {rest : TS} {D : Ends} {σ : L2.St} {H : Hp} (h : to σ H fun x H1 => tyV K N x H1 ∧ t σ H1 fun xs H2 => r x xs H2 fun y H3 => g y σ H3 (rest D)) : tSeq (tAsg (tBM K N r to t) g) rest D σ H := h
def OwnAt (K : PySem.W.Frag) (H : Hp) (ts : List (Str × Str)) (p : Addr) : Prop := ∃ (nm vb : Str) (x a : V) (k : Str) (d : Dt), H p = some (.lst [.str nm, .str vb, x, a]) ∧ (nm, k) ∈ ts ∧ DeedOk k vb d ∧ IsDt K H d x ∧ WorthIn H d x ∧ (a = .non ∨ AnsI a)
end
end K64
namespace K64
open PySem PySem.Spec PyProof.Rows TJ L2
section
variable {P : Program} {w : World} {mg : Str → Option Value} {base : Heap}
theorem all2_names {H : Hp} : ∀ {ts : List (Str × Str)} {ys zs : List V}, All2 (fun (t : Str × Str) y => ∃ b, y = .ref b ∧ H b = some (.tup [.str t.1, .str t.2])) ts ys → All2 (fun x y => ∃ (n k : Str) (b : Addr), x = .ref b ∧ H b = some (.tup [.str n, .str k]) ∧ y = .str n) ys zs → zs = (ts.map (·.1)).map V.str
  | [], _, _, .nil, .nil => rfl
  | t :: ts, _, _, .cons a r, .cons a' r' => by
    rw [all2_names r r']
    obtain ⟨b, rfl, hb⟩ := a
    obtain ⟨n, k, b', eb, hb', rfl⟩ := a'
    cases eb
    rw [hb] at hb'
    injection hb' with hb'
    injection hb' with hb'
    have h1 : t.1 = n := by injection hb' with h _; injection h
    rw [← h1]
    rfl
theorem all2_set {α β : Type} {R S : α → β → Prop} {y : β} : ∀ {xs : List α} {ys : List β} {j : Nat} {x : α}, (∀ a b, R a b → S a b) → All2 R xs ys → xs[j]? = some x → S x y → All2 S xs (ys.set j y)
  | _, _, _, _, _, .nil, e, _ => by simp at e
  | _, _, 0, x, f, .cons a r, e, h => by
    rw [List.getElem?_cons_zero] at e
    cases e
    exact .cons h (forall2_mono f r)
  | _, _, j + 1, x, f, .cons a r, e, h => by
    rw [List.getElem?_cons_succ] at e
    exact .cons (f _ _ a) (all2_set f r e h)
theorem cut_at {ys : List V} {m : Nat} (h : m < ys.length) : cutV ys none (some (m : Int)) = ys.take m ∧ cutV ys (some ((m : Int) + 1)) none = ys.drop (m + 1) ∧ HT.sIx ys.length ys.length (some (m : Int)) = m ∧ HT.sIx ys.length 0 (some ((m : Int) + 1)) = m + 1 := by
  obtain ⟨c1, _, c3⟩ := cut_to (Nat.le_of_lt h)
  have b : HT.sIx ys.length 0 (some ((m : Int) + 1)) = m + 1 := by
    simp [HT.sIx]
    rw [if_neg (by omega)]
    omega
  refine ⟨c1, ?_, c3, b⟩
  unfold cutV
  rw [b, show HT.sIx ys.length ys.length none = ys.length by simp [HT.sIx]]
  exact List.take_of_length_le (by rw [List.length_drop]; exact Nat.le_refl _)
theorem set_parts {ys : List V} {m : Nat} {y : V} (h : m < ys.length) : ys.take m ++ [y] ++ ys.drop (m + 1) = ys.set m y := by
  rw [List.set_eq_take_append_cons_drop, if_pos h]
  simp
def sp__law_applied (K : PySem.W.Frag) : Sp := fun vs H Q _ => ∃ (pt ps po : Addr) (ts : List (Str × Str)) (n : Nat), vs = [.ref pt, .ref ps, .ref po] ∧ ThAt H pt ts ∧ ThOk ts ∧ StsT K H ps ts n ∧ n < 63 ∧ OwnAt K H ts po ∧ ∀ p H', KeptL [po] H H' → OwnAt K H' ts po → (∃ a xs, H' po = some (.lst (xs ++ [a])) ∧ xs.length = 3 ∧ AnsI a) → StsT K H' p ts (n + 1) → Q (.ref p) H'
theorem ok__law_applied (T : TX (KX w.params) mg) (c__law_do : Cal P w (KX w.params) mg base "_law_do" ["kind", "state", "verb", "worth"] 1 (sp__law_do (KX w.params))) : FnOk P w (KX w.params) mg base CX0 2 219 fd__law_applied ["things", "states", "own"] (sp__law_applied (KX w.params)) := by
  refine (F__law_applied w.params).ok sc__law_applied (fun vs H Q E h => ?_) (fun cdv A outer s H vs Q E hr h => ?_)
  · obtain ⟨pt, ps, po, ts, n, rfl, _⟩ := h
    rfl
  · obtain ⟨pt, ps, po, ts, n, rfl, ⟨yt, eyt, alt⟩, ok, ⟨vs, sps, als⟩, hn, ⟨nm, vb, x, a0, k, d, eo, hm, dk, ix, wi, _⟩, q⟩ := h
    refine ⟨_, (pss_cons (ps_set (i := 3) sc__law_applied.nd rfl (by first | exact Or.inl rfl | exact Or.inr rfl) (pe_index (pe_compG (xs := ["name", "kind"]) (g := gTup (KX w.params) 2 (gCons (gName 0) (gCons (gName 1) gNil))) (fr := []) rfl (pi_tup (pv 0)) (fun _ z => absurd z List.not_mem_nil) (free_none rfl) (fun _ z => absurd z List.not_mem_nil) (by decide +kernel) rfl (by decide +kernel) (fun _ _ _ _ _ => (pg_tup rfl (pgs_cons (pg_cname (N := ["name", "kind"]) 0 (by decide +kernel) rfl rfl) (pgs_cons (pg_cname (N := ["name", "kind"]) 1 (by decide +kernel) rfl rfl) pgs_nil)))) (fun _ _ _ _ _ => pf_nil) (fun _ _ _ _ _ => (pv 0))) (pa_cons (pe_ix ix_seq (pv 2) pe_int (fun _ _ => rfl)) pa_nil)))
      (pss_cons (ps_asg (pe_cal c__law_do (hr.mono (by first | decide | omega)) rfl (pa_cons (pe_ix ix_seq (pe_ix ix_seq (pv 0) (pv 3) (fun _ _ => rfl)) pe_int (fun _ _ => rfl)) (pa_cons (pe_ix ix_seq (pv 1) (pv 3) (fun _ _ => rfl)) (pa_cons (pe_ix ix_seq (pv 2) pe_int (fun _ _ => rfl)) (pa_cons (pe_ix ix_seq (pv 2) pe_int (fun _ _ => rfl)) pa_nil))))) (pg_tup rfl (pgs_cons (pg_name (i := 4) sc__law_applied.nd rfl (by first | exact Or.inl rfl | exact Or.inr rfl)) (pgs_cons (pg_name (i := 5) sc__law_applied.nd rfl (by first | exact Or.inl rfl | exact Or.inr rfl)) pgs_nil))))
      (pss_cons (ps_asg (pv 5) (pg_sub (pv 2) pe_int set_list))
      (pss_one (ps_ret (pe_op op_catA (pe_op op_catA (pe_slice slSeq (pv 1) po_none (po_some (pv 3))) (pe_tup (pa_cons (pv 4) pa_nil))) (pe_slice slSeq (pv 1) (po_some (pe_op opAdd (pv 3) pe_int)) po_none))))))), ?_⟩
    refine seq_bm ?_
    refine tcompR_tup (S := Same) (K := KX w.params) (a := pt) (xs := yt) (fun x y H => ∃ (n k : Str) (b : Addr), x = .ref b ∧ H b = some (.tup [.str n, .str k]) ∧ y = .str n) (Same.refl _) (fun _ _ _ a b => a.trans b) (fun _ _ => Same.refl _) ?_ (fun R h => ⟨_, rfl, h⟩) (fun H' s' => s'.seqT (SqT.of eyt)) (Nat.le_trans (Nat.le_of_eq (forall2_len alt)) (Nat.le_trans ok.n6 (by decide))) ?_ ?_
    · rintro x y H3 H4 s4 ⟨n, k, b, e1, e2, e3⟩
      exact ⟨n, k, b, e1, s4 _ _ e2, e3⟩
    · intro v hv H3 s3 KT hKT KF
      obtain ⟨m, hm⟩ := List.mem_iff_getElem?.mp hv
      obtain ⟨t, ht, b, rfl, eb⟩ := all2_get alt hm
      exact ⟨b, _, rfl, SqT.of (s3 _ _ eb), rfl, _, _, rfl, _, _, rfl, rfl, [some (.str t.1), some (.str t.2)], rfl, rfl, iteT ⟨_, rfl, hKT _ _ (Same.refl _) ⟨t.1, t.2, b, rfl, s3 _ _ eb, rfl⟩⟩⟩
    intro l3 H3 zs s3 hl3 al3
    have alt3 : All2 (fun (t : Str × Str) y => ∃ b, y = .ref b ∧ H3 b = some (.tup [.str t.1, .str t.2])) ts yt := forall2_mono (fun _ _ z => z.elim fun b y => ⟨b, y.1, s3 _ _ y.2⟩) alt
    have ez := all2_names alt3 al3
    subst ez
    have sl := Same.upd (o := .lst ((ts.map (·.1)).map V.str)) hl3
    have el : upd H3 l3 (.lst ((ts.map (·.1)).map V.str)) l3 = some (.lst ((ts.map (·.1)).map V.str)) := upd_same
    have s4 := s3.trans sl
    generalize upd H3 l3 (.lst ((ts.map (·.1)).map V.str)) = H4 at sl el s4 ⊢
    obtain ⟨j, hj⟩ := List.mem_iff_getElem?.mp hm
    have hjn : (ts.map (·.1))[j]? = some nm := by rw [List.getElem?_map, hj]; rfl
    have hjl : j < ts.length := (List.getElem?_eq_some_iff.mp hj).1
    refine ⟨.inl ⟨rfl, _, SqL.of el⟩, _, rfl, .inl ⟨po, _, 0, .str nm, rfl, rfl, SqL.of (s4 _ _ eo), atI_nat (j := 0) rfl, l3, ts.map (·.1), nm, j, rfl, rfl, el, by rw [List.length_map]; exact Nat.le_trans ok.n6 (by decide), hjn, fun m lt e => ?_, ?_⟩⟩
    · have := (List.getElem?_inj (by rw [List.length_map]; omega) ok.nd).mp (e.trans hjn.symm)
      omega
    refine g_name ?_
    obtain ⟨yj, hyj, bj, rfl, ebj⟩ := all2_at alt hj
    obtain ⟨vj, hvj, sj⟩ := all2_at als hj
    refine ⟨_, rfl, _, rfl, .inr (.inl ⟨pt, yt, j, .ref bj, rfl, rfl, SqT.of (s4 _ _ eyt), atI_nat hyj, .inr (.inl ⟨bj, _, 1, .str k, rfl, rfl, SqT.of (s4 _ _ ebj), atI_nat (j := 1) rfl, ?_⟩)⟩)⟩
    refine ⟨_, rfl, _, rfl, .inr (.inl ⟨ps, vs, j, vj, rfl, rfl, s4.seqT sps, atI_nat hvj, ?_⟩)⟩
    refine ⟨_, rfl, .inl ⟨po, _, 1, .str vb, rfl, rfl, SqL.of (s4 _ _ eo), atI_nat (j := 1) rfl, ?_⟩⟩
    refine ⟨_, rfl, .inl ⟨po, _, 2, x, rfl, rfl, SqL.of (s4 _ _ eo), atI_nat (j := 2) rfl, ?_⟩⟩
    refine ⟨k, vb, vj, x, d, n, rfl, sj.tups (.of s4), hn, dk, ix.same s4, wi.tt (.of (K := KX w.params) s4), fun p2 st' a H5 s5 e5 sa5 ai => ?_⟩
    have s5 := s4.trans s5
    refine ⟨p2, _, rfl, SqT.of e5, rfl, _, _, rfl, _, _, rfl, rfl, ?_⟩
    refine ⟨_, rfl, _, rfl, po, _, 3, 3, rfl, rfl, s5 _ _ eo, rfl, ?_⟩
    rw [show [V.str nm, .str vb, x, a0].set 3 a = [.str nm, .str vb, x, a] from rfl]
    have k6 : KeptL [po] H5 (upd H5 po (.lst [.str nm, .str vb, x, a])) := KeptL.set (by simp)
    have T6 : Tt (KX w.params) H5 (upd H5 po (.lst [.str nm, .str vb, x, a])) := KeptL.tt k6 fun c hc => by rw [List.mem_singleton.mp hc]; exact .inl ⟨_, s5 _ _ eo⟩
    have e6 : upd H5 po (.lst [.str nm, .str vb, x, a]) po = some (.lst [.str nm, .str vb, x, a]) := upd_same
    generalize upd H5 po (.lst [.str nm, .str vb, x, a]) = H6 at k6 T6 e6 ⊢
    have T06 : Tt (KX w.params) H H6 := Tt.trans (.of s5) T6
    have sq6 := T06.t _ _ sps
    have vl : vs.length = ts.length := forall2_len als
    have hjv : j < vs.length := by omega
    obtain ⟨c1, c2, c3, c4⟩ := cut_at hjv
    refine ⟨_, rfl, _, rfl, _, rfl, .inr (.inl ⟨ps, vs, rfl, sq6, fun z => by have := z.2; rw [c3] at this; omega, fun p7 hp7 => ?_⟩)⟩
    rw [c1]
    have s7 := Same.upd (o := .tup (vs.take j)) hp7
    have e7 : upd H6 p7 (.tup (vs.take j)) p7 = some (.tup (vs.take j)) := upd_same
    generalize upd H6 p7 (.tup (vs.take j)) = H7 at s7 e7 ⊢
    refine ⟨_, rfl, (show (1 : Nat) ≤ sizeLine by decide), fun p8 hp8 => ?_⟩
    have s8 := Same.upd (o := .tup [st']) hp8
    refine ⟨p7, p8, vs.take j, [st'], rfl, rfl, s8.seqT (SqT.of e7), SqT.of upd_same, ?_, fun p9 H9 s9 sq9 => ?_⟩
    · rw [List.length_take]
      exact Nat.le_trans (m := 10) (by have := ok.n6; show min j vs.length + 1 ≤ 10; omega) (by decide)
    have s9 := (s7.trans s8).trans s9
    have sq69 := s9.seqT sq6
    refine ⟨_, rfl, _, rfl, .inl ⟨_, _, rfl, rfl, _, rfl, .inr (.inl ⟨ps, vs, rfl, sq69, fun z => by have := z.1; rw [c4] at this; omega, fun p10 hp10 => ?_⟩)⟩⟩
    rw [c2]
    have s10 := Same.upd (o := .tup (vs.drop (j + 1))) hp10
    refine ⟨p9, p10, vs.take j ++ [st'], vs.drop (j + 1), rfl, rfl, s10.seqT sq9, SqT.of upd_same, ?_, fun p11 H11 s11 sq11 => ?_⟩
    · rw [List.length_append, List.length_take, List.length_drop]
      exact Nat.le_trans (m := 20) (by have := ok.n6; show min j vs.length + 1 + (vs.length - (j + 1)) ≤ 20; omega) (by decide)
    rw [set_parts hjv] at sq11
    have s611 := (s9.trans s10).trans s11
    have T611 : Tt (KX w.params) H6 H11 := .of s611
    refine q p11 H11 ((s5.keptL.trans k6).trans s611.keptL) ⟨nm, vb, x, a, k, d, s611 _ _ e6, hm, dk, IsDt.mono' (T06.trans T611).t _ _ ix, wi.tt (T06.trans T611), .inr ai⟩ ⟨a, [.str nm, .str vb, x], s611 _ _ e6, rfl, ai⟩ ⟨_, sq11, ?_⟩
    exact all2_set (fun _ _ z => (z.tups (T06.trans T611).t).le (Nat.le_succ _)) als hj (sa5.tups (T6.trans T611).t)
end
end K64
namespace K64
open PySem PySem.Spec PyProof.Rows TJ L2
section
variable {P : Program} {w : World} {mg : Str → Option Value} {base : Heap}
theorem valV_isSomeK {kvs : List (Key × V)} {k : Key} : (valV kvs k).isSome = true ↔ k ∈ kvs.map (·.1) := by
  induction kvs with
  | nil => simp [valV]
  | cons p r ih =>
    obtain ⟨pk, pv⟩ := p
    by_cases y : pk = k
    · subst y
      rw [valV_pos rfl]
      simp
    · rw [valV_neg y, ih, List.map_cons, List.mem_cons]
      exact ⟨fun z => .inr z, fun z => z.resolve_left fun x => y x.symm⟩
theorem putK_in {kvs : List (Key × V)} {k : Key} {v : V} (h : k ∈ kvs.map (·.1)) : (putK kvs k v).map (·.1) = kvs.map (·.1) := by
  unfold putK
  obtain ⟨p, hp, e⟩ := List.mem_map.mp h
  rw [if_pos (List.any_eq_true.mpr ⟨p, hp, decide_eq_true e⟩), List.map_map]
  refine List.map_congr_left fun q _ => ?_
  show (if q.1 = k then (q.1, v) else q).1 = q.1
  by_cases y : q.1 = k
  · rw [if_pos y]
  · rw [if_neg y]
theorem putK_out {kvs : List (Key × V)} {k : Key} {v : V} (h : k ∉ kvs.map (·.1)) : putK kvs k v = kvs ++ [(k, v)] := by
  unfold putK
  rw [if_neg]
  intro z
  obtain ⟨p, hp, e⟩ := List.any_eq_true.mp z
  exact h (List.mem_map.mpr ⟨p, hp, of_decide_eq_true e⟩)
def sp__law_things : Sp := fun vs H Q _ => ∃ (r : Addr) (n : Nat), vs = [.ref r] ∧ DeckAt H r n ∧ n < 100 ∧ ∀ p ts H', Dw r (n + 20) H H' → H p = none → ThAt H' p ts → ThOk ts → (∀ t ∈ ts, PyData.strOk t.1 = true ∧ t.1.length ≤ 8) → Q (.ref p) H'
theorem DeckAt.le {H : Hp} {r : Addr} {n m : Nat} (l : n ≤ m) (h : DeckAt H r n) : DeckAt H r m := by
  obtain ⟨a, b, c, e, h1, h2, h3, h4⟩ := h
  exact ⟨a, b, c, e, h1, h2, h3, by omega⟩
theorem Dw.le {r : Addr} {n m : Nat} {H H' : Hp} (l : n ≤ m) (h : Dw r n H H') : Dw r m H H' := ⟨h.k, h.r.le l⟩
theorem ok__law_things (T : TX (KX w.params) mg) (c__law_take : Cal P w (KX w.params) mg base "_law_take" ["deck", "many"] 1 sp__law_take) : FnOk P w (KX w.params) mg base CX0 2 214 fd__law_things ["deck"] sp__law_things := by
  refine (F__law_things w.params).ok sc__law_things (fun vs H Q E h => ?_) (fun cdv A outer s H vs Q E hr h => ?_)
  · obtain ⟨r, n, rfl, _⟩ := h
    rfl
  · obtain ⟨r, n, rfl, R, hn, q⟩ := h
    refine q_of (qss_cons (qs_set (i := 1) sc__law_things.nd rfl (by first | exact Or.inl rfl | exact Or.inr rfl) (qe_lst (qa_cons (QE.mk pe_str) (qa_cons (QE.mk pe_str) (qa_cons (QE.mk pe_str) (qa_cons (QE.mk pe_str) (qa_cons (QE.mk pe_str) (qa_cons (QE.mk pe_str) (qa_cons (QE.mk pe_str) (qa_cons (QE.mk pe_str) qa_nil))))))))))
      (qss_cons (QS.mk (ps_set (i := 2) sc__law_things.nd rfl (by first | exact Or.inl rfl | exact Or.inr rfl) pe_dnewK))
      (qss_cons (qs_for PassesOwn.never rfl (pi_range1 rfl (T.no (n_range _)) (pa_cons (pe_op opAdd pe_int (pe_cal c__law_take (hr.mono (by first | decide | omega)) rfl (pa_cons (pv 0) (pa_cons pe_int pa_nil)))) pa_nil)) (pg_name (i := 3) sc__law_things.nd rfl (by first | exact Or.inl rfl | exact Or.inr rfl))
      (qss_one (qs_dput (hu_of hr) (QE.mk (pv 2)) (QE.mk (pe_ix ix_seq (pv 1) (pe_cal c__law_take (hr.mono (by first | decide | omega)) rfl (pa_cons (pv 0) (pa_cons pe_int pa_nil))) (fun _ _ => rfl))) (qe_ix ix_seq (qe_lst (qa_cons (QE.mk pe_str) (qa_cons (QE.mk pe_str) (qa_cons (QE.mk pe_str) (qa_cons (QE.mk pe_str) (qa_cons (QE.mk pe_str) qa_nil)))))) (QE.mk (pe_cal c__law_take (hr.mono (by first | decide | omega)) rfl (pa_cons (pv 0) (pa_cons pe_int pa_nil)))) (fun _ _ => rfl)) rfl)))
      (qss_one (QS.mk (ps_ret (pe_callTy call_tuple_of rfl (T.no (n_tuple _)) boot_tuple (pa_cons (pe_compG (xs := ["name"]) (g := gName 0) (fr := [(2, "told")]) rfl (pi_list (pe_callB (call_sortedDS rfl) rfl (T.no (n_sorted _)) boot_sorted (pa_cons (pv 2) pa_nil))) (by intro p hp; obtain rfl := List.mem_singleton.mp hp; first | exact ⟨rfl, .inl rfl⟩ | exact ⟨rfl, .inr rfl⟩) (free_one (n := "told") (by decide +kernel) (fun _ => by first | exact .inl rfl | exact .inr rfl)) (by intro p hp; obtain rfl := List.mem_singleton.mp hp; exact ⟨by decide +kernel, by first | exact .inl rfl | exact .inr rfl⟩) (by decide +kernel) rfl (by decide +kernel) (fun _ _ _ _ _ => (pg_cname (N := ["name", "told"]) 0 (by decide +kernel) rfl rfl)) (fun _ _ _ _ _ => pf_nil) (fun _ _ _ _ _ => (pe_tup (pa_cons (pv 0) (pa_cons (pe_dget (hu_of hr) (pv 1) (pv 0) (fun _ _ => rfl)) pa_nil))))) pa_nil)))))))) ?_
    refine seq_asg ?_
    refine ⟨(show (8 : Nat) ≤ sizeLine by decide), fun l hl => ?_⟩
    refine g_name ?_
    have nl : l ≠ r := R.fresh hl
    have s1 := Same.upd (o := .lst [.str "q", .str "a", .str "zz", .str "begin", .str "reg", .str "abcdefgh", .str "b", .str "thing"]) hl
    have e1 : upd H l (.lst [.str "q", .str "a", .str "zz", .str "begin", .str "reg", .str "abcdefgh", .str "b", .str "thing"]) l = some (.lst ((["q", "a", "zz", "begin", "reg", "abcdefgh", "b", "thing"] : List Str).map V.str)) := upd_same
    generalize upd H l (.lst [.str "q", .str "a", .str "zz", .str "begin", .str "reg", .str "abcdefgh", .str "b", .str "thing"]) = H1 at s1 e1 ⊢
    refine seq_asg ?_
    intro d hd
    refine g_name ?_
    have nd : d ≠ r := (R.same s1).fresh hd
    have nld : l ≠ d := ne_of_none e1 hd
    have fd : H d = none := s1.free hd
    have s2 := Same.upd (o := .dK []) hd
    have e2 := s2 _ _ e1
    have ed2 : upd H1 d (.dK []) d = some (.dK []) := upd_same
    have s12 := s1.trans s2
    generalize upd H1 d (.dK []) = H2 at s2 e2 ed2 s12 ⊢
    have w2 : Dw r n H H2 := R.dw.same s12
    refine ⟨_, rfl, r, 3, n, rfl, w2.r, by omega, by decide, by decide, fun t H3 w3 h30 h31 => .inl ⟨1, t, rfl, rfl, 1 + t, rfl, by omega, by omega, ?_⟩⟩
    have e3 := w3.k _ _ nl e2
    have ed3 := w3.k _ _ nd ed2
    have w3 := w2.trans w3
    have tn : (1 + t).toNat ≤ 3 := by omega
    have tp : 0 < (1 + t).toNat := by omega
    generalize (1 + t).toNat = tt at tn tp ⊢
    refine for_range (lo := 0) (n := tt) (fun i σ H' => ∃ kvs ss, Dw r (n + 1 + 2 * i) H H' ∧ H' l = some (.lst ((["q", "a", "zz", "begin", "reg", "abcdefgh", "b", "thing"] : List Str).map V.str)) ∧ H' d = some (.dK kvs) ∧ kvs.map (·.1) = ss.map Sum.inr ∧ ss.Nodup ∧ (∀ z ∈ ss, PyData.strOk z = true ∧ z.length ≤ 8) ∧ ss.length ≤ i ∧ (0 < i → 0 < ss.length) ∧ (∀ k v, valV kvs k = some v → ∃ z, z ∈ kinds5 ∧ v = .str z) ∧ ∃ x3, σ = [some (.ref r), some (.ref l), some (.ref d), x3])
      ⟨[], [], w3, e3, ed3, rfl, .nil, fun _ z => absurd z List.not_mem_nil, Nat.le_refl _, fun h => h, (fun k v e => by cases e), _, rfl⟩ ?_ ?_
    · rintro i σ H4 hi ⟨kvs, ss, w4, e4, ed4, ek, sn, so, sl, sp, kv, x3, rfl⟩
      refine g_name ?_
      refine ⟨(show (5 : Nat) ≤ sizeLine by decide), fun l5 hl5 => ⟨_, rfl, r, 5, _, rfl, w4.r.same (Same.upd hl5), by omega, by decide, by decide, fun t5 H5 w5 h50 h51 => ?_⟩⟩
      obtain ⟨v5, hv5, hm5⟩ := atI_of (xs := kinds5.map V.str) h50 h51
      obtain ⟨kd, hkd, rfl⟩ := List.mem_map.mp hm5
      refine .inl ⟨l5, _, t5, _, rfl, rfl, SqL.of (w5.k _ _ (w4.r.fresh hl5) upd_same), hv5, ?_⟩
      have e5 := w5.k _ _ nl ((Same.upd (o := .lst (kinds5.map V.str)) hl5) _ _ e4)
      have ed5 := w5.k _ _ nd ((Same.upd (o := .lst (kinds5.map V.str)) hl5) _ _ ed4)
      have w5 := (w4.same (Same.upd (o := .lst (kinds5.map V.str)) hl5)).trans w5
      refine ⟨_, rfl, _, rfl, _, rfl, r, 8, _, rfl, w5.r, by omega, by decide, by decide, fun t6 H6 w6 h60 h61 => ?_⟩
      obtain ⟨v6, hv6, hm6⟩ := atI_of (xs := (["q", "a", "zz", "begin", "reg", "abcdefgh", "b", "thing"] : List Str).map V.str) h60 h61
      obtain ⟨nm, hnm, rfl⟩ := List.mem_map.mp hm6
      have nok : PyData.strOk nm = true ∧ nm.length ≤ 8 := (by decide +kernel : ∀ z ∈ (["q", "a", "zz", "begin", "reg", "abcdefgh", "b", "thing"] : List Str), PyData.strOk z = true ∧ z.length ≤ 8) nm hnm
      have e6 := w6.k _ _ nl e5
      have ed6 := w6.k _ _ nd ed5
      have w6 := w5.trans w6
      have kl : kvs.length = ss.length := by have := congrArg List.length ek; simpa using this
      refine .inl ⟨l, _, t6, _, rfl, rfl, SqL.of e6, hv6, d, _, rfl, DPut.k (k := .inr nm) ed6 (Nat.lt_of_le_of_lt (m := 100) (by omega) (by decide)), ?_⟩
      have w7 : Dw r (n + 1 + 2 * (i + 1)) H (upd H6 d (.dK (putK kvs (.inr nm) (.str kd)))) := by
        refine ⟨fun b o hb e => by rw [upd_ne (ne_of_none e fd)]; exact w6.k b o hb e, ?_⟩
        obtain ⟨a1, b1, c1, ee, z1⟩ := w6.r
        exact ⟨a1, b1, c1, by rw [upd_ne nd.symm]; exact ee, z1.1, z1.2.1, z1.2.2.1, by have := z1.2.2.2; omega⟩
      have kv' : ∀ k v, valV (putK kvs (.inr nm) (.str kd)) k = some v → ∃ z, z ∈ kinds5 ∧ v = .str z := fun k v e => by
        rw [valV_put] at e
        by_cases z : k = .inr nm
        · rw [if_pos z] at e; cases e; exact ⟨kd, hkd, rfl⟩
        · rw [if_neg z] at e; exact kv k v e
      by_cases z : nm ∈ ss
      · have kk := putK_in (kvs := kvs) (k := (.inr nm : Key)) (v := .str kd) (by rw [ek]; exact List.mem_map.mpr ⟨nm, z, rfl⟩)
        exact ⟨_, ss, w7, by rw [upd_ne nld]; exact e6, upd_same, kk.trans ek, sn, so, by omega, fun _ => List.length_pos_of_mem z, kv', _, rfl⟩
      · have kk := putK_out (kvs := kvs) (k := (.inr nm : Key)) (v := .str kd) (by rw [ek]; exact fun y => z (by obtain ⟨a, ha, e⟩ := List.mem_map.mp y; cases e; exact ha))
        refine ⟨_, ss ++ [nm], w7, by rw [upd_ne nld]; exact e6, upd_same, by rw [kk, List.map_append, ek, List.map_append]; rfl, ?_, fun z hz => ?_, ?_, fun _ => ?_, kv', _, rfl⟩
        · rw [List.nodup_append]
          refine ⟨sn, by simp, fun a ha b hb => ?_⟩
          rw [List.mem_singleton.mp hb]
          exact fun e => z (e ▸ ha)
        · rcases List.mem_append.mp hz with y | y
          · exact so z y
          · rw [List.mem_singleton.mp y]; exact nok
        · rw [List.length_append]; show ss.length + 1 ≤ i + 1; omega
        · rw [List.length_append]; exact Nat.succ_pos _
    · rintro σ H4 ⟨kvs, ss, w4, e4, ed4, ek, sn, so, sl, sp, kv, x3, rfl⟩
      refine t_nx (ret_cb1 ?_)
      refine comp_by (fun l5 H5 => ∃ ss' : List Str, H4 l5 = none ∧ ss'.Perm ss ∧ H5 = upd H4 l5 (.lst (ss'.map V.str))) (fun R h => ⟨_, rfl, d, kvs, ss, rfl, ed4, ek, by omega, fun l5 ss' h5 pm _ => h l5 _ ⟨ss', h5, pm, rfl⟩⟩) ?_
      rintro l5 H5 ⟨ss', hl5, pm, rfl⟩
      have s5 := Same.upd (o := .lst (ss'.map V.str)) hl5
      have ed5 := s5 _ _ ed4
      have e5 : upd H4 l5 (.lst (ss'.map V.str)) l5 = some (.lst (ss'.map V.str)) := upd_same
      have sl' : ss'.length ≤ 3 := by rw [pm.length_eq]; omega
      refine tcompR_list (S := Same) (K := KX w.params) (a := l5) (xs := ss'.map V.str) (kindR (KX w.params)) (Same.refl _) (fun _ _ _ a b => a.trans b) (fun _ _ => Same.refl _) ?_ (fun R h => h) (fun H' s' => SqL.of (s' _ _ e5)) (by rw [List.length_map]; exact Nat.le_trans sl' (by decide)) ?_ ?_
      · rintro x y Ha Hb sab ⟨n1, k1, b1, z1, z2, z3, z4⟩
        exact ⟨n1, k1, b1, z1, z2, z3, sab _ _ z4⟩
      · intro v hv H6 s6 KT hKT KF
        obtain ⟨n1, hn1, rfl⟩ := List.mem_map.mp hv
        refine ⟨[some (.str n1)], rfl, rfl, iteT ?_⟩
        have hs : (valV kvs (.inr n1)).isSome = true := valV_isSomeK.mpr (by rw [ek]; exact List.mem_map.mpr ⟨n1, pm.mem_iff.mp hn1, rfl⟩)
        obtain ⟨v1, hv1⟩ := Option.isSome_iff_exists.mp hs
        obtain ⟨z, hz, rfl⟩ := kv _ _ hv1
        have dg : DGet H6 d (.str n1) (some (.str z)) := by
          have := DGet.k (k := .inr n1) (s6 _ _ ed5)
          rw [hv1] at this
          exact this
        exact ⟨_, rfl, _, rfl, _, rfl, d, _, rfl, dg, (show (2 : Nat) ≤ sizeLine by decide), fun p7 hp7 => hKT _ _ (Same.upd hp7) ⟨n1, z, p7, rfl, rfl, hz, upd_same⟩⟩
      · intro l7 H7 ys s7 hl7 al7
        obtain ⟨ts, f1, f2, al8⟩ := all2_things al7
        have s8 := Same.upd (o := .lst ys) hl7
        refine ⟨l7, ys, rfl, .inl ⟨SqL.of upd_same, fun p8 hp8 => ?_⟩⟩
        have w8 := (w4.same (s5.trans s7)).same s8
        have s9 := s8.trans (Same.upd (o := .tup ys) hp8)
        have tl : ts.length = ss'.length := by rw [← f1, List.length_map]
        have pl := pm.length_eq
        have := sp tp
        exact q p8 ts _ ((w8.same (Same.upd hp8)).le (by omega)) (w8.free hp8) ⟨ys, upd_same, forall2_mono (fun _ _ z => z.elim fun b y => ⟨b, y.1, s9 _ _ y.2⟩) al8⟩ ⟨by omega, by omega, by rw [f1]; exact pm.nodup_iff.mpr sn, f2⟩ (fun t ht => so t.1 (pm.mem_iff.mp (by rw [← f1]; exact List.mem_map.mpr ⟨t, ht, rfl⟩)))
end
end K64
namespace K64
open PySem PySem.Spec PyProof.Rows TJ L2
section
variable {P : Program} {w : World} {mg : Str → Option Value} {base : Heap}
mutual
def toPd : Dt → PyData
  | .non => .none
  | .bl b => .bool b
  | .int i => .int i
  | .str z => .str z
  | .tup ds => .tuple (toPds ds)
def toPds : List Dt → List PyData
  | [] => []
  | d :: ds => toPd d :: toPds ds
end
mutual
theorem pd_of_dt {K : PySem.W.Frag} {H : Hp} : ∀ (d : Dt) (v : V), IsDt K H d v → IsPd K H (toPd d) v
  | .non, v, h => h
  | .bl _, v, h => h
  | .int _, v, h => h
  | .str _, v, h => h
  | .tup ds, v, h => by
    obtain ⟨a, xs, e, s, r⟩ := h
    exact ⟨a, xs, e, s, pds_of_dts ds xs r⟩
theorem pds_of_dts {K : PySem.W.Frag} {H : Hp} : ∀ (ds : List Dt) (xs : List V), IsDts K H ds xs → IsPds K H (toPds ds) xs
  | [], xs, h => h
  | d :: ds, xs, h => by
    obtain ⟨x, r, e, a, b⟩ := h
    exact ⟨x, r, e, pd_of_dt d x a, pds_of_dts ds r b⟩
end
def EvW (K : PySem.W.Frag) (H : Hp) (z : Str) (y : V) : Prop := ∃ (p : Addr) (r : List V) (d : Dt), y = .ref p ∧ SqT K H p (.str z :: r) ∧ IsDt K H d y ∧ plainP (toPd d) = true ∧ (toPd d).depth ≤ 3
theorem EvW.tups {K : PySem.W.Frag} {H H' : Hp} {z : Str} {y : V} (t : Tups K H H') (h : EvW K H z y) : EvW K H' z y := by
  obtain ⟨p, r, d, e, s, i, q⟩ := h
  exact ⟨p, r, d, e, t _ _ s, IsDt.mono' t d y i, q⟩
theorem deed_strOk {k v : Str} {d : Dt} (h : DeedOk k v d) : PyData.strOk v = true ∧ plainP (toPd d) = true ∧ (toPd d).depth ≤ 1 := by
  cases h <;> exact ⟨by decide +kernel, rfl, by first | exact Nat.zero_le _ | exact Nat.le_refl _⟩
theorem OwnAt.tt {K : PySem.W.Frag} {H H' : Hp} {ts : List (Str × Str)} {p : Addr} (t : Tt K H H') (e : ∀ o, H p = some o → H' p = some o) (h : OwnAt K H ts p) : OwnAt K H' ts p := by
  obtain ⟨nm, vb, x, a, k, d, h1, h2, h3, h4, h5, h6⟩ := h
  exact ⟨nm, vb, x, a, k, d, e _ h1, h2, h3, IsDt.mono' t.t d x h4, h5.tt t, h6⟩
theorem OwnAt.mutAt {K : PySem.W.Frag} {H : Hp} {ts : List (Str × Str)} {p : Addr} (h : OwnAt K H ts p) : MutAt H p := by
  obtain ⟨nm, vb, x, a, k, d, h1, _⟩ := h
  exact .inl ⟨_, h1⟩
theorem DeckAt.mutAt {H : Hp} {r : Addr} {n : Nat} (h : DeckAt H r n) : MutAt H r := by
  obtain ⟨a, b, c, e, _⟩ := h
  exact .inl ⟨_, e⟩
theorem Dw.keptL {r : Addr} {n : Nat} {H H' : Hp} {L : List Addr} (h : Dw r n H H') (hr : r ∈ L) : KeptL L H H' := fun b o n e => h.k b o (fun z => n (z ▸ hr)) e
theorem Dw.tt {K : PySem.W.Frag} {r : Addr} {n m : Nat} {H H' : Hp} (R : DeckAt H r m) (h : Dw r n H H') : Tt K H H' := KeptL.tt (h.keptL (List.mem_singleton.mpr rfl)) fun l hl => by rw [List.mem_singleton.mp hl]; exact R.mutAt
theorem same_keptD {L : List Addr} {H H1 H2 : Hp} (s : Same H H1) (k : KeptL L H1 H2) (n : ∀ l ∈ L, H l = none) : Same H H2 := fun c o e => k c o (fun z => by rw [n c z] at e; cases e) (s c o e)
theorem valV_dropS {kvs : List (Key × V)} {k j : Key} {v : V} (h : valV (dropK kvs k) j = some v) : valV kvs j = some v := by
  induction kvs with
  | nil => cases h
  | cons p r ih =>
    obtain ⟨pk, pv⟩ := p
    by_cases z : pk = k
    · rw [dropK_pos z] at h
      have hj : j ≠ pk := fun y => by
        have : (valV (dropK r k) j).isSome = true := by rw [h]; rfl
        have := valV_isSomeK.mp this
        obtain ⟨q, hq, e⟩ := List.mem_map.mp this
        have := of_decide_eq_true (List.mem_filter.mp hq).2
        exact this (e.trans (y.trans z))
      rw [valV_neg (fun e => hj e.symm)]
      exact ih h
    · rw [dropK_neg z] at h
      by_cases y : pk = j
      · subst y
        rw [valV_pos rfl] at h ⊢
        exact h
      · rw [valV_neg y] at h ⊢
        exact ih h
def wordE : Ev → Str
  | .beg _ _ _ _ => "begin"
  | .fin _ _ => "end"
def EvN (ts : List (Str × Str)) : Ev → Prop
  | .beg _ n v _ => ∃ (nm vb k : Str) (d : Dt), n = .str nm ∧ v = .str vb ∧ (nm, k) ∈ ts ∧ DeedOk k vb d
  | .fin _ a => AnsI a
structure EvQ (K : PySem.W.Frag) (ts : List (Str × Str)) (H : Hp) (e : Ev) (y : V) : Prop where
  a : EvAt K H e y
  w : EvW K H (wordE e) y
  n : EvN ts e
theorem EvQ.tups {K : PySem.W.Frag} {ts : List (Str × Str)} {H H' : Hp} {e : Ev} {y : V} (t : Tups K H H') (h : EvQ K ts H e y) : EvQ K ts H' e y := ⟨EvAt.tups t h.a, h.w.tups t, h.n⟩
theorem all2_zip {K : PySem.W.Frag} {ts : List (Str × Str)} {H : Hp} : ∀ {es : List Ev} {ys : List V}, All2 (EvQ K ts H) es ys → All2 (fun (a : Ev × V) v => a.2 = v ∧ EvQ K ts H a.1 v) (es.zip ys) ys
  | _, _, .nil => .nil
  | _, _, .cons a r => .cons ⟨rfl, a⟩ (all2_zip r)
def UwAt (K : PySem.W.Frag) (H H0 : Hp) (u l ha : Addr) (ts : List (Str × Str)) (m : Nat) (os : List Int) : Prop := ∃ kvs : List (Key × V), H u = some (.dK kvs) ∧ kvs.length ≤ m ∧ kvs.map (·.1) = os.map Sum.inl ∧ ∀ k v, valV kvs k = some v → ∃ p, v = .ref p ∧ OwnAt K H ts p ∧ p ≠ l ∧ p ≠ ha ∧ H0 p = none
structure TaJ (K : PySem.W.Frag) (H H0 : Hp) (pt ps u l ha : Addr) (ts : List (Str × Str)) (hs : List Int) (i : Nat) (os : List Int) (es : List Ev) : Prop where
  th : ThAt H pt ts
  st : StsT K H ps ts i
  uw : UwAt K H H0 u l ha ts i os
  ev : ∃ ys, H l = some (.lst ys) ∧ All2 (EvQ K ts H) es ys
  hn : H ha = some (.lst (hs.map V.int))
  ln : es.length ≤ i
  wf : EWf [] es
theorem TaJ.tt {K : PySem.W.Frag} {H H' H0 : Hp} {pt ps u l ha : Addr} {ts : List (Str × Str)} {hs : List Int} {i : Nat} {os : List Int} {es : List Ev} (t : Tt K H H') (L : List Addr) (k : KeptL L H H') (n : u ∉ L ∧ l ∉ L ∧ ha ∉ L) (po : ∀ p ∈ L, ∀ q : OwnAt K H ts p, OwnAt K H' ts p) (h : TaJ K H H0 pt ps u l ha ts hs i os es) : TaJ K H' H0 pt ps u l ha ts hs i os es := by
  refine ⟨h.th.tt t, h.st.tups t.t, ?_, h.ev.elim fun ys z => ⟨ys, k _ _ n.2.1 z.1, forall2_mono (fun _ _ y => y.tups t.t) z.2⟩, k _ _ n.2.2 h.hn, h.ln, h.wf⟩
  obtain ⟨kvs, e, kl, ke, f⟩ := h.uw
  refine ⟨kvs, k _ _ n.1 e, kl, ke, fun a v hv => ?_⟩
  obtain ⟨p, h1, h2, h3⟩ := f a v hv
  refine ⟨p, h1, ?_, h3⟩
  rcases Classical.em (p ∈ L) with z | z
  · exact po p z h2
  · exact h2.tt t fun o e => k _ _ z e
theorem TaJ.same {K : PySem.W.Frag} {H H' H0 : Hp} {pt ps u l ha : Addr} {ts : List (Str × Str)} {hs : List Int} {i : Nat} {os : List Int} {es : List Ev} (s : Same H H') (h : TaJ K H H0 pt ps u l ha ts hs i os es) : TaJ K H' H0 pt ps u l ha ts hs i os es := h.tt (.of s) [] s.keptL ⟨List.not_mem_nil, List.not_mem_nil, List.not_mem_nil⟩ (fun _ z => absurd z List.not_mem_nil)
theorem TaJ.le {K : PySem.W.Frag} {H H0 : Hp} {pt ps u l ha : Addr} {ts : List (Str × Str)} {hs : List Int} {i : Nat} {os : List Int} {es : List Ev} (h : TaJ K H H0 pt ps u l ha ts hs i os es) : TaJ K H H0 pt ps u l ha ts hs (i + 1) os es := ⟨h.th, h.st.le (Nat.le_succ _), h.uw.elim fun kvs z => ⟨kvs, z.1, Nat.le_succ_of_le z.2.1, z.2.2⟩, h.ev, h.hn, Nat.le_succ_of_le h.ln, h.wf⟩
theorem TaJ.dw {K : PySem.W.Frag} {H H' H0 : Hp} {pt ps u l ha r : Addr} {ts : List (Str × Str)} {hs : List Int} {i n m : Nat} {os : List Int} {es : List Ev} (R : DeckAt H r n) (w : Dw r m H H') (nr : u ≠ r ∧ l ≠ r ∧ ha ≠ r) (h : TaJ K H H0 pt ps u l ha ts hs i os es) : TaJ K H' H0 pt ps u l ha ts hs i os es := by
  refine h.tt (w.tt R) [r] (w.keptL (by simp)) ⟨by simp [nr.1], by simp [nr.2.1], by simp [nr.2.2]⟩ fun p hp o => ?_
  rw [List.mem_singleton.mp hp] at o ⊢
  obtain ⟨nm, vb, x, a, k, d, h1, _⟩ := o
  obtain ⟨a1, b1, c1, e1, _⟩ := R
  rw [h1] at e1
  cases e1
def sp__law_tale (K : PySem.W.Frag) : Sp := fun vs H Q _ => ∃ (sc : Addr) (ns : List Int) (mo : Int), vs = [.ref sc, .int mo] ∧ 0 < mo ∧ mo ≤ 10 ∧ SqL K H sc (ns.map V.int) ∧ ns.length ≤ 63 ∧
  ∀ t pt te ys es ts H', Same H H' → H' t = some (.tup [.ref pt, .ref te]) → H' te = some (.tup ys) → ThAt H' pt ts → ThOk ts → (∀ t ∈ ts, PyData.strOk t.1 = true ∧ t.1.length ≤ 8) → All2 (EvQ K ts H') es ys → es.length ≤ 20 → EWf [] es → Q (.ref t) H'
theorem ok__law_tale (T : TX (KX w.params) mg) (c__law_cell_at : Cal P w (KX w.params) mg base "_law_cell_at" ["script", "k"] 1 (sp__law_cell_at (KX w.params))) (c__law_take : Cal P w (KX w.params) mg base "_law_take" ["deck", "many"] 1 sp__law_take) (c__law_things : Cal P w (KX w.params) mg base "_law_things" ["deck"] 2 sp__law_things) (c__law_first : Cal P w (KX w.params) mg base "_law_first" ["things"] 1 (sp__law_first (KX w.params))) (c__law_applied : Cal P w (KX w.params) mg base "_law_applied" ["things", "states", "own"] 2 (sp__law_applied (KX w.params))) (c__law_verb : Cal P w (KX w.params) mg base "_law_verb" ["deck", "kind"] 3 (sp__law_verb (KX w.params))) : FnOk P w (KX w.params) mg base CX0 4 224 fd__law_tale ["script", "most"] (sp__law_tale (KX w.params)) := by
  refine (F__law_tale w.params).ok sc__law_tale (fun vs H Q E h => ?_) (fun cdv A outer s H vs Q E hr h => ?_)
  · obtain ⟨sc, ns, mo, rfl, _⟩ := h
    rfl
  · obtain ⟨sc, ns, mo, rfl, mo0, mo1, sq, hn, q⟩ := h
    refine q_of (qss_cons (QS.mk (ps_set (i := 2) sc__law_tale.nd rfl (by first | exact Or.inl rfl | exact Or.inr rfl) (pe_op op_mod (pe_cal c__law_cell_at (hr.mono (by first | decide | omega)) rfl (pa_cons (pv 0) (pa_cons pe_int pa_nil))) pe_int)))
      (qss_cons (QS.mk (ps_set (i := 3) sc__law_tale.nd rfl (by first | exact Or.inl rfl | exact Or.inr rfl) (pe_lst (pa_cons (pe_op op_fdivB (pe_cal c__law_cell_at (hr.mono (by first | decide | omega)) rfl (pa_cons (pv 0) (pa_cons pe_int pa_nil))) pe_int) (pa_cons (pv 2) (pa_cons pe_int pa_nil))))))
      (qss_cons (QS.mk (ps_set (i := 4) sc__law_tale.nd rfl (by first | exact Or.inl rfl | exact Or.inr rfl) (pe_cal c__law_things (hr.mono (by first | decide | omega)) rfl (pa_cons (pv 3) pa_nil))))
      (qss_cons (QS.mk (ps_set (i := 5) sc__law_tale.nd rfl (by first | exact Or.inl rfl | exact Or.inr rfl) (pe_slice slSeq (pe_ix ix_seq (pe_lst (pa_cons (pe_lst (pa_cons pe_int (pa_cons pe_int (pa_cons pe_int (pa_cons pe_int pa_nil))))) (pa_cons (pe_lst (pa_cons pe_int (pa_cons pe_int (pa_cons pe_int (pa_cons pe_int pa_nil))))) pa_nil))) (pe_cal c__law_take (hr.mono (by first | decide | omega)) rfl (pa_cons (pv 3) (pa_cons pe_int pa_nil))) (fun _ _ => rfl)) po_none (po_some (pe_op opAdd pe_int (pe_cal c__law_take (hr.mono (by first | decide | omega)) rfl (pa_cons (pv 3) (pa_cons pe_int pa_nil))))))))
      (qss_cons (qs_set (i := 6) sc__law_tale.nd rfl (by first | exact Or.inl rfl | exact Or.inr rfl) (qe_ix ix_seq (qe_lst (qa_cons (QE.mk pe_int) (qa_cons (QE.mk pe_int) (qa_cons (QE.mk pe_int) (qa_cons (QE.mk pe_int) qa_nil))))) (QE.mk (pe_cal c__law_take (hr.mono (by first | decide | omega)) rfl (pa_cons (pv 3) (pa_cons pe_int pa_nil)))) (fun _ _ => rfl)))
      (qss_cons (QS.mk (ps_set (i := 7) sc__law_tale.nd rfl (by first | exact Or.inl rfl | exact Or.inr rfl) (pe_cal c__law_first (hr.mono (by first | decide | omega)) rfl (pa_cons (pv 4) pa_nil))))
      (qss_cons (QS.mk (ps_set (i := 8) sc__law_tale.nd rfl (by first | exact Or.inl rfl | exact Or.inr rfl) (pe_lst pa_nil)))
      (qss_cons (QS.mk (ps_set (i := 9) sc__law_tale.nd rfl (by first | exact Or.inl rfl | exact Or.inr rfl) pe_dnewK))
      (qss_cons (qs_for PassesOwn.never rfl (pi_range1 rfl (T.no (n_range _)) (pa_cons (pe_callB (call_min2 rfl) rfl (T.no (n_min _)) boot_min (pa_cons (pe_op op_mul pe_int (pv 1)) (pa_cons (pe_callB (call_max2 rfl) rfl (T.no (n_max _)) boot_max (pa_cons pe_int (pa_cons (pe_op op_sub (pe_callB callLen rfl (T.no (n_len _)) boot_len (pa_cons (pv 0) pa_nil)) pe_int) pa_nil))) pa_nil))) pa_nil)) (pg_name (i := 10) sc__law_tale.nd rfl (by first | exact Or.inl rfl | exact Or.inr rfl))
      (qss_cons (QS.mk (ps_set (i := 3) sc__law_tale.nd rfl (by first | exact Or.inl rfl | exact Or.inr rfl) (pe_lst (pa_cons (pe_callB (call_sumA rfl) rfl (T.no (n_sum _)) boot_sum (pa_cons (pe_slice3 (pv 0) (po_some (pe_op opAdd pe_int (pv 10))) (po_some pe_int) (po_some (pe_op op_mul pe_int (pv 1)))) pa_nil)) (pa_cons (pv 2) (pa_cons (pe_op opAdd pe_int (pe_op op_mul pe_int (pv 10))) pa_nil))))))
      (qss_cons (QS.mk (ps_set (i := 11) sc__law_tale.nd rfl (by first | exact Or.inl rfl | exact Or.inr rfl) (pe_ix ix_seq (pv 5) (pe_cal c__law_take (hr.mono (by first | decide | omega)) rfl (pa_cons (pv 3) (pa_cons (pe_callB callLen rfl (T.no (n_len _)) boot_len (pa_cons (pv 5) pa_nil)) pa_nil))) (fun _ _ => rfl))))
      (qss_one (qs_if (pt_cmp (pc_din (hu_of hr) (pv 11) (pv 9)) (by with_unfolding_all rfl))
      (qss_cons (QS.mk (ps_set (i := 12) sc__law_tale.nd rfl (by first | exact Or.inl rfl | exact Or.inr rfl) (pe_dpop1 (pv 9) (pv 11) ⟨rfl, rfl, rfl, rfl⟩)))
      (qss_cons (QS.mk (ps_if (pt_cmpR op_isN (pe_ix ix_seq (pv 12) pe_int (fun _ _ => rfl)) pe_non (nomark _))
      (pss_one (ps_set (i := 7) sc__law_tale.nd rfl (by first | exact Or.inl rfl | exact Or.inr rfl) (pe_cal c__law_applied (hr.mono (by first | decide | omega)) rfl (pa_cons (pv 4) (pa_cons (pv 7) (pa_cons (pv 12) pa_nil))))))
      pss_nil))
      (qss_cons (QS.mk (ps_set (i := 13) sc__law_tale.nd rfl (by first | exact Or.inl rfl | exact Or.inr rfl) (pe_ix ix_seq (pv 12) pe_int (fun _ _ => rfl))))
      (qss_cons (qs_if (PW.pt (pw_or (pt_val (pe_callB call_isinst rfl (T.no (n_isinstance _)) boot_isinstance (pa_cons (pv 13) (pa_cons (pe_bltn (v := .ty "tuple") rfl (T.no (n_tuple _)) boot_tuple rfl) pa_nil))) (fun _ => rfl)) (pw_or1 (pt_cmpR opEq (pe_cal c__law_take (hr.mono (by first | decide | omega)) rfl (pa_cons (pv 3) (pa_cons (pv 6) pa_nil))) pe_int (nomark _)))))
      (qss_one (qs_set (i := 13) sc__law_tale.nd rfl (by first | exact Or.inl rfl | exact Or.inr rfl) (qe_ix ix_seq (qe_lst (qa_cons (QE.mk pe_str) (qa_cons (QE.mk pe_str) (qa_cons (QE.mk pe_int) (qa_cons (QE.mk pe_int) (qa_cons (QE.mk pe_int) (qa_cons (QE.mk (pe_op op_pow pe_int pe_int)) (qa_cons (QE.mk (pe_un un_neg pe_int)) qa_nil)))))))) (QE.mk (pe_cal c__law_take (hr.mono (by first | decide | omega)) rfl (pa_cons (pv 3) (pa_cons pe_int pa_nil)))) (fun _ _ => rfl))))
      (QSs.mk pss_nil))
      (qss_one (QS.mk (ps_expr (pe_append (pv 8) (pa_cons (pe_tup (pa_cons pe_str (pa_cons (pv 11) (pa_cons (pv 13) pa_nil)))) pa_nil)))))))))
      (qss_one (QS.mk (ps_if (pt_cmpR op_lt (pe_callB callLen rfl (T.no (n_len _)) boot_len (pa_cons (pe_compG (xs := ["event"]) (g := gName 0) (fr := []) rfl (pi_list (pv 8)) (fun _ z => absurd z List.not_mem_nil) (free_none rfl) (fun _ z => absurd z List.not_mem_nil) (by decide +kernel) rfl (by decide +kernel) (fun _ _ _ _ _ => (pg_cname (N := ["event"]) 0 (by decide +kernel) rfl rfl)) (fun _ _ _ _ _ => (pf_one (pt_cmpR opEq (pe_ix (ix_seqK (K := KX w.params) rfl) (pv 0) pe_int (fun _ _ => rfl)) pe_str (nomark _)))) (fun _ _ _ _ _ => (pv 0))) pa_nil)) (pv 1) (nomark _))
      (pss_cons (ps_asg (pe_ix ix_seq (pv 4) (pe_cal c__law_take (hr.mono (by first | decide | omega)) rfl (pa_cons (pv 3) (pa_cons (pe_callB callLen rfl (T.no (n_len _)) boot_len (pa_cons (pv 4) pa_nil)) pa_nil))) (fun _ _ => rfl)) (pg_tup rfl (pgs_cons (pg_name (i := 14) sc__law_tale.nd rfl (by first | exact Or.inl rfl | exact Or.inr rfl)) (pgs_cons (pg_name (i := 15) sc__law_tale.nd rfl (by first | exact Or.inl rfl | exact Or.inr rfl)) pgs_nil))))
      (pss_cons (ps_asg (pe_cal c__law_verb (hr.mono (by first | decide | omega)) rfl (pa_cons (pv 3) (pa_cons (pv 15) pa_nil))) (pg_tup rfl (pgs_cons (pg_name (i := 16) sc__law_tale.nd rfl (by first | exact Or.inl rfl | exact Or.inr rfl)) (pgs_cons (pg_name (i := 17) sc__law_tale.nd rfl (by first | exact Or.inl rfl | exact Or.inr rfl)) pgs_nil))))
      (pss_cons (ps_expr (pe_append (pv 8) (pa_cons (pe_tup (pa_cons pe_str (pa_cons (pv 11) (pa_cons (pv 14) (pa_cons (pv 16) (pa_cons (pv 17) pa_nil)))))) pa_nil)))
      (pss_cons (ps_dput (hu_of hr) (pv 9) (pv 11) (pe_lst (pa_cons (pv 14) (pa_cons (pv 16) (pa_cons (pv 17) (pa_cons pe_non pa_nil))))) rfl)
      (pss_one (ps_if (pt_cmpR opEq (pe_cal c__law_take (hr.mono (by first | decide | omega)) rfl (pa_cons (pv 3) (pa_cons pe_int pa_nil))) pe_int (nomark _))
      (pss_one (ps_set (i := 7) sc__law_tale.nd rfl (by first | exact Or.inl rfl | exact Or.inr rfl) (pe_cal c__law_applied (hr.mono (by first | decide | omega)) rfl (pa_cons (pv 4) (pa_cons (pv 7) (pa_cons (pe_dget (hu_of hr) (pv 9) (pv 11) (fun _ _ => rfl)) pa_nil))))))
      pss_nil))))))
      pss_nil))))))))
      (qss_one (QS.mk (ps_ret (pe_tup (pa_cons (pv 4) (pa_cons (pe_callTy call_tuple_of rfl (T.no (n_tuple _)) boot_tuple (pa_cons (pv 8) pa_nil)) pa_nil))))))))))))))) ?_
    refine seq_asg ?_
    refine ⟨_, rfl, sc, ns, rfl, sq, fun i0 => ⟨_, _, rfl, rfl, (show (0 : Int) < 2 by decide), ?_⟩⟩
    refine g_name ?_
    have y0 : 0 ≤ i0 % 2 := Int.emod_nonneg _ (by decide)
    have y1 : i0 % 2 < 2 := Int.emod_lt_of_pos _ (by decide)
    refine seq_asg ?_
    refine ⟨_, rfl, sc, ns, rfl, sq, fun i1 => ⟨_, _, rfl, rfl, ⟨by decide, by decide⟩, _, rfl, (show (3 : Nat) ≤ sizeLine by decide), fun dk hdk => ?_⟩⟩
    refine g_name ?_
    have s1 := Same.upd (o := .lst [.int (i1 / 2), .int (i0 % 2), .int 0]) hdk
    have D1 : DeckAt (upd H dk (.lst [.int (i1 / 2), .int (i0 % 2), .int 0])) dk 0 := ⟨_, _, _, upd_same, y0, y1, Int.le_refl _, Int.le_refl _⟩
    generalize upd H dk (.lst [.int (i1 / 2), .int (i0 % 2), .int 0]) = H1 at s1 D1 ⊢
    have only : ∀ {n : Nat} {Ha Hb : Hp}, Same H Ha → Dw dk n Ha Hb → Same H Hb := fun sa wa => same_keptD sa (wa.keptL (L := [dk]) (by simp)) fun c hc => by rw [List.mem_singleton.mp hc]; exact hdk
    refine ⟨_, rfl, dk, 0, rfl, D1, by decide, fun pt ts H2 w2 hpt th ok nok => ?_⟩
    have s2 := only s1 w2
    refine g_name (t_nx ?_)
    refine seq_asg ?_
    refine ⟨(show (4 : Nat) ≤ sizeLine by decide), fun a1 h1 => ⟨(show (4 : Nat) ≤ sizeLine by decide), fun a2 h2 => ⟨(show (2 : Nat) ≤ sizeLine by decide), fun a3 h3 => ?_⟩⟩⟩
    have q1 := Same.upd (o := .lst [V.int 0, .int 1, .int 2, .int 5]) h1
    have q2 := Same.upd (o := .lst [V.int 5, .int 4, .int 3, .int 0]) h2
    have q3 := Same.upd (o := .lst [.ref a1, .ref a2]) h3
    have f1 := q3 _ _ (q2 _ _ (upd_same (H := H2) (a := a1) (o := .lst [V.int 0, .int 1, .int 2, .int 5])))
    have f2 := q3 _ _ (upd_same (H := upd H2 a1 (.lst [V.int 0, .int 1, .int 2, .int 5])) (a := a2) (o := .lst [V.int 5, .int 4, .int 3, .int 0]))
    have f3 := upd_same (H := upd (upd H2 a1 (.lst [V.int 0, .int 1, .int 2, .int 5])) a2 (.lst [V.int 5, .int 4, .int 3, .int 0])) (a := a3) (o := .lst [.ref a1, .ref a2])
    have n1 : a1 ≠ dk := w2.r.fresh h1
    have n2 : a2 ≠ dk := (w2.r.same q1).fresh h2
    have n3 : a3 ≠ dk := (w2.r.same (q1.trans q2)).fresh h3
    have q123 := (q1.trans q2).trans q3
    generalize upd (upd (upd H2 a1 (.lst [V.int 0, .int 1, .int 2, .int 5])) a2 (.lst [V.int 5, .int 4, .int 3, .int 0])) a3 (.lst [.ref a1, .ref a2]) = H3 at f1 f2 f3 q123 ⊢
    have D3 := w2.r.same q123
    have th3 := th.tt (.of (K := KX w.params) q123)
    have s3 := s2.trans q123
    refine ⟨_, rfl, dk, 2, _, rfl, D3, by decide, by decide, by decide, fun t4 H4 w4 h40 h41 => ?_⟩
    obtain ⟨v4, hv4, hm4⟩ := atI_of (xs := [V.ref a1, .ref a2]) h40 h41
    obtain ⟨aX, hs4, rfl, eX, nX, lX⟩ : ∃ (aX : Addr) (hs4 : List Int), v4 = .ref aX ∧ H3 aX = some (.lst (hs4.map V.int)) ∧ aX ≠ dk ∧ hs4.length = 4 := by
      simp only [List.mem_cons, List.not_mem_nil, or_false] at hm4
      rcases hm4 with rfl | rfl
      · exact ⟨a1, [0, 1, 2, 5], rfl, f1, n1, rfl⟩
      · exact ⟨a2, [5, 4, 3, 0], rfl, f2, n2, rfl⟩
    refine .inl ⟨a3, _, t4, _, rfl, rfl, SqL.of (w4.k _ _ n3 f3), hv4, ?_⟩
    have eX4 := w4.k _ _ nX eX
    have s4 := only s3 w4
    have th4 := th3.tt (w4.tt (K := KX w.params) D3)
    refine ⟨_, rfl, dk, 4, _, rfl, w4.r, by decide, by decide, by decide, fun t5 H5 w5 h50 h51 => .inl ⟨1, t5, rfl, rfl, _, rfl, .inl ⟨aX, _, rfl, SqL.of (w5.k _ _ nX eX4), fun ha hha => ?_⟩⟩⟩
    have s5 := only s4 w5
    have th5 := th4.tt (w5.tt (K := KX w.params) w4.r)
    obtain ⟨m5, rfl⟩ := Int.eq_ofNat_of_zero_le h50
    have ec : cutV (hs4.map V.int) none (some (1 + (m5 : Int))) = (hs4.take (1 + m5)).map V.int := by
      rw [show (1 : Int) + (m5 : Int) = ((1 + m5 : Nat) : Int) by omega, (cut_to (ys := hs4.map V.int) (m := 1 + m5) (by rw [List.length_map]; omega)).1, List.map_take]
    rw [ec]
    have hsl : (hs4.take (1 + m5)).length = 1 + m5 := by rw [List.length_take]; omega
    generalize hs4.take (1 + m5) = hs at hsl ⊢
    refine g_name ?_
    have q6 := Same.upd (o := .lst (hs.map V.int)) hha
    have e6 : upd H5 ha (.lst (hs.map V.int)) ha = some (.lst (hs.map V.int)) := upd_same
    have nha : ha ≠ dk := w5.r.fresh hha
    have fha : H ha = none := s5.free hha
    generalize upd H5 ha (.lst (hs.map V.int)) = H6 at q6 e6 ⊢
    have D6 := w5.r.same q6
    have s6 := s5.trans q6
    have th6 := th5.tt (.of (K := KX w.params) q6)
    refine seq_asg ?_
    refine ⟨(show (4 : Nat) ≤ sizeLine by decide), fun a7 h7 => ⟨_, rfl, dk, 4, _, rfl, D6.same (Same.upd h7), by decide, by decide, by decide, fun t7 H7 w7 h70 h71 => ?_⟩⟩
    obtain ⟨v7, hv7, hm7⟩ := atI_of (xs := [V.int 3, .int 8, .int 40, .int 40]) h70 h71
    obtain ⟨spl, rfl, sp0, sp1⟩ : ∃ spl : Int, v7 = .int spl ∧ 0 < spl ∧ spl ≤ 40 := by
      simp only [List.mem_cons, List.not_mem_nil, or_false] at hm7
      rcases hm7 with rfl | rfl | rfl | rfl <;> exact ⟨_, rfl, by decide, by decide⟩
    refine .inl ⟨a7, _, t7, _, rfl, rfl, SqL.of (w7.k _ _ (D6.fresh h7) upd_same), hv7, ?_⟩
    refine g_name ?_
    have e7 := w7.k _ _ nha ((Same.upd (o := .lst [V.int 3, .int 8, .int 40, .int 40]) h7) _ _ e6)
    have th7 := (th6.tt (.of (K := KX w.params) (Same.upd (o := .lst [V.int 3, .int 8, .int 40, .int 40]) h7))).tt (w7.tt (K := KX w.params) (D6.same (Same.upd h7)))
    have s7 := only (s6.trans (Same.upd (o := .lst [V.int 3, .int 8, .int 40, .int 40]) h7)) w7
    refine ⟨_, rfl, pt, ts, rfl, th7, ok.n6, fun ps H8 s8 st8 => ?_⟩
    have e8 := s8 _ _ e7
    have th8 := th7.tt (.of (K := KX w.params) s8)
    have s8 := s7.trans s8
    refine ⟨(show (0 : Nat) ≤ sizeLine by decide), fun l hl => ?_⟩
    have q9 := Same.upd (o := .lst []) hl
    have el9 : upd H8 l (.lst []) l = some (.lst []) := upd_same
    have nlh : l ≠ ha := fun z => by rw [z, e8] at hl; cases hl
    have fl : H l = none := s8.free hl
    have e9 := q9 _ _ e8
    have th9 := th8.tt (.of (K := KX w.params) q9)
    have st9 := st8.tups (.of q9)
    have s9 := s8.trans q9
    generalize upd H8 l (.lst []) = H9 at q9 el9 e9 th9 st9 s9 ⊢
    intro u hu
    have q10 := Same.upd (o := .dK []) hu
    have fu : H u = none := s9.free hu
    have nlu : l ≠ u := fun z => by rw [← z, el9] at hu; cases hu
    have nhu : ha ≠ u := fun z => by rw [← z, e9] at hu; cases hu
    have J0 : TaJ (KX w.params) (upd H9 u (.dK [])) H pt ps u l ha ts hs 0 [] [] := ⟨th9.tt (.of (K := KX w.params) q10), st9.tups (.of q10), ⟨[], upd_same, Nat.le_refl _, rfl, fun k v e => by cases e⟩, ⟨[], q10 _ _ el9, .nil⟩, q10 _ _ e9, Nat.le_refl _, trivial⟩
    have s10 := s9.trans q10
    generalize upd H9 u (.dK []) = H10 at J0 s10 ⊢
    have hb : ∀ L : Int, 0 ≤ (if (if L > 0 then L else 0) < 2 * mo then (if L > 0 then L else 0) else 2 * mo) ∧ (if (if L > 0 then L else 0) < 2 * mo then (if L > 0 then L else 0) else 2 * mo) ≤ 20 := fun L => by split <;> split <;> omega
    obtain ⟨b1, b2⟩ := hb (((ns.map V.int).length : Int) - 1)
    refine ⟨_, rfl, _, _, rfl, rfl, .inl ⟨by decide, by decide⟩, _, rfl, .inl ⟨sc, _, rfl, .inl (s10.seq sq), _, _, rfl, rfl, _, _, rfl, _, _, rfl, (if (if ((ns.map V.int).length : Int) - 1 > 0 then ((ns.map V.int).length : Int) - 1 else 0) < 2 * mo then (if ((ns.map V.int).length : Int) - 1 > 0 then ((ns.map V.int).length : Int) - 1 else 0) else 2 * mo), rfl, by omega, by omega, ?_⟩⟩
    generalize (if (if ((ns.map V.int).length : Int) - 1 > 0 then ((ns.map V.int).length : Int) - 1 else 0) < 2 * mo then (if ((ns.map V.int).length : Int) - 1 > 0 then ((ns.map V.int).length : Int) - 1 else 0) else 2 * mo) = JJ at b1 b2 ⊢
    have tn : JJ.toNat ≤ 20 := by omega
    generalize JJ.toNat = tt at tn ⊢
    refine for_range (lo := 0) (n := tt) (fun i σ H' => ∃ ps es, TaJ (KX w.params) H' H pt ps u l ha ts hs i (es.foldl oStep []) es ∧ Same H H' ∧ ∃ x3 x10 x11 x12 x13 x14 x15 x16 x17, σ = [some (.ref sc), some (.int mo), some (.int (i0 % 2)), x3, some (.ref pt), some (.ref ha), some (.int spl), some (.ref ps), some (.ref l), some (.ref u), x10, x11, x12, x13, x14, x15, x16, x17])
      ⟨ps, [], J0, s10, _, _, _, _, _, _, _, _, _, rfl⟩ ?_ ?_
    · rintro i σ H3 hi ⟨ps, es, J, s3, x3, x10, x11, x12, x13, x14, x15, x16, x17, rfl⟩
      rw [Int.zero_add]
      refine g_name ?_
      obtain ⟨ms, em⟩ : ∃ ms : List Int, pickV (ns.map V.int) (some (1 + (i : Int))) (some 63) (some (2 * mo)) = ms.map V.int := ints_of fun y hy => by
        obtain ⟨c, _, rfl⟩ := List.mem_map.mp (pickV_mem hy)
        exact ⟨c, rfl⟩
      have pl : (pickV (ns.map V.int) (some (1 + (i : Int))) (some 63) (some (2 * mo))).length ≤ sizeLine := Nat.le_trans (pickV_len (by omega)) (by rw [List.length_map]; exact Nat.le_trans hn (by decide))
      refine seq_asg ?_
      refine ⟨_, rfl, _, rfl, .inl ⟨_, _, rfl, rfl, _, rfl, 63, rfl, _, rfl, _, _, rfl, rfl, .inl ⟨by decide, by decide⟩, _, rfl, sc, _, rfl, s3.seq sq, (show (some (2 * mo : Int)) ≠ some 0 from fun e => by injection e with e; omega), pl, fun p4 hp4 => ?_⟩⟩
      have q4 := Same.upd (o := .lst (pickV (ns.map V.int) (some (1 + (i : Int))) (some 63) (some (2 * mo)))) hp4
      refine ⟨p4, ms, rfl, SqL.of (by rw [← em]; exact upd_same), ?_⟩
      refine ⟨_, rfl, _, rfl, _, _, rfl, rfl, .inl ⟨by decide, by decide⟩, .inl ⟨_, _, rfl, rfl, (show (3 : Nat) ≤ sizeLine by decide), fun dk2 hd2 => ?_⟩⟩
      refine g_name ?_
      have q5 := Same.upd (o := .lst [.int ms.sum, .int (i0 % 2), .int (9 + 5 * (i : Int))]) hd2
      have D5 : DeckAt (upd (upd H3 p4 (.lst (pickV (ns.map V.int) (some (1 + (i : Int))) (some 63) (some (2 * mo))))) dk2 (.lst [.int ms.sum, .int (i0 % 2), .int (9 + 5 * (i : Int))])) dk2 (9 + 5 * i) := ⟨_, _, _, upd_same, y0, y1, by omega, by omega⟩
      have J5 := (J.same q4).same q5
      have fdk : H dk2 = none := (s3.trans q4).free hd2
      have s5 := (s3.trans q4).trans q5
      generalize upd (upd H3 p4 (.lst (pickV (ns.map V.int) (some (1 + (i : Int))) (some 63) (some (2 * mo))))) dk2 (.lst [.int ms.sum, .int (i0 % 2), .int (9 + 5 * (i : Int))]) = H5 at D5 J5 s5 ⊢
      have nd : u ≠ dk2 ∧ l ≠ dk2 ∧ ha ≠ dk2 := by
        obtain ⟨a1, b1, c1, e1, _⟩ := D5
        refine ⟨fun z => ?_, fun z => ?_, fun z => ?_⟩
        · obtain ⟨kv, e, _⟩ := (J.same q4).uw
          rw [z, hd2] at e; cases e
        · obtain ⟨kv, e, _⟩ := (J.same q4).ev
          rw [z, hd2] at e; cases e
        · have e := (J.same q4).hn
          rw [z, hd2] at e; cases e
      have only2 : ∀ {n : Nat} {Ha Hb : Hp}, Same H Ha → Dw dk2 n Ha Hb → Same H Hb := fun sa wa => same_keptD sa (wa.keptL (L := [dk2]) (by simp)) fun c hc => by rw [List.mem_singleton.mp hc]; exact fdk
      refine seq_asg ?_
      refine ⟨_, rfl, _, rfl, _, rfl, .inl ⟨ha, _, rfl, .inl (SqL.of J5.hn), dk2, _, _, rfl, D5, by omega, by rw [List.length_map]; omega, by rw [List.length_map]; omega, fun t6 H6 w6 h60 h61 => ?_⟩⟩
      obtain ⟨v6, hv6, hm6⟩ := atI_of (xs := hs.map V.int) h60 h61
      obtain ⟨hd, _, rfl⟩ := List.mem_map.mp hm6
      have J6 := J5.dw D5 w6 nd
      have s6 := only2 s5 w6
      have D6 := w6.r
      refine .inl ⟨ha, _, t6, _, rfl, rfl, SqL.of J6.hn, hv6, ?_⟩
      refine g_name ?_
      obtain ⟨kvs, eu6, kl6, ke6, fu6⟩ := J6.uw
      have dg : DGet H6 u (.int hd) (valV kvs (.inl hd)) := DGet.k (k := .inl hd) eu6
      refine ⟨_, rfl, _, rfl, u, _, rfl, dg, _, rfl, ?_⟩
      cases hv : valV kvs (.inl hd) with
      | some v =>
        refine iteP rfl ?_
        obtain ⟨po, rfl, ow, npl, nph, fpo⟩ := fu6 _ _ hv
        refine seq_asg ?_
        refine ⟨_, rfl, u, rfl, .inl ⟨_, .inl eu6⟩, _, rfl, kvs, .inl hd, .ref po, eu6, rfl, hv, ?_⟩
        refine g_name ?_
        have k7 : KeptL [u] H6 (upd H6 u (.dK (dropK kvs (.inl hd)))) := KeptL.set (by simp)
        have T7 : Tt (KX w.params) H6 (upd H6 u (.dK (dropK kvs (.inl hd)))) := KeptL.tt k7 fun c hc => by rw [List.mem_singleton.mp hc]; exact .inr ⟨_, eu6⟩
        have eu7 : upd H6 u (.dK (dropK kvs (.inl hd))) u = some (.dK (dropK kvs (.inl hd))) := upd_same
        generalize upd H6 u (.dK (dropK kvs (.inl hd))) = H7 at k7 T7 eu7 ⊢
        obtain ⟨ys, el6, ev6⟩ := J6.ev
        have nlu : l ≠ u := fun z => by rw [z, eu6] at el6; cases el6
        have nhu : ha ≠ u := fun z => by have := J6.hn; rw [z, eu6] at this; cases this
        have npu : ∀ {p : Addr}, OwnAt (KX w.params) H6 ts p → p ≠ u := fun o z => by
          obtain ⟨_, _, _, _, _, _, e, _⟩ := o
          rw [z, eu6] at e; cases e
        have hin : hd ∈ es.foldl oStep [] := by
          have : (Sum.inl hd : Key) ∈ kvs.map (·.1) := valV_isSomeK.mp (by rw [hv]; rfl)
          rw [ke6] at this
          obtain ⟨k, hk, e⟩ := List.mem_map.mp this
          exact Sum.inl.inj e ▸ hk
        have J7 : TaJ (KX w.params) H7 H pt ps u l ha ts hs i ((es.foldl oStep []).filter fun k => decide (k ≠ hd)) es := ⟨J6.th.tt T7, J6.st.tups T7.t, ⟨_, eu7, Nat.le_trans (dropK_le _ _) kl6, keys_drop ke6, fun k v e => by
          obtain ⟨p, h1, h2, h3⟩ := fu6 k v (valV_dropS e)
          exact ⟨p, h1, h2.tt T7 fun o e => k7 _ _ (by simp [npu h2]) e, h3⟩⟩, ⟨ys, k7 _ _ (by simp [nlu]) el6, forall2_mono (fun _ _ y => y.tups T7.t) ev6⟩, k7 _ _ (by simp [nhu]) J6.hn, J6.ln, J6.wf⟩
        have ow7 := ow.tt T7 fun o e => k7 _ _ (by simp [npu ow]) e
        have D7 : DeckAt H7 dk2 (9 + 5 * i + 1) := by
          obtain ⟨a1, b1, c1, e1, z1⟩ := D6
          exact ⟨a1, b1, c1, k7 _ _ (by simp [Ne.symm nd.1]) e1, z1⟩
        have s7 : Same H H7 := same_keptD s6 k7 fun c hc => by rw [List.mem_singleton.mp hc]; exact fu
        have npd : po ≠ dk2 := fun z => by
          obtain ⟨_, _, _, _, _, _, e, _⟩ := ow7
          obtain ⟨a1, b1, c1, e1, _⟩ := D7
          rw [z, e1] at e; cases e
        obtain ⟨nm, vb, x, a, k, d, eo, hm, dkk, ix, wi, an⟩ := id ow7
        refine seq_any (fun σ1 H8 => ∃ ps' a' xs, KeptL [po] H7 H8 ∧ OwnAt (KX w.params) H8 ts po ∧ H8 po = some (.lst (xs ++ [a'])) ∧ xs.length = 3 ∧ AnsI a' ∧ StsT (KX w.params) H8 ps' ts (i + 1) ∧ σ1 = [some (.ref sc), some (.int mo), some (.int (i0 % 2)), some (.ref dk2), some (.ref pt), some (.ref ha), some (.int spl), some (.ref ps'), some (.ref l), some (.ref u), some (.int (i : Int)), some (.int hd), some (.ref po), x13, x14, x15, x16, x17]) ?_ (fun tl => ?_)
        rotate_left
        · refine ⟨_, rfl, .inl ⟨po, _, 3, a, rfl, rfl, SqL.of eo, atI_nat (j := 3) rfl, rfl, _, rfl, ?_⟩⟩
          by_cases za : a = .non
          · refine iteP (decide_eq_true za) ?_
            refine ⟨_, rfl, _, rfl, _, rfl, pt, ps, po, ts, i, rfl, J7.th, ok, J7.st, by omega, ow7, ?_⟩
            rintro p' H8 k8 ow8 ⟨a', xs, e8, l8, ai⟩ st8
            exact tl _ _ ⟨p', a', xs, k8, ow8, e8, l8, ai, st8, rfl⟩
          · exact iteN (by rw [decide_eq_false za]; decide) (tl _ _ ⟨ps, a, [.str nm, .str vb, x], KeptL.refl, ow7, eo, rfl, an.resolve_left za, J7.st.le (Nat.le_succ _), rfl⟩)
        rintro σ8 H8 ⟨ps', a', xs8, k8, ow8, e8, l8, ai, st8, rfl⟩
        have T8 : Tt (KX w.params) H7 H8 := KeptL.tt k8 fun c hc => by rw [List.mem_singleton.mp hc]; exact ow7.mutAt
        have J8 : TaJ (KX w.params) H8 H pt ps u l ha ts hs i ((es.foldl oStep []).filter fun k => decide (k ≠ hd)) es := J7.tt T8 [po] k8 ⟨by simp [Ne.symm (npu ow)], by simp [Ne.symm npl], by simp [Ne.symm nph]⟩ fun p hp _ => by rw [List.mem_singleton.mp hp]; exact ow8
        have D8 : DeckAt H8 dk2 (9 + 5 * i + 1) := by
          obtain ⟨a1, b1, c1, e1, z1⟩ := D7
          exact ⟨a1, b1, c1, k8 _ _ (by simp [Ne.symm npd]) e1, z1⟩
        have s8 : Same H H8 := same_keptD s7 k8 fun c hc => by rw [List.mem_singleton.mp hc]; exact fpo
        refine seq_asg ?_
        refine ⟨_, rfl, .inl ⟨po, _, 3, a', rfl, rfl, SqL.of e8, atI_nat (j := 3) (by rw [List.getElem?_append_right (by omega), l8]; rfl), ?_⟩⟩
        refine g_name ?_
        refine seq_any (fun σ1 H9 => ∃ a9 n9, Dw dk2 n9 H8 H9 ∧ AnsI a9 ∧ σ1 = [some (.ref sc), some (.int mo), some (.int (i0 % 2)), some (.ref dk2), some (.ref pt), some (.ref ha), some (.int spl), some (.ref ps'), some (.ref l), some (.ref u), some (.int (i : Int)), some (.int hd), some (.ref po), some a9, x14, x15, x16, x17]) ?_ (fun tl2 => ?_)
        rotate_left
        · obtain ⟨T0, tg, nt⟩ : ∃ T0, TagOf H8 a' T0 ∧ instB T0 "tuple" = false := by
            rcases ai with ⟨i9, rfl⟩ | rfl | rfl
            · exact ⟨"int", rfl, by decide⟩
            · exact ⟨"str", rfl, by decide⟩
            · exact ⟨"str", rfl, by decide⟩
          refine ⟨_, rfl, _, _, T0, rfl, tg, by decide, _, rfl, ?_⟩
          rw [nt]
          refine iteF ?_
          refine ⟨_, rfl, _, rfl, dk2, spl, _, rfl, D8, by omega, sp0, by omega, fun t9 H9 w9 _ _ => ⟨rfl, _, rfl, ite2 (fun _ => ?_) fun _ => tl2 _ _ ⟨a', _, w9, ai, rfl⟩⟩⟩
          refine ⟨_, _, rfl, rfl, p9, _, rfl, (show (7 : Nat) ≤ sizeLine by decide), fun l9 hl9 => ?_⟩
          refine ⟨_, rfl, dk2, 7, _, rfl, w9.r.same (Same.upd hl9), by omega, by decide, by decide, fun t10 H10 w10 h0 h1 => ?_⟩
          obtain ⟨v10, hv10, hm10⟩ := atI_of (xs := [V.str "ok", .str "none", .int 0, .int 1, .int 2, .int (10 ^ (9 : Int).toNat), .int (-1)]) h0 h1
          refine .inl ⟨l9, _, t10, v10, rfl, rfl, SqL.of (w10.k _ _ (w9.r.fresh hl9) upd_same), hv10, tl2 _ _ ⟨v10, _, (w9.same (Same.upd hl9)).trans w10, ?_, rfl⟩⟩
          simp only [List.mem_cons, List.not_mem_nil, or_false] at hm10
          rcases hm10 with rfl | rfl | rfl | rfl | rfl | rfl | rfl
          · exact .inr (.inl rfl)
          · exact .inr (.inr rfl)
          · exact .inl ⟨_, rfl⟩
          · exact .inl ⟨_, rfl⟩
          · exact .inl ⟨_, rfl⟩
          · exact .inl ⟨_, rfl⟩
          · exact .inl ⟨_, rfl⟩
        rintro σ9 H9 ⟨a9, n9, w9, ai9, rfl⟩
        have J9 := J8.dw D8 w9 nd
        have st9 := st8.tups (w9.tt D8).t
        have s9 := only2 s8 w9
        obtain ⟨ys9, el9, ev9⟩ := J9.ev
        have yl9 : ys9.length ≤ 20 := by rw [forall2_len ev9]; have := J9.ln; omega
        refine ⟨_, rfl, .inl ⟨rfl, _, SqL.of el9⟩, _, rfl, _, rfl, (show (3 : Nat) ≤ sizeLine by decide), fun p10 hp10 => ?_⟩
        have q10 := Same.upd (o := .tup [.str "end", .int hd, a9]) hp10
        have e10 : upd H9 p10 (.tup [.str "end", .int hd, a9]) p10 = some (.tup [.str "end", .int hd, a9]) := upd_same
        have J10 := J9.same q10
        have st10 := st9.tups (.of q10)
        generalize upd H9 p10 (.tup [.str "end", .int hd, a9]) = H10 at q10 e10 J10 st10 ⊢
        have el10 := q10 _ _ el9
        have ev10 := forall2_mono (fun _ _ z => EvQ.tups (.of q10) z) ev9
        refine ⟨l, ys9, _, rfl, rfl, el10, Nat.lt_of_le_of_lt yl9 (by decide), ?_⟩
        have k11 : KeptL [l] H10 (upd H10 l (.lst (ys9 ++ [.ref p10]))) := KeptL.set (by simp)
        have T11 : Tt (KX w.params) H10 (upd H10 l (.lst (ys9 ++ [.ref p10]))) := KeptL.tt k11 fun c hc => by rw [List.mem_singleton.mp hc]; exact .inl ⟨_, el10⟩
        have el11 : upd H10 l (.lst (ys9 ++ [.ref p10])) l = some (.lst (ys9 ++ [.ref p10])) := upd_same
        generalize upd H10 l (.lst (ys9 ++ [.ref p10])) = H11 at k11 T11 el11 ⊢
        obtain ⟨kv10, eu10, kl10, ke10, fu10⟩ := J10.uw
        have nhl : ha ≠ l := fun z => nlh z.symm
        have nul : u ≠ l := fun z => nlu z.symm
        refine ⟨ps', es ++ [.fin hd a9], ⟨J10.th.tt T11, st10.tups T11.t, ⟨kv10, k11 _ _ (by simp [nul]) eu10, Nat.le_succ_of_le kl10, by rw [List.foldl_append]; exact ke10, fun k v e => ?_⟩, ⟨_, el11, ?_⟩, k11 _ _ (by simp [nhl]) J10.hn, ?_, EWf.snoc (e := .fin hd a9) J10.wf hin⟩, same_keptD (s9.trans q10) k11 (fun c hc => by rw [List.mem_singleton.mp hc]; exact fl), _, _, _, _, _, _, _, _, _, rfl⟩
        · obtain ⟨p, h1, h2, h3⟩ := fu10 k v e
          exact ⟨p, h1, h2.tt T11 fun o e => k11 _ _ (by simp [h3.1]) e, h3⟩
        · refine all2_snoc (forall2_mono (fun _ _ z => EvQ.tups T11.t z) ev10) ?_
          have se := T11.l _ _ e10
          rcases ai9 with ⟨i9, rfl⟩ | rfl | rfl
          · exact ⟨⟨p10, rfl, SqT.of se⟩, ⟨p10, _, .tup [.str "end", .int hd, .int i9], rfl, SqT.of se, ⟨p10, _, rfl, SqT.of se, ⟨_, _, rfl, rfl, _, _, rfl, rfl, _, _, rfl, rfl, rfl⟩⟩, (by show ((PyData.str "end").canLay0 && (true && (true && true))) = true; decide +kernel), (show (1 : Nat) ≤ 3 by decide)⟩, .inl ⟨_, rfl⟩⟩
          · exact ⟨⟨p10, rfl, SqT.of se⟩, ⟨p10, _, .tup [.str "end", .int hd, .str "ok"], rfl, SqT.of se, ⟨p10, _, rfl, SqT.of se, ⟨_, _, rfl, rfl, _, _, rfl, rfl, _, _, rfl, rfl, rfl⟩⟩, (by show ((PyData.str "end").canLay0 && (true && ((PyData.str "ok").canLay0 && true))) = true; decide +kernel), (show (1 : Nat) ≤ 3 by decide)⟩, .inr (.inl rfl)⟩
          · exact ⟨⟨p10, rfl, SqT.of se⟩, ⟨p10, _, .tup [.str "end", .int hd, .str "none"], rfl, SqT.of se, ⟨p10, _, rfl, SqT.of se, ⟨_, _, rfl, rfl, _, _, rfl, rfl, _, _, rfl, rfl, rfl⟩⟩, (by show ((PyData.str "end").canLay0 && (true && ((PyData.str "none").canLay0 && true))) = true; decide +kernel), (show (1 : Nat) ≤ 3 by decide)⟩, .inr (.inr rfl)⟩
        · rw [List.length_append]
          exact Nat.succ_le_succ J10.ln
      | none =>
        refine iteN (by decide) ?_
        obtain ⟨ys, el6, ev6⟩ := J6.ev
        have nlu : l ≠ u := fun z => by rw [z, eu6] at el6; cases el6
        have yl6 : ys.length ≤ 20 := by rw [forall2_len ev6]; have := J6.ln; omega
        refine if_test (test_cb1 ?_)
        refine tcompG_all2 (α := Ev × V) (K := KX w.params) (l := l) (rs := es.zip ys) (xs := ys) (RA := fun H a v => a.2 = v ∧ EvQ (KX w.params) ts H a.1 v) (.fin 0 .non, .non) (fun a => decide (V.str (wordE a.1) = V.str "begin")) (fun a => a.2) (fun R h => ⟨_, rfl, h⟩) (SqL.of el6) (fun H H' a v s z => ⟨z.1, z.2.tups (.of s)⟩) (all2_zip ev6) ?_ ?_ ?_
        · exact Nat.le_trans (by rw [List.length_zip]; exact Nat.min_le_right _ _) (Nat.le_trans yl6 (by decide))
        · rintro ⟨z, v⟩ _ v' H7 s7 ⟨rfl, ⟨_, ⟨p, r, d, rfl, sqp, _⟩, _⟩⟩ KT KF h1 h2
          refine ⟨[some (.ref p)], rfl, rfl, ?_⟩
          refine ⟨_, rfl, .inr (.inl ⟨p, _, 0, .str (wordE z), rfl, rfl, sqp, atI_nat (j := 0) rfl, rfl, _, rfl, ?_⟩)⟩
          by_cases y : decide (V.str (wordE z) = V.str "begin") = true
          · exact iteP y ⟨_, rfl, h1 y _ (Same.refl _)⟩
          · exact iteN y (h2 (by simpa using y) _ (Same.refl _))
        intro l7 H7 q7 hl7
        have q8 := Same.upd (o := .lst (((es.zip ys).filter fun a => decide (V.str (wordE a.1) = V.str "begin")).map fun a => a.2)) hl7
        refine .inl ⟨l7, _, rfl, .inl (SqL.of upd_same), _, rfl, _, _, rfl, rfl, _, rfl, ?_⟩
        have J8 := J6.same (q7.trans q8)
        have D8 := D6.same (q7.trans q8)
        have s8 := s6.trans (q7.trans q8)
        generalize upd H7 l7 (.lst (((es.zip ys).filter fun a => decide (V.str (wordE a.1) = V.str "begin")).map fun a => a.2)) = H8 at J8 D8 s8 ⊢
        refine ite2 (fun _ => ?_) fun _ => ⟨ps, es, J8.le, s8, _, _, _, _, _, _, _, _, _, rfl⟩
        obtain ⟨yt, eyt, alt⟩ := J8.th
        have ytl : yt.length = ts.length := forall2_len alt
        have ok0 := ok.n0
        have ok6 := ok.n6
        refine ⟨_, rfl, _, rfl, _, rfl, .inl ⟨pt, yt, rfl, .inr (SqT.of eyt), dk2, _, _, rfl, D8, by omega, by omega, by omega, fun t9 H9 w9 h90 h91 => ?_⟩⟩
        obtain ⟨v9, hv9, hm9⟩ := atI_of (xs := yt) h90 h91
        obtain ⟨j, hj⟩ := List.mem_iff_getElem?.mp hm9
        obtain ⟨t, ht, b9, rfl, e9⟩ := all2_get alt hj
        have tmem := List.mem_of_getElem? ht
        have T9 : Tt (KX w.params) H8 H9 := w9.tt D8
        refine .inr (.inl ⟨pt, yt, t9, _, rfl, rfl, SqT.of (T9.l _ _ eyt), hv9, b9, _, rfl, SqT.of (T9.l _ _ e9), rfl, _, _, rfl, _, _, rfl, rfl, ?_⟩)
        refine ⟨_, rfl, _, rfl, dk2, t.2, _, rfl, w9.r, by omega, ok.ks t tmem, fun p10 v10 x10 d10 H10 m10 w10 hm10 e10 _ dkk ix wi => ⟨p10, _, rfl, SqT.of e10, rfl, _, _, rfl, _, _, rfl, rfl, ?_⟩⟩
        have w810 := w9.trans w10
        have J10 := J8.dw D8 w810 nd
        have D10 := w10.r
        have s10 := only2 s8 w810
        obtain ⟨ys9, el10, ev10⟩ := J10.ev
        have yl9 : ys9.length ≤ 20 := by rw [forall2_len ev10]; have := J10.ln; omega
        refine ⟨_, rfl, .inl ⟨rfl, _, SqL.of el10⟩, _, rfl, _, rfl, _, rfl, _, rfl, (show (5 : Nat) ≤ sizeLine by decide), fun p11 hp11 => ?_⟩
        have q11 := Same.upd (o := .tup [.str "begin", .int hd, .str t.1, .str v10, x10]) hp11
        have e11 : upd H10 p11 (.tup [.str "begin", .int hd, .str t.1, .str v10, x10]) p11 = some (.tup [.str "begin", .int hd, .str t.1, .str v10, x10]) := upd_same
        generalize upd H10 p11 (.tup [.str "begin", .int hd, .str t.1, .str v10, x10]) = H11 at q11 e11 ⊢
        have el11 := q11 _ _ el10
        refine ⟨l, ys9, _, rfl, rfl, el11, Nat.lt_of_le_of_lt yl9 (by decide), ?_⟩
        have k12 : KeptL [l] H11 (upd H11 l (.lst (ys9 ++ [.ref p11]))) := KeptL.set (by simp)
        have T12 : Tt (KX w.params) H11 (upd H11 l (.lst (ys9 ++ [.ref p11]))) := KeptL.tt k12 fun c hc => by rw [List.mem_singleton.mp hc]; exact .inl ⟨_, el11⟩
        have el12 : upd H11 l (.lst (ys9 ++ [.ref p11])) l = some (.lst (ys9 ++ [.ref p11])) := upd_same
        generalize upd H11 l (.lst (ys9 ++ [.ref p11])) = H12 at k12 T12 el12 ⊢
        obtain ⟨kv10, eu10, kl10, ke10, fu10⟩ := J10.uw
        have nhl : ha ≠ l := fun z => nlh z.symm
        have nul : u ≠ l := fun z => nlu z.symm
        have s12 : Same H H12 := same_keptD (s10.trans q11) k12 fun c hc => by rw [List.mem_singleton.mp hc]; exact fl
        have eu12 := k12 _ _ (show u ∉ [l] by simp [nul]) (q11 _ _ eu10)
        have eh12 := k12 _ _ (show ha ∉ [l] by simp [nhl]) (q11 _ _ J10.hn)
        refine ⟨_, rfl, _, rfl, _, rfl, (show (4 : Nat) ≤ sizeLine by decide), fun po hpo => ?_⟩
        have q13 := Same.upd (o := .lst [.str t.1, .str v10, x10, .non]) hpo
        have eo13 : upd H12 po (.lst [.str t.1, .str v10, x10, .non]) po = some (.lst [.str t.1, .str v10, x10, .non]) := upd_same
        have npl : po ≠ l := fun z => by rw [z, el12] at hpo; cases hpo
        have nph : po ≠ ha := fun z => by rw [z, eh12] at hpo; cases hpo
        have npu : po ≠ u := fun z => by rw [z, eu12] at hpo; cases hpo
        have fpo : H po = none := s12.free hpo
        generalize upd H12 po (.lst [.str t.1, .str v10, x10, .non]) = H13 at q13 eo13 ⊢
        have eu13 := q13 _ _ eu12
        refine ⟨_, rfl, _, rfl, u, _, rfl, DPut.k (k := .inl hd) eu13 (Nat.lt_of_le_of_lt (m := 100) (by omega) (by decide)), ?_⟩
        have k14 : KeptL [u] H13 (upd H13 u (.dK (putK kv10 (.inl hd) (.ref po)))) := KeptL.set (by simp)
        have T14 : Tt (KX w.params) H13 (upd H13 u (.dK (putK kv10 (.inl hd) (.ref po)))) := KeptL.tt k14 fun c hc => by rw [List.mem_singleton.mp hc]; exact .inr ⟨_, eu13⟩
        have eu14 : upd H13 u (.dK (putK kv10 (.inl hd) (.ref po))) u = some (.dK (putK kv10 (.inl hd) (.ref po))) := upd_same
        generalize upd H13 u (.dK (putK kv10 (.inl hd) (.ref po))) = H14 at k14 T14 eu14 ⊢
        have T1114 : Tt (KX w.params) H11 H14 := (T12.trans (.of q13)).trans T14
        have T : Tt (KX w.params) H10 H14 := Tt.trans (.of q11) T1114
        have kk : KeptL [l, u] H10 H14 := fun c o n e => by
          simp only [List.mem_cons, List.not_mem_nil, or_false, not_or] at n
          exact k14 _ _ (by simp [n]) (q13 _ _ (k12 _ _ (by simp [n]) (q11 _ _ e)))
        have s14 : Same H H14 := same_keptD (s12.trans q13) k14 fun c hc => by rw [List.mem_singleton.mp hc]; exact fu
        have eo14 := k14 _ _ (show po ∉ [u] by simp [npu]) eo13
        have ow14 : OwnAt (KX w.params) H14 ts po := ⟨t.1, v10, x10, .non, t.2, d10, eo14, tmem, dkk, IsDt.mono' T.t _ _ ix, wi.tt T, .inl rfl⟩
        obtain ⟨o1, o2, o3⟩ := deed_strOk dkk
        have hkn : (Sum.inl hd : Key) ∉ kvs.map (·.1) := fun z => by
          have := valV_isSomeK.mpr z
          rw [hv] at this
          cases this
        have hno : hd ∉ es.foldl oStep [] := fun z => hkn (by rw [ke6]; exact List.mem_map.mpr ⟨hd, z, rfl⟩)
        have J14 : TaJ (KX w.params) H14 H pt ps u l ha ts hs (i + 1) ((es ++ [Ev.beg hd (.str t.1) (.str v10) x10]).foldl oStep []) (es ++ [.beg hd (.str t.1) (.str v10) x10]) := by
          refine ⟨J10.th.tt T, (J10.st.tups T.t).le (Nat.le_succ _), ⟨_, eu14, Nat.le_trans (putK_lenE _ _ _) (by omega), ?_, fun k v e => ?_⟩, ⟨_, k14 _ _ (show l ∉ [u] by simp [nlu]) (q13 _ _ el12), ?_⟩, kk _ _ (by simp [nhl, nhu]) J10.hn, ?_, EWf.snoc (e := .beg hd (.str t.1) (.str v10) x10) J10.wf hno⟩
          · have hk10 : (Sum.inl hd : Key) ∉ kv10.map (·.1) := by rw [ke10, ← ke6]; exact hkn
            rw [List.foldl_append, putK_out hk10, List.map_append, ke10]
            show _ = ((es.foldl oStep []) ++ [hd]).map Sum.inl
            rw [List.map_append]
            rfl
          · rw [valV_put] at e
            by_cases z : k = .inl hd
            · rw [if_pos z] at e
              cases e
              exact ⟨po, rfl, ow14, npl, nph, fpo⟩
            · rw [if_neg z] at e
              obtain ⟨p, h1, h2, h3⟩ := fu10 k v e
              refine ⟨p, h1, h2.tt T fun o e => kk _ _ ?_ e, h3⟩
              have : p ≠ u := fun y => by
                obtain ⟨_, _, _, _, _, _, e, _⟩ := h2
                rw [y, eu10] at e; cases e
              simp [h3.1, this]
          · refine all2_snoc (forall2_mono (fun _ _ z => EvQ.tups T.t z) ev10) ?_
            have se := T1114.l _ _ e11
            refine ⟨⟨p11, rfl, SqT.of se⟩, ?_, ⟨t.1, v10, t.2, d10, rfl, rfl, tmem, dkk⟩⟩
            refine ⟨p11, _, .tup [.str "begin", .int hd, .str t.1, .str v10, d10], rfl, SqT.of se, ⟨p11, _, rfl, SqT.of se, ⟨_, _, rfl, rfl, _, _, rfl, rfl, _, _, rfl, rfl, _, _, rfl, rfl, _, _, rfl, IsDt.mono' T.t _ _ ix, rfl⟩⟩, ?_, ?_⟩
            · show ((PyData.str "begin").canLay0 && (true && (PyData.strOk t.1 && (PyData.strOk v10 && (plainP (toPd d10) && true))))) = true
              rw [(nok t tmem).1, o1, o2]
              decide +kernel
            · show max 0 (max 0 (max 0 (max 0 (max (toPd d10).depth 0)))) + 1 ≤ 3
              omega
          · rw [List.length_append]
            exact Nat.succ_le_succ J10.ln
        have D14 : DeckAt H14 dk2 m10 := by
          obtain ⟨a1, b1, c1, e1, z1⟩ := D10
          exact ⟨a1, b1, c1, kk _ _ (by simp [Ne.symm nd.1, Ne.symm nd.2.1]) e1, z1⟩
        have npd : po ≠ dk2 := fun z => by
          obtain ⟨a1, b1, c1, e1, _⟩ := D14
          rw [← z, eo14] at e1
          cases e1
        refine ⟨_, rfl, dk2, 2, _, rfl, D14, by omega, by decide, by decide, fun t15 H15 w15 _ _ => ⟨rfl, _, rfl, ?_⟩⟩
        have J15 := J14.dw D14 w15 nd
        have s15 := only2 s14 w15
        have eu15 := w15.k _ _ nd.1 eu14
        have ow15 : OwnAt (KX w.params) H15 ts po := ow14.tt (w15.tt D14) fun o e => w15.k _ _ npd e
        refine ite2 (fun _ => ?_) fun _ => ⟨ps, _, J15, s15, _, _, _, _, _, _, _, _, _, rfl⟩
        have dg15 : DGet H15 u (.int hd) (some (.ref po)) := by
          have := DGet.k (k := .inl hd) eu15
          rw [valV_put, if_pos rfl] at this
          exact this
        refine ⟨_, rfl, _, rfl, _, rfl, _, rfl, u, .ref po, rfl, dg15, pt, ps, po, ts, i, rfl, J15.th, ok, J10.st.tups (T.trans (w15.tt D14)).t, by omega, ow15, ?_⟩
        rintro p' H16 k16 ow16 _ st16
        have T16 : Tt (KX w.params) H15 H16 := KeptL.tt k16 fun c hc => by rw [List.mem_singleton.mp hc]; exact ow15.mutAt
        have J16 := J15.tt T16 [po] k16 ⟨by simp [Ne.symm npu], by simp [Ne.symm npl], by simp [Ne.symm nph]⟩ fun p hp _ => by rw [List.mem_singleton.mp hp]; exact ow16
        exact ⟨p', _, ⟨J16.th, st16, J16.uw, J16.ev, J16.hn, J16.ln, J16.wf⟩, same_keptD s15 k16 (fun c hc => by rw [List.mem_singleton.mp hc]; exact fpo), _, _, _, _, _, _, _, _, _, rfl⟩
    · rintro σ H3 ⟨ps, es, J, s3, x3, x10, x11, x12, x13, x14, x15, x16, x17, rfl⟩
      obtain ⟨ys, el3, ev3⟩ := J.ev
      refine ⟨_, rfl, _, rfl, l, ys, rfl, .inl ⟨SqL.of el3, fun te hte => ⟨(show (2 : Nat) ≤ sizeLine by decide), fun t ht => ?_⟩⟩⟩
      have sE := Same.upd (o := .tup ys) hte
      have sF := sE.trans (Same.upd (o := .tup [.ref pt, .ref te]) ht)
      exact q t pt te ys es ts _ (s3.trans sF) upd_same ((Same.upd ht) _ _ upd_same) (J.th.tt (.of (K := KX w.params) sF)) ok nok (forall2_mono (fun _ _ z => EvQ.tups (.of sF) z) ev3) (Nat.le_trans J.ln tn) J.wf
end
end K64
namespace K64
open PySem PySem.Spec PyProof.Rows TJ L2
section
variable {P : Program} {w : World} {mg : Str → Option Value} {base : Heap}
theorem eqv_same {d : PyData} (h : plainP d = true) : d.eqv d = true := (eqv_iff d d h h).mpr rfl
def numsD (is : List Nat) : List PyData := is.map fun i => .int (i : Nat)
theorem nums_pds {K : PySem.W.Frag} {H : Hp} : ∀ is : List Nat, IsPds K H (numsD is) (is.map fun i => V.int (i : Nat))
  | [] => rfl
  | _ :: r => ⟨_, _, rfl, rfl, nums_pds r⟩
theorem nums_plain : ∀ is : List Nat, plainPs (numsD is) = true
  | [] => rfl
  | i :: r => by show (plainP (.int (i : Nat)) && plainPs (numsD r)) = true; rw [nums_plain r]; rfl
theorem nums_depth : ∀ is : List Nat, PyData.depthAll (numsD is) ≤ 1
  | [] => Nat.zero_le _
  | i :: r => by show max (PyData.int (i : Nat)).depth (PyData.depthAll (numsD r)) ≤ 1; exact Nat.max_le.mpr ⟨by show (0 : Nat) ≤ 1; decide, nums_depth r⟩
def pickD (ds : List PyData) (is : List Nat) : List PyData := is.filterMap fun i => ds[i]?
theorem pds_get {K : PySem.W.Frag} {H : Hp} : ∀ {ds : List PyData} {xs : List V} (i : Nat), IsPds K H ds xs → (ds[i]? = none ∧ xs[i]? = none) ∨ ∃ d v, ds[i]? = some d ∧ xs[i]? = some v ∧ IsPd K H d v
  | [], _, _, h => by have : _ = [] := h; subst this; exact .inl ⟨rfl, rfl⟩
  | _ :: _, _, 0, h => by obtain ⟨v, r, rfl, a, _⟩ := h; exact .inr ⟨_, _, rfl, rfl, a⟩
  | _ :: _, _, i + 1, h => by obtain ⟨v, r, rfl, _, b⟩ := h; exact pds_get i b
theorem pds_pick {K : PySem.W.Frag} {H : Hp} {ds : List PyData} {xs : List V} (h : IsPds K H ds xs) : ∀ is : List Nat, IsPds K H (pickD ds is) (is.filterMap fun i => xs[i]?)
  | [] => rfl
  | i :: r => by
    unfold pickD
    rcases pds_get i h with ⟨a, b⟩ | ⟨d, v, a, b, c⟩
    · rw [List.filterMap_cons_none a, List.filterMap_cons_none b]; exact pds_pick h r
    · rw [List.filterMap_cons_some a, List.filterMap_cons_some b]; exact ⟨_, _, rfl, c, pds_pick h r⟩
theorem plain_mem : ∀ {ds : List PyData}, plainPs ds = true ↔ ∀ d ∈ ds, plainP d = true
  | [] => ⟨fun _ _ z => absurd z List.not_mem_nil, fun _ => rfl⟩
  | d :: r => by
    show (plainP d && plainPs r) = true ↔ _
    rw [Bool.and_eq_true, plain_mem (ds := r), List.forall_mem_cons]
theorem depth_mem {n : Nat} : ∀ {ds : List PyData}, PyData.depthAll ds ≤ n ↔ ∀ d ∈ ds, d.depth ≤ n
  | [] => ⟨fun _ _ z => absurd z List.not_mem_nil, fun _ => Nat.zero_le _⟩
  | d :: r => by
    show max d.depth (PyData.depthAll r) ≤ n ↔ _
    rw [Nat.max_le, depth_mem (ds := r), List.forall_mem_cons]
theorem pick_mem {ds : List PyData} {is : List Nat} {d : PyData} (h : d ∈ pickD ds is) : d ∈ ds := by
  obtain ⟨i, _, e⟩ := List.mem_filterMap.mp h
  exact List.mem_of_getElem? e
theorem test_op {r : R2} {ta tb : TE} {σ : L2.St} {H : Hp} {Q : Bool → Hp → Prop} (h : ta σ H fun x H1 => tb σ H1 fun y H2 => r x y H2 fun z H3 => ∃ k, z = .bl k ∧ Q k H3) : tTest (tOp r ta tb) σ H Q := h
theorem key_one : ∀ {ts : List (Str × Str)} {n k k' : Str}, (ts.map (·.1)).Nodup → (n, k) ∈ ts → (n, k') ∈ ts → k = k'
  | [], _, _, _, _, h, _ => absurd h List.not_mem_nil
  | p :: r, n, k, k', nd, h, h' => by
    rw [List.map_cons, List.nodup_cons] at nd
    rcases List.mem_cons.mp h with e | e <;> rcases List.mem_cons.mp h' with e' | e'
    · have := e.trans e'.symm
      injection this
    · exact absurd (List.mem_map.mpr ⟨_, e', by rw [← e]⟩) nd.1
    · exact absurd (List.mem_map.mpr ⟨_, e, by rw [← e']⟩) nd.1
    · exact key_one nd.2 e e'
def ownD (nm k : Str) (ds : List PyData) (is : List Nat) : PyData := .tuple [.tuple [.tuple [.str nm, .str k]], .tuple (pickD ds is)]
theorem own_plain {nm k : Str} {ds : List PyData} {is : List Nat} (a : PyData.strOk nm = true) (b : PyData.strOk k = true) (c : plainPs ds = true) : plainP (ownD nm k ds is) = true := by
  have hp : plainPs (pickD ds is) = true := plain_mem.mpr fun d hd => plain_mem.mp c d (pick_mem hd)
  show (((PyData.strOk nm && (PyData.strOk k && true)) && true) && (plainPs (pickD ds is) && true)) = true
  rw [a, b, hp]
  rfl
theorem own_depth {nm k : Str} {ds : List PyData} {is : List Nat} (c : PyData.depthAll ds ≤ 3) : (ownD nm k ds is).depth ≤ 60 := by
  have hp : PyData.depthAll (pickD ds is) ≤ 3 := depth_mem.mpr fun d hd => depth_mem.mp c d (pick_mem hd)
  show max 2 (max (PyData.depthAll (pickD ds is) + 1) 0) + 1 ≤ 60
  omega
theorem own_pd {K : PySem.W.Frag} {H : Hp} {nm k : Str} {ds : List PyData} {ys : List V} {is : List Nat} {p a b c : Addr} (h : IsPds K H ds ys) (ep : H p = some (.tup [.ref a, .ref b])) (ea : H a = some (.tup [.ref c])) (ec : H c = some (.tup [.str nm, .str k])) (eb : H b = some (.tup (is.filterMap fun i => ys[i]?))) : IsPd K H (ownD nm k ds is) (.ref p) :=
  ⟨p, _, rfl, SqT.of ep, _, _, rfl, ⟨a, _, rfl, SqT.of ea, _, _, rfl, ⟨c, _, rfl, SqT.of ec, _, _, rfl, rfl, _, _, rfl, rfl, rfl⟩, rfl⟩, _, _, rfl, ⟨b, _, rfl, SqT.of eb, pds_pick h is⟩, rfl⟩
def sp__law_told (K : PySem.W.Frag) : Sp := fun vs H Q _ => ∃ (t pt te : Addr) (ts : List (Str × Str)) (es : List Ev) (ys : List V) (nm k : Str) (ds : List PyData), vs = [.ref t, .str nm] ∧ TalA K H t pt te ts es ys ∧ EWf [] es ∧ (ts.map (·.1)).Nodup ∧ (nm, k) ∈ ts ∧ PyData.strOk nm = true ∧ PyData.strOk k = true ∧ IsPds K H ds ys ∧ plainPs ds = true ∧ PyData.depthAll ds ≤ 3 ∧ ∀ H', Same H H' → Q (.bl true) H'
theorem ok__law_told (T : TX (KX w.params) mg) (c__law_deeds : Cal P w (KX w.params) mg base "_law_deeds" ["tale"] 1 (sp__law_deeds (KX w.params))) (c_numbers_of : CalE P w (KX w.params) mg base "numbers_of" ["tale", "name"] 2 (sp_numbers_of (KX w.params))) (c_part : CalE P w (KX w.params) mg base "part" ["tale", "name"] 2 (sp_part (KX w.params))) (c__law_part : Cal P w (KX w.params) mg base "_law_part" ["tale", "name"] 1 (sp__law_part (KX w.params))) : FnOk P w (KX w.params) mg base CX0 3 286 fd__law_told ["tale", "name"] (sp__law_told (KX w.params)) := by
  refine (F__law_told w.params).ok sc__law_told (fun vs H Q E h => ?_) (fun cdv A outer s H vs Q E hr h => ?_)
  · obtain ⟨t, pt, te, ts, es, ys, nm, k, ds, rfl, _⟩ := h
    rfl
  · obtain ⟨t, pt, te, ts, es, ys, nm, k, ds, rfl, ta, wf, nd, hk, ok, kok, dp, dpl, dd, q⟩ := h
    refine ⟨_, (pss_cons (ps_set (i := 2) sc__law_told.nd rfl (by first | exact Or.inl rfl | exact Or.inr rfl) (pe_cal c__law_deeds (hr.mono (by first | decide | omega)) rfl (pa_cons (pv 0) pa_nil)))
      (pss_cons (ps_setG (i := 3) sc__law_told.nd rfl (by first | exact Or.inl rfl | exact Or.inr rfl) (xs := ["number"]) (g := gName 0) (fr := [(1, "name"), (2, "some")]) rfl (pi_range1 rfl (T.no (n_range _)) (pa_cons (pe_callB callLen rfl (T.no (n_len _)) boot_len (pa_cons (pv 2) pa_nil)) pa_nil)) (by intro p hp; simp only [List.mem_cons, List.not_mem_nil, or_false] at hp; rcases hp with rfl | rfl <;> first | exact ⟨rfl, .inl rfl⟩ | exact ⟨rfl, .inr rfl⟩) (free_in (ns := ["name", "some"]) (by decide +kernel) (by intro n hn k; simp only [List.mem_cons, List.not_mem_nil, or_false] at hn; rcases hn with rfl | rfl <;> first | exact .inl rfl | exact .inr rfl)) (by intro p hp; simp only [List.mem_cons, List.not_mem_nil, or_false] at hp; rcases hp with rfl | rfl <;> exact ⟨by decide +kernel, by first | exact .inl rfl | exact .inr rfl⟩) (by decide +kernel) rfl (by decide +kernel) (fun _ _ _ _ _ => (pg_cname (N := ["number", "name", "some"]) 0 (by decide +kernel) rfl rfl)) (fun _ _ _ _ _ => (pf_one (pt_cmpR opEq (pe_ix (ix_seqK (K := KX w.params) rfl) (pe_ix (ix_seqK (K := KX w.params) rfl) (pv 2) (pv 0) (fun _ _ => rfl)) pe_int (fun _ _ => rfl)) (pv 1) (nomark _)))) (fun _ _ _ _ _ => (pv 0)))
      (pss_cons (ps_set (i := 4) sc__law_told.nd rfl (by first | exact Or.inl rfl | exact Or.inr rfl) (pe_calN c_numbers_of (hr.mono (by first | decide | omega)) rfl (pa_cons (pv 0) (pa_cons (pv 1) pa_nil))))
      (pss_cons (ps_if (PW.pt (pw_or (pt_not (pt_val (pe_callB call_isinst rfl (T.no (n_isinstance _)) boot_isinstance (pa_cons (pv 4) (pa_cons (pe_bltn (v := .ty "list") rfl (T.no (n_list _)) boot_list rfl) pa_nil))) (fun _ => rfl))) (pw_or (pt_cmpR (op_neP hr) (pv 4) (pv 3) (nomark _)) (pw_or1 (pt_cmpR (op_neP hr) (pe_compG (xs := ["one"]) (g := gName 0) (fr := []) rfl (pi_list (pv 4)) (fun _ z => absurd z List.not_mem_nil) (free_none rfl) (fun _ z => absurd z List.not_mem_nil) (by decide +kernel) rfl (by decide +kernel) (fun _ _ _ _ _ => (pg_cname (N := ["one"]) 0 (by decide +kernel) rfl rfl)) (fun _ _ _ _ _ => (pf_one (pt_val (pe_callB call_isinst rfl (T.no (n_isinstance _)) boot_isinstance (pa_cons (pv 0) (pa_cons (pe_bltn (v := .ty "bool") rfl (T.no (n_bool _)) boot_bool rfl) pa_nil))) (fun _ => rfl)))) (fun _ _ _ _ _ => (pv 0))) (pe_lst pa_nil) (nomark _))))))
      (pss_one (ps_ret pe_bl))
      pss_nil)
      (pss_cons (ps_expr (pe_append (pv 4) (pa_cons pe_int pa_nil)))
      (pss_cons (ps_set (i := 5) sc__law_told.nd rfl (by first | exact Or.inl rfl | exact Or.inr rfl) (pe_calN c_part (hr.mono (by first | decide | omega)) rfl (pa_cons (pv 0) (pa_cons (pv 1) pa_nil))))
      (pss_cons (ps_if (PW.pt (pw_or (pt_not (pt_val (pe_callB call_isinst rfl (T.no (n_isinstance _)) boot_isinstance (pa_cons (pv 5) (pa_cons (pe_bltn (v := .ty "tuple") rfl (T.no (n_tuple _)) boot_tuple rfl) pa_nil))) (fun _ => rfl))) (pw_or (pt_not (pt_val (pe_callB call_isinst rfl (T.no (n_isinstance _)) boot_isinstance (pa_cons (pe_ix ix_seq (pv 5) pe_int (fun _ _ => rfl)) (pa_cons (pe_bltn (v := .ty "tuple") rfl (T.no (n_tuple _)) boot_tuple rfl) pa_nil))) (fun _ => rfl))) (pw_or1 (pt_not (pt_val (pe_callB call_isinst rfl (T.no (n_isinstance _)) boot_isinstance (pa_cons (pe_ix ix_seq (pv 5) pe_int (fun _ _ => rfl)) (pa_cons (pe_bltn (v := .ty "tuple") rfl (T.no (n_tuple _)) boot_tuple rfl) pa_nil))) (fun _ => rfl)))))))
      (pss_one (ps_ret pe_bl))
      pss_nil)
      (pss_one (ps_ret (pe_and (pe_cmpR (op_eqP hr) (pv 5) (pe_cal c__law_part (hr.mono (by first | decide | omega)) rfl (pa_cons (pv 0) (pa_cons (pv 1) pa_nil))) (nomark _)) (pe_one (pe_cmpR (op_eqP hr) (pe_calN c_numbers_of (hr.mono (by first | decide | omega)) rfl (pa_cons (pv 0) (pa_cons (pv 1) pa_nil))) (pv 3) (nomark _))))))))))))), ?_⟩
    have nms := dAll_names (i := 0) (rs := []) (fun _ z => absurd z List.not_mem_nil) ta.nm
    have len := dAll_le ta.ln
    refine ⟨_, rfl, t, pt, te, ts, es, ys, rfl, ta, fun l zs H1 s1 el al => ?_⟩
    have zl := forall2_len al
    refine g_name (t_nx (seq_asg ?_))
    refine tcompR_rng (S := Same) (n := zs.length) (fun j => isN nm (dAll 0 [] es) j) (fun j y _ => y = .int (j : Nat)) (Same.refl _) (fun _ _ _ a b => a.trans b) (fun _ _ => Same.refl _) (fun _ _ _ _ _ z => z) (fun R h => ⟨_, rfl, .inl ⟨l, zs, rfl, .inl (SqL.of el), h⟩⟩) (by rw [zl]; exact Nat.le_trans len (by decide)) (fun j hj H2 s2 KT KF h1 h2 => ?_) fun l3 H3 us s3 hl3 fa => ?_
    · refine ⟨[some (.int (j : Nat))], rfl, rfl, ?_⟩
      have hz : zs[j]? = some zs[j] := List.getElem?_eq_getElem hj
      obtain ⟨r, hr1, px, epx, sx⟩ := all2_get al hz
      have hn := nms r (List.mem_of_getElem? hr1)
      have isn : isN nm (dAll 0 [] es) j = decide (nmS r.n = nm) := by unfold isN; rw [hr1]
      rw [isn] at h1 h2
      refine ⟨_, rfl, _, rfl, .inl ⟨l, _, j, .ref px, rfl, rfl, SqL.of (s2 _ _ el), atI_nat (by rw [hz, epx]), .inl ⟨px, _, 1, .str (nmS r.n), rfl, rfl, SqL.of (s2 _ _ sx), atI_nat (j := 1) (by rw [← hn]; rfl), _, rfl, rfl, _, rfl, ?_⟩⟩⟩
      by_cases z : nmS r.n = nm
      · exact iteP (decide_eq_true (by rw [z])) ⟨_, rfl, h1 (decide_eq_true z) _ _ (Same.refl _) rfl⟩
      · exact iteN (fun e => z (by have := of_decide_eq_true e; injection this)) (h2 (decide_eq_false z) _ (Same.refl _))
    · have eu := all2_ints fa
      rw [zl] at eu
      have s4 := Same.upd (o := .lst us) hl3
      have e4 : upd H3 l3 (.lst us) l3 = some (.lst us) := upd_same
      generalize upd H3 l3 (.lst us) = H4 at s4 e4 ⊢
      have s14 := (s1.trans s3).trans s4
      subst eu
      generalize hI : (List.range (dAll 0 [] es).length).filter (isN nm (dAll 0 [] es)) = is at e4 ⊢
      have isl : is.length ≤ 100 := by rw [← hI]; exact Nat.le_trans (List.length_filter_le _ _) (by rw [List.length_range]; exact len)
      have mem : nm ∈ ts.map (·.1) := List.mem_map.mpr ⟨_, hk, rfl⟩
      have npd : ∀ {H' : Hp} {a : Addr}, H' a = some (.lst (is.map fun i => V.int (i : Nat))) → IsPd (KX w.params) H' (.list (numsD is)) (.ref a) := fun e => ⟨_, _, rfl, SqL.of e, nums_pds is⟩
      have ndp : (PyData.list (numsD is)).depth ≤ 60 := Nat.le_trans (Nat.add_le_add_right (nums_depth is) 1) (by decide)
      refine g_name ?_
      refine ⟨_, rfl, _, rfl, t, pt, te, ts, es, ys, nm, rfl, ta.same s14, .inl ⟨mem, fun l5 H5 s5 hl5 e5 => ?_⟩⟩
      have e5' : H5 l5 = some (.lst (is.map fun i => V.int (i : Nat))) := by rw [← hI]; exact e5
      clear e5
      have e45 := s5 _ _ e4
      refine ⟨_, rfl, _, _, "list", rfl, .inl ⟨⟨_, e5'⟩, rfl⟩, by decide, _, rfl, iteN (by decide) ?_⟩
      refine ⟨_, rfl, _, rfl, .list (numsD is), .list (numsD is), npd e5', npd e45, nums_plain is, nums_plain is, ndp, _, rfl, iteN (by rw [eqv_same (d := .list (numsD is)) (nums_plain is)]; decide) ?_⟩
      refine test_op ?_
      refine tcompG_list (K := KX w.params) (a := l5) (xs := is.map fun i => V.int (i : Nat)) (fun _ => false) (fun v => v) (fun R h => ⟨_, rfl, h⟩) (SqL.of e5') (by rw [List.length_map]; exact Nat.le_trans isl (by decide)) (fun v hv H6 s6 KT KF h1 h2 => ?_) fun l7 H7 s7 hl7 => ?_
      · obtain ⟨i, _, rfl⟩ := List.mem_map.mp hv
        exact ⟨[some (.int (i : Nat))], rfl, rfl, _, rfl, _, _, "int", rfl, rfl, by decide, _, rfl, iteN (by decide) (h2 rfl _ (Same.refl _))⟩
      have f0 : ((is.map fun i => V.int (i : Nat)).filter fun _ => false) = [] := List.filter_eq_nil_iff.mpr fun _ _ => Bool.false_ne_true
      rw [f0, List.map_nil]
      refine ⟨(show (0 : Nat) ≤ sizeLine by decide), fun l8 hl8 => ?_⟩
      have s8 := Same.upd (o := .lst []) hl8
      refine ⟨.list [], .list [], ⟨l7, [], rfl, SqL.of (s8 _ _ upd_same), rfl⟩, ⟨l8, [], rfl, SqL.of upd_same, rfl⟩, rfl, rfl, by decide, _, rfl, iteN (by decide) ?_⟩
      have s78 := (s7.trans (Same.upd (o := .lst []) hl7)).trans s8
      generalize upd (upd H7 l7 (.lst [])) l8 (.lst []) = H8 at s78 ⊢
      have e58 := s78 _ _ e5'
      refine ⟨_, rfl, .inl ⟨rfl, _, SqL.of e58⟩, ?_⟩
      refine ⟨l5, _, _, rfl, rfl, e58, (by rw [List.length_map]; exact Nat.lt_of_le_of_lt isl (by decide)), ?_⟩
      have s9 : Same H4 (upd H8 l5 (.lst ((is.map fun i => V.int (i : Nat)) ++ [.int 0]))) := Same.keep (s5.trans s78) hl5
      generalize upd H8 l5 (.lst ((is.map fun i => V.int (i : Nat)) ++ [.int 0])) = H9 at s9 ⊢
      have s19 := s14.trans s9
      refine ⟨_, rfl, _, rfl, t, pt, te, ts, es, ys, nm, rfl, ta.same s19, .inl ⟨mem, fun p a b c k' H10 s10 ep ea hk' ec eb => ?_⟩⟩
      obtain rfl := key_one nd hk hk'
      have s110 := s19.trans s10
      refine ⟨_, rfl, _, _, "tuple", rfl, .inr (.inl ⟨⟨_, ep⟩, rfl⟩), by decide, _, rfl, iteN (by decide) ?_⟩
      refine ⟨_, rfl, .inr (.inl ⟨p, _, 0, .ref a, rfl, rfl, SqT.of ep, atI_nat (j := 0) rfl, _, _, "tuple", rfl, .inr (.inl ⟨⟨_, ea⟩, rfl⟩), by decide, _, rfl, iteN (by decide) ?_⟩)⟩
      refine ⟨_, rfl, .inr (.inl ⟨p, _, 1, .ref b, rfl, rfl, SqT.of ep, atI_nat (j := 1) rfl, _, _, "tuple", rfl, .inr (.inl ⟨⟨_, eb⟩, rfl⟩), by decide, _, rfl, iteN (by decide) ?_⟩)⟩
      refine ⟨_, rfl, _, rfl, _, rfl, t, pt, te, ts, es, ys, nm, k, rfl, ta.same s110, wf, nd, hk, fun p2 a2 b2 c2 H11 s11 ep2 ea2 ec2 eb2 => ?_⟩
      have s111 := s110.trans s11
      have pl := own_plain (is := (List.range ys.length).filter (inP nm (dAll 0 [] es))) ok kok dpl
      refine ⟨_, _, own_pd (dp.same s111) (s11 _ _ ep) (s11 _ _ ea) (s11 _ _ ec) (s11 _ _ eb), own_pd (dp.same s111) ep2 ea2 ec2 eb2, pl, pl, own_depth dd, ?_⟩
      rw [eqv_same pl]
      refine ⟨_, rfl, iteT ⟨_, rfl, _, rfl, t, pt, te, ts, es, ys, nm, rfl, ta.same s111, .inl ⟨mem, fun l12 H12 s12 hl12 e12 => ?_⟩⟩⟩
      have e12' : H12 l12 = some (.lst (is.map fun i => V.int (i : Nat))) := by rw [← hI]; exact e12
      refine ⟨_, rfl, .list (numsD is), .list (numsD is), npd e12', npd (((s9.trans s10).trans (s11.trans s12)) _ _ e4), nums_plain is, nums_plain is, ndp, ?_⟩
      rw [eqv_same (d := .list (numsD is)) (nums_plain is)]
      exact q _ (s111.trans s12)
end
end K64
namespace K64
open PySem PySem.Spec PyProof.Rows TJ L2
section
variable {P : Program} {w : World} {mg : Str → Option Value} {base : Heap}
theorem pe_extendL {X : Cx} {o e : Expr} {es : List Expr} {to : TE} {t : TA} {apos cpos : Pos} (ho : PE X o to) (ha : PA X (e :: es) t)
    (hbase : attributeBase o "extend" X.env (eval o X.env) = eval o X.env := by rfl)
    (hfew : ((backTo cpos (starEach (e :: es) X.env)).all (fun x => !x.1) && (backToKw cpos (keywordEach [] X.env)).all (fun x => x.1.isSome) && decide ((e :: es).length + ([] : List Keyword).length + (if ([] : List Keyword).isEmpty then 0 else 1) < 30)) = true := by rfl)
    (hline : (apos.endLine == cpos.line) = true := by rfl) (hs : starEach (e :: es) X.env = (false, eval e X.env) :: starEach es X.env := by rfl) (hplain : (backTo cpos (starEach es X.env)).any (·.1) = false := by rfl) :
    PE X (.Call (.Attribute o "extend" apos) (e :: es) [] cpos) (tBM X.K "list" rExtend to t) := pe_bm PySem.F.plainAttrs_list PySem.F.slot_list_extend PySem.F.type_list_extend mt_extend ho ha hbase hfew hline hs hplain
theorem kind_ok : ∀ k ∈ kinds5, PyData.strOk k = true := by decide +kernel
theorem ev_pds {K : PySem.W.Frag} {ts : List (Str × Str)} {H : Hp} : ∀ {es : List Ev} {ys : List V}, All2 (EvQ K ts H) es ys → ∃ ds, IsPds K H ds ys ∧ plainPs ds = true ∧ PyData.depthAll ds ≤ 3
  | _, _, .nil => ⟨[], rfl, rfl, Nat.zero_le _⟩
  | _, _, .cons a r => by
    obtain ⟨ds, h1, h2, h3⟩ := ev_pds r
    obtain ⟨p, r', d, rfl, _, hd, hp, hdd⟩ := a.w
    refine ⟨toPd d :: ds, ⟨_, _, rfl, pd_of_dt d _ hd, h1⟩, ?_, ?_⟩
    · show (plainP (toPd d) && plainPs ds) = true
      rw [hp, h2]
      rfl
    · show max (toPd d).depth (PyData.depthAll ds) ≤ 3
      exact Nat.max_le.mpr ⟨hdd, h3⟩
theorem evs_of {K : PySem.W.Frag} {ts : List (Str × Str)} {H : Hp} : ∀ {es : List Ev} {ys : List V}, All2 (EvQ K ts H) es ys → ∀ e ∈ es, EvS e
  | _, _, .nil, _, h => absurd h List.not_mem_nil
  | _, _, .cons a r, e, h => by
    rcases List.mem_cons.mp h with rfl | z
    · have := a.n
      cases e with
      | beg h n v x => obtain ⟨nm, vb, k, d, rfl, _⟩ := this; exact rfl
      | fin h a => trivial
    · exact evs_of r e z
theorem inV_strs (z : Str) : ∀ ns : List Str, inV (.str z) (ns.map V.str) = decide (z ∈ ns)
  | [] => by rw [decide_eq_false List.not_mem_nil]; rfl
  | n :: r => by
    show ((n == z) || inV (.str z) (r.map V.str)) = _
    rw [inV_strs z r]
    by_cases e : n = z
    · rw [beq_iff_eq.mpr e, Bool.true_or, decide_eq_true (List.mem_cons.mpr (.inl e.symm))]
    · rw [Bool.eq_false_iff.mpr (fun h => e (beq_iff_eq.mp h)), Bool.false_or]
      by_cases m : z ∈ r
      · rw [decide_eq_true m, decide_eq_true (List.mem_cons.mpr (.inr m))]
      · rw [decide_eq_false m, decide_eq_false (fun h => (List.mem_cons.mp h).elim (fun y => e y.symm) m)]
theorem strs_flat : ∀ ns : List Str, (ns.map V.str).all flatV = true
  | [] => rfl
  | _ :: r => by show (true && (r.map V.str).all flatV) = true; rw [strs_flat r]; rfl
def dueV (b : Bool) : List V := if b = true then [] else [.bl true, .bl true, .bl false]
def dueD (b : Bool) : PyData := .list (if b = true then [] else [.bool true, .bool true, .bool false])
theorem due_pd {K : PySem.W.Frag} {H : Hp} {a : Addr} : ∀ {b : Bool}, H a = some (.lst (dueV b)) → IsPd K H (dueD b) (.ref a)
  | true, e => ⟨a, [], rfl, SqL.of e, rfl⟩
  | false, e => ⟨a, _, rfl, SqL.of e, ⟨_, _, rfl, rfl, _, _, rfl, rfl, _, _, rfl, rfl, rfl⟩⟩
theorem due_lay : ∀ b, (dueD b).canLay0 = true := by decide
theorem due_depth : ∀ b, (dueD b).depth ≤ 60 := by decide
theorem due_eqv : ∀ b, (dueD b).eqv (dueD b) = true := by decide
theorem due_or {H : Hp} {l : Addr} {z : Str} {ns : List Str} (h : (z ∈ ns ∧ H l = some (.lst [])) ∨ (z ∉ ns ∧ H l = some (.lst [.bl true, .bl true, .bl false]))) : H l = some (.lst (dueV (decide (z ∈ ns)))) := by
  rcases h with ⟨a, b⟩ | ⟨a, b⟩
  · rw [decide_eq_true a]; exact b
  · rw [decide_eq_false a]; exact b
def sp_law (K : PySem.W.Frag) : Sp := fun vs H Q _ => ∃ (a : Addr) (ns : List Int), vs = [.ref a] ∧ SqL K H a (ns.map V.int) ∧ ns.length ≤ 63 ∧ ∀ H', Q (.bl true) H'
theorem ok_law (T : TX (KX w.params) mg) (c__law_tale : Cal P w (KX w.params) mg base "_law_tale" ["script", "most"] 4 (sp__law_tale (KX w.params))) (c__law_told : Cal P w (KX w.params) mg base "_law_told" ["tale", "name"] 3 (sp__law_told (KX w.params))) (c__law_caught : Cal P w (KX w.params) mg base "_law_caught" ["turn", "tale", "name"] 3 (sp__law_caught (KX w.params))) : FnOk P w (KX w.params) mg base CX0 5 291 fd_law ["script"] (sp_law (KX w.params)) := by
  refine (F_law w.params).ok sc_law (fun vs H Q E h => ?_) (fun cdv A outer s H vs Q E hr h => ?_)
  · obtain ⟨sc, ns, rfl, _⟩ := h
    rfl
  · obtain ⟨sc, ns, rfl, sq, hn, q⟩ := h
    refine q_of (qss_cons (QS.mk (ps_set (i := 1) sc_law.nd rfl (by first | exact Or.inl rfl | exact Or.inr rfl) (pe_cal c__law_tale (hr.mono (by first | decide | omega)) rfl (pa_cons (pv 0) (pa_cons pe_int pa_nil)))))
      (qss_cons (qs_set (i := 2) sc_law.nd rfl (by first | exact Or.inl rfl | exact Or.inr rfl) (qe_lst (qa_strs [(_, _, _), (_, _, _), (_, _, _), (_, _, _), (_, _, _), (_, _, _), (_, _, _), (_, _, _), (_, _, _), (_, _, _), (_, _, _), (_, _, _), (_, _, _)])))
      (qss_cons (QS.mk (ps_for PassesOwn.never rfl (pi_tup (pe_ix ix_seq (pv 1) pe_int (fun _ _ => rfl))) (pg_tup rfl (pgs_cons (pg_name (i := 3) sc_law.nd rfl (by first | exact Or.inl rfl | exact Or.inr rfl)) (pgs_cons (pg_name (i := 4) sc_law.nd rfl (by first | exact Or.inl rfl | exact Or.inr rfl)) pgs_nil)))
      (pss_cons (ps_if (pt_not (pt_val (pe_cal c__law_told (hr.mono (by first | decide | omega)) rfl (pa_cons (pv 1) (pa_cons (pv 3) pa_nil))) (fun _ => rfl)))
      (pss_one (ps_ret pe_bl))
      pss_nil)
      (pss_one (ps_expr (pe_extendL (pv 2) (pa_cons (pe_lst (pa_cons (pe_op opAdd (pv 3) pe_str) (pa_cons (pe_slice slSeq (pv 3) (po_some pe_int) po_none) (pa_cons (pe_op opAdd (pv 3) (pv 3)) pa_nil)))) pa_nil)))))))
      (qss_cons (QS.mk (ps_setG (i := 5) sc_law.nd rfl (by first | exact Or.inl rfl | exact Or.inr rfl) (xs := ["name", "kind"]) (g := gTup (KX w.params) 2 (gCons (gName 0) (gCons (gName 1) gNil))) (fr := []) rfl (pi_tup (pe_ix ix_seq (pv 1) pe_int (fun _ _ => rfl))) (fun _ z => absurd z List.not_mem_nil) (free_none rfl) (fun _ z => absurd z List.not_mem_nil) (by decide +kernel) rfl (by decide +kernel) (fun _ _ _ _ _ => (pg_tup rfl (pgs_cons (pg_cname (N := ["name", "kind"]) 0 (by decide +kernel) rfl rfl) (pgs_cons (pg_cname (N := ["name", "kind"]) 1 (by decide +kernel) rfl rfl) pgs_nil)))) (fun _ _ _ _ _ => pf_nil) (fun _ _ _ _ _ => (pv 0))))
      (qss_cons (qs_for PassesOwn.never rfl (pi_list (pv 2)) (pg_name (i := 6) sc_law.nd rfl (by first | exact Or.inl rfl | exact Or.inr rfl))
      (qss_cons (qs_set (i := 7) sc_law.nd rfl (by first | exact Or.inl rfl | exact Or.inr rfl) (qe_lst (qa_cons (QE.mk pe_bl) (qa_cons (QE.mk pe_bl) (qa_cons (QE.mk pe_bl) qa_nil)))))
      (qss_cons (QS.mk (ps_if (pt_cmpR (op_in_seqK (K := KX w.params) rfl) (pv 6) (pv 5) (by with_unfolding_all rfl))
      (pss_one (ps_set (i := 7) sc_law.nd rfl (by first | exact Or.inl rfl | exact Or.inr rfl) (pe_lst pa_nil)))
      pss_nil))
      (qss_one (QS.mk (ps_if (PW.pt (pw_or (pt_cmpR (op_neC hr) (pe_cal c__law_caught (hr.mono (by first | decide | omega)) rfl (pa_cons pe_int (pa_cons (pv 1) (pa_cons (pv 6) pa_nil)))) (pv 7) (nomark _)) (pw_or1 (pt_cmpR (op_neC hr) (pe_cal c__law_caught (hr.mono (by first | decide | omega)) rfl (pa_cons pe_int (pa_cons (pv 1) (pa_cons (pv 6) pa_nil)))) (pv 7) (nomark _)))))
      (pss_one (ps_ret pe_bl))
      pss_nil))))))
      (qss_cons (qs_set (i := 8) sc_law.nd rfl (by first | exact Or.inl rfl | exact Or.inr rfl) (qe_tup (qa_cons (QE.mk (pe_tup pa_nil)) (qa_cons (QE.mk (pe_tup pa_nil)) qa_nil))))
      (qss_one (QS.mk (ps_ret (pe_and (pe_cmpR (op_eqC hr) (pe_cal c__law_caught (hr.mono (by first | decide | omega)) rfl (pa_cons pe_int (pa_cons (pv 8) (pa_cons pe_str pa_nil)))) (pe_lst (pa_cons pe_bl (pa_cons pe_bl (pa_cons pe_bl pa_nil)))) (nomark _)) (pe_one (pe_cmpR (op_eqC hr) (pe_cal c__law_caught (hr.mono (by first | decide | omega)) rfl (pa_cons pe_int (pa_cons (pv 8) (pa_cons pe_str pa_nil)))) (pe_lst (pa_cons pe_bl (pa_cons pe_bl (pa_cons pe_bl pa_nil)))) (nomark _))))))))))))) ?_
    refine seq_asg ?_
    refine ⟨_, rfl, sc, ns, 8, rfl, by decide, by decide, sq, hn, fun t pt te ys es ts H1 s1 et ete th ok nok ev hw wf => ?_⟩
    refine g_name ?_
    obtain ⟨ds, dp, dpl, dd⟩ := ev_pds ev
    have ta : TalA (KX w.params) H1 t pt te ts es ys := ⟨SqT.of et, th, ok.n6, SqT.of ete, forall2_mono (fun _ _ z => z.a) ev, Nat.le_trans hw (by decide), (DInv.nil.all wf).1, evs_of ev⟩
    obtain ⟨yt, eyt, alt⟩ := th
    have lyt : yt.length = ts.length := forall2_len alt
    refine seq_asg ?_
    refine ⟨(show (13 : Nat) ≤ sizeLine by decide), fun lw hlw => ?_⟩
    refine g_name ?_
    generalize hw0 : List.map (fun x : Str × Nat × Pos => x.fst) _ = ws0
    have lw0 : ws0.length = 13 := by rw [← hw0]; rfl
    have s2 := Same.upd (o := .lst (ws0.map V.str)) hlw
    have e2 : upd H1 lw (.lst (ws0.map V.str)) lw = some (.lst (ws0.map V.str)) := upd_same
    generalize upd H1 lw (.lst (ws0.map V.str)) = H2 at s2 e2 ⊢
    refine ⟨_, rfl, .inr (.inl ⟨t, _, 0, .ref pt, rfl, rfl, SqT.of (s2 _ _ et), atI_nat (j := 0) rfl, pt, rfl, ⟨_, SqT.of (s2 _ _ eyt)⟩, ?_⟩)⟩
    refine for_tup (K := KX w.params) (a := pt) (xs := yt) (fun i σ H' => Same H1 H' ∧ (∃ ws : List Str, H' lw = some (.lst (ws.map V.str)) ∧ ws.length ≤ 13 + 3 * i) ∧ ∃ x3 x4, σ = [some (.ref sc), some (.ref t), some (.ref lw), x3, x4, none, none, none, none]) ⟨s2, ⟨ws0, e2, Nat.le_of_eq lw0⟩, _, _, rfl⟩ (fun _ σ H' _ h => SqT.of (h.1 _ _ eyt)) ?_ ?_
    · rintro i y σ H3 hy ⟨s3, ⟨ws, ew, lws⟩, x3, x4, rfl⟩
      obtain ⟨tt, ht, b, rfl, eb⟩ := all2_get alt hy
      have hi : i < ts.length := (List.getElem?_eq_some_iff.mp ht).1
      have hm := List.mem_of_getElem? ht
      have ln := (nok tt hm).2
      refine ⟨b, _, rfl, SqT.of (s3 _ _ eb), rfl, _, _, rfl, _, _, rfl, rfl, ?_⟩
      refine ⟨_, rfl, _, rfl, t, pt, te, ts, es, ys, tt.1, tt.2, ds, rfl, ta.same s3, wf, ok.nd, hm, (nok tt hm).1, kind_ok _ (ok.ks tt hm), dp.same s3, dpl, dd, fun H4 s4 => ⟨true, rfl, iteN (by decide) ?_⟩⟩
      have ew4 := s4 _ _ ew
      have s14 := s3.trans s4
      have b16 : (8 : Nat) + 8 ≤ sizeLine := by decide
      refine ⟨_, rfl, .inl ⟨rfl, _, SqL.of ew4⟩, ?_⟩
      refine ⟨_, rfl, .inr (.inl ⟨tt.1, "a", rfl, rfl, Nat.le_trans (Nat.add_le_add ln (show ("a" : Str).length ≤ 8 by decide +kernel)) b16, ?_⟩)⟩
      refine ⟨_, rfl, 1, rfl, .inr (.inr ⟨tt.1, rfl, Nat.le_trans ln (by decide), ?_⟩)⟩
      refine ⟨_, rfl, _, rfl, .inr (.inl ⟨tt.1, tt.1, rfl, rfl, Nat.le_trans (Nat.add_le_add ln ln) b16, ?_⟩)⟩
      refine ⟨(show (3 : Nat) ≤ sizeLine by decide), fun l5 hl5 => ?_⟩
      have s5 := Same.upd (o := .lst (([tt.1 ++ "a", Txt.slice tt.1 (some 1) none, tt.1 ++ tt.1] : List Str).map V.str)) hl5
      have e5 := upd_same (H := H4) (a := l5) (o := .lst (([tt.1 ++ "a", Txt.slice tt.1 (some 1) none, tt.1 ++ tt.1] : List Str).map V.str))
      have wl : ws.length + 3 ≤ 13 + 3 * (i + 1) := by omega
      have n6 := ok.n6
      refine ⟨lw, l5, ws.map V.str, ([tt.1 ++ "a", Txt.slice tt.1 (some 1) none, tt.1 ++ tt.1] : List Str).map V.str, rfl, rfl, s5 _ _ ew4, e5, ?_, ?_⟩
      · rw [List.length_map, List.length_map]
        exact Nat.le_trans (m := 100) (by show ws.length + 3 ≤ 100; omega) (by decide)
      · refine ⟨Same.keep (s14.trans s5) hlw, ⟨ws ++ [tt.1 ++ "a", Txt.slice tt.1 (some 1) none, tt.1 ++ tt.1], ?_, ?_⟩, _, _, rfl⟩
        · rw [List.map_append]; exact upd_same
        · rw [List.length_append]; exact wl
    · rintro σ H3 ⟨s3, ⟨ws, ew, lws⟩, x3, x4, rfl⟩
      refine t_nx (seq_asg ?_)
      refine tcompR_tup (S := Same) (K := KX w.params) (a := pt) (xs := yt) (H1 := H3) (fun x y H => ∃ (n k : Str) (b : Addr), x = .ref b ∧ H b = some (.tup [.str n, .str k]) ∧ y = .str n) (Same.refl _) (fun _ _ _ a b => a.trans b) (fun _ _ => Same.refl _) ?_ (fun R h => ⟨_, rfl, .inr (.inl ⟨t, _, 0, .ref pt, rfl, rfl, SqT.of (s3 _ _ et), atI_nat (j := 0) rfl, h⟩)⟩) (fun H' s' => s'.seqT (SqT.of (s3 _ _ eyt))) (Nat.le_trans (Nat.le_of_eq (forall2_len alt)) (Nat.le_trans ok.n6 (by decide))) ?_ ?_
      · rintro x y H3 H4 s4 ⟨n, k, b, e1, e2, e3⟩
        exact ⟨n, k, b, e1, s4 _ _ e2, e3⟩
      · intro v hv H4 s4 KT hKT KF
        obtain ⟨m, hm⟩ := List.mem_iff_getElem?.mp hv
        obtain ⟨t, ht, b, rfl, eb⟩ := all2_get alt hm
        have eb4 := s4 _ _ (s3 _ _ eb)
        exact ⟨b, _, rfl, SqT.of eb4, rfl, _, _, rfl, _, _, rfl, rfl, [some (.str t.1), some (.str t.2)], rfl, rfl, iteT ⟨_, rfl, hKT _ _ (Same.refl _) ⟨t.1, t.2, b, rfl, eb4, rfl⟩⟩⟩
      intro l4 H4 zs s4 hl4 al4
      have alt4 : All2 (fun (t : Str × Str) y => ∃ b, y = .ref b ∧ H4 b = some (.tup [.str t.1, .str t.2])) ts yt := forall2_mono (fun _ _ z => z.elim fun b y => ⟨b, y.1, (s3.trans s4) _ _ y.2⟩) alt
      have ez := all2_names alt4 al4
      subst ez
      have sl := Same.upd (o := .lst ((ts.map (·.1)).map V.str)) hl4
      have el : upd H4 l4 (.lst ((ts.map (·.1)).map V.str)) l4 = some (.lst ((ts.map (·.1)).map V.str)) := upd_same
      have s5 := s4.trans sl
      generalize upd H4 l4 (.lst ((ts.map (·.1)).map V.str)) = H5 at sl el s5 ⊢
      refine g_name ?_
      have ew5 := s5 _ _ ew
      have s15 := s3.trans s5
      refine ⟨_, rfl, lw, rfl, ⟨_, SqL.of ew5⟩, ?_⟩
      refine for_list (K := KX w.params) (a := lw) (xs := ws.map V.str) (fun i σ H' => Same H5 H' ∧ ∃ x6 x7, σ = [some (.ref sc), some (.ref t), some (.ref lw), x3, x4, some (.ref l4), x6, x7, none]) ⟨Same.refl _, _, _, rfl⟩ (fun _ σ H' _ h => SqL.of (h.1 _ _ ew5)) ?_ ?_
      · rintro i y σ H6 hy ⟨s6, x6, x7, rfl⟩
        obtain ⟨z, _, rfl⟩ := List.mem_map.mp (List.mem_of_getElem? hy)
        refine g_name ?_
        refine seq_asg ?_
        refine ⟨(show (3 : Nat) ≤ sizeLine by decide), fun l7 hl7 => ?_⟩
        refine g_name ?_
        have s7 := Same.upd (o := .lst [.bl true, .bl true, .bl false]) hl7
        have e7 : upd H6 l7 (.lst [.bl true, .bl true, .bl false]) l7 = some (.lst [.bl true, .bl true, .bl false]) := upd_same
        generalize upd H6 l7 (.lst [.bl true, .bl true, .bl false]) = H7 at s7 e7 ⊢
        have s57 := s6.trans s7
        refine seq_any (fun σ1 H8 => ∃ ld, Same H5 H8 ∧ H8 ld = some (.lst (dueV (decide (z ∈ ts.map (·.1))))) ∧ σ1 = [some (.ref sc), some (.ref t), some (.ref lw), x3, x4, some (.ref l4), some (.str z), some (.ref ld), none]) ?_ (fun tl => ?_)
        rotate_left
        · refine ⟨_, rfl, _, rfl, l4, _, rfl, .inl (SqL.of (s57 _ _ el)), rfl, strs_flat _, _, rfl, ?_⟩
          by_cases hz : z ∈ ts.map (·.1)
          · refine iteP (by show inV _ _ = true; rw [inV_strs]; exact decide_eq_true hz) ?_
            refine ⟨(show (0 : Nat) ≤ sizeLine by decide), fun l8 hl8 => ?_⟩
            exact tl _ _ ⟨l8, s57.trans (Same.upd hl8), by rw [decide_eq_true hz]; exact upd_same, rfl⟩
          · refine iteN (by show ¬ inV _ _ = true; rw [inV_strs, decide_eq_false hz]; decide) ?_
            exact tl _ _ ⟨l7, s57, by rw [decide_eq_false hz]; exact e7, rfl⟩
        rintro σ1 H8 ⟨ld, s8, e8, rfl⟩
        have s18 := s15.trans s8
        refine ⟨_, rfl, _, rfl, 0, t, pt, te, ts, es, ys, z, rfl, ta.same s18, fun l9 H9 s9 h9 => ?_⟩
        refine ⟨_, rfl, dueD _, dueD _, due_pd (due_or h9), due_pd (s9 _ _ e8), due_lay _, due_lay _, due_depth _, _, rfl, iteN (by rw [due_eqv]; decide) ?_⟩
        refine ⟨_, rfl, _, rfl, 1, t, pt, te, ts, es, ys, z, rfl, ta.same (s18.trans s9), fun l10 H10 s10 h10 => ?_⟩
        refine ⟨_, rfl, dueD _, dueD _, due_pd (due_or h10), due_pd (s10 _ _ (s9 _ _ e8)), due_lay _, due_lay _, due_depth _, _, rfl, iteN (by rw [due_eqv]; decide) ?_⟩
        exact ⟨(s8.trans s9).trans s10, _, _, rfl⟩
      · rintro σ H6 ⟨s6, x6, x7, rfl⟩
        refine ⟨(show (0 : Nat) ≤ sizeLine by decide), fun c1 h1 => ⟨(show (0 : Nat) ≤ sizeLine by decide), fun c2 h2 => ⟨(show (2 : Nat) ≤ sizeLine by decide), fun c3 h3 => ?_⟩⟩⟩
        have g1 := Same.upd (o := .tup []) h1
        have g2 := Same.upd (o := .tup []) h2
        have g3 := Same.upd (o := .tup [.ref c1, .ref c2]) h3
        have d1 := g3 _ _ (g2 _ _ (upd_same (H := H6) (a := c1) (o := .tup [])))
        have d2 := g3 _ _ (upd_same (H := upd H6 c1 (.tup [])) (a := c2) (o := .tup []))
        have d3 := upd_same (H := upd (upd H6 c1 (.tup [])) c2 (.tup [])) (a := c3) (o := .tup [.ref c1, .ref c2])
        generalize upd (upd (upd H6 c1 (.tup [])) c2 (.tup [])) c3 (.tup [.ref c1, .ref c2]) = H9 at d1 d2 d3 ⊢
        have tn : TalA (KX w.params) H9 c3 c1 c2 [] [] [] := ⟨SqT.of d3, ⟨[], d1, .nil⟩, Nat.zero_le _, SqT.of d2, .nil, Nat.zero_le _, trivial, fun _ h => absurd h List.not_mem_nil⟩
        have nd0 : ∀ {H' : Hp} {l : Addr}, (("a" : Str) ∈ ([] : List (Str × Str)).map (·.1) ∧ H' l = some (.lst [])) ∨ (("a" : Str) ∉ ([] : List (Str × Str)).map (·.1) ∧ H' l = some (.lst [.bl true, .bl true, .bl false])) → H' l = some (.lst (dueV false)) := fun h => h.elim (fun y => absurd y.1 List.not_mem_nil) fun y => y.2
        refine ⟨_, rfl, 0, c3, c1, c2, [], [], [], "a", rfl, tn, fun l10 H10 s10 h10 => ?_⟩
        refine ⟨(show (3 : Nat) ≤ sizeLine by decide), fun l11 hl11 => ?_⟩
        have s11 := Same.upd (o := .lst (dueV false)) hl11
        refine ⟨dueD false, dueD false, due_pd (s11 _ _ (nd0 h10)), due_pd upd_same, due_lay _, due_lay _, due_depth _, ?_⟩
        rw [due_eqv]
        refine ⟨_, rfl, iteT ⟨_, rfl, 1, c3, c1, c2, [], [], [], "a", rfl, tn.same (s10.trans s11), fun l12 H12 s12 h12 => ?_⟩⟩
        refine ⟨(show (3 : Nat) ≤ sizeLine by decide), fun l13 hl13 => ?_⟩
        have s13 := Same.upd (o := .lst (dueV false)) hl13
        refine ⟨dueD false, dueD false, due_pd (s13 _ _ (nd0 h12)), due_pd upd_same, due_lay _, due_lay _, due_depth _, ?_⟩
        rw [due_eqv]
        exact q _
end
end K64
namespace K64
open PySem PySem.Spec PyProof.Rows TJ L2
theorem all_law {P : Program} {w : World} {mg : Str → Option Value} {base : Heap} (T : TX (KX w.params) mg) : FnOk P w (KX w.params) mg base CX0 5 291 fd_law ["script"] (sp_law (KX w.params)) := by
  have c_deeds := cal_deeds (P := P) (w := w) (base := base) T (ok_deeds T )
  have c_thing_named := calE_thing_named (P := P) (w := w) (base := base) T (ok_thing_named T )
  have c_numbers_of := calE_numbers_of (P := P) (w := w) (base := base) T (ok_numbers_of T c_thing_named c_deeds)
  have c_part := calE_part (P := P) (w := w) (base := base) T (ok_part T c_thing_named c_deeds)
  have c__law_deeds := cal__law_deeds (P := P) (w := w) (base := base) T (ok__law_deeds T )
  have c__law_part := cal__law_part (P := P) (w := w) (base := base) T (ok__law_part T )
  have c__law_caught := cal__law_caught (P := P) (w := w) (base := base) T (ok__law_caught T c_part c_numbers_of)
  have c__law_cell_at := cal__law_cell_at (P := P) (w := w) (base := base) T (ok__law_cell_at T )
  have c__law_take := cal__law_take (P := P) (w := w) (base := base) T (ok__law_take T )
  have c__law_worth := cal__law_worth (P := P) (w := w) (base := base) T (ok__law_worth T c__law_take)
  have c__law_verb := cal__law_verb (P := P) (w := w) (base := base) T (ok__law_verb T c__law_take c__law_worth)
  have c__law_do := cal__law_do (P := P) (w := w) (base := base) T (ok__law_do T )
  have c__law_first := cal__law_first (P := P) (w := w) (base := base) T (ok__law_first T )
  have c__law_applied := cal__law_applied (P := P) (w := w) (base := base) T (ok__law_applied T c__law_do)
  have c__law_things := cal__law_things (P := P) (w := w) (base := base) T (ok__law_things T c__law_take)
  have c__law_tale := cal__law_tale (P := P) (w := w) (base := base) T (ok__law_tale T c__law_cell_at c__law_take c__law_things c__law_first c__law_applied c__law_verb)
  have c__law_told := cal__law_told (P := P) (w := w) (base := base) T (ok__law_told T c__law_deeds c_numbers_of c_part c__law_part)
  exact ok_law T c__law_tale c__law_told c__law_caught
end K64
open PySem PySem.W PyProof.Rows
set_option maxRecDepth 100000 in
set_option maxHeartbeats 0 in
theorem PySem.Challenge.cw_talejudge_k64_parts_of_tales_holds : PySem.Challenge.rw_talejudge_k64_parts_of_tales.Holds := by
  w_on; o_law
  refine holds_open (q := K64.viewX) (loose := K64.looseX) (Xt := K64.XtX) (XP := XL K64.viewX []) (Yf := Hook.obs K64.HX) (Ya := Hook.val K64.HX) (YP := Hook.says K64.HX) (N := 200000) K64.leftX (Hook.of K64.HX) (Hook.keeps K64.HX) (fun s e => xl_of s (Bool.and_eq_true_iff.mp e).1) XL.keeps (by rfl) (by rfl) (by rfl) (fun s e => recFacts_of (Bool.and_eq_true_iff.mp e).2) (by rfl) (by assumption) (by decide +kernel) ⟨rfl, rfl, rfl, rfl, rfl, by decide +kernel⟩ ?hw ?hc
  case hw => w_witness2
  case hc =>
    refine L2.walk_of (l := PySem.Challenge.rw_talejudge_k64_parts_of_tales) (n := 63) (k := 5) (x := "script") (K := K64.KX) (CX := fun _ => L2.CX0) (sp := fun w => K64.sp_law (K64.KX w.params)) rfl (by decide) rfl ⟨rfl, by decide, by decide⟩ (fun w h Y => PySem.W.kIn_of Y) ?F ?S ?C
    case F =>
      intro w mg fa h KX G hmg
      have T := L2.TX.mk' KX G
      have e0 := hmg.symm.trans (T.of (K64.g_law _))
      cases e0
      exact ⟨K64.fd_law, fun s u => .of_eq rfl, fun base kb nb => K64.all_law T⟩
    case S => exact fun w H a ns hl hO hS => ⟨a, ns, rfl, hS, hl, fun _ => rfl⟩
    case C => exact fun _ _ _ _ _ z => z
