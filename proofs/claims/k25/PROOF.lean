import PyProof.Rows.All
import Wide.All
import OpenK.AllK
import Wide.FinOn
import Lean
import PyProof.EqAt
import PyProof.EqKinds
import PyProof.TupleCall
import PyProof.P3Eq
import PyProof.NeKinds
import KE.KRevIter
import PyProof.EnumMake
import PyProof.EnumFor
import PyProof.Draws
import PyProof.ZipIter
import PyProof.ConsumeWalk
import PyProof.RaisesMany
import PyProof.ExcClass3
import PyProof.ExcBaseAll.ValueError
import PyProof.RulesAs
import PyProof.ExcAttrAll.ValueError
import PyProof.ReprStr
import PyProof.PassesOwn
import PySem.Challenge.RW_evernever_k25_bars_as_signs
set_option Elab.async false
set_option linter.all false
set_option maxRecDepth 100000
set_option maxHeartbeats 4000000
set_option maxRecDepth 100000
namespace L2
open PySem PySem.Spec PyProof.Rows

/-- a key: an int or a str -/
abbrev Key := Sum Int Str
def keyIs : Key → Value → Bool
  | .inl k, v => Value.isInt k v
  | .inr x, v => Value.isStrOf x v
def keyH (w : World) : Key → Int
  | .inl k => hashInt k
  | .inr x => hashStr w x
theorem keyIs_shape : ∀ {k : Key} {v : Value}, keyIs k v = true → (∃ i t, k = Sum.inl i ∧ v = Value.int i t) ∨ (∃ x t, k = Sum.inr x ∧ v = Value.str x t)
  | .inl i, v, h => by
    obtain ⟨t, e⟩ := Value.isInt_shape (k := i) (v := v) h
    exact .inl ⟨i, t, rfl, e⟩
  | .inr x, v, h => by
    obtain ⟨t, e⟩ := Value.isStrOf_shape (x := x) (v := v) h
    exact .inr ⟨x, t, rfl, e⟩
theorem key_ll (a b : Int) : decide ((Sum.inl a : Key) = Sum.inl b) = (a == b) := by
  by_cases e : a = b
  · subst e; simp
  · have h : ¬ (Sum.inl a : Key) = Sum.inl b := fun q => e (Sum.inl.inj q)
    rw [decide_eq_false h]
    exact (beq_eq_false_iff_ne.mpr e).symm
theorem key_rr (a b : Str) : decide ((Sum.inr a : Key) = Sum.inr b) = decide (a = b) := by
  by_cases e : a = b
  · subst e; simp
  · have h : ¬ (Sum.inr a : Key) = Sum.inr b := fun q => e (Sum.inr.inj q)
    rw [decide_eq_false h, decide_eq_false e]
theorem key_lr (a : Int) (b : Str) : decide ((Sum.inl a : Key) = Sum.inr b) = false := decide_eq_false (fun q => nomatch q)
theorem key_rl (a : Str) (b : Int) : decide ((Sum.inr a : Key) = Sum.inl b) = false := decide_eq_false (fun q => nomatch q)

def mixKind (prog : Program) (w : World) : PySem.KeyKind prog w Key where
  is := keyIs
  hash := keyH w
  inj := fun v a b ha hb => by
    rcases keyIs_shape ha with ⟨i, t, rfl, rfl⟩ | ⟨x, t, rfl, rfl⟩
    · rcases keyIs_shape hb with ⟨j, u, rfl, e⟩ | ⟨y, u, rfl, e⟩
      · injection e with e1 _; rw [e1]
      · exact nomatch e
    · rcases keyIs_shape hb with ⟨j, u, rfl, e⟩ | ⟨y, u, rfl, e⟩
      · exact nomatch e
      · injection e with e1 _; rw [e1]
  byValue := fun k v h => by
    rcases keyIs_shape h with ⟨i, t, rfl, rfl⟩ | ⟨x, t, rfl, rfl⟩ <;> rfl
  pyHash := fun hv h => by
    rcases keyIs_shape hv with ⟨i, t, rfl, rfl⟩ | ⟨x, t, rfl, rfl⟩
    · exact wpAny_pyHash_int h
    · exact wpAny_pyHash_str h
  eqBool := fun hu hv h => by
    rcases keyIs_shape hu with ⟨i, t, rfl, rfl⟩ | ⟨x, t, rfl, rfl⟩
    · rcases keyIs_shape hv with ⟨j, u, rfl, rfl⟩ | ⟨y, u, rfl, rfl⟩
      · rw [key_ll] at h; exact wpAny_eqBool_int h
      · rw [key_lr] at h; exact SeqAt.EqAt.int_str i t y u _ _ _ _ h
    · rcases keyIs_shape hv with ⟨j, u, rfl, rfl⟩ | ⟨y, u, rfl, rfl⟩
      · rw [key_rl] at h; exact SeqAt.EqAt.str_int x t j u _ _ _ _ h
      · rw [key_rr] at h; exact wpAny_eqBool_str h
  «strs» := fun k x t v h => by
    rcases keyIs_shape h with ⟨i, u, rfl, e⟩ | ⟨y, u, rfl, e⟩
    · exact nomatch e
    · injection e with e1 _
      subst e1
      cases v <;> rfl

end L2

namespace L2
open PySem PySem.Spec PyProof.Rows

/-- a value, without the heap -/
inductive V where
  | non | bl (b : Bool) | int (i : Int) | str (x : Str) | byt (b : Array UInt8) | flt (b : UInt64) | ref (a : Addr) | ty (n : String)
  deriving DecidableEq

def RelV : V → Value → Prop
  | .non, u => u = Value.none
  | .bl b, u => u = Value.bool b
  | .int i, u => ∃ t, u = Value.int i t
  | .str x, u => ∃ t, u = Value.str x t
  | .byt b, u => ∃ t, u = Value.bytes b t
  | .flt b, u => ∃ t, u = Value.float b t
  | .ref a, u => u = Value.ref a
  | .ty n, u => u = Value.type n

abbrev Vals : List V → List Value → Prop := Paired RelV
theorem Vals.length {xs : List V} {us : List Value} (r : Vals xs us) : xs.length = us.length := Paired.length r
theorem Vals.get : ∀ {xs : List V} {us : List Value} {i : Nat} {x : V}, Vals xs us → xs[i]? = some x → ∃ u, us[i]? = some u ∧ RelV x u
  | _, _, _, _, .nil, e => by simp at e
  | _, _, 0, _, .cons r _, e => by simp at e; subst e; exact ⟨_, rfl, r⟩
  | _, _, i + 1, x, .cons _ t, e => by
    obtain ⟨u, h1, h2⟩ := Vals.get (i := i) (x := x) t (by simpa using e)
    exact ⟨u, by simpa using h1, h2⟩
theorem Vals.append : ∀ {xs ys : List V} {us ws : List Value}, Vals xs us → Vals ys ws → Vals (xs ++ ys) (us ++ ws)
  | _, _, _, _, .nil, s => s
  | _, _, _, _, .cons r t, s => .cons r (Vals.append t s)
theorem Vals.take : ∀ {xs : List V} {us : List Value} (n : Nat), Vals xs us → Vals (xs.take n) (us.take n)
  | _, _, 0, _ => .nil
  | _, _, _ + 1, .nil => .nil
  | _, _, n + 1, .cons r t => .cons r (Vals.take n t)
theorem Vals.drop : ∀ {xs : List V} {us : List Value} (n : Nat), Vals xs us → Vals (xs.drop n) (us.drop n)
  | _, _, 0, r => r
  | _, _, _ + 1, .nil => .nil
  | _, _, n + 1, .cons _ t => Vals.drop n t
def RelO : Option V → Option Value → Prop
  | some v, some u => RelV v u
  | none, none => True
  | _, _ => False
def KV {κ : Type} : List (κ × V) → List (κ × Value) → Prop := Paired fun (p : κ × V) (q : κ × Value) => p.1 = q.1 ∧ RelV p.2 q.2

/-- a key of a dict (00_mix): an int or a text -/
def kV : Key → V
  | .inl i => .int i
  | .inr x => .str x

/-- what stands at a tracked address -/
inductive HO where
  /-- a list -/
  | lst (xs : List V)
  /-- a tuple (never changes) -/
  | tup (xs : List V)
  /-- a dict whose keys are ints and texts; one whose keys are tuples of ints and texts (the empty one is both) -/
  | dK (kvs : List (Key × V)) | dT (kvs : List (List Key × V))
  /-- a set of ints: its members, its size -/
  | set (S : Int → Bool) (n : Nat)
  /-- an instance of the class at C, its dict at dx, its attributes -/
  | ins (C dx : Addr) (fs : List (Str × V))
  /-- the dict of the instance at x -/
  | own (x : Addr)
  /-- the dict of an exception -/
  | xd (fs : List (Str × V))
  /-- a bound method, f of x -/
  | met (f x : Addr)
  /-- a range object lo, lo + 1, .. below hi -/
  | rng (lo hi : Int)
  /-- a thing that is known to the object (the script; a dict while a loop walks it): read, never written while it is so -/
  | frz (o : Obj) (u : HO)
  /-- a code object's table -/
  | tbl (ps : Array Value)
  /-- any other thing, by what is true of its one object (a def of one's own: SetO a S n := HO.ext fun h => ..) -/
  | ext (φ : Heap → Prop)

abbrev Hp := Addr → Option HO
def upd (H : Hp) (a : Addr) (o : HO) : Hp := fun b => if b = a then some o else H b
theorem upd_same {H : Hp} {a : Addr} {o : HO} : upd H a o a = some o := by unfold upd; rw [if_pos rfl]
theorem upd_ne {H : Hp} {a b : Addr} {o : HO} (h : b ≠ a) : upd H a o b = H b := by unfold upd; rw [if_neg h]
theorem ne_of_none {H : Hp} {a b : Addr} {o : HO} (h : H a = some o) (h' : H b = none) : a ≠ b := by
  intro e; subst e; rw [h] at h'; cases h'

section
variable (P : Program) (w : World)
def ObjOk (H : Hp) (h : Heap) (a : Addr) : HO → Prop
  | .lst xs => xs.length ≤ sizeLine ∧ ∃ (its : List Value) (n : Nat), Vals xs its ∧ h.get? a = some { cls := .type "list", data := .seq its.toArray n }
  | .tup xs => xs.length ≤ sizeLine ∧ ∃ its : List Value, Vals xs its ∧ IsTup h a its.toArray
  | .dK kvs => kvs.length ≤ sizeLine ∧ (a == sysModules) = false ∧ ∃ vs, KV kvs vs ∧ h.DictOf (mixKind P w) a vs
  | .dT kvs => kvs.length ≤ sizeLine ∧ (a == sysModules) = false ∧ ∃ xs : List (List Key × Addr × Value),
      Paired (fun (p : List Key × V) (q : List Key × Addr × Value) => p.1 = q.1 ∧ H q.2.1 = some (.tup (p.1.map kV)) ∧ RelV p.2 q.2.2) kvs xs ∧
      ∃ o es ep, h.get? a = some o ∧ o.ExactDict ∧ o.data = .dict es ep ∧ es.toList = xs.map (entryOfKey (tupleKind (mixKind P w))) ∧ (xs.map (·.1)).Nodup
  | .set S n => h.SetOf (intKind P w) a S n
  | .ins C dx fs => H dx = some (.own a) ∧ fs.length ≤ 1000 ∧ dx ≠ a ∧ h.get? a = some (PySem.W.instObj C dx) ∧
      ∃ mA, h.Ns1 dx mA ∧ (∀ f, RelO (fs.lookup f) (mA f)) ∧ PySem.Within mA (fs.map (·.1))
  | .own _ => ∃ o, h.get? a = some o
  | .xd fs => ∃ mA, h.Ns1 a mA ∧ ∀ f, RelO (fs.lookup f) (mA f)
  | .rng lo hi => ∃ t u v, h.get? a = some { cls := .type "range", data := .fields #[.int lo t, .int hi u, .int 1 v] }
  | .frz o u => h.get? a = some o ∧ ObjOk H h a u
  | .tbl ps => h.get? a = some { cls := .none, data := .fields ps }
  | .met f x => h.get? a = some (PySem.W.methodObj (.ref f) (.ref x))
  | .ext φ => φ h ∧ (∃ o, h.get? a = some o) ∧ ∀ h1 h2 : Heap, φ h1 → (∀ o, h1.get? a = some o → h2.get? a = some o) → φ h2
/-- the abstract heap is held -/
def HOk (H : Hp) (h : Heap) : Prop := ∀ a o, H a = some o → ObjOk P w H h a o
end

section
variable {P : Program} {w : World} {H H' : Hp} {h h' : Heap} {a : Addr} {o : HO}
theorem ObjOk.lt (x : ObjOk P w H h a o) : a < h.objs.size := by
  cases o with
  | lst xs => obtain ⟨_, _, _, _, e⟩ := x; exact Heap.lt_size e
  | tup xs => obtain ⟨_, _, _, p⟩ := x; exact p.lt
  | dK kvs => obtain ⟨_, _, _, _, o, _, _, e, _⟩ := x; exact Heap.lt_size e
  | dT kvs => obtain ⟨_, _, _, _, o, _, _, e, _⟩ := x; exact Heap.lt_size e
  | set S n => obtain ⟨o, _, _, _, e, _⟩ := x; exact Heap.lt_size e
  | ins C dx fs => obtain ⟨_, _, _, e, _⟩ := x; exact Heap.lt_size e
  | own y => obtain ⟨_, e⟩ := x; exact Heap.lt_size e
  | xd fs => obtain ⟨_, ⟨_, _, _, e, _⟩, _⟩ := x; exact Heap.lt_size e
  | rng lo hi => obtain ⟨_, _, _, e⟩ := x; exact Heap.lt_size e
  | frz ob u => obtain ⟨e, _⟩ := x; exact Heap.lt_size e
  | tbl ps => exact Heap.lt_size (show h.get? a = some _ from x)
  | met f y => exact Heap.lt_size (show h.get? a = some _ from x)
  | ext φ => obtain ⟨_, ⟨_, e⟩, _⟩ := x; exact Heap.lt_size e
theorem Paired.mapP {α β : Type} {F G : α → β → Prop} : ∀ {l₁ : List α} {l₂ : List β}, Paired F l₁ l₂ → (∀ a b, F a b → G a b) → Paired G l₁ l₂
  | _, _, .nil, _ => .nil
  | _, _, .cons r t, f => .cons (f _ _ r) (Paired.mapP t f)
/-- what an object's description leans on: its own object, its own dict, the tuples -/
theorem ObjOk.stay (x : ObjOk P w H h a o) (k : ∀ b u, (b = a ∨ H b = some (.own a)) → h.get? b = some u → h'.get? b = some u)
    (ho : ∀ b, H b = some (.own a) → H' b = some (.own a)) (ht : ∀ b xs, H b = some (.tup xs) → H' b = some (.tup xs)) : ObjOk P w H' h' a o := by
  induction o with
  | lst xs => obtain ⟨z, its, n, r, e⟩ := x; exact ⟨z, its, n, r, k _ _ (.inl rfl) e⟩
  | tup xs => obtain ⟨z, its, r, ob, e, c⟩ := x; exact ⟨z, its, r, ob, k _ _ (.inl rfl) e, c⟩
  | dK kvs => obtain ⟨z, y, vs, r, ob, es, ep, e, c⟩ := x; exact ⟨z, y, vs, r, ob, es, ep, k _ _ (.inl rfl) e, c⟩
  | dT kvs =>
    obtain ⟨z, y, xs, r, ob, es, ep, e, c⟩ := x
    exact ⟨z, y, xs, Paired.mapP r fun p q z => ⟨z.1, ht _ _ z.2.1, z.2.2⟩, ob, es, ep, k _ _ (.inl rfl) e, c⟩
  | set S n => obtain ⟨ob, es, ep, t, e, c⟩ := x; exact ⟨ob, es, ep, t, k _ _ (.inl rfl) e, c⟩
  | ins C dx fs =>
    obtain ⟨d, z, ne, e, mA, ⟨od, es, ep, e2, c⟩, r⟩ := x
    exact ⟨ho _ d, z, ne, k _ _ (.inl rfl) e, mA, ⟨od, es, ep, k _ _ (.inr d) e2, c⟩, r⟩
  | own y => obtain ⟨ob, e⟩ := x; exact ⟨ob, k _ _ (.inl rfl) e⟩
  | xd fs => obtain ⟨mA, ⟨od, es, ep, e, c⟩, r⟩ := x; exact ⟨mA, ⟨od, es, ep, k _ _ (.inl rfl) e, c⟩, r⟩
  | rng lo hi => obtain ⟨t, u, v, e⟩ := x; exact ⟨t, u, v, k _ _ (.inl rfl) e⟩
  | frz ob u ih => obtain ⟨e, q⟩ := x; exact ⟨k _ _ (.inl rfl) e, ih q⟩
  | tbl ps =>
    have e : h.get? a = some { cls := .none, data := .fields ps } := x
    show h'.get? a = some { cls := .none, data := .fields ps }
    exact k a _ (.inl rfl) e
  | met f y =>
    have e : h.get? a = some (PySem.W.methodObj (.ref f) (.ref y)) := x
    show h'.get? a = some (PySem.W.methodObj (.ref f) (.ref y))
    exact k a _ (.inl rfl) e
  | ext φ => obtain ⟨p, ⟨o, e⟩, st⟩ := x; exact ⟨st _ _ p fun o q => k _ _ (.inl rfl) q, ⟨o, k _ _ (.inl rfl) e⟩, st⟩
theorem HOk.lt (x : HOk P w H h) (e : H a = some o) : a < h.objs.size := (x a o e).lt
theorem HOk.fresh (x : HOk P w H h) (e : h.objs.size ≤ a) : H a = none := by
  cases q : H a with
  | none => rfl
  | some u => exact absurd (Nat.lt_of_lt_of_le (x.lt q) e) (Nat.lt_irrefl _)
/-- every object of the heap is kept -/
theorem HOk.kept (x : HOk P w H h) (k : ∀ b u, h.get? b = some u → h'.get? b = some u) : HOk P w H h' := fun a o e =>
  (x a o e).stay (fun b u _ q => k b u q) (fun _ q => q) fun _ _ q => q
/-- a new object is laid and tracked -/
theorem HOk.laid (x : HOk P w H h) (k : ∀ b u, h.get? b = some u → h'.get? b = some u) (hp : h.objs.size ≤ a) (new : ObjOk P w (upd H a o) h' a o) : HOk P w (upd H a o) h' := fun b u e => by
  have hn := x.fresh hp
  by_cases hb : b = a
  · subst hb; rw [upd_same] at e; cases e; exact new
  · rw [upd_ne hb] at e
    exact (x b u e).stay (fun c v _ q => k c v q) (fun c q => by rw [upd_ne (ne_of_none q hn)]; exact q) fun c xs q => by rw [upd_ne (ne_of_none q hn)]; exact q
end

/-- what may be read as u: it is u, or a known u -/
def Rd (H : Hp) (a : Addr) (u : HO) : Prop := H a = some u ∨ ∃ o, H a = some (.frz o u)
theorem Rd.ok {P : Program} {w : World} {H : Hp} {h : Heap} {a : Addr} {u : HO} (r : Rd H a u) (x : HOk P w H h) : ObjOk P w H h a u := by
  rcases r with r | ⟨o, r⟩
  · exact x a u r
  · obtain ⟨_, q⟩ := x a _ r
    exact q
/-- what may be written -/
def Mut : Option HO → Prop
  | some (.lst _) => True
  | some (.dK _) => True
  | some (.dT _) => True
  | some (.set _ _) => True
  | some (.ins _ _ _) => True
  | some (.ext _) => True
  | _ => False
section
variable {P : Program} {w : World} {H : Hp} {h h' : Heap} {x e : Addr} {o' : HO}
/-- the object at e is changed: x itself, or the dict of the instance x -/
theorem HOk.write (ok : HOk P w H h) (mu : Mut (H x)) (he : e = x ∨ H e = some (.own x)) (k : ∀ b u, b ≠ e → h.get? b = some u → h'.get? b = some u) (heo : ∃ u, h'.get? e = some u)
    (new : ObjOk P w (upd H x o') h' x o') : HOk P w (upd H x o') h' := fun b u q => by
  have nown : ∀ c y, H c = some (.own y) → c ≠ x := fun c y r z => by subst z; rw [r] at mu; exact mu
  have ntup : ∀ c xs, H c = some (.tup xs) → c ≠ x := fun c xs r z => by subst z; rw [r] at mu; exact mu
  by_cases hb : b = x
  · subst hb; rw [upd_same] at q; cases q; exact new
  · rw [upd_ne hb] at q
    by_cases hbe : b = e
    · have q' : H b = some (.own x) := by
        rcases he with z | z
        · exact absurd (hbe.trans z) hb
        · rw [hbe]; exact z
      rw [q] at q'; cases q'
      obtain ⟨v, hv⟩ := heo
      exact ⟨v, by rw [hbe]; exact hv⟩
    · refine (ok b u q).stay (fun c v hc r => k c v ?_ r) (fun c r => by rw [upd_ne (nown c b r)]; exact r) fun c xs r => by rw [upd_ne (ntup c xs r)]; exact r
      rcases hc with rfl | hc
      · exact hbe
      · rintro rfl
        rcases he with z | z
        · exact nown c b hc z
        · rw [hc] at z; cases z; exact hb rfl
end

structure Un (fs ex : List Addr) (H H' : Hp) (h h' : Heap) : Prop where
  keep : ∀ b o, h.get? b = some o → H b = none → b ∉ fs → b ∉ ex → h'.get? b = some o
  slot : ∀ b o, h.get? b = some o → H b = none → b ∈ fs → b ∉ ex → ∃ sl, h'.get? b = some { o with slots := sl }
  free : ∀ b o, h.get? b = some o → H b = none → b ∉ ex → H' b = none
  there : ∀ b o, h.get? b = some o → b ∉ ex → ∃ o', h'.get? b = some o'
  tups : ∀ b xs, H b = some (.tup xs) → H' b = some (.tup xs)
  frzs : ∀ b o u, H b = some (.frz o u) → H' b = some (.frz o u)
  tbls : ∀ b ps, H b = some (.tbl ps) → ∃ more, H' b = some (.tbl (ps ++ more))
section
variable {fs fs' ex ex' : List Addr} {H H1 H2 : Hp} {h h1 h2 h' : Heap} {a x e : Addr} {o : HO}
theorem Un.any (u : Un fs ex H H1 h h1) {b : Addr} {ob : Obj} (q : h.get? b = some ob) (n : H b = none) (hx : b ∉ ex) : ∃ sl, h1.get? b = some { ob with slots := sl } := by
  by_cases hb : b ∈ fs
  · exact u.slot b ob q n hb hx
  · exact ⟨ob.slots, u.keep b ob q n hb hx⟩
theorem Un.kept (k : ∀ b u, h.get? b = some u → h'.get? b = some u) : Un fs ex H H h h' :=
  ⟨fun b ob q _ _ _ => k b ob q, fun b ob q _ _ _ => ⟨ob.slots, k b ob q⟩, fun _ _ _ n _ => n, fun b ob q _ => ⟨ob, k b ob q⟩, fun _ _ q => q, fun _ _ _ q => q, fun _ ps q => ⟨#[], by rw [q]; simp⟩⟩
theorem Un.refl : Un fs ex H H h h := Un.kept fun _ _ q => q
theorem Un.laid (k : ∀ b u, h.get? b = some u → h'.get? b = some u) (hp : h.objs.size ≤ a) (hn : H a = none) : Un fs ex H (upd H a o) h h' where
  keep := fun b u q _ _ _ => k b u q
  slot := fun b u q _ _ _ => ⟨u.slots, k b u q⟩
  free := fun b u q n _ => by rw [upd_ne (Nat.ne_of_lt (Nat.lt_of_lt_of_le (Heap.lt_size q) hp))]; exact n
  there := fun b u q _ => ⟨u, k b u q⟩
  tups := fun b xs q => by rw [upd_ne (ne_of_none q hn)]; exact q
  frzs := fun b u xs q => by rw [upd_ne (ne_of_none q hn)]; exact q
  tbls := fun b ps q => ⟨#[], by rw [upd_ne (ne_of_none q hn), q]; simp⟩
theorem Un.write (mu : Mut (H x)) (he : e = x ∨ H e = some (.own x)) (k : ∀ b u, b ≠ e → h.get? b = some u → h'.get? b = some u) (heo : ∃ u, h'.get? e = some u) : Un fs ex H (upd H x o) h h' := by
  have hx : ∀ b, H b = none → b ≠ x := fun b n z => by subst z; rw [n] at mu; exact mu
  have hb : ∀ b, H b = none → b ≠ e := fun b n z => by
    subst z
    rcases he with r | r
    · exact hx b n r
    · rw [n] at r; cases r
  have hm : ∀ b u, H b = some u → ¬ Mut (some u) → b ≠ x := fun b u q nm z => by subst z; rw [q] at mu; exact nm mu
  refine ⟨fun b u q n _ _ => k b u (hb b n) q, fun b u q n _ _ => ⟨u.slots, k b u (hb b n) q⟩, fun b u q n _ => by rw [upd_ne (hx b n)]; exact n, fun b u q _ => ?_,
    fun b xs q => by rw [upd_ne (hm b _ q fun z => z)]; exact q, fun b u xs q => by rw [upd_ne (hm b _ q fun z => z)]; exact q, fun b ps q => ⟨#[], by rw [upd_ne (hm b _ q fun z => z), q]; simp⟩⟩
  by_cases hbe : b = e
  · subst hbe; exact heo
  · exact ⟨u, k b u hbe q⟩
end

def trk (h : Heap) (H : Hp) : List Addr := (List.range h.objs.size).filter fun a => (H a).isSome
def hidT (h : Heap) (H : Hp) : Heap := PySem.W.hideAll h (trk h H)
theorem hidT_size (h : Heap) (H : Hp) : (hidT h H).objs.size = h.objs.size := PySem.W.hideAll_size _ _
theorem hidT_get {h : Heap} {H : Hp} {b : Addr} {o : Obj} (e : h.get? b = some o) (n : H b = none) : (hidT h H).get? b = some o :=
  PySem.W.hideAll_get _ e fun hm => by
    have q : (H b).isSome = true := (List.mem_filter.mp hm).2
    rw [n] at q; simp at q
theorem of_hidT {h : Heap} {H : Hp} {b : Addr} {o : Obj} (e : (hidT h H).get? b = some o) : h.get? b = some o ∧ H b = none := by
  have e' : h.get? b = some o := PySem.W.of_hideAll (trk h H) e
  refine ⟨e', ?_⟩
  cases q : H b with
  | none => rfl
  | some x =>
    have hm : b ∈ trk h H := List.mem_filter.mpr ⟨List.mem_range.mpr (Heap.lt_size e'), by simp [q]⟩
    have z : (hidT h H).get? b = none := PySem.W.hideAll_none (trk h H) hm
    rw [z] at e; cases e

end L2

namespace L2
open PySem PySem.Spec PyProof.Rows

/-- the module's facts, over the base: the heap at the law's entry without what is tracked there -/
structure Mod (K : PySem.W.Frag) (mg : Str → Option Value) (base : Heap) : Prop where
  kin : K.In base
  glob : base.Ns mainGlobals mg
  blt : ∃ mb, base.Ns builtinsNs mb ∧ ∀ x : Str, x ≠ "__name__" → mb x = bootBuiltins x
  nolimit : base.NoLimit

/-- the context: a def's body (or a comprehension's block) running. base: fixed through the whole law; s₀, H₀: the entry; outer: the frames whose slots others may change (a def's callers); stack: all frames that run;
   ex: iterators that were made ahead of the entry and are walked here (a comprehension's); fn: the names whose cells were made at the entry (a def: all; a comprehension's block: its own); calm: not within an except suite; pn: pins that every state bears; xe: what is wanted of an exception that leaves the code -/
structure Cx where
  prog : Program
  w : World
  K : PySem.W.Frag
  mg : Str → Option Value
  base : Heap
  A : Around
  N : List Str
  s₀ : Shared
  H₀ : Hp
  env : Env
  outer : List Env
  stack : List Env
  ex : List Addr
  fn : Str → Bool
  calm : Bool
  pn : List (Addr × Obj)
  xe : Value → Shared → Prop
/-- the callers' frames -/
def frs (l : List Env) : List Addr := l.filterMap (·.frame)
abbrev Cx.fs (X : Cx) : List Addr := frs X.outer

def Vis (sc : Scope) (x : Str) : Prop := sc.names.lookup x = some .local ∨ sc.names.lookup x = some .cell ∨ sc.names.lookup x = some .free
def Loc (sc : Scope) (x : Str) : Prop := sc.names.lookup x = some .local ∨ sc.names.lookup x = some .cell
def Look (env : Env) (h : Heap) (m : Str → Option Value) (x : Str) (u : Value) : Prop :=
  (env.kindOf x = some .local ∧ m x = some u) ∨ ((env.kindOf x = some .cell ∨ env.kindOf x = some .free) ∧ ∃ c, env.cells.lookup x = some c ∧ h.IsCell c (some u))

structure Cx.Ok (X : Cx) : Prop where
  mod : Mod X.K X.mg X.base
  kind : X.env.scope.kind = .function
  glob : X.env.globals = mainGlobals
  blt : X.env.builtins = builtinsNs
  above : X.s₀.heap.objs.size ≤ X.env.locals
  inj : ∀ x y c, X.env.cells.lookup x = some c → X.env.cells.lookup y = some c → x = y
  has : ∀ x, (X.env.kindOf x = some .cell ∨ X.env.kindOf x = some .free) → ∃ c, X.env.cells.lookup x = some c
  cab : ∀ x c, X.fn x = true → X.env.cells.lookup x = some c → X.s₀.heap.objs.size ≤ c
  hd : X.calm = true → X.A.handled = none
  frames : X.A.frames = some X.stack
  stk : X.stack = X.outer ∨ (X.stack = X.env :: X.outer ∧ X.env.frame = some X.env.locals)
  exf : ∀ b ∈ X.ex, b ≠ X.env.locals ∧ ∀ x c, X.env.cells.lookup x = some c → c ≠ b
  bs : ∀ b o, X.base.get? b = some o → X.s₀.heap.get? b = some o ∧ X.H₀ b = none
  bsz : X.base.objs.size ≤ X.s₀.heap.objs.size
  noex : ∀ b o, X.base.get? b = some o → b ∉ X.ex
  exfs : ∀ b ∈ X.ex, b ∉ X.fs
  funs : X.s₀.heap.FunFrames X.base X.outer
  frf : ∀ b ∈ X.fs, X.H₀ b = none

structure Inv (X : Cx) (pins : List (Addr × Obj)) (σ : List (Option V)) (H : Hp) (s : Shared) : Prop where
  ok : X.Ok
  os : s.os = X.s₀.os
  bare : AllBare s.gens
  base : Un X.fs X.ex X.H₀ H X.s₀.heap s.heap
  loc : ∃ m, s.heap.Ns X.env.locals m ∧ ∀ (i : Nat) (x : Str) (v : V), X.N[i]? = some x → σ[i]? = some (some v) → Vis X.env.scope x → ∃ u, RelV v u ∧ Look X.env s.heap m x u
  cell : ∀ x c, X.env.cells.lookup x = some c → ∃ v, s.heap.IsCell c v
  free : H X.env.locals = none
  freeC : ∀ x c, X.env.cells.lookup x = some c → H c = none
  pin : ∀ p ∈ X.pn ++ pins, s.heap.get? p.1 = some p.2 ∧ H p.1 = none ∧ p.1 ≠ X.env.locals ∧ p.1 ∉ X.fs ∧ ∀ v, p.2.data ≠ .cell v
  hok : HOk X.prog X.w H s.heap
  len : σ.length = X.N.length

section
variable {X : Cx} {pins : List (Addr × Obj)} {σ : List (Option V)} {H H' : Hp} {s : Shared} {h' : Heap}

theorem Cx.Ok.nofr (ok : X.Ok) {b : Addr} {o : Obj} (e : X.base.get? b = some o) : b ∉ X.fs := fun hb => by
  have := (ok.funs.mem hb).1
  rw [e] at this; cases this
theorem Inv.bs (I : Inv X pins σ H s) : ∀ b o, X.base.get? b = some o → s.heap.get? b = some o ∧ H b = none := fun b o e =>
  ⟨I.base.keep b o (I.ok.bs b o e).1 (I.ok.bs b o e).2 (I.ok.nofr e) (I.ok.noex b o e), I.base.free b o (I.ok.bs b o e).1 (I.ok.bs b o e).2 (I.ok.noex b o e)⟩
theorem Inv.bk (I : Inv X pins σ H s) : ∀ b o, X.base.get? b = some o → s.heap.get? b = some o := fun b o e => (I.bs b o e).1
theorem Inv.mod (I : Inv X pins σ H s) : Mod X.K X.mg X.base := I.ok.mod
theorem Inv.kIn (I : Inv X pins σ H s) : X.K.In s.heap := I.ok.mod.kin.keeps I.bk
theorem Inv.lt (I : Inv X pins σ H s) : X.env.locals < s.heap.objs.size := let ⟨_, hn, _⟩ := I.loc; hn.lt
theorem Inv.sz (I : Inv X pins σ H s) : X.s₀.heap.objs.size ≤ s.heap.objs.size := Nat.le_trans I.ok.above (Nat.le_of_lt I.lt)
theorem Inv.nofs (I : Inv X pins σ H s) {a : Addr} (h : s.heap.objs.size ≤ a) : a ∉ X.fs := fun hb => by
  obtain ⟨_, o, ho, _⟩ := I.ok.funs.mem hb
  exact absurd (Nat.lt_of_lt_of_le (Heap.lt_size ho) (Nat.le_trans I.sz h)) (Nat.lt_irrefl _)
theorem Inv.cne (I : Inv X pins σ H s) : ∀ x c, X.env.cells.lookup x = some c → c ≠ X.env.locals := fun x c e z => by
  obtain ⟨v, o, ho, hd⟩ := I.cell x c e
  obtain ⟨m, ⟨o', es, ep, ho', hd', _⟩, _⟩ := I.loc
  rw [z, ho'] at ho; cases ho; rw [hd'] at hd; cases hd
theorem Inv.funs (I : Inv X pins σ H s) : s.heap.FunFrames X.base X.outer := by
  have all : ∀ (l : List Env), (∀ b ∈ frs l, b ∈ X.fs) → X.s₀.heap.FunFrames X.base l → s.heap.FunFrames X.base l := by
    intro l
    induction l with
    | nil => intro _ _; trivial
    | cons env r ih =>
      intro hs hl
      obtain ⟨hk, ⟨L, o, hf, hn, ho, hd⟩, hr⟩ := hl
      have hL : L ∈ X.fs := hs L (by unfold frs; rw [List.filterMap_cons, hf]; exact List.mem_cons_self)
      obtain ⟨sl, e⟩ := I.base.slot L o ho (I.ok.frf L hL) hL fun z => I.ok.exfs L z hL
      exact ⟨hk, ⟨L, _, hf, hn, e, hd⟩, ih (fun b hb => hs b (by unfold frs; rw [List.filterMap_cons, hf]; exact List.mem_cons_of_mem _ hb)) hr⟩
  exact all X.outer (fun _ hb => hb) I.ok.funs

/-- the frames that run, for a call -/
theorem Inv.stack (I : Inv X pins σ H s) : s.heap.FunFrames X.base X.stack := by
  rcases I.ok.stk with e | ⟨e, hf⟩
  · rw [e]; exact I.funs
  · rw [e]
    obtain ⟨m, hn, _⟩ := I.loc
    refine .cons (by rw [I.ok.kind]; decide) hf hn ?_ I.funs
    exact Heap.get?_none_of_le (Nat.le_trans I.ok.bsz I.ok.above)
theorem Inv.stkSub (I : Inv X pins σ H s) : ∀ b ∈ frs X.stack, b ∈ X.env.locals :: X.fs := fun b hb => by
  rcases I.ok.stk with e | ⟨e, hf⟩
  · rw [e] at hb; exact List.mem_cons_of_mem _ hb
  · rw [e] at hb
    unfold frs at hb
    rw [List.filterMap_cons, hf] at hb
    exact hb
theorem Inv.stkFree (I : Inv X pins σ H s) : ∀ b ∈ frs X.stack, H b = none := fun b hb => by
  rcases List.mem_cons.mp (I.stkSub b hb) with e | hb
  · rw [e]; exact I.free
  · obtain ⟨_, o, ho, _⟩ := I.ok.funs.mem hb
    exact I.base.free b o ho (I.ok.frf b hb) fun z => I.ok.exfs b z hb

/-- THE STEP: the untracked objects but the frame and the records at ch are kept (the callers' frames up to slots), the frame's map is kept, the new abstract heap is held -/
theorem Inv.step {g' : Array GenState} {t' : Nat} {d' : Drawn} {ch : List Addr} (I : Inv X pins σ H s)
    (hch : ∀ b ∈ ch, (b ∈ X.ex ∨ X.s₀.heap.objs.size ≤ b) ∧ b ≠ X.env.locals ∧ (∀ x c, X.env.cells.lookup x = some c → c ≠ b) ∧ ∀ p ∈ X.pn ++ pins, p.1 ≠ b)
    (keep : ∀ b o, b ≠ X.env.locals → b ∉ X.fs → b ∉ ch → s.heap.get? b = some o → H b = none → h'.get? b = some o)
    (slot : ∀ b o, b ≠ X.env.locals → b ∈ X.fs → b ∉ ch → s.heap.get? b = some o → H b = none → ∃ sl, h'.get? b = some { o with slots := sl }) (free : ∀ b o, b ∉ ch → s.heap.get? b = some o → H b = none → H' b = none)
    (there : ∀ b o, b ∉ ch → s.heap.get? b = some o → ∃ o', h'.get? b = some o')
    (tups : ∀ b xs, H b = some (.tup xs) → H' b = some (.tup xs)) (frzs : ∀ b o u, H b = some (.frz o u) → H' b = some (.frz o u)) (tbls : ∀ b ps, H b = some (.tbl ps) → ∃ more, H' b = some (.tbl (ps ++ more)))
    (ns : ∀ m, s.heap.Ns X.env.locals m → h'.Ns X.env.locals m) (hok : HOk X.prog X.w H' h') (hg : AllBare g') :
    Inv X pins σ H' { s with heap := h', gens := g', drawn := d', toks := t' } := by
  have neL : ∀ b o, X.s₀.heap.get? b = some o → b ≠ X.env.locals := fun b o e => Nat.ne_of_lt (Nat.lt_of_lt_of_le (Heap.lt_size e) I.ok.above)
  have neC : ∀ b o, X.s₀.heap.get? b = some o → b ∉ X.ex → b ∉ ch := fun b o e hx hb => by
    rcases (hch b hb).1 with z | z
    · exact hx z
    · exact absurd (Nat.lt_of_lt_of_le (Heap.lt_size e) z) (Nat.lt_irrefl _)
  have cellK : ∀ x c, X.env.cells.lookup x = some c → ∀ v, s.heap.IsCell c v → h'.IsCell c v := fun x c e v ⟨o, ho, hd⟩ => by
    have nch : c ∉ ch := fun z => (hch c z).2.2.1 x c e rfl
    by_cases hc : c ∈ X.fs
    · obtain ⟨sl, q⟩ := slot c o (I.cne x c e) hc nch ho (I.freeC x c e)
      exact ⟨_, q, hd⟩
    · exact ⟨o, keep c o (I.cne x c e) hc nch ho (I.freeC x c e), hd⟩
  refine ⟨I.ok, I.os, hg, ⟨fun b o e n hb hx => ?_, fun b o e n hb hx => ?_, fun b o e n hx => ?_, fun b o e hx => ?_, fun b xs e => tups b xs (I.base.tups b xs e), fun b o xs e => frzs b o xs (I.base.frzs b o xs e), fun b ps e => ?_⟩, ?_, fun x c e => ?_, ?_, fun x c e => ?_, fun p hp => ?_, hok, I.len⟩
  · exact keep b o (neL b o e) hb (neC b o e hx) (I.base.keep b o e n hb hx) (I.base.free b o e n hx)
  · obtain ⟨sl, e1⟩ := I.base.slot b o e n hb hx
    obtain ⟨sl', e2⟩ := slot b _ (neL b o e) hb (neC b o e hx) e1 (I.base.free b o e n hx)
    exact ⟨sl', e2⟩
  · obtain ⟨o', e1⟩ := I.base.there b o e hx
    exact free b o' (neC b o e hx) e1 (I.base.free b o e n hx)
  · obtain ⟨o', e1⟩ := I.base.there b o e hx
    exact there b o' (neC b o e hx) e1
  · obtain ⟨m1, e1⟩ := I.base.tbls b ps e
    obtain ⟨m2, e2⟩ := tbls b _ e1
    exact ⟨m1 ++ m2, by rw [e2, Array.append_assoc]⟩
  · obtain ⟨m, hn, hl⟩ := I.loc
    refine ⟨m, ns m hn, fun i x v e1 e2 e3 => ?_⟩
    obtain ⟨u, r, l⟩ := hl i x v e1 e2 e3
    refine ⟨u, r, ?_⟩
    rcases l with l | ⟨k, c, e, z⟩
    · exact .inl l
    · exact .inr ⟨k, c, e, cellK x c e _ z⟩
  · obtain ⟨v, z⟩ := I.cell x c e
    exact ⟨v, cellK x c e v z⟩
  · obtain ⟨m, ⟨o, _, _, ho, _⟩, _⟩ := I.loc
    exact free _ o (fun z => (hch _ z).2.1 rfl) ho I.free
  · obtain ⟨v, o, ho, hd⟩ := I.cell x c e
    exact free c o (fun z => (hch c z).2.2.1 x c e rfl) ho (I.freeC x c e)
  · obtain ⟨e, n, ne, nf, d⟩ := I.pin p hp
    have nch : p.1 ∉ ch := fun z => (hch p.1 z).2.2.2 p hp rfl
    exact ⟨keep p.1 p.2 ne nf nch e n, free p.1 p.2 nch e n, ne, nf, d⟩
/-- .. where the frame's own object is kept too -/
theorem Inv.un {t' : Nat} (I : Inv X pins σ H s) (u : Un X.fs [] H H' s.heap h') (hok : HOk X.prog X.w H' h') : Inv X pins σ H' { s with heap := h', toks := t' } := by
  obtain ⟨m, ⟨o, es, ep, ho, r⟩, _⟩ := id I.loc
  obtain ⟨sl, hL⟩ := u.any ho I.free (by simp)
  exact I.step (g' := s.gens) (d' := s.drawn) (ch := []) (fun _ z => nomatch z) (fun b o _ hb _ e n => u.keep b o e n hb (by simp)) (fun b o _ hb _ e n => u.slot b o e n hb (by simp)) (fun b o _ e n => u.free b o e n (by simp)) (fun b o _ e => u.there b o e (by simp)) u.tups u.frzs u.tbls (fun m' hm => by
    obtain ⟨o', es', ep', ho', r'⟩ := hm
    rw [ho] at ho'; cases ho'
    exact ⟨_, es', ep', hL, r'⟩) hok I.bare
/-- behind a call (or a comprehension's block): the slots of this frame may have changed too, the records at ch may have turned -/
theorem Inv.call {g' : Array GenState} {t' : Nat} {d' : Drawn} {ch : List Addr} (I : Inv X pins σ H s) (u : Un (frs X.stack) ch H H' s.heap h') (hok : HOk X.prog X.w H' h') (hg : AllBare g')
    (hch : ∀ b ∈ ch, (b ∈ X.ex ∨ X.s₀.heap.objs.size ≤ b) ∧ b ≠ X.env.locals ∧ (∀ x c, X.env.cells.lookup x = some c → c ≠ b) ∧ ∀ p ∈ X.pn ++ pins, p.1 ≠ b) :
    Inv X pins σ H' { s with heap := h', gens := g', drawn := d', toks := t' } := by
  obtain ⟨m, ⟨o, es, ep, ho, r⟩, _⟩ := id I.loc
  obtain ⟨sl, hL⟩ := u.any ho I.free fun z => (hch _ z).2.1 rfl
  exact I.step (ch := ch) hch (fun b o hL hb hc e n => u.keep b o e n (fun z => (List.mem_cons.mp (I.stkSub b z)).elim hL hb) hc) (fun b o _ _ hc e n => u.any e n hc) (fun b o hc e n => u.free b o e n hc) (fun b o hc e => u.there b o e hc) u.tups u.frzs u.tbls (fun m' hm => by
    obtain ⟨o', es', ep', ho', r'⟩ := hm
    rw [ho] at ho'; cases ho'
    exact ⟨_, es', ep', hL, r'⟩) hok hg
/-- an untracked record of ours (an iterator) has turned -/
theorem Inv.turned {t' : Nat} {it : Addr} (I : Inv X pins σ H s) (k : ∀ b o, b ≠ it → s.heap.get? b = some o → h'.get? b = some o) (hn : H it = none) (hL : it ≠ X.env.locals)
    (h1 : it ∈ X.ex ∨ X.s₀.heap.objs.size ≤ it) (h2 : ∀ x c, X.env.cells.lookup x = some c → c ≠ it) (h3 : ∀ p ∈ X.pn ++ pins, p.1 ≠ it) : Inv X pins σ H { s with heap := h', toks := t' } := by
  have nit : ∀ b u, H b = some u → b ≠ it := fun b u e z => by rw [z, hn] at e; cases e
  refine I.step (g' := s.gens) (d' := s.drawn) (ch := [it]) (fun b hb => ?_) (fun b o _ _ hc e _ => k b o (fun z => hc (by simp [z])) e) (fun b o _ _ hc e _ => ⟨o.slots, k b o (fun z => hc (by simp [z])) e⟩) (fun _ _ _ _ n => n)
    (fun b o hc e => ⟨o, k b o (fun z => hc (by simp [z])) e⟩) (fun _ _ e => e) (fun _ _ _ e => e) (fun b ps e => ⟨#[], by rw [e]; simp⟩) (fun m hm => ?_) (fun b u e => ?_) I.bare
  · have e : b = it := by simpa using hb
    subst e
    exact ⟨h1, hL, h2, h3⟩
  · obtain ⟨o, es, ep, ho, r⟩ := hm
    exact ⟨o, es, ep, k _ o (Ne.symm hL) ho, r⟩
  · refine (I.hok b u e).stay (fun c v hc q => k c v ?_ q) (fun _ q => q) fun _ _ q => q
    rcases hc with z | z
    · rw [z]; exact nit b u e
    · exact nit c _ z
theorem Inv.tok (I : Inv X pins σ H s) (t : Nat) : Inv X pins σ H { s with toks := t } := I.un (h' := s.heap) (t' := t) Un.refl I.hok
/-- all objects kept -/
theorem Inv.kept {t' : Nat} (I : Inv X pins σ H s) (k : ∀ b u, s.heap.get? b = some u → h'.get? b = some u) : Inv X pins σ H { s with heap := h', toks := t' } := I.un (Un.kept k) (I.hok.kept k)
/-- a new object laid and tracked -/
theorem Inv.laid {a : Addr} {o : HO} {t' : Nat} (I : Inv X pins σ H s) (k : ∀ b u, s.heap.get? b = some u → h'.get? b = some u) (hp : s.heap.objs.size ≤ a) (new : ObjOk X.prog X.w (upd H a o) h' a o) :
    Inv X pins σ (upd H a o) { s with heap := h', toks := t' } := I.un (Un.laid k hp (I.hok.fresh hp)) (I.hok.laid k hp new)
/-- an object written -/
theorem Inv.write {x e : Addr} {o : HO} {t' : Nat} (I : Inv X pins σ H s) (mu : Mut (H x)) (he : e = x ∨ H e = some (.own x)) (k : ∀ b u, b ≠ e → s.heap.get? b = some u → h'.get? b = some u) (heo : ∃ u, h'.get? e = some u)
    (new : ObjOk X.prog X.w (upd H x o) h' x o) : Inv X pins σ (upd H x o) { s with heap := h', toks := t' } := I.un (Un.write mu he k heo) (I.hok.write mu he k heo new)
theorem Inv.pins_of {pins' : List (Addr × Obj)} (I : Inv X pins σ H s) (h : ∀ p ∈ pins', s.heap.get? p.1 = some p.2 ∧ H p.1 = none ∧ p.1 ≠ X.env.locals ∧ p.1 ∉ X.fs ∧ ∀ v, p.2.data ≠ .cell v) : Inv X pins' σ H s :=
  ⟨I.ok, I.os, I.bare, I.base, I.loc, I.cell, I.free, I.freeC, fun p hp => (List.mem_append.mp hp).elim (fun z => I.pin p (List.mem_append_left _ z)) (h p), I.hok, I.len⟩

theorem nodup_ix {N : List Str} (hN : N.Nodup) {i j : Nat} {x : Str} (a : N[i]? = some x) (b : N[j]? = some x) : i = j := by
  obtain ⟨h1, e1⟩ := List.getElem?_eq_some_iff.mp a
  obtain ⟨h2, e2⟩ := List.getElem?_eq_some_iff.mp b
  exact (List.getElem_inj hN).mp (e1.trans e2.symm)

/-- a name is stored; what changed -/
theorem store_ok2 {M : Model} {A : Around} {E : Value → Shared → Prop} {i : Nat} {x : Str} {v : V} {u : Value} {Q : Unit → Shared → Prop} (I : Inv X pins σ H s) (hN : X.N.Nodup) (hi : X.N[i]? = some x) (hx : Loc X.env.scope x) (r : RelV v u)
    (h : ∀ s', Inv X pins (σ.set i (some v)) H s' → (∃ a, Heap.SameBut a s.heap s'.heap ∧ (a = X.env.locals ∨ X.env.cells.lookup x = some a)) → Q () s') (hf : X.fn x = true ∨ X.env.scope.names.lookup x = some .local := by first | exact .inl rfl | exact .inr rfl | assumption) : wpAny M A (storeName X.env x u) Q E s := by
  obtain ⟨m, hn, hl⟩ := id I.loc
  have hcls : (X.env.scope.kind == .class || (X.env.scope.kind == .module && X.env.locals != X.env.globals)) = false := by rw [I.ok.kind]; rfl
  have hiσ : i < σ.length := by rw [I.len]; exact (List.getElem?_eq_some_iff.mp hi).1
  have cne := I.cne
  have tracked : ∀ {a : Addr} {h' : Heap}, (∃ o, s.heap.get? a = some o ∧ H a = none) → Heap.SameBut a s.heap h' → HOk X.prog X.w H h' := fun {a h'} ha hs b ob e => by
    obtain ⟨_, _, hfree⟩ := ha
    refine (I.hok b ob e).stay (fun c w' hc q => (hs.2 c ?_).trans q) (fun _ q => q) fun _ _ q => q
    rintro rfl
    rcases hc with rfl | hc
    · rw [hfree] at e; cases e
    · rw [hfree] at hc; cases hc
  rcases hx with hk | hk
  · refine wpAny_storeName_local hk hn (fun h' hn' hs => ?_) hcls
    obtain ⟨oL, _, _, hoL, _⟩ := id hn
    refine h _ ⟨I.ok, I.os, I.bare, ⟨fun b o e n hb hx => ?_, fun b o e n hb hx => ?_, I.base.free, fun b o e hx => ?_, I.base.tups, I.base.frzs, I.base.tbls⟩, ⟨_, hn', fun j y v' e1 e2 e3 => ?_⟩, fun y c e => ?_, I.free, I.freeC, fun p hp => ?_, tracked ⟨oL, hoL, I.free⟩ hs, by simpa using I.len⟩ ⟨_, hs, .inl rfl⟩
    · exact (hs.2 b (Nat.ne_of_lt (Nat.lt_of_lt_of_le (Heap.lt_size e) I.ok.above))).trans (I.base.keep b o e n hb hx)
    · obtain ⟨sl, e1⟩ := I.base.slot b o e n hb hx
      exact ⟨sl, (hs.2 b (Nat.ne_of_lt (Nat.lt_of_lt_of_le (Heap.lt_size e) I.ok.above))).trans e1⟩
    · obtain ⟨o', e1⟩ := I.base.there b o e hx
      exact ⟨o', (hs.2 b (Nat.ne_of_lt (Nat.lt_of_lt_of_le (Heap.lt_size e) I.ok.above))).trans e1⟩
    · by_cases hj : j = i
      · subst hj
        rw [hi] at e1; cases e1
        rw [List.getElem?_set_self hiσ] at e2
        cases e2
        exact ⟨u, r, .inl ⟨hk, by simp⟩⟩
      · rw [List.getElem?_set_ne (Ne.symm hj)] at e2
        obtain ⟨u', r', q⟩ := hl j y v' e1 e2 e3
        refine ⟨u', r', ?_⟩
        rcases q with ⟨k, e⟩ | ⟨k, c, e, z⟩
        · refine .inl ⟨k, ?_⟩
          have : y ≠ x := fun e => hj (nodup_ix hN e1 (e ▸ hi))
          simp [this, e]
        · exact .inr ⟨k, c, e, z.sameBut hs (cne y c e)⟩
    · obtain ⟨w', z⟩ := I.cell y c e
      exact ⟨w', z.sameBut hs (cne y c e)⟩
    · obtain ⟨e, n, ne, nf, d⟩ := I.pin p hp
      exact ⟨(hs.2 p.1 ne).trans e, n, ne, nf, d⟩
  · have hfn : X.fn x = true := by
      rcases hf with z | z
      · exact z
      · rw [z] at hk; cases hk
    obtain ⟨c, hc⟩ := I.ok.has x (.inl hk)
    obtain ⟨w', z⟩ := I.cell x c hc
    refine wpAny_storeName_cell I.ok.kind hk hc z (fun h' hc' hs => ?_)
    obtain ⟨oc, hoc, hocd⟩ := id z
    refine h { s with heap := h' } ⟨I.ok, I.os, I.bare, ⟨fun b o e n hb hx => ?_, fun b o e n hb hx => ?_, I.base.free, fun b o e hx => ?_, I.base.tups, I.base.frzs, I.base.tbls⟩, ⟨m, hn.sameBut hs (Ne.symm (cne x c hc)), fun j y v' e1 e2 e3 => ?_⟩, fun y c' e => ?_, I.free, I.freeC, fun p hp => ?_, tracked ⟨oc, hoc, I.freeC x c hc⟩ hs, by simpa using I.len⟩ ⟨c, hs, .inr hc⟩
    · exact (hs.2 b (Nat.ne_of_lt (Nat.lt_of_lt_of_le (Heap.lt_size e) (I.ok.cab x c hfn hc)))).trans (I.base.keep b o e n hb hx)
    · obtain ⟨sl, e1⟩ := I.base.slot b o e n hb hx
      exact ⟨sl, (hs.2 b (Nat.ne_of_lt (Nat.lt_of_lt_of_le (Heap.lt_size e) (I.ok.cab x c hfn hc)))).trans e1⟩
    · obtain ⟨o', e1⟩ := I.base.there b o e hx
      exact ⟨o', (hs.2 b (Nat.ne_of_lt (Nat.lt_of_lt_of_le (Heap.lt_size e) (I.ok.cab x c hfn hc)))).trans e1⟩
    · by_cases hj : j = i
      · subst hj
        rw [hi] at e1; cases e1
        rw [List.getElem?_set_self hiσ] at e2
        cases e2
        exact ⟨u, r, .inr ⟨.inl hk, c, hc, hc'⟩⟩
      · rw [List.getElem?_set_ne (Ne.symm hj)] at e2
        obtain ⟨u', r', q⟩ := hl j y v' e1 e2 e3
        refine ⟨u', r', ?_⟩
        rcases q with q | ⟨k, c', e, z'⟩
        · exact .inl q
        · refine .inr ⟨k, c', e, z'.sameBut hs ?_⟩
          rintro rfl
          exact hj (nodup_ix hN e1 (I.ok.inj _ _ _ e hc ▸ hi))
    · by_cases hcc : c' = c
      · subst hcc; exact ⟨_, hc'⟩
      · obtain ⟨w2, z2⟩ := I.cell y c' e
        exact ⟨w2, z2.sameBut hs hcc⟩
    · obtain ⟨e, n, ne, nf, d⟩ := I.pin p hp
      refine ⟨(hs.2 p.1 ?_).trans e, n, ne, nf, d⟩
      intro q
      rw [q, hoc] at e
      have q' : oc = p.2 := Option.some.inj e
      exact d w' (by rw [← q']; exact hocd)
theorem store_ok {M : Model} {A : Around} {E : Value → Shared → Prop} {i : Nat} {x : Str} {v : V} {u : Value} {Q : Unit → Shared → Prop} (I : Inv X pins σ H s) (hN : X.N.Nodup) (hi : X.N[i]? = some x) (hx : Loc X.env.scope x) (r : RelV v u)
    (h : ∀ s', Inv X pins (σ.set i (some v)) H s' → Q () s') (hf : X.fn x = true ∨ X.env.scope.names.lookup x = some .local := by first | exact .inl rfl | exact .inr rfl | assumption) : wpAny M A (storeName X.env x u) Q E s :=
  store_ok2 I hN hi hx r (fun s' I' _ => h s' I') hf
/-- behind a call or a block, the state as it is -/
theorem Inv.call' {s' : Shared} {ch : List Addr} (I : Inv X pins σ H s) (ho : s'.os = s.os) (u : Un (frs X.stack) ch H H' s.heap s'.heap) (hok : HOk X.prog X.w H' s'.heap) (hg : AllBare s'.gens)
    (hch : ∀ b ∈ ch, (b ∈ X.ex ∨ X.s₀.heap.objs.size ≤ b) ∧ b ≠ X.env.locals ∧ (∀ x c, X.env.cells.lookup x = some c → c ≠ b) ∧ ∀ p ∈ X.pn ++ pins, p.1 ≠ b) : Inv X pins σ H' s' := by
  obtain ⟨h', g', d', t', o'⟩ := s'
  have e : o' = s.os := ho
  subst e
  exact I.call (g' := g') (t' := t') (d' := d') u hok hg hch
end

/-- an exception: its class, its own dict's address (where it has one), the abstract heap behind it -/
abbrev XK := Value → Option Addr → Hp → Prop
abbrev St := List (Option V)
abbrev VK := V → Hp → Prop
/-- an expression's reading; a test's; an argument list's -/
abbrev TE := St → Hp → VK → Prop
abbrev TT := St → Hp → (Bool → Hp → Prop) → Prop
abbrev TA := St → Hp → (List V → Hp → Prop) → Prop
/-- what is wanted behind a statement -/
structure Ends where
  nx : St → Hp → Prop
  rt : VK
  bk : St → Hp → Prop := fun _ _ => False
  ct : St → Hp → Prop := fun _ _ => False
abbrev TS := Ends → St → Hp → Prop

def EP (X : Cx) (pins : List (Addr × Obj)) (σ : St) (Q : VK) (u : Value) (s' : Shared) : Prop := ∃ v H', Inv X pins σ H' s' ∧ RelV v u ∧ Q v H'
def TP (X : Cx) (pins : List (Addr × Obj)) (σ : St) (Q : Bool → Hp → Prop) (b : Bool) (s' : Shared) : Prop := ∃ H', Inv X pins σ H' s' ∧ Q b H'
def AP (X : Cx) (pins : List (Addr × Obj)) (σ : St) (Q : List V → Hp → Prop) (us : List Value) (s' : Shared) : Prop := ∃ vs H', Inv X pins σ H' s' ∧ Vals vs us ∧ Q vs H'
def SP (X : Cx) (pins : List (Addr × Obj)) (D : Ends) (f : Flow) (s' : Shared) : Prop :=
  match f with
  | .next => ∃ σ' H', Inv X pins σ' H' s' ∧ D.nx σ' H'
  | .brk => ∃ σ' H', Inv X pins σ' H' s' ∧ D.bk σ' H'
  | .cont => ∃ σ' H', Inv X pins σ' H' s' ∧ D.ct σ' H'
  | .ret u => ∃ v σ' H', Inv X pins σ' H' s' ∧ RelV v u ∧ D.rt v H'

def PE (X : Cx) (e : Expr) (t : TE) : Prop :=
  ∀ (pins : List (Addr × Obj)) (s : Shared) (σ : St) (H : Hp) (Q : VK), Inv X pins σ H s → t σ H Q → wpAny (model X.prog X.w) X.A (eval e X.env) (EP X pins σ Q) X.xe s
def PT (X : Cx) (e : Expr) (t : TT) : Prop :=
  ∀ (pins : List (Addr × Obj)) (s : Shared) (σ : St) (H : Hp) (Q : Bool → Hp → Prop), Inv X pins σ H s → t σ H Q → wpAny (model X.prog X.w) X.A (isTrue e X.env (eval e X.env)) (TP X pins σ Q) X.xe s
/-- a test whatever its 'whole' is (and, or) -/
def PW (X : Cx) (e : Expr) (t : TT) : Prop :=
  ∀ (whole : Sem Value) (pins : List (Addr × Obj)) (s : Shared) (σ : St) (H : Hp) (Q : Bool → Hp → Prop), Inv X pins σ H s → t σ H Q → wpAny (model X.prog X.w) X.A (isTrue e X.env whole) (TP X pins σ Q) X.xe s
theorem PW.pt {X : Cx} {e : Expr} {t : TT} (h : PW X e t) : PT X e t := h _
/-- an argument list (no star), from the left -/
def PA (X : Cx) (es : List Expr) (t : TA) : Prop :=
  ∀ (pos : Pos) (pins : List (Addr × Obj)) (s : Shared) (σ : St) (H : Hp) (Q : List V → Hp → Prop), Inv X pins σ H s → t σ H Q → wpAny (model X.prog X.w) X.A (spliced (backTo pos (starEach es X.env))) (AP X pins σ Q) X.xe s
def PS (X : Cx) (st : Stmt) (t : TS) : Prop :=
  ∀ (pins : List (Addr × Obj)) (s : Shared) (σ : St) (H : Hp) (D : Ends), Inv X pins σ H s → t D σ H → wpAny (model X.prog X.w) X.A (exec st X.env) (SP X pins D) X.xe s
def PSs (X : Cx) (st : List Stmt) (t : TS) : Prop :=
  ∀ (pins : List (Addr × Obj)) (s : Shared) (σ : St) (H : Hp) (D : Ends), Inv X pins σ H s → t D σ H → wpAny (model X.prog X.w) X.A (execs st X.env) (SP X pins D) X.xe s
/-- weaken the end -/
theorem thn {α : Type} {t : Sem α} {Q Q' : α → Shared → Prop} {M : Model} {A : Around} {E : Value → Shared → Prop} {s : Shared} (h : wpAny M A t Q E s) (hQ : ∀ a s, Q a s → Q' a s) : wpAny M A t Q' E s := wpAny_mono h hQ fun _ _ x => x
end L2

namespace L2
open PySem PySem.Spec PyProof.Rows
section
variable {X : Cx}

def tVar (i : Nat) : TE := fun σ H Q => ∃ v, σ[i]? = some (some v) ∧ Q v H
def tC (v : V) : TE := fun _ H Q => Q v H
theorem pe_var {i : Nat} {x : Str} {pos : Pos} (hN : X.N[i]? = some x) (hv : Vis X.env.scope x) (hd : (x == ("__debug__" : Str)) = false := by decide) (hcd : (x == ("__classdict__" : Str)) = false := by decide) : PE X (.Name x pos) (tVar i) := by
  intro pins s σ H Q I h
  obtain ⟨v, e, h⟩ := h
  obtain ⟨m, hn, hl⟩ := I.loc
  obtain ⟨u, r, l⟩ := hl i x v hN e hv
  have fin : EP X pins σ Q u s := ⟨v, H, I, r, h⟩
  rcases l with ⟨hk, hm⟩ | ⟨hk, c, hc, hcell⟩
  · exact wpAny_Name (wpAny_loadName_local I.ok.kind hk hn hm fin) hd
  · rcases hk with hk | hk
    · exact wpAny_Name (wpAny_loadName_cell I.ok.kind hk hc hcell fin) hd
    · exact wpAny_Name (wpAny_loadName_free I.ok.kind hk hc hcell fin hcd) hd
theorem pe_int {i j pos} : PE X (.Constant (.int i) j pos) (tC (.int i)) := fun _ _ _ H _ I h => wpAny_Constant_int ⟨.int i, H, I.tok _, ⟨_, rfl⟩, h⟩
theorem pe_bl {b j pos} : PE X (.Constant (.bool b) j pos) (tC (.bl b)) := fun _ _ _ H _ I h => Constant_bool ⟨.bl b, H, I, rfl, h⟩
theorem pe_non {j pos} : PE X (.Constant .none j pos) (tC .non) := fun _ _ _ H _ I h => Constant_none ⟨.non, H, I, rfl, h⟩
theorem pe_str {x j pos} : PE X (.Constant (.str x) j pos) (tC (.str x)) := fun _ _ _ H _ I h => Calls.Constant_str ⟨.str x, H, I.tok _, ⟨_, rfl⟩, h⟩

/-- a global name of the def -/
def Gl (X : Cx) (x : Str) : Prop := X.env.kindOf x = some .globalImplicit
theorem ld_glob {E : Value → Shared → Prop} {pins : List (Addr × Obj)} {s : Shared} {σ : St} {H : Hp} {x : Str} {u : Value} {pos : Pos} {Q : Value → Shared → Prop} (I : Inv X pins σ H s) (hg : Gl X x) (hm : X.mg x = some u) (h : Q u s)
    (hd : (x == ("__debug__" : Str)) = false := by decide) : wpAny (model X.prog X.w) X.A (eval (.Name x pos) X.env) Q E s :=
  Calls.Name_function_global I.ok.kind hg (Calls.loadGlobal_global (by rw [I.ok.glob]; exact I.mod.glob.keeps I.bk) hm h) hd
theorem ld_blt {E : Value → Shared → Prop} {pins : List (Addr × Obj)} {s : Shared} {σ : St} {H : Hp} {x : Str} {u : Value} {pos : Pos} {Q : Value → Shared → Prop} (I : Inv X pins σ H s) (hg : Gl X x) (hm : X.mg x = none) (hv : bootBuiltins x = some u) (h : Q u s)
    (hn : x ≠ "__name__" := by decide) (hd : (x == ("__debug__" : Str)) = false := by decide) : wpAny (model X.prog X.w) X.A (eval (.Name x pos) X.env) Q E s := by
  obtain ⟨mb, h1, h2⟩ := I.mod.blt
  exact Calls.Name_function_global I.ok.kind hg (Calls.loadGlobal_builtin (by rw [I.ok.glob]; exact I.mod.glob.keeps I.bk) hm (by rw [I.ok.blt]; exact h1.keeps I.bk) ((h2 x hn).trans hv) h) hd
/-- a module's constant, a class, a function, as a value -/
theorem pe_glob {x : Str} {v : V} {u : Value} {pos : Pos} (hg : Gl X x) (hm : X.mg x = some u) (r : RelV v u) (hd : (x == ("__debug__" : Str)) = false := by decide) : PE X (.Name x pos) (tC v) :=
  fun _ _ _ H _ I h => ld_glob I hg hm ⟨v, H, I, r, h⟩ hd
theorem pe_bltn {x : Str} {v : V} {u : Value} {pos : Pos} (hg : Gl X x) (hm : X.mg x = none) (hv : bootBuiltins x = some u) (r : RelV v u) (hn : x ≠ "__name__" := by decide) (hd : (x == ("__debug__" : Str)) = false := by decide) : PE X (.Name x pos) (tC v) :=
  fun _ _ _ H _ I h => ld_blt I hg hm hv ⟨v, H, I, r, h⟩ hn hd

variable {a b : Expr} {ta tb : TE} {pos : Pos}
variable {tA tB' : TT} {rest : List Expr}
def tOr (t u : TT) : TT := fun σ H Q => t σ H fun c H1 => if c = true then Q true H1 else u σ H1 Q
def tNot (t : TT) : TT := fun σ H Q => t σ H fun c H1 => Q (!c) H1
theorem pw_or1 (ha : PT X a tA) : PW X (.BoolOp .Or [a] pos) tA := by
  intro wh pins s σ H Q I h
  refine isTrue_or (thn (ha pins s σ H Q I h) fun c s1 e => ?_)
  cases c with
  | false => exact isTrue_or_nil e
  | true => exact e
theorem pw_or (ha : PT X a tA) (hb : PW X (.BoolOp .Or (b :: rest) pos) tB') : PW X (.BoolOp .Or (a :: b :: rest) pos) (tOr tA tB') := by
  intro wh pins s σ H Q I h
  refine isTrue_or (thn (ha pins s σ H _ I h) fun c s1 ⟨H1, I1, q1⟩ => ?_)
  cases c with
  | true => exact ⟨H1, I1, q1⟩
  | false => exact hb wh pins s1 σ H1 Q I1 q1
theorem pt_not (ha : PT X a tA) : PT X (.UnaryOp .Not a pos) (tNot tA) := by
  intro pins s σ H Q I h
  exact isTrue_not (ha pins s σ H (fun c H1 => Q (!c) H1) I h)
/-- .. as values (bools) -/
def tAndV (ta tb : TE) : TE := fun σ H Q => ta σ H fun x H1 => ∃ c, x = .bl c ∧ if c = true then tb σ H1 Q else Q (.bl false) H1
theorem pe_one {op} {t : TE} (h : PE X a t) : PE X (.BoolOp op [a] pos) t := fun pins s σ H Q I hw => BoolOp_one (h pins s σ H Q I hw)
theorem pe_and (ha : PE X a ta) (hb : PE X (.BoolOp .And (b :: rest) pos) tb) : PE X (.BoolOp .And (a :: b :: rest) pos) (tAndV ta tb) := by
  intro pins s σ H Q I h
  refine BoolOp_and (thn (ha pins s σ H _ I h) fun v s1 ⟨x, H1, I1, r1, q1⟩ => ?_)
  obtain ⟨c, rfl, q1⟩ := q1
  cases r1
  refine wpAny_truthy_bool ?_
  cases c with
  | true => exact hb pins s1 σ H1 Q I1 q1
  | false => exact ⟨.bl false, H1, I1, rfl, q1⟩
/-- a if t else b -/
def tIf (t : TT) (ta tb : TE) : TE := fun σ H Q => t σ H fun c H1 => if c = true then ta σ H1 Q else tb σ H1 Q
theorem pe_ifExp {c : Expr} (hc : PT X c tA) (ha : PE X a ta) (hb : PE X b tb) : PE X (.IfExp c a b pos) (tIf tA ta tb) := by
  intro pins s σ H Q I h
  refine wpAny_IfExp (thn (hc pins s σ H _ I h) fun d s1 ⟨H1, I1, q1⟩ => ?_)
  cases d with
  | true => exact ha pins s1 σ H1 Q I1 q1
  | false => exact hb pins s1 σ H1 Q I1 q1
end
end L2

namespace L2
open PySem PySem.Spec PyProof.Rows

def SqL (K : PySem.W.Frag) (H : Hp) (a : Addr) (xs : List V) : Prop :=
  Rd H a (.lst xs) ∨
    ∃ (o : Obj) (its : Array Value) (n : Nat), K.lookup a = some o ∧ o.cls = .type "list" ∧ o.dict = none ∧ o.data = .seq its n ∧ its.size ≤ sizeLine ∧ Vals xs its.toList
def SqT (K : PySem.W.Frag) (H : Hp) (a : Addr) (xs : List V) : Prop :=
  Rd H a (.tup xs) ∨
    ∃ (o : Obj) (its : Array Value) (n : Nat), K.lookup a = some o ∧ o.cls = .type "tuple" ∧ o.data = .seq its n ∧ its.size ≤ sizeLine ∧ Vals xs its.toList
def absV : Value → Option V
  | .none => some .non
  | .bool b => some (.bl b)
  | .int i _ => some (.int i)
  | .str x _ => some (.str x)
  | .bytes b _ => some (.byt b)
  | .float b _ => some (.flt b)
  | .ref a => some (.ref a)
  | .type n => some (.ty n)
  | _ => none
theorem RelV.abs {x : V} {u : Value} (r : RelV x u) : absV u = some x := by
  cases x with
  | non => cases r; rfl
  | bl _ => cases r; rfl
  | int _ => obtain ⟨t, rfl⟩ := r; rfl
  | str _ => obtain ⟨t, rfl⟩ := r; rfl
  | byt _ => obtain ⟨t, rfl⟩ := r; rfl
  | flt _ => obtain ⟨t, rfl⟩ := r; rfl
  | ref _ => cases r; rfl
  | ty _ => cases r; rfl
theorem RelV.inj {x y : V} {u : Value} (r : RelV x u) (q : RelV y u) : x = y := Option.some.inj (r.abs.symm.trans q.abs)
theorem Vals.inj : ∀ {xs ys : List V} {us : List Value}, Vals xs us → Vals ys us → xs = ys
  | _, _, _, .nil, .nil => rfl
  | _, _, _, .cons r t, .cons r' t' => by rw [r.inj r', Vals.inj t t']
section
variable {X : Cx} {pins : List (Addr × Obj)} {σ : St} {H : Hp} {s : Shared} {a : Addr} {xs ys : List V}
theorem SqL.of {K : PySem.W.Frag} (h : H a = some (.lst xs)) : SqL K H a xs := .inl (.inl h)
theorem SqT.of {K : PySem.W.Frag} (h : H a = some (.tup xs)) : SqT K H a xs := .inl (.inl h)
theorem Inv.list (I : Inv X pins σ H s) (h : SqL X.K H a xs) : ∃ its : List Value, Vals xs its ∧ PlainL s.heap a its.toArray ∧ xs.length ≤ sizeLine := by
  rcases h with h | ⟨o, its, n, hk, hc, hd, hs, hz, r⟩
  · obtain ⟨z, its, n, r, e⟩ := h.ok I.hok
    exact ⟨its, r, ⟨_, n, e, rfl, rfl, rfl⟩, z⟩
  · refine ⟨its.toList, r, ⟨o, n, I.kIn a o hk, hc, hd, by simpa using hs⟩, ?_⟩
    have e := r.length
    simp only [Array.length_toList] at e
    omega
theorem Inv.tuple (I : Inv X pins σ H s) (h : SqT X.K H a xs) : ∃ its : List Value, Vals xs its ∧ IsTup s.heap a its.toArray ∧ xs.length ≤ sizeLine := by
  rcases h with h | ⟨o, its, n, hk, hc, hs, hz, r⟩
  · obtain ⟨z, its, r, p⟩ := h.ok I.hok
    exact ⟨its, r, p, z⟩
  · refine ⟨its.toList, r, ⟨o, I.kIn a o hk, hc, n, by simpa using hs⟩, ?_⟩
    have e := r.length
    simp only [Array.length_toList] at e
    omega
theorem Inv.list_inj (I : Inv X pins σ H s) (h : SqL X.K H a xs) (h' : SqL X.K H a ys) : xs = ys := by
  obtain ⟨its, r, ⟨o, n, e, _, _, d⟩, _⟩ := I.list h
  obtain ⟨its', r', ⟨o', n', e', _, _, d'⟩, _⟩ := I.list h'
  rw [e] at e'; cases e'
  rw [d] at d'
  injection d' with d1 _
  have : its = its' := by simpa using congrArg Array.toList d1
  subst this
  exact r.inj r'
theorem Inv.tuple_inj (I : Inv X pins σ H s) (h : SqT X.K H a xs) (h' : SqT X.K H a ys) : xs = ys := by
  obtain ⟨its, r, ⟨o, e, _, n, d⟩, _⟩ := I.tuple h
  obtain ⟨its', r', ⟨o', e', _, n', d'⟩, _⟩ := I.tuple h'
  rw [e] at e'; cases e'
  rw [d] at d'
  injection d' with d1 _
  have : its = its' := by simpa using congrArg Array.toList d1
  subst this
  exact r.inj r'
end

abbrev Cx.wish (X : Cx) (E : Value → Shared → Prop) : Cx := { X with xe := E }
/-- no exception leaves -/
abbrev Cx.nox (X : Cx) : Cx := X.wish fun _ _ => False
theorem Cx.Ok.wish {X : Cx} (ok : X.Ok) (E : Value → Shared → Prop) : (X.wish E).Ok :=
  ⟨ok.mod, ok.kind, ok.glob, ok.blt, ok.above, ok.inj, ok.has, ok.cab, ok.hd, ok.frames, ok.stk, ok.exf, ok.bs, ok.bsz, ok.noex, ok.exfs, ok.funs, ok.frf⟩
theorem Cx.Ok.unwish {X : Cx} {E : Value → Shared → Prop} (ok : (X.wish E).Ok) : X.Ok :=
  ⟨ok.mod, ok.kind, ok.glob, ok.blt, ok.above, ok.inj, ok.has, ok.cab, ok.hd, ok.frames, ok.stk, ok.exf, ok.bs, ok.bsz, ok.noex, ok.exfs, ok.funs, ok.frf⟩
section
variable {X : Cx} {pins : List (Addr × Obj)} {σ : St} {H : Hp} {s : Shared} {E : Value → Shared → Prop}
theorem Inv.wish (I : Inv X pins σ H s) (E : Value → Shared → Prop) : Inv (X.wish E) pins σ H s := ⟨I.ok.wish E, I.os, I.bare, I.base, I.loc, I.cell, I.free, I.freeC, I.pin, I.hok, I.len⟩
theorem Inv.unwish (I : Inv (X.wish E) pins σ H s) : Inv X pins σ H s := ⟨I.ok.unwish, I.os, I.bare, I.base, I.loc, I.cell, I.free, I.freeC, I.pin, I.hok, I.len⟩
theorem SP.unwish {D : Ends} {f : Flow} {s' : Shared} (h : SP (X.wish E) pins D f s') : SP X pins D f s' := by
  cases f with
  | next => obtain ⟨σ', H', I, q⟩ := h; exact ⟨σ', H', I.unwish, q⟩
  | brk => obtain ⟨σ', H', I, q⟩ := h; exact ⟨σ', H', I.unwish, q⟩
  | cont => obtain ⟨σ', H', I, q⟩ := h; exact ⟨σ', H', I.unwish, q⟩
  | ret u => obtain ⟨v, σ', H', I, r, q⟩ := h; exact ⟨v, σ', H', I.unwish, r, q⟩
theorem PT.nox {e : Expr} {t : TT} (h : PT X.nox e t) : PT X e t := fun pins s σ H Q I hw =>
  wpAny_mono (h pins s σ H Q (I.wish _) hw) (fun _ _ ⟨H', I', q⟩ => ⟨H', I'.unwish, q⟩) fun _ _ z => False.elim z
theorem PSs.nox {st : List Stmt} {t : TS} (h : PSs X.nox st t) : PSs X st t := fun pins s σ H D I hw =>
  wpAny_mono (h pins s σ H D (I.wish _) hw) (fun _ _ q => q.unwish) fun _ _ z => False.elim z
end

section
variable {X : Cx} {st : Stmt} {rest : List Stmt} {t u : TS} {e : Expr} {te : TE} {pos : Pos}
def tNext : TS := fun D σ H => D.nx σ H
def tSeq (t u : TS) : TS := fun D σ H => t { D with nx := u D } σ H
theorem pss_nil : PSs X [] tNext := fun _ _ σ H _ I h => wpAny_execs_nil ⟨σ, H, I, h⟩
theorem pss_cons (h1 : PS X st t) (h2 : PSs X rest u) : PSs X (st :: rest) (tSeq t u) := by
  intro pins s σ H D I h
  refine wpAny_execs_cons (thn (h1 pins s σ H { D with nx := u D } I h) fun f s1 q => ?_)
  cases f with
  | next =>
    obtain ⟨σ', H', I', q⟩ := q
    exact h2 pins s1 σ' H' D I' q
  | ret v => exact q
  | brk => exact q
  | cont => exact q
theorem pss_one (h1 : PS X st t) : PSs X [st] t := by
  intro pins s σ H D I h
  refine wpAny_execs_cons (thn (h1 pins s σ H D I h) fun f s1 q => ?_)
  cases f with
  | next => exact wpAny_execs_nil q
  | ret v => exact q
  | brk => exact q
  | cont => exact q
/-- in a def's body nothing is shown -/
theorem Inv.quiet {pins : List (Addr × Obj)} {σ : St} {H : Hp} {s : Shared} (I : Inv X pins σ H s) : interactive X.env = false := by simp [interactive, I.ok.kind]
def tRet (te : TE) : TS := fun D σ H => te σ H D.rt
theorem ps_ret (he : PE X e te) : PS X (.Return (some e) pos) (tRet te) := by
  intro pins s σ H D I h
  exact wpAny_Return_some (thn (he pins s σ H _ I h) fun v s1 ⟨x, H1, I1, r1, q1⟩ => ⟨x, σ, H1, I1, r1, q1⟩)
def tIfS (c : TT) (t u : TS) : TS := fun D σ H => c σ H fun b H1 => if b = true then t D σ H1 else u D σ H1
theorem ps_if {c : Expr} {a b : List Stmt} {tc : TT} (hc : PT X c tc) (ha : PSs X a t) (hb : PSs X b u) : PS X (.If c a b pos) (tIfS tc t u) := by
  intro pins s σ H D I h
  refine wpAny_If (thn (hc pins s σ H _ I h) fun d s1 ⟨H1, I1, q1⟩ => ?_)
  cases d with
  | true => exact ha pins s1 σ H1 D I1 q1
  | false => exact hb pins s1 σ H1 D I1 q1
end

abbrev TG := V → St → Hp → (St → Hp → Prop) → Prop
abbrev TGs := List V → St → Hp → (St → Hp → Prop) → Prop
def PG (X : Cx) (target : Expr) (t : TG) : Prop :=
  ∀ (pins : List (Addr × Obj)) (s : Shared) (σ : St) (H : Hp) (v : V) (u : Value) (Q : St → Hp → Prop), Inv X pins σ H s → RelV v u → t v σ H Q →
    wpAny (model X.prog X.w) X.A (assign target X.env u) (fun _ s' => ∃ σ' H', Inv X pins σ' H' s' ∧ Q σ' H') X.xe s
/-- several targets, one after another -/
def PGs (X : Cx) (ts : List Expr) (t : TGs) : Prop :=
  ∀ (pins : List (Addr × Obj)) (s : Shared) (σ : St) (H : Hp) (vs : List V) (us : List Value) (Q : St → Hp → Prop), Inv X pins σ H s → Vals vs us → t vs σ H Q →
    wpAny (model X.prog X.w) X.A (assignInOrder ((assignEach ts X.env).map (·.2)) us) (fun _ s' => ∃ σ' H', Inv X pins σ' H' s' ∧ Q σ' H') X.xe s
section
variable {X : Cx} {pos : Pos}
def gName (i : Nat) : TG := fun v σ H Q => Q (σ.set i (some v)) H
theorem pg_name {i : Nat} {x : Str} (hN : X.N.Nodup) (hi : X.N[i]? = some x) (hx : Loc X.env.scope x) (hf : X.fn x = true ∨ X.env.scope.names.lookup x = some .local := by first | exact .inl rfl | exact .inr rfl | assumption) : PG X (.Name x pos) (gName i) := by
  intro pins s σ H v u Q I r h
  exact wpAny_assign_Name (store_ok I hN hi hx r (fun s' I' => ⟨_, H, I', h⟩) hf)
def gNil : TGs := fun vs σ H Q => vs = [] ∧ Q σ H
def gCons (t : TG) (u : TGs) : TGs := fun vs σ H Q => ∃ v r, vs = v :: r ∧ t v σ H fun σ' H' => u r σ' H' Q
theorem pgs_nil : PGs X [] gNil := by
  intro pins s σ H vs us Q I r h
  obtain ⟨e, h⟩ := h
  subst e
  cases r
  exact assignInOrder_nil ⟨σ, H, I, h⟩
theorem pgs_cons {e : Expr} {es : List Expr} {t : TG} {u : TGs} (h1 : PG X e t) (h2 : PGs X es u)
    (hs : (assignEach (e :: es) X.env).map (·.2) = assign e X.env :: (assignEach es X.env).map (·.2) := by rfl) : PGs X (e :: es) (gCons t u) := by
  intro pins s σ H vs us Q I r h
  obtain ⟨v, vr, e1, h⟩ := h
  subst e1
  cases r with
  | cons r rr =>
    rw [hs]
    refine assignInOrder_cons (thn (h1 pins s σ H _ _ _ I r h) fun _ s1 ⟨σ1, H1, I1, q1⟩ => ?_)
    exact h2 pins s1 σ1 H1 _ _ Q I1 rr q1
/-- (a, b, ..) = a tuple of that length -/
def gTup (K : PySem.W.Frag) (n : Nat) (t : TGs) : TG := fun v σ H Q => ∃ a xs, v = .ref a ∧ SqT K H a xs ∧ xs.length = n ∧ t xs σ H Q
theorem pg_tup {es : List Expr} {k : Nat} {t : TGs} {n : Nat} (hc : X.calm = true) (h : PGs X es t)
    (hn : (assignEach es X.env).length = n := by rfl) (hst : (assignEach es X.env).findIdx? (·.1) = none := by rfl) : PG X (.Tuple es k pos) (gTup X.K n t) := by
  intro pins s σ H v u Q I r hw
  obtain ⟨a, xs, e1, hq, hl, hw⟩ := hw
  subst e1
  cases r
  obtain ⟨its, rv, ht, hz⟩ := I.tuple hq
  refine assign_Tuple_tuple (I.ok.hd hc) ht (by simp [hn, ← hl, rv.length]) hst fun h' hx => ?_
  have I1 : Inv X pins σ H { s with heap := h' } := I.kept (t' := s.toks) fun b o e => hx b o (Nat.ne_of_lt (Heap.lt_size e)) e
  exact h pins _ σ H xs _ Q I1 (by simpa using rv) hw
/-- target = value -/
def tAsg (te : TE) (g : TG) : TS := fun D σ H => te σ H fun x H1 => g x σ H1 D.nx
/-- name = value -/
theorem ps_set {i : Nat} {x : Str} {e : Expr} {te : TE} {pos' : Pos} (hN : X.N.Nodup) (hi : X.N[i]? = some x) (hx : Loc X.env.scope x) (he : PE X e te) (hs : swapsWith e (some (.Name x pos')) pos.line X.env = pure false := by rfl) (hf : X.fn x = true ∨ X.env.scope.names.lookup x = some .local := by first | exact .inl rfl | exact .inr rfl | assumption) :
    PS X (.Assign [.Name x pos'] e pos) (tAsg te (gName i)) := by
  intro pins s σ H D I h
  refine wpAny_Assign_Name (thn (he pins s σ H _ I h) fun v s1 ⟨y, H1, I1, r1, q1⟩ => ?_) hs
  exact store_ok I1 hN hi hx r1 (fun s2 I2 => ⟨_, H1, I2, q1⟩) hf
end

section
variable {X : Cx} {pos : Pos}
end

/-- at turn i: it yields x (the heap may grow), or it stops -/
structure It where
  go : Nat → Hp → Prop
  yld : Nat → Hp → V → Hp → Prop
  stop : Nat → Hp → Prop
/-- the iterator's own objects may turn: they are not the frame's, not pinned, younger than the entry (or a comprehension's own) -/
def FpOk (X : Cx) (pins : List (Addr × Obj)) (H : Hp) (b : Addr) : Prop :=
  H b = none ∧ b ≠ X.env.locals ∧ b ∉ X.fs ∧ (b ∈ X.ex ∨ X.s₀.heap.objs.size ≤ b) ∧ (∀ x c, X.env.cells.lookup x = some c → c ≠ b) ∧ ∀ p ∈ X.pn ++ pins, p.1 ≠ b
theorem Inv.fpOk {X : Cx} {pins : List (Addr × Obj)} {σ : St} {H H' : Hp} {s : Shared} {b : Addr} (I : Inv X pins σ H s) (hb : s.heap.objs.size ≤ b) (hn : H' b = none) : FpOk X pins H' b := by
  refine ⟨hn, Nat.ne_of_gt (Nat.lt_of_lt_of_le I.lt hb), I.nofs hb, .inr (Nat.le_trans I.sz hb), fun x c e z => ?_, fun p hp z => ?_⟩
  · obtain ⟨v, q⟩ := I.cell x c e
    exact absurd (Nat.lt_of_lt_of_le q.lt (by rw [z]; exact hb)) (Nat.lt_irrefl _)
  · exact absurd (Nat.lt_of_lt_of_le (Heap.lt_size (I.pin p hp).1) (by rw [z]; exact hb)) (Nat.lt_irrefl _)
structure Turn (P : Program) (w : World) (K : PySem.W.Frag) (tg : Expr) (J : It) (fp : List Addr) (it : Addr) (tn : Nat → Heap → Prop) : Prop where
  mem : it ∈ fp
  obj : ∀ i h, tn i h → ∀ b ∈ fp, ∃ o, h.get? b = some o ∧ ∀ v, o.data ≠ .cell v
  keep : ∀ i h h', tn i h → (∀ b ∈ fp, ∀ o, h.get? b = some o → h'.get? b = some o) → tn i h'
  item : ∀ (X : Cx), X.prog = P → X.w = w → X.K = K → X.calm = true → ∀ (i : Nat) (pins : List (Addr × Obj)) (s : Shared) (σ : St) (H : Hp) (E : Value → Shared → Prop), Inv X pins σ H s → (∀ b ∈ fp, FpOk X pins H b) → tn i s.heap → J.go i H →
    wpAny (model P w) X.A (pyNext (.ref it)) (fun r s1 => ∃ u, r = some u ∧
      wpAny (model P w) X.A (letOwnedTupleGo tg (.ref it) u) (fun _ s2 => ∃ x H', Inv X pins σ H' s2 ∧ RelV x u ∧ J.yld i H x H' ∧ tn (i + 1) s2.heap ∧ ∀ b ∈ fp, H' b = none) E s1) E s
  done : ∀ (X : Cx), X.prog = P → X.w = w → X.K = K → X.calm = true → ∀ (i : Nat) (pins : List (Addr × Obj)) (s : Shared) (σ : St) (H : Hp) (E : Value → Shared → Prop), Inv X pins σ H s → (∀ b ∈ fp, FpOk X pins H b) → tn i s.heap → J.stop i H →
    wpAny (model P w) X.A (pyNext (.ref it)) (fun r s1 => r = none ∧ Inv X pins σ H s1) E s
  self : ∀ (A : Around) (i : Nat) (s : Shared) (Q : Value → Shared → Prop) (E : Value → Shared → Prop), tn i s.heap → Q (.ref it) s → wpAny (model P w) A (pyIter (.ref it)) Q E s
abbrev TI := St → Hp → (It → Hp → Prop) → Prop
/-- an iterator has come -/
def PIE (X : Cx) (pins : List (Addr × Obj)) (σ : St) (tg : Expr) (R : It → Hp → Prop) (itv : Value) (s2 : Shared) : Prop :=
  ∃ (it : Addr) (fp : List Addr) (tn : Nat → Heap → Prop) (J : It) (H' : Hp), itv = .ref it ∧ Inv X pins σ H' s2 ∧ Turn X.prog X.w X.K tg J fp it tn ∧ tn 0 s2.heap ∧ (∀ b ∈ fp, FpOk X pins H' b) ∧ R J H'
def PI (X : Cx) (tg iter : Expr) (wi : TI) : Prop :=
  ∀ (pins : List (Addr × Obj)) (s : Shared) (σ : St) (H : Hp) (R : It → Hp → Prop), Inv X pins σ H s → wi σ H R →
    wpAny (model X.prog X.w) X.A (eval iter X.env) (fun v s1 => wpAny (model X.prog X.w) X.A (pyIter v) (PIE X pins σ tg R) X.xe s1) X.xe s

/-- the step ahead of the store is nothing for an iterator that keeps no tuple -/
theorem go_of {M : Model} {A : Around} {E : Value → Shared → Prop} {s : Shared} {tg : Expr} {it : Addr} {u : Value} {o : Obj} {n : String} {vs : Array Value} {Q : Unit → Shared → Prop} (ho : s.heap.get? it = some o) (hc : o.cls = .type n) (hd : o.data = .fields vs)
    (hn : ["enumerate", "zip", "dict_itemiterator", "dict_reverseitemiterator", "odict_iterator", "itertools.zip_longest", "itertools.pairwise"].contains n = false) (hQ : Q () s) : wpAny M A (letOwnedTupleGo tg (.ref it) u) Q E s := by
  unfold letOwnedTupleGo
  cases tg <;> first
    | exact wpAny_pure hQ
    | (cases u <;> first
        | exact wpAny_pure hQ
        | (refine wpAny_bind (wpAny_load ho ?_)
           rw [hc, hd]
           show wpAny M A (if (["enumerate", "zip", "dict_itemiterator", "dict_reverseitemiterator", "odict_iterator", "itertools.zip_longest", "itertools.pairwise"].contains n && vs[0]? == some (rawInt _)) = true then _ else _) Q E s
           rw [if_neg (by intro h; rw [hn, Bool.false_and] at h; cases h)]
           exact wpAny_pure hQ))

/-- the list at a, as it stands at each turn (a loop may append to it) -/
def Itl (K : PySem.W.Frag) (a : Addr) : It :=
  ⟨fun i H => ∃ xs x, SqL K H a xs ∧ xs[i]? = some x, fun i H x H' => H' = H ∧ ∀ xs, SqL K H a xs → xs[i]? = some x, fun i H => ∃ xs, SqL K H a xs ∧ xs.length ≤ i⟩
def Itt (K : PySem.W.Frag) (a : Addr) : It :=
  ⟨fun i H => ∃ xs x, SqT K H a xs ∧ xs[i]? = some x, fun i H x H' => H' = H ∧ ∀ xs, SqT K H a xs → xs[i]? = some x, fun i H => ∃ xs, SqT K H a xs ∧ xs.length ≤ i⟩
/-- lo, lo + 1, .. (n of them) -/
def Itr (lo : Int) (n : Nat) : It := ⟨fun i _ => i < n, fun i H x H' => H' = H ∧ x = .int (lo + i), fun i _ => n ≤ i⟩
theorem turn_list {P : Program} {w : World} {K : PySem.W.Frag} {tg : Expr} (a it : Addr) : Turn P w K tg (Itl K a) [it] it (fun i h => h.IsListIter it a i) where
  mem := by simp
  obj := fun i h st b hb => by
    have e : b = it := by simpa using hb
    subst e
    obtain ⟨o, e, c, d⟩ := st
    exact ⟨o, e, fun v z => by rw [d] at z; cases z⟩
  keep := fun i h h' st k => st.at fun o e => k it (by simp) o e
  item := by
    intro X hP hw hK hc i pins s σ H E I hf st hg
    subst hP hw hK
    obtain ⟨xs, x, hq, hx⟩ := hg
    obtain ⟨its, rv, p, hz⟩ := I.list hq
    obtain ⟨u, hu, ru⟩ := rv.get hx
    obtain ⟨f0, f1, f2, f3, f4, f5⟩ := hf it (by simp)
    refine wpAny_pyNext_list_item st p.isList (x := u) (by simpa using hu) fun h' st' sb => ?_
    have I1 : Inv X pins σ H { s with heap := h' } := I.turned (t' := s.toks) (fun b o hb e => (sb.2 b hb).trans e) f0 f1 f3 f4 f5
    obtain ⟨o, e, c, d⟩ := id st'
    exact ⟨u, rfl, go_of (s := { s with heap := h' }) e c d (by decide) ⟨x, H, I1, ru, ⟨rfl, fun ys hy => by rw [I.list_inj hy hq]; exact hx⟩, st', fun b hb => (hf b hb).1⟩⟩
  done := by
    intro X hP hw hK hc i pins s σ H E I hf st hg
    subst hP hw hK
    obtain ⟨xs, hq, hx⟩ := hg
    obtain ⟨its, rv, p, hz⟩ := I.list hq
    obtain ⟨f0, f1, f2, f3, f4, f5⟩ := hf it (by simp)
    have hl := rv.length
    exact wpAny_pyNext_list_end (I.ok.hd hc) st p.isList (by simp; omega) fun h' eb => ⟨rfl, I.turned (t' := s.toks) (fun b o hb e => eb b o hb e) f0 f1 f3 f4 f5⟩
  self := fun _ _ _ _ _ st h => wpAny_pyIter_listiter st h
theorem turn_tuple {P : Program} {w : World} {K : PySem.W.Frag} {tg : Expr} (a it : Addr) : Turn P w K tg (Itt K a) [it] it (fun i h => h.IsTupleIter it a i) where
  mem := by simp
  obj := fun i h st b hb => by
    have e : b = it := by simpa using hb
    subst e
    obtain ⟨o, e, c, d⟩ := st
    exact ⟨o, e, fun v z => by rw [d] at z; cases z⟩
  keep := fun i h h' st k => st.at fun o e => k it (by simp) o e
  item := by
    intro X hP hw hK hc i pins s σ H E I hf st hg
    subst hP hw hK
    obtain ⟨xs, x, hq, hx⟩ := hg
    obtain ⟨its, rv, p, hz⟩ := I.tuple hq
    obtain ⟨u, hu, ru⟩ := rv.get hx
    obtain ⟨f0, f1, f2, f3, f4, f5⟩ := hf it (by simp)
    refine wpAny_pyNext_tuple_item st (show s.heap.IsTuple a its.toArray from p) (x := u) (by simpa using hu) fun h' st' sb => ?_
    have I1 : Inv X pins σ H { s with heap := h' } := I.turned (t' := s.toks) (fun b o hb e => (sb.2 b hb).trans e) f0 f1 f3 f4 f5
    obtain ⟨o, e, c, d⟩ := id st'
    exact ⟨u, rfl, go_of (s := { s with heap := h' }) e c d (by decide) ⟨x, H, I1, ru, ⟨rfl, fun ys hy => by rw [I.tuple_inj hy hq]; exact hx⟩, st', fun b hb => (hf b hb).1⟩⟩
  done := by
    intro X hP hw hK hc i pins s σ H E I hf st hg
    subst hP hw hK
    obtain ⟨xs, hq, hx⟩ := hg
    obtain ⟨its, rv, p, hz⟩ := I.tuple hq
    obtain ⟨f0, f1, f2, f3, f4, f5⟩ := hf it (by simp)
    have hl := rv.length
    exact wpAny_pyNext_tuple_end (I.ok.hd hc) st (show s.heap.IsTuple a its.toArray from p) (by simp; omega) fun h' eb => ⟨rfl, I.turned (t' := s.toks) (fun b o hb e => eb b o hb e) f0 f1 f3 f4 f5⟩
  self := fun _ _ _ _ _ st h => wpAny_pyIter_tupleiter st h
theorem turn_range {P : Program} {w : World} {K : PySem.W.Frag} {tg : Expr} (it : Addr) (lo : Int) (n : Nat) : Turn P w K tg (Itr lo n) [it] it (fun i h => IsRangeIter h it (lo + (i : Nat) * 1) ((n : Int) - (i : Nat)) 1) where
  mem := by simp
  obj := fun i h st b hb => by
    have e : b = it := by simpa using hb
    subst e
    exact ⟨_, st, fun v z => by
      have z' : Data.fields _ = Data.cell v := z
      cases z'⟩
  keep := fun i h h' st k => k it (by simp) _ st
  item := by
    intro X hP hw hK hc i pins s σ H E I hf st hg
    subst hP hw hK
    obtain ⟨f0, f1, f2, f3, f4, f5⟩ := hf it (by simp)
    have W := Walks.range (prog := X.prog) (w := X.w) (I.ok.hd hc) it lo 1 n
    refine W.item i s _ _ hg st fun v h' tk hv st' kk => ?_
    obtain ⟨t, rfl⟩ := hv
    have I1 : Inv X pins σ H { s with heap := h', toks := tk } := I.turned (fun b o hb e => kk b o (by simpa using hb) e) f0 f1 f3 f4 f5
    refine ⟨_, rfl, go_of (s := { s with heap := h', toks := tk }) (n := "range_iterator") st' rfl rfl (by decide) ⟨.int (lo + i), H, I1, ⟨t, ?_⟩, ⟨rfl, rfl⟩, st', fun b hb => (hf b hb).1⟩⟩
    rw [Int.mul_one]
  done := by
    intro X hP hw hK hc i pins s σ H E I hf st hg
    subst hP hw hK
    obtain ⟨f0, f1, f2, f3, f4, f5⟩ := hf it (by simp)
    exact wpAny_pyNext_range_end (I.ok.hd hc) st (by have : n ≤ i := hg; omega) fun h' eb => ⟨rfl, I.turned (t' := s.toks) (fun b o hb e => eb b o hb e) f0 f1 f3 f4 f5⟩
  self := fun _ _ _ _ _ st h => wpAny_pyIter_rangeiter st h
end L2

namespace L2
open PySem PySem.Spec PyProof.Rows
section
variable {X : Cx} {tg : Expr}
/-- a range object just made, walked -/
theorem range_it {pins : List (Addr × Obj)} {σ : St} {H : Hp} {s : Shared} {R : It → Hp → Prop} {E : Value → Shared → Prop} {lo hi : Int} {t u v : Tok} {tk : Nat} (I : Inv X pins σ H s) (h1 : -(2 ^ 62) ≤ lo) (h2 : lo < 2 ^ 62) (h3 : -(2 ^ 62) ≤ hi) (h4 : hi < 2 ^ 62)
    (q : R (Itr lo (hi - lo).toNat) H) : wpAny (model X.prog X.w) X.A (pyIter (.ref s.heap.objs.size)) (PIE X pins σ tg R) E { s with heap := s.heap.push { cls := .type "range", data := .fields #[.int lo t, .int hi u, .int 1 v] }, toks := tk } := by
  refine wpAny_pyIter_range (IsRange.new ..) (small_one h1 h2 h3 h4) ?_
  have I1 : Inv X pins σ H { s with heap := s.heap.push { cls := .type "range", data := .fields #[.int lo t, .int hi u, .int 1 v] }, toks := tk } := I.kept fun b o e => Heap.get?_push_of_some _ e
  refine ⟨(s.heap.push { cls := .type "range", data := .fields #[.int lo t, .int hi u, .int 1 v] }).objs.size, [(s.heap.push { cls := .type "range", data := .fields #[.int lo t, .int hi u, .int 1 v] }).objs.size], _, _, H, rfl,
    I1.kept (t' := tk) fun b o e => Heap.get?_push_of_some _ e, turn_range _ lo (hi - lo).toNat, ?_, fun b hb => ?_, q⟩
  · have e1 : lo + ((0 : Nat) : Int) * 1 = lo := by simp
    have e2 : (((hi - lo).toNat : Nat) : Int) - ((0 : Nat) : Int) = Builtin.Range.rangeSize lo hi 1 := by rw [rangeSize_one]; split <;> omega
    show IsRangeIter _ _ (lo + ((0 : Nat) : Int) * 1) ((((hi - lo).toNat : Nat) : Int) - ((0 : Nat) : Int)) 1
    rw [e1, e2]
    exact Heap.get?_push_size _ rfl
  · have e : b = (s.heap.push { cls := .type "range", data := .fields #[.int lo t, .int hi u, .int 1 v] }).objs.size := by simpa using hb
    subst e
    exact I1.fpOk (Nat.le_refl _) (I1.hok.fresh (Nat.le_refl _))
def iRng1 (ta : TA) : TI := fun σ H R => ta σ H fun vs H1 => ∃ j : Int, vs = [.int j] ∧ -(2 ^ 62) ≤ j ∧ j < 2 ^ 62 ∧ R (Itr 0 j.toNat) H1
theorem pi_range1 {a : Expr} {ta : TA} {p pos : Pos} (hg : Gl X "range") (hm : X.mg "range" = none) (ha : PA X [a] ta) (hs : starEach [a] X.env = [(false, eval a X.env)] := by rfl) : PI X tg (.Call (.Name "range" p) [a] [] pos) (iRng1 ta) := by
  intro pins s σ H R I h
  refine Call_ (ld_blt I hg hm boot_range (PyProof.Rows.callWith_type1 (thn (ha pos pins s σ H _ I h) fun us s1 ⟨vs, H1, I1, r1, q1⟩ => ?_) hs rfl))
  obtain ⟨j, e, q1, q2, q⟩ := q1
  subst e
  cases r1 with
  | cons r rr =>
    cases rr
    obtain ⟨t, rfl⟩ := r
    exact call_range_1 (range_it I1 (by omega) (by omega) q1 q2 (by simpa using q))
/-- W: the invariant by the turn and a measure; N: what the body is to reach -/
def tFor (wi : TI) (g : TG) (tb : TS) : TS := fun D σ H => wi σ H fun J H1 => ∃ W : Nat → Nat → St → Hp → Prop, (∃ m, W 0 m σ H1) ∧ ∀ i m σ H, W i m σ H →
  (J.stop i H ∧ D.nx σ H) ∨ (J.go i H ∧ ∃ N : St → Hp → Prop, (∀ σ' H', N σ' H' → ∃ m', m' < m ∧ W (i + 1) m' σ' H') ∧ ∀ x H', J.yld i H x H' → g x σ H' fun σ2 H2 => tb { D with nx := N, ct := N, bk := D.nx } σ2 H2)
/-- the records at fp as they stand -/
def pinsAt (fp : List Addr) (h : Heap) : List (Addr × Obj) := fp.filterMap fun b => (h.get? b).map fun o => (b, o)
theorem mem_pinsAt {fp : List Addr} {h : Heap} {b : Addr} {o : Obj} (hb : b ∈ fp) (e : h.get? b = some o) : (b, o) ∈ pinsAt fp h := List.mem_filterMap.mpr ⟨b, hb, by rw [e]; rfl⟩
theorem of_pinsAt {fp : List Addr} {h : Heap} {p : Addr × Obj} (hp : p ∈ pinsAt fp h) : p.1 ∈ fp ∧ h.get? p.1 = some p.2 := by
  obtain ⟨b, hb, e⟩ := List.mem_filterMap.mp hp
  cases q : h.get? b with
  | none => rw [q] at e; cases e
  | some o =>
    rw [q] at e
    have e' : (b, o) = p := Option.some.inj e
    subst e'
    exact ⟨hb, q⟩
theorem Inv.pinned {pins : List (Addr × Obj)} {σ : St} {H : Hp} {s : Shared} {fp : List Addr} (I : Inv X pins σ H s) (hf : ∀ b ∈ fp, FpOk X pins H b) (ho : ∀ b ∈ fp, ∃ o, s.heap.get? b = some o ∧ ∀ v, o.data ≠ .cell v) : Inv X (pins ++ pinsAt fp s.heap) σ H s :=
  I.pins_of fun p hp => (List.mem_append.mp hp).elim (fun z => I.pin p (List.mem_append_right _ z)) fun z => by
    obtain ⟨hb, e⟩ := of_pinsAt z
    obtain ⟨f0, f1, f2, _⟩ := hf p.1 hb
    obtain ⟨o, e', d⟩ := ho p.1 hb
    rw [e] at e'; cases e'
    exact ⟨e, f0, f1, f2, d⟩
theorem Inv.unpinned {pins pl : List (Addr × Obj)} {σ : St} {H : Hp} {s : Shared} (I : Inv X (pins ++ pl) σ H s) : Inv X pins σ H s := I.pins_of fun p hp => I.pin p (List.mem_append_right _ (List.mem_append_left _ hp))
theorem ps_for {iter : Expr} {body : List Stmt} {wi : TI} {g : TG} {tb : TS} {pos : Pos} (hp : PassesOwn (model X.prog X.w) X.A X.env X.xe) (hc : X.calm = true) (hi : PI X tg iter wi) (hg : PG X tg g) (hb : PSs X body tb)
    (hs : ∀ x, foldedSetIterable iter X.env x = pure x := by intro _; rfl) : PS X (.For tg iter body [] pos) (tFor wi g tb) := by
  intro pins s σ H D I h
  refine wpAny_For (thn (hi pins s σ H _ I h) fun v s1 h1 => thn h1 fun itv s2 h2 => ?_) hs
  obtain ⟨it, fp, tn, J, H2, e, I2, T, st2, f2, W, ⟨m0, w0⟩, turn⟩ := h2
  subst e
  -- what stays true of the iterator's objects through the loop
  have stat : ∀ {H' : Hp}, (∀ b ∈ fp, H' b = none) → ∀ b ∈ fp, FpOk X pins H' b := fun hn b hb => ⟨hn b hb, (f2 b hb).2⟩
  refine codeAny_forLoop_any (fun n s' => ∃ i σ' H', Inv X pins σ' H' s' ∧ tn i s'.heap ∧ (∀ b ∈ fp, H' b = none) ∧ W i n σ' H') ?_ m0 ⟨0, σ, H2, I2, st2, fun b hb => (f2 b hb).1, w0⟩
  rintro n s3 ⟨i, σ3, H3, I3, st3, fr3, w3⟩
  rcases turn i n σ3 H3 w3 with ⟨stop, qn⟩ | ⟨go, N, hN, step⟩
  · refine wpAny_passesOwn hp (thn (T.done X rfl rfl rfl hc i pins s3 σ3 H3 X.xe I3 (stat fr3) st3 stop) fun r s4 ⟨hr, I4⟩ => ?_)
    subst hr
    exact wpAny_execs_nil ⟨σ3, H3, I4, qn⟩
  · refine wpAny_passesOwn hp (thn (T.item X rfl rfl rfl hc i pins s3 σ3 H3 X.xe I3 (stat fr3) st3 go) fun r s4 ⟨u, hr, h4⟩ => ?_)
    subst hr
    refine wpAny_passesOwn hp (thn h4 fun _ s5 ⟨x, H5, I5, r5, y5, st5, fr5⟩ => ?_)
    have I5' := I5.pinned (stat fr5) (T.obj _ _ st5)
    refine wpAny_passesOwn hp (thn (hg _ s5 σ3 H5 x u _ I5' r5 (step x H5 y5)) fun _ s6 ⟨σ6, H6, I6, q6⟩ => ?_)
    refine wpAny_passesOwn hp (thn (hb _ s6 σ6 H6 _ I6 q6) fun f s7 q7 => ?_)
    have again : ∀ {σ7 : St} {H7 : Hp}, Inv X (pins ++ pinsAt fp s5.heap) σ7 H7 s7 → N σ7 H7 → ∃ m, m < n ∧ ∃ i σ' H', Inv X pins σ' H' s7 ∧ tn i s7.heap ∧ (∀ b ∈ fp, H' b = none) ∧ W i m σ' H' := fun {σ7 H7} I7 n7 => by
      obtain ⟨m', hm, w7⟩ := hN σ7 H7 n7
      refine ⟨m', hm, i + 1, σ7, H7, I7.unpinned, T.keep _ _ _ st5 fun b hb o e => (I7.pin (b, o) (List.mem_append_right _ (List.mem_append_right _ (mem_pinsAt hb e)))).1, fun b hb => ?_, w7⟩
      obtain ⟨o, e, d⟩ := T.obj _ _ st5 b hb
      exact (I7.pin (b, o) (List.mem_append_right _ (List.mem_append_right _ (mem_pinsAt hb e)))).2.1
    cases f with
    | next => obtain ⟨σ7, H7, I7, n7⟩ := q7; exact again I7 n7
    | cont => obtain ⟨σ7, H7, I7, n7⟩ := q7; exact again I7 n7
    | brk => obtain ⟨σ7, H7, I7, q7⟩ := q7; exact ⟨σ7, H7, I7.unpinned, q7⟩
    | ret v => obtain ⟨x7, σ7, H7, I7, r7, q7⟩ := q7; exact ⟨x7, σ7, H7, I7.unpinned, r7, q7⟩
end

theorem for_tup {K : PySem.W.Frag} {a : Addr} {xs : List V} {g : TG} {tb : TS} {D : Ends} {σ : St} {H : Hp} (Pv : Nat → St → Hp → Prop) (h0 : Pv 0 σ H) (hl : ∀ i σ H, i ≤ xs.length → Pv i σ H → SqT K H a xs)
    (hs : ∀ i x σ H, xs[i]? = some x → Pv i σ H → g x σ H fun σ2 H2 => tb { D with nx := Pv (i + 1), ct := Pv (i + 1), bk := D.nx } σ2 H2) (hd : ∀ σ H, Pv xs.length σ H → D.nx σ H) :
    ∃ W : Nat → Nat → St → Hp → Prop, (∃ m, W 0 m σ H) ∧ ∀ i m σ H, W i m σ H →
      ((Itt K a).stop i H ∧ D.nx σ H) ∨ ((Itt K a).go i H ∧ ∃ N : St → Hp → Prop, (∀ σ' H', N σ' H' → ∃ m', m' < m ∧ W (i + 1) m' σ' H') ∧ ∀ x H', (Itt K a).yld i H x H' → g x σ H' fun σ2 H2 => tb { D with nx := N, ct := N, bk := D.nx } σ2 H2) := by
  refine ⟨fun i m σ H => m = xs.length - i ∧ i ≤ xs.length ∧ Pv i σ H, ⟨xs.length, by simp, Nat.zero_le _, h0⟩, ?_⟩
  rintro i m σ H ⟨rfl, hi, p⟩
  have q := hl i σ H hi p
  by_cases hlt : i < xs.length
  · refine .inr ⟨⟨xs, xs[i], q, by simp [hlt]⟩, Pv (i + 1), fun σ' H' p' => ⟨xs.length - (i + 1), by omega, rfl, hlt, p'⟩, fun x H' y => ?_⟩
    obtain ⟨e, y⟩ := y
    subst e
    exact hs i x σ _ (y xs q) p
  · have e : i = xs.length := by omega
    subst e
    exact .inl ⟨⟨xs, q, Nat.le_refl _⟩, hd σ H p⟩
theorem for_range {lo : Int} {n : Nat} {g : TG} {tb : TS} {D : Ends} {σ : St} {H : Hp} (Pv : Nat → St → Hp → Prop) (h0 : Pv 0 σ H)
    (hs : ∀ i σ H, i < n → Pv i σ H → g (.int (lo + i)) σ H fun σ2 H2 => tb { D with nx := Pv (i + 1), ct := Pv (i + 1), bk := D.nx } σ2 H2) (hd : ∀ σ H, Pv n σ H → D.nx σ H) :
    ∃ W : Nat → Nat → St → Hp → Prop, (∃ m, W 0 m σ H) ∧ ∀ i m σ H, W i m σ H →
      ((Itr lo n).stop i H ∧ D.nx σ H) ∨ ((Itr lo n).go i H ∧ ∃ N : St → Hp → Prop, (∀ σ' H', N σ' H' → ∃ m', m' < m ∧ W (i + 1) m' σ' H') ∧ ∀ x H', (Itr lo n).yld i H x H' → g x σ H' fun σ2 H2 => tb { D with nx := N, ct := N, bk := D.nx } σ2 H2) := by
  refine ⟨fun i m σ H => m = n - i ∧ i ≤ n ∧ Pv i σ H, ⟨n, by simp, Nat.zero_le _, h0⟩, ?_⟩
  rintro i m σ H ⟨rfl, hi, p⟩
  by_cases hlt : i < n
  · refine .inr ⟨hlt, Pv (i + 1), fun σ' H' p' => ⟨n - (i + 1), by omega, rfl, hlt, p'⟩, fun x H' y => ?_⟩
    obtain ⟨e, y⟩ := y
    subst e y
    exact hs i σ _ hlt p
  · have e : i = n := by omega
    subst e
    exact .inl ⟨Nat.le_refl _, hd σ H p⟩
end L2

namespace L2
open PySem PySem.Spec PyProof.Rows

abbrev R2 := V → V → Hp → VK → Prop
/-- a two-place operation on values: f is binaryOp op, inplaceOp op or compareOp op -/
def OpR (X : Cx) (f : Value → Value → Sem Value) (r : R2) : Prop :=
  ∀ (pins : List (Addr × Obj)) (s : Shared) (σ : St) (H : Hp) (x y : V) (v u : Value) (Q : VK), Inv X pins σ H s → RelV x v → RelV y u → r x y H Q →
    wpAny (model X.prog X.w) X.A (f v u) (EP X pins σ Q) X.xe s
/-- a call of a value that is known (a builtin, a type) with values -/
def CallR (X : Cx) (f : Value) (r : List V → Hp → VK → Prop) : Prop :=
  ∀ (pins : List (Addr × Obj)) (s : Shared) (σ : St) (H : Hp) (xs : List V) (us : List Value) (Q : VK), Inv X pins σ H s → Vals xs us → r xs H Q →
    wpAny (model X.prog X.w) X.A (call f us) (EP X pins σ Q) X.xe s
/-- a value's truth -/
def TruR (X : Cx) (r : V → Hp → (Bool → Hp → Prop) → Prop) : Prop :=
  ∀ (pins : List (Addr × Obj)) (s : Shared) (σ : St) (H : Hp) (x : V) (v : Value) (Q : Bool → Hp → Prop), Inv X pins σ H s → RelV x v → r x H Q →
    wpAny (model X.prog X.w) X.A (truthy v) (TP X pins σ Q) X.xe s

def tOp (r : R2) (ta tb : TE) : TE := fun σ H Q => ta σ H fun x H1 => tb σ H1 fun y H2 => r x y H2 Q
/-- ints in, under C, and a value out -/
def rI (C : Int → Int → Prop) (g : Int → Int → V) : R2 := fun x y H Q => ∃ i j, x = .int i ∧ y = .int j ∧ C i j ∧ Q (g i j) H
def rI0 (g : Int → Int → V) : R2 := fun x y H Q => ∃ i j, x = .int i ∧ y = .int j ∧ Q (g i j) H
section
variable {X : Cx} {a b c : Expr} {ta tb tc : TE} {pos : Pos}

theorem binT (ha : PE X a ta) (hb : PE X b tb) {pins : List (Addr × Obj)} {s : Shared} {σ : St} {H : Hp} {R : V → V → Hp → Prop} (I : Inv X pins σ H s)
    (h : ta σ H fun x H1 => tb σ H1 fun y H2 => R x y H2) {Q : Value → Shared → Prop} {f : Value → Value → Sem Value}
    (hf : ∀ v u s2 x y H2, Inv X pins σ H2 s2 → RelV x v → RelV y u → R x y H2 → wpAny (model X.prog X.w) X.A (f v u) Q X.xe s2) :
    wpAny (model X.prog X.w) X.A (eval a X.env) (fun v s₁ => wpAny (model X.prog X.w) X.A (eval b X.env) (fun u s₂ => wpAny (model X.prog X.w) X.A (f v u) Q X.xe s₂) X.xe s₁) X.xe s := by
  refine thn (ha pins s σ H _ I h) fun v s1 ⟨x, H1, I1, r1, q1⟩ => ?_
  refine thn (hb pins s1 σ H1 _ I1 q1) fun u s2 ⟨y, H2, I2, r2, q2⟩ => ?_
  exact hf v u s2 x y H2 I2 r1 r2 q2

theorem pe_op {op : Operator} {r : R2} (ho : OpR X (binaryOp op) r) (ha : PE X a ta) (hb : PE X b tb) : PE X (.BinOp a op b pos) (tOp r ta tb) := by
  intro pins s σ H Q I h
  exact wpAny_BinOp (binT ha hb I h fun v u s2 x y H2 I2 rx ry q => ho pins s2 σ H2 x y v u Q I2 rx ry q)
theorem opI {f : Value → Value → Sem Value} {C : Int → Int → Prop} {g : Int → Int → Int}
    (rule : ∀ (i j : Int) (t u : Tok) (s : Shared) (Q : Value → Shared → Prop) (E : Value → Shared → Prop), C i j → Q (.int (g i j) s.toks) { s with toks := s.toks + 1 } → wpAny (model X.prog X.w) X.A (f (.int i t) (.int j u)) Q E s) :
    OpR X f (rI C fun i j => .int (g i j)) := by
  intro pins s σ H x y v u Q I rx ry h
  obtain ⟨i, j, rfl, rfl, hc, q⟩ := h
  obtain ⟨t, rfl⟩ := rx
  obtain ⟨t', rfl⟩ := ry
  exact rule i j t t' s _ _ hc ⟨.int (g i j), H, I.tok _, ⟨_, rfl⟩, q⟩
theorem opI0 {f : Value → Value → Sem Value} {g : Int → Int → Int}
    (rule : ∀ (i j : Int) (t u : Tok) (s : Shared) (Q : Value → Shared → Prop) (E : Value → Shared → Prop), Q (.int (g i j) s.toks) { s with toks := s.toks + 1 } → wpAny (model X.prog X.w) X.A (f (.int i t) (.int j u)) Q E s) :
    OpR X f (rI0 fun i j => .int (g i j)) := by
  intro pins s σ H x y v u Q I rx ry h
  obtain ⟨i, j, rfl, rfl, q⟩ := h
  obtain ⟨t, rfl⟩ := rx
  obtain ⟨t', rfl⟩ := ry
  exact rule i j t t' s _ _ ⟨.int (g i j), H, I.tok _, ⟨_, rfl⟩, q⟩
theorem opB0 {f : Value → Value → Sem Value} {g : Int → Int → Bool}
    (rule : ∀ (i j : Int) (t u : Tok) (s : Shared) (Q : Value → Shared → Prop) (E : Value → Shared → Prop), Q (.bool (g i j)) s → wpAny (model X.prog X.w) X.A (f (.int i t) (.int j u)) Q E s) :
    OpR X f (rI0 fun i j => .bl (g i j)) := by
  intro pins s σ H x y v u Q I rx ry h
  obtain ⟨i, j, rfl, rfl, q⟩ := h
  obtain ⟨t, rfl⟩ := rx
  obtain ⟨t', rfl⟩ := ry
  exact rule i j t t' s _ _ ⟨.bl (g i j), H, I, rfl, q⟩

def CPow (i j : Int) : Prop := 0 ≤ j ∧ j ≤ 1000000 ∧ i.natAbs < 2 ^ 64
def CMul (i j : Int) : Prop := (-(2 ^ 64) < i ∧ i < 2 ^ 64) ∨ (-(2 ^ 64) < j ∧ j < 2 ^ 64)
theorem CMul.ok {i j : Int} (h : CMul i j) : IntMulOk i j := by
  rcases h with ⟨h1, h2⟩ | ⟨h1, h2⟩
  · exact .of_left (intBits_le_64 h1 h2)
  · exact .of_right (intBits_le_64 h1 h2)
theorem two_pow_nn (k : Nat) : (0 : Int) ≤ 2 ^ k := by
  rw [two_pow_cast]
  exact Int.natCast_nonneg _

theorem op_add : OpR X (binaryOp .Add) (rI0 fun i j => .int (i + j)) := opI0 fun _ _ _ _ _ _ _ q => add_int q
theorem op_mul : OpR X (binaryOp .Mult) (rI CMul fun i j => .int (i * j)) := opI fun _ _ _ _ _ _ _ hc q => mul_int q hc.ok
/-- % by a positive divisor of any size -/
theorem op_mod : OpR X (binaryOp .Mod) (rI (fun _ j => 0 < j) fun i j => .int (i % j)) := opI fun i j _ _ _ _ _ hc q => by
  have h1 : (0 : Int) < j := hc
  exact mod_int' (by omega) (by rw [Int.fmod_eq_emod_of_nonneg i (by omega)]; exact q)
theorem op_shl : OpR X (binaryOp .LShift) (rI CPow fun i j => .int (i * 2 ^ j.toNat)) := opI fun _ _ _ _ _ _ _ hc q => lshift_int_small hc.1 hc.2.1 hc.2.2 q
theorem op_shr : OpR X (binaryOp .RShift) (rI (fun _ j => 0 ≤ j) fun i j => .int (i / 2 ^ j.toNat)) := opI fun i j _ _ _ _ _ hc q =>
  rshift_int hc (by rw [Int.fdiv_eq_ediv_of_nonneg i (two_pow_nn _)]; exact q)
theorem op_and : OpR X (binaryOp .BitAnd) (rI0 fun i j => .int (Builtin.bitAnd i j)) := opI0 fun _ _ _ _ _ _ _ q => and_int q
theorem op_or : OpR X (binaryOp .BitOr) (rI0 fun i j => .int (Builtin.bitOr i j)) := opI0 fun _ _ _ _ _ _ _ q => or_int q
end

/-- the scalars that == tells apart as data does -/
def scal : V → V → Bool
  | .non, .non => true | .non, .int _ => true | .int _, .non => true | .non, .bl _ => true | .bl _, .non => true | .non, .str _ => true | .str _, .non => true
  | .int _, .int _ => true | .bl _, .bl _ => true | .str _, .str _ => true | .byt _, .byt _ => true
  | .int _, .str _ => true | .str _, .int _ => true | .bl _, .str _ => true | .str _, .bl _ => true
  | _, _ => false
def rEq : R2 := fun x y H Q => scal x y = true ∧ Q (.bl (decide (x = y))) H
def rNe : R2 := fun x y H Q => scal x y = true ∧ Q (.bl (!decide (x = y))) H

theorem dec_int {i j : Int} : decide (V.int i = V.int j) = (i == j) := by
  rw [Bool.eq_iff_iff]
  simp
theorem dec_bl {i j : Bool} : decide (V.bl i = V.bl j) = (i == j) := by
  rw [Bool.eq_iff_iff]
  simp
theorem dec_str {i j : Str} : decide (V.str i = V.str j) = (i == j) := by
  rw [Bool.eq_iff_iff]
  simp
theorem dec_byt {i j : Array UInt8} : decide (V.byt i = V.byt j) = (i.toList == j.toList) := by
  rw [Bool.eq_iff_iff]
  cases i
  cases j
  simp

section
variable {X : Cx} {a b c : Expr} {ta tb tc : TE} {pos : Pos}
theorem fin_bl {pins : List (Addr × Obj)} {σ : St} {H : Hp} {s : Shared} {Q : VK} {k k' : Bool} (I : Inv X pins σ H s) (q : Q (.bl k) H) (e : k = k') : EP X pins σ Q (.bool k') s := by
  subst e
  exact ⟨.bl k, H, I, rfl, q⟩
theorem op_eq : OpR X (compareOp .Eq) rEq := by
  intro pins s σ H x y v u Q I rx ry h
  obtain ⟨hs, q⟩ := h
  cases x with
  | non =>
    cases rx
    cases y with
    | non => cases ry; exact PySem.EqNone.eq_none_none (fin_bl I q (by simp))
    | bl j => cases ry; exact PySem.EqNone.eq_none_bool (fin_bl I q (by simp))
    | int j => obtain ⟨t', rfl⟩ := ry; exact PySem.EqNone.eq_none_int (fin_bl I q (by simp))
    | str j => obtain ⟨t', rfl⟩ := ry; exact PySem.EqNone.eq_none_str (fin_bl I q (by simp))
    | _ => exact absurd (show false = true from hs) Bool.false_ne_true
  | bl i =>
    cases rx
    cases y with
    | non => cases ry; exact PySem.EqNone.eq_bool_none (fin_bl I q (by simp))
    | bl j => cases ry; exact eq_bool (fin_bl I q dec_bl)
    | str j => obtain ⟨t', rfl⟩ := ry; exact PySem.EqMixed.eq_bool_str (fin_bl I q (by simp))
    | _ => exact absurd (show false = true from hs) Bool.false_ne_true
  | int i =>
    obtain ⟨t, rfl⟩ := rx
    cases y with
    | non => cases ry; exact PySem.EqNone.eq_int_none (fin_bl I q (by simp))
    | int j => obtain ⟨t', rfl⟩ := ry; exact eq_int (fin_bl I q dec_int)
    | str j => obtain ⟨t', rfl⟩ := ry; exact PySem.EqMixed.eq_int_str (fin_bl I q (by simp))
    | _ => exact absurd (show false = true from hs) Bool.false_ne_true
  | str i =>
    obtain ⟨t, rfl⟩ := rx
    cases y with
    | non => cases ry; exact PySem.EqNone.eq_str_none (fin_bl I q (by simp))
    | bl j => cases ry; exact PySem.EqMixed.eq_str_bool (fin_bl I q (by simp))
    | int j => obtain ⟨t', rfl⟩ := ry; exact PySem.EqMixed.eq_str_int (fin_bl I q (by simp))
    | str j => obtain ⟨t', rfl⟩ := ry; exact eq_str (fin_bl I q dec_str)
    | _ => exact absurd (show false = true from hs) Bool.false_ne_true
  | byt i =>
    obtain ⟨t, rfl⟩ := rx
    cases y with
    | byt j => obtain ⟨t', rfl⟩ := ry; exact PySem.W.eq_bytes (fin_bl I q dec_byt)
    | _ => exact absurd (show false = true from hs) Bool.false_ne_true
  | _ => cases y <;> exact absurd (show false = true from hs) Bool.false_ne_true
theorem op_ne : OpR X (compareOp .NotEq) rNe := by
  intro pins s σ H x y v u Q I rx ry h
  obtain ⟨hs, q⟩ := h
  cases x with
  | non =>
    cases rx
    cases y with
    | non => cases ry; exact PySem.EqNone.ne_none_none (fin_bl I q (by simp))
    | bl j => cases ry; exact PySem.EqNone.ne_none_bool (fin_bl I q (by simp))
    | int j => obtain ⟨t', rfl⟩ := ry; exact PySem.EqNone.ne_none_int (fin_bl I q (by simp))
    | str j => obtain ⟨t', rfl⟩ := ry; exact PySem.EqNone.ne_none_str (fin_bl I q (by simp))
    | _ => exact absurd (show false = true from hs) Bool.false_ne_true
  | bl i =>
    cases rx
    cases y with
    | non => cases ry; exact PySem.EqNone.ne_bool_none (fin_bl I q (by simp))
    | bl j => cases ry; exact ne_bool (fin_bl I q (congrArg not dec_bl))
    | str j => obtain ⟨t', rfl⟩ := ry; exact PySem.EqMixed.ne_bool_str (fin_bl I q (by simp))
    | _ => exact absurd (show false = true from hs) Bool.false_ne_true
  | int i =>
    obtain ⟨t, rfl⟩ := rx
    cases y with
    | non => cases ry; exact PySem.EqNone.ne_int_none (fin_bl I q (by simp))
    | int j => obtain ⟨t', rfl⟩ := ry; exact ne_int (fin_bl I q (congrArg not dec_int))
    | str j => obtain ⟨t', rfl⟩ := ry; exact PySem.EqMixed.ne_int_str (fin_bl I q (by simp))
    | _ => exact absurd (show false = true from hs) Bool.false_ne_true
  | str i =>
    obtain ⟨t, rfl⟩ := rx
    cases y with
    | non => cases ry; exact PySem.EqNone.ne_str_none (fin_bl I q (by simp))
    | bl j => cases ry; exact PySem.EqMixed.ne_str_bool (fin_bl I q (by simp))
    | int j => obtain ⟨t', rfl⟩ := ry; exact PySem.EqMixed.ne_str_int (fin_bl I q (by simp))
    | str j => obtain ⟨t', rfl⟩ := ry; exact ne_str (fin_bl I q (congrArg not dec_str))
    | _ => exact absurd (show false = true from hs) Bool.false_ne_true
  | byt i =>
    obtain ⟨t, rfl⟩ := rx
    cases y with
    | byt j => obtain ⟨t', rfl⟩ := ry; exact PySem.W.ne_bytes (fin_bl I q (congrArg not dec_byt))
    | _ => exact absurd (show false = true from hs) Bool.false_ne_true
  | _ => cases y <;> exact absurd (show false = true from hs) Bool.false_ne_true

theorem op_lt : OpR X (compareOp .Lt) (rI0 fun i j => .bl (decide (i < j))) := opB0 fun _ _ _ _ _ _ _ q => lt_int q
theorem op_gt : OpR X (compareOp .Gt) (rI0 fun i j => .bl (decide (j < i))) := opB0 fun _ _ _ _ _ _ _ q => gt_int q
/-- is None, is not None: the right side a value none -/
theorem op_isN : OpR X (compareOp .Is) (fun x y H Q => y = .non ∧ Q (.bl (decide (x = .non))) H) := by
  intro pins s σ H x y v u Q I rx ry h
  obtain ⟨rfl, q⟩ := h
  cases ry
  refine is_none_gen (fin_bl I q ?_)
  cases x <;> first
    | (cases rx; rfl)
    | (obtain ⟨t, rfl⟩ := rx; rfl)
theorem op_notin_str : OpR X (compareOp .NotIn) (fun x y H Q => ∃ i j, x = .str i ∧ y = .str j ∧ Q (.bl (!(!(Builtin.Str.occurrences j i 0 j.length 1).isEmpty))) H) := by
  intro pins s σ H x y v u Q I rx ry h
  obtain ⟨i, j, rfl, rfl, q⟩ := h
  obtain ⟨t, rfl⟩ := rx
  obtain ⟨t', rfl⟩ := ry
  exact notIn_str (fin_bl I q rfl)
/-- two rules for one operation: by cases -/
theorem OpR.or {f : Value → Value → Sem Value} {r r' : R2} (h : OpR X f r) (h' : OpR X f r') : OpR X f (fun x y H Q => r x y H Q ∨ r' x y H Q) := by
  intro pins s σ H x y v u Q I rx ry q
  rcases q with q | q
  · exact h pins s σ H x y v u Q I rx ry q
  · exact h' pins s σ H x y v u Q I rx ry q

theorem nomark (b : Expr) {op : CmpOp} (h : op ≠ .In := by decide) (h2 : op ≠ .NotIn := by decide) : behindInMarks op b = false := by
  have e1 : (op == CmpOp.In) = false := by cases op <;> first | rfl | exact absurd rfl h
  have e2 : (op == CmpOp.NotIn) = false := by cases op <;> first | rfl | exact absurd rfl h2
  cases b <;> simp [behindInMarks, e1, e2]
/-- a comparison as a value; hm: nomark b, or (for in, not in) by with_unfolding_all rfl -/
theorem pe_cmpR {op : CmpOp} {r : R2} (ho : OpR X (compareOp op) r) (ha : PE X a ta) (hb : PE X b tb) (hm : behindInMarks op b = false) : PE X (.Compare a [op] [b] pos) (tOp r ta tb) := by
  intro pins s σ H Q I h
  exact wpAny_Compare1 (binT ha hb I h fun v u s2 x y H2 I2 rx ry q => ho pins s2 σ H2 x y v u Q I2 rx ry q) hm
/-- a reading of a value as a test -/
def tTest (t : TE) : TT := fun σ H Q => t σ H fun x H' => ∃ k, x = .bl k ∧ Q k H'
theorem pt_cmpR {op : CmpOp} {r : R2} (ho : OpR X (compareOp op) r) (ha : PE X a ta) (hb : PE X b tb) (hm : behindInMarks op b = false) : PT X (.Compare a [op] [b] pos) (tTest (tOp r ta tb)) := by
  intro pins s σ H Q I h
  refine wpAny_isTrue_Compare1 (thn (ha pins s σ H _ I h) fun v s1 ⟨x, H1, I1, r1, q1⟩ => thn (hb pins s1 σ H1 _ I1 q1) fun u s2 ⟨y, H2, I2, r2, q2⟩ =>
    thn (ho pins s2 σ H2 x y v u _ I2 r1 r2 q2) fun c s3 ⟨z, H3, I3, r3, k, e, q3⟩ => ?_) hm
  subst e
  cases r3
  exact wpAny_truthy_bool ⟨H3, I3, q3⟩
/-- a value's truth by the abstract heap -/
def TruV (K : PySem.W.Frag) (x : V) (H : Hp) (k : Bool) : Prop :=
  match x with
  | .non => k = false
  | .bl b => k = b
  | .int i => k = (i != 0)
  | .str y => y.length ≤ sizeLine ∧ k = ((y.length : Int) != 0)
  | .byt y => y.size ≤ sizeLine ∧ k = ((y.size : Int) != 0)
  | .ref p => (∃ xs, SqL K H p xs ∧ k = !xs.isEmpty) ∨ (∃ xs, SqT K H p xs ∧ k = !xs.isEmpty) ∨ ∃ kvs, H p = some (.dK kvs) ∧ k = !kvs.isEmpty
  | _ => False
theorem isEmpty_kv {κ : Type} {kvs : List (κ × V)} {vs : List (κ × Value)} (r : KV kvs vs) : (!vs.isEmpty) = !kvs.isEmpty := by
  cases r <;> rfl
theorem isEmpty_of {xs : List V} {its : List Value} (r : Vals xs its) : (!its.toArray.isEmpty) = !xs.isEmpty := by
  cases r <;> simp
theorem line63 : (sizeLine : Nat) < 2 ^ 63 := by rw [sizeLine_eq]; decide
theorem tru_ok : TruR X (fun x H Q => ∃ k, TruV X.K x H k ∧ Q k H) := by
  intro pins s σ H x v Q I rx h
  obtain ⟨k, e, q⟩ := h
  have hl := line63
  have hs : sizeLine = 16777216 := sizeLine_eq
  cases x with
  | non =>
    cases rx
    have e' : k = false := e
    subst e'
    exact truthy_none ⟨H, I, q⟩
  | bl b =>
    cases rx
    have e' : k = b := e
    subst e'
    exact wpAny_truthy_bool ⟨H, I, q⟩
  | int i =>
    obtain ⟨t, rfl⟩ := rx
    have e' : k = (i != 0) := e
    subst e'
    exact PySem.P.truthy_int ⟨H, I, q⟩
  | str y =>
    obtain ⟨t, rfl⟩ := rx
    obtain ⟨hy, e'⟩ : y.length ≤ sizeLine ∧ k = ((y.length : Int) != 0) := e
    subst e'
    exact PySem.P.truthy_str (by omega) ⟨H, I.tok _, q⟩
  | byt y =>
    obtain ⟨t, rfl⟩ := rx
    obtain ⟨hy, e'⟩ : y.size ≤ sizeLine ∧ k = ((y.size : Int) != 0) := e
    subst e'
    exact PySem.W.truthy_bytes (by omega) ⟨H, I.tok _, q⟩
  | ref p =>
    cases rx
    have e' : (∃ xs, SqL X.K H p xs ∧ k = !xs.isEmpty) ∨ (∃ xs, SqT X.K H p xs ∧ k = !xs.isEmpty) ∨ ∃ kvs, H p = some (.dK kvs) ∧ k = !kvs.isEmpty := e
    rcases e' with ⟨xs, hx, e'⟩ | ⟨xs, hx, e'⟩ | ⟨kvs, hx, e'⟩
    · subst e'
      obtain ⟨its, r, pl, hz⟩ := I.list hx
      have hlen := r.length
      exact wpAny_truthy_list pl.isList (by simp only [List.size_toArray]; omega) ⟨H, I.tok _, by rw [isEmpty_of r]; exact q⟩
    · subst e'
      obtain ⟨its, r, pl, hz⟩ := I.tuple hx
      have hlen := r.length
      exact truthy_tuple pl (by simp only [List.size_toArray]; omega) ⟨H, I.tok _, by rw [isEmpty_of r]; exact q⟩
    · subst e'
      obtain ⟨hz, hS, vs, r, m⟩ : kvs.length ≤ sizeLine ∧ (p == sysModules) = false ∧ ∃ vs, KV kvs vs ∧ s.heap.DictOf (mixKind X.prog X.w) p vs := I.hok p _ hx
      have hlen : kvs.length = vs.length := Paired.length r
      exact wpAny_truthy_dict hS m (by omega) ⟨H, I.tok _, by rw [isEmpty_kv r]; exact q⟩
  | _ => exact (show False from e).elim
/-- any expression whose test is its value's truth (a name, a call, a subscript, a field ..: he by fun _ => rfl) -/
theorem pt_truth (ha : PE X a ta) (he : ∀ whole, isTrue a X.env whole = (do let v ← whole; standAt a.pos; holding [v] (truthy v))) :
    PT X a (fun σ H Q => ta σ H fun x H' => ∃ k, TruV X.K x H' k ∧ Q k H') := by
  intro pins s σ H Q I h
  exact isTrue_plain (thn (ha pins s σ H _ I h) fun v s1 ⟨x, H1, I1, r1, q1⟩ => tru_ok pins s1 σ H1 x v Q I1 r1 q1) (he _)

theorem op_add_str : OpR X (binaryOp .Add) (fun x y H Q => ∃ i j, x = .str i ∧ y = .str j ∧ i.length + j.length ≤ sizeLine ∧ Q (.str (i ++ j)) H) := by
  intro pins s σ H x y v u Q I rx ry h
  obtain ⟨i, j, rfl, rfl, hz, q⟩ := h
  obtain ⟨t, rfl⟩ := rx
  obtain ⟨t', rfl⟩ := ry
  exact add_str (fun t' tk => ⟨.str (i ++ j), H, I.tok _, ⟨_, rfl⟩, q⟩) hz
theorem vals1 {x : V} {us : List Value} (r : Vals [x] us) : ∃ u, us = [u] ∧ RelV x u := by
  cases r with
  | cons r1 r2 => cases r2; exact ⟨_, rfl, r1⟩
theorem vals2 {x y : V} {us : List Value} (r : Vals [x, y] us) : ∃ u w', us = [u, w'] ∧ RelV x u ∧ RelV y w' := by
  cases r with
  | cons r1 r2 =>
    cases r2 with
    | cons r3 r4 => cases r4; exact ⟨_, _, rfl, r1, r3⟩
/-- len of a str, a bytes, a list, a tuple -/
def LenV (K : PySem.W.Frag) (x : V) (H : Hp) (n : Nat) : Prop :=
  match x with
  | .str y => y.length ≤ sizeLine ∧ n = y.length
  | .byt y => y.size ≤ sizeLine ∧ n = y.size
  | .ref p => (∃ xs, SqL K H p xs ∧ n = xs.length) ∨ ∃ xs, SqT K H p xs ∧ n = xs.length
  | _ => False
theorem call_len : CallR X (.builtin "len") (fun xs H Q => ∃ x n, xs = [x] ∧ LenV X.K x H n ∧ Q (.int n) H) := by
  intro pins s σ H xs us Q I r h
  obtain ⟨x, n, rfl, e, q⟩ := h
  obtain ⟨u, rfl, rx⟩ := vals1 r
  have hl := line63
  have hs : sizeLine = 16777216 := sizeLine_eq
  cases x with
  | str y =>
    obtain ⟨t, rfl⟩ := rx
    obtain ⟨hy, e'⟩ : y.length ≤ sizeLine ∧ n = y.length := e
    subst e'
    exact len_str (by omega) ⟨.int _, H, I.tok _, ⟨_, rfl⟩, q⟩
  | byt y =>
    obtain ⟨t, rfl⟩ := rx
    obtain ⟨hy, e'⟩ : y.size ≤ sizeLine ∧ n = y.size := e
    subst e'
    exact PySem.W.len_bytes (by omega) ⟨.int _, H, I.tok _, ⟨_, rfl⟩, q⟩
  | ref p =>
    cases rx
    have e' : (∃ xs, SqL X.K H p xs ∧ n = xs.length) ∨ ∃ xs, SqT X.K H p xs ∧ n = xs.length := e
    rcases e' with ⟨xs, hx, e'⟩ | ⟨xs, hx, e'⟩
    · subst e'
      obtain ⟨its, r', pl, hz⟩ := I.list hx
      have hlen := r'.length
      exact Calls.call_len_list pl.isList (by simp only [List.size_toArray]; omega) ⟨.int xs.length, H, I.tok _, ⟨_, by simp only [List.size_toArray]; rw [hlen]⟩, q⟩
    · subst e'
      obtain ⟨its, r', pl, hz⟩ := I.tuple hx
      have hlen := r'.length
      exact len_tuple pl (by simp only [List.size_toArray]; omega) ⟨.int xs.length, H, I.tok _, ⟨_, by simp only [List.size_toArray]; rw [hlen]⟩, q⟩
  | _ => exact (show False from e).elim
end
end L2

namespace L2
open PySem PySem.Spec PyProof.Rows

structure ObjM (h : Heap) (x dx C : Addr) (mA : Str → Option Value) : Prop where
  obj : h.get? x = some (PySem.W.instObj C dx)
  ns : h.Ns1 dx mA
  ne : dx ≠ x

theorem lookIn_ns {h : Heap} {dx : Addr} {mA : Str → Option Value} (n : h.Ns1 dx mA) : ∃ od, h.get? dx = some od ∧ ∀ name, PySem.W.lookIn name od = some (mA name) := by
  obtain ⟨o, es, ep, ho, hd, hk, _, hm⟩ := n
  refine ⟨o, ho, fun name => ?_⟩
  have e := hm name
  unfold nsFind findBy at e
  rw [← Array.find?_toList] at e
  unfold PySem.W.lookIn
  rw [hd]
  dsimp only
  split
  · rename_i y q
    rw [q] at e
    exact congrArg some e
  · rename_i q
    rw [q] at e
    have a : es.toList.any (·.refKey) = false := by
      rw [List.any_eq_false]
      intro y hy
      obtain ⟨z, t, hkey⟩ := hk y (Array.mem_toList_iff.mp hy)
      simp [DictEntry.refKey, hkey]
    have a' : ¬ es.toList.any (·.refKey) = true := by rw [a]; exact Bool.false_ne_true
    rw [if_neg a']
    exact congrArg some e

theorem ObjM.look {h : Heap} {x dx C : Addr} {mA : Str → Option Value} (I : ObjM h x dx C mA) : ∃ od, PySem.W.InstAt h x (PySem.W.instObj C dx) C (some od) ∧ ∀ name, PySem.W.lookIn name od = some (mA name) :=
  let ⟨od, ho, hl⟩ := lookIn_ns I.ns
  ⟨od, ⟨I.obj, rfl, rfl, ho⟩, hl⟩

section
variable {prog : Program} {w : World} {A : Around} {E : Value → Shared → Prop} {s : Shared} {K : PySem.W.Frag} {x dx C f : Addr} {mA : Str → Option Value} {name : Str} {v : Value}

end

section
variable {P : Program} {w : World} {H H' : Hp} {h h' : Heap} {a C dx : Addr} {fs fs' : List (Str × V)}
theorem ins_get (hok : HOk P w H h) (e : H a = some (.ins C dx fs)) : ∃ mA, ObjM h a dx C mA ∧ (∀ f, RelO (fs.lookup f) (mA f)) ∧ PySem.Within mA (fs.map (·.1)) ∧ fs.length ≤ 1000 ∧ H dx = some (.own a) := by
  obtain ⟨d, z, ne, ob, mA, n, r, q⟩ := (show ObjOk P w H h a (.ins C dx fs) from hok a _ e)
  exact ⟨mA, ⟨ob, n, ne⟩, r, q, z, d⟩
end

structure Cls (K : PySem.W.Frag) (C : Addr) : Prop where
  pg : PySem.W.plainGet K C Str.empty = true
  hd : PySem.W.hasDictIn K C = true
  po : PySem.W.plainOver K C = true
  sa : PySem.W.findIn K (.ref C) "__setattr__" = some (some (.builtin "object.__setattr__"))
theorem Cls.get {K : PySem.W.Frag} {C : Addr} (c : Cls K C) (f : Str) : PySem.W.plainGet K C f = true := c.pg
section
variable {X : Cx} {pins : List (Addr × Obj)} {σ : St} {H : Hp} {s : Shared} {a C dx : Addr} {fs : List (Str × V)} {f : Str} {v : V} {A : Around} {E : Value → Shared → Prop}

end

section
variable {X : Cx} {o e value : Expr} {f : Str} {pos pos' tpos : Pos} {ta tv : TE}
end

section
variable {X : Cx} {pins : List (Addr × Obj)} {σ : St} {H : Hp} {s : Shared} {A : Around} {E : Value → Shared → Prop} {Q : Value → Shared → Prop} {c : Value} {b : Bool}
/-- the type of a value, as the fragment's deciders take it; for an instance its class -/
inductive TyOf (K : PySem.W.Frag) (H : Hp) : V → Value → Prop where
  | non : TyOf K H .non (.type "NoneType")
  | bl (x : Bool) : TyOf K H (.bl x) (.type "bool")
  | int (i : Int) : TyOf K H (.int i) (.type "int")
  | str (x : Str) : TyOf K H (.str x) (.type "str")
  | flt (x : UInt64) : TyOf K H (.flt x) (.type "float")
  | lst {a : Addr} {xs : List V} (e : H a = some (.lst xs)) : TyOf K H (.ref a) (.type "list")
  | frz {a : Addr} {o : Obj} {xs : List V} (e : H a = some (.frz o (.lst xs))) : TyOf K H (.ref a) (.type "list")
  | tup {a : Addr} {xs : List V} (e : H a = some (.tup xs)) : TyOf K H (.ref a) (.type "tuple")
  | dK {a : Addr} {kvs : List (Key × V)} (e : H a = some (.dK kvs)) : TyOf K H (.ref a) (.type "dict")
  | dT {a : Addr} {kvs : List (List Key × V)} (e : H a = some (.dT kvs)) : TyOf K H (.ref a) (.type "dict")
  | ins {a C dx : Addr} {fs : List (Str × V)} (e : H a = some (.ins C dx fs)) (cl : Cls K C) (ha : PySem.W.findIn K (.ref C) "__class__" = some (some (.builtin "object.__class__")))
      (hn : PySem.W.specialIn K (.builtin "object.__class__") "__get__" = some (some (.builtin "getset_descriptor.__get__"))) (htk : PySem.W.takesIn K (.builtin "object.__class__") = some true)
      (hm : PySem.W.mroIn K C (.type "object") = some true) : TyOf K H (.ref a) (.ref C)
/-- isinstance(x, c) for one class c, a built-in or an own one: kitOne's answer -/
theorem isinst_ok {x : V} {u t : Value} (I : Inv X pins σ H s) (rx : RelV x u) (ty : TyOf X.K H x t) (e : PySem.W.kitOne X.K t c = some b) (h : ∀ tk, Q (.bool b) { s with toks := tk }) :
    wpAny (model X.prog X.w) A (call (.builtin "isinstance") [u, c]) Q E s := by
  cases ty with
  | non => cases (show u = Value.none from rx); exact PySem.W.kia_one PySem.W.kitx_none I.kIn True.intro e (fun z => nomatch z) h
  | bl y => cases (show u = Value.bool y from rx); exact PySem.W.kia_one PySem.W.kitx_bool I.kIn True.intro e (fun z => nomatch z) h
  | int i => obtain ⟨t, q⟩ := (show ∃ t, u = Value.int i t from rx); cases q; exact PySem.W.kia_one PySem.W.kitx_int I.kIn True.intro e (fun z => nomatch z) h
  | str y => obtain ⟨t, q⟩ := (show ∃ t, u = Value.str y t from rx); cases q; exact PySem.W.kia_one PySem.W.kitx_str I.kIn True.intro e (fun z => nomatch z) h
  | flt y => obtain ⟨t, q⟩ := (show ∃ t, u = Value.float y t from rx); cases q; exact PySem.W.kia_one PySem.W.kitx_float I.kIn True.intro e (fun z => nomatch z) h
  | @lst a xs ea =>
    cases (show u = Value.ref a from rx)
    obtain ⟨_, _, n, _, h1⟩ := (show ObjOk X.prog X.w H s.heap a (.lst xs) from I.hok a _ ea)
    exact PySem.W.kia_one PySem.W.kitx_list I.kIn ⟨_, h1, rfl⟩ e (fun z => nomatch z) h
  | @frz a ob xs ea =>
    cases (show u = Value.ref a from rx)
    obtain ⟨_, _, _, n, _, h1⟩ := (show ObjOk X.prog X.w H s.heap a (.frz ob (.lst xs)) from I.hok a _ ea)
    exact PySem.W.kia_one PySem.W.kitx_list I.kIn ⟨_, h1, rfl⟩ e (fun z => nomatch z) h
  | @tup a xs ea =>
    cases (show u = Value.ref a from rx)
    obtain ⟨_, _, _, p⟩ := (show ObjOk X.prog X.w H s.heap a (.tup xs) from I.hok a _ ea)
    obtain ⟨o, h1, h2, _⟩ := p
    exact PySem.W.kia_one PySem.W.kitx_tuple I.kIn ⟨o, h1, h2⟩ e (fun z => nomatch z) h
  | @dK a kvs ea =>
    cases (show u = Value.ref a from rx)
    obtain ⟨_, _, vs, _, p⟩ := (show ObjOk X.prog X.w H s.heap a (.dK kvs) from I.hok a _ ea)
    obtain ⟨o, es, ep, h1, h2, _⟩ := p
    exact PySem.W.kia_one PySem.W.kitx_dict I.kIn ⟨o, h1, h2.1⟩ e (fun z => nomatch z) h
  | @dT a kvs ea =>
    cases (show u = Value.ref a from rx)
    obtain ⟨_, _, xs, _, o, es, ep, h1, h2, _⟩ := (show ObjOk X.prog X.w H s.heap a (.dT kvs) from I.hok a _ ea)
    exact PySem.W.kia_one PySem.W.kitx_dict I.kIn ⟨o, h1, h2.1⟩ e (fun z => nomatch z) h
  | @ins a C dx fs ea cl ha hn htk hm =>
    cases (show u = Value.ref a from rx)
    obtain ⟨mA, O, _⟩ := ins_get I.hok ea
    obtain ⟨od, J, _⟩ := O.look
    exact PySem.W.kia_one (PySem.W.kitx_own (cl.get _) cl.hd ha hn htk hm) I.kIn J e (fun z => nomatch z) h
end
end L2

namespace L2
open PySem PySem.Spec PyProof.Rows

structure Room (k : Nat) (A : Around) : Prop where
  hd : A.handled = none
  dp : A.depth + 3 * k + 5 < recursionLimit
  un : A.units + 16 * k + 200 < cLine
theorem Room.mono {j k : Nat} {A : Around} (r : Room k A) (h : j ≤ k) : Room j A := ⟨r.hd, by have := r.dp; omega, by have := r.un; omega⟩
theorem Room.deeper {k : Nat} {A : Around} (r : Room (k + 1) A) (env : Env) : Room k (A.deeper env) :=
  ⟨r.hd, by have := r.dp; show A.depth + 1 + 3 * k + 5 < _; omega, by have := r.un; show A.units + 3 + 16 * k + 200 < _; omega⟩
theorem Room.depth {k : Nat} {A : Around} (r : Room k A) : A.depth < recursionLimit := by have := r.dp; omega
theorem Room.units {k : Nat} {A : Around} (r : Room k A) : A.units + 64 < cLine := by have := r.un; omega
def tNil : TA := fun _ H Q => Q [] H
def tCons (ta : TE) (tr : TA) : TA := fun σ H Q => ta σ H fun x H1 => tr σ H1 fun xs H2 => Q (x :: xs) H2
section
variable {X : Cx} {e : Expr} {es : List Expr} {te : TE} {t : TA} {pos : Pos}
theorem pa_nil : PA X [] tNil := fun _ _ _ _ H Q I h => Calls.spliced_nil ⟨[], H, I, .nil, h⟩
theorem pa_cons (ha : PE X e te) (hr : PA X es t) (hs : starEach (e :: es) X.env = (false, eval e X.env) :: starEach es X.env := by rfl) : PA X (e :: es) (tCons te t) := by
  intro pos pins s σ H Q I h
  rw [hs]
  show wpAny _ _ (spliced ((false, eval e X.env) :: backTo pos (starEach es X.env))) _ _ s
  refine Calls.spliced_cons (thn (ha pins s σ H _ I h) fun u s1 ⟨x, H1, I1, r1, q1⟩ => ?_)
  exact thn (hr pos pins s1 σ H1 _ I1 q1) fun us s2 ⟨xs, H2, I2, r2, q2⟩ => ⟨x :: xs, H2, I2, .cons r1 r2, q2⟩

/-- a tuple, a list of written items -/
def tTup (t : TA) : TE := fun σ H Q => t σ H fun xs H1 => xs.length ≤ sizeLine ∧ ∀ p, H1 p = none → Q (.ref p) (upd H1 p (.tup xs))
theorem pe_tup {x1} (h : PA X es t) : PE X (.Tuple es x1 pos) (tTup t) := by
  intro pins s σ H Q I hq
  refine wpAny_Tuple_spliced (thn (h pos pins s σ H _ I hq) fun us s1 ⟨xs, H1, I1, r, z, q⟩ => ⟨by rw [← r.length]; exact z, ?_⟩)
  have hf : H1 s1.heap.objs.size = none := I1.hok.fresh (Nat.le_refl _)
  refine ⟨.ref s1.heap.objs.size, upd H1 s1.heap.objs.size (.tup xs), I1.laid (t' := s1.toks) (fun b u e => Heap.get?_push_of_some _ e) (Nat.le_refl _) ?_, rfl, q _ hf⟩
  exact ⟨z, us, r, ⟨_, Heap.get?_push_size _ rfl, rfl, _, rfl⟩⟩
end

/-- a def's promise: the bound arguments in the parameters' order, the heap, the wanted end, the wanted exception -/
abbrev Sp := List V → Hp → VK → XK → Prop
/-- how an exception lies behind a call (file 08 gives it): the callers' frames, abstract heap and state ahead of the call, the wish, the exception, the state -/
abbrev CXT := List Env → Hp → Shared → XK → Value → Shared → Prop

/-- the state at a call -/
structure Env0 (P : Program) (w : World) (K : PySem.W.Frag) (mg : Str → Option Value) (base : Heap) (A : Around) (outer : List Env) (s : Shared) (H : Hp) : Prop where
  frames : A.frames = some outer
  mod : Mod K mg base
  bs : ∀ b o, base.get? b = some o → s.heap.get? b = some o ∧ H b = none
  bsz : base.objs.size ≤ s.heap.objs.size
  funs : s.heap.FunFrames base outer
  frf : ∀ b ∈ frs outer, H b = none
  hok : HOk P w H s.heap
  bare : AllBare s.gens
/-- a call's end -/
def CE (outer : List Env) (P : Program) (w : World) (H : Hp) (s : Shared) (Q : VK) (u : Value) (s' : Shared) : Prop :=
  ∃ v H', s'.os = s.os ∧ AllBare s'.gens ∧ Un (frs outer) [] H H' s.heap s'.heap ∧ HOk P w H' s'.heap ∧ RelV v u ∧ Q v H'
def CR (CX : CXT) (outer : List Env) (P : Program) (w : World) (H : Hp) (s : Shared) (Q : VK) (E : XK) (r : Result) (s' : Shared) : Prop :=
  match r with
  | .ok (.ret u) => CE outer P w H s Q u s'
  | .ok _ => False
  | .error e => CX outer H s E e s'
structure FnOk (P : Program) (w : World) (K : PySem.W.Frag) (mg : Str → Option Value) (base : Heap) (CX : CXT) (k : Nat) (f : Addr) (fd : FuncData) (ps : List Str) (sp : Sp) : Prop where
  len : ∀ vs H Q E, sp vs H Q E → vs.length = ps.length
  run : ∀ (A : Around) (outer : List Env) (s : Shared) (H : Hp) (args : Args) (us : List Value) (vs : List V) (Q : VK) (E : XK), Room k A → Env0 P w K mg base A outer s H → BindsTo s fd args (ps.zip us) → Vals vs us → sp vs H Q E →
    codeAny (model P w) A (.call (.ref f) args) (CR CX outer P w H s Q E) s
section
variable {X : Cx} {pins : List (Addr × Obj)} {σ : St} {H : Hp} {s s' : Shared}
/-- from a body: what a callee wants -/
theorem Inv.env0 (I : Inv X pins σ H s) : Env0 X.prog X.w X.K X.mg X.base X.A X.stack s H :=
  ⟨I.ok.frames, I.ok.mod, I.bs, Nat.le_trans I.ok.bsz I.sz, I.stack, I.stkFree, I.hok, I.bare⟩
/-- behind a call -/
theorem Inv.after {Q : VK} {u : Value} (I : Inv X pins σ H s) (h : CE X.stack X.prog X.w H s Q u s') : EP X pins σ Q u s' := by
  obtain ⟨v, H', os, bare, un, hok, r, q⟩ := h
  obtain ⟨hh, g, d, t, os'⟩ := s'
  obtain rfl : os' = s.os := os
  exact ⟨v, H', I.call (h' := hh) (g' := g) (d' := d) (t' := t) (ch := []) un hok bare (fun b z => absurd z (by simp)), r, q⟩
end

/-- f(..): the written arguments, then the defaults dvs; E: what is wanted of an exception -/
def tCall (sp : Sp) (dvs : List V) (E : XK) (t : TA) : TE := fun σ H Q => t σ H fun vs H1 => sp (vs ++ dvs) H1 Q E
/-- how the parameters are bound: us the positional arguments, kw the keywords' values by name, ds the defaults that fill up -/
def Binds (K : PySem.W.Frag) (fd : FuncData) (ps : List Str) (ds : List Value) : Prop :=
  ∀ (s : Shared) (us : List Value), K.In s.heap → (us ++ ds).length = ps.length → BindsTo s fd ⟨us, []⟩ (ps.zip (us ++ ds))
/-- every parameter is given -/
theorem Binds.all {K : PySem.W.Frag} {fd : FuncData} {ps : List Str} (h : ∀ us : List Value, us.length = ps.length → bindArgs fd ⟨us, []⟩ = pure (ps.zip us)) : Binds K fd ps [] := fun s us _ hl => by
  rw [List.append_nil] at hl ⊢
  exact .of_eq (h us hl)

/-- an exception of a callee reaches what this body wants of exceptions -/
def Passes (CX : CXT) (X : Cx) (E : XK) : Prop := ∀ (pins : List (Addr × Obj)) (σ : St) (H : Hp) (s : Shared) (e : Value) (s' : Shared), Inv X pins σ H s → CX X.stack H s E e s' → X.xe e s'

section
variable {X : Cx} {CX : CXT} {k : Nat} {f C : Addr} {fd : FuncData} {ps : List Str} {sp : Sp} {dvs : List V} {ds : List Value} {E : XK} {x m : Str} {p pos apos : Pos} {e o : Expr} {es : List Expr} {ta : TE} {t : TA}

/-- the callee runs -/
theorem run_fn {pins : List (Addr × Obj)} {σ : St} {H : Hp} {s : Shared} {Q : VK} {us : List Value} {vs : List V} (F : FnOk X.prog X.w X.K X.mg X.base CX k f fd ps sp) (hr : Room k X.A) (hb : Binds X.K fd ps ds) (hd : Vals dvs ds) (hx : Passes CX X E)
    (I : Inv X pins σ H s) (r : Vals vs us) (h : sp (vs ++ dvs) H Q E) : wpAny (model X.prog X.w) X.A (call (.ref f) us) (EP X pins σ Q) X.xe s := by
  have r2 : Vals (vs ++ dvs) (us ++ ds) := r.append hd
  have hl : (us ++ ds).length = ps.length := by rw [← r2.length]; exact F.len _ _ _ _ h
  refine wpAny_call (codeAny_mono (F.run X.A X.stack s H ⟨us, []⟩ (us ++ ds) (vs ++ dvs) Q E hr I.env0 (hb s us I.kIn hl) r2 h) fun r s' hq => ?_)
  cases r with
  | error e => exact hx pins σ H s e s' I hq
  | ok fl =>
    cases fl with
    | ret u => exact I.after hq
    | next => exact False.elim hq
    | brk => exact False.elim hq
    | cont => exact False.elim hq

theorem pe_call (F : FnOk X.prog X.w X.K X.mg X.base CX k f fd ps sp) (hr : Room k X.A) (hg : Gl X x) (hm : X.mg x = some (.ref f)) (hk : PySem.W.keepIn X.K (.ref f) = true) (hb : Binds X.K fd ps ds) (hd : Vals dvs ds) (hx : Passes CX X E)
    (ha : PA X (e :: es) t) (hdb : (x == ("__debug__" : Str)) = false := by decide) (he : starEach (e :: es) X.env = (false, eval e X.env) :: starEach es X.env := by rfl) (hpl : (backTo pos (starEach es X.env)).any (·.1) = false := by rfl) :
    PE X (.Call (.Name x p) (e :: es) [] pos) (tCall sp dvs E t) := by
  intro pins s σ H Q I h
  refine wpAny_Call_Name_kw (ld_glob I hg hm ?_ hdb)
  refine PySem.W.callWith_K (h₀ := X.base) I.ok.mod.kin hk (thn (ha pos pins s σ H _ I h) fun us s1 ⟨vs, H1, I1, r, q⟩ => ⟨I1.kIn, ?_⟩) he hpl
  exact run_fn F hr hb hd hx I1 r q
end

section
variable {X : Cx} {CX : CXT} {k : Nat} {f C : Addr} {fd : FuncData} {ps ks : List Str} {sp : Sp} {E : XK} {x m : Str} {p pos apos kpos : Pos} {e o : Expr} {es : List Expr} {kws : List Keyword} {te ta : TE} {t tk : TA} {nm : Option Str}
variable {g : List Value → List Value → List Value} {gV : List V → List V → List V}
end

/-- names: the parameters first -/
structure FnScope (N P : List Str) (sc : Scope) : Prop where
  kind : sc.kind = .function
  co : sc.isCoroutine = false
  gen : sc.isGenerator = false
  nd : N.Nodup
  pre : N.take P.length = P
  par : ∀ x ∈ P, sc.names.lookup x = some .local ∨ sc.names.lookup x = some .cell
  nofree : ∀ y ∈ sc.names, y.2 ≠ .free

theorem bindL_out {kindOf : Str → Option NameKind} {x : Str} : ∀ {binds : List (Str × Value)} {m : Str → Option Value}, (∀ v, (x, v) ∉ binds) → bindL kindOf binds m x = m x
  | [], _, _ => rfl
  | (n, v) :: r, m, h => by
    unfold bindL
    rw [bindL_out fun w hw => h w (List.mem_cons_of_mem _ hw)]
    split
    · have : x ≠ n := by rintro rfl; exact h v List.mem_cons_self
      simp [this]
    · rfl
theorem bindC_out {kindOf : Str → Option NameKind} {x : Str} : ∀ {binds : List (Str × Value)} {m : Str → Option Value}, (∀ v, (x, v) ∉ binds) → bindC kindOf binds m x = m x
  | [], _, _ => rfl
  | (n, v) :: r, m, h => by
    unfold bindC
    rw [bindC_out fun w hw => h w (List.mem_cons_of_mem _ hw)]
    split
    · rfl
    · have : x ≠ n := by rintro rfl; exact h v List.mem_cons_self
      simp [this]
theorem bindL_get {kindOf : Str → Option NameKind} {x : Str} {v : Value} : ∀ {P : List Str} {vs : List Value} {i : Nat} {m : Str → Option Value}, P.Nodup → P[i]? = some x → vs[i]? = some v → kindOf x = some .local →
    bindL kindOf (P.zip vs) m x = some v
  | [], _, _, _, _, h, _, _ => by simp at h
  | _ :: _, [], _, _, _, _, h, _ => by simp at h
  | p :: P, w :: vs, 0, m, nd, h1, h2, hk => by
    simp at h1 h2; subst h1; subst h2
    show bindL kindOf ((p, w) :: P.zip vs) m p = _
    unfold bindL
    rw [bindL_out fun v hv => (List.nodup_cons.mp nd).1 (List.of_mem_zip hv).1, if_pos hk]
    simp
  | p :: P, w :: vs, i + 1, m, nd, h1, h2, hk => by
    show bindL kindOf ((p, w) :: P.zip vs) m x = _
    unfold bindL
    exact bindL_get (i := i) (List.nodup_cons.mp nd).2 (by simpa using h1) (by simpa using h2) hk
theorem bindC_get {kindOf : Str → Option NameKind} {x : Str} {v : Value} : ∀ {P : List Str} {vs : List Value} {i : Nat} {m : Str → Option Value}, P.Nodup → P[i]? = some x → vs[i]? = some v → kindOf x ≠ some .local →
    bindC kindOf (P.zip vs) m x = some v
  | [], _, _, _, _, h, _, _ => by simp at h
  | _ :: _, [], _, _, _, _, h, _ => by simp at h
  | p :: P, w :: vs, 0, m, nd, h1, h2, hk => by
    simp at h1 h2; subst h1; subst h2
    show bindC kindOf ((p, w) :: P.zip vs) m p = _
    unfold bindC
    rw [bindC_out fun v hv => (List.nodup_cons.mp nd).1 (List.of_mem_zip hv).1, if_neg hk]
    simp
  | p :: P, w :: vs, i + 1, m, nd, h1, h2, hk => by
    show bindC kindOf ((p, w) :: P.zip vs) m x = _
    unfold bindC
    exact bindC_get (i := i) (List.nodup_cons.mp nd).2 (by simpa using h1) (by simpa using h2) hk

/-- the names' values at the entry -/
def start (N : List Str) (vs : List V) : St := vs.map some ++ List.replicate (N.length - vs.length) none

/-- the context of a def's body, at its entry; an exception leaves the frame, then lies as CX says -/
def cxOf (CX : CXT) (P : Program) (w : World) (K : PySem.W.Frag) (mg : Str → Option Value) (base : Heap) (N : List Str) (qual : Str) (scope : Scope) (f : Addr) (cd : Value) (A : Around) (outer : List Env) (s : Shared) (H : Hp) (E : XK) : Cx where
  prog := P
  w := w
  K := K
  mg := mg
  base := base
  A := A.deeper (envOfC qual scope s.heap.objs.size f cd)
  N := N
  s₀ := s
  H₀ := H
  env := envOfC qual scope s.heap.objs.size f cd
  outer := outer
  stack := envOfC qual scope s.heap.objs.size f cd :: outer
  ex := []
  calm := true
  fn := fun _ => true
  pn := []
  xe := fun e s' => wpAny (model P w) (A.deeper (envOfC qual scope s.heap.objs.size f cd)) (leaving (envOfC qual scope s.heap.objs.size f cd) e) (fun _ s'' => CX outer H s E e s'') (fun e' s'' => CX outer H s E e' s'') s'

theorem cell_has {sc : Scope} {n : Nat} {x : Str} (h : sc.names.lookup x = some .cell) : ∃ c, (cellsFrom n sc.names []).lookup x = some c := by
  have q := PySem.W.cellsFrom_some sc.names n [] (.inl h)
  exact Option.isSome_iff_exists.mp q

theorem inv_start {CX : CXT} {P : Program} {w : World} {K : PySem.W.Frag} {mg : Str → Option Value} {base : Heap} {N ps : List Str} {qual : Str} {scope : Scope} {f : Addr} {cd : Value} {A : Around} {outer : List Env} {s s1 : Shared} {H : Hp} {E : XK} {us : List Value} {vs : List V}
    (S : FnScope N ps scope) (hd : A.handled = none) (e0 : Env0 P w K mg base A outer s H) (hl : vs.length = ps.length) (r : Vals vs us)
    (x : InCallC s s.heap.objs.size (bindL (envOfC qual scope s.heap.objs.size f cd).kindOf (ps.zip us) fun _ => none) (cellsFrom (s.heap.objs.size + 1) scope.names []) (bindC (envOfC qual scope s.heap.objs.size f cd).kindOf (ps.zip us) fun _ => none) s1) :
    Inv (cxOf CX P w K mg base N qual scope f cd A outer s H E) [] (start N vs) H s1 := by
  have hpl : ps.length ≤ N.length := by have := congrArg List.length S.pre; rw [List.length_take] at this; omega
  obtain ⟨h1, tk, rfl, hk⟩ := x.done
  have noA : ∀ b : Addr, b ∉ (cxOf CX P w K mg base N qual scope f cd A outer s H E).ex := fun b z => absurd (show b ∈ ([] : List Addr) from z) (by simp)
  refine ⟨⟨e0.mod, S.kind, rfl, rfl, Nat.le_refl _, fun y z c h1 h2 => ?_, fun y hy => ?_, fun y c _ h => ?_, fun _ => hd, Around.frames_deeper e0.frames, .inr ⟨rfl, rfl⟩, fun b z => absurd z (noA b), e0.bs, e0.bsz, fun b _ _ => noA b, fun b z => absurd z (noA b), e0.funs, e0.frf⟩,
    rfl, e0.bare, Un.kept hk, ⟨_, x.toInCall.ns, fun i y v h1 h2 h3 => ?_⟩, fun y c h => ⟨_, x.cell y c h⟩, e0.hok.fresh (Nat.le_refl _), fun y c h => ?_, fun p hp => absurd (show p ∈ ([] : List (Addr × Obj)) from hp) (by simp), e0.hok.kept hk, ?_⟩
  · exact name_of_addr x.apart (PySem.mem_of_lookup h1) (PySem.mem_of_lookup h2)
  · have hy : scope.names.lookup y = some .cell ∨ scope.names.lookup y = some .free := hy
    rcases hy with hy | hy
    · exact cell_has hy
    · exact absurd rfl (S.nofree _ (PySem.mem_of_lookup hy))
  · exact Nat.le_of_lt (x.above y c (PySem.mem_of_lookup h))
  · have hi : i < vs.length := by
      unfold start at h2
      by_cases hi : i < vs.length
      · exact hi
      · rw [List.getElem?_append_right (by simpa using hi)] at h2
        rw [List.getElem?_replicate] at h2
        split at h2 <;> cases h2
    have ha : vs[i]? = some v := by
      unfold start at h2
      rw [List.getElem?_append_left (by simpa using hi), List.getElem?_map] at h2
      cases e : vs[i]? with
      | none => rw [e] at h2; cases h2
      | some a => rw [e] at h2; cases h2; rfl
    obtain ⟨u, hu, rv⟩ := r.get ha
    have hp : ps[i]? = some y := by
      rw [← S.pre, List.getElem?_take_of_lt (by omega)]; exact h1
    have ndP : ps.Nodup := by rw [← S.pre]; exact S.nd.sublist (List.take_sublist _ _)
    refine ⟨u, rv, ?_⟩
    rcases S.par y (List.mem_of_getElem? hp) with k | k
    · exact .inl ⟨k, bindL_get ndP hp hu k⟩
    · obtain ⟨c, e⟩ := cell_has (n := s.heap.objs.size + 1) k
      refine .inr ⟨.inl k, c, e, ?_⟩
      have q := x.cell y c e
      rw [bindC_get ndP hp hu (by show scope.names.lookup y ≠ _; rw [k]; decide)] at q
      exact q
  · exact e0.hok.fresh (Nat.le_of_lt (x.above y c (PySem.mem_of_lookup h)))
  · unfold start
    show _ = N.length
    rw [List.length_append, List.length_map, List.length_replicate]
    omega

/-- THE RULE: a def (or a method) of the text, by its body. The body's reading t is chosen for each entry; it is run at the parameters' values -/
theorem fn_of {CX : CXT} {P : Program} {w : World} {K : PySem.W.Frag} {mg : Str → Option Value} {base : Heap} {k : Nat} {f : Addr} {name qual : Str} {params : Arguments} {body : List Stmt} {scope : Scope} {dV kV doc pm cdv ct oc : Value} {an od : Option Addr}
    {osl : Array (Option Value)} {N ps : List Str} {sp : Sp} (lk : K.lookup f = some ⟨oc, od, .func (PySem.W.fnOf name qual params body scope dV kV doc pm an cdv ct), osl⟩) (hcd : PySem.W.codeIn K cdv qual = true) (S : FnScope N ps scope)
    (len : ∀ vs H Q E, sp vs H Q E → vs.length = ps.length)
    (hbody : ∀ (A : Around) (outer : List Env) (s : Shared) (H : Hp) (vs : List V) (Q : VK) (E : XK), Room k (A.deeper (envOfC qual scope s.heap.objs.size f cdv)) → sp vs H Q E →
      ∃ t, PSs (cxOf CX P w K mg base N qual scope f cdv A outer s H E) body t ∧ t { nx := fun _ H' => Q .non H', rt := Q } (start N vs) H) :
    FnOk P w K mg base CX (k + 1) f (PySem.W.fnOf name qual params body scope dV kV doc pm an cdv ct) ps sp := by
  refine ⟨len, fun A outer s H args us vs Q E hr e0 hb r hsp => ?_⟩
  have hl := len _ _ _ _ hsp
  have KX : K.In s.heap := e0.mod.kin.keeps fun b o e => (e0.bs b o e).1
  have lim : s.heap.NoLimit := e0.mod.nolimit.keeps fun b o e => (e0.bs b o e).1
  have hkind : ∀ y ∈ ps.zip us, scope.names.lookup y.1 = some .local ∨ (scope.names.lookup y.1 = some .cell ∧ ((cellsFrom (s.heap.objs.size + 1) scope.names []).lookup y.1).isSome = true) := fun ⟨n, v⟩ hy => by
    rcases S.par n (List.of_mem_zip hy).1 with q | q
    · exact .inl q
    · exact .inr ⟨q, PySem.W.cellsFrom_some _ _ _ (.inl q)⟩
  refine codeAny_call_function hr.depth (KX _ _ lk) rfl S.co S.gen rfl (PySem.W.codeRec_of KX hcd) (hb _ _ _ _ ?_)
  refine wpAny_newFunctionEnv_cells S.kind hkind fun env he s1 x => ?_
  subst he
  refine ⟨lim.keeps x.toInCall.keep, codeAny_func ?_⟩
  obtain ⟨t, ht, hq⟩ := hbody A outer s H vs Q E (hr.deeper _) hsp
  have I : Inv (cxOf CX P w K mg base N qual scope f cdv A outer s H E) [] (start N vs) H s1 := inv_start S hr.hd e0 hl r x
  refine wpAny_mono (ht [] s1 (start N vs) H _ I hq) (fun fl s' hs => ?_) fun e s' hs => hs
  have fin : ∀ {σ' : St} {H' : Hp} {v : V} {u : Value}, Inv (cxOf CX P w K mg base N qual scope f cdv A outer s H E) [] σ' H' s' → RelV v u → Q v H' → CE outer P w H s Q u s' :=
    fun {σ' H' v u} J rv q => ⟨v, H', J.os, J.bare, J.base, J.hok, rv, q⟩
  cases fl with
  | ret u =>
    obtain ⟨v, σ', H', J, rv, q⟩ := hs
    exact fin J rv q
  | next =>
    obtain ⟨σ', H', J, q⟩ := hs
    exact fin (v := V.non) (u := Value.none) J rfl q
  | brk =>
    obtain ⟨_, _, _, q⟩ := hs
    exact False.elim q
  | cont =>
    obtain ⟨_, _, _, q⟩ := hs
    exact False.elim q
end L2

namespace L2
open PySem PySem.Spec PyProof.Rows
section
variable {X : Cx} {x : Str} {p pos : Pos} {e : Expr} {es : List Expr} {t : TA} {id T : String} {r : List V → Hp → VK → Prop}

def tCB (r : List V → Hp → VK → Prop) (t : TA) : TE := fun σ H Q => t σ H fun vs H1 => r vs H1 Q
/-- f(e, ..), f a built-in function -/
theorem pe_callB (hc : CallR X (.builtin id) r) (hg : Gl X x) (hm : X.mg x = none) (hv : bootBuiltins x = some (.builtin id)) (ha : PA X (e :: es) t) (hn : x ≠ "__name__" := by decide) (hdb : (x == ("__debug__" : Str)) = false := by decide)
    (he : starEach (e :: es) X.env = (false, eval e X.env) :: starEach es X.env := by rfl) (hpl : (backTo pos (starEach es X.env)).any (·.1) = false := by rfl) : PE X (.Call (.Name x p) (e :: es) [] pos) (tCB r t) := by
  intro pins s σ H Q I h
  refine wpAny_Call_Name_kw (ld_blt I hg hm hv ?_ hn hdb)
  exact PyProof.Rows.callWith_builtin1 (thn (ha pos pins s σ H _ I h) fun us s1 ⟨vs, H1, I1, r1, q1⟩ => hc pins s1 σ H1 vs us Q I1 r1 q1) he hpl
end
end L2

namespace HT
open PySem PyProof.Rows

section
open PySem.SeqAt
open PySem.AutoSeq1 (wpAny_loadPart')
open PySem.MeetsSeq PySem.MeetsSeq2 PySem.MeetsSeq3

end

section
variable {prog : Program} {w : World} {A : Around} {E : Value → Shared → Prop} {s : Shared}

/-- a slice's bound as a place among n (d where it is left out) -/
def sIx (n d : Nat) : Option Int → Nat
  | none => d
  | some v => if v < 0 then (v + (n : Int)).toNat else min v.toNat n
theorem sIx_none (n d : Nat) : sIx n d none = d := rfl
theorem sIx_le (n d : Nat) (hd : d ≤ n) (o : Option Int) : sIx n d o ≤ n := by
  cases o with
  | none => exact hd
  | some v =>
    show (if v < 0 then (v + (n : Int)).toNat else min v.toNat n) ≤ n
    by_cases hv : v < 0
    · rw [if_pos hv]; omega
    · rw [if_neg hv]; exact Nat.min_le_right _ _
theorem clip_eq (v : Int) (n d : Nat) : (if v < 0 then max (v + (n : Int)) 0 else min v (n : Int)) = ((sIx n d (some v) : Nat) : Int) := by
  show (if v < 0 then max (v + (n : Int)) 0 else min v (n : Int)) = (((if v < 0 then (v + (n : Int)).toNat else min v.toNat n) : Nat) : Int)
  by_cases hv : v < 0
  · simp only [if_pos hv]; omega
  · simp only [if_neg hv]; omega
theorem adjust_gen (lo hi : Option Int) (n : Nat) : Builtin.Slice.sliceAdjust lo hi 1 (n : Int) = (((sIx n 0 lo : Nat) : Int), ((sIx n n hi : Nat) : Int)) := by
  have h1 : ¬ ((1 : Int) < 0) := by omega
  unfold Builtin.Slice.sliceAdjust
  simp only [h1, if_false]
  refine Prod.ext ?_ ?_
  · cases lo with
    | none => rfl
    | some v => exact clip_eq v n 0
  · cases hi with
    | none => rfl
    | some v => exact clip_eq v n n
theorem places_gen (i j : Nat) : Builtin.Slice.slicePlaces (i : Int) (j : Int) 1 = j - i := by
  unfold Builtin.Slice.slicePlaces
  have h1 : (1 : Int) > 0 := by omega
  simp only [h1, if_true, Int.ediv_one]
  split <;> omega
theorem slicePart_ {v : Value} {o : Option Int} {Q : Option Int → Shared → Prop} (p : IsPart v o) (h : Q o s) : wpAny (model prog w) A (Builtin.Slice.slicePartIndex v) Q E s := by
  cases p with
  | none => exact slicePart_none h
  | int i t => exact slicePart_int h
theorem sliceApplied_gen {sl : Addr} {vl vu : Value} {lo hi : Option Int} {n : Nat} {Q : Int × Int × Nat → Shared → Prop} (hs : s.heap.IsSliceOf sl vl vu .none) (pl : IsPart vl lo) (pu : IsPart vu hi)
    (h : Q (((sIx n 0 lo : Nat) : Int), 1, sIx n n hi - sIx n 0 lo) s) : wpAny (model prog w) A (Builtin.Slice.sliceApplied (.ref sl) (pure (n : Int))) Q E s := by
  obtain ⟨os, hos, hcs, hds⟩ := id hs
  unfold Builtin.Slice.sliceApplied Builtin.Slice.sliceFields
  refine wpAny_bind (wpAny_bind (wpAny_field hos hds (x := vl) rfl (wpAny_bind (wpAny_field hos hds (x := vu) rfl (wpAny_bind (wpAny_field hos hds (x := .none) rfl (wpAny_pure ?_)))))))
  refine wpAny_bind (slicePart_none ?_)
  show wpAny _ _ (if ((1 : Int) == 0) = true then _ else _) _ _ s
  rw [if_neg (by decide)]
  refine wpAny_bind (slicePart_ pl (wpAny_bind (slicePart_ pu (wpAny_bind (wpAny_pure ?_)))))
  show wpAny _ _ (match Builtin.Slice.sliceAdjust lo hi 1 (n : Int) with | (lo, hi) => pure (lo, (1 : Int), Builtin.Slice.slicePlaces lo hi 1)) _ _ s
  rw [adjust_gen lo hi n]
  show wpAny _ _ (pure (((sIx n 0 lo : Nat) : Int), (1 : Int), Builtin.Slice.slicePlaces ((sIx n 0 lo : Nat) : Int) ((sIx n n hi : Nat) : Int) 1)) _ _ s
  rw [places_gen]
  exact wpAny_pure h
theorem pick_gen (xs : Array Value) (i k : Nat) : ((List.range k).filterMap fun (m : Nat) => xs[((i : Int) + (m : Int) * 1).toNat]?).toArray = ((xs.toList.drop i).take k).toArray := by
  have e : (fun (m : Nat) => xs[((i : Int) + (m : Int) * 1).toNat]?) = fun m => xs[i + m]? := by
    funext m
    have : ((i : Int) + (m : Int) * 1).toNat = i + m := by omega
    rw [this]
  rw [e]
  have := pick_run xs i k
  rw [List.filterMap_map] at this
  have e2 : ((fun x => xs[x]?) ∘ fun x => i + x) = fun m => xs[i + m]? := rfl
  rw [e2] at this
  rw [this]

theorem getItem_tuple_cut {t sl : Addr} {items : Array Value} {vl vu : Value} {lo hi : Option Int} {Q : Value → Shared → Prop} (ht : IsTup s.heap t items) (hs : s.heap.IsSliceOf sl vl vu .none) (pl : IsPart vl lo) (pu : IsPart vu hi)
    (hw : ¬ (sIx items.size 0 lo = 0 ∧ sIx items.size items.size hi = items.size))
    (h : Q (.ref s.heap.objs.size) { s with heap := s.heap.push { cls := .type "tuple", data := .seq ((items.toList.drop (sIx items.size 0 lo)).take (sIx items.size items.size hi - sIx items.size 0 lo)).toArray } })
    (hsz : items.size ≤ sizeLine) : wpAny (model prog w) A (getItem (.ref t) (.ref sl)) Q E s := by
  have htake : sizeOk (.seq ((items.toList.drop (sIx items.size 0 lo)).take (sIx items.size items.size hi - sIx items.size 0 lo)).toArray) := by
    show ((items.toList.drop (sIx items.size 0 lo)).take (sIx items.size items.size hi - sIx items.size 0 lo)).toArray.size ≤ sizeLine
    rw [List.size_toArray, List.length_take, List.length_drop, Array.length_toList]
    omega
  have hj : sIx items.size items.size hi ≤ items.size := sIx_le _ _ (Nat.le_refl _) hi
  obtain ⟨os, hos, hcs, hds⟩ := id hs
  have hTs : s.TypeIs (.ref sl) "slice" := ⟨os, hos, hcs⟩
  unfold getItem
  try with_reducible refine wpAny_holding ?_
  first | refine wpAny_bind (wpAny_pure ?_) | skip
  refine wpAny_bind (wpAny_sequenceKey ht.typeIs (by decide) ?_)
  refine wpAny_bind (wpAny_callSpecial?_slot (name := Str.ofString "__getitem__") ht.typeIs PyProof.Rows.slot_tuple_getitem
    (wpAny_call_entry PyProof.Rows.slot_tuple_getitem ht.typeIs entry_tuple_getitem ?_ (args_tuple_getitem _ _)))
  show wpAny _ _ (Builtin.Tuple.tupleItemsOf (.ref t) >>= _) _ _ s
  refine wpAny_bind (tupleItemsOf_ ht ?_)
  refine wpAny_bind (wpAny_typeOf hTs ?_)
  rw [if_pos (by decide)]
  refine wpAny_bind (sliceApplied_gen hs pl pu ?_)
  have hno : ¬ ((((sIx items.size 0 lo : Nat) : Int) == 0 && (1 : Int) == 1 && (sIx items.size items.size hi - sIx items.size 0 lo) == items.size) = true) := by
    intro q
    rw [Bool.and_eq_true, Bool.and_eq_true] at q
    have q1 : ((sIx items.size 0 lo : Nat) : Int) = 0 := eq_of_beq q.1.1
    have q2 : sIx items.size items.size hi - sIx items.size 0 lo = items.size := eq_of_beq q.2
    exact hw ⟨by omega, by omega⟩
  show wpAny _ _ (if (((sIx items.size 0 lo : Nat) : Int) == 0 && (1 : Int) == 1 && (sIx items.size items.size hi - sIx items.size 0 lo) == items.size) = true then _ else _) _ _ s
  rw [if_neg hno, pick_gen]
  first
    | exact wpAny_bind (m := Builtin.Tuple.tupleExact _) (wpAny_newObj_type (wpAny_pure ⟨_, rfl, wpAny_pure h⟩) htake)
    | exact wpAny_bind (m := Builtin.Tuple.tupleExact _) (wpAny_newObj_type (wpAny_bind (wpAny_pure (wpAny_pure ⟨_, rfl, wpAny_pure h⟩))) htake)
    | exact wpAny_bind (wpAny_bind (m := Builtin.Tuple.tupleExact _) (wpAny_newObj_type (wpAny_pure (wpAny_pure ⟨_, rfl, wpAny_pure h⟩)) htake))
    | exact wpAny_bind (wpAny_bind (m := Builtin.Tuple.tupleExact _) (wpAny_newObj_type (wpAny_pure ⟨_, rfl, wpAny_pure h⟩) htake))
end
end HT

namespace L2
open PySem PySem.Spec PyProof.Rows

abbrev TO := St → Hp → (Option Int → Hp → Prop) → Prop
/-- a slice's part (left out, or an int) -/
def PO (X : Cx) (e : Option Expr) (t : TO) : Prop :=
  ∀ (pins : List (Addr × Obj)) (s : Shared) (σ : St) (H : Hp) (Q : Option Int → Hp → Prop), Inv X pins σ H s → t σ H Q →
    wpAny (model X.prog X.w) X.A (evalPart e X.env) (fun u s' => ∃ o H', Inv X pins σ H' s' ∧ IsPart u o ∧ Q o H') X.xe s
def tNoPart : TO := fun _ H Q => Q none H
def tPart (t : TE) : TO := fun σ H Q => t σ H fun x H1 => ∃ i, x = .int i ∧ Q (some i) H1

section
variable {X : Cx} {e : Expr} {te : TE} {lo hi : Option Expr} {tl th : TO} {pos p2 : Pos}

theorem po_none : PO X none tNoPart := by
  intro pins s σ H Q I h
  rw [evalPart_none]
  exact wpAny_pure ⟨none, H, I, .none, h⟩
theorem po_some (h : PE X e te) : PO X (some e) (tPart te) := by
  intro pins s σ H Q I hw
  rw [evalPart_some]
  refine thn (h pins s σ H _ I hw) fun u s1 ⟨x, H1, I1, r1, q1⟩ => ?_
  obtain ⟨i, rfl, q⟩ := q1
  obtain ⟨t, rfl⟩ := r1
  exact ⟨some i, H1, I1, .int i t, q⟩

/-- what a slice of a value is, by values: the slice object stands at sl -/
def SlR (X : Cx) (r : V → Option Int → Option Int → Hp → VK → Prop) : Prop :=
  ∀ (pins : List (Addr × Obj)) (s : Shared) (σ : St) (H : Hp) (x : V) (v vl vu : Value) (lo hi : Option Int) (sl : Addr) (Q : VK), Inv X pins σ H s → RelV x v → s.heap.IsSliceOf sl vl vu .none → IsPart vl lo → IsPart vu hi → r x lo hi H Q →
    ∃ T id, typeLookup (.type T) "__getitem__" = pure (some (.builtin id)) ∧ s.TypeIs v T ∧ wpAny (model X.prog X.w) X.A (getItem v (.ref sl)) (EP X pins σ Q) X.xe s
theorem SlR.or {r r' : V → Option Int → Option Int → Hp → VK → Prop} (h : SlR X r) (h' : SlR X r') : SlR X (fun x lo hi H Q => r x lo hi H Q ∨ r' x lo hi H Q) := by
  intro pins s σ H x v vl vu lo hi sl Q I rx hs pl pu q
  rcases q with q | q
  · exact h pins s σ H x v vl vu lo hi sl Q I rx hs pl pu q
  · exact h' pins s σ H x v vl vu lo hi sl Q I rx hs pl pu q
def tSl (r : V → Option Int → Option Int → Hp → VK → Prop) (te : TE) (tl th : TO) : TE := fun σ H Q => te σ H fun x H1 => tl σ H1 fun l H2 => th σ H2 fun u H3 => r x l u H3 Q
/-- a[lo:hi], any a -/
theorem pe_slice {r : V → Option Int → Option Int → Hp → VK → Prop} (hr : SlR X r) (he : PE X e te) (hl : PO X lo tl) (hu : PO X hi th) : PE X (.Subscript e (.Slice lo hi none p2) pos) (tSl r te tl th) := by
  intro pins s σ H Q I h
  refine Subscript_ (thn (he pins s σ H _ I h) fun v s1 ⟨x, H1, I1, r1, q1⟩ => ?_)
  refine wpAny_Slice (thn (hl pins s1 σ H1 _ I1 q1) fun vl s2 ⟨l, H2, I2, pl, q2⟩ => thn (hu pins s2 σ H2 _ I2 q2) fun vu s3 ⟨u, H3, I3, pu, q3⟩ => ?_)
  rw [evalPart_none]
  refine wpAny_pure ?_
  have I4 : Inv X pins σ H3 { s3 with heap := s3.heap.push { cls := .type "slice", data := .fields #[vl, vu, .none] } } := I3.kept (t' := s3.toks) fun b ob q => Heap.get?_push_of_some _ q
  obtain ⟨T, id, hT, ht, hg⟩ := hr pins { s3 with heap := s3.heap.push { cls := .type "slice", data := .fields #[vl, vu, .none] } } σ H3 x v vl vu l u s3.heap.objs.size Q I4 r1 (Heap.IsSliceOf.new ..) pl pu q3
  show wpAny (model X.prog X.w) X.A (subscriptTail e (.Slice lo hi none p2) v (.ref s3.heap.objs.size)) (EP X pins σ Q) X.xe { s3 with heap := s3.heap.push { cls := .type "slice", data := .fields #[vl, vu, .none] } }
  exact tail_any (ops := [.ref s3.heap.objs.size, v]) ht hT hg (by with_unfolding_all rfl)

/-- the items of xs[lo:hi] -/
def cutV (xs : List V) (lo hi : Option Int) : List V := (xs.drop (HT.sIx xs.length 0 lo)).take (HT.sIx xs.length xs.length hi - HT.sIx xs.length 0 lo)
theorem cutV_length (xs : List V) (lo hi : Option Int) : (cutV xs lo hi).length ≤ xs.length := by
  unfold cutV
  rw [List.length_take, List.length_drop]
  omega
/-- t[lo:hi], not the whole of it (the whole would be t itself) -/
def rSlT (K : PySem.W.Frag) : V → Option Int → Option Int → Hp → VK → Prop := fun x lo hi H Q => ∃ a xs, x = .ref a ∧ SqT K H a xs ∧
  ¬ (HT.sIx xs.length 0 lo = 0 ∧ HT.sIx xs.length xs.length hi = xs.length) ∧ ∀ p, H p = none → Q (.ref p) (upd H p (.tup (cutV xs lo hi)))
theorem sl_tup : SlR X (rSlT X.K) := by
  intro pins s σ H x v vl vu lo hi sl Q I rx hs pl pu h
  obtain ⟨a, xs, rfl, hx, hw, q⟩ := h
  cases rx
  obtain ⟨its, r, ht, hz⟩ := I.tuple hx
  have hlen : its.toArray.size = xs.length := by rw [List.size_toArray]; exact r.length.symm
  refine ⟨"tuple", _, PyProof.Rows.slot_tuple_getitem.lookup, ht.typeIs, ?_⟩
  refine HT.getItem_tuple_cut ht hs pl pu (by rw [hlen]; exact hw) ?_ (by rw [hlen]; exact hz)
  rw [hlen]
  refine ⟨.ref s.heap.objs.size, _, I.laid (t' := s.toks) (o := .tup (cutV xs lo hi)) (fun b ob q => Heap.get?_push_of_some _ q) (Nat.le_refl _) ?_, rfl, q _ (I.hok.fresh (Nat.le_refl _))⟩
  exact ⟨Nat.le_trans (cutV_length xs lo hi) hz, _, (r.drop (HT.sIx xs.length 0 lo)).take (HT.sIx xs.length xs.length hi - HT.sIx xs.length 0 lo), IsTup.new _ _⟩

end
end L2

namespace L2
open PySem PySem.Spec PyProof.Rows

/-- the place that an index of any sign means -/
def ixN (n : Nat) (i : Int) : Option Nat := if 0 ≤ i then (if i < n then some i.toNat else none) else if -(n : Int) ≤ i then some (i + n).toNat else none
def atI {α : Type} (xs : List α) (i : Int) : Option α := (ixN xs.length i).bind fun j => xs[j]?
theorem ixN_seq {n : Nat} {i : Int} {j : Nat} (h : ixN n i = some j) : seqIndex? i n = some j ∧ j < n ∧ -(n : Int) ≤ i ∧ i < n := by
  unfold ixN at h
  by_cases h0 : 0 ≤ i
  · rw [if_pos h0] at h
    by_cases h1 : i < n
    · rw [if_pos h1] at h
      have e : i.toNat = j := Option.some.inj h
      exact ⟨by rw [seqIndex_of h0 h1, e], by omega, by omega, h1⟩
    · rw [if_neg h1] at h; cases h
  · rw [if_neg h0] at h
    by_cases h1 : -(n : Int) ≤ i
    · rw [if_pos h1] at h
      have e : (i + n).toNat = j := Option.some.inj h
      exact ⟨by rw [seqIndex_neg (by omega) h1, e], by omega, h1, by omega⟩
    · rw [if_neg h1] at h; cases h
theorem atI_get {α : Type} {xs : List α} {i : Int} {v : α} (h : atI xs i = some v) : ∃ j, seqIndex? i xs.length = some j ∧ xs[j]? = some v ∧ j < xs.length ∧ -(xs.length : Int) ≤ i ∧ i < xs.length := by
  unfold atI at h
  cases e : ixN xs.length i with
  | none => rw [e] at h; cases h
  | some j =>
    rw [e] at h
    obtain ⟨h1, h2, h3, h4⟩ := ixN_seq e
    exact ⟨j, h1, h, h2, h3, h4⟩
theorem atI_nat {α : Type} {xs : List α} {j : Nat} {v : α} (h : xs[j]? = some v) : atI xs (j : Int) = some v := by
  have hj : j < xs.length := (List.getElem?_eq_some_iff.mp h).1
  have e : ixN xs.length (j : Int) = some j := by
    unfold ixN
    rw [if_pos (by omega), if_pos (by omega)]; simp
  unfold atI; rw [e]; exact h
/-- what stands as an index of a plain subscript -/
def PlainIx (b : Expr) : Prop := ∀ o i, subscripted b false o i = operate [o, i] (getItem o i)
/-- a subscript by values -/
def IxR (X : Cx) (r : R2) : Prop :=
  ∀ (value slice : Expr) (pins : List (Addr × Obj)) (s : Shared) (σ : St) (H : Hp) (x y : V) (v u : Value) (Q : VK), Inv X pins σ H s → RelV x v → RelV y u → r x y H Q →
    subscripted slice false v u = operate [v, u] (getItem v u) → wpAny (model X.prog X.w) X.A (subscriptTail value slice v u) (EP X pins σ Q) X.xe s
/-- a call of a builtin's method by values: the receiver, the arguments -/
def MtR (X : Cx) (id : String) (r : V → List V → Hp → VK → Prop) : Prop :=
  ∀ (pins : List (Addr × Obj)) (s : Shared) (σ : St) (H : Hp) (x : V) (xs : List V) (v : Value) (us : List Value) (Q : VK), Inv X pins σ H s → RelV x v → Vals xs us → r x xs H Q →
    wpAny (model X.prog X.w) X.A (call (.builtin id) (v :: us)) (EP X pins σ Q) X.xe s
section
variable {X : Cx} {a b : Expr} {ta tb : TE} {pos : Pos}
theorem IxR.or {r r' : R2} (h : IxR X r) (h' : IxR X r') : IxR X (fun x y H Q => r x y H Q ∨ r' x y H Q) := by
  intro value slice pins s σ H x y v u Q I rx ry q hs
  rcases q with q | q
  · exact h value slice pins s σ H x y v u Q I rx ry q hs
  · exact h' value slice pins s σ H x y v u Q I rx ry q hs
/-- a[b] -/
theorem pe_ix {r : R2} (hr : IxR X r) (ha : PE X a ta) (hb : PE X b tb) (hs : PlainIx b) : PE X (.Subscript a b pos) (tOp r ta tb) := by
  intro pins s σ H Q I h
  exact Subscript_ (binT ha hb I h fun v u s2 x y H2 I2 rx ry q => hr a b pins s2 σ H2 x y v u Q I2 rx ry q (hs _ _))

def rIxL (K : PySem.W.Frag) : R2 := fun x y H Q => ∃ p xs i v, x = .ref p ∧ y = .int i ∧ SqL K H p xs ∧ atI xs i = some v ∧ Q v H
def rIxT (K : PySem.W.Frag) : R2 := fun x y H Q => ∃ p xs i v, x = .ref p ∧ y = .int i ∧ SqT K H p xs ∧ atI xs i = some v ∧ Q v H
def rIxS : R2 := fun x y H Q => ∃ z i c, x = .str z ∧ y = .int i ∧ z.length ≤ sizeLine ∧ atI z.cps.toList i = some c ∧ Q (.str ⟨#[c]⟩) H
theorem ix_list : IxR X (rIxL X.K) := by
  intro value slice pins s σ H x y v u Q I rx ry h hs
  obtain ⟨p, xs, i, z, rfl, rfl, hq, he, q⟩ := h
  cases rx
  obtain ⟨t, rfl⟩ := ry
  obtain ⟨its, r, pl, hz⟩ := I.list hq
  obtain ⟨j, h1, h2, h3, h4, h5⟩ := atI_get he
  obtain ⟨w, ew, rw'⟩ := r.get h2
  have hl := r.length
  have hn := line63
  have fin : EP X pins σ Q w s := ⟨z, H, I, rw', q⟩
  by_cases h0 : 0 ≤ i
  · have hj : i.toNat = j := by
      rw [seqIndex_of h0 h5] at h1
      exact Option.some.inj h1
    exact item_listR pl.isList h0 (by omega) (by rw [hj]; simpa using ew) fin hs
  · have hj : (i + (its.toArray.size : Int)).toNat = j := by
      rw [seqIndex_neg (by omega) h4] at h1
      rw [List.size_toArray, ← hl]
      exact Option.some.inj h1
    exact subscriptTail_builtinR (x := w) pl.isList.typeIs slot_list_getitem.lookup
      (wpAny_getItem_list_neg (Q := fun r s' => r = w ∧ EP X pins σ Q r s') pl.isList (by omega) (by rw [List.size_toArray] <;> omega) (by omega) (by rw [hj]; simpa using ew) ⟨rfl, fin⟩) hs
theorem ix_tup : IxR X (rIxT X.K) := by
  intro value slice pins s σ H x y v u Q I rx ry h hs
  obtain ⟨p, xs, i, z, rfl, rfl, hq, he, q⟩ := h
  cases rx
  obtain ⟨t, rfl⟩ := ry
  obtain ⟨its, r, pl, hz⟩ := I.tuple hq
  obtain ⟨j, h1, h2, h3, h4, h5⟩ := atI_get he
  obtain ⟨w, ew, rw'⟩ := r.get h2
  have hl := r.length
  have hn := line63
  have fin : EP X pins σ Q w s := ⟨z, H, I, rw', q⟩
  exact subscriptTail_builtinR (x := w) pl.typeIs slot_tuple_getitem.lookup
    (getItem_tuple (j := j) (Q := fun r s' => r = w ∧ EP X pins σ Q r s') pl (by omega) (by omega) (by rw [List.size_toArray, ← hl]; exact h1) (by simpa using ew) ⟨rfl, fin⟩) hs
theorem ix_str : IxR X rIxS := by
  intro value slice pins s σ H x y v u Q I rx ry h hs
  obtain ⟨z, i, c, rfl, rfl, hz, he, q⟩ := h
  obtain ⟨t, rfl⟩ := rx
  obtain ⟨t', rfl⟩ := ry
  obtain ⟨j, h1, h2, h3, h4, h5⟩ := atI_get he
  have hl : z.cps.toList.length = z.length := by simp [Str.length]
  rw [hl] at h1 h4 h5
  have hn := line63
  exact tail_any (typeIs_str s z t) slot_str_getitem.lookup (getItem_str (c := c) (by
    have e1 : decide (i < -(2 ^ 63 : Int)) = false := decide_eq_false (by omega)
    have e2 : decide (i ≥ 2 ^ 63) = false := decide_eq_false (by omega)
    rw [e1, e2, Bool.or_false]) (by rw [h1]; simpa using h2) ⟨.str ⟨#[c]⟩, H, I.tok _, ⟨_, rfl⟩, q⟩) hs
/-- list, tuple or str -/
def rIx (K : PySem.W.Frag) : R2 := fun x y H Q => rIxL K x y H Q ∨ rIxT K x y H Q ∨ rIxS x y H Q
theorem ix_seq : IxR X (rIx X.K) := ix_list.or (ix_tup.or ix_str)

theorem slice_bounds (lo hi : Option Int) (n : Nat) : (sliceBounds lo hi none n).1 = ((HT.sIx n 0 lo : Nat) : Int) ∧ (sliceBounds lo hi none n).2.1 = ((HT.sIx n n hi : Nat) : Int) ∧ (sliceBounds lo hi none n).2.2 = 1 := by
  refine ⟨?_, ?_, rfl⟩
  · cases lo with
    | none => simp [sliceBounds, HT.sIx]
    | some i =>
      simp only [sliceBounds, HT.sIx, Option.getD_none, show (1 : Int) > 0 by decide, if_true]
      by_cases h : i < 0
      · simp only [h, if_true] <;> omega
      · simp only [h, if_false] <;> omega
  · cases hi with
    | none => simp [sliceBounds, HT.sIx]
    | some i =>
      simp only [sliceBounds, HT.sIx, Option.getD_none, show (1 : Int) > 0 by decide, if_true]
      by_cases h : i < 0
      · simp only [h, if_true] <;> omega
      · simp only [h, if_false] <;> omega
theorem slicePick_cut (its : List Value) (lo hi : Option Int) : slicePick its.toArray lo hi none = ((its.drop (HT.sIx its.length 0 lo)).take (HT.sIx its.length its.length hi - HT.sIx its.length 0 lo)).toArray := by
  obtain ⟨h1, h2, h3⟩ := slice_bounds lo hi its.toArray.size
  unfold slicePick
  rw [h1, h2, h3]
  simp only [sliceRange_one, pick_run, List.size_toArray] <;> rfl
/-- xs[lo:hi] of a list: a new list -/
def rSlL (K : PySem.W.Frag) : V → Option Int → Option Int → Hp → VK → Prop := fun x lo hi H Q => ∃ a xs, x = .ref a ∧ SqL K H a xs ∧ ∀ p, H p = none → Q (.ref p) (upd H p (.lst (cutV xs lo hi)))
theorem sl_list : SlR X (rSlL X.K) := by
  intro pins s σ H x v vl vu lo hi sl Q I rx hs pl pu h
  obtain ⟨a, xs, rfl, hx, q⟩ := h
  cases rx
  obtain ⟨its, r, ht, hz⟩ := I.list hx
  have hlen := r.length
  refine ⟨"list", _, slot_list_getitem.lookup, ht.isList.typeIs, ?_⟩
  refine wpAny_getItem_list_slice ht.isList hs pl pu .none (by simp) ?_ (by rw [List.size_toArray] <;> omega)
  rw [slicePick_cut, ← hlen]
  refine ⟨.ref s.heap.objs.size, _, I.laid (t' := s.toks) (o := .lst (cutV xs lo hi)) (fun b ob q => Heap.get?_push_of_some _ q) (Nat.le_refl _) ?_, rfl, q _ (I.hok.fresh (Nat.le_refl _))⟩
  exact ⟨Nat.le_trans (cutV_length xs lo hi) hz, _, 0, (r.drop (HT.sIx xs.length 0 lo)).take (HT.sIx xs.length xs.length hi - HT.sIx xs.length 0 lo), Heap.get?_push_size _ rfl⟩

def flatV : V → Bool
  | .non => true
  | .bl _ => true
  | .int _ => true
  | .str _ => true
  | _ => false
/-- == of flat values -/
def eqV : V → V → Bool
  | .non, .non => true
  | .bl a, .bl b => a == b
  | .bl a, .int b => (if a then 1 else 0) == b
  | .int a, .bl b => a == (if b then 1 else 0)
  | .int a, .int b => a == b
  | .str a, .str b => a == b
  | _, _ => false
theorem eqAt_V {A : Around} {s : Shared} {y x : V} {u v : Value} (ry : RelV y u) (rx : RelV x v) (fy : flatV y = true) (fx : flatV x = true) : SeqAt.EqAt A s u v (eqV y x) := by
  cases y with
  | non =>
    cases ry
    cases x with
    | non => cases rx; exact SeqAt.EqAt.same _
    | bl b => cases rx; exact SeqAt.EqAt.none_bool b
    | int b => obtain ⟨t, rfl⟩ := rx; exact SeqAt.EqAt.none_int b t
    | str b => obtain ⟨t, rfl⟩ := rx; exact SeqAt.EqAt.none_str b t
    | _ => exact absurd (show false = true from fx) Bool.false_ne_true
  | bl a =>
    cases ry
    cases x with
    | non => cases rx; exact SeqAt.EqAt.bool_none a
    | bl b => cases rx; exact SeqAt.EqAt.bool_bool a b
    | int b => obtain ⟨t, rfl⟩ := rx; exact SeqAt.EqAt.bool_int a b t
    | str b => obtain ⟨t, rfl⟩ := rx; exact SeqAt.EqAt.bool_str a b t
    | _ => exact absurd (show false = true from fx) Bool.false_ne_true
  | int a =>
    obtain ⟨t', rfl⟩ := ry
    cases x with
    | non => cases rx; exact SeqAt.EqAt.int_none a t'
    | bl b => cases rx; exact SeqAt.EqAt.int_bool a t' b
    | int b => obtain ⟨t, rfl⟩ := rx; exact SeqAt.EqAt.int_int a t' b t
    | str b => obtain ⟨t, rfl⟩ := rx; exact SeqAt.EqAt.int_str a t' b t
    | _ => exact absurd (show false = true from fx) Bool.false_ne_true
  | str a =>
    obtain ⟨t', rfl⟩ := ry
    cases x with
    | non => cases rx; exact SeqAt.EqAt.str_none a t'
    | bl b => cases rx; exact SeqAt.EqAt.str_bool a t' b
    | int b => obtain ⟨t, rfl⟩ := rx; exact SeqAt.EqAt.str_int a t' b t
    | str b => obtain ⟨t, rfl⟩ := rx; exact SeqAt.EqAt.str_str a t' b t
    | _ => exact absurd (show false = true from fx) Bool.false_ne_true
  | _ => exact absurd (show false = true from fy) Bool.false_ne_true
/-- the items' answers, read off the values (a value's own answer does not lean on its token) -/
def eqU (x : V) (u : Value) : Bool := match u with
  | .none => eqV .non x
  | .bool b => eqV (.bl b) x
  | .int i _ => eqV (.int i) x
  | .str z _ => eqV (.str z) x
  | _ => false
theorem eqU_of {x y : V} {u : Value} (r : RelV y u) (f : flatV y = true) : eqU x u = eqV y x := by
  cases y with
  | non => cases r; rfl
  | bl b => cases r; rfl
  | int i => obtain ⟨t, rfl⟩ := r; rfl
  | str z => obtain ⟨t, rfl⟩ := r; rfl
  | _ => exact absurd (show false = true from f) Bool.false_ne_true
theorem any_eqU {x : V} : ∀ {xs : List V} {us : List Value}, Vals xs us → xs.all flatV = true → us.any (eqU x) = xs.any fun y => eqV y x
  | _, _, .nil, _ => rfl
  | y :: xs, u :: us, .cons r t, f => by
    rw [List.all_cons, Bool.and_eq_true] at f
    rw [List.any_cons, List.any_cons, eqU_of r f.1, any_eqU t f.2]
theorem mem_eqAt {A : Around} {s : Shared} {x : V} {v : Value} (rx : RelV x v) (fx : flatV x = true) : ∀ {xs : List V} {us : List Value}, Vals xs us → xs.all flatV = true → ∀ u ∈ us, SeqAt.EqAt A s u v (eqU x u)
  | _, _, .nil, _ => fun u hu => by cases hu
  | y :: xs, u :: us, .cons r t, f => fun u' hu => by
    rw [List.all_cons, Bool.and_eq_true] at f
    rcases List.mem_cons.mp hu with rfl | hu
    · rw [eqU_of r f.1]; exact eqAt_V r rx f.1 fx
    · exact mem_eqAt rx fx t f.2 u' hu
def inV (x : V) (xs : List V) : Bool := xs.any fun y => eqV y x
/-- x in a list or tuple of flat items -/
def rIn (K : PySem.W.Frag) (neg : Bool) : R2 := fun x y H Q => ∃ p xs, y = .ref p ∧ (SqL K H p xs ∨ SqT K H p xs) ∧ flatV x = true ∧ xs.all flatV = true ∧ Q (.bl (if neg then !inV x xs else inV x xs)) H
theorem op_notIn_seq : OpR X (compareOp .NotIn) (rIn X.K true) := by
  intro pins s σ H x y v u Q I rx ry h
  obtain ⟨p, xs, rfl, hq, fx, fs, q⟩ := h
  cases ry
  rcases hq with hq | hq
  · obtain ⟨its, r, pl, hz⟩ := I.list hq
    refine SeqAt.notIn_listAt (eqU x) pl.isList (fun w hw => mem_eqAt rx fx r fs w (by simpa using hw)) ⟨.bl _, H, I, rfl, ?_⟩
    rw [show its.toArray.any (eqU x) = its.any (eqU x) by simp, any_eqU r fs]
    exact q
  · obtain ⟨its, r, pl, hz⟩ := I.tuple hq
    refine SeqAt.notIn_tupleAt (eqU x) pl (fun w hw => mem_eqAt rx fx r fs w (by simpa using hw)) ⟨.bl _, H, I, rfl, ?_⟩
    rw [show its.toArray.any (eqU x) = its.any (eqU x) by simp, any_eqU r fs]
    exact q
/-- the value is of that builtin type -/
def tyV (K : PySem.W.Frag) (T : String) (x : V) (H : Hp) : Prop := match x with
  | .str _ => T = "str"
  | .int _ => T = "int"
  | .ref p => (T = "list" ∧ ∃ xs, SqL K H p xs) ∨ (T = "tuple" ∧ ∃ o, K.lookup p = some o ∧ o.cls = .type "tuple" ∧ o.dict = none) ∨
      (T = "dict" ∧ ((∃ kvs, H p = some (.dK kvs)) ∨ ∃ kvs, H p = some (.dT kvs))) ∨ (T = "set" ∧ ∃ S n, H p = some (.set S n))
  | _ => False
theorem tyV_is {pins : List (Addr × Obj)} {σ : St} {H : Hp} {s : Shared} {T : String} {x : V} {v : Value} (I : Inv X pins σ H s) (r : RelV x v) (ty : tyV X.K T x H) :
    s.TypeIs v T ∧ ∀ a, v = .ref a → ∃ ob, s.heap.get? a = some ob ∧ ob.dict = none := by
  cases x with
  | str z =>
    obtain ⟨t, rfl⟩ := r
    cases (show T = "str" from ty)
    exact ⟨typeIs_str s z t, fun _ e => nomatch e⟩
  | int i =>
    obtain ⟨t, rfl⟩ := r
    cases (show T = "int" from ty)
    exact ⟨typeIs_int s i t, fun _ e => nomatch e⟩
  | ref p =>
    cases r
    rcases ty with ⟨rfl, xs, hq⟩ | ⟨rfl, o, hk, hc, hd⟩ | ⟨rfl, hk⟩ | ⟨rfl, S, n, hk⟩
    · obtain ⟨its, _, pl, _⟩ := I.list hq
      refine ⟨pl.isList.typeIs, fun a e => ?_⟩
      cases e
      obtain ⟨o, n, e, c, hd, _⟩ := pl
      exact ⟨o, e, hd⟩
    · refine ⟨⟨o, I.kIn p o hk, hc⟩, fun a e => ?_⟩
      cases e
      exact ⟨o, I.kIn _ o hk, hd⟩
    · have z : ∃ o, s.heap.get? p = some o ∧ o.ExactDict := by
        rcases hk with ⟨kvs, hk⟩ | ⟨kvs, hk⟩
        · obtain ⟨_, _, _, _, o, _, _, e, ex, _⟩ := I.hok p _ hk
          exact ⟨o, e, ex⟩
        · obtain ⟨_, _, _, _, o, _, _, e, ex, _⟩ := I.hok p _ hk
          exact ⟨o, e, ex⟩
      obtain ⟨o, e, ex⟩ := z
      refine ⟨⟨o, e, ex.1⟩, fun a e2 => ?_⟩
      cases e2
      exact ⟨o, e, ex.2.1⟩
    · obtain ⟨o, _, _, _, e, ex, _⟩ := I.hok p _ hk
      refine ⟨⟨o, e, ex.1⟩, fun a e2 => ?_⟩
      cases e2
      exact ⟨o, e, ex.2.1⟩
  | _ => exact False.elim ty
def tBM (K : PySem.W.Frag) (T : String) (r : V → List V → Hp → VK → Prop) (to : TE) (t : TA) : TE := fun σ H Q => to σ H fun x H1 => tyV K T x H1 ∧ t σ H1 fun xs H2 => r x xs H2 Q
variable {o e : Expr} {es : List Expr} {to : TE} {t : TA} {name : Str} {apos cpos : Pos} {T id : String} {r : V → List V → Hp → VK → Prop}
theorem pe_bm (pa : PlainAttrs T) (slot : Slot T name id) (hty : typeOf (.builtin id) = pure (.type "method_descriptor")) (hm : MtR X id r) (ho : PE X o to) (ha : PA X (e :: es) t)
    (hbase : attributeBase o name X.env (eval o X.env) = eval o X.env := by rfl)
    (hfew : ((backTo cpos (starEach (e :: es) X.env)).all (fun x => !x.1) && (backToKw cpos (keywordEach [] X.env)).all (fun x => x.1.isSome)
      && decide ((e :: es).length + ([] : List Keyword).length + (if ([] : List Keyword).isEmpty then 0 else 1) < 30)) = true := by rfl)
    (hline : (apos.endLine == cpos.line) = true := by rfl) (hs : starEach (e :: es) X.env = (false, eval e X.env) :: starEach es X.env := by rfl) (hplain : (backTo cpos (starEach es X.env)).any (·.1) = false := by rfl) :
    PE X (.Call (.Attribute o name apos) (e :: es) [] cpos) (tBM X.K T r to t) := by
  intro pins s σ H Q I h
  refine wpAny_Call_method_late hbase hfew hline rfl (thn (ho pins s σ H _ I h) fun v s1 ⟨x, H1, I1, r1, ty, q1⟩ => ?_)
  obtain ⟨h1, h2⟩ := tyV_is I1 r1 ty
  refine ⟨T, id, pa, slot, hty, h1, h2, ?_⟩
  have hA := ha cpos pins s1 σ H1 _ I1 q1
  rw [hs] at hA ⊢
  refine Calls.callWith_builtin (by show (false || (backTo cpos (starEach es X.env)).any (·.1)) = false; rw [hplain] <;> rfl) (Calls.evalArgs_plain ?_)
  exact thn hA fun us s2 ⟨vs, H2, I2, r2, q2⟩ => hm pins s2 σ H2 x vs v us Q I2 r1 r2 q2
/- xs.append(e), list.index on a module's tuple .. are MtR facts of 06m -/
end
end L2

namespace L2
open PySem PySem.Spec PyProof.Rows

def MtM (X : Cx) (id : String) (r : V → List V → Hp → VK → Prop) : Prop :=
  ∀ (pins : List (Addr × Obj)) (s : Shared) (σ : St) (H : Hp) (x : V) (xs : List V) (v : Value) (us : List Value) (Q : VK), Inv X pins σ H s → RelV x v → Vals xs us → r x xs H Q →
    wpAny (model X.prog X.w) X.A (call (.builtin id) (v :: us)) (EP X pins σ Q) X.xe s

theorem Vals.one : ∀ {x : V} {us : List Value}, Vals [x] us → ∃ u, us = [u] ∧ RelV x u
  | _, _, .cons r .nil => ⟨_, rfl, r⟩
section
variable {X : Cx} {pins : List (Addr × Obj)} {σ : St} {H : Hp} {s : Shared} {l b : Addr} {xs ys zs : List V}

theorem Inv.lset {its its' : List Value} {n : Nat} {f : Array Value → Array Value} {t' : Nat} (I : Inv X pins σ H s) (hH : H l = some (.lst xs))
    (e : s.heap.get? l = some { cls := .type "list", data := .seq its.toArray n }) (hf : f its.toArray = its'.toArray) (hv : Vals ys its') (hz : ys.length ≤ sizeLine) :
    Inv X pins σ (upd H l (.lst ys)) { s with heap := s.heap.update l (Obj.mapSeq f), toks := t' } := by
  have q := PySem.IsL.update e f
  rw [hf] at q
  refine I.write (x := l) (e := l) (by rw [hH]; exact trivial) (.inl rfl) (fun b' u hb hu => (Heap.get?_update_other s.heap (Obj.mapSeq f) (Ne.symm hb)).trans hu) ⟨_, q⟩ ?_
  exact ⟨hz, its', _, hv, q⟩
theorem Inv.lnew {its : List Value} {t' : Nat} (I : Inv X pins σ H s) (hv : Vals ys its) (hz : ys.length ≤ sizeLine) :
    Inv X pins σ (upd H s.heap.objs.size (.lst ys)) { s with heap := s.heap.push { cls := .type "list", data := .seq its.toArray }, toks := t' } :=
  I.laid (fun _ _ q => Heap.get?_push_of_some _ q) (Nat.le_refl _) ⟨hz, its, 0, hv, Heap.get?_push_size _ rfl⟩
theorem Inv.fresh (I : Inv X pins σ H s) : H s.heap.objs.size = none := I.hok.fresh (Nat.le_refl _)
theorem Inv.lstM (I : Inv X pins σ H s) (hH : H l = some (.lst xs)) : xs.length ≤ sizeLine ∧ ∃ (its : List Value) (n : Nat), Vals xs its ∧ xs.length = its.length ∧ s.heap.get? l = some { cls := .type "list", data := .seq its.toArray n } := by
  obtain ⟨z, its, n, r, e⟩ := I.hok l _ hH
  exact ⟨z, its, n, r, r.length, e⟩

end

section
variable {X : Cx}

def rAppend : V → List V → Hp → VK → Prop := fun x vs H Q => ∃ l xs y, x = .ref l ∧ vs = [y] ∧ H l = some (.lst xs) ∧ xs.length < sizeLine ∧ Q .non (upd H l (.lst (xs ++ [y])))
theorem mt_append : MtM X "list.append" rAppend := by
  intro pins s σ H x vs v us Q I rx rv h
  obtain ⟨l, xs, y, rfl, rfl, hH, hz, q⟩ := h
  cases rx
  obtain ⟨u, rfl, ru⟩ := rv.one
  obtain ⟨z, its, n, r, hl, e⟩ := I.lstM hH
  refine call_meets F.slot_list_append ⟨_, e, rfl⟩ F.entry_list_append (F.args_list_append_2 _ _) (PySem.list_append l its.toArray n u (by rw [List.size_toArray]; omega)) ⟨e, ?_⟩
  refine ⟨.non, _, I.lset (its' := its ++ [u]) hH e (by simp) (r.append (.cons ru .nil)) ?_, rfl, q⟩
  rw [List.length_append, List.length_singleton]
  omega

def rCat : R2 := fun x y H Q => ∃ l b xs zs, x = .ref l ∧ y = .ref b ∧ H l = some (.lst xs) ∧ H b = some (.lst zs) ∧ xs.length + zs.length ≤ sizeLine ∧ ∀ p, H p = none → Q (.ref p) (upd H p (.lst (xs ++ zs)))
theorem op_cat : OpR X (binaryOp .Add) rCat := by
  intro pins s σ H x y v u Q I rx ry h
  obtain ⟨l, b, xs, zs, rfl, rfl, hH, hB, hz, q⟩ := h
  cases rx
  cases ry
  obtain ⟨z, its, n, r, hl, e⟩ := I.lstM hH
  obtain ⟨z2, its2, n2, r2, hl2, e2⟩ := I.lstM hB
  refine PySem.P.add_list e e2 ?_ (by rw [List.size_toArray, List.size_toArray]; omega)
  have ea : its.toArray ++ its2.toArray = (its ++ its2).toArray := by simp
  rw [ea]
  exact ⟨.ref _, _, I.lnew (t' := s.toks) (r.append r2) (by rw [List.length_append]; omega), rfl, q _ I.fresh⟩
end

section
variable {prog : Program} {w : World} {A : Around} {E : Value → Shared → Prop} {s : Shared}
end

section
variable {X : Cx}
end
end L2

namespace L2
open PySem PySem.Spec PyProof.Rows

section
variable {κ : Type} [DecidableEq κ]
end


section
variable {P : Program} {w : World} {H : Hp} {h : Heap} {a : Addr}
end

section
variable {X : Cx} {pins : List (Addr × Obj)} {σ : St} {H : Hp} {s : Shared} {a : Addr} {y v : V} {u r : Value} {o : Option V} {A : Around} {E : Value → Shared → Prop}

end

section
variable {X : Cx} {pins : List (Addr × Obj)} {σ : St} {H : Hp} {s : Shared} {a : Addr} {kvs : List (Key × V)} {k : Key} {u : Value} {A : Around} {E : Value → Shared → Prop}
end


section
variable {X : Cx} {o i e value : Expr} {pos pos' tpos : Pos} {td ty tv : TE}
end


section
variable {X : Cx} {pos : Pos}
end

section
variable {X : Cx} {pins : List (Addr × Obj)} {σ : St} {H : Hp} {s : Shared} {a : Addr} {y d : V} {u r : Value} {o : Option V} {A : Around} {E : Value → Shared → Prop}
end

section
variable {X : Cx} {o e f : Expr} {apos cpos : Pos} {td ty tx : TE}
end

section
variable {X : Cx} {pins : List (Addr × Obj)} {σ : St} {H : Hp} {s : Shared} {a : Addr} {kvs : List (Key × V)} {A : Around} {E : Value → Shared → Prop}
end


section
variable {X : Cx} {pins : List (Addr × Obj)} {σ : St} {H : Hp} {s : Shared} {a : Addr} {y : V} {u : Value} {A : Around} {E : Value → Shared → Prop}
end
end L2

namespace Att
open PySem PySem.W PySem.Calls PyProof.Rows

theorem ints_of_wellAll {P : Params} {h : Heap} : ∀ (ns : List Int) (vs : List Value), WellAll P h vs (ns.map WData.int) → IntsAre vs ns := by
  intro ns
  induction ns with
  | nil =>
    intro vs w
    rw [List.map_nil] at w
    cases w
    exact .nil
  | cons n ns ih =>
    intro vs w
    rw [List.map_cons] at w
    cases w with
    | cons a b =>
      cases a
      exact .cons _ _ (ih _ b)

theorem script_of {l : OpenLaw} {n : Nat} (hn : l.most = some n) {P : Params} {h : Heap} {args : List WData} {vals : List Value}
    (hpre : l.row.toRowW.claim.pre args = true) (hwl : WellAll P h vals args) :
    ∃ a vs ns, vals = [Value.ref a] ∧ args = [WData.list (ns.map WData.int)] ∧ h.get? a = some { cls := .type "list", data := .seq vs.toArray } ∧ IntsAre vs ns ∧ ns.length ≤ n := by
  have hsh : WShape.hasAll [] args [.list .int] = true := (pre_splitW hpre).1
  have hc : l.pre.holds [] { args := args } = true := (pre_splitW hpre).2
  obtain ⟨d, r, rfl, h1, h2⟩ := hasAllW_cons hsh
  obtain rfl := hasAllW_nil h2
  obtain ⟨xs, rfl, h3⟩ := hasW_list h1
  obtain ⟨ns, rfl⟩ := items_int h3
  have hlen : ns.length ≤ n := by
    unfold OpenLaw.pre at hc
    have h4 : (WTm.not (.lt (.lit (.int (n : Int))) (.len (.arg 0)))).holds [] { args := [.list (ns.map .int)] } = true := by
      have h4 := (holds_andW hc).1
      rw [hn] at h4
      exact h4
    have h5 := condW_of h4 (w_not (w_lt w_lit (w_len_list (w_arg rfl))))
    rw [List.length_map] at h5
    refine Nat.le_of_not_lt fun q => ?_
    have q' : (n : Int) < ((ns.length : Nat) : Int) := by omega
    first
      | (rw [decide_eq_true q'] at h5; exact absurd h5 (by decide))
      | (simp at h5; omega)
  cases hwl with
  | cons w1 w2 =>
    cases w2
    cases w1 with
    | list ho hall => exact ⟨_, _, ns, rfl, rfl, ho, ints_of_wellAll ns _ hall, hlen⟩

theorem post_true (l : OpenLaw) (args : List WData) : l.row.toRowW.claim.post args (.bool true) args = true :=
  postW_of (r := l.row.toRowW) (X := (true == true))
    (show WShape.has [] (.bool true) .bool = true by first | rfl | decide | simp [WShape.has, WShape.arms, WShape.armsAll])
    (show (WTm.eq .res (.lit (.bool true))).value [] { args := args, res := some (.bool true), after := args } = some (.bool (true == true)) from w_eq_bool (w_res rfl) w_lit) rfl

/-- the same from a codeAny of the CALL (for a layer whose function contracts speak of calls) -/
theorem attach_call {l : OpenLaw} {n : Nat} {q : Program} {loose : List Str} {XP : (Str → Option Value) → Heap → Prop} {YP : World → Heap → Prop} {d : DefRec}
    (hn : l.most = some n) (hdf : d.params.defaults = [])
    (call : ∀ (w : World) (s₀ s₁ : Shared) (mg mb : Str → Option Value) (fa : Addr) (o : Obj) (pm cd doc : Value) (a : Addr) (vs : List Value) (ns : List Int),
      Ground q loose [] XP w s₀ mg mb s₁.heap → YP w s₁.heap →
      s₁.heap.get? fa = some o → o.data = .func (docDef d.name d.params d.body d.scope pm cd doc) → s₁.heap.CodeRec cd d.name → mg d.name = some (.ref fa) →
      s₁.heap.get? a = some { cls := .type "list", data := .seq vs.toArray } → IntsAre vs ns → ns.length ≤ n → s₁.gens = #[] →
      codeAny (model l.prog w) callerA (.call (.ref fa) ⟨[.ref a], []⟩) (fun r s' => r = .ok (.ret (.bool true)) ∧ OldK s₁.heap s'.heap ∧ s'.os = s₁.os ∧ AllBare s'.gens) s₁) :
    WalkO q loose XP YP l.row.toRowW d [] (fun f vs => PySem.call f vs) := by
  intro w s₀ s₁ mg mb G Y fa o pm cd doc dV kV ho hd hcd hD hmg hg args vals as hpre hlay hrd hwl hlo
  obtain rfl : dV = .none := Dflts.none hD hdf
  obtain rfl : kV = .none := Dflts.noKw hD
  obtain ⟨a, vs, ns, rfl, rfl, hobj, hints, hlen⟩ := script_of hn hpre hwl
  refine enter_call (codeAny_mono (call w s₀ s₁ mg mb fa o pm cd doc a vs ns G Y ho (fd_plain hd) hcd hmg hobj hints hlen hg) fun r s' hq => ?_)
  obtain ⟨rfl, h2, h3, h4⟩ := hq
  exact ⟨.inl ⟨.bool true, .bool true, [], rfl, fun _ => rfl, .bool true, post_true l _, fun _ => ⟨List.Pairwise.nil, fun _ hm => (nomatch hm)⟩⟩, h2, h3, h4⟩

section
variable {prog : Program} {w : World} {A : Around} {E : Value → Shared → Prop} {s : Shared} {K : Frag}

end
end Att

namespace L2
open PySem PySem.Spec PyProof.Rows

theorem vals_ints : ∀ {vs : List Value} {ns : List Int}, IntsAre vs ns → Vals (ns.map V.int) vs
  | _, _, .nil => .nil
  | _, _, .cons n t h => .cons ⟨t, rfl⟩ (vals_ints h)

/-- nothing is tracked but the script, known to the object (or it is an object of the module) -/
def Only (H : Hp) : Prop := ∀ b, H b = none ∨ ∃ o xs, H b = some (.frz o (.lst xs))

/-- THE HEAD: the law's promise, at the heap behind the top. F, the promise of the law's def, may use that base is part of the heap (so K.In base, base.Ns mainGlobals mg stand in Mod) -/
theorem law_call {P : Program} {w : World} {K : PySem.W.Frag} {mg mb : Str → Option Value} {CX : CXT} {k : Nat} {fa a : Addr} {fd : FuncData} {x : Str} {sp : Sp} {s₁ : Shared} {vs : List Value} {ns : List Int}
    (KX : K.In s₁.heap) (hns : s₁.heap.Ns mainGlobals mg) (hb : s₁.heap.Ns builtinsNs mb) (hbb : ∀ x : Str, x ≠ "__name__" → mb x = bootBuiltins x) (hlim : s₁.heap.NoLimit) (hg : s₁.gens = #[])
    (ha : s₁.heap.get? a = some { cls := .type "list", data := .seq vs.toArray }) (hi : IntsAre vs ns) (hl : ns.length ≤ sizeLine) (hr : Room k callerA)
    (F : ∀ base : Heap, K.In base → base.Ns mainGlobals mg → FnOk P w K mg base CX k fa fd [x] sp) (hbind : ∀ (s : Shared) (u : Value), BindsTo s fd ⟨[u], []⟩ [(x, u)])
    (hsp : ∀ H : Hp, Only H → SqL K H a (ns.map V.int) → sp [.ref a] H (fun v _ => v = .bl true) fun _ _ _ => False)
    (hCX : ∀ H e s', CX [] H s₁ (fun _ _ _ => False) e s' → False) :
    codeAny (model P w) callerA (.call (.ref fa) ⟨[.ref a], []⟩) (fun r s' => r = .ok (.ret (.bool true)) ∧ OldK s₁.heap s'.heap ∧ s'.os = s₁.os ∧ AllBare s'.gens) s₁ := by
  have rv := vals_ints hi
  have lenV := hi.length
  -- from an abstract heap in which nothing but the script may be tracked
  have core : ∀ H : Hp, Only H → SqL K H a (ns.map V.int) → HOk P w H s₁.heap → (∀ b, H b ≠ none → b = a) → (H a ≠ none → K.lookup a = none) →
      codeAny (model P w) callerA (.call (.ref fa) ⟨[.ref a], []⟩) (fun r s' => r = .ok (.ret (.bool true)) ∧ OldK s₁.heap s'.heap ∧ s'.os = s₁.os ∧ AllBare s'.gens) s₁ := by
    intro H hO hS hok hA hK
    have base_of : ∀ {b : Addr} {o : Obj}, s₁.heap.get? b = some o → H b = none → (hidT s₁.heap H).get? b = some o := fun e n => hidT_get e n
    have noA : ∀ {b : Addr} {o : Obj} {es : Array DictEntry} {ep : Nat}, s₁.heap.get? b = some o → o.data = .dict es ep → H b = none := fun {b o es ep} e d => by
      cases q : H b with
      | none => rfl
      | some u =>
        have e' : b = a := hA b (by rw [q]; simp)
        subst e'
        rw [ha] at e; cases e
        have d' : Data.seq vs.toArray _ = Data.dict es ep := d
        cases d'
    have nsK : ∀ {b : Addr} {m : Str → Option Value}, s₁.heap.Ns b m → (hidT s₁.heap H).Ns b m := fun {b m} ⟨o, es, ep, e, d, r⟩ => ⟨o, es, ep, base_of e (noA e d), d, r⟩
    have hKb : K.In (hidT s₁.heap H) := fun b o e => base_of (KX b o e) (by
      cases q : H b with
      | none => rfl
      | some u =>
        have e' : b = a := hA b (by rw [q]; simp)
        subst e'
        rw [hK (by rw [q]; simp)] at e; cases e)
    have hM : Mod K mg (hidT s₁.heap H) := ⟨hKb, nsK hns, ⟨mb, nsK hb, hbb⟩, let ⟨mc, h1, h2⟩ := hlim; ⟨mc, nsK h1, h2⟩⟩
    have e0 : Env0 P w K mg (hidT s₁.heap H) callerA [] s₁ H := ⟨rfl, hM, fun b o e => of_hidT e, Nat.le_of_eq (hidT_size _ _), trivial, fun b hb => absurd (show b ∈ ([] : List Addr) from hb) (by simp), hok, .of_eq hg⟩
    refine codeAny_mono ((F _ hKb (nsK hns)).run callerA [] s₁ H ⟨[.ref a], []⟩ [.ref a] [.ref a] _ _ hr e0 (hbind s₁ (.ref a)) (.cons rfl .nil) (hsp H hO hS)) fun r s' h => ?_
    cases r with
    | error e => exact (hCX H e s' h).elim
    | ok fl =>
      cases fl with
      | next => exact False.elim h
      | brk => exact False.elim h
      | cont => exact False.elim h
      | ret u =>
        obtain ⟨v, H', os, bare, un, hok', r', q⟩ := h
        have q' : v = .bl true := q
        subst q'
        obtain rfl : u = Value.bool true := r'
        refine ⟨rfl, OldK.of_keep fun b o e => ?_, os, bare⟩
        cases q : H b with
        | none => exact un.keep b o e q (by intro z; exact absurd (show b ∈ ([] : List Addr) from z) (by simp)) (by simp)
        | some u =>
          rcases hO b with z | ⟨ob, xs, z⟩
          · rw [q] at z; cases z
          · have z2 := un.frzs b ob _ z
            obtain ⟨e1, _⟩ := hok b _ z
            obtain ⟨e2, _⟩ := hok' b _ z2
            rw [e] at e1; cases e1
            exact e2
  cases hk : K.lookup a with
  | some o =>
    -- the script is one of the module's own objects
    have e := KX a o hk
    rw [ha] at e
    cases e
    refine core (fun _ => none) (fun _ => .inl rfl) (.inr ⟨_, vs.toArray, _, hk, rfl, rfl, rfl, by rw [List.size_toArray, lenV]; exact hl, by simpa using rv⟩) (fun b u z => by have z' : (none : Option HO) = some u := z; cases z') (fun b z => absurd rfl z) fun z => absurd rfl z
  | none =>
    refine core (fun b => if b = a then some (.frz { cls := .type "list", data := .seq vs.toArray } (.lst (ns.map V.int))) else none) (fun b => ?_) (.inl (.inr ⟨{ cls := .type "list", data := .seq vs.toArray }, if_pos rfl⟩)) (fun b u z => ?_) (fun b z => ?_) fun _ => hk
    · by_cases hb : b = a
      · exact .inr ⟨_, _, if_pos hb⟩
      · exact .inl (if_neg hb)
    · by_cases hb : b = a
      · have z' := (if_pos hb).symm.trans z
        cases z'
        subst hb
        exact ⟨ha, by rw [List.length_map]; exact hl, vs, _, rv, ha⟩
      · have z' := (if_neg hb).symm.trans z
        cases z'
    · by_cases hb : b = a
      · exact hb
      · exact absurd (if_neg hb) z
end L2

namespace L2
open PySem PySem.Spec PyProof.Rows

abbrev KOf {K : PySem.W.Frag} {h : Heap} (_ : K.In h) : PySem.W.Frag := K

/-- the goal that k_head leaves (case hc), from the law's promise. F gives the function object fd (K's own) once, then the promise over every base -/
theorem walk_of {l : PySem.W.OpenLaw} {n k : Nat} {q : Program} {loose : List Str} {XP : (Str → Option Value) → Heap → Prop} {YP : World → Heap → Prop} {d : DefRec} {K : Params → PySem.W.Frag} {CX : World → CXT} {sp : World → Sp} {x : Str}
    (hn : l.most = some n) (hn2 : n ≤ sizeLine) (hdf : d.params.defaults = []) (hr : Room k callerA)
    (hY : ∀ (w : World) (h : Heap), YP w h → (K w.params).In h)
    (F : ∀ (w : World) (mg : Str → Option Value) (fa : Addr) (h : Heap), (K w.params).In h → h.Ns mainGlobals mg → mg d.name = some (.ref fa) →
      ∃ fd : FuncData, (∀ (s : Shared) (u : Value), BindsTo s fd ⟨[u], []⟩ [(x, u)]) ∧
        ∀ base : Heap, (K w.params).In base → base.Ns mainGlobals mg → FnOk l.prog w (K w.params) mg base (CX w) k fa fd [x] (sp w))
    (hsp : ∀ (w : World) (H : Hp) (a : Addr) (ns : List Int), ns.length ≤ n → Only H → SqL (K w.params) H a (ns.map V.int) → sp w [.ref a] H (fun v _ => v = .bl true) fun _ _ _ => False)
    (hCX : ∀ (w : World) (H : Hp) (s : Shared) (e : Value) (s' : Shared), CX w [] H s (fun _ _ _ => False) e s' → False) :
    PySem.W.WalkO q loose XP YP l.row.toRowW d [] (fun f vs => PySem.call f vs) := by
  refine Att.attach_call hn hdf fun w s₀ s₁ mg mb fa o pm cd doc a vs ns G Y ho hd hcd hmg hobj hints hlen hg => ?_
  have KX := hY w _ Y
  obtain ⟨fd, hb, hF⟩ := F w mg fa _ KX G.T.g hmg
  exact law_call KX G.T.g G.T.b G.T.builtins G.T.nolimit hg hobj hints (Nat.le_trans hlen hn2) hr hF hb (fun H hO hS => hsp w H a ns hlen hO hS) fun H e s' => hCX w H s₁ e s'
/-- the same where the promise hangs on the written part alone: (sp := My.sp_law), no hole under a binder -/
theorem walk_ofK {l : PySem.W.OpenLaw} {n k : Nat} {q : Program} {loose : List Str} {XP : (Str → Option Value) → Heap → Prop} {YP : World → Heap → Prop} {d : DefRec} {K : Params → PySem.W.Frag} {CX : CXT} {sp : PySem.W.Frag → Sp} {x : Str}
    (hn : l.most = some n) (hn2 : n ≤ sizeLine) (hdf : d.params.defaults = []) (hr : Room k callerA)
    (hY : ∀ (w : World) (h : Heap), YP w h → (K w.params).In h)
    (F : ∀ (w : World) (mg : Str → Option Value) (fa : Addr) (h : Heap), (K w.params).In h → h.Ns mainGlobals mg → mg d.name = some (.ref fa) →
      ∃ fd : FuncData, (∀ (s : Shared) (u : Value), BindsTo s fd ⟨[u], []⟩ [(x, u)]) ∧
        ∀ base : Heap, (K w.params).In base → base.Ns mainGlobals mg → FnOk l.prog w (K w.params) mg base CX k fa fd [x] (sp (K w.params)))
    (hsp : ∀ (K : PySem.W.Frag) (H : Hp) (a : Addr) (ns : List Int), ns.length ≤ n → Only H → SqL K H a (ns.map V.int) → sp K [.ref a] H (fun v _ => v = .bl true) fun _ _ _ => False)
    (hCX : ∀ (H : Hp) (s : Shared) (e : Value) (s' : Shared), CX [] H s (fun _ _ _ => False) e s' → False) :
    PySem.W.WalkO q loose XP YP l.row.toRowW d [] (fun f vs => PySem.call f vs) :=
  walk_of (K := K) (CX := fun _ => CX) (sp := fun w => sp (K w.params)) hn hn2 hdf hr hY F (fun w H a ns h1 h2 h3 => hsp (K w.params) H a ns h1 h2 h3) fun _ H s e s' => hCX H s e s'
end L2

namespace L2
open PySem PySem.Spec PyProof.Rows

def defArgs (s : Stmt) : Arguments := match s with
  | .FunctionDef _ a _ _ _ _ _ _ _ _ => a
  | _ => { posonlyargs := [], args := [], vararg := none, kwonlyargs := [], kw_defaults := [], kwarg := none, defaults := [] }
def defBody (s : Stmt) : List Stmt := match s with
  | .FunctionDef _ _ b _ _ _ _ _ _ _ => b
  | _ => []
def defScope (s : Stmt) : Scope := match s with
  | .FunctionDef _ _ _ _ _ _ sc _ _ _ => sc
  | _ => { kind := .function, names := [], isGenerator := false, isCoroutine := false }

abbrev CX0 : CXT := fun _ _ _ _ _ _ => False
abbrev E0 : XK := fun _ _ _ => False
theorem pass0 {X : Cx} : Passes CX0 X E0 := fun _ _ _ _ _ _ _ h => h.elim

structure Fun (K : PySem.W.Frag) (x qual : Str) (st : Stmt) (f : Addr) (fd : FuncData) : Prop where
  ex : ∃ (oc : Value) (od : Option Addr) (kV doc pm : Value) (an : Option Addr) (cdv ct : Value) (osl : Array (Option Value)),
    fd = PySem.W.fnOf x qual (defArgs st) (defBody st) (defScope st) .none kV doc pm an cdv ct ∧ K.lookup f = some ⟨oc, od, .func fd, osl⟩ ∧ PySem.W.codeIn K cdv qual = true
  kp : PySem.W.keepIn K (.ref f) = true
section
variable {P : Program} {w : World} {K : PySem.W.Frag} {mg : Str → Option Value} {base : Heap}
/-- THE RULE for a def: its body as a term of rules, and the reading of that term -/
theorem Fun.ok {x qual : Str} {st : Stmt} {f : Addr} {fd : FuncData} {N ps : List Str} {k : Nat} {sp : Sp} (F : Fun K x qual st f fd) (S : FnScope N ps (defScope st)) (len : ∀ vs H Q E, sp vs H Q E → vs.length = ps.length)
    (hbody : ∀ (cdv : Value) (A : Around) (outer : List Env) (s : Shared) (H : Hp) (vs : List V) (Q : VK) (E : XK), Room k (A.deeper (envOfC qual (defScope st) s.heap.objs.size f cdv)) → sp vs H Q E →
      ∃ t, PSs (cxOf CX0 P w K mg base N qual (defScope st) f cdv A outer s H E).nox (defBody st) t ∧ t { nx := fun _ H' => Q .non H', rt := Q } (start N vs) H) : FnOk P w K mg base CX0 (k + 1) f fd ps sp := by
  obtain ⟨oc, od, kV, doc, pm, an, cdv, ct, osl, rfl, lk, hcd⟩ := F.ex
  refine fn_of lk hcd S len fun A outer s H vs Q E hr hsp => ?_
  obtain ⟨t, h, q⟩ := hbody cdv A outer s H vs Q E hr hsp
  exact ⟨t, h.nox, q⟩
/-- how its arguments bind (no defaults): h is «fun _ _ _ _ _ _ us hl => match us, hl with | [_, _], _ => rfl», one _ a parameter -/
theorem Fun.binds {x qual : Str} {st : Stmt} {f : Addr} {fd : FuncData} {ps : List Str} (F : Fun K x qual st f fd)
    (h : ∀ (kV doc pm : Value) (an : Option Addr) (cdv ct : Value) (us : List Value), us.length = ps.length → bindArgs (PySem.W.fnOf x qual (defArgs st) (defBody st) (defScope st) .none kV doc pm an cdv ct) ⟨us, []⟩ = pure (ps.zip us)) : Binds K fd ps [] := by
  obtain ⟨oc, od, kV, doc, pm, an, cdv, ct, osl, rfl, lk, hcd⟩ := F.ex
  exact .all (h kV doc pm an cdv ct)
theorem fun_mk {x qual : Str} {st : Stmt} {f : Addr} {oc : Value} {od an : Option Addr} {osl : Array (Option Value)} {kV doc pm cdv ct : Value} (l : K.lookup f = some ⟨oc, od, .func (PySem.W.fnOf x qual (defArgs st) (defBody st) (defScope st) .none kV doc pm an cdv ct), osl⟩)
    (c : PySem.W.codeIn K cdv qual = true) (k : PySem.W.keepIn K (.ref f) = true) : Fun K x qual st f (PySem.W.fnOf x qual (defArgs st) (defBody st) (defScope st) .none kV doc pm an cdv ct) := ⟨⟨oc, od, kV, doc, pm, an, cdv, ct, osl, rfl, l, c⟩, k⟩
end
section
variable {X : Cx}
theorem pv (i : Nat) {x : Str} {pos : Pos} (hN : X.N[i]? = some x := by rfl) (hv : Vis X.env.scope x := by first | exact Or.inl rfl | exact Or.inr (Or.inl rfl) | exact Or.inr (Or.inr rfl)) (hd : (x == ("__debug__" : Str)) = false := by decide)
    (hcd : (x == ("__classdict__" : Str)) = false := by decide) : PE X (.Name x pos) (tVar i) := pe_var hN hv hd hcd
end

/-- all that was tracked is as it was -/
abbrev Same (H H' : Hp) : Prop := ∀ b o, H b = some o → H' b = some o
theorem Same.refl (H : Hp) : Same H H := fun _ _ h => h
theorem Same.trans {H H1 H2 : Hp} (a : Same H H1) (b : Same H1 H2) : Same H H2 := fun c o h => b c o (a c o h)
theorem Same.seq {K : PySem.W.Frag} {H H' : Hp} {a : Addr} {xs : List V} (e : Same H H') (h : SqL K H a xs) : SqL K H' a xs := by
  rcases h with (h | ⟨o, h⟩) | h
  · exact .inl (.inl (e _ _ h))
  · exact .inl (.inr ⟨o, e _ _ h⟩)
  · exact .inr h

section
variable {X : Cx}
end
section
variable {κ : Type} [DecidableEq κ]
end
end L2


namespace EM
/-- the number whose bits below n are those of f -/
def bits (f : Nat → Bool) : Nat → Nat
  | 0 => 0
  | n + 1 => bits f n + (if f n then 2 ^ n else 0)
theorem bits_lt (f : Nat → Bool) : ∀ n, bits f n < 2 ^ n
  | 0 => by simp [bits]
  | n + 1 => by
    have h := bits_lt f n
    simp only [bits]
    have e : (2 : Nat) ^ (n + 1) = 2 ^ n + 2 ^ n := by rw [Nat.pow_succ]; omega
    split <;> omega
theorem testBit_bits (f : Nat → Bool) (i : Nat) : ∀ n, (bits f n).testBit i = (decide (i < n) && f i)
  | 0 => by simp [bits]
  | n + 1 => by
    have ih := testBit_bits f i n
    have hl := bits_lt f n
    simp only [bits]
    by_cases hf : f n = true
    · rw [if_pos hf, Nat.add_comm]
      rcases Nat.lt_trichotomy i n with h | h | h
      · rw [Nat.testBit_two_pow_add_gt h, ih]
        simp [h, Nat.lt_succ_of_lt h]
      · subst h
        rw [Nat.testBit_two_pow_add_eq, ih]
        simp [hf]
      · have : (2 : Nat) ^ n + bits f n < 2 ^ i := by
          have e : (2 : Nat) ^ (n + 1) = 2 ^ n + 2 ^ n := by rw [Nat.pow_succ]; omega
          have : (2 : Nat) ^ (n + 1) ≤ 2 ^ i := Nat.pow_le_pow_right (by decide) h
          omega
        rw [Nat.testBit_lt_two_pow this]
        have : ¬ i < n + 1 := by omega
        simp [this]
    · rw [if_neg hf, Nat.add_zero, ih]
      by_cases h : i = n
      · subst h
        have : f i = false := by simpa using hf
        simp [this]
      · have : (i < n + 1) ↔ (i < n) := by omega
        simp [this]
/-- one more bit by or -/
theorem bits_or_one (f : Nat → Bool) (n : Nat) (h : f n = true) : bits f n ||| 2 ^ n = bits f (n + 1) := by
  have e := Nat.two_pow_add_eq_or_of_lt (bits_lt f n) 1
  rw [Nat.mul_one] at e
  rw [Nat.or_comm, ← e]
  simp only [bits, h, if_true]
  omega
theorem bits_skip (f : Nat → Bool) (n : Nat) (h : f n = false) : bits f (n + 1) = bits f n := by
  simp [bits, h]
theorem bits_add (f : Nat → Bool) (n : Nat) (h : f n = true) : bits f (n + 1) = bits f n + 2 ^ n := by
  simp [bits, h]
theorem lit_iff (s k : Nat) : s.testBit k = decide (s / 2 ^ k % 2 = 1) := Nat.testBit_eq_decide_div_mod_eq
theorem or_split : ∀ (n x y : Nat), x < n → (x ||| y) = (x &&& y) + (x ^^^ y)
  | 0, x, y, h => absurd h (by omega)
  | n + 1, x, y, h => by
    by_cases hx : x = 0
    · subst hx; simp
    · have ih := or_split n (x / 2) (y / 2) (by omega)
      have e1 := Nat.div_add_mod (x ||| y) 2
      have e2 := Nat.div_add_mod (x &&& y) 2
      have e3 := Nat.div_add_mod (x ^^^ y) 2
      rw [Nat.or_div_two] at e1
      rw [Nat.and_div_two] at e2
      rw [Nat.xor_div_two] at e3
      have m1 : (x ||| y) % 2 = (x % 2 ||| y % 2) := Nat.or_mod_two_pow (n := 1)
      have m2 : (x &&& y) % 2 = (x % 2 &&& y % 2) := Nat.and_mod_two_pow (n := 1)
      have m3 : (x ^^^ y) % 2 = (x % 2 ^^^ y % 2) := Nat.xor_mod_two_pow (n := 1)
      have m4 : (x % 2 ||| y % 2) = (x % 2 &&& y % 2) + (x % 2 ^^^ y % 2) := by
        rcases Nat.mod_two_eq_zero_or_one x with a | a <;> rcases Nat.mod_two_eq_zero_or_one y with b | b <;> rw [a, b] <;> rfl
      omega
end EM

namespace EM
end EM

set_option maxRecDepth 100000
set_option maxHeartbeats 4000000
namespace L2
open PySem PySem.Spec PyProof.Rows

section
variable {σ : St} {H : Hp} {Q : VK} {D : Ends} {K : PySem.W.Frag} {BQ : Bool → Hp → Prop}
theorem i_var {i : Nat} {v : V} (h : σ[i]? = some (some v)) (k : Q v H) : tVar i σ H Q := ⟨v, h, k⟩
theorem i_c {v : V} (k : Q v H) : tC v σ H Q := k
theorem i_op {r : R2} {ta tb : TE} (h : ta σ H fun x H1 => tb σ H1 fun y H2 => r x y H2 Q) : tOp r ta tb σ H Q := h
theorem i_rI0 {g : Int → Int → V} {i j : Int} (h : Q (g i j) H) : rI0 g (.int i) (.int j) H Q := ⟨i, j, rfl, rfl, h⟩
theorem i_rI {C : Int → Int → Prop} {g : Int → Int → V} {i j : Int} (c : C i j) (h : Q (g i j) H) : rI C g (.int i) (.int j) H Q := ⟨i, j, rfl, rfl, c, h⟩
theorem i_eqI {i j : Int} (h : Q (.bl (decide (i = j))) H) : rEq (.int i) (.int j) H Q := by
  refine ⟨rfl, ?_⟩
  have e : decide (V.int i = V.int j) = decide (i = j) := by simp
  rw [e]; exact h
theorem i_eqS {i j : Str} (h : Q (.bl (decide (i = j))) H) : rEq (.str i) (.str j) H Q := by
  refine ⟨rfl, ?_⟩
  have e : decide (V.str i = V.str j) = decide (i = j) := by simp
  rw [e]; exact h
theorem i_neI {i j : Int} (h : Q (.bl (!decide (i = j))) H) : rNe (.int i) (.int j) H Q := by
  refine ⟨rfl, ?_⟩
  have e : decide (V.int i = V.int j) = decide (i = j) := by simp
  rw [e]; exact h
theorem i_neS {i j : Str} (h : Q (.bl (!decide (i = j))) H) : rNe (.str i) (.str j) H Q := by
  refine ⟨rfl, ?_⟩
  have e : decide (V.str i = V.str j) = decide (i = j) := by simp
  rw [e]; exact h
theorem i_test {t : TE} (h : t σ H fun x H' => ∃ k, x = .bl k ∧ BQ k H') : tTest t σ H BQ := h
theorem i_exb {b : Bool} {R : Bool → Prop} (h : R b) : ∃ k, V.bl b = V.bl k ∧ R k := ⟨b, rfl, h⟩
theorem i_or {t u : TT} (h : t σ H fun c H1 => if c = true then BQ true H1 else u σ H1 BQ) : tOr t u σ H BQ := h
theorem i_not {t : TT} (h : t σ H fun c H1 => BQ (!c) H1) : tNot t σ H BQ := h
theorem i_andV {t u : TE} (h : t σ H fun x H1 => ∃ c, x = .bl c ∧ if c = true then u σ H1 Q else Q (.bl false) H1) : tAndV t u σ H Q := h
theorem i_if {t : TT} {ta tb : TE} (h : t σ H fun c H1 => if c = true then ta σ H1 Q else tb σ H1 Q) : tIf t ta tb σ H Q := h
theorem i_seq {t u : TS} (h : t { D with nx := u D } σ H) : tSeq t u D σ H := h
theorem i_next (h : D.nx σ H) : tNext D σ H := h
theorem i_ret {te : TE} (h : te σ H D.rt) : tRet te D σ H := h
theorem i_ifs {c : TT} {t u : TS} (h : c σ H fun b H1 => if b = true then t D σ H1 else u D σ H1) : tIfS c t u D σ H := h
theorem i_asg {te : TE} {g : TG} (h : te σ H fun x H1 => g x σ H1 D.nx) : tAsg te g D σ H := h
theorem i_name {i : Nat} {v : V} {R : St → Hp → Prop} (h : R (σ.set i (some v)) H) : gName i v σ H R := h
theorem i_nil {R : List V → Hp → Prop} (h : R [] H) : tNil σ H R := h
theorem i_cons {ta : TE} {tr : TA} {R : List V → Hp → Prop} (h : ta σ H fun x H1 => tr σ H1 fun xs H2 => R (x :: xs) H2) : tCons ta tr σ H R := h
theorem i_cb {r : List V → Hp → VK → Prop} {t : TA} (h : t σ H fun vs H1 => r vs H1 Q) : tCB r t σ H Q := h
abbrev NewT (xs : List V) (H : Hp) (Q : VK) : Prop := xs.length ≤ sizeLine ∧ ∀ p, H p = none → Q (.ref p) (upd H p (.tup xs))
theorem i_tup {t : TA} (h : t σ H fun xs H1 => NewT xs H1 Q) : tTup t σ H Q := h
theorem i_bm {T : String} {r : V → List V → Hp → VK → Prop} {to : TE} {t : TA} (h : to σ H fun x H1 => tyV K T x H1 ∧ t σ H1 fun xs H2 => r x xs H2 Q) : tBM K T r to t σ H Q := h
theorem i_sl {r : V → Option Int → Option Int → Hp → VK → Prop} {te : TE} {tl th : TO} (h : te σ H fun x H1 => tl σ H1 fun l H2 => th σ H2 fun u H3 => r x l u H3 Q) : tSl r te tl th σ H Q := h
theorem i_part {t : TE} {R : Option Int → Hp → Prop} (h : t σ H fun x H1 => ∃ i, x = .int i ∧ R (some i) H1) : tPart t σ H R := h
theorem i_exi {b : Int} {R : Int → Prop} (h : R b) : ∃ k, V.int b = V.int k ∧ R k := ⟨b, rfl, h⟩
theorem i_noPart {R : Option Int → Hp → Prop} (h : R none H) : tNoPart σ H R := h
/-- a test by a value's truth -/
theorem i_truB {b : Bool} {R : Bool → Prop} (h : R b) : ∃ k, TruV K (.bl b) H k ∧ R k := ⟨b, rfl, h⟩
/-- ifs -/
theorem i_ifd {c A B : Prop} [Decidable c] (h1 : c → A) (h2 : ¬ c → B) : if decide c = true then A else B := by
  by_cases h : c
  · rw [if_pos (decide_eq_true h)]; exact h1 h
  · rw [if_neg (by simp [h])]; exact h2 h
theorem i_ifb {b : Bool} {A B : Prop} (h1 : b = true → A) (h2 : b = false → B) : if b = true then A else B := by
  cases b
  · rw [if_neg Bool.false_ne_true]; exact h2 rfl
  · rw [if_pos rfl]; exact h1 rfl
theorem i_ifT {b : Bool} {A B : Prop} (h : b = true) (k : A) : if b = true then A else B := by rw [if_pos h]; exact k
theorem i_ifF {b : Bool} {A B : Prop} (h : b = false) (k : B) : if b = true then A else B := by rw [if_neg (by rw [h]; exact Bool.false_ne_true)]; exact k
end

def LoopR (lo : Int) (n : Nat) (g : TG) (tb : TS) (D : Ends) (σ : St) (H : Hp) : Prop :=
  ∃ W : Nat → Nat → St → Hp → Prop, (∃ m, W 0 m σ H) ∧ ∀ i m σ H, W i m σ H →
      ((Itr lo n).stop i H ∧ D.nx σ H) ∨ ((Itr lo n).go i H ∧ ∃ N : St → Hp → Prop, (∀ σ' H', N σ' H' → ∃ m', m' < m ∧ W (i + 1) m' σ' H') ∧ ∀ x H', (Itr lo n).yld i H x H' → g x σ H' fun σ2 H2 => tb { D with nx := N, ct := N, bk := D.nx } σ2 H2)
def LoopL (K : PySem.W.Frag) (a : Addr) (g : TG) (tb : TS) (D : Ends) (σ : St) (H : Hp) : Prop :=
  ∃ W : Nat → Nat → St → Hp → Prop, (∃ m, W 0 m σ H) ∧ ∀ i m σ H, W i m σ H →
      ((Itl K a).stop i H ∧ D.nx σ H) ∨ ((Itl K a).go i H ∧ ∃ N : St → Hp → Prop, (∀ σ' H', N σ' H' → ∃ m', m' < m ∧ W (i + 1) m' σ' H') ∧ ∀ x H', (Itl K a).yld i H x H' → g x σ H' fun σ2 H2 => tb { D with nx := N, ct := N, bk := D.nx } σ2 H2)
def LoopT (K : PySem.W.Frag) (a : Addr) (g : TG) (tb : TS) (D : Ends) (σ : St) (H : Hp) : Prop :=
  ∃ W : Nat → Nat → St → Hp → Prop, (∃ m, W 0 m σ H) ∧ ∀ i m σ H, W i m σ H →
      ((Itt K a).stop i H ∧ D.nx σ H) ∨ ((Itt K a).go i H ∧ ∃ N : St → Hp → Prop, (∀ σ' H', N σ' H' → ∃ m', m' < m ∧ W (i + 1) m' σ' H') ∧ ∀ x H', (Itt K a).yld i H x H' → g x σ H' fun σ2 H2 => tb { D with nx := N, ct := N, bk := D.nx } σ2 H2)
section
variable {σ : St} {H : Hp} {D : Ends} {K : PySem.W.Frag} {g : TG} {tb : TS}
theorem i_forR1 {ta : TA} (h : ta σ H fun vs H1 => ∃ j : Int, vs = [.int j] ∧ -(2 ^ 62) ≤ j ∧ j < 2 ^ 62 ∧ LoopR 0 j.toNat g tb D σ H1) : tFor (iRng1 ta) g tb D σ H := h
theorem loopR0 {n : Nat} (Pv : Nat → St → Hp → Prop) (h0 : Pv 0 σ H) (hs : ∀ (i : Nat) σ H, i < n → Pv i σ H → g (.int (i : Int)) σ H fun σ2 H2 => tb { D with nx := Pv (i + 1), ct := Pv (i + 1), bk := D.nx } σ2 H2) (hd : ∀ σ H, Pv n σ H → D.nx σ H) : LoopR 0 n g tb D σ H := for_range Pv h0 (fun i σ H hi p => by rw [Int.zero_add]; exact hs i σ H hi p) hd
theorem loopT {a : Addr} {xs : List V} (Pv : Nat → St → Hp → Prop) (h0 : Pv 0 σ H) (hl : ∀ i σ H, i ≤ xs.length → Pv i σ H → SqT K H a xs) (hs : ∀ i x σ H, xs[i]? = some x → Pv i σ H → g x σ H fun σ2 H2 => tb { D with nx := Pv (i + 1), ct := Pv (i + 1), bk := D.nx } σ2 H2) (hd : ∀ σ H, Pv xs.length σ H → D.nx σ H) : LoopT K a g tb D σ H := for_tup Pv h0 hl hs hd
end

def Its (x : Str) : It := ⟨fun i _ => i < x.cps.size, fun i H v H' => H' = H ∧ ∃ c, x.cps[i]? = some c ∧ v = .str ⟨#[c]⟩, fun i _ => x.cps.size ≤ i⟩
theorem turn_strA {P : Program} {w : World} {K : PySem.W.Frag} {tg : Expr} (x : Str) (t : Tok) (it : Addr) : Turn P w K tg (Its x) [it] it (fun i h => h.IsStrIter it "str_ascii_iterator" x t i) where
  mem := by simp
  obj := fun i h st b hb => by
    have e : b = it := by simpa using hb
    subst e
    obtain ⟨o, e, c, d⟩ := st
    exact ⟨o, e, fun v z => by rw [d] at z; cases z⟩
  keep := fun i h h' st k => let ⟨o, ho, r⟩ := st; ⟨o, k it (by simp) o ho, r⟩
  item := by
    intro X hP hw hK hc i pins s σ H E I hf st hg
    subst hP hw hK
    obtain ⟨f0, f1, f2, f3, f4, f5⟩ := hf it (by simp)
    have hg : i < x.cps.size := hg
    refine wpAny_pyNext_ascii_item st (c := x.cps[i]) (by simp [hg]) fun h' st' sb => ?_
    have I1 : Inv X pins σ H { s with heap := h', toks := s.toks + 1 } := I.turned (fun b o hb e => (sb.2 b hb).trans e) f0 f1 f3 f4 f5
    obtain ⟨o, e, c, d⟩ := id st'
    exact ⟨_, rfl, go_of (s := { s with heap := h', toks := s.toks + 1 }) e c d (by decide) ⟨.str ⟨#[x.cps[i]]⟩, H, I1, ⟨_, rfl⟩, ⟨rfl, _, by simp [hg], rfl⟩, st', fun b hb => (hf b hb).1⟩⟩
  done := by
    intro X hP hw hK hc i pins s σ H E I hf st hg
    subst hP hw hK
    obtain ⟨f0, f1, f2, f3, f4, f5⟩ := hf it (by simp)
    have hg : x.cps.size ≤ i := hg
    exact wpAny_pyNext_ascii_end (I.ok.hd hc) st (by simp [hg]) fun h' eb => ⟨rfl, I.turned (t' := s.toks) (fun b o hb e => eb b o hb e) f0 f1 f3 f4 f5⟩
  self := fun _ _ _ _ _ st h => wpAny_pyIter_striter_ascii st h
theorem turn_strW {P : Program} {w : World} {K : PySem.W.Frag} {tg : Expr} (x : Str) (t : Tok) (it : Addr) : Turn P w K tg (Its x) [it] it (fun i h => h.IsStrIter it "str_iterator" x t i) where
  mem := by simp
  obj := fun i h st b hb => by
    have e : b = it := by simpa using hb
    subst e
    obtain ⟨o, e, c, d⟩ := st
    exact ⟨o, e, fun v z => by rw [d] at z; cases z⟩
  keep := fun i h h' st k => let ⟨o, ho, r⟩ := st; ⟨o, k it (by simp) o ho, r⟩
  item := by
    intro X hP hw hK hc i pins s σ H E I hf st hg
    subst hP hw hK
    obtain ⟨f0, f1, f2, f3, f4, f5⟩ := hf it (by simp)
    have hg : i < x.cps.size := hg
    refine wpAny_pyNext_wide_item st (c := x.cps[i]) (by simp [hg]) fun h' st' sb => ?_
    have I1 : Inv X pins σ H { s with heap := h', toks := s.toks + 1 } := I.turned (fun b o hb e => (sb.2 b hb).trans e) f0 f1 f3 f4 f5
    obtain ⟨o, e, c, d⟩ := id st'
    exact ⟨_, rfl, go_of (s := { s with heap := h', toks := s.toks + 1 }) e c d (by decide) ⟨.str ⟨#[x.cps[i]]⟩, H, I1, ⟨_, rfl⟩, ⟨rfl, _, by simp [hg], rfl⟩, st', fun b hb => (hf b hb).1⟩⟩
  done := by
    intro X hP hw hK hc i pins s σ H E I hf st hg
    subst hP hw hK
    obtain ⟨f0, f1, f2, f3, f4, f5⟩ := hf it (by simp)
    have hg : x.cps.size ≤ i := hg
    exact wpAny_pyNext_wide_end (I.ok.hd hc) st (by simp [hg]) fun h' eb => ⟨rfl, I.turned (t' := s.toks) (fun b o hb e => eb b o hb e) f0 f1 f3 f4 f5⟩
  self := fun _ _ _ _ _ st h => wpAny_pyIter_striter_wide st h
def iSeq (K : PySem.W.Frag) (tl : TE) : TI := fun σ H R => tl σ H fun x H1 => (∃ a xs, x = .ref a ∧ SqL K H1 a xs ∧ R (Itl K a) H1) ∨ (∃ a xs, x = .ref a ∧ SqT K H1 a xs ∧ R (Itt K a) H1) ∨ (∃ z, x = .str z ∧ R (Its z) H1)
theorem pi_seq {X : Cx} {tg : Expr} {l : Expr} {tl : TE} (hl : PE X l tl) : PI X tg l (iSeq X.K tl) := by
  intro pins s σ H R I h
  refine thn (hl pins s σ H _ I h) fun v s1 ⟨x, H1, I1, r1, q1⟩ => ?_
  have fp : ∀ b ∈ [s1.heap.objs.size], FpOk X pins H1 b := fun b hb => by
    have e : b = s1.heap.objs.size := by simpa using hb
    subst e
    exact I1.fpOk (Nat.le_refl _) (I1.hok.fresh (Nat.le_refl _))
  rcases q1 with ⟨a, xs, e, hq, q⟩ | ⟨a, xs, e, hq, q⟩ | ⟨z, e, q⟩
  · subst e
    cases r1
    obtain ⟨its, rv, p, hz⟩ := I1.list hq
    refine wpAny_pyIter_list p.isList ?_
    exact ⟨s1.heap.objs.size, [s1.heap.objs.size], _, _, H1, rfl, I1.kept (t' := s1.toks) fun b o e => Heap.get?_push_of_some _ e, turn_list a _, ⟨_, Heap.get?_push_size _ rfl, rfl, rfl⟩, fp, q⟩
  · subst e
    cases r1
    obtain ⟨its, rv, p, hz⟩ := I1.tuple hq
    refine wpAny_pyIter_tuple (show s1.heap.IsTuple a its.toArray from p) ?_
    exact ⟨s1.heap.objs.size, [s1.heap.objs.size], _, _, H1, rfl, I1.kept (t' := s1.toks) fun b o e => Heap.get?_push_of_some _ e, turn_tuple a _, ⟨_, Heap.get?_push_size _ rfl, rfl, rfl⟩, fp, q⟩
  · subst e
    obtain ⟨t, rfl⟩ := r1
    cases ha : z.cps.all (· < 128) with
    | false =>
      refine wpAny_pyIter_wide ha ?_
      exact ⟨s1.heap.objs.size, [s1.heap.objs.size], _, _, H1, rfl, I1.kept (t' := s1.toks) fun b o e => Heap.get?_push_of_some _ e, turn_strW z t _, ⟨_, Heap.get?_push_size _ rfl, rfl, rfl⟩, fp, q⟩
    | true =>
      refine wpAny_pyIter_ascii ha ?_
      exact ⟨s1.heap.objs.size, [s1.heap.objs.size], _, _, H1, rfl, I1.kept (t' := s1.toks) fun b o e => Heap.get?_push_of_some _ e, turn_strA z t _, ⟨_, Heap.get?_push_size _ rfl, rfl, rfl⟩, fp, q⟩
def LoopX (x : Str) (g : TG) (tb : TS) (D : Ends) (σ : St) (H : Hp) : Prop :=
  ∃ W : Nat → Nat → St → Hp → Prop, (∃ m, W 0 m σ H) ∧ ∀ i m σ H, W i m σ H →
      ((Its x).stop i H ∧ D.nx σ H) ∨ ((Its x).go i H ∧ ∃ N : St → Hp → Prop, (∀ σ' H', N σ' H' → ∃ m', m' < m ∧ W (i + 1) m' σ' H') ∧ ∀ x' H', (Its x).yld i H x' H' → g x' σ H' fun σ2 H2 => tb { D with nx := N, ct := N, bk := D.nx } σ2 H2)
def SeqW (K : PySem.W.Frag) (x : V) (g : TG) (tb : TS) (D : Ends) (σ : St) (H1 : Hp) : Prop :=
  (∃ a xs, x = .ref a ∧ SqL K H1 a xs ∧ LoopL K a g tb D σ H1) ∨ (∃ a xs, x = .ref a ∧ SqT K H1 a xs ∧ LoopT K a g tb D σ H1) ∨ (∃ z, x = .str z ∧ LoopX z g tb D σ H1)
section
variable {σ : St} {H : Hp} {D : Ends} {K : PySem.W.Frag} {g : TG} {tb : TS}
theorem i_forS {tl : TE} (h : tl σ H fun x H1 => SeqW K x g tb D σ H1) : tFor (iSeq K tl) g tb D σ H := h
theorem seqT {a : Addr} {xs : List V} (Pv : Nat → St → Hp → Prop) (h0 : Pv 0 σ H) (hl : ∀ i σ H, i ≤ xs.length → Pv i σ H → SqT K H a xs) (hs : ∀ i x σ H, xs[i]? = some x → Pv i σ H → g x σ H fun σ2 H2 => tb { D with nx := Pv (i + 1), ct := Pv (i + 1), bk := D.nx } σ2 H2) (hd : ∀ σ H, Pv xs.length σ H → D.nx σ H) : SeqW K (.ref a) g tb D σ H := .inr (.inl ⟨a, xs, rfl, hl 0 σ H (Nat.zero_le _) h0, loopT Pv h0 hl hs hd⟩)
theorem seqX {x : Str} (Pv : Nat → St → Hp → Prop) (h0 : Pv 0 σ H) (hs : ∀ (i : Nat) (c : Nat) σ H, x.cps[i]? = some c → Pv i σ H → g (.str ⟨#[c]⟩) σ H fun σ2 H2 => tb { D with nx := Pv (i + 1), ct := Pv (i + 1), bk := D.nx } σ2 H2) (hd : ∀ σ H, Pv x.cps.size σ H → D.nx σ H) : SeqW K (.str x) g tb D σ H := by
  refine .inr (.inr ⟨x, rfl, fun i m σ H => m = x.cps.size - i ∧ i ≤ x.cps.size ∧ Pv i σ H, ⟨x.cps.size, by simp, Nat.zero_le _, h0⟩, ?_⟩)
  rintro i m σ H ⟨rfl, hi, p⟩
  by_cases hlt : i < x.cps.size
  · refine .inr ⟨hlt, Pv (i + 1), fun σ' H' p' => ⟨x.cps.size - (i + 1), by omega, rfl, hlt, p'⟩, fun x' H' y => ?_⟩
    obtain ⟨e, c, hc, y⟩ := y
    subst e y
    exact hs i c σ _ hc p
  · have e : i = x.cps.size := by omega
    subst e
    exact .inl ⟨Nat.le_refl _, hd σ H p⟩
end

section
variable (P : Program) (w : World) (K : PySem.W.Frag) (mg : Str → Option Value) (base : Heap)
def FnS (k : Nat) (x : Str) (ps : List Str) (sp : Sp) : Prop := ∃ f fd, FnOk P w K mg base CX0 k f fd ps sp ∧ Binds K fd ps [] ∧ PySem.W.keepIn K (.ref f) = true ∧ mg x = some (.ref f)
end
def tFn (sp : Sp) (t : TA) : TE := fun σ H Q => t σ H fun vs H1 => sp vs H1 Q E0
theorem i_fn {sp : Sp} {t : TA} {σ : St} {H : Hp} {Q : VK} (h : t σ H fun vs H1 => sp vs H1 Q E0) : tFn sp t σ H Q := h
theorem tCall_nil (sp : Sp) (t : TA) : tCall sp [] E0 t = tFn sp t := by
  funext σ H Q
  unfold tCall tFn
  have e : (fun (vs : List V) (H1 : Hp) => sp (vs ++ []) H1 Q E0) = fun vs H1 => sp vs H1 Q E0 := by
    funext vs H1; rw [List.append_nil]
  rw [e]
section
variable {X : Cx} {k k' : Nat} {x m : Str} {C : Addr} {ps : List Str} {sp : Sp} {e o : Expr} {es : List Expr} {ta : TE} {t : TA} {p pos apos : Pos}
theorem pe_fn (G : FnS X.prog X.w X.K X.mg X.base k x ps sp) (hr : Room k' X.A) (ha : PA X (e :: es) t) (hk : k ≤ k' := by omega) (hg : Gl X x := by rfl) (hdb : (x == ("__debug__" : Str)) = false := by decide)
    (he : starEach (e :: es) X.env = (false, eval e X.env) :: starEach es X.env := by rfl) (hpl : (backTo pos (starEach es X.env)).any (·.1) = false := by rfl) : PE X (.Call (.Name x p) (e :: es) [] pos) (tFn sp t) := by
  obtain ⟨f, fd, F, hb, kp, hm⟩ := G
  rw [← tCall_nil]
  exact pe_call F (hr.mono hk) hg hm kp hb .nil pass0 ha hdb he hpl
/-- name = value, the slot i -/
theorem ss (i : Nat) {x : Str} {e : Expr} {te : TE} {pos pos' : Pos} (hN : X.N.Nodup) (he : PE X e te) (hi : X.N[i]? = some x := by rfl) (hx : Loc X.env.scope x := by first | exact Or.inl rfl | exact Or.inr rfl)
    (hs : swapsWith e (some (.Name x pos')) pos.line X.env = pure false := by rfl) (hf : X.fn x = true ∨ X.env.scope.names.lookup x = some .local := by first | exact .inl rfl | exact .inr rfl) : PS X (.Assign [.Name x pos'] e pos) (tAsg te (gName i)) :=
  ps_set hN hi hx he hs hf
theorem sg (i : Nat) {x : Str} {pos : Pos} (hN : X.N.Nodup) (hi : X.N[i]? = some x := by rfl) (hx : Loc X.env.scope x := by first | exact Or.inl rfl | exact Or.inr rfl) (hf : X.fn x = true ∨ X.env.scope.names.lookup x = some .local := by first | exact .inl rfl | exact .inr rfl) : PG X (.Name x pos) (gName i) := pg_name hN hi hx hf
def rIsi (K : PySem.W.Frag) : List V → Hp → VK → Prop := fun xs H Q => ∃ x t b, TyOf K H x t ∧ ((∃ n, xs = [x, .ty n] ∧ PySem.W.kitOne K t (.type n) = some b) ∨ (∃ c, xs = [x, .ref c] ∧ PySem.W.kitOne K t (.ref c) = some b)) ∧ Q (.bl b) H
theorem call_isi : CallR X (.builtin "isinstance") (rIsi X.K) := by
  intro pins s σ H xs us Q I r h
  obtain ⟨x, t, b, ty, h, q⟩ := h
  rcases h with ⟨n, rfl, e⟩ | ⟨c, rfl, e⟩
  · obtain ⟨u, v, rfl, ru, rv⟩ := vals2 r
    obtain rfl : v = Value.type n := rv
    exact isinst_ok I ru ty e fun tk => ⟨.bl b, H, I.tok tk, rfl, q⟩
  · obtain ⟨u, v, rfl, ru, rv⟩ := vals2 r
    obtain rfl : v = Value.ref c := rv
    exact isinst_ok I ru ty e fun tk => ⟨.bl b, H, I.tok tk, rfl, q⟩
theorem i_isiT {K : PySem.W.Frag} {x : V} {n : String} {t : Value} {b : Bool} {H : Hp} {Q : VK} (ty : TyOf K H x t) (e : PySem.W.kitOne K t (.type n) = some b) (h : Q (.bl b) H) : rIsi K [x, .ty n] H Q := ⟨x, t, b, ty, .inl ⟨n, rfl, e⟩, h⟩
def rAddG : R2 := fun x y H Q => rI0 (fun i j => V.int (i + j)) x y H Q ∨ (∃ i j, x = .str i ∧ y = .str j ∧ i.length + j.length ≤ sizeLine ∧ Q (.str (i ++ j)) H) ∨ rCat x y H Q
theorem op_addG : OpR X (binaryOp .Add) rAddG := OpR.or op_add (OpR.or op_add_str op_cat)
theorem i_addI {i j : Int} {H : Hp} {Q : VK} (h : Q (.int (i + j)) H) : rAddG (.int i) (.int j) H Q := .inl ⟨i, j, rfl, rfl, h⟩
theorem i_addS {i j : Str} {H : Hp} {Q : VK} (z : i.length + j.length ≤ sizeLine) (h : Q (.str (i ++ j)) H) : rAddG (.str i) (.str j) H Q := .inr (.inl ⟨i, j, rfl, rfl, z, h⟩)
end

section
variable {X : Cx} {K : PySem.W.Frag} {H : Hp} {Q : VK} {a : Expr} {ta : TE} {pos : Pos}
theorem bt_len : bootBuiltins "len" = some (.builtin "len") := by decide +kernel
theorem bt_isinstance : bootBuiltins "isinstance" = some (.builtin "isinstance") := by decide +kernel
theorem bt_int : bootBuiltins "int" = some (.type "int") := by decide +kernel
theorem bt_bool : bootBuiltins "bool" = some (.type "bool") := by decide +kernel
theorem bt_str : bootBuiltins "str" = some (.type "str") := by decide +kernel
theorem bt_tuple : bootBuiltins "tuple" = some (.type "tuple") := by decide +kernel
theorem bt_enumerate : bootBuiltins "enumerate" = some (.type "enumerate") := by decide +kernel
/-- a constant of the text's top -/
def GC (mg : Str → Option Value) (x : Str) (v : V) : Prop := ∃ u, mg x = some u ∧ RelV v u
theorem pe_gc {x : Str} {v : V} (hg : Gl X x) (h : GC X.mg x v) (hd : (x == ("__debug__" : Str)) = false := by decide) : PE X (.Name x pos) (tC v) := by
  obtain ⟨u, e, r⟩ := h
  exact pe_glob hg e r hd
/-- len -/
def rLen (K : PySem.W.Frag) : List V → Hp → VK → Prop := fun xs H Q => ∃ x n, xs = [x] ∧ LenV K x H n ∧ Q (.int n) H
theorem call_lenG : CallR X (.builtin "len") (rLen X.K) := call_len
theorem i_lenS {p : Addr} {xs : List V} (h : SqL K H p xs) (k : Q (.int xs.length) H) : rLen K [.ref p] H Q := ⟨_, _, rfl, .inl ⟨xs, h, rfl⟩, k⟩
theorem i_lenT {p : Addr} {xs : List V} (h : H p = some (.tup xs)) (k : Q (.int xs.length) H) : rLen K [.ref p] H Q := ⟨_, _, rfl, .inr ⟨xs, SqT.of h, rfl⟩, k⟩
theorem i_lenX {x : Str} (z : x.length ≤ sizeLine) (k : Q (.int x.length) H) : rLen K [.str x] H Q := ⟨_, _, rfl, ⟨z, rfl⟩, k⟩
/-- index -/
theorem i_ixS {p : Addr} {xs : List V} {j : Nat} {v : V} (h : SqL K H p xs) (e : xs[j]? = some v) (k : Q v H) : rIx K (.ref p) (.int (j : Int)) H Q := .inl ⟨p, xs, j, v, rfl, rfl, h, atI_nat e, k⟩
theorem i_ixT {p : Addr} {xs : List V} {i : Int} {v : V} (h : H p = some (.tup xs)) (e : atI xs i = some v) (k : Q v H) : rIx K (.ref p) (.int i) H Q := .inr (.inl ⟨p, xs, i, v, rfl, rfl, SqT.of h, e, k⟩)
theorem i_ixX {x : Str} {i : Int} {c : Nat} (z : x.length ≤ sizeLine) (e : atI x.cps.toList i = some c) (k : Q (.str ⟨#[c]⟩) H) : rIx K (.str x) (.int i) H Q := .inr (.inr ⟨x, i, c, rfl, rfl, z, e, k⟩)
/-- slices of lists and tuples -/
def rSlG (K : PySem.W.Frag) : V → Option Int → Option Int → Hp → VK → Prop := fun x lo hi H Q => rSlL K x lo hi H Q ∨ rSlT K x lo hi H Q
theorem sl_seq : SlR X (rSlG X.K) := SlR.or sl_list sl_tup
/-- a times b -/
def rMulG : R2 := rI CMul fun i j => V.int (i * j)
theorem op_mulG : OpR X (binaryOp .Mult) rMulG := op_mul
theorem i_mulI {i j : Int} (c : CMul i j) (h : Q (.int (i * j)) H) : rMulG (.int i) (.int j) H Q := ⟨i, j, rfl, rfl, c, h⟩
def rNotInG (K : PySem.W.Frag) : R2 := fun x y H Q => (∃ i j, x = .str i ∧ y = .str j ∧ Q (.bl (!(!(Builtin.Str.occurrences j i 0 j.length 1).isEmpty))) H) ∨ rIn K true x y H Q
theorem op_notinG : OpR X (compareOp .NotIn) (rNotInG X.K) := OpR.or op_notin_str op_notIn_seq
end
theorem small {n : Nat} (h : n ≤ 1000000) : n ≤ sizeLine := Nat.le_trans h (by decide)
theorem smallL {n : Nat} (h : n < 1000000) : n < sizeLine := Nat.lt_of_lt_of_le h (by decide)
theorem nd_ne {l : List Addr} (h : l.Nodup) {i j : Nat} {a b : Addr} (ha : l[i]? = some a) (hb : l[j]? = some b) (hij : i ≠ j) : a ≠ b := by
  intro e
  subst e
  obtain ⟨h1, e1⟩ := List.getElem?_eq_some_iff.mp ha
  obtain ⟨h2, e2⟩ := List.getElem?_eq_some_iff.mp hb
  exact hij ((List.getElem_inj h).mp (e1.trans e2.symm))
theorem kit_self (K : PySem.W.Frag) (n : String) : PySem.W.kitOne K (.type n) (.type n) = some true := by
  unfold PySem.W.kitOne
  rw [if_pos (by simp)]
theorem same_new {H : Hp} {p : Addr} (h : H p = none) (o : HO) : Same H (upd H p o) := fun b u q => by rw [upd_ne (ne_of_none q h)]; exact q
theorem kit_prim {K : PySem.W.Frag} {t c : String} {b : Bool} (h1 : t ≠ c) (h2 : PySem.W.kitMeta c = true) (h3 : (PySem.fastBuiltinMro t).map (·.contains (Value.type c)) = some b) : PySem.W.kitOne K (.type t) (.type c) = some b := by
  unfold PySem.W.kitOne
  rw [if_neg (by simp [h1])]
  unfold PySem.W.kitCls
  dsimp only
  rw [if_pos h2]
  exact h3
theorem kit_own {K : PySem.W.Frag} {t : Value} {D : Addr} {b : Bool} (hne : t ≠ .ref D) (h1 : PySem.W.isClsIn K D = true) (h2 : PySem.W.typeIn K (.ref D) = some (.type "type")) (h3 : PySem.W.subIn K t (.ref D) = some b) : PySem.W.kitOne K t (.ref D) = some b := by
  unfold PySem.W.kitOne
  rw [if_neg (by simp [hne])]
  unfold PySem.W.kitCls
  dsimp only
  unfold PySem.W.isClsIn at h1
  rw [if_pos (by rw [h1, h2]; rfl)]
  exact h3
theorem kit_selfR (K : PySem.W.Frag) (D : Addr) : PySem.W.kitOne K (.ref D) (.ref D) = some true := by
  unfold PySem.W.kitOne
  rw [if_pos (by simp)]
theorem kit_int_bool (K : PySem.W.Frag) : PySem.W.kitOne K (.type "int") (.type "bool") = some false := kit_prim (by decide) (by decide +kernel) (by decide +kernel)
/-- the built-in names that the text does not bind -/
structure Bt (mg : Str → Option Value) : Prop where
  len : mg "len" = none
  range : mg "range" = none
  isinstance : mg "isinstance" = none
  int : mg "int" = none
  bool : mg "bool" = none
  str : mg "str" = none
  list : mg "list" = none
  tuple : mg "tuple" = none
  dict : mg "dict" = none
  set : mg "set" = none
  sorted : mg "sorted" = none
  max : mg "max" = none
  min : mg "min" = none
  sum : mg "sum" = none
  any : mg "any" = none
  all : mg "all" = none
  abs : mg "abs" = none
  reversed : mg "reversed" = none
  enumerate : mg "enumerate" = none
  zip : mg "zip" = none
/-- all but lists stay: what FmAt and its like lean on -/
def Ext (H H' : Hp) : Prop := ∀ b o, H b = some o → (∀ xs, o ≠ .lst xs) → H' b = some o
theorem cut_init (xs : List V) (v : V) : cutV (xs ++ [v]) none (some (-1)) = xs := by
  unfold cutV
  rw [HT.sIx_none]
  have e : HT.sIx (xs ++ [v]).length (xs ++ [v]).length (some (-1)) = xs.length := by
    have h : HT.sIx (xs ++ [v]).length (xs ++ [v]).length (some (-1)) = (if (-1 : Int) < 0 then ((-1 : Int) + ((xs ++ [v]).length : Int)).toNat else min (-1 : Int).toNat (xs ++ [v]).length) := rfl
    rw [h, if_pos (by decide), List.length_append, List.length_singleton]
    omega
  rw [e]
  simp
theorem snoc_of {α : Type} {l : List α} (h : l ≠ []) : ∃ r x, l = r ++ [x] := ⟨l.dropLast, l.getLast h, (List.dropLast_concat_getLast h).symm⟩
section
variable {K : PySem.W.Frag} {H : Hp} {Q : VK}
theorem j_tup {xs : List V} (z : xs.length ≤ 1000000) (h : ∀ (p : Addr) (H' : Hp), Same H H' → H p = none → H' p = some (.tup xs) → Q (.ref p) H') : NewT xs H Q :=
  ⟨small z, fun p hp => h p _ (same_new hp _) hp upd_same⟩
end
end L2

set_option maxRecDepth 100000
set_option maxHeartbeats 4000000
namespace L2
open PySem PySem.Spec PyProof.Rows
def cxComp (X : Cx) (x : Str) (ns : List Str) (scope : Scope) (cl : List (Str × Addr)) (s : Shared) (H : Hp) (ex : List Addr) : Cx where
  prog := X.prog
  w := X.w
  K := X.K
  mg := X.mg
  base := X.base
  A := X.A
  N := x :: ns
  s₀ := s
  H₀ := H
  env := compEnvC scope cl s.heap.objs.size X.env
  outer := X.stack
  stack := X.stack
  ex := ex
  fn := fun _ => false
  calm := X.calm
  pn := []
  xe := fun _ _ => False
/-- the slots that the block takes from around -/
def subS (σ : St) (ix : List Nat) : St := ix.map fun k => (σ[k]?).join
/-- the block's names: its own one, x; those it takes from around, ns, at the places ix of the frame around -/
def CompOk (sc : Scope) (N : List Str) (x : Str) (ns : List Str) (ix : List Nat) (scope : Scope) : Prop :=
  scope.kind = .function ∧ (∀ y ∈ scope.names, y.2 ≠ .cell ∧ (y.2 = .local → scope.names.lookup y.1 = some .local) ∧ (y.2 = .free → sc.names.lookup y.1 = some .cell ∨ sc.names.lookup y.1 = some .free)) ∧
  scope.names.lookup x = some .local ∧ (∀ y ∈ ns, scope.names.lookup y = some .free) ∧ (ix.map fun k => N[k]?) = ns.map some ∧ (x :: ns).Nodup
instance (sc : Scope) (N : List Str) (x : Str) (ns : List Str) (ix : List Nat) (scope : Scope) : Decidable (CompOk sc N x ns ix scope) := by unfold CompOk; infer_instance
/-- what the walk of the block is to show, the iterator J in hand -/
def CompG (J : It) (ix : List Nat) (tc : TT) (te : TE) (σ : St) (Q : VK) (H1 : Hp) : Prop := ∀ acc, H1 acc = none → ∃ W : Nat → Nat → List V → Hp → Prop, (∃ m, W 0 m [] (upd H1 acc (.lst []))) ∧
  ∀ i m ys H, W i m ys H → (J.stop i H ∧ Q (.ref acc) H) ∨ (J.go i H ∧ ∀ x H', J.yld i H x H' → tc (some x :: subS σ ix) H' fun b H2 =>
    if b = true then te (some x :: subS σ ix) H2 fun y H3 => H3 acc = some (.lst ys) ∧ ys.length < sizeLine ∧ ∃ m', m' < m ∧ W (i + 1) m' (ys ++ [y]) (upd H3 acc (.lst (ys ++ [y]))) else ∃ m', m' < m ∧ W (i + 1) m' ys H2)
def tComp (wi : TI) (ix : List Nat) (tc : TT) (te : TE) : TE := fun σ H Q => wi σ H fun J H1 => CompG J ix tc te σ Q H1
theorem lookup_mem {α β : Type} [BEq α] [LawfulBEq α] : ∀ {l : List (α × β)} {a : α} {b : β}, l.lookup a = some b → (a, b) ∈ l
  | [], _, _, h => by simp at h
  | (k, v) :: r, a, b, h => by
    rw [List.lookup_cons] at h
    cases e : a == k with
    | true =>
      rw [e] at h
      have : a = k := by simpa using e
      subst this
      cases h
      exact List.mem_cons_self
    | false =>
      rw [e] at h
      exact List.mem_cons_of_mem _ (lookup_mem h)
theorem closure_go {env : Env} : ∀ (names : List (Str × NameKind)) (acc : List (Str × Addr)), (∀ y ∈ names, y.2 = .free → ∃ c, env.cells.lookup y.1 = some c) → (∀ y c, acc.lookup y = some c → env.cells.lookup y = some c) →
    ∃ cl, (forIn names acc fun x r => match x with | (name, kind) => if (kind == NameKind.free) = true then (do let a ← cellOf env name; pure (ForInStep.yield ((name, a) :: r))) else pure (ForInStep.yield r) : Sem (List (Str × Addr))) = pure cl ∧
      (∀ y c, cl.lookup y = some c → env.cells.lookup y = some c) ∧ (∀ y, (∃ c, acc.lookup y = some c) → ∃ c, cl.lookup y = some c) ∧ ∀ y ∈ names, y.2 = .free → ∃ c, cl.lookup y.1 = some c
  | [], acc, _, ha => ⟨acc, rfl, ha, fun _ h => h, fun _ h => nomatch h⟩
  | (name, kind) :: r, acc, hn, ha => by
    cases hk : kind == NameKind.free with
    | false =>
      obtain ⟨cl, e, h1, h2, h3⟩ := closure_go r acc (fun y hy => hn y (List.mem_cons_of_mem _ hy)) ha
      refine ⟨cl, ?_, h1, h2, fun y hy hf => ?_⟩
      · rw [List.forIn_cons]
        simp only [hk, Bool.false_eq_true, if_false]
        exact e
      · rcases List.mem_cons.mp hy with rfl | hy
        · have : kind = .free := hf
          subst this
          simp at hk
        · exact h3 y hy hf
    | true =>
      have hkf : kind = .free := by simpa using hk
      obtain ⟨c, hc⟩ := hn (name, kind) List.mem_cons_self hkf
      have hc : env.cells.lookup name = some c := hc
      obtain ⟨cl, e, h1, h2, h3⟩ := closure_go r ((name, c) :: acc) (fun y hy => hn y (List.mem_cons_of_mem _ hy)) (fun y c' hy => by
        rw [List.lookup_cons] at hy
        cases e : y == name with
        | true =>
          rw [e] at hy
          have : y = name := by simpa using e
          subst this
          cases hy
          exact hc
        | false =>
          rw [e] at hy
          exact ha y c' hy)
      refine ⟨cl, ?_, h1, fun y hy => h2 y ?_, fun y hy hf => ?_⟩
      · rw [List.forIn_cons]
        simp only [hk, if_true]
        have : cellOf env name = pure c := by unfold cellOf; rw [hc]
        rw [this]
        exact e
      · obtain ⟨c', hc'⟩ := hy
        rw [List.lookup_cons]
        cases y == name
        · exact ⟨c', hc'⟩
        · exact ⟨c, rfl⟩
      · rcases List.mem_cons.mp hy with rfl | hy
        · exact h2 _ ⟨c, by rw [List.lookup_cons]; simp⟩
        · exact h3 y hy hf
theorem closure_ok {env : Env} (scope : Scope) (h : ∀ y ∈ scope.names, y.2 = .free → ∃ c, env.cells.lookup y.1 = some c) :
    ∃ cl, closureFor scope env = pure cl ∧ (∀ y c, cl.lookup y = some c → env.cells.lookup y = some c) ∧ ∀ y ∈ scope.names, y.2 = .free → ∃ c, cl.lookup y.1 = some c := by
  obtain ⟨cl, e, h1, _, h3⟩ := closure_go (env := env) scope.names [] h (fun _ _ z => by simp at z)
  refine ⟨cl, ?_, h1, h3⟩
  show ((forIn scope.names [] fun x r => match x with | (name, kind) => if (kind == NameKind.free) = true then (do let a ← cellOf env name; pure (ForInStep.yield ((name, a) :: r))) else pure (ForInStep.yield r) : Sem (List (Str × Addr))) >>= fun s => pure s) = pure cl
  rw [e]
  rfl
/-- a name's kind within the block -/
theorem relabel_kind {env : Env} : ∀ (names : List (Str × NameKind)) (y : Str), (names.map fun (n, k) => if (k == NameKind.free && env.scope.kind == .function && env.kindOf n == some .cell) then (n, NameKind.cell) else (n, k)).lookup y =
    (names.lookup y).map fun k => if (k == NameKind.free && env.scope.kind == .function && env.kindOf y == some .cell) = true then NameKind.cell else k
  | [], y => by simp
  | (n, k) :: r, y => by
    have ih := relabel_kind (env := env) r y
    rw [List.map_cons, List.lookup_cons]
    cases e : y == n with
    | true =>
      have ey : y = n := by simpa using e
      subst ey
      by_cases hc : (k == NameKind.free && env.scope.kind == .function && env.kindOf y == some .cell) = true
      · simp only [hc, if_true, List.lookup_cons, beq_self_eq_true, Option.map_some]
      · simp only [hc, if_false, List.lookup_cons, beq_self_eq_true, Option.map_some, Bool.false_eq_true]
    | false =>
      by_cases hc : (k == NameKind.free && env.scope.kind == .function && env.kindOf n == some .cell) = true
      · simp only [hc, if_true, List.lookup_cons, e]; exact ih
      · simp only [hc, if_false, List.lookup_cons, e, Bool.false_eq_true]; exact ih
section
variable {X : Cx} {pins : List (Addr × Obj)} {σ : St} {H : Hp} {s : Shared} {cl : List (Str × Addr)} {x : Str} {ns : List Str} {ix : List Nat} {sc scope : Scope} {N : List Str} {fp : List Addr}
theorem fp_comp (I : Inv X pins σ H s) (f : ∀ b ∈ fp, FpOk X pins H b) (hlt : ∀ b ∈ fp, b < s.heap.objs.size) (hcl : ∀ y c, cl.lookup y = some c → X.env.cells.lookup y = some c) {H' : Hp} (hn : ∀ b ∈ fp, H' b = none) : ∀ b ∈ fp, FpOk (cxComp X x ns scope cl s H fp) [] H' b := fun b hb => by
  obtain ⟨f0, f1, f2, f3, f4, f5⟩ := f b hb
  refine ⟨hn b hb, Nat.ne_of_lt (hlt b hb), fun z => ?_, .inl hb, fun y c e => f4 y c (hcl y c e), fun p hp => ?_⟩
  · rcases List.mem_cons.mp (I.stkSub b z) with z | z
    · exact f1 z
    · exact f2 z
  · exact absurd (show p ∈ ([] : List (Addr × Obj)) from hp) (by simp)
theorem inv_comp {h1 : Heap} {m : Str → Option Value} {t' : Nat} (I : Inv X pins σ H s) (hsc : X.env.scope = sc) (hN : X.N = N) (C : CompOk sc N x ns ix scope) (hcl : ∀ y c, cl.lookup y = some c → X.env.cells.lookup y = some c)
    (hcla : ∀ y ∈ scope.names, y.2 = .free → ∃ c, cl.lookup y.1 = some c) (f : ∀ b ∈ fp, FpOk X pins H b) (hlt : ∀ b ∈ fp, b < s.heap.objs.size) (hn : h1.Ns s.heap.objs.size m) (hk : ∀ b o, s.heap.get? b = some o → h1.get? b = some o) :
    Inv (cxComp X x ns scope cl s H fp) [] (none :: subS σ ix) H { s with heap := h1, toks := t' } := by
  obtain ⟨c1, c2, c3, c4, c5, c6⟩ := C
  have kind : ∀ y, (relabel scope X.env).names.lookup y = (scope.names.lookup y).map fun k => if (k == NameKind.free && X.env.scope.kind == .function && X.env.kindOf y == some .cell) = true then NameKind.cell else k := fun y => relabel_kind scope.names y
  have fr : ∀ y, ((relabel scope X.env).names.lookup y = some .cell ∨ (relabel scope X.env).names.lookup y = some .free) → scope.names.lookup y = some .free := fun y h => by
    rw [kind y] at h
    cases e : scope.names.lookup y with
    | none => rw [e] at h; simp at h
    | some k =>
      rw [e] at h
      have hm := lookup_mem e
      cases k with
      | free => rfl
      | cell => exact absurd rfl (c2 _ hm).1
      | «local» => simp at h
      | globalExplicit => simp at h
      | globalImplicit => simp at h
  have fr' : ∀ y, scope.names.lookup y = some .free → (relabel scope X.env).names.lookup y = some .cell ∨ (relabel scope X.env).names.lookup y = some .free := fun y h => by
    rw [kind y, h]
    by_cases hc : (NameKind.free == NameKind.free && X.env.scope.kind == .function && X.env.kindOf y == some .cell) = true
    · left; rw [Option.map_some, if_pos hc]
    · right; rw [Option.map_some, if_neg hc]
  have noC : ∀ p : Addr × Obj, p ∉ (cxComp X x ns scope cl s H fp).pn ++ [] := fun p hp => absurd (show p ∈ ([] : List (Addr × Obj)) from hp) (by simp)
  have lenE : ix.length = ns.length := by
    have := congrArg List.length c5
    rwa [List.length_map, List.length_map] at this
  refine ⟨⟨I.ok.mod, c1, I.ok.glob, I.ok.blt, Nat.le_refl _, fun y z c h1 h2 => I.ok.inj y z c (hcl y c h1) (hcl z c h2), fun y hy => ?_, fun y c hy => absurd hy (by simp [cxComp]), I.ok.hd, I.ok.frames, .inl rfl, fun b hb => ?_, I.bs,
    Nat.le_trans I.ok.bsz I.sz, fun b o e hb => ?_, fun b hb => ?_, I.stack, I.stkFree⟩, rfl, I.bare, Un.kept hk, ⟨m, hn, fun i y v e1 e2 e3 => ?_⟩, fun y c e => ?_, I.hok.fresh (Nat.le_refl _), fun y c e => I.freeC y c (hcl y c e), fun p hp => absurd hp (noC p), I.hok.kept hk, ?_⟩
  · exact hcla _ (lookup_mem (fr y hy)) rfl
  · obtain ⟨f0, f1, f2, f3, f4, f5⟩ := f b hb
    exact ⟨Nat.ne_of_lt (hlt b hb), fun y c e => f4 y c (hcl y c e)⟩
  · obtain ⟨f0, f1, f2, f3, f4, f5⟩ := f b hb
    rcases f3 with z | z
    · exact I.ok.noex b o e z
    · exact absurd (Nat.lt_of_lt_of_le (Heap.lt_size (I.ok.bs b o e).1) z) (Nat.lt_irrefl _)
  · obtain ⟨f0, f1, f2, f3, f4, f5⟩ := f b hb
    intro z
    rcases List.mem_cons.mp (I.stkSub b z) with z | z
    · exact f1 z
    · exact f2 z
  · cases i with
    | zero => cases e2
    | succ j =>
      have e1' : ns[j]? = some y := e1
      have e2' : (ix.map fun k => (σ[k]?).join)[j]? = some (some v) := e2
      have e5 := congrArg (fun l => l[j]?) c5
      simp only [List.getElem?_map, e1', Option.map_some] at e5 e2'
      cases ek : ix[j]? with
      | none => rw [ek] at e5; cases e5
      | some k =>
        rw [ek] at e5 e2'
        have eN : N[k]? = some y := by simpa using e5
        have eσ : (σ[k]?).join = some v := by simpa using e2'
        have eσ' : σ[k]? = some (some v) := by
          cases q : σ[k]? with
          | none => rw [q] at eσ; cases eσ
          | some w => rw [q] at eσ; have : w = some v := eσ; rw [this]
        have hy := c4 y (List.mem_of_getElem? e1')
        have hk' := (c2 _ (lookup_mem hy)).2.2 rfl
        rw [← hsc] at hk'
        obtain ⟨m0, hn0, hl⟩ := I.loc
        obtain ⟨u, r, l⟩ := hl k y v (by rw [hN]; exact eN) eσ' (.inr hk')
        refine ⟨u, r, ?_⟩
        rcases l with ⟨kl, _⟩ | ⟨_, c, ec, z⟩
        · exfalso
          have kl : X.env.scope.names.lookup y = some .local := kl
          rw [kl] at hk'
          rcases hk' with z | z <;> cases z
        · obtain ⟨c', ec'⟩ := hcla _ (lookup_mem hy) rfl
          have ee : c' = c := by
            have := hcl y c' ec'
            rw [ec] at this
            exact (Option.some.inj this).symm
          subst ee
          obtain ⟨o, ho, hd⟩ := z
          exact .inr ⟨fr' y hy, c', ec', ⟨o, hk _ _ ho, hd⟩⟩
  · obtain ⟨v, o, ho, hd⟩ := I.cell y c (hcl y c e)
    exact ⟨v, o, hk _ _ ho, hd⟩
  · show (none :: subS σ ix).length = (x :: ns).length
    rw [List.length_cons, List.length_cons]
    unfold subS
    rw [List.length_map, lenE]
end
theorem wp_of_pure {α β : Type} {M : Model} {A : Around} {a : α} {P : α → Shared → Prop} {E E' : Value → Shared → Prop} {s s' : Shared} {t : Sem β} {Q : β → Shared → Prop} (h : wpAny M A (pure a) P E s) (k : P a s → wpAny M A t Q E' s') : wpAny M A t Q E' s' :=
  fun Γ p hi => k (h Γ p hi) Γ p hi
/-- the tests of a comprehension -/
def PTs (X : Cx) (ifs : List Expr) (t : TT) : Prop :=
  ∀ (pins : List (Addr × Obj)) (s : Shared) (σ : St) (H : Hp) (Q : Bool → Hp → Prop), Inv X pins σ H s → t σ H Q →
    wpAny (model X.prog X.w) X.A (forIn ifs true fun c r => if r = true then do let ok ← isTrue c X.env (eval c X.env); pure (ForInStep.yield ok) else pure (ForInStep.yield r)) (TP X pins σ Q) X.xe s
def tNoIf : TT := fun _ H Q => Q true H
theorem pts_nil {X : Cx} : PTs X [] tNoIf := fun _ _ _ H _ I h => wpAny_tests_nil ⟨H, I, h⟩
section
variable {X : Cx} {pins : List (Addr × Obj)} {σ : St} {H : Hp} {s : Shared} {cl : List (Str × Addr)} {x : Str} {ns : List Str} {ix : List Nat} {sc scope : Scope} {N : List Str} {fp : List Addr} {elt iter : Expr} {px pos : Pos} {ifs : List Expr} {tc : TT} {te : TE} {wi : TI}
theorem comp_run {E : Value → Shared → Prop} {J : It} {it : Addr} {tn : Nat → Heap → Prop} {Q : VK} {RR : Value → Addr → Result → Shared → Prop} (hsc : X.env.scope = sc) (hN : X.N = N) (C : CompOk sc N x ns ix scope) (hc : X.calm = true)
    (ht : ∀ cl s H ex, PTs (cxComp X x ns scope cl s H ex) ifs tc) (he : ∀ cl s H ex, PE (cxComp X x ns scope cl s H ex) elt te) (I : Inv X pins σ H s) (hcl : ∀ y c, cl.lookup y = some c → X.env.cells.lookup y = some c)
    (hcla : ∀ y ∈ scope.names, y.2 = .free → ∃ c, cl.lookup y.1 = some c) (T : Turn X.prog X.w X.K (.Name x px) J fp it tn) (st : tn 0 s.heap) (f : ∀ b ∈ fp, FpOk X pins H b) (h : CompG J ix tc te σ Q H)
    (fin : ∀ D C m s' H', Inv X pins σ H' s' → s'.heap.Ns C m → FpOk X pins H' C → Q (.ref D) H' → RR (.ref D) C (.ok .next) s') :
    wpAny (model X.prog X.w) X.A (newList []) (fun ja s3 => wpAny (model X.prog X.w) X.A (newFunctionEnv scope X.env.globals cl [] X.env.qual none .none (some X.env)) (fun ce s4 =>
      codeAny (model X.prog X.w) X.A (.compStart (.ListComp elt [⟨.Name x px, iter, ifs, 0⟩] scope pos) 0 (.ref it) ja { ce with scope := relabel scope X.env }) (RR ja ce.locals) s4) E s3) E s := by
  have hC := C
  obtain ⟨c1, c2, c3, c4, c5, c6⟩ := C
  have hfr : H s.heap.objs.size = none := I.hok.fresh (Nat.le_refl _)
  obtain ⟨W, ⟨m0, w0⟩, turn⟩ := h _ hfr
  refine wpAny_newObj_type (wpAny_newFunctionEnv (fun y hy => (c2 y hy).1) (by intro y hy; simp at hy) (fun h1 hn1 hs1 => ?_) c1)
  have I3 := I.lnew (its := []) (ys := []) (t' := s.toks) .nil (Nat.zero_le _)
  have hlt0 : ∀ b ∈ fp, b < s.heap.objs.size := fun b hb => by
    obtain ⟨o, ho, _⟩ := T.obj _ _ st b hb
    exact Heap.lt_size ho
  generalize hs3 : ({ s with heap := s.heap.push { cls := .type "list", data := .seq ([] : List Value).toArray }, toks := s.toks } : Shared) = s3 at I3
  have e3 : s3.heap = s.heap.push { cls := .type "list", data := .seq ([] : List Value).toArray } := by rw [← hs3]
  have sz3 : s3.heap.objs.size = s.heap.objs.size + 1 := by rw [e3, Heap.size_push]
  have f3 : ∀ b ∈ fp, FpOk X pins (upd H s.heap.objs.size (.lst [])) b := fun b hb => ⟨by rw [upd_ne (Nat.ne_of_lt (hlt0 b hb))]; exact (f b hb).1, (f b hb).2⟩
  have hlt : ∀ b ∈ fp, b < s3.heap.objs.size := fun b hb => by rw [sz3]; exact Nat.lt_succ_of_lt (hlt0 b hb)
  have hk : ∀ b o, s3.heap.get? b = some o → h1.get? b = some o := fun b o e => by
    refine (hs1.2 b ?_).trans (Heap.get?_push_of_some _ ?_)
    · have := Heap.lt_size e
      rw [sz3] at this
      show b ≠ (s.heap.push _).objs.size
      rw [Heap.size_push]
      exact Nat.ne_of_lt this
    · rw [e3] at e; exact e
  have hn3 : h1.Ns s3.heap.objs.size (fun y => ([] : List (Str × Value)).reverse.lookup y) := by rw [e3]; exact hn1
  have I4 := inv_comp (t' := s3.toks + ([] : List (Str × Value)).length) I3 hsc hN hC hcl hcla f3 hlt hn3 hk
  have st4 : tn 0 h1 := T.keep _ _ _ st fun b hb o e => hk b o (by rw [e3]; exact Heap.get?_push_of_some _ e)
  have stat : ∀ {H' : Hp}, (∀ b ∈ fp, H' b = none) → ∀ b ∈ fp, FpOk (cxComp X x ns scope cl s3 (upd H s.heap.objs.size (.lst [])) fp) [] H' b := fun {H'} hn => fp_comp I3 f3 hlt hcl hn
  have loop : ∀ s4 : Shared, s4 = { s3 with heap := h1, toks := s3.toks + ([] : List (Str × Value)).length } →
      codeAny (model X.prog X.w) X.A (.compLoop (.ListComp elt [⟨.Name x px, iter, ifs, 0⟩] scope pos) 0 (.ref it) (.ref s.heap.objs.size) (compEnvC scope cl s3.heap.objs.size X.env)) (RR (.ref s.heap.objs.size) s3.heap.objs.size) s4 := by
    rintro s4 rfl
    refine codeAny_compLoop_tests (fun n s' => ∃ i v0 ys H', Inv (cxComp X x ns scope cl s3 (upd H s.heap.objs.size (.lst [])) fp) [] (v0 :: subS σ ix) H' s' ∧ tn i s'.heap ∧ (∀ b ∈ fp, H' b = none) ∧ W i n ys H') ?_ m0 ⟨0, none, [], _, I4, st4, fun b hb => (f3 b hb).1, w0⟩
    rintro n s5 ⟨i, v0, ys, H5, I5, st5, fr5, w5⟩
    rcases turn i n ys H5 w5 with ⟨stop, q⟩ | ⟨go, step⟩
    · refine wpAny_mono (T.done (cxComp X x ns scope cl s3 (upd H s.heap.objs.size (.lst [])) fp) rfl rfl rfl hc i [] s5 _ H5 _ I5 (stat fr5) st5 stop) (fun r s6 hr => ?_) fun _ _ e => e
      obtain ⟨hr, I6⟩ := hr
      subst hr
      obtain ⟨m6, hn6, _⟩ := id I6.loc
      refine fin _ _ m6 s6 H5 (I3.call' I6.os I6.base I6.hok I6.bare fun b hb => ?_) hn6 (I3.fpOk (Nat.le_refl _) I6.free) q
      obtain ⟨g0, g1, g2, g3, g4, g5⟩ := f3 b hb
      exact ⟨g3, g1, g4, g5⟩
    · refine wpAny_mono (T.item (cxComp X x ns scope cl s3 (upd H s.heap.objs.size (.lst [])) fp) rfl rfl rfl hc i [] s5 _ H5 _ I5 (stat fr5) st5 go) (fun r s6 hr => ?_) fun _ _ e => e
      obtain ⟨u, hr, h6⟩ := hr
      subst hr
      refine wp_of_pure (a := ()) h6 fun q6 => ?_
      obtain ⟨xv, H6, I6, r6, y6, st6, fr6⟩ := q6
      have I6' := I6.pinned (stat fr6) (T.obj _ _ st6)
      have again : ∀ {m' : Nat} {ys' : List V} {H7 : Hp} {s7 : Shared}, Inv (cxComp X x ns scope cl s3 (upd H s.heap.objs.size (.lst [])) fp) ([] ++ pinsAt fp s6.heap) (some xv :: subS σ ix) H7 s7 → W (i + 1) m' ys' H7 →
          ∃ i v0 ys H', Inv (cxComp X x ns scope cl s3 (upd H s.heap.objs.size (.lst [])) fp) [] (v0 :: subS σ ix) H' s7 ∧ tn i s7.heap ∧ (∀ b ∈ fp, H' b = none) ∧ W i m' ys H' := fun {m' ys' H7 s7} I7 w7 => by
        refine ⟨i + 1, some xv, ys', H7, I7.unpinned, T.keep _ _ _ st6 fun b hb o e => (I7.pin (b, o) (List.mem_append_right _ (List.mem_append_right _ (mem_pinsAt hb e)))).1, fun b hb => ?_, w7⟩
        obtain ⟨o, e, d⟩ := T.obj _ _ st6 b hb
        exact (I7.pin (b, o) (List.mem_append_right _ (List.mem_append_right _ (mem_pinsAt hb e)))).2.1
      have lx : (relabel scope X.env).names.lookup x = some .local := lookup_relabel_local c3
      refine wpAny_mono (pg_name (X := cxComp X x ns scope cl s3 (upd H s.heap.objs.size (.lst [])) fp) (i := 0) (x := x) (pos := px) c6 rfl (.inl lx) (.inr lx) _ s6 _ H6 xv u (fun σ' H' => σ' = some xv :: subS σ ix ∧ H' = H6) I6' r6 ⟨rfl, rfl⟩) (fun _ s7 h7 => ?_) fun _ _ e => e.elim
      obtain ⟨σ7, H7, I7, rfl, rfl⟩ := h7
      refine wpAny_mono (ht cl s3 _ fp _ s7 _ _ _ I7 (step xv _ y6)) (fun b s8 h8 => ?_) fun _ _ e => e.elim
      obtain ⟨H8, I8, q8⟩ := h8
      cases b with
      | false =>
        rw [if_neg Bool.false_ne_true] at q8 ⊢
        obtain ⟨m', hm, w8⟩ := q8
        exact ⟨m', hm, again I8 w8⟩
      | true =>
        rw [if_pos rfl] at q8 ⊢
        refine wpAny_mono (he cl s3 _ fp _ s8 _ _ _ I8 q8) (fun uy s9 h9 => ?_) fun _ _ e => e.elim
        obtain ⟨y, H9, I9, r9, hacc, hz, m', hm, w9⟩ := h9
        refine wpAny_mono (mt_append (X := cxComp X x ns scope cl s3 (upd H s.heap.objs.size (.lst [])) fp) _ s9 _ H9 (.ref s.heap.objs.size) [y] _ [uy] (fun v H' => H' = upd H9 s.heap.objs.size (.lst (ys ++ [y]))) I9 rfl (.cons r9 .nil) ⟨_, ys, y, rfl, rfl, hacc, hz, rfl⟩) (fun _ s10 h10 => ?_) fun _ _ e => e.elim
        obtain ⟨v, H10, I10, _, rfl⟩ := h10
        exact ⟨m', hm, again I10 w9⟩
  exact codeAny_compStart_list (loop _ rfl) (T.self _ 0 _ _ _ st4 (loop _ rfl))
theorem pe_comp (hsc : X.env.scope = sc) (hN : X.N = N) (C : CompOk sc N x ns ix scope) (hc : X.calm = true) (hi : PI X (.Name x px) iter wi) (ht : ∀ cl s H ex, PTs (cxComp X x ns scope cl s H ex) ifs tc) (he : ∀ cl s H ex, PE (cxComp X x ns scope cl s H ex) elt te)
    (hs : ∀ v, foldedSetIterable iter X.env v = pure v := by intro _; rfl) : PE X (.ListComp elt [⟨.Name x px, iter, ifs, 0⟩] scope pos) (tComp wi ix tc te) := by
  intro pins s σ H Q I h
  obtain ⟨cl, hclos, hcl, hcla⟩ := closure_ok (env := X.env) scope fun y hy hf => I.ok.has y.1 (by
    have := (C.2.1 y hy).2.2 hf
    rw [← hsc] at this
    exact this)
  rw [eval_ListComp]
  refine wpAny_comprehension_free (use := none) rfl hs hclos C.1 (fun y hy => (C.2.1 y hy).2.1) (thn (hi pins s σ H _ I h) fun v s1 h1 => thn h1 fun itv s2 h2 => ?_)
  obtain ⟨it, fp, tn, J, H2, rfl, I2, T, st2, f2, hg⟩ := h2
  refine comp_run (RR := fun ja C => compPost (model X.prog X.w) X.A X.xe none (EP X pins σ Q) ja C) hsc hN C hc ht he I2 hcl hcla T st2 f2 hg ?_
  intro D C' m s' H' I' hn' fC q
  obtain ⟨g0, g1, g2, g3, g4, g5⟩ := fC
  exact ⟨m, hn', fun h' hs' => ⟨.ref D, H', I'.turned (t' := s'.toks) (fun b o hb e => hs'.extBut b o hb e) g0 (Ne.symm (Ne.symm g1)) g3 g4 g5, rfl, q⟩⟩
end
section
variable {wi : TI} {ix : List Nat} {tc : TT} {te : TE} {σ : St} {H : Hp} {Q : VK} {K : PySem.W.Frag}
theorem i_compR1 {ta : TA} (h : ta σ H fun vs H1 => ∃ j : Int, vs = [.int j] ∧ -(2 ^ 62) ≤ j ∧ j < 2 ^ 62 ∧ CompG (Itr 0 j.toNat) ix tc te σ Q H1) : tComp (iRng1 ta) ix tc te σ H Q := h
theorem i_noif {BQ : Bool → Hp → Prop} (h : BQ true H) : tNoIf σ H BQ := h
/-- J tells the values xs, one by one, as long as what was tracked at H1 stays -/
def Wk (J : It) (xs : List V) (H1 : Hp) : Prop := ∀ H', Same H1 H' → (∀ i, i < xs.length → J.go i H' ∧ ∀ x H2, J.yld i H' x H2 → H2 = H' ∧ xs[i]? = some x) ∧ J.stop xs.length H'
theorem wk_range (lo : Int) (n : Nat) (H : Hp) : Wk (Itr lo n) ((List.range n).map fun i : Nat => V.int (lo + (i : Int))) H := fun H' _ => by
  refine ⟨fun i hi => ?_, ?_⟩
  · rw [List.length_map, List.length_range] at hi
    refine ⟨hi, fun x H2 y => ?_⟩
    obtain ⟨e, y⟩ := y
    refine ⟨e, ?_⟩
    rw [List.getElem?_map, List.getElem?_range hi, y]
    rfl
  · rw [List.length_map, List.length_range]
    exact Nat.le_refl n
/-- the loop of a block whose turns leave what was tracked as it was: Pv says what the told list is -/
theorem comp_by {J : It} {xs : List V} (Pv : Nat → List V → Prop) (hw : Wk J xs H) (hz : xs.length ≤ 1000000) (h0 : Pv 0 [])
    (hs : ∀ (i : Nat) (x : V) (ys : List V) (acc : Addr) (H' : Hp), xs[i]? = some x → Same H H' → H acc = none → H' acc = some (.lst ys) → Pv i ys → ys.length ≤ i →
      ∀ R : Bool → Hp → Prop, (∀ b H2, Same H' H2 → (b = false → Pv (i + 1) ys) → (b = true → ∀ R2 : V → Hp → Prop, (∀ y H3, Same H2 H3 → Pv (i + 1) (ys ++ [y]) → R2 y H3) → te (some x :: subS σ ix) H2 R2) → R b H2) → tc (some x :: subS σ ix) H' R)
    (hd : ∀ (acc : Addr) (ys : List V) (H' : Hp), H acc = none → Same H H' → H' acc = some (.lst ys) → Pv xs.length ys → Q (.ref acc) H') : CompG J ix tc te σ Q H := by
  intro acc hacc
  have sU : ∀ {H2 : Hp} (o : HO), Same H H2 → Same H (upd H2 acc o) := fun o s b u e => by rw [upd_ne (ne_of_none e hacc)]; exact s b u e
  refine ⟨fun i m ys H' => m = xs.length - i ∧ i ≤ xs.length ∧ Same H H' ∧ H' acc = some (.lst ys) ∧ Pv i ys ∧ ys.length ≤ i, ⟨xs.length, by simp, Nat.zero_le _, same_new hacc _, upd_same, h0, Nat.le_refl _⟩, ?_⟩
  rintro i m ys H' ⟨rfl, hi, sm, ea, pv, hy⟩
  by_cases hlt : i < xs.length
  · obtain ⟨go, yl⟩ := (hw H' sm).1 i hlt
    refine .inr ⟨go, fun x H2 y => ?_⟩
    obtain ⟨rfl, hx⟩ := yl x H2 y
    refine hs i x ys acc _ hx sm hacc ea pv hy _ fun b H3 s3 pf pt => ?_
    cases b with
    | false =>
      rw [if_neg Bool.false_ne_true]
      exact ⟨xs.length - (i + 1), by omega, rfl, hlt, sm.trans s3, s3 _ _ ea, pf rfl, Nat.le_succ_of_le hy⟩
    | true =>
      rw [if_pos rfl]
      refine pt rfl _ fun y H4 s4 py => ⟨s4 _ _ (s3 _ _ ea), smallL (by omega), xs.length - (i + 1), by omega, rfl, hlt, sU _ (sm.trans (s3.trans s4)), upd_same, py, ?_⟩
      rw [List.length_append, List.length_singleton]
      omega
  · have e : i = xs.length := by omega
    subst e
    exact .inl ⟨(hw H' sm).2, hd acc ys H' hacc sm ea pv⟩
end
section
variable {X : Cx} {K : PySem.W.Frag} {a o : Expr} {ta : TE} {pos : Pos}
theorem pt_truthK (hK : X.K = K) (ha : PE X a ta) (he : ∀ whole, isTrue a X.env whole = (do let v ← whole; standAt a.pos; holding [v] (truthy v))) : PT X a (fun σ H Q => ta σ H fun x H' => ∃ k, TruV K x H' k ∧ Q k H') := by subst hK; exact pt_truth ha he
end
end L2

namespace EM
/-- a bar: the lamps asked for, those that must be lit -/
abbrev Bar := Nat × Nat
theorem filter_succ (p : Nat → Bool) (i : Nat) : (List.range (i + 1)).filter p = (List.range i).filter p ++ (if p i = true then [i] else []) := by
  rw [List.range_succ, List.filter_append, List.filter_cons, List.filter_nil]
end EM

set_option maxRecDepth 100000
set_option maxHeartbeats 4000000
namespace L2
open PySem PySem.Spec PyProof.Rows
section
variable {prog : Program} {w : World} {A : Around} {E : Value → Shared → Prop} {s : Shared}
end
section
variable {X : Cx}
def PairAt (H : Hp) (p : Addr) (k : Int × Int) : Prop := H p = some (.tup [.int k.1, .int k.2])
end
end L2

set_option maxRecDepth 100000
set_option maxHeartbeats 4000000
namespace L2
open PySem PySem.Spec PyProof.Rows
section
variable {X : Cx} {K : PySem.W.Frag} {σ : St} {H : Hp} {Q : VK} {a : Expr} {ta : TE} {pos : Pos}
/-- a slice -/
def rSlX : V → Option Int → Option Int → Hp → VK → Prop := fun x lo hi H Q => ∃ z, x = .str z ∧ z.length ≤ sizeLine ∧ Q (.str (Txt.slice z lo hi)) H
theorem sl_str : SlR X rSlX := by
  intro pins s σ H x v vl vu lo hi sl Q I rx hs pl pu h
  obtain ⟨z, rfl, hz, q⟩ := h
  obtain ⟨t, rfl⟩ := rx
  refine ⟨"str", _, F.slot_str_getitem.lookup, typeIs_str _ _ _, ?_⟩
  obtain ⟨o, ho, hc, hd⟩ := hs
  have fin : ∀ (l u : Option (Int × Tok)), vl = partValue l → vu = partValue u → l.map (·.1) = lo → u.map (·.1) = hi → wpAny (model X.prog X.w) X.A (getItem (.str z t) (.ref sl)) (EP X pins σ Q) X.xe s := fun l u e1 e2 e3 e4 => by
    subst e1 e2 e3 e4
    exact wpAny_getItem_str_slice (l := l) (u := u) (st := none) ⟨o, ho, hc, hd⟩ rfl
      (post_val_or_str ⟨Nat.le_trans (Txt.slice_le z _ _) hz, fun t' k => ⟨.str _, H, I.tok k, ⟨t', rfl⟩, q⟩⟩)
  have pv : ∀ {v : Value} {o : Option Int}, IsPart v o → ∃ l : Option (Int × Tok), v = partValue l ∧ l.map (·.1) = o := fun {v o} h => by
    cases h <;> first | exact ⟨none, rfl, rfl⟩ | exact ⟨some (_, _), rfl, rfl⟩
  obtain ⟨l, e1, e3⟩ := pv pl
  obtain ⟨u, e2, e4⟩ := pv pu
  exact fin l u e1 e2 e3 e4
/-- slices of lists, tuples, texts -/
def rSlA (K : PySem.W.Frag) : V → Option Int → Option Int → Hp → VK → Prop := fun x lo hi H Q => rSlG K x lo hi H Q ∨ rSlX x lo hi H Q
theorem sl_any : SlR X (rSlA X.K) := SlR.or sl_seq sl_str
theorem i_slX {z : Str} {lo hi : Option Int} (hz : z.length ≤ 1000000) (k : Q (.str (Txt.slice z lo hi)) H) : rSlA K (.str z) lo hi H Q := .inr ⟨z, rfl, small hz, k⟩
/-- join of a list of texts -/
theorem vals_strs : ∀ {ts : List Str} {us : List Value}, Vals (ts.map V.str) us → ∃ l : List (Str × Tok), us = strValues l ∧ l.map (·.1) = ts
  | [], _, r => by cases r; exact ⟨[], rfl, rfl⟩
  | t :: ts, _, r => by
    cases r with
    | cons r1 r2 =>
      obtain ⟨k, rfl⟩ := r1
      obtain ⟨l, rfl, rfl⟩ := vals_strs r2
      exact ⟨(t, k) :: l, rfl, rfl⟩
def rJoin (K : PySem.W.Frag) : V → List V → Hp → VK → Prop := fun x vs H Q => ∃ z l ts, x = .str z ∧ vs = [.ref l] ∧ SqL K H l (ts.map V.str) ∧ JoinOk z ts = true ∧ Q (.str (Txt.join z ts)) H
theorem ms_join : MtM X "str.join" (rJoin X.K) := by
  intro pins s σ H x vs v us Q I rx rv h
  obtain ⟨z, l, ts, rfl, rfl, hq, hj, q⟩ := h
  obtain ⟨t, rfl⟩ := rx
  obtain ⟨u, rfl, ru⟩ := rv.one
  cases ru
  obtain ⟨its, r', pl, hz⟩ := I.list hq
  obtain ⟨ls, rfl, rfl⟩ := vals_strs r'
  exact SC.join pl.isList rfl hj fun t' k => ⟨.str _, H, I.tok k, ⟨t', rfl⟩, q⟩
theorem tyS {z : Str} : tyV K "str" (.str z) H := by
  unfold tyV
  first
    | exact .inr (.inl ⟨rfl, _, rfl⟩)
    | exact .inr (.inr (.inl ⟨rfl, _, rfl⟩))
    | exact .inr (.inr ⟨rfl, _, rfl⟩)
    | simp
abbrev TJ := St → Hp → Str → VK → Prop
def PJ (X : Cx) (es : List Expr) (t : TJ) : Prop :=
  ∀ (out : Str) (pins : List (Addr × Obj)) (s : Shared) (σ : St) (H : Hp) (Q : VK), Inv X pins σ H s → t σ H out Q → wpAny (model X.prog X.w) X.A (joinParts out (evalEach es X.env)) (EP X pins σ Q) X.xe s
def tJn : TJ := fun _ H out Q => out.length ≤ sizeLine ∧ Q (.str out) H
def tJc (te : TE) (tr : TJ) : TJ := fun σ H out Q => te σ H fun x H1 => ∃ y, x = .str y ∧ (out ++ y).length ≤ sizeLine ∧ tr σ H1 (out ++ y) Q
theorem pj_nil : PJ X [] tJn := fun out pins s σ H Q I h => joinParts_nil ⟨.str out, H, I.tok _, ⟨_, rfl⟩, h.2⟩ h.1
theorem pj_cons {e : Expr} {es : List Expr} {te : TE} {tr : TJ} (he : PE X e te) (hr : PJ X es tr) : PJ X (e :: es) (tJc te tr) := by
  intro out pins s σ H Q I h
  show wpAny _ _ (joinParts out (eval e X.env :: evalEach es X.env)) _ _ s
  refine joinParts_cons (thn (he pins s σ H _ I h) fun v s1 ⟨x, H1, I1, r1, y, ex, hz, q⟩ => ?_)
  subst ex
  obtain ⟨t, rfl⟩ := r1
  exact ⟨hz, hr _ pins s1 σ H1 Q I1 q⟩
def tFs (t : TJ) : TE := fun σ H Q => t σ H Str.empty Q
theorem pe_joined {e1 e2 : Expr} {es : List Expr} {t : TJ} (h : PJ X (e1 :: e2 :: es) t) : PE X (.JoinedStr (e1 :: e2 :: es) pos) (tFs t) := by
  intro pins s σ H Q I q
  exact JoinedStr_many (h Str.empty pins s σ H Q I q)
theorem i_fs {t : TJ} (h : t σ H Str.empty Q) : tFs t σ H Q := h
theorem i_jc {te : TE} {tr : TJ} {out : Str} (h : te σ H fun x H1 => ∃ y, x = .str y ∧ (out ++ y).length ≤ sizeLine ∧ tr σ H1 (out ++ y) Q) : tJc te tr σ H out Q := h
end
end L2

set_option maxRecDepth 100000
set_option maxHeartbeats 4000000
namespace L2
open PySem PySem.Spec PyProof.Rows
mutual
def DV (H : Hp) : PyData → V → Prop
  | .none, v => v = .non
  | .bool b, v => v = .bl b
  | .int i, v => v = .int i
  | .str x, v => v = .str x
  | .list ds, v => ∃ p xs, v = .ref p ∧ H p = some (.lst xs) ∧ DVs H ds xs
  | .tuple ds, v => ∃ p xs, v = .ref p ∧ H p = some (.tup xs) ∧ DVs H ds xs
  | .dict _, _ => False
def DVs (H : Hp) : List PyData → List V → Prop
  | [], xs => xs = []
  | d :: ds, xs => ∃ v r, xs = v :: r ∧ DV H d v ∧ DVs H ds r
end
section
variable {X : Cx} {pins : List (Addr × Obj)} {σ : St} {H : Hp} {s : Shared}
mutual
theorem reads_of (I : Inv X pins σ H s) : ∀ (d : PyData) (v : V) (u : Value), DV H d v → RelV v u → ∃ as, Reads s.heap u d as
  | .none, v, u, h, r => by
    rw [DV] at h; subst h; cases r; exact ⟨_, .none⟩
  | .bool b, v, u, h, r => by
    rw [DV] at h; subst h; cases r; exact ⟨_, .bool b⟩
  | .int i, v, u, h, r => by
    rw [DV] at h; subst h; obtain ⟨t, rfl⟩ := r; exact ⟨_, .int i t⟩
  | .str x, v, u, h, r => by
    rw [DV] at h; subst h; obtain ⟨t, rfl⟩ := r; exact ⟨_, .str x t⟩
  | .list ds, v, u, h, r => by
    rw [DV] at h
    obtain ⟨p, xs, rfl, e, hs⟩ := h
    cases r
    obtain ⟨z, its, n, r', e'⟩ := I.hok p _ e
    obtain ⟨as, ra⟩ := reads_all I ds xs its hs r'
    exact ⟨_, .list e' rfl rfl (by simpa using ra)⟩
  | .tuple ds, v, u, h, r => by
    rw [DV] at h
    obtain ⟨p, xs, rfl, e, hs⟩ := h
    cases r
    obtain ⟨z, its, r', o, e', hc, n, hd⟩ := I.hok p _ e
    obtain ⟨as, ra⟩ := reads_all I ds xs its hs r'
    exact ⟨_, .tuple e' hc hd (by simpa using ra)⟩
  | .dict _, v, u, h, r => by rw [DV] at h; exact h.elim
theorem reads_all (I : Inv X pins σ H s) : ∀ (ds : List PyData) (xs : List V) (us : List Value), DVs H ds xs → Vals xs us → ∃ as, ReadsAll s.heap us ds as
  | [], xs, us, h, r => by
    rw [DVs] at h; subst h; cases r; exact ⟨_, .nil⟩
  | d :: ds, xs, us, h, r => by
    rw [DVs] at h
    obtain ⟨v, r0, rfl, h1, h2⟩ := h
    cases r with
    | cons r1 r2 =>
      obtain ⟨a1, q1⟩ := reads_of I d v _ h1 r1
      obtain ⟨a2, q2⟩ := reads_all I ds r0 _ h2 r2
      exact ⟨_, .cons q1 q2⟩
end
def rEqD : R2 := fun x y H Q => ∃ d1 d2, DV H d1 x ∧ DV H d2 y ∧ d1.canLay0 = true ∧ d2.canLay0 = true ∧ d1.depth ≤ 60 ∧ Q (.bl (PyData.eqv d1 d2)) H
theorem op_eqD (hu : X.A.units + 64 < cLine) : OpR X (compareOp .Eq) rEqD := by
  intro pins s σ H x y v u Q I rx ry h
  obtain ⟨d1, d2, h1, h2, c1, c2, hd, q⟩ := h
  obtain ⟨a1, q1⟩ := reads_of I d1 x v h1 rx
  obtain ⟨a2, q2⟩ := reads_of I d2 y u h2 ry
  exact SeqAt.compareEq_reads q1 q2 c1 c2 (Nat.lt_of_le_of_lt (Nat.add_le_add_left (Nat.le_trans (Nat.min_le_left _ _) hd) _) (by omega)) ⟨.bl _, H, I, rfl, q⟩
def rEqA : R2 := fun x y H Q => rEq x y H Q ∨ rEqD x y H Q
theorem op_eqA (hu : X.A.units + 64 < cLine) : OpR X (compareOp .Eq) rEqA := OpR.or op_eq (op_eqD hu)
/-- != of two lists -/
def rNeD : R2 := fun x y H Q => ∃ d1 d2, DV H (.list d1) x ∧ DV H (.list d2) y ∧ PyData.canLayAll0 d1 = true ∧ PyData.canLayAll0 d2 = true ∧ PyData.depthAll d1 ≤ 60 ∧ Q (.bl (!PyData.eqvAll d1 d2)) H
theorem op_neD (hu : X.A.units + 64 < cLine) : OpR X (compareOp .NotEq) rNeD := by
  intro pins s σ H x y v u Q I rx ry h
  obtain ⟨d1, d2, h1, h2, c1, c2, hd, q⟩ := h
  obtain ⟨a1, q1⟩ := reads_of I (.list d1) x v h1 rx
  obtain ⟨a2, q2⟩ := reads_of I (.list d2) y u h2 ry
  cases q1 with
  | @list b1 o vs n _ as1 g1 g2 g3 g4 =>
    cases q2 with
    | @list b2 o' vs' n' _ as2 k1 k2 k3 k4 =>
      have hl : s.heap.IsList _ vs := ⟨_, g1, g2, _, g3⟩
      have hl' : s.heap.IsList _ vs' := ⟨_, k1, k2, _, k3⟩
      have n1 : vs.size = d1.length := by simpa using SeqAt.ReadsAll.length _ _ _ g4
      have n2 : vs'.size = d2.length := by simpa using SeqAt.ReadsAll.length _ _ _ k4
      have fin : EP X pins σ Q (.bool (!PyData.eqvAll d1 d2)) s := ⟨.bl _, H, I, rfl, q⟩
      by_cases hz : vs.size = vs'.size
      · refine SeqAt.RcNeAt.lists hl hl' hz (by omega) (e := SeqAt.pairEq d1 d2) (fun j j1 j2 => ?_) _ _ _ _ ?_
        · have := SeqAt.eqAt_readsAll d1 d2 X.A.in1 s vs.toList vs'.toList _ _ g4 k4 c1 c2 (by
            have : X.A.in1.units = X.A.units + 1 ∨ X.A.in1.units = X.A.units := by first | exact .inl rfl | exact .inr rfl
            have h3 := Nat.min_le_left (PyData.depthAll d1) (PyData.depthAll d2)
            omega) j (by simpa using j1) (by simpa using j2)
          simpa using this
        · have e := SeqAt.eqvAll_eq d1 d2
          rw [← n1, ← n2, ← hz, Nat.min_self, beq_self_eq_true, Bool.and_true] at e
          rw [e]; exact fin
      · refine SeqAt.RcNeAt.lists_lengths hl hl' (by simpa using hz) (by omega) _ _ _ _ ?_
        have e := SeqAt.eqvAll_eq d1 d2
        have hb : (d1.length == d2.length) = false := by
          rw [← n1, ← n2]; simpa using hz
        rw [hb, Bool.and_false] at e
        rw [← e] at fin
        exact fin
/-- != of two tuples -/
def rNeT : R2 := fun x y H Q => ∃ d1 d2, DV H (.tuple d1) x ∧ DV H (.tuple d2) y ∧ PyData.canLayAll0 d1 = true ∧ PyData.canLayAll0 d2 = true ∧ PyData.depthAll d1 ≤ 60 ∧ Q (.bl (!PyData.eqvAll d1 d2)) H
theorem op_neT (hu : X.A.units + 64 < cLine) : OpR X (compareOp .NotEq) rNeT := by
  intro pins s σ H x y v u Q I rx ry h
  obtain ⟨d1, d2, h1, h2, c1, c2, hd, q⟩ := h
  obtain ⟨a1, q1⟩ := reads_of I (.tuple d1) x v h1 rx
  obtain ⟨a2, q2⟩ := reads_of I (.tuple d2) y u h2 ry
  cases q1 with
  | @tuple b1 o vs n _ as1 g1 g2 g3 g4 =>
    cases q2 with
    | @tuple b2 o' vs' n' _ as2 k1 k2 k3 k4 =>
      have hl : s.heap.IsTuple _ vs := ⟨_, g1, g2, _, g3⟩
      have hl' : s.heap.IsTuple _ vs' := ⟨_, k1, k2, _, k3⟩
      have n1 : vs.size = d1.length := by simpa using SeqAt.ReadsAll.length _ _ _ g4
      have n2 : vs'.size = d2.length := by simpa using SeqAt.ReadsAll.length _ _ _ k4
      refine SeqAt.RcNeAt.tuples hl hl' (by omega) (e := SeqAt.pairEq d1 d2) (fun j j1 j2 => ?_) _ _ _ _ ?_
      · have := SeqAt.eqAt_readsAll d1 d2 X.A.in1 s vs.toList vs'.toList _ _ g4 k4 c1 c2 (by
          have : X.A.in1.units = X.A.units + 1 ∨ X.A.in1.units = X.A.units := by first | exact .inl rfl | exact .inr rfl
          have h3 := Nat.min_le_left (PyData.depthAll d1) (PyData.depthAll d2)
          omega) j (by simpa using j1) (by simpa using j2)
        simpa using this
      · rw [n1, n2, SeqAt.eqvAll_eq d1 d2]
        exact ⟨.bl _, H, I, rfl, q⟩
def rNeA : R2 := fun x y H Q => rNe x y H Q ∨ rNeD x y H Q ∨ rNeT x y H Q
theorem op_neA (hu : X.A.units + 64 < cLine) : OpR X (compareOp .NotEq) rNeA := OpR.or op_ne (OpR.or (op_neD hu) (op_neT hu))
end
def pd (k : Int × Int) : PyData := .tuple [.int k.1, .int k.2]
theorem eqv_pd (x y : Int × Int) : PyData.eqv (pd x) (pd y) = decide (x = y) := by
  obtain ⟨a, b⟩ := x
  obtain ⟨c, d⟩ := y
  simp only [pd, PyData.eqv, PyData.eqvAll, Bool.and_true, Prod.mk.injEq]
  by_cases h : a = c
  · subst h; by_cases h' : b = d
    · subst h'; simp
    · simp [h']
  · simp [h]
theorem dvs_ints (H : Hp) : ∀ a : List Int, DVs H (a.map .int) (a.map V.int)
  | [] => by rw [List.map_nil, DVs]; rfl
  | x :: a => by
    rw [List.map_cons, DVs]
    exact ⟨.int x, a.map V.int, rfl, by rw [DV], dvs_ints H a⟩
theorem dv_pair {H : Hp} {p : Addr} {k : Int × Int} (h : PairAt H p k) : DV H (pd k) (.ref p) := by
  unfold pd
  rw [DV]
  exact ⟨p, _, rfl, h, dvs_ints H [k.1, k.2]⟩
section
variable {K : PySem.W.Frag} {H : Hp} {Q : VK}
theorem i_eqPP {p p' : Addr} {k k' : Int × Int} (h : PairAt H p k) (h' : PairAt H p' k') (q : Q (.bl (decide (k = k'))) H) : rEqA (.ref p) (.ref p') H Q := by
  refine .inr ⟨pd k, pd k', dv_pair h, dv_pair h', ?_, ?_, ?_, ?_⟩
  · simp [pd, PyData.canLay0, PyData.canLayAll0]
  · simp [pd, PyData.canLay0, PyData.canLayAll0]
  · simp [pd, PyData.depth, PyData.depthAll]
  · rw [eqv_pd]; exact q
theorem i_eqAI {i j : Int} (h : Q (.bl (decide (i = j))) H) : rEqA (.int i) (.int j) H Q := .inl (i_eqI h)
theorem i_eqAS {i j : Str} (h : Q (.bl (decide (i = j))) H) : rEqA (.str i) (.str j) H Q := .inl (i_eqS h)
theorem i_neAI {i j : Int} (h : Q (.bl (!decide (i = j))) H) : rNeA (.int i) (.int j) H Q := .inl (i_neI h)
theorem i_neAS {i j : Str} (h : Q (.bl (!decide (i = j))) H) : rNeA (.str i) (.str j) H Q := .inl (i_neS h)
end
end L2

set_option maxRecDepth 100000
namespace PySem
open Sem (wp)
open AutoSeq1 (wpAny_loadPart')
section
variable {prog : Program} {w : World} {A : Around} {E : Value → Shared → Prop} {s : Shared}
end
theorem push_inv {h : Heap} {o o' : Obj} {b : Addr} (e : (h.push o).get? b = some o') : b = h.objs.size ∧ o' = o ∨ h.get? b = some o' := by
  obtain ⟨e1, e2⟩ := Heap.get?_some_iff.mp e
  have e1 : (h.objs.push o)[b]? = some o' := by simpa [Heap.push] using e1
  rw [Array.getElem?_push] at e1
  split at e1
  · rename_i z
    exact .inl ⟨z, (Option.some.inj e1).symm⟩
  · exact .inr (Heap.get?_some_iff.mpr ⟨e1, e2⟩)
end PySem
namespace L2
open PySem PySem.Spec PyProof.Rows
section
variable {X : Cx} {pins : List (Addr × Obj)} {σ : List (Option V)} {H : Hp} {s : Shared} {h' : Heap}
theorem Inv.turnedL {t' : Nat} {ch : List Addr} (I : Inv X pins σ H s) (k : ∀ b o, b ∉ ch → s.heap.get? b = some o → h'.get? b = some o) (hf : ∀ b ∈ ch, FpOk X pins H b) : Inv X pins σ H { s with heap := h', toks := t' } := by
  have nit : ∀ b u, H b = some u → b ∉ ch := fun b u e z => by rw [(hf b z).1] at e; cases e
  have hL : X.env.locals ∉ ch := fun z => (hf _ z).2.1 rfl
  refine I.step (g' := s.gens) (d' := s.drawn) (ch := ch) (fun b hb => ?_) (fun b o _ _ hc e _ => k b o hc e) (fun b o _ _ hc e _ => ⟨o.slots, k b o hc e⟩) (fun _ _ _ _ n => n) (fun b o hc e => ⟨o, k b o hc e⟩) (fun _ _ e => e) (fun _ _ _ e => e) (fun b ps e => ⟨#[], by rw [e]; simp⟩) (fun m hm => ?_) (fun b u e => ?_) I.bare
  · obtain ⟨f0, f1, f2, f3, f4, f5⟩ := hf b hb
    exact ⟨f3, f1, f4, f5⟩
  · obtain ⟨o, es, ep, ho, r⟩ := hm
    exact ⟨o, es, ep, k _ o hL ho, r⟩
  · refine (I.hok b u e).stay (fun c v hc q => k c v ?_ q) (fun _ q => q) fun _ _ q => q
    rcases hc with z | z
    · rw [z]; exact nit b u e
    · exact nit c _ z
/-- a pair is laid, the iterator's own objects turn -/
theorem Inv.pairTurn {t' : Nat} {ch : List Addr} {x y : V} {u v : Value} (I : Inv X pins σ H s) (rx : RelV x u) (ry : RelV y v) (hf : ∀ b ∈ ch, FpOk X pins H b) (hch : ∀ b ∈ ch, b ≠ s.heap.objs.size)
    (k : ∀ b o, b ∉ ch → s.heap.get? b = some o → h'.get? b = some o) (hT : h'.get? s.heap.objs.size = some { cls := .type "tuple", data := .seq #[u, v] }) :
    Inv X pins σ (upd H s.heap.objs.size (.tup [x, y])) { s with heap := h', toks := t' } := by
  have I1 : Inv X pins σ (upd H s.heap.objs.size (.tup [x, y])) { s with heap := s.heap.push { cls := .type "tuple", data := .seq #[u, v] } } :=
    I.laid (t' := s.toks) (fun b o e => Heap.get?_push_of_some _ e) (Nat.le_refl _) (show ObjOk X.prog X.w _ _ _ (.tup [x, y]) from ⟨Nat.le_of_ble_eq_true rfl, [u, v], .cons rx (.cons ry .nil), IsTup.new _ _⟩)
  refine Inv.turnedL (s := { s with heap := s.heap.push { cls := .type "tuple", data := .seq #[u, v] } }) (ch := ch) I1 (fun b o hb e => ?_) fun b hb => ?_
  · rcases push_inv e with ⟨e1, e2⟩ | e
    · rw [e1, e2]; exact hT
    · exact k b o hb e
  · obtain ⟨f0, f1, f2, f3, f4, f5⟩ := hf b hb
    exact ⟨by rw [upd_ne (hch b hb)]; exact f0, f1, f2, f3, f4, f5⟩
end
section
variable {X : Cx}
end
section
variable {σ : St} {H : Hp} {Q : VK} {D : Ends} {K : PySem.W.Frag} {g : TG} {tb : TS}
theorem i_gN2 {T : Addr} {x y : V} {i j : Nat} {R : St → Hp → Prop} (e : H T = some (.tup [x, y])) (h : R ((σ.set i (some x)).set j (some y)) H) : gTup K 2 (gCons (gName i) (gCons (gName j) gNil)) (.ref T) σ H R :=
  ⟨T, [x, y], rfl, SqT.of e, rfl, x, [y], rfl, y, [], rfl, rfl, h⟩
theorem i_truI {i : Int} {R : Bool → Prop} (h : R (!decide (i = 0))) : ∃ k, TruV K (.int i) H k ∧ R k := ⟨_, rfl, h⟩
end
end L2

set_option maxRecDepth 100000
namespace L2
open PySem PySem.Spec PyProof.Rows
section
variable {X : Cx}
end
section
open PySem.SeqAt
open PySem.AutoSeq1 (wpAny_loadPart')
open PySem.MeetsSeq PySem.MeetsSeq2 PySem.MeetsSeq3
end
def CDivG (i j : Int) : Prop := 0 < j ∧ j ≤ 18446744073709551616
theorem op_fdivG {X : Cx} : OpR X (binaryOp .FloorDiv) (rI CDivG fun i j => .int (i / j)) := opI fun i j _ _ _ _ _ hc q => by
  have h1 : (0 : Int) < j := hc.1
  have h2 : j ≤ 18446744073709551616 := hc.2
  refine floordiv_int (by omega) (by rw [Int.fdiv_eq_ediv_of_nonneg i (by omega)]; exact q) (.inl (PyProof.noPylong_of_log2 ?_))
  have h3 : j.natAbs.log2 < 65 := (Nat.log2_lt (by omega)).mpr (by omega)
  omega
section
variable {σ : St} {H : Hp} {Q : VK} {D : Ends} {K : PySem.W.Frag} {g : TG} {tb : TS}
end
end L2

set_option maxRecDepth 100000
namespace PySem
open Sem (wp)
theorem Obj.dict_mapFields (o : Obj) (f : Array Value → Array Value) : (Obj.mapFields f o).dict = o.dict := by unfold Obj.mapFields; split <;> rfl
def frsOf (l : List Env) : List Addr := l.filterMap (·.frame)
/-- the exception at e, of class cls, its traceback's first entry at T, not in flight -/
def Heap.Tr (h : Heap) (e : Addr) (cls : Value) (T : Addr) : Prop := ∃ oe vs oT ts, h.get? e = some oe ∧ oe.cls = cls ∧ oe.dict = none ∧ oe.data = .fields vs ∧ vs[1]? = some (.ref T) ∧ T ≠ e ∧ h.get? T = some oT ∧ oT.data = .fields ts ∧ ts[3]? = some .none
/-- all but own and the frames is as it was; of the frames the slots alone have changed -/
structure Heap.Gone (fs own : List Addr) (h h' : Heap) : Prop where
  kept : ∀ b o, b ∉ fs → b ∉ own → h.get? b = some o → h'.get? b = some o
  slot : ∀ b o, b ∈ fs → b ∉ own → h.get? b = some o → ∃ sl, h'.get? b = some { o with slots := sl }
section
variable {M : Model} {A : Around} {E : Value → Shared → Prop} {s : Shared}
theorem leave_entry {base : Heap} {env : Env} {outer : List Env} {L e : Addr} {oe : Obj} {vs : Array Value} {head : Value} {nx : Bool} {Q : Unit → Shared → Prop} (hfr : A.frames = some (env :: outer)) (hl : s.heap.FunFrames base (env :: outer)) (hf : env.frame = some L)
    (he : s.heap.get? e = some oe) (hdi : oe.dict = none) (hd : oe.data = .fields vs) (hsz : 1 < vs.size)
    (q : ∀ h' T, Heap.Gone (frsOf (env :: outer)) [e] s.heap h' → s.heap.get? T = none → s.heap.objs.size ≤ T → h'.Tr e oe.cls T → Q () { s with heap := h' }) :
    wpAny M A (do let a ← frameOf env; let pl ← entryPlaceOf L nx; let b ← EntryCells.newEntry head a .none (rawInt L) .none pl; setField (.ref e) 1 b) (fun _ s' => wpAny M A (setFlight (.ref e) none) Q E s') E s := by
  have hene : e ∉ frsOf (env :: outer) := fun hm => by
    obtain ⟨_, o, ho, hnf⟩ := hl.mem hm
    rw [he] at ho; injection ho with ho; subst ho; exact hnf vs hd
  refine wpAny_bind (wpAny_frameOf_fun hfr hl hf fun h₁ hs₁ => ?_)
  refine wpAny_bind (wpAny_entryPlaceOf fun pl hpl => ?_)
  unfold EntryCells.newEntry newFields
  refine wpAny_bind (wpAny_newObj_type ?_ (hpl.sizeOk5 _ _ _ _ _))
  have he₁ : h₁.get? e = some oe := (hs₁.2.1 e hene).trans he
  generalize hrec : ({ cls := .type "traceback", dict := none, data := .fields ([head, .ref L, .none, rawInt L, .none] ++ (if pl.isEmpty then List.replicate 6 Value.none else pl)).toArray } : Obj) = rec
  have hfree : rec.isFreed = false := by subst hrec; rfl
  have hrd : rec.data = .fields ([head, .ref L, .none, rawInt L, .none] ++ (if pl.isEmpty then List.replicate 6 Value.none else pl)).toArray := by subst hrec; rfl
  have he₂ := Heap.get?_push_of_some (h := h₁) rec he₁
  refine wpAny_setField he₂ hd hsz ?_
  have hTe : h₁.objs.size ≠ e := Nat.ne_of_gt (Heap.lt_size he₁)
  have hd₃ := Obj.data_mapFields hd (·.setIfInBounds 1 (Value.ref h₁.objs.size))
  have he₃ := Heap.get?_update_self (Obj.mapFields (·.setIfInBounds 1 (Value.ref h₁.objs.size))) he₂ (Obj.isFreed_of_fields hd₃)
  have hT₃ := (Heap.get?_update_other (h₁.push rec) (Obj.mapFields (·.setIfInBounds 1 (Value.ref h₁.objs.size))) (Ne.symm hTe)).trans (Heap.get?_push_size h₁ hfree)
  unfold setFlight
  refine wpAny_bind (wpAny_field he₃ hd₃ (x := .ref h₁.objs.size) (by simp [hsz]) ?_)
  rw [if_pos (show (Value.ref h₁.objs.size != Value.none) = true from by simp)]
  refine wpAny_setField hT₃ hrd (by simp only [List.size_toArray, List.length_append, List.length_cons, List.length_nil] <;> omega) ?_
  have keep : ∀ b o, b ≠ e → h₁.get? b = some o → (((h₁.push rec).update e (Obj.mapFields (·.setIfInBounds 1 (Value.ref h₁.objs.size)))).update h₁.objs.size (Obj.mapFields (·.setIfInBounds 3 ((none : Option Addr).elim Value.none fun f => rawInt f)))).get? b = some o := fun b o hbe hb => by
    have hbT : h₁.objs.size ≠ b := Nat.ne_of_gt (Heap.lt_size hb)
    rw [Heap.get?_update_other _ _ hbT, Heap.get?_update_other _ _ (Ne.symm hbe)]
    exact Heap.get?_push_of_some _ hb
  refine q _ h₁.objs.size ⟨fun b o hb ho e' => ?_, fun b o hb ho e' => ?_⟩ (Heap.get?_none_of_le (by rw [hs₁.1]; exact Nat.le_refl _)) (by rw [hs₁.1]; exact Nat.le_refl _) ?_
  · exact keep b o (fun z => ho (by rw [z]; exact List.mem_singleton.mpr rfl)) ((hs₁.2.1 b hb).trans e')
  · obtain ⟨sl, e2⟩ := hs₁.2.2 b o e'
    exact ⟨sl, keep b _ (fun z => ho (by rw [z]; exact List.mem_singleton.mpr rfl)) e2⟩
  · refine ⟨_, _, _, _, ?_, Obj.cls_mapFields _ _, (Obj.dict_mapFields _ _).trans hdi, hd₃, by simp [hsz], hTe, Heap.get?_update_self _ hT₃ (Obj.isFreed_of_fields (Obj.data_mapFields hrd _)), Obj.data_mapFields hrd _, by first | (simp; done) | (rcases hpl with rfl | ⟨_, _, _, _, _, _, _, rfl⟩ <;> simp)⟩
    rw [Heap.get?_update_other _ _ hTe]; exact he₃
/-- the frame in which it was raised -/
theorem leave_first {base : Heap} {env : Env} {outer : List Env} {L e : Addr} {oe : Obj} {vs : Array Value} {Q : Unit → Shared → Prop} (hfr : A.frames = some (env :: outer)) (hl : s.heap.FunFrames base (env :: outer)) (hf : env.frame = some L)
    (he : s.heap.get? e = some oe) (hdi : oe.dict = none) (hd : oe.data = .fields vs) (h1 : vs[1]? = some .none)
    (q : ∀ h' T, Heap.Gone (frsOf (env :: outer)) [e] s.heap h' → s.heap.get? T = none → s.heap.objs.size ≤ T → h'.Tr e oe.cls T → Q () { s with heap := h' }) : wpAny M A (leaving env (.ref e)) Q E s := by
  unfold leaving noteFrame
  simp only [hf]
  refine wpAny_bind (wpAny_bind (wpAny_field he hd h1 ?_))
  rw [if_neg (by decide)]
  exact leave_entry hfr hl hf he hdi hd (Array.getElem?_eq_some_iff.mp h1).1 q
/-- a frame that it passes -/
theorem note_next {base : Heap} {env : Env} {outer : List Env} {L e T : Addr} {cls : Value} {Q : Unit → Shared → Prop} (hfr : A.frames = some (env :: outer)) (hl : s.heap.FunFrames base (env :: outer)) (hf : env.frame = some L) (ht : s.heap.Tr e cls T)
    (q : ∀ h' T', Heap.Gone (frsOf (env :: outer)) [e, T] s.heap h' → s.heap.get? T' = none → s.heap.objs.size ≤ T' → h'.Tr e cls T' → Q () { s with heap := h' }) : wpAny M A (noteFrame (.ref e) env) (fun _ s' => wpAny M A (setFlight (.ref e) none) Q E s') E s := by
  obtain ⟨oe, vs, oT, ts, he, hcls, hdi, hd, h1, hTe, hT, hdT, h3⟩ := ht
  subst hcls
  unfold noteFrame
  simp only [hf]
  refine wpAny_bind (wpAny_field he hd h1 ?_)
  rw [if_pos (show (Value.ref T != Value.none) = true from by simp)]
  refine wpAny_bind (wpAny_field hT hdT h3 ?_)
  rw [if_neg (show ¬ ((Value.none == rawInt L) = true) from by simp [rawInt])]
  refine wpAny_bind (wpAny_setField hT hdT (Array.getElem?_eq_some_iff.mp h3).1 ?_)
  have other : ∀ b, b ≠ T → (s.heap.update T (Obj.mapFields (·.setIfInBounds 3 Value.none))).get? b = s.heap.get? b := fun b hb => Heap.get?_update_other _ _ (Ne.symm hb)
  have noRec : ∀ b o, s.heap.get? b = some o → (∀ vs, o.data ≠ .fields vs) → b ≠ T := fun b o hb hnf z => by
    rw [z, hT] at hb; injection hb with hb; subst hb; exact hnf ts hdT
  have hsz : (s.heap.update T (Obj.mapFields (·.setIfInBounds 3 Value.none))).objs.size = s.heap.objs.size := Heap.size_after_update ..
  refine leave_entry (s := { s with heap := s.heap.update T (Obj.mapFields (·.setIfInBounds 3 Value.none)) }) hfr (hl.of_keeps fun b o hb hnf => ⟨o, (other b (noRec b o hb hnf)).trans hb, rfl⟩) hf ((other e (Ne.symm hTe)).trans he) hdi hd (Array.getElem?_eq_some_iff.mp h1).1 fun h' T' g n le tr => ?_
  have le' : s.heap.objs.size ≤ T' := by rw [← hsz]; exact le
  refine q h' T' ⟨fun b o hb ho e' => ?_, fun b o hb ho e' => ?_⟩ (Heap.get?_none_of_le le') le' tr
  · have hbT : b ≠ T := fun z => ho (by simp [z])
    exact g.kept b o hb (fun z => ho (by simp [List.mem_singleton.mp z])) ((other b hbT).trans e')
  · have hbT : b ≠ T := fun z => ho (by simp [z])
    exact g.slot b o hb (fun z => ho (by simp [List.mem_singleton.mp z])) ((other b hbT).trans e')
end
end PySem

namespace L2
open PySem PySem.Spec PyProof.Rows
section
variable {P : Program} {w : World} {H H' : Hp} {h h' h1 h2 : Heap} {a : Addr} {o : HO} {fs own : List Addr}
theorem ObjOk.at (x : ObjOk P w H h a o) : ∃ u, h.get? a = some u := by
  cases o with
  | lst xs => obtain ⟨_, _, _, _, e⟩ := x; exact ⟨_, e⟩
  | tup xs => obtain ⟨_, _, _, ⟨_, e, _⟩⟩ := x; exact ⟨_, e⟩
  | dK kvs => obtain ⟨_, _, _, _, o, _, _, e, _⟩ := x; exact ⟨_, e⟩
  | dT kvs => obtain ⟨_, _, _, _, o, _, _, e, _⟩ := x; exact ⟨_, e⟩
  | set S n => obtain ⟨o, _, _, _, e, _⟩ := x; exact ⟨_, e⟩
  | ins C dx fs => obtain ⟨_, _, _, e, _⟩ := x; exact ⟨_, e⟩
  | own y => obtain ⟨_, e⟩ := x; exact ⟨_, e⟩
  | xd fs => obtain ⟨_, ⟨_, _, _, e, _⟩, _⟩ := x; exact ⟨_, e⟩
  | rng lo hi => obtain ⟨_, _, _, e⟩ := x; exact ⟨_, e⟩
  | frz ob u => obtain ⟨e, _⟩ := x; exact ⟨_, e⟩
  | tbl ps => exact ⟨_, (show h.get? a = some _ from x)⟩
  | met f y => exact ⟨_, (show h.get? a = some _ from x)⟩
  | ext φ => obtain ⟨_, ⟨_, e⟩, _⟩ := x; exact ⟨_, e⟩
theorem HOk.out (x : HOk P w H h) (e : h.get? a = none) : H a = none := by
  cases q : H a with
  | none => rfl
  | some u => obtain ⟨v, z⟩ := ObjOk.at (x a u q); rw [e] at z; cases z
theorem gone_un (u : Un fs [] H H' h h1) (g : Heap.Gone fs own h1 h2) (hn : ∀ b ∈ own, h.get? b = none) : Un fs [] H H' h h2 := by
  have no : ∀ b o, h.get? b = some o → b ∉ own := fun b o e z => by rw [hn b z] at e; cases e
  refine ⟨fun b o e n hf hx => g.kept b o hf (no b o e) (u.keep b o e n hf hx), fun b o e n hf hx => ?_, u.free, fun b o e hx => ?_, u.tups, u.frzs, u.tbls⟩
  · obtain ⟨sl, q⟩ := u.slot b o e n hf hx
    obtain ⟨sl', q'⟩ := g.slot b _ hf (no b o e) q
    exact ⟨sl', q'⟩
  · obtain ⟨o', q⟩ := u.there b o e hx
    by_cases hf : b ∈ fs
    · obtain ⟨sl', q'⟩ := g.slot b _ hf (no b o e) q
      exact ⟨_, q'⟩
    · exact ⟨_, g.kept b _ hf (no b o e) q⟩
theorem gone_hok (x : HOk P w H h) (g : Heap.Gone fs own h h2) (hf : ∀ b ∈ fs, H b = none) (ho : ∀ b ∈ own, H b = none) : HOk P w H h2 := fun b u e => by
  refine (x b u e).stay (fun c v hc q => ?_) (fun _ q => q) fun _ _ q => q
  have hs : ∃ z, H c = some z := by
    rcases hc with z | z
    · rw [z]; exact ⟨_, e⟩
    · exact ⟨_, z⟩
  obtain ⟨z, hz⟩ := hs
  exact g.kept c v (fun m => by rw [hf c m] at hz; cases hz) (fun m => by rw [ho c m] at hz; cases hz) q
end

/-- an exception behind a call: new, of an own class, not tracked, the heap's change known -/
def CX1 (P : Program) (w : World) : CXT := fun outer H s E e s' => ∃ ea T C H', e = .ref ea ∧ s'.os = s.os ∧ AllBare s'.gens ∧ Un (frs outer) [] H H' s.heap s'.heap ∧ HOk P w H' s'.heap ∧ H' ea = none ∧ H' T = none ∧
  s.heap.get? ea = none ∧ s.heap.get? T = none ∧ s'.heap.Tr ea (.ref C) T ∧ E (.ref C) none H'
/-- a new exception may leave -/
def Lets (X : Cx) (E : XK) : Prop := ∀ (pins : List (Addr × Obj)) (σ : St) (H : Hp) (s : Shared) (h' : Heap) (e C : Addr) (args : List Value), Inv X pins σ H s → Heap.MadeExcOf s.heap h' e (.ref C) args → E (.ref C) none H → X.xe (.ref e) { s with heap := h' }
section
variable {P : Program} {w : World} {K : PySem.W.Frag} {mg : Str → Option Value} {base : Heap} {N : List Str} {qual : Str} {scope : Scope} {f : Addr} {cd : Value} {A : Around} {outer : List Env} {s : Shared} {H : Hp} {E : XK}
theorem lets1 : Lets (cxOf (CX1 P w) P w K mg base N qual scope f cd A outer s H E) E := by
  intro pins σ H1 s1 h' e C args I hm hE
  obtain ⟨t, ho, _, _⟩ := hm.there
  have I1 : Inv (cxOf (CX1 P w) P w K mg base N qual scope f cd A outer s H E) pins σ H1 { s1 with heap := h' } := I.kept (t' := s1.toks) hm.keeps
  show wpAny _ _ (leaving _ _) _ _ _
  refine leave_first (s := { s1 with heap := h' }) I.ok.frames I1.stack rfl ho rfl rfl (by simp) fun h2 T g nT _ tr => ?_
  have He : H1 e = none := I.hok.out hm.new
  have HT : H1 T = none := I1.hok.out nT
  have un : Un (frs (cxOf (CX1 P w) P w K mg base N qual scope f cd A outer s H E).stack) [] H1 H1 s1.heap h2 := gone_un (Un.kept hm.keeps) g (fun b hb => by rw [List.mem_singleton.mp hb]; exact hm.new)
  have hk : HOk P w H1 h2 := gone_hok I1.hok g I1.stkFree (fun b hb => by rw [List.mem_singleton.mp hb]; exact He)
  have I2 : Inv (cxOf (CX1 P w) P w K mg base N qual scope f cd A outer s H E) pins σ H1 { s1 with heap := h2 } := I.call (g' := s1.gens) (t' := s1.toks) (d' := s1.drawn) (ch := []) un hk I.bare (fun b z => absurd z (by simp))
  have back : ∀ b, s1.heap.get? b = none → s.heap.get? b = none := fun b hb => by
    cases q : s.heap.get? b with
    | none => rfl
    | some o =>
      obtain ⟨o', z⟩ := I.base.there b o q (by show b ∉ []; simp)
      rw [hb] at z; cases z
  have nT1 : s1.heap.get? T = none := by
    cases q : s1.heap.get? T with
    | none => rfl
    | some o => have z := hm.keeps T o q; rw [show h'.get? T = none from nT] at z; cases z
  exact ⟨e, T, C, H1, rfl, I.os, I.bare, I2.base, hk, He, HT, back e hm.new, back T nT1, tr, hE⟩
end
/-- THE RULE for a def out of which an exception may come -/
theorem Fun.ok1 {P : Program} {w : World} {K : PySem.W.Frag} {mg : Str → Option Value} {base : Heap} {x qual : Str} {st : Stmt} {f : Addr} {fd : FuncData} {N ps : List Str} {k : Nat} {sp : Sp} (F : Fun K x qual st f fd) (S : FnScope N ps (defScope st)) (len : ∀ vs H Q E, sp vs H Q E → vs.length = ps.length)
    (hbody : ∀ (cdv : Value) (A : Around) (outer : List Env) (s : Shared) (H : Hp) (vs : List V) (Q : VK) (E : XK), Room k (A.deeper (envOfC qual (defScope st) s.heap.objs.size f cdv)) → sp vs H Q E →
      ∃ t, PSs (cxOf (CX1 P w) P w K mg base N qual (defScope st) f cdv A outer s H E) (defBody st) t ∧ t { nx := fun _ H' => Q .non H', rt := Q } (start N vs) H) : FnOk P w K mg base (CX1 P w) (k + 1) f fd ps sp := by
  obtain ⟨oc, od, kV, doc, pm, an, cdv, ct, osl, rfl, lk, hcd⟩ := F.ex
  exact fn_of lk hcd S len fun A outer s H vs Q E hr hsp => hbody cdv A outer s H vs Q E hr hsp
end L2

set_option maxRecDepth 100000
namespace L2
open PySem PySem.Spec PyProof.Rows
abbrev vErr : List Value := [.type "ValueError", .type "Exception", .type "BaseException", .type "object"]
abbrev OwnExc (K : PySem.W.Frag) (C : Addr) : Prop := PySem.W.excIn K C vErr "ValueError.__new__" = true
theorem exc_at {K : PySem.W.Frag} {h : Heap} {C : Addr} (X : K.In h) (q : OwnExc K C) : ∃ bm N nm qn bs hdct sn sub ab col dd k0 k1 k2 k3 k5 mN,
    h.get? C = some (excClassObj nm qn C N bs bm hdct sn sub ab col dd k0 k1 k2 k3 k5 "ValueError.__new__") ∧ h.Ns N mN ∧ mN "__init__" = none ∧ OwnTail h vErr bm := by
  unfold OwnExc PySem.W.excIn at q
  split at q
  · rename_i dd cd sl ho
    split at q
    · rename_i C' bm k0 k1 k2 k3 n k5 hm hs
      simp only [Bool.and_eq_true, beq_iff_eq, Bool.not_eq_true'] at q
      obtain ⟨⟨⟨⟨⟨rfl, rfl⟩, hdel⟩, ht⟩, hok⟩, hni⟩ := q
      obtain ⟨nm, bs, mro, ns, qn, hd, sn, sub, ab, col, del⟩ := cd
      dsimp only at hm hdel hok hni
      subst hm hdel
      have hsl : sl = #[k0, k1, k2, k3, some (.builtin "ValueError.__new__"), k5] := by
        obtain ⟨l⟩ := sl
        simp only at hs
        rw [hs]
      subst hsl
      exact ⟨bm, ns, nm, qn, bs, hd, sn, sub, ab, col, dd, k0, k1, k2, k3, k5, _, X _ _ ho, .of_isNs (PySem.W.isNs_of_in X hok), PySem.W.nsMap_none_of_in X hok hni, PySem.W.tail_of_in X ht⟩
    · cases q
  · cases q

section
variable {X : Cx} {E : XK} {C : Addr} {x : Str} {np cpos pos : Pos} {e : Expr} {es : List Expr} {t : TA}
/-- raise C(e, ..) -/
def tRaise (C : Addr) (E : XK) (t : TA) : TS := fun _ σ H => t σ H fun vs H1 => vs.length ≤ 9 ∧ E (.ref C) none H1
theorem ps_raise (hc : X.calm = true) (hl : Lets X E) (q : OwnExc X.K C) (hg : Gl X x) (hm : X.mg x = some (.ref C)) (ha : PA X (e :: es) t) (hdb : (x == ("__debug__" : Str)) = false := by decide)
    (he : starEach (e :: es) X.env = (false, eval e X.env) :: starEach es X.env := by rfl) (hpl : (backTo cpos (starEach es X.env)).any (·.1) = false := by rfl) :
    PS X (.Raise (some (.Call (.Name x np) (e :: es) [] cpos)) none pos) (tRaise C E t) := by
  intro pins s σ H D I h
  obtain ⟨tl, N, nm, qn, bs, hdct, sn, sub, ab, col, dd, k0, k1, k2, k3, k5, mN, hC, hN, hni, T⟩ := exc_at I.mod.kin q
  have F := PySem.F.excBase_ValueError
  refine wpAny_Raise_call_subU (C := C) (nm := nm) (q := qn) (N := N) (bs := bs) (bm := tl) (hdct := hdct) (sn := sn) (sub := sub) (ab := ab) (col := col) (dd := dd) (k0 := k0) (k1 := k1) (k2 := k2) (k3 := k3) (k5 := k5)
    F F.hasB F (mN := mN) (T.hasType F.hasBase) (I.ok.hd hc) (by rw [he]; show (false || (backTo cpos (starEach es X.env)).any (·.1)) = false; rw [hpl]; rfl) hni (ld_glob I hg hm ⟨rfl, ?_⟩ hdb)
  have h2 := ha cpos pins s σ H _ I h
  rw [he] at h2 ⊢
  refine Calls.evalArgs_plain (wpAny_mono h2 (fun vs s2 h3 => ?_) fun _ _ y => y)
  obtain ⟨us, H2, I2, r, hlen, hE⟩ := h3
  refine ⟨rfl, ?_, I2.bk _ _ hC, hN.keeps I2.bk, T.keeps I2.bk, fun h' e hm => hl pins σ H2 s2 h' e C vs I2 hm hE⟩
  show vs.length ≤ sizeLine
  rw [← r.length]; exact Nat.le_trans hlen (by decide)
end

def XP (X : Cx) (pins : List (Addr × Obj)) (σ : St) (E : XK) (e : Value) (s' : Shared) : Prop := ∃ s1 H1, Inv X pins σ H1 s1 ∧ CX1 X.prog X.w X.stack H1 s1 E e s'
abbrev TEx := St → Hp → VK → XK → Prop
def PEx (X : Cx) (e : Expr) (t : TEx) : Prop := ∀ (pins : List (Addr × Obj)) (s : Shared) (σ : St) (H : Hp) (Q : VK) (E : XK), Inv X pins σ H s → t σ H Q E → wpAny (model X.prog X.w) X.A (eval e X.env) (EP X pins σ Q) (XP X pins σ E) s
section
variable {X : Cx} {k : Nat} {f C : Addr} {fd : FuncData} {ps : List Str} {sp : Sp} {dvs : List V} {ds : List Value} {x m : Str} {p pos apos : Pos} {e o : Expr} {es : List Expr} {ta : TE} {t : TA}
theorem run_fnx {pins : List (Addr × Obj)} {σ : St} {H : Hp} {s : Shared} {Q : VK} {E : XK} {us : List Value} {vs : List V} (F : FnOk X.prog X.w X.K X.mg X.base (CX1 X.prog X.w) k f fd ps sp) (hr : Room k X.A) (hb : Binds X.K fd ps ds) (hd : Vals dvs ds)
    (I : Inv X pins σ H s) (r : Vals vs us) (h : sp (vs ++ dvs) H Q E) : wpAny (model X.prog X.w) X.A (call (.ref f) us) (EP X pins σ Q) (XP X pins σ E) s := by
  have r2 : Vals (vs ++ dvs) (us ++ ds) := r.append hd
  have hl : (us ++ ds).length = ps.length := by rw [← r2.length]; exact F.len _ _ _ _ h
  refine wpAny_call (codeAny_mono (F.run X.A X.stack s H ⟨us, []⟩ (us ++ ds) (vs ++ dvs) Q E hr I.env0 (hb s us I.kIn hl) r2 h) fun r s' hq => ?_)
  cases r with
  | error e => exact ⟨s, H, I, hq⟩
  | ok fl =>
    cases fl with
    | ret u => exact I.after hq
    | next => exact False.elim hq
    | brk => exact False.elim hq
    | cont => exact False.elim hq
def tCallX (sp : Sp) (dvs : List V) (t : TA) : TEx := fun σ H Q E => t σ H fun vs H1 => sp (vs ++ dvs) H1 Q E
theorem pex_call (F : FnOk X.prog X.w X.K X.mg X.base (CX1 X.prog X.w) k f fd ps sp) (hr : Room k X.A) (hg : Gl X x) (hm : X.mg x = some (.ref f)) (hk : PySem.W.keepIn X.K (.ref f) = true) (hb : Binds X.K fd ps ds) (hd : Vals dvs ds)
    (ha : PA X.nox (e :: es) t) (hdb : (x == ("__debug__" : Str)) = false := by decide) (he : starEach (e :: es) X.env = (false, eval e X.env) :: starEach es X.env := by rfl) (hpl : (backTo pos (starEach es X.env)).any (·.1) = false := by rfl) :
    PEx X (.Call (.Name x p) (e :: es) [] pos) (tCallX sp dvs t) := by
  intro pins s σ H Q E I h
  refine wpAny_Call_Name_kw (ld_glob I hg hm ?_ hdb)
  refine PySem.W.callWith_K (h₀ := X.base) I.ok.mod.kin hk (wpAny_mono (ha pos pins s σ H _ (I.wish _) h) (fun us s1 ⟨vs, H1, I1, r, q⟩ => ⟨I1.unwish.kIn, ?_⟩) fun _ _ z => False.elim z) he hpl
  exact run_fnx F hr hb hd I1.unwish r q
end

/-- an exception that is caught: as it lies -/
structure Caught (X : Cx) (pins : List (Addr × Obj)) (σ : St) (H : Hp) (s : Shared) (ea T C : Addr) : Prop where
  inv : Inv X pins σ H s
  from_ : ∃ s1 H1, Inv X pins σ H1 s1 ∧ s.os = s1.os ∧ Un (frs X.stack) [] H1 H s1.heap s.heap ∧ s1.heap.get? ea = none ∧ s1.heap.get? T = none
  he : H ea = none
  hT : H T = none
  tr : s.heap.Tr ea (.ref C) T
section
variable {X : Cx} {pins : List (Addr × Obj)} {σ : St} {H : Hp} {s : Shared} {ea T T' C : Addr} {h' : Heap}
theorem Inv.new (I : Inv X pins σ H s) {b : Addr} (n : s.heap.get? b = none) : b ≠ X.env.locals ∧ b ∉ X.fs ∧ ∀ p ∈ X.pn ++ pins, p.1 ≠ b := by
  refine ⟨fun z => ?_, fun z => ?_, fun p hp z => ?_⟩
  · obtain ⟨m, ⟨o, es, ep, ho, _⟩, _⟩ := I.loc
    rw [z, ho] at n; cases n
  · obtain ⟨_, o, ho, _⟩ := I.funs.mem z
    rw [n] at ho; cases ho
  · have q := (I.pin p hp).1
    rw [z, n] at q; cases q
/-- its records have turned -/
theorem Caught.gone (c : Caught X pins σ H s ea T C) (g : Heap.Gone (frs X.stack) [ea, T] s.heap h') (hn : T' = T ∨ s.heap.get? T' = none) (tr : h'.Tr ea (.ref C) T') : Caught X pins σ H { s with heap := h' } ea T' C := by
  obtain ⟨s1, H1, I1, os, un, ne, nT⟩ := c.from_
  have un2 := gone_un un g (fun b hb => by
    rcases List.mem_cons.mp hb with z | z
    · rw [z]; exact ne
    · rw [List.mem_singleton.mp z]; exact nT)
  have hk : HOk X.prog X.w H h' := gone_hok c.inv.hok g c.inv.stkFree (fun b hb => by
    rcases List.mem_cons.mp hb with z | z
    · rw [z]; exact c.he
    · rw [List.mem_singleton.mp z]; exact c.hT)
  have nT' : s1.heap.get? T' = none := by
    rcases hn with z | z
    · rw [z]; exact nT
    · cases q : s1.heap.get? T' with
      | none => rfl
      | some o =>
        obtain ⟨o', q'⟩ := un.there T' o q (by simp)
        rw [z] at q'; cases q'
  refine ⟨I1.call' (s' := { s with heap := h' }) (ch := []) os un2 hk c.inv.bare (fun b z => absurd z (by simp)), ⟨s1, H1, I1, os, un2, ne, nT'⟩, c.he, ?_, tr⟩
  rcases hn with z | z
  · rw [z]; exact c.hT
  · exact c.inv.hok.out z
theorem caught_flight {M : Model} {A : Around} {E : Value → Shared → Prop} {Q : Unit → Shared → Prop} (c : Caught X pins σ H s ea T C) (q : ∀ h', Caught X pins σ H { s with heap := h' } ea T C → Q () { s with heap := h' }) : wpAny M A (setFlight (.ref ea) none) Q E s := by
  obtain ⟨oe, vs, oT, ts, he, hcls, hdi, hd, h1, hTe, hT, hdT, h3⟩ := id c.tr
  refine wpAny_setFlight_none he hd h1 hT hdT (Array.getElem?_eq_some_iff.mp h3).1 (q _ ?_)
  have other : ∀ b, b ≠ T → (s.heap.update T (Obj.mapFields (·.setIfInBounds 3 Value.none))).get? b = s.heap.get? b := fun b hb => Heap.get?_update_other _ _ (Ne.symm hb)
  have hd' := Obj.data_mapFields hdT (·.setIfInBounds 3 Value.none)
  refine c.gone ⟨fun b o hf ho e => (other b fun z => ho (by simp [z])).trans e, fun b o hf ho e => ⟨o.slots, (other b fun z => ho (by simp [z])).trans e⟩⟩ (.inl rfl)
    ⟨oe, vs, _, _, (other ea (Ne.symm hTe)).trans he, hcls, hdi, hd, h1, hTe, Heap.get?_update_self _ hT (Obj.isFreed_of_fields hd'), hd', ?_⟩
  simp [(Array.getElem?_eq_some_iff.mp h3).1]
/-- it is noted in the frame of the try -/
theorem caught_note {M : Model} {E : Value → Shared → Prop} {Q : Unit → Shared → Prop} {EX : XK} {e : Value} (hst : X.stack = X.env :: X.outer) (hf : X.env.frame = some X.env.locals) (h : XP X pins σ EX e s)
    (q : ∀ ea T C H' h', e = .ref ea → EX (.ref C) none H' → Caught X pins σ H' { s with heap := h' } ea T C → Q () { s with heap := h' }) :
    wpAny M X.A (noteFrame e X.env) (fun _ s' => wpAny M X.A (setFlight e none) Q E s') E s := by
  obtain ⟨s1, H1, I1, ea, T, C, H2, rfl, os, bare, un, hok, He, HT, ne, nT, tr, hE⟩ := h
  have I2 : Inv X pins σ H2 s := I1.call' (ch := []) os un hok bare (fun b z => absurd z (by simp))
  have c : Caught X pins σ H2 s ea T C := ⟨I2, ⟨s1, H1, I1, os, un, ne, nT⟩, He, HT, tr⟩
  refine note_next (base := X.base) (env := X.env) (outer := X.outer) (by rw [I2.ok.frames, hst]) (by have := I2.stack; rwa [hst] at this) hf tr fun h3 T' g nT' _ tr' => q ea T' C H2 h3 rfl hE (c.gone (T' := T') ?_ (.inr nT') tr')
  rw [hst]; exact g
end

abbrev TSx := Ends → (St → XK) → St → Hp → Prop
def PSx (X : Cx) (b : List Stmt) (t : TSx) : Prop := ∀ (pins : List (Addr × Obj)) (s : Shared) (σ : St) (H : Hp) (D : Ends) (E : St → XK), Inv X pins σ H s → t D E σ H → wpAny (model X.prog X.w) X.A (execs b X.env) (SP X pins D) (fun e s' => ∃ σ', XP X pins σ' (E σ') e s') s
/-- handlers: an exception of class C is caught -/
def PH (X : Cx) (hs : List ExceptHandler) (t : Addr → TS) : Prop := ∀ (pins : List (Addr × Obj)) (s : Shared) (σ : St) (H : Hp) (D : Ends) (ea T C : Addr), Caught X pins σ H s ea T C → t C D σ H → wpAny (model X.prog X.w) X.A (handleBy (.ref ea) X.env hs) (SP X pins D) X.xe s
def tTry (tb : TSx) (th : Addr → TS) : TS := fun D σ H => tb D (fun σ' v _ H' => ∃ C, v = .ref C ∧ th C D σ' H') σ H
section
variable {X : Cx} {b : List Stmt} {h₀ : ExceptHandler} {hs : List ExceptHandler} {tb : TSx} {th : Addr → TS} {pos : Pos} {e : Expr} {te : TEx}
theorem ps_try (hb : PSx X b tb) (hh : PH X (h₀ :: hs) th) (hst : X.stack = X.env :: X.outer := by rfl) (hf : X.env.frame = some X.env.locals := by rfl) : PS X (.Try b (h₀ :: hs) [] [] pos) (tTry tb th) := by
  intro pins s σ H D I h
  refine wpAny_Try_except (wpAny_mono (hb pins s σ H D _ I h) (fun fl s1 h1 => ?_) fun e s1 h1 => ?_)
  · cases fl with
    | next => exact wpAny_execs_nil h1
    | brk => exact h1
    | cont => exact h1
    | ret u => exact h1
  · obtain ⟨σ', hx⟩ := h1
    refine caught_note hst hf hx fun ea T C H' h' e1 hE c => ?_
    subst e1
    obtain ⟨C', hC, ht⟩ := hE
    cases hC
    exact hh pins _ σ' H' D ea T C c ht
theorem psx_expr {pos : Pos} (he : PEx X e te) (hs : swapsWith e none pos.line X.env = pure false := by rfl) : PSx X [.Expr e pos] (fun D E σ H => te σ H (fun _ H' => D.nx σ H') (E σ)) := by
  intro pins s σ H D E I h
  refine wpAny_execs_cons (wpAny_Expr_any (wpAny_mono (he pins s σ H _ _ I h) (fun u s1 h1 => ?_) fun e s1 h1 => ⟨σ, h1⟩) I.quiet hs)
  obtain ⟨v, H', I', r, q⟩ := h1
  exact wpAny_execs_nil ⟨σ, H', I', q⟩
end
end L2

set_option maxRecDepth 100000
namespace L2
open PySem PySem.Spec PyProof.Rows
/-- what the fragment says of a class of exceptions -/
structure ExcK (K : PySem.W.Frag) (C : Addr) : Prop where
  own : OwnExc K C
  cl : (PySem.W.clsIn K C).isSome = true
  ga : PySem.W.findIn K (.ref C) "__getattribute__" = some (some (.builtin "BaseException.__getattribute__"))
  gb : PySem.W.findIn K (.ref C) "__getattr__" = some none
  cc : PySem.W.findIn K (.ref C) "__class__" = some (some (.builtin "object.__class__"))
  mb : PySem.W.mroIn K C (.type "BaseException") = some true
  mo : PySem.W.mroIn K C (.type "object") = some true
section
variable {prog : Program} {w : World} {A : Around} {E : Value → Shared → Prop} {h : Heap} {g : Array GenState} {d : Drawn} {t : Nat} {os : OsState} {a C : Addr} {o : Obj} {K : PySem.W.Frag}
theorem exc_check {M : Model} {nameV : Value} {Q : Unit → Shared → Prop} (X : K.In h) (c : ExcK K C) (I : PySem.W.InstAt h a o C none) (hq : Q () ⟨h, g, d, t, os⟩) : wpAny M A (checkBuiltinCall "BaseException.__getattribute__" ⟨[.ref a, nameV], []⟩) Q E ⟨h, g, d, t, os⟩ := by
  have hk : builtinKind "BaseException.__getattribute__" = some .slot := by decide +kernel
  have hsplit : splitId "BaseException.__getattribute__" = some ("BaseException", "__getattribute__") := by decide +kernel
  have ha := F.args_bexc_ga (.ref a) nameV
  have L0 := I.type (M := M)
  have L1 := PySem.W.looks_mroIn (M := M) X c.mb
  simp only [checkBuiltinCall, hk, hsplit]
  refine wpAny_bind ?_
  · unfold isInstance
    repeat (first | with_reducible refine L0.at ?_ | with_reducible refine L1.at ?_ | wp_step)
    exact hq
theorem exc_entry {tk : Tok} {Q : Fin → Shared → Prop} (X : K.In h) (c : ExcK K C) (I : PySem.W.InstAt h a o C none) (hq : Q (.done (.ret (.ref C))) ⟨h, g, d, t, os⟩) :
    wpAny (model prog w) A (Builtin.«object.__getattribute__» ⟨[.ref a, .str "__class__" tk], []⟩) Q E ⟨h, g, d, t, os⟩ := by
  have hT5 : (⟨h, g, d, t, os⟩ : Shared).TypeIs (.builtin "object.__class__") "getset_descriptor" := F.typeOf_object_class
  have f5 := F.typeOf_object_class
  have f6 := F.slot_gs_get.lookup
  have f7 := F.slot_gs_set.lookup
  have L0 := I.type (M := model prog w)
  have L1 := PySem.W.looks_findIn (M := model prog w) X c.cc
  repeat (any_goals (first | assumption | with_reducible refine L0.at ?_ | with_reducible refine L1.at ?_ | wp_step))
  refine PySem.W.class_get (s := ⟨h, g, d, t, os⟩) X I c.mo ?_
  repeat (any_goals (first | assumption | wp_step))
theorem exc_by {tk : Tok} {Q : Value → Shared → Prop} (X : K.In h) (c : ExcK K C) (I : PySem.W.InstAt h a o C none) (hq : Q (.ref C) ⟨h, g, d, t, os⟩) : wpAny (model prog w) A (getAttrBy (.ref a) (.str "__class__" tk) false) Q E ⟨h, g, d, t, os⟩ := by
  have f3 := PySem.F.attr_ValueError.ga.bind (.ref a)
  have hx2 : (Value.builtin "BaseException.__getattribute__" == Value.builtin "object.__getattribute__") = false := by decide +kernel
  have hx1 : (onTheHeap (Value.ref C) && Value.builtin "BaseException.__getattribute__" == Value.builtin "object.__getattribute__") = false := by rw [hx2]; rfl
  have L0 := I.type (M := model prog w)
  have L1 := PySem.W.looks_findIn (M := model prog w) X c.ga
  have L2 := PySem.W.looks_findIn (M := model prog w) X c.gb
  repeat (any_goals (first | assumption | with_reducible refine L0.at ?_ | with_reducible refine L1.at ?_ | with_reducible refine L2.at ?_ | wp_step))
  refine codeAny_call_builtin PySem.F.attr_ValueError.ga.plain F.entry_bexc_ga (exc_check X c I (exc_entry X c I ?_))
  repeat (any_goals (first | assumption | wp_step))
theorem exc_class {Q : Option Value → Shared → Prop} (X : K.In h) (c : ExcK K C) (I : PySem.W.InstAt h a o C none) (hq : Q (some (.ref C)) ⟨h, g, d, t + 1, os⟩) : wpAny (model prog w) A (getAttr? (.ref a) "__class__") Q E ⟨h, g, d, t, os⟩ := by
  unfold getAttr? getAttrBy?
  repeat (any_goals (first | assumption | with_reducible apply exc_by X c I | wp_step))
theorem kitx_exc (c : ExcK K C) : PySem.W.KitX K (.ref a) (.ref C) (fun h => ∃ o, PySem.W.InstAt h a o C none) where
  ty := fun _ _ _ ⟨_, I⟩ => I.type
  it := fun _ _ X _ => by
    have hcD := c.cl
    unfold PySem.W.clsIn at hcD
    split at hcD
    · rename_i c' d' cd' sl' ho
      intro A' Q' E' s' k q
      unfold isType loadHead
      exact wpAny_bind (wpAny_loadPart (k _ _ (X _ _ ho)) (wpAny_pure q))
    · cases hcD
  ne := fun h tp dd its n sl X htp => by
    have hcD := c.cl
    refine Bool.eq_false_iff.mpr fun q => ?_
    have e : C = tp := Value.ref.inj (beq_iff_eq.mp q)
    subst e
    unfold PySem.W.clsIn at hcD
    split at hcD
    · rename_i c' d' cd' sl' ho
      have z := (X _ _ ho).symm.trans htp
      cases z
    · cases hcD
  ca := fun {_ _ _ _ _ s} X ⟨_, I⟩ k => by obtain ⟨h, g, d, t, os⟩ := s; exact exc_class X c I k
theorem exc_matches {M : Model} {C' : Addr} {b : Bool} {Q : Bool → Shared → Prop} (X : K.In h) (I : PySem.W.InstAt h a o C none) (ty : PySem.W.typeIn K (.ref C') = some (.type "type")) (cl : (PySem.W.clsIn K C').isSome = true) (mb : PySem.W.mroIn K C' (.type "BaseException") = some true) (e : PySem.W.mroIn K C (.ref C') = some b)
    (hq : Q b ⟨h, g, d, t, os⟩) : wpAny M A (excMatches (.ref a) (.ref C')) Q E ⟨h, g, d, t, os⟩ := by
  have f := tc_notTuple
  have L0 := I.type (M := M)
  have L1 := PySem.W.looks_typeIn (M := M) X ty
  have L2 := PySem.W.looks_mroIn (M := M) X mb
  have L3 := PySem.W.looks_mroIn (M := M) X e
  have L4 : PySem.W.Looks M h (isType (.ref C')) true := by
    unfold PySem.W.clsIn at cl
    split at cl
    · rename_i c' d' cd' sl' ho
      intro A' Q' E' s' k q
      unfold isType loadHead
      exact wpAny_bind (wpAny_loadPart (k _ _ (X _ _ ho)) (wpAny_pure q))
    · cases cl
  unfold excMatches isInstance isExcClass
  repeat (first | with_reducible refine L0.at ?_ | with_reducible refine L1.at ?_ | with_reducible refine L2.at ?_ | with_reducible refine L3.at ?_ | with_reducible refine L4.at ?_ | wp_step)
  cases b <;> first | exact hq | (wp_walk; exact hq) | skip
end

abbrev Cx.hand (X : Cx) (ea : Addr) (pn' : List (Addr × Obj)) : Cx := { X with A := X.A.mark (some (.ref ea)), calm := false, pn := pn', xe := fun _ _ => False }
section
variable {X : Cx} {pins l : List (Addr × Obj)} {σ : St} {H : Hp} {s : Shared} {ea T C : Addr} {h' : Heap} {oe : Obj}
theorem Caught.inst (c : Caught X pins σ H s ea T C) : ∃ oe, PySem.W.InstAt s.heap ea oe C none ∧ ∀ v, oe.data ≠ .cell v := by
  obtain ⟨oe, vs, oT, ts, he, hcls, hdi, hd, _⟩ := c.tr
  refine ⟨oe, ⟨he, hcls, ?_, ?_⟩, fun v z => ?_⟩
  · unfold PySem.W.notCls; rw [hd]
  · rw [hdi]; trivial
  · rw [hd] at z; cases z
theorem Cx.Ok.hand (ok : X.Ok) (pn' : List (Addr × Obj)) : (X.hand ea pn').Ok :=
  ⟨ok.mod, ok.kind, ok.glob, ok.blt, ok.above, ok.inj, ok.has, ok.cab, fun z => Bool.noConfusion z, ok.frames, ok.stk, ok.exf, ok.bs, ok.bsz, ok.noex, ok.exfs, ok.funs, ok.frf⟩
theorem Caught.hand (c : Caught X pins σ H s ea T C) (I : PySem.W.InstAt s.heap ea oe C none) (nc : ∀ v, oe.data ≠ .cell v) : Inv (X.hand ea (X.pn ++ pins ++ [(ea, oe)])) [] σ H s := by
  have J := c.inv
  refine ⟨J.ok.hand _, J.os, J.bare, J.base, J.loc, J.cell, J.free, J.freeC, fun p hp => ?_, J.hok, J.len⟩
  have hp' : p ∈ X.pn ++ pins ∨ p = (ea, oe) := by
    rcases List.mem_append.mp hp with z | z
    · rcases List.mem_append.mp z with z | z
      · exact .inl z
      · exact .inr (List.mem_singleton.mp z)
    · cases z
  rcases hp' with z | z
  · exact J.pin p z
  · subst z
    obtain ⟨s1, H1, I1, _, _, ne, _⟩ := c.from_
    obtain ⟨n1, n2, _⟩ := I1.new ne
    exact ⟨I.at_, c.he, n1, n2, nc⟩
theorem Inv.unhand (ok : X.Ok) (J : Inv (X.hand ea (X.pn ++ pins ++ l)) [] σ H s) : Inv X pins σ H s :=
  ⟨ok, J.os, J.bare, J.base, J.loc, J.cell, J.free, J.freeC, fun p hp => J.pin p (List.mem_append_left _ (List.mem_append_left _ hp)), J.hok, J.len⟩
theorem SP.unhand {D : Ends} {f : Flow} {s' : Shared} (ok : X.Ok) (h : SP (X.hand ea (X.pn ++ pins ++ l)) [] D f s') : SP X pins D f s' := by
  cases f with
  | next => obtain ⟨σ', H', I, q⟩ := h; exact ⟨σ', H', I.unhand ok, q⟩
  | brk => obtain ⟨σ', H', I, q⟩ := h; exact ⟨σ', H', I.unhand ok, q⟩
  | cont => obtain ⟨σ', H', I, q⟩ := h; exact ⟨σ', H', I.unhand ok, q⟩
  | ret u => obtain ⟨v, σ', H', I, r, q⟩ := h; exact ⟨v, σ', H', I.unhand ok, r, q⟩
/-- the local names are forgotten -/
theorem Inv.forgot {t' : Nat} {m' : Str → Option Value} (I : Inv X pins σ H s) (hn' : h'.Ns X.env.locals m') (hs : Heap.SameBut X.env.locals s.heap h') : Inv X pins (List.replicate X.N.length none) H { s with heap := h', toks := t' } := by
  obtain ⟨m, hn, hl⟩ := id I.loc
  obtain ⟨oL, _, _, hoL, _⟩ := id hn
  have hok : HOk X.prog X.w H h' := fun b ob e => by
    refine (I.hok b ob e).stay (fun c w' hc q => (hs.2 c ?_).trans q) (fun _ q => q) fun _ _ q => q
    rintro rfl
    have hfree := I.free
    rcases hc with z | hc
    · rw [← z, hfree] at e; cases e
    · rw [hfree] at hc; cases hc
  refine ⟨I.ok, I.os, I.bare, ⟨fun b o e n hb hx => ?_, fun b o e n hb hx => ?_, I.base.free, fun b o e hx => ?_, I.base.tups, I.base.frzs, I.base.tbls⟩, ⟨m', hn', fun j y v' e1 e2 e3 => ?_⟩, fun y c e => ?_, I.free, I.freeC, fun p hp => ?_, hok, by simp⟩
  · exact (hs.2 b (Nat.ne_of_lt (Nat.lt_of_lt_of_le (Heap.lt_size e) I.ok.above))).trans (I.base.keep b o e n hb hx)
  · obtain ⟨sl, e1⟩ := I.base.slot b o e n hb hx
    exact ⟨sl, (hs.2 b (Nat.ne_of_lt (Nat.lt_of_lt_of_le (Heap.lt_size e) I.ok.above))).trans e1⟩
  · obtain ⟨o', e1⟩ := I.base.there b o e hx
    exact ⟨o', (hs.2 b (Nat.ne_of_lt (Nat.lt_of_lt_of_le (Heap.lt_size e) I.ok.above))).trans e1⟩
  · rw [List.getElem?_replicate] at e2
    split at e2 <;> cases e2
  · obtain ⟨w', o, ho, hd⟩ := I.cell y c e
    exact ⟨w', o, (hs.2 c (I.cne y c e)).trans ho, hd⟩
  · obtain ⟨e, n, ne, nf, d⟩ := I.pin p hp
    exact ⟨(hs.2 p.1 ne).trans e, n, ne, nf, d⟩
end

/-- a class by its name in an except clause -/
structure Clause (X : Cx) (N : Str) (C' : Addr) : Prop where
  gl : Gl X N
  mg : X.mg N = some (.ref C')
  ty : PySem.W.typeIn X.K (.ref C') = some (.type "type")
  cl : (PySem.W.clsIn X.K C').isSome = true
  mb : PySem.W.mroIn X.K C' (.type "BaseException") = some true
  db : (N == ("__debug__" : Str)) = false
def tHand (K : PySem.W.Frag) (C' : Addr) (ts tr : Addr → TS) : Addr → TS := fun C D σ H => ∃ b, PySem.W.mroIn K C (.ref C') = some b ∧ (b = true → ts C D σ H) ∧ (b = false → tr C D σ H)
def tAs (K : PySem.W.Frag) (i : Nat) (ts : Addr → Addr → TS) : Addr → TS := fun C D σ H => ExcK K C ∧ ∀ ea, ts ea C { nx := fun _ _ => False, rt := D.rt } (σ.set i (some (.ref ea))) H
section
variable {X : Cx} {N : Str} {C' : Addr} {np pos : Pos} {b₀ : Stmt} {suite : List Stmt} {rest : List ExceptHandler} {ts tr : Addr → TS}
theorem ph_nil : PH X [] (fun _ _ _ _ => False) := fun _ _ _ _ _ _ _ _ _ z => False.elim z
/-- except N: suite -/
theorem ph_exc (cn : Clause X N C') (hs : ∀ ea oe C pn', (ea, oe) ∈ pn' → oe.cls = .ref C → PSs (X.hand ea pn') (b₀ :: suite) (ts C)) (hr : PH X rest tr) :
    PH X (.ExceptHandler (some (.Name N np)) none (b₀ :: suite) pos :: rest) (tHand X.K C' ts tr) := by
  intro pins s σ H D ea T C c h
  obtain ⟨b, eb, h1, h2⟩ := h
  obtain ⟨oe, IA, nc⟩ := c.inst
  have J := c.hand IA nc
  refine wpAny_handleBy_cons (codeAny_handlers_test (ld_glob (X := X.hand ea (X.pn ++ pins ++ [(ea, oe)])) J cn.gl cn.mg ?_ cn.db)) (by intro q; cases q)
  obtain ⟨hp, g, d, t, os⟩ := s
  refine exc_matches c.inv.kIn IA cn.ty cn.cl cn.mb eb ?_
  cases b with
  | false => exact hr pins _ σ H D ea T C c (h2 rfl)
  | true =>
    refine codeAny_handlers_suite (caught_flight c fun h' c' => ?_)
    obtain ⟨oe', IA', nc'⟩ := c'.inst
    refine wpAny_mono (hs ea oe' C _ (List.mem_append_right _ (List.mem_singleton.mpr rfl)) IA'.cls [] _ σ H D (c'.hand IA' nc') (h1 rfl)) (fun f s2 q => q.unhand c.inv.ok) fun _ _ z => False.elim z
/-- except N as n: suite, and the suite returns -/
theorem ph_excAs {i : Nat} {n : Str} {ts : Addr → Addr → TS} (cn : Clause X N C') (hN : X.N.Nodup) (hi : X.N[i]? = some n) (hx : X.env.scope.names.lookup n = some .local)
    (hs : ∀ ea oe C pn', (ea, oe) ∈ pn' → oe.cls = .ref C → oe.dict = none → PySem.W.notCls oe = true → ExcK X.K C → PSs (X.hand ea pn') (b₀ :: suite) (ts ea C)) (hr : PH X rest tr) :
    PH X (.ExceptHandler (some (.Name N np)) (some n) (b₀ :: suite) pos :: rest) (tHand X.K C' (tAs X.K i ts) tr) := by
  intro pins s σ H D ea T C c h
  obtain ⟨b, eb, h1, h2⟩ := h
  obtain ⟨oe, IA, nc⟩ := c.inst
  have J := c.hand IA nc
  refine wpAny_handleBy_cons (codeAny_handlers_test (ld_glob (X := X.hand ea (X.pn ++ pins ++ [(ea, oe)])) J cn.gl cn.mg ?_ cn.db)) (by intro q; cases q)
  obtain ⟨hp, g, d, t, os⟩ := s
  refine exc_matches c.inv.kIn IA cn.ty cn.cl cn.mb eb ?_
  cases b with
  | false => exact hr pins _ σ H D ea T C c (h2 rfl)
  | true =>
    refine codeAny_handlers_suite_as (caught_flight c fun h' c' => ?_)
    obtain ⟨oe', IA', nc'⟩ := c'.inst
    have J' := c'.hand IA' nc'
    refine store_ok (X := X.hand ea (X.pn ++ pins ++ [(ea, oe')])) (v := .ref ea) J' hN hi (.inl hx) rfl (fun s1 I1 => ?_) (.inr hx)
    have hd : oe'.dict = none := by
      have z := IA'.dict
      cases q : oe'.dict with
      | none => rfl
      | some y => rw [q] at z; exact z.elim
    refine wpAny_mono (hs ea oe' C _ (List.mem_append_right _ (List.mem_singleton.mpr rfl)) IA'.cls hd IA'.no (h1 rfl).1 [] _ _ H _ I1 ((h1 rfl).2 ea)) (fun f s2 q => ?_) fun _ _ z => False.elim z
    have q' := SP.unhand c.inv.ok q
    cases f with
    | next => obtain ⟨_, _, _, z⟩ := q'; exact False.elim z
    | brk => obtain ⟨_, _, _, z⟩ := q'; exact False.elim z
    | cont => obtain ⟨_, _, _, z⟩ := q'; exact False.elim z
    | ret u =>
      obtain ⟨v, σ', H', I2, r, z⟩ := q'
      obtain ⟨m, hn, _⟩ := id I2.loc
      refine wpAny_nameGoes hx hn (by rw [I2.ok.kind]; rfl) fun h3 m3 hn3 hs3 => ?_
      exact ⟨v, _, H', I2.forgot (t' := s2.toks + 1) hn3 hs3, r, z⟩
end
/-- isinstance of the exception that is caught -/
def rIsiX (K : PySem.W.Frag) (ea C : Addr) : List V → Hp → VK → Prop := fun xs H Q => ∃ b, ((∃ n, xs = [.ref ea, .ty n] ∧ PySem.W.kitOne K (.ref C) (.type n) = some b) ∨ (∃ c, xs = [.ref ea, .ref c] ∧ PySem.W.kitOne K (.ref C) (.ref c) = some b) ∨
  (∃ c vs, xs = [.ref ea, .ref c] ∧ H c = some (.tup vs) ∧ ∀ us, Vals vs us → PySem.W.kitAny K (.ref C) us = some b)) ∧ Q (.bl b) H
theorem call_isiX {X : Cx} {ea C : Addr} {oe : Obj} {pn' : List (Addr × Obj)} (k : ExcK X.K C) (hm : (ea, oe) ∈ pn') (hc : oe.cls = .ref C) (hd : oe.dict = none) (hn : PySem.W.notCls oe = true) : CallR (X.hand ea pn') (.builtin "isinstance") (rIsiX X.K ea C) := by
  intro pins s σ H xs us Q I r h
  obtain ⟨b, h, q⟩ := h
  have at_ := (I.pin _ (List.mem_append_left _ hm)).1
  have IA : ∃ o, PySem.W.InstAt s.heap ea o C none := ⟨oe, at_, hc, hn, by rw [hd]; trivial⟩
  rcases h with ⟨n, rfl, e⟩ | ⟨c, rfl, e⟩ | ⟨c, vs, rfl, et, e⟩
  · obtain ⟨u, v, rfl, ru, rv⟩ := vals2 r
    obtain rfl : v = Value.type n := rv
    obtain rfl : u = Value.ref ea := ru
    exact PySem.W.kia_one (kitx_exc k) I.kIn IA e (fun z => nomatch z) fun tk => ⟨.bl b, H, I.tok tk, rfl, q⟩
  · obtain ⟨u, v, rfl, ru, rv⟩ := vals2 r
    obtain rfl : v = Value.ref c := rv
    obtain rfl : u = Value.ref ea := ru
    exact PySem.W.kia_one (kitx_exc k) I.kIn IA e (fun z => nomatch z) fun tk => ⟨.bl b, H, I.tok tk, rfl, q⟩
  · obtain ⟨u, v, rfl, ru, rv⟩ := vals2 r
    obtain rfl : v = Value.ref c := rv
    obtain rfl : u = Value.ref ea := ru
    obtain ⟨_, its, rv, ⟨o, h1, h2, n, h3⟩⟩ := (show ObjOk X.prog X.w H s.heap c (.tup vs) from I.hok c _ et)
    obtain ⟨oc, od, oda, osl⟩ := o
    dsimp only at h2 h3
    subst h2 h3
    exact PySem.W.kia_tup (kitx_exc k) I.kIn IA h1 (e its rv) (fun z => nomatch z) fun tk => ⟨.bl b, H, I.tok tk, rfl, q⟩

theorem PS.nox {X : Cx} {st : Stmt} {t : TS} (h : PS X.nox st t) : PS X st t := fun pins s σ H D I hw =>
  wpAny_mono (h pins s σ H D (I.wish _) hw) (fun _ _ q => q.unwish) fun _ _ z => False.elim z
theorem PA.nox {X : Cx} {es : List Expr} {t : TA} (h : PA X.nox es t) : PA X es t := fun pos pins s σ H Q I hw =>
  wpAny_mono (h pos pins s σ H Q (I.wish _) hw) (fun _ _ ⟨v, H', I', r, q⟩ => ⟨v, H', I'.unwish, r, q⟩) fun _ _ z => False.elim z
theorem kit_val {K : PySem.W.Frag} {C : Addr} (h : PySem.W.subIn K (.ref C) (.type "ValueError") = some true) : PySem.W.kitOne K (.ref C) (.type "ValueError") = some true := by
  unfold PySem.W.kitOne PySem.W.kitCls
  dsimp only
  rw [if_neg (by simp), if_pos (show PySem.W.kitMeta "ValueError" = true by decide +kernel)]
  exact h
def FnS1 (P : Program) (w : World) (K : PySem.W.Frag) (mg : Str → Option Value) (base : Heap) (k : Nat) (x : Str) (ps : List Str) (sp : Sp) : Prop := ∃ f fd, FnOk P w K mg base (CX1 P w) k f fd ps sp ∧ Binds K fd ps [] ∧ PySem.W.keepIn K (.ref f) = true ∧ mg x = some (.ref f)
def tFnX (sp : Sp) (t : TA) : TEx := fun σ H Q E => t σ H fun vs H1 => sp vs H1 Q E
theorem tCallX_nil (sp : Sp) (t : TA) : tCallX sp [] t = tFnX sp t := by
  funext σ H Q E
  unfold tCallX tFnX
  have e : (fun (vs : List V) (H1 : Hp) => sp (vs ++ []) H1 Q E) = fun vs H1 => sp vs H1 Q E := by
    funext vs H1; rw [List.append_nil]
  rw [e]
section
variable {X : Cx} {k k' : Nat} {x : Str} {ps : List Str} {sp : Sp} {e : Expr} {es : List Expr} {t : TA} {p pos : Pos}
theorem pex_fn (G : FnS1 X.prog X.w X.K X.mg X.base k x ps sp) (hr : Room k' X.A) (ha : PA X.nox (e :: es) t) (hk : k ≤ k' := by omega) (hg : Gl X x := by rfl) (hdb : (x == ("__debug__" : Str)) = false := by decide)
    (he : starEach (e :: es) X.env = (false, eval e X.env) :: starEach es X.env := by rfl) (hpl : (backTo pos (starEach es X.env)).any (·.1) = false := by rfl) : PEx X (.Call (.Name x p) (e :: es) [] pos) (tFnX sp t) := by
  obtain ⟨f, fd, F, hb, kp, hm⟩ := G
  rw [← tCallX_nil]
  exact pex_call F (hr.mono hk) hg hm kp hb .nil ha hdb he hpl
end
section
variable {K : PySem.W.Frag} {D : Ends} {σ : St} {H : Hp} {Q : VK} {C C' : Addr}
theorem i_raise {E : XK} {t : TA} (h : t σ H fun vs H1 => vs.length ≤ 9 ∧ E (.ref C) none H1) : tRaise C E t D σ H := h
theorem i_tryX {te : TEx} {th : Addr → TS} (h : te σ H (fun _ H' => D.nx σ H') (fun v _ H' => ∃ C, v = .ref C ∧ th C D σ H')) : tTry (fun D E σ H => te σ H (fun _ H' => D.nx σ H') (E σ)) th D σ H := h
theorem i_fnX {sp : Sp} {t : TA} {E : XK} (h : t σ H fun vs H1 => sp vs H1 Q E) : tFnX sp t σ H Q E := h
theorem i_handT {ts tr : Addr → TS} (e : PySem.W.mroIn K C (.ref C') = some true) (h : ts C D σ H) : tHand K C' ts tr C D σ H := ⟨true, e, fun _ => h, fun z => Bool.noConfusion z⟩
theorem i_as {i : Nat} {ts : Addr → Addr → TS} (e : ExcK K C) (h : ∀ ea, ts ea C { nx := fun _ _ => False, rt := D.rt } (σ.set i (some (.ref ea))) H) : tAs K i ts C D σ H := ⟨e, h⟩
theorem i_isiXC {ea c : Addr} {b : Bool} (e : PySem.W.kitOne K (.ref C) (.ref c) = some b) (h : Q (.bl b) H) : rIsiX K ea C [.ref ea, .ref c] H Q := ⟨b, .inr (.inl ⟨c, rfl, e⟩), h⟩
theorem i_isiXT {ea : Addr} {n : String} {b : Bool} (e : PySem.W.kitOne K (.ref C) (.type n) = some b) (h : Q (.bl b) H) : rIsiX K ea C [.ref ea, .ty n] H Q := ⟨b, .inl ⟨n, rfl, e⟩, h⟩
/-- of a tuple of classes, none of which it is of -/
theorem i_isiXN {ea c : Addr} {cs : List Addr} (hc : H c = some (.tup (cs.map V.ref))) (e : ∀ d ∈ cs, PySem.W.kitOne K (.ref C) (.ref d) = some false) (h : Q (.bl false) H) : rIsiX K ea C [.ref ea, .ref c] H Q := by
  refine ⟨false, .inr (.inr ⟨c, _, rfl, hc, fun us r => ?_⟩), h⟩
  have : ∀ (cs : List Addr) (us : List Value), (∀ d ∈ cs, PySem.W.kitOne K (.ref C) (.ref d) = some false) → Vals (cs.map V.ref) us → PySem.W.kitAny K (.ref C) us = some false := by
    intro cs
    induction cs with
    | nil => intro us _ r; cases r; rfl
    | cons d cs ih =>
      intro us e r
      rw [List.map_cons] at r
      cases r with
      | cons r1 r2 =>
        rename_i u us'
        obtain rfl : u = Value.ref d := r1
        unfold PySem.W.kitAny
        rw [e d List.mem_cons_self]
        exact ih us' (fun x hx => e x (List.mem_cons_of_mem _ hx)) r2
  exact this cs us e r
end
end L2

set_option maxRecDepth 100000
namespace L2
open PySem PySem.Spec PyProof.Rows
def Itex (z : Str) : It := ⟨fun i _ => i < z.cps.size, fun i H x H' => ∃ T c, z.cps[i]? = some c ∧ H T = none ∧ x = .ref T ∧ H' = upd H T (.tup [.int (i : Int), .str ⟨#[c]⟩]), fun i _ => i = z.cps.size⟩
theorem turn_enumX {P : Program} {w : World} {K : PySem.W.Frag} {elts : List Expr} {kk : Nat} {ps : Pos} {z : Str} {e it : Addr} {stI : Nat → Heap → Prop} (hei : e ≠ it)
    (hobj : ∀ i h, stI i h → ∃ o, h.get? it = some o ∧ ∀ v, o.data ≠ .cell v) (hkeep : ∀ i h h', stI i h → (∀ o, h.get? it = some o → h'.get? it = some o) → stI i h')
    (hD : ∀ A : Around, A.handled = none → Draws P w A it [it] z.cps.size (fun i v => ∃ c u, z.cps[i]? = some c ∧ v = .str ⟨#[c]⟩ u) stI) :
    Turn P w K (.Tuple elts kk ps) (Itex z) [e, it] e (fun i h => (∃ old, IsEnum h e it i old) ∧ stI i h) where
  mem := by simp
  obj := fun i h st b hb => by
    obtain ⟨⟨old, he⟩, hs⟩ := st
    rcases List.mem_cons.mp hb with rfl | hb
    · exact ⟨_, he, fun v z => by cases z⟩
    · rw [List.mem_singleton.mp hb]; exact hobj i h hs
  keep := fun i h h' st k => by
    obtain ⟨⟨old, he⟩, hs⟩ := st
    exact ⟨⟨old, k e (by simp) _ he⟩, hkeep i h h' hs fun o z => k it (by simp) o z⟩
  item := by
    intro X hP hw hK hc i pins s σ H E I hf st hg
    obtain ⟨⟨old, he⟩, hs⟩ := st
    subst hP hw hK
    have D := hD X.A.in1 (I.ok.hd hc)
    have hef : e ∉ [it] := fun q => hei (List.mem_singleton.mp q)
    refine wpAny_pyNext_enum_itemD D he hs hg hei hef fun u h1 tk hu ho hs1 hT hsz hk => ?_
    obtain ⟨c, tu, hc1, rfl⟩ := hu
    have hel : e < s.heap.objs.size := Heap.lt_size he
    have hil : it < s.heap.objs.size := by obtain ⟨o, q, _⟩ := hobj i _ hs; exact Heap.lt_size q
    refine ⟨_, rfl, wpAny_letOwnedTupleGo_enum ho fun h2 he2 hs2 => ?_⟩
    have I2 : Inv X pins σ (upd H s.heap.objs.size (.tup [.int (i : Int), .str ⟨#[c]⟩])) { s with heap := h2, toks := tk + 1 } :=
      I.pairTurn (ch := [e, it]) (x := .int (i : Int)) (y := .str ⟨#[c]⟩) (u := .int i tk) (v := .str ⟨#[c]⟩ tu) ⟨tk, rfl⟩ ⟨tu, rfl⟩ hf (fun b hb => by
        rcases List.mem_cons.mp hb with rfl | hb
        · exact Nat.ne_of_lt hel
        · rw [List.mem_singleton.mp hb]; exact Nat.ne_of_lt hil) (fun b o hb z => by
        have hb1 : b ≠ e := fun q => hb (by simp [q])
        have hb2 : b ≠ it := fun q => hb (by simp [q])
        exact (hs2.2 b hb1).trans (hk b o hb1 hb2 z)) ((hs2.2 _ (Nat.ne_of_gt hel)).trans hT)
    refine ⟨.ref s.heap.objs.size, _, I2, rfl, ⟨_, c, hc1, I.hok.fresh (Nat.le_refl _), rfl, rfl⟩, ⟨⟨_, by simpa using he2⟩, D.frame _ _ _ hs1 fun b hb o z => (hs2.2 b fun q => hef (q ▸ hb)).trans z⟩, fun b hb => ?_⟩
    have hne : b ≠ s.heap.objs.size := by
      rcases List.mem_cons.mp hb with rfl | hb
      · exact Nat.ne_of_lt hel
      · rw [List.mem_singleton.mp hb]; exact Nat.ne_of_lt hil
    rw [upd_ne hne]
    exact (hf b hb).1
  done := by
    intro X hP hw hK hc i pins s σ H E I hf st hg
    obtain ⟨⟨old, he⟩, hs⟩ := st
    subst hP hw hK
    have D := hD X.A.in1 (I.ok.hd hc)
    have hi : i = z.cps.size := hg
    rw [hi] at hs
    obtain ⟨f0, f1, f2, f3, f4, f5⟩ := hf it (by simp)
    exact wpAny_pyNext_enum_endD D he hs fun h1 eb => ⟨rfl, I.turned (t' := s.toks) (fun b o hb z => eb b o hb z) f0 f1 f3 f4 f5⟩
  self := fun _ _ _ _ _ st h => by
    obtain ⟨⟨old, he⟩, _⟩ := st
    exact wpAny_pyIter_enum he h
section
variable {X : Cx} {a : Expr} {ta : TE} {pos : Pos}
def iEnumX (tl : TE) : TI := fun σ H R => tl σ H fun x H1 => ∃ z, x = .str z ∧ R (Itex z) H1
theorem pi_enumX {elts : List Expr} {kk : Nat} {ps : Pos} {l : Expr} {tl : TE} {p pos : Pos} (hg : Gl X "enumerate") (hm : X.mg "enumerate" = none) (ha : PE X l tl) (he : starEach [l] X.env = (false, eval l X.env) :: starEach [] X.env := by rfl) :
    PI X (.Tuple elts kk ps) (.Call (.Name "enumerate" p) [l] [] pos) (iEnumX tl) := by
  intro pins s σ H R I h
  refine wpAny_Call_Name_kw (ld_blt I hg hm bt_enumerate ?_)
  let R' : List V → Hp → Prop := fun vs H1 => match vs with | [x] => (∃ z, x = V.str z ∧ R (Itex z) H1) | _ => False
  have h' : tCons tl tNil σ H R' := h
  refine PyProof.Rows.callWith_type1 (thn (pa_cons ha pa_nil he pos pins s σ H R' I h') fun us s1 ⟨vs, H1, I1, r1, q1⟩ => ?_) he rfl
  have fpk : ∀ b ∈ [s1.heap.objs.size + 1, s1.heap.objs.size], FpOk X pins H1 b := fun b hb => by
    rcases List.mem_cons.mp hb with rfl | hb
    · exact I1.fpOk (Nat.le_succ _) (I1.hok.fresh (Nat.le_succ _))
    · rw [List.mem_singleton.mp hb]; exact I1.fpOk (Nat.le_refl _) (I1.hok.fresh (Nat.le_refl _))
  match vs, r1, q1 with
  | [x], r1, q1 =>
    obtain ⟨u, rfl, rx⟩ := vals1 r1
    obtain ⟨z, rfl, q⟩ := q1
    obtain ⟨t, rfl⟩ := rx
    refine call_enumerate_str fun h2 he2 hi2 hsz hk => ?_
    have ob : ∀ (i : Nat) (h : Heap), h.IsStrIter s1.heap.objs.size (strIterType z) z t i → ∃ o, h.get? s1.heap.objs.size = some o ∧ ∀ v, o.data ≠ .cell v := by
      rintro i h ⟨o, e, c, d⟩
      exact ⟨o, e, fun v z => by rw [d] at z; cases z⟩
    have kp : ∀ (i : Nat) (h h' : Heap), h.IsStrIter s1.heap.objs.size (strIterType z) z t i → (∀ o, h.get? s1.heap.objs.size = some o → h'.get? s1.heap.objs.size = some o) → h'.IsStrIter s1.heap.objs.size (strIterType z) z t i := fun i h h' z k => let ⟨o, e, r⟩ := z; ⟨o, k o e, r⟩
    have D : ∀ A : Around, A.handled = none → Draws X.prog X.w A s1.heap.objs.size [s1.heap.objs.size] z.cps.size (fun i v => ∃ c u, z.cps[i]? = some c ∧ v = .str ⟨#[c]⟩ u) (fun i h => h.IsStrIter s1.heap.objs.size (strIterType z) z t i) := fun A hA => by
      unfold strIterType
      by_cases q : z.cps.all (· < 128) = true
      · simp only [q, if_true]; exact Draws.strAscii hA _ z t
      · simp only [q, if_false]; exact Draws.strWide hA _ z t
    exact wpAny_pyIter_enum he2 ⟨s1.heap.objs.size + 1, _, _, _, H1, rfl, I1.kept (t' := s1.toks) hk, turn_enumX (e := s1.heap.objs.size + 1) (it := s1.heap.objs.size) (stI := fun i h => h.IsStrIter s1.heap.objs.size (strIterType z) z t i) (Nat.succ_ne_self _) ob kp D, ⟨⟨_, he2⟩, hi2⟩, fpk, q⟩
def tFmtR (ta : TE) : TE := fun σ H Q => ta σ H fun x H1 => ∃ z, x = .str z ∧ (reprText z).length ≤ sizeLine ∧ Q (.str (reprText z)) H1
theorem pe_fmtR (ha : PE X a ta) : PE X (.FormattedValue a 114 none pos) (tFmtR ta) := by
  intro pins s σ H Q I h
  refine wpAny_FormattedValue_repr (thn (ha pins s σ H _ I h) fun v s1 ⟨x, H1, I1, r1, z, ex, hz, q⟩ => ?_)
  subst ex
  obtain ⟨t, rfl⟩ := r1
  exact wpAny_pyReprObj_str (formatField_str (fun t' k => ⟨.str _, H1, I1.tok k, ⟨t', rfl⟩, q⟩) hz) hz
theorem psx_set {i : Nat} {x : Str} {e : Expr} {te : TEx} {pos' : Pos} (hN : X.N.Nodup) (hi : X.N[i]? = some x) (hx : Loc X.env.scope x) (he : PEx X e te) (hs : swapsWith e (some (.Name x pos')) pos.line X.env = pure false := by rfl) (hf : X.fn x = true ∨ X.env.scope.names.lookup x = some .local := by first | exact .inl rfl | exact .inr rfl | assumption) :
    PSx X [.Assign [.Name x pos'] e pos] (fun D E σ H => te σ H (fun v H' => D.nx (σ.set i (some v)) H') (E σ)) := by
  intro pins s σ H D E I h
  refine wpAny_execs_cons (wpAny_Assign_Name (wpAny_mono (he pins s σ H _ _ I h) (fun v s1 h1 => ?_) fun e s1 h1 => ⟨σ, h1⟩) hs)
  obtain ⟨y, H1, I1, r1, q1⟩ := h1
  exact store_ok I1 hN hi hx r1 (fun s2 I2 => wpAny_execs_nil ⟨_, H1, I2, q1⟩) hf
end
section
variable {σ : St} {H : Hp} {Q : VK} {D : Ends} {K : PySem.W.Frag} {g : TG} {tb : TS} {ta : TE}
def LoopEX (z : Str) (g : TG) (tb : TS) (D : Ends) (σ : St) (H : Hp) : Prop :=
  ∃ W : Nat → Nat → St → Hp → Prop, (∃ m, W 0 m σ H) ∧ ∀ i m σ H, W i m σ H →
      ((Itex z).stop i H ∧ D.nx σ H) ∨ ((Itex z).go i H ∧ ∃ N : St → Hp → Prop, (∀ σ' H', N σ' H' → ∃ m', m' < m ∧ W (i + 1) m' σ' H') ∧ ∀ x H', (Itex z).yld i H x H' → g x σ H' fun σ2 H2 => tb { D with nx := N, ct := N, bk := D.nx } σ2 H2)
theorem i_forEX {tl : TE} (h : tl σ H fun x H1 => ∃ z, x = .str z ∧ LoopEX z g tb D σ H1) : tFor (iEnumX tl) g tb D σ H := h
theorem loopEX {z : Str} (Pv : Nat → St → Hp → Prop) (h0 : Pv 0 σ H)
    (hs : ∀ (i c : Nat) (T : Addr) σ H H', z.cps[i]? = some c → Pv i σ H → Same H H' → H T = none → H' T = some (.tup [.int (i : Int), .str ⟨#[c]⟩]) → g (.ref T) σ H' fun σ2 H2 => tb { D with nx := Pv (i + 1), ct := Pv (i + 1), bk := D.nx } σ2 H2) (hd : ∀ σ H, Pv z.cps.size σ H → D.nx σ H) : LoopEX z g tb D σ H := by
  refine ⟨fun i m σ H => m = z.cps.size - i ∧ i ≤ z.cps.size ∧ Pv i σ H, ⟨z.cps.size, by simp, Nat.zero_le _, h0⟩, ?_⟩
  rintro i m σ H ⟨rfl, hi, p⟩
  by_cases hlt : i < z.cps.size
  · refine .inr ⟨hlt, Pv (i + 1), fun σ' H' p' => ⟨z.cps.size - (i + 1), by omega, rfl, hlt, p'⟩, fun x H' y => ?_⟩
    obtain ⟨T, c, hc, hT, rfl, rfl⟩ := y
    exact hs i c T σ H _ hc p (same_new hT _) hT upd_same
  · have e : i = z.cps.size := by omega
    subst e
    exact .inl ⟨rfl, hd σ H p⟩
theorem seqEX {z : Str} (Pv : Nat → St → Hp → Prop) (h0 : Pv 0 σ H)
    (hs : ∀ (i c : Nat) (T : Addr) σ H H', z.cps[i]? = some c → Pv i σ H → Same H H' → H T = none → H' T = some (.tup [.int (i : Int), .str ⟨#[c]⟩]) → g (.ref T) σ H' fun σ2 H2 => tb { D with nx := Pv (i + 1), ct := Pv (i + 1), bk := D.nx } σ2 H2) (hd : ∀ σ H, Pv z.cps.size σ H → D.nx σ H) : ∃ z', V.str z = .str z' ∧ LoopEX z' g tb D σ H := ⟨z, rfl, loopEX Pv h0 hs hd⟩
theorem i_fmtR (h : ta σ H fun x H1 => ∃ z, x = .str z ∧ (reprText z).length ≤ sizeLine ∧ Q (.str (reprText z)) H1) : tFmtR ta σ H Q := h
theorem i_trySet {te : TEx} {th : Addr → TS} {i : Nat} (h : te σ H (fun v H' => D.nx (σ.set i (some v)) H') (fun v _ H' => ∃ C, v = .ref C ∧ th C D σ H')) : tTry (fun D E σ H => te σ H (fun v H' => D.nx (σ.set i (some v)) H') (E σ)) th D σ H := h
end
def Asc (z : Str) : Prop := ∀ c ∈ z.cps.toList, c < 128
theorem asc_slice {z : Str} (h : Asc z) (lo hi : Option Int) : Asc (Txt.slice z lo hi) := by
  unfold Txt.slice
  split
  · exact h
  · intro c hc
    have hc : c ∈ (Builtin.Str.strSliceIndices lo hi 1 z.length).filterMap (z.cps[·]?) := by simpa using hc
    obtain ⟨i, _, e⟩ := List.mem_filterMap.mp hc
    obtain ⟨hi, e⟩ := Array.getElem?_eq_some_iff.mp e
    exact h c (by rw [← e]; simp)
theorem asc_append {x y : Str} (hx : Asc x) (hy : Asc y) : Asc (x ++ y) := by
  intro c hc
  have hc : c ∈ (x.cps ++ y.cps).toList := hc
  rw [Array.toList_append, List.mem_append] at hc
  exact hc.elim (hx c) (hy c)
theorem len_append (x y : Str) : (x ++ y).length = x.length + y.length := by
  show (x.cps ++ y.cps).size = _
  rw [Array.size_append]; rfl
end L2

open PySem L2
local macro_rules | `(tactic| walk_at "side") => `(tactic| first | omega | (show (_ : Int) < _; omega) | exact ⟨by omega, by omega⟩ | exact ⟨by omega, by omega, by decide⟩)
local macro_rules | `(tactic| walk_at "rd1") => `(tactic| first
  | (with_reducible first | refine i_seq ?_ | refine i_asg ?_ | refine i_op ?_ | refine i_c ?_ | refine i_cons ?_ | refine i_nil ?_ | refine i_ifs ?_ | refine i_ret ?_ | refine i_fn ?_ | refine i_cb ?_ | refine i_test ?_ | refine i_exb ?_ | refine i_exi ?_ | refine i_truB ?_ | refine i_dy ?_ | refine i_mk ?_ | refine i_fld ?_ | refine i_sfld ?_ | refine i_drop ?_ | refine i_next ?_ | refine i_retN ?_ | refine i_brk ?_ | refine i_cont ?_ | refine i_un ?_ | refine i_and ?_ | refine i_or ?_ | refine i_not ?_ | refine i_andV ?_ | refine i_orV ?_ | refine i_notG ?_ | refine i_if ?_ | refine i_tup ?_ | refine i_lst ?_ | refine i_bm ?_ | refine i_bm0 ?_ | refine i_sl ?_ | refine i_part ?_ | refine i_noPart ?_ | refine i_forR1 ?_ | refine i_forR2 ?_ | refine i_forR3 ?_ | refine i_compR3 ?_ | refine i_listrev ?_ | refine i_forS ?_ | refine i_forE ?_ | refine i_forEX ?_ | refine i_forZ ?_ | refine i_forV ?_ | refine i_bitlen ?_ | refine i_chain ?_ | refine i_truI ?_ | refine i_compR1 ?_ | refine i_compR2 ?_ | refine i_compS ?_ | refine i_noif ?_ | refine i_rI0 ?_ | refine i_addI ?_ | refine i_rU ?_ | refine i_eqAI ?_ | refine i_eqAS ?_ | refine i_eqAB ?_ | refine i_neAI ?_ | refine i_neAS ?_ | refine i_neAB ?_ | refine i_fs ?_ | refine i_gsub ?_ | refine i_jc ?_ | refine i_fmt ?_ | refine i_fmtR ?_ | refine i_eqI ?_ | refine i_eqS ?_ | refine i_eqB ?_ | refine i_neI ?_ | refine i_neS ?_ | refine i_neB ?_ | refine i_intI ?_ | refine i_intB ?_ | refine i_max ?_ | refine i_min ?_)
  | ((with_reducible refine i_name ?_); (try dsimp only [List.set_cons_succ, List.set_cons_zero]))
  | ((with_reducible refine' i_var ?hv ?_); (case hv => exact rfl))
  | ((with_reducible refine i_rI ?hc ?_); (case hc => walk_at "side"))
  | ((with_reducible refine' i_lenS ?hc ?_); (case hc => assumption))
  | ((with_reducible refine' i_lenL ?hc ?_); (case hc => assumption))
  | ((with_reducible refine' i_lenT ?hc ?_); (case hc => assumption))
  | ((with_reducible refine' i_isiT ?ht ?he ?_); (case ht => first | exact TyOf.bl _ | exact TyOf.int _ | exact TyOf.str _ | exact TyOf.non | exact TyOf.lst (by assumption) | exact TyOf.tup (by assumption)); (case he => first | exact kit_self _ _ | exact kit_int_bool _ | exact kit_bool_int _ | exact kit_str_bool _ | exact kit_str_int _ | exact kit_list_int _ | exact kit_list_bool _ | exact kit_none_int _ | exact kit_none_list _ | exact kit_none_str _ | exact kit_none_tuple _ | exact kit_list_tuple _ | exact kit_tuple_list _ | exact kit_str_list _ | exact kit_int_str _ | exact kit_int_list _ | exact kit_bool_str _ | exact kit_bool_list _ | exact kit_int_tuple _ | exact kit_str_tuple _ | exact kit_bool_tuple _ | exact kit_tuple_int _ | exact kit_tuple_bool _ | exact kit_tuple_str _ | exact kit_list_str _ | exact kit_none_bool _)))
local macro_rules | `(tactic| walk_at "hp") => `(tactic| first | assumption | solve_by_elim (maxDepth := 16) only [*, ne_of_none])
local macro_rules | `(tactic| walk_at "rd0") => `(tactic| ((try dsimp only [cxOf]); (try simp only [L2.start, List.map_cons, List.map_nil, List.length_cons, List.length_nil, Nat.reduceAdd, Nat.reduceSub, List.replicate_zero, List.append_nil, List.cons_append, List.nil_append, List.replicate_succ]); (repeat walk_at "rd1")))
local macro_rules | `(tactic| walk_at "rd") => `(tactic| repeat walk_at "rd1")

namespace LW
open PySem L2 EM
def top (i : Nat) : Stmt := PySem.Challenge.pw_evernever_k25_bars_as_signs.main.body.getD i (.Pass ⟨0, 0, 0, 0⟩)
abbrev s_sign_for : Stmt := top 16
abbrev s_shown_bar : Stmt := top 17
abbrev s_read_bar : Stmt := top 18
abbrev s__law_cell_at : Stmt := top 20
abbrev s__law_signs : Stmt := top 21
abbrev s__law_spoilt : Stmt := top 22
abbrev s__law_bar_of : Stmt := top 23
abbrev s__law_read : Stmt := top 24
abbrev s__law_refused_alone : Stmt := top 25
abbrev s__law_told : Stmt := top 26
abbrev s_law : Stmt := top 27
theorem sc_sign_for : FnScope ["bar", "lamp"] ["bar", "lamp"] (defScope s_sign_for) := ⟨rfl, rfl, rfl, by decide +kernel, rfl, by decide +kernel, by decide +kernel⟩
theorem sc_shown_bar : FnScope ["many", "bar"] ["many", "bar"] (defScope s_shown_bar) := ⟨rfl, rfl, rfl, by decide +kernel, rfl, by decide +kernel, by decide +kernel⟩
theorem sc_read_bar : FnScope ["text", "asked", "lit", "lamp", "sign"] ["text"] (defScope s_read_bar) := ⟨rfl, rfl, rfl, by decide +kernel, rfl, by decide +kernel, by decide +kernel⟩
theorem sc__law_cell_at : FnScope ["_law_script", "_law_k"] ["_law_script", "_law_k"] (defScope s__law_cell_at) := ⟨rfl, rfl, rfl, by decide +kernel, rfl, by decide +kernel, by decide +kernel⟩
theorem sc__law_signs : FnScope ["_law_cell", "_law_size", "_law_text", "_law_k"] ["_law_cell", "_law_size"] (defScope s__law_signs) := ⟨rfl, rfl, rfl, by decide +kernel, rfl, by decide +kernel, by decide +kernel⟩
theorem sc__law_spoilt : FnScope ["_law_text", "_law_cell", "_law_others", "_law_at", "_law_sign"] ["_law_text", "_law_cell"] (defScope s__law_spoilt) := ⟨rfl, rfl, rfl, by decide +kernel, rfl, by decide +kernel, by decide +kernel⟩
theorem sc__law_bar_of : FnScope ["_law_text", "_law_asked", "_law_lit", "_law_worth", "_law_sign"] ["_law_text"] (defScope s__law_bar_of) := ⟨rfl, rfl, rfl, by decide +kernel, rfl, by decide +kernel, by decide +kernel⟩
theorem sc__law_read : FnScope ["_law_text", "_law_found"] ["_law_text"] (defScope s__law_read) := ⟨rfl, rfl, rfl, by decide +kernel, rfl, by decide +kernel, by decide +kernel⟩
theorem sc__law_refused_alone : FnScope ["_law_text", "e"] ["_law_text"] (defScope s__law_refused_alone) := ⟨rfl, rfl, rfl, by decide +kernel, rfl, by decide +kernel, by decide +kernel⟩
theorem sc__law_told : FnScope ["_law_text", "_law_due", "_law_found", "_law_number"] ["_law_text"] (defScope s__law_told) := ⟨rfl, rfl, rfl, by decide +kernel, rfl, by decide +kernel, by decide +kernel⟩
theorem sc_law : FnScope ["_law_script", "_law_first", "_law_text", "_law_bar", "_law_shown", "_law_other"] ["_law_script"] (defScope s_law) := ⟨rfl, rfl, rfl, by decide +kernel, rfl, by decide +kernel, by decide +kernel⟩
/-- the addresses of what the top has made -/
structure Ad where
  f_sign_for : Addr
  d_sign_for : FuncData
  f_shown_bar : Addr
  d_shown_bar : FuncData
  f_read_bar : Addr
  d_read_bar : FuncData
  f__law_cell_at : Addr
  d__law_cell_at : FuncData
  f__law_signs : Addr
  d__law_signs : FuncData
  f__law_spoilt : Addr
  d__law_spoilt : FuncData
  f__law_bar_of : Addr
  d__law_bar_of : FuncData
  f__law_read : Addr
  d__law_read : FuncData
  f__law_refused_alone : Addr
  d__law_refused_alone : FuncData
  f__law_told : Addr
  d__law_told : FuncData
  f_law : Addr
  d_law : FuncData
  C_NoBar : Addr
  C_EverError : Addr
  C_NoFormula : Addr
  C_NoChart : Addr
  C_NoStep : Addr
  C_NoLine : Addr
  C_NoName : Addr
  C_NotShut : Addr
  C_NoFrame : Addr
  C_NoFence : Addr
  C_NoMachine : Addr
  C_NothingLeft : Addr
  C_TooMany : Addr
/-- what the top has written -/
structure Txt (K : PySem.W.Frag) (mg : Str → Option Value) (t : Ad) : Prop where
  F_sign_for : Fun K "sign_for" "sign_for" s_sign_for t.f_sign_for t.d_sign_for
  b_sign_for : Binds K t.d_sign_for ["bar", "lamp"] []
  m_sign_for : mg "sign_for" = some (.ref t.f_sign_for)
  F_shown_bar : Fun K "shown_bar" "shown_bar" s_shown_bar t.f_shown_bar t.d_shown_bar
  b_shown_bar : Binds K t.d_shown_bar ["many", "bar"] []
  m_shown_bar : mg "shown_bar" = some (.ref t.f_shown_bar)
  F_read_bar : Fun K "read_bar" "read_bar" s_read_bar t.f_read_bar t.d_read_bar
  b_read_bar : Binds K t.d_read_bar ["text"] []
  m_read_bar : mg "read_bar" = some (.ref t.f_read_bar)
  F__law_cell_at : Fun K "_law_cell_at" "_law_cell_at" s__law_cell_at t.f__law_cell_at t.d__law_cell_at
  b__law_cell_at : Binds K t.d__law_cell_at ["_law_script", "_law_k"] []
  m__law_cell_at : mg "_law_cell_at" = some (.ref t.f__law_cell_at)
  F__law_signs : Fun K "_law_signs" "_law_signs" s__law_signs t.f__law_signs t.d__law_signs
  b__law_signs : Binds K t.d__law_signs ["_law_cell", "_law_size"] []
  m__law_signs : mg "_law_signs" = some (.ref t.f__law_signs)
  F__law_spoilt : Fun K "_law_spoilt" "_law_spoilt" s__law_spoilt t.f__law_spoilt t.d__law_spoilt
  b__law_spoilt : Binds K t.d__law_spoilt ["_law_text", "_law_cell"] []
  m__law_spoilt : mg "_law_spoilt" = some (.ref t.f__law_spoilt)
  F__law_bar_of : Fun K "_law_bar_of" "_law_bar_of" s__law_bar_of t.f__law_bar_of t.d__law_bar_of
  b__law_bar_of : Binds K t.d__law_bar_of ["_law_text"] []
  m__law_bar_of : mg "_law_bar_of" = some (.ref t.f__law_bar_of)
  F__law_read : Fun K "_law_read" "_law_read" s__law_read t.f__law_read t.d__law_read
  b__law_read : Binds K t.d__law_read ["_law_text"] []
  m__law_read : mg "_law_read" = some (.ref t.f__law_read)
  F__law_refused_alone : Fun K "_law_refused_alone" "_law_refused_alone" s__law_refused_alone t.f__law_refused_alone t.d__law_refused_alone
  b__law_refused_alone : Binds K t.d__law_refused_alone ["_law_text"] []
  m__law_refused_alone : mg "_law_refused_alone" = some (.ref t.f__law_refused_alone)
  F__law_told : Fun K "_law_told" "_law_told" s__law_told t.f__law_told t.d__law_told
  b__law_told : Binds K t.d__law_told ["_law_text"] []
  m__law_told : mg "_law_told" = some (.ref t.f__law_told)
  F_law : Fun K "law" "law" s_law t.f_law t.d_law
  b_law : Binds K t.d_law ["_law_script"] []
  m_law : mg "law" = some (.ref t.f_law)
  b_ValueError : mg "ValueError" = none
  m_NoBar : mg "NoBar" = some (.ref t.C_NoBar)
  ty_NoBar : PySem.W.typeIn K (.ref t.C_NoBar) = some (.type "type")
  cl_NoBar : (PySem.W.clsIn K t.C_NoBar).isSome = true
  mb_NoBar : PySem.W.mroIn K t.C_NoBar (.type "BaseException") = some true
  m_EverError : mg "EverError" = some (.ref t.C_EverError)
  ty_EverError : PySem.W.typeIn K (.ref t.C_EverError) = some (.type "type")
  cl_EverError : (PySem.W.clsIn K t.C_EverError).isSome = true
  mb_EverError : PySem.W.mroIn K t.C_EverError (.type "BaseException") = some true
  m_NoFormula : mg "NoFormula" = some (.ref t.C_NoFormula)
  ty_NoFormula : PySem.W.typeIn K (.ref t.C_NoFormula) = some (.type "type")
  cl_NoFormula : (PySem.W.clsIn K t.C_NoFormula).isSome = true
  mb_NoFormula : PySem.W.mroIn K t.C_NoFormula (.type "BaseException") = some true
  m_NoChart : mg "NoChart" = some (.ref t.C_NoChart)
  ty_NoChart : PySem.W.typeIn K (.ref t.C_NoChart) = some (.type "type")
  cl_NoChart : (PySem.W.clsIn K t.C_NoChart).isSome = true
  mb_NoChart : PySem.W.mroIn K t.C_NoChart (.type "BaseException") = some true
  m_NoStep : mg "NoStep" = some (.ref t.C_NoStep)
  ty_NoStep : PySem.W.typeIn K (.ref t.C_NoStep) = some (.type "type")
  cl_NoStep : (PySem.W.clsIn K t.C_NoStep).isSome = true
  mb_NoStep : PySem.W.mroIn K t.C_NoStep (.type "BaseException") = some true
  m_NoLine : mg "NoLine" = some (.ref t.C_NoLine)
  ty_NoLine : PySem.W.typeIn K (.ref t.C_NoLine) = some (.type "type")
  cl_NoLine : (PySem.W.clsIn K t.C_NoLine).isSome = true
  mb_NoLine : PySem.W.mroIn K t.C_NoLine (.type "BaseException") = some true
  m_NoName : mg "NoName" = some (.ref t.C_NoName)
  ty_NoName : PySem.W.typeIn K (.ref t.C_NoName) = some (.type "type")
  cl_NoName : (PySem.W.clsIn K t.C_NoName).isSome = true
  mb_NoName : PySem.W.mroIn K t.C_NoName (.type "BaseException") = some true
  m_NotShut : mg "NotShut" = some (.ref t.C_NotShut)
  ty_NotShut : PySem.W.typeIn K (.ref t.C_NotShut) = some (.type "type")
  cl_NotShut : (PySem.W.clsIn K t.C_NotShut).isSome = true
  mb_NotShut : PySem.W.mroIn K t.C_NotShut (.type "BaseException") = some true
  m_NoFrame : mg "NoFrame" = some (.ref t.C_NoFrame)
  ty_NoFrame : PySem.W.typeIn K (.ref t.C_NoFrame) = some (.type "type")
  cl_NoFrame : (PySem.W.clsIn K t.C_NoFrame).isSome = true
  mb_NoFrame : PySem.W.mroIn K t.C_NoFrame (.type "BaseException") = some true
  m_NoFence : mg "NoFence" = some (.ref t.C_NoFence)
  ty_NoFence : PySem.W.typeIn K (.ref t.C_NoFence) = some (.type "type")
  cl_NoFence : (PySem.W.clsIn K t.C_NoFence).isSome = true
  mb_NoFence : PySem.W.mroIn K t.C_NoFence (.type "BaseException") = some true
  m_NoMachine : mg "NoMachine" = some (.ref t.C_NoMachine)
  ty_NoMachine : PySem.W.typeIn K (.ref t.C_NoMachine) = some (.type "type")
  cl_NoMachine : (PySem.W.clsIn K t.C_NoMachine).isSome = true
  mb_NoMachine : PySem.W.mroIn K t.C_NoMachine (.type "BaseException") = some true
  m_NothingLeft : mg "NothingLeft" = some (.ref t.C_NothingLeft)
  ty_NothingLeft : PySem.W.typeIn K (.ref t.C_NothingLeft) = some (.type "type")
  cl_NothingLeft : (PySem.W.clsIn K t.C_NothingLeft).isSome = true
  mb_NothingLeft : PySem.W.mroIn K t.C_NothingLeft (.type "BaseException") = some true
  m_TooMany : mg "TooMany" = some (.ref t.C_TooMany)
  ty_TooMany : PySem.W.typeIn K (.ref t.C_TooMany) = some (.type "type")
  cl_TooMany : (PySem.W.clsIn K t.C_TooMany).isSome = true
  mb_TooMany : PySem.W.mroIn K t.C_TooMany (.type "BaseException") = some true
  q_NoBar : ExcK K t.C_NoBar
  v_NoBar : PySem.W.kitOne K (.ref t.C_NoBar) (.type "ValueError") = some true
  xs_NoBar_NoBar : PySem.W.mroIn K t.C_NoBar (.ref t.C_NoBar) = some true
  xz_NoBar_NoBar : PySem.W.kitOne K (.ref t.C_NoBar) (.ref t.C_NoBar) = some true
  xs_NoBar_EverError : PySem.W.mroIn K t.C_NoBar (.ref t.C_EverError) = some true
  xz_NoBar_EverError : PySem.W.kitOne K (.ref t.C_NoBar) (.ref t.C_EverError) = some true
  xs_NoBar_NoFormula : PySem.W.mroIn K t.C_NoBar (.ref t.C_NoFormula) = some false
  xz_NoBar_NoFormula : PySem.W.kitOne K (.ref t.C_NoBar) (.ref t.C_NoFormula) = some false
  xs_NoBar_NoChart : PySem.W.mroIn K t.C_NoBar (.ref t.C_NoChart) = some false
  xz_NoBar_NoChart : PySem.W.kitOne K (.ref t.C_NoBar) (.ref t.C_NoChart) = some false
  xs_NoBar_NoStep : PySem.W.mroIn K t.C_NoBar (.ref t.C_NoStep) = some false
  xz_NoBar_NoStep : PySem.W.kitOne K (.ref t.C_NoBar) (.ref t.C_NoStep) = some false
  xs_NoBar_NoLine : PySem.W.mroIn K t.C_NoBar (.ref t.C_NoLine) = some false
  xz_NoBar_NoLine : PySem.W.kitOne K (.ref t.C_NoBar) (.ref t.C_NoLine) = some false
  xs_NoBar_NoName : PySem.W.mroIn K t.C_NoBar (.ref t.C_NoName) = some false
  xz_NoBar_NoName : PySem.W.kitOne K (.ref t.C_NoBar) (.ref t.C_NoName) = some false
  xs_NoBar_NotShut : PySem.W.mroIn K t.C_NoBar (.ref t.C_NotShut) = some false
  xz_NoBar_NotShut : PySem.W.kitOne K (.ref t.C_NoBar) (.ref t.C_NotShut) = some false
  xs_NoBar_NoFrame : PySem.W.mroIn K t.C_NoBar (.ref t.C_NoFrame) = some false
  xz_NoBar_NoFrame : PySem.W.kitOne K (.ref t.C_NoBar) (.ref t.C_NoFrame) = some false
  xs_NoBar_NoFence : PySem.W.mroIn K t.C_NoBar (.ref t.C_NoFence) = some false
  xz_NoBar_NoFence : PySem.W.kitOne K (.ref t.C_NoBar) (.ref t.C_NoFence) = some false
  xs_NoBar_NoMachine : PySem.W.mroIn K t.C_NoBar (.ref t.C_NoMachine) = some false
  xz_NoBar_NoMachine : PySem.W.kitOne K (.ref t.C_NoBar) (.ref t.C_NoMachine) = some false
  xs_NoBar_NothingLeft : PySem.W.mroIn K t.C_NoBar (.ref t.C_NothingLeft) = some false
  xz_NoBar_NothingLeft : PySem.W.kitOne K (.ref t.C_NoBar) (.ref t.C_NothingLeft) = some false
  xs_NoBar_TooMany : PySem.W.mroIn K t.C_NoBar (.ref t.C_TooMany) = some false
  xz_NoBar_TooMany : PySem.W.kitOne K (.ref t.C_NoBar) (.ref t.C_TooMany) = some false
  bl : ∀ (s : Shared) (u : Value), BindsTo s t.d_law ⟨[u], []⟩ [("_law_script", u)]
  B : Bt mg
  g_LONGEST : GC mg "LONGEST" (.int 6)
theorem txt_mk {K : PySem.W.Frag} {h : Heap} {mg : Str → Option Value} (X : K.In h) (G : h.Ns mainGlobals mg)
    {f_sign_for : Addr} {od_sign_for an_sign_for : Option Addr} {sl_sign_for : Array (Option Value)} {oc_sign_for kV_sign_for dc_sign_for pm_sign_for cd_sign_for ct_sign_for : Value}
    {f_shown_bar : Addr} {od_shown_bar an_shown_bar : Option Addr} {sl_shown_bar : Array (Option Value)} {oc_shown_bar kV_shown_bar dc_shown_bar pm_shown_bar cd_shown_bar ct_shown_bar : Value}
    {f_read_bar : Addr} {od_read_bar an_read_bar : Option Addr} {sl_read_bar : Array (Option Value)} {oc_read_bar kV_read_bar dc_read_bar pm_read_bar cd_read_bar ct_read_bar : Value}
    {f__law_cell_at : Addr} {od__law_cell_at an__law_cell_at : Option Addr} {sl__law_cell_at : Array (Option Value)} {oc__law_cell_at kV__law_cell_at dc__law_cell_at pm__law_cell_at cd__law_cell_at ct__law_cell_at : Value}
    {f__law_signs : Addr} {od__law_signs an__law_signs : Option Addr} {sl__law_signs : Array (Option Value)} {oc__law_signs kV__law_signs dc__law_signs pm__law_signs cd__law_signs ct__law_signs : Value}
    {f__law_spoilt : Addr} {od__law_spoilt an__law_spoilt : Option Addr} {sl__law_spoilt : Array (Option Value)} {oc__law_spoilt kV__law_spoilt dc__law_spoilt pm__law_spoilt cd__law_spoilt ct__law_spoilt : Value}
    {f__law_bar_of : Addr} {od__law_bar_of an__law_bar_of : Option Addr} {sl__law_bar_of : Array (Option Value)} {oc__law_bar_of kV__law_bar_of dc__law_bar_of pm__law_bar_of cd__law_bar_of ct__law_bar_of : Value}
    {f__law_read : Addr} {od__law_read an__law_read : Option Addr} {sl__law_read : Array (Option Value)} {oc__law_read kV__law_read dc__law_read pm__law_read cd__law_read ct__law_read : Value}
    {f__law_refused_alone : Addr} {od__law_refused_alone an__law_refused_alone : Option Addr} {sl__law_refused_alone : Array (Option Value)} {oc__law_refused_alone kV__law_refused_alone dc__law_refused_alone pm__law_refused_alone cd__law_refused_alone ct__law_refused_alone : Value}
    {f__law_told : Addr} {od__law_told an__law_told : Option Addr} {sl__law_told : Array (Option Value)} {oc__law_told kV__law_told dc__law_told pm__law_told cd__law_told ct__law_told : Value}
    {f_law : Addr} {od_law an_law : Option Addr} {sl_law : Array (Option Value)} {oc_law kV_law dc_law pm_law cd_law ct_law : Value}
    {C_NoBar : Addr}
    {C_EverError : Addr}
    {C_NoFormula : Addr}
    {C_NoChart : Addr}
    {C_NoStep : Addr}
    {C_NoLine : Addr}
    {C_NoName : Addr}
    {C_NotShut : Addr}
    {C_NoFrame : Addr}
    {C_NoFence : Addr}
    {C_NoMachine : Addr}
    {C_NothingLeft : Addr}
    {C_TooMany : Addr}
    {tk_LONGEST : Tok}
    (a_sign_for : PySem.W.nsIn K mainGlobals "sign_for" = some (some (.ref f_sign_for)))
    (a_shown_bar : PySem.W.nsIn K mainGlobals "shown_bar" = some (some (.ref f_shown_bar)))
    (a_read_bar : PySem.W.nsIn K mainGlobals "read_bar" = some (some (.ref f_read_bar)))
    (a__law_cell_at : PySem.W.nsIn K mainGlobals "_law_cell_at" = some (some (.ref f__law_cell_at)))
    (a__law_signs : PySem.W.nsIn K mainGlobals "_law_signs" = some (some (.ref f__law_signs)))
    (a__law_spoilt : PySem.W.nsIn K mainGlobals "_law_spoilt" = some (some (.ref f__law_spoilt)))
    (a__law_bar_of : PySem.W.nsIn K mainGlobals "_law_bar_of" = some (some (.ref f__law_bar_of)))
    (a__law_read : PySem.W.nsIn K mainGlobals "_law_read" = some (some (.ref f__law_read)))
    (a__law_refused_alone : PySem.W.nsIn K mainGlobals "_law_refused_alone" = some (some (.ref f__law_refused_alone)))
    (a__law_told : PySem.W.nsIn K mainGlobals "_law_told" = some (some (.ref f__law_told)))
    (a_law : PySem.W.nsIn K mainGlobals "law" = some (some (.ref f_law)))
    (a_NoBar : PySem.W.nsIn K mainGlobals "NoBar" = some (some (.ref C_NoBar)))
    (a_EverError : PySem.W.nsIn K mainGlobals "EverError" = some (some (.ref C_EverError)))
    (a_NoFormula : PySem.W.nsIn K mainGlobals "NoFormula" = some (some (.ref C_NoFormula)))
    (a_NoChart : PySem.W.nsIn K mainGlobals "NoChart" = some (some (.ref C_NoChart)))
    (a_NoStep : PySem.W.nsIn K mainGlobals "NoStep" = some (some (.ref C_NoStep)))
    (a_NoLine : PySem.W.nsIn K mainGlobals "NoLine" = some (some (.ref C_NoLine)))
    (a_NoName : PySem.W.nsIn K mainGlobals "NoName" = some (some (.ref C_NoName)))
    (a_NotShut : PySem.W.nsIn K mainGlobals "NotShut" = some (some (.ref C_NotShut)))
    (a_NoFrame : PySem.W.nsIn K mainGlobals "NoFrame" = some (some (.ref C_NoFrame)))
    (a_NoFence : PySem.W.nsIn K mainGlobals "NoFence" = some (some (.ref C_NoFence)))
    (a_NoMachine : PySem.W.nsIn K mainGlobals "NoMachine" = some (some (.ref C_NoMachine)))
    (a_NothingLeft : PySem.W.nsIn K mainGlobals "NothingLeft" = some (some (.ref C_NothingLeft)))
    (a_TooMany : PySem.W.nsIn K mainGlobals "TooMany" = some (some (.ref C_TooMany)))
    (ic_NoBar : PySem.W.isClsIn K C_NoBar = true)
    (ty_NoBar : PySem.W.typeIn K (.ref C_NoBar) = some (.type "type"))
    (mb_NoBar : PySem.W.mroIn K C_NoBar (.type "BaseException") = some true)
    (ic_EverError : PySem.W.isClsIn K C_EverError = true)
    (ty_EverError : PySem.W.typeIn K (.ref C_EverError) = some (.type "type"))
    (mb_EverError : PySem.W.mroIn K C_EverError (.type "BaseException") = some true)
    (ic_NoFormula : PySem.W.isClsIn K C_NoFormula = true)
    (ty_NoFormula : PySem.W.typeIn K (.ref C_NoFormula) = some (.type "type"))
    (mb_NoFormula : PySem.W.mroIn K C_NoFormula (.type "BaseException") = some true)
    (ic_NoChart : PySem.W.isClsIn K C_NoChart = true)
    (ty_NoChart : PySem.W.typeIn K (.ref C_NoChart) = some (.type "type"))
    (mb_NoChart : PySem.W.mroIn K C_NoChart (.type "BaseException") = some true)
    (ic_NoStep : PySem.W.isClsIn K C_NoStep = true)
    (ty_NoStep : PySem.W.typeIn K (.ref C_NoStep) = some (.type "type"))
    (mb_NoStep : PySem.W.mroIn K C_NoStep (.type "BaseException") = some true)
    (ic_NoLine : PySem.W.isClsIn K C_NoLine = true)
    (ty_NoLine : PySem.W.typeIn K (.ref C_NoLine) = some (.type "type"))
    (mb_NoLine : PySem.W.mroIn K C_NoLine (.type "BaseException") = some true)
    (ic_NoName : PySem.W.isClsIn K C_NoName = true)
    (ty_NoName : PySem.W.typeIn K (.ref C_NoName) = some (.type "type"))
    (mb_NoName : PySem.W.mroIn K C_NoName (.type "BaseException") = some true)
    (ic_NotShut : PySem.W.isClsIn K C_NotShut = true)
    (ty_NotShut : PySem.W.typeIn K (.ref C_NotShut) = some (.type "type"))
    (mb_NotShut : PySem.W.mroIn K C_NotShut (.type "BaseException") = some true)
    (ic_NoFrame : PySem.W.isClsIn K C_NoFrame = true)
    (ty_NoFrame : PySem.W.typeIn K (.ref C_NoFrame) = some (.type "type"))
    (mb_NoFrame : PySem.W.mroIn K C_NoFrame (.type "BaseException") = some true)
    (ic_NoFence : PySem.W.isClsIn K C_NoFence = true)
    (ty_NoFence : PySem.W.typeIn K (.ref C_NoFence) = some (.type "type"))
    (mb_NoFence : PySem.W.mroIn K C_NoFence (.type "BaseException") = some true)
    (ic_NoMachine : PySem.W.isClsIn K C_NoMachine = true)
    (ty_NoMachine : PySem.W.typeIn K (.ref C_NoMachine) = some (.type "type"))
    (mb_NoMachine : PySem.W.mroIn K C_NoMachine (.type "BaseException") = some true)
    (ic_NothingLeft : PySem.W.isClsIn K C_NothingLeft = true)
    (ty_NothingLeft : PySem.W.typeIn K (.ref C_NothingLeft) = some (.type "type"))
    (mb_NothingLeft : PySem.W.mroIn K C_NothingLeft (.type "BaseException") = some true)
    (ic_TooMany : PySem.W.isClsIn K C_TooMany = true)
    (ty_TooMany : PySem.W.typeIn K (.ref C_TooMany) = some (.type "type"))
    (mb_TooMany : PySem.W.mroIn K C_TooMany (.type "BaseException") = some true)
    (xo_NoBar : PySem.W.excIn K C_NoBar [.type "ValueError", .type "Exception", .type "BaseException", .type "object"] "ValueError.__new__" = true)
    (xg_NoBar : PySem.W.findIn K (.ref C_NoBar) "__getattribute__" = some (some (.builtin "BaseException.__getattribute__")))
    (xh_NoBar : PySem.W.findIn K (.ref C_NoBar) "__getattr__" = some none)
    (xc_NoBar : PySem.W.findIn K (.ref C_NoBar) "__class__" = some (some (.builtin "object.__class__")))
    (xm_NoBar : PySem.W.mroIn K C_NoBar (.type "object") = some true)
    (xv_NoBar : PySem.W.subIn K (.ref C_NoBar) (.type "ValueError") = some true)
    (xs_NoBar_NoBar : PySem.W.mroIn K C_NoBar (.ref C_NoBar) = some true)
    (xs_NoBar_EverError : PySem.W.mroIn K C_NoBar (.ref C_EverError) = some true)
    (xs_NoBar_NoFormula : PySem.W.mroIn K C_NoBar (.ref C_NoFormula) = some false)
    (xs_NoBar_NoChart : PySem.W.mroIn K C_NoBar (.ref C_NoChart) = some false)
    (xs_NoBar_NoStep : PySem.W.mroIn K C_NoBar (.ref C_NoStep) = some false)
    (xs_NoBar_NoLine : PySem.W.mroIn K C_NoBar (.ref C_NoLine) = some false)
    (xs_NoBar_NoName : PySem.W.mroIn K C_NoBar (.ref C_NoName) = some false)
    (xs_NoBar_NotShut : PySem.W.mroIn K C_NoBar (.ref C_NotShut) = some false)
    (xs_NoBar_NoFrame : PySem.W.mroIn K C_NoBar (.ref C_NoFrame) = some false)
    (xs_NoBar_NoFence : PySem.W.mroIn K C_NoBar (.ref C_NoFence) = some false)
    (xs_NoBar_NoMachine : PySem.W.mroIn K C_NoBar (.ref C_NoMachine) = some false)
    (xs_NoBar_NothingLeft : PySem.W.mroIn K C_NoBar (.ref C_NothingLeft) = some false)
    (xs_NoBar_TooMany : PySem.W.mroIn K C_NoBar (.ref C_TooMany) = some false)
    (b_ValueError : PySem.W.nsIn K mainGlobals "ValueError" = some none)
    (ne_ : [C_NoBar, C_EverError, C_NoFormula, C_NoChart, C_NoStep, C_NoLine, C_NoName, C_NotShut, C_NoFrame, C_NoFence, C_NoMachine, C_NothingLeft, C_TooMany].Nodup)
    (l_sign_for : K.lookup f_sign_for = some ⟨oc_sign_for, od_sign_for, .func (PySem.W.fnOf "sign_for" "sign_for" (defArgs s_sign_for) (defBody s_sign_for) (defScope s_sign_for) .none kV_sign_for dc_sign_for pm_sign_for an_sign_for cd_sign_for ct_sign_for), sl_sign_for⟩)
    (c_sign_for : PySem.W.codeIn K cd_sign_for "sign_for" = true)
    (k_sign_for : PySem.W.keepIn K (.ref f_sign_for) = true)
    (l_shown_bar : K.lookup f_shown_bar = some ⟨oc_shown_bar, od_shown_bar, .func (PySem.W.fnOf "shown_bar" "shown_bar" (defArgs s_shown_bar) (defBody s_shown_bar) (defScope s_shown_bar) .none kV_shown_bar dc_shown_bar pm_shown_bar an_shown_bar cd_shown_bar ct_shown_bar), sl_shown_bar⟩)
    (c_shown_bar : PySem.W.codeIn K cd_shown_bar "shown_bar" = true)
    (k_shown_bar : PySem.W.keepIn K (.ref f_shown_bar) = true)
    (l_read_bar : K.lookup f_read_bar = some ⟨oc_read_bar, od_read_bar, .func (PySem.W.fnOf "read_bar" "read_bar" (defArgs s_read_bar) (defBody s_read_bar) (defScope s_read_bar) .none kV_read_bar dc_read_bar pm_read_bar an_read_bar cd_read_bar ct_read_bar), sl_read_bar⟩)
    (c_read_bar : PySem.W.codeIn K cd_read_bar "read_bar" = true)
    (k_read_bar : PySem.W.keepIn K (.ref f_read_bar) = true)
    (l__law_cell_at : K.lookup f__law_cell_at = some ⟨oc__law_cell_at, od__law_cell_at, .func (PySem.W.fnOf "_law_cell_at" "_law_cell_at" (defArgs s__law_cell_at) (defBody s__law_cell_at) (defScope s__law_cell_at) .none kV__law_cell_at dc__law_cell_at pm__law_cell_at an__law_cell_at cd__law_cell_at ct__law_cell_at), sl__law_cell_at⟩)
    (c__law_cell_at : PySem.W.codeIn K cd__law_cell_at "_law_cell_at" = true)
    (k__law_cell_at : PySem.W.keepIn K (.ref f__law_cell_at) = true)
    (l__law_signs : K.lookup f__law_signs = some ⟨oc__law_signs, od__law_signs, .func (PySem.W.fnOf "_law_signs" "_law_signs" (defArgs s__law_signs) (defBody s__law_signs) (defScope s__law_signs) .none kV__law_signs dc__law_signs pm__law_signs an__law_signs cd__law_signs ct__law_signs), sl__law_signs⟩)
    (c__law_signs : PySem.W.codeIn K cd__law_signs "_law_signs" = true)
    (k__law_signs : PySem.W.keepIn K (.ref f__law_signs) = true)
    (l__law_spoilt : K.lookup f__law_spoilt = some ⟨oc__law_spoilt, od__law_spoilt, .func (PySem.W.fnOf "_law_spoilt" "_law_spoilt" (defArgs s__law_spoilt) (defBody s__law_spoilt) (defScope s__law_spoilt) .none kV__law_spoilt dc__law_spoilt pm__law_spoilt an__law_spoilt cd__law_spoilt ct__law_spoilt), sl__law_spoilt⟩)
    (c__law_spoilt : PySem.W.codeIn K cd__law_spoilt "_law_spoilt" = true)
    (k__law_spoilt : PySem.W.keepIn K (.ref f__law_spoilt) = true)
    (l__law_bar_of : K.lookup f__law_bar_of = some ⟨oc__law_bar_of, od__law_bar_of, .func (PySem.W.fnOf "_law_bar_of" "_law_bar_of" (defArgs s__law_bar_of) (defBody s__law_bar_of) (defScope s__law_bar_of) .none kV__law_bar_of dc__law_bar_of pm__law_bar_of an__law_bar_of cd__law_bar_of ct__law_bar_of), sl__law_bar_of⟩)
    (c__law_bar_of : PySem.W.codeIn K cd__law_bar_of "_law_bar_of" = true)
    (k__law_bar_of : PySem.W.keepIn K (.ref f__law_bar_of) = true)
    (l__law_read : K.lookup f__law_read = some ⟨oc__law_read, od__law_read, .func (PySem.W.fnOf "_law_read" "_law_read" (defArgs s__law_read) (defBody s__law_read) (defScope s__law_read) .none kV__law_read dc__law_read pm__law_read an__law_read cd__law_read ct__law_read), sl__law_read⟩)
    (c__law_read : PySem.W.codeIn K cd__law_read "_law_read" = true)
    (k__law_read : PySem.W.keepIn K (.ref f__law_read) = true)
    (l__law_refused_alone : K.lookup f__law_refused_alone = some ⟨oc__law_refused_alone, od__law_refused_alone, .func (PySem.W.fnOf "_law_refused_alone" "_law_refused_alone" (defArgs s__law_refused_alone) (defBody s__law_refused_alone) (defScope s__law_refused_alone) .none kV__law_refused_alone dc__law_refused_alone pm__law_refused_alone an__law_refused_alone cd__law_refused_alone ct__law_refused_alone), sl__law_refused_alone⟩)
    (c__law_refused_alone : PySem.W.codeIn K cd__law_refused_alone "_law_refused_alone" = true)
    (k__law_refused_alone : PySem.W.keepIn K (.ref f__law_refused_alone) = true)
    (l__law_told : K.lookup f__law_told = some ⟨oc__law_told, od__law_told, .func (PySem.W.fnOf "_law_told" "_law_told" (defArgs s__law_told) (defBody s__law_told) (defScope s__law_told) .none kV__law_told dc__law_told pm__law_told an__law_told cd__law_told ct__law_told), sl__law_told⟩)
    (c__law_told : PySem.W.codeIn K cd__law_told "_law_told" = true)
    (k__law_told : PySem.W.keepIn K (.ref f__law_told) = true)
    (l_law : K.lookup f_law = some ⟨oc_law, od_law, .func (PySem.W.fnOf "law" "law" (defArgs s_law) (defBody s_law) (defScope s_law) .none kV_law dc_law pm_law an_law cd_law ct_law), sl_law⟩)
    (c_law : PySem.W.codeIn K cd_law "law" = true)
    (k_law : PySem.W.keepIn K (.ref f_law) = true)
    (hn_ : PySem.W.specialIn K (.builtin "object.__class__") "__get__" = some (some (.builtin "getset_descriptor.__get__")))
    (htk_ : PySem.W.takesIn K (.builtin "object.__class__") = some true)
    (b_len : PySem.W.nsIn K mainGlobals "len" = some none)
    (b_range : PySem.W.nsIn K mainGlobals "range" = some none)
    (b_isinstance : PySem.W.nsIn K mainGlobals "isinstance" = some none)
    (b_int : PySem.W.nsIn K mainGlobals "int" = some none)
    (b_bool : PySem.W.nsIn K mainGlobals "bool" = some none)
    (b_str : PySem.W.nsIn K mainGlobals "str" = some none)
    (b_list : PySem.W.nsIn K mainGlobals "list" = some none)
    (b_tuple : PySem.W.nsIn K mainGlobals "tuple" = some none)
    (b_dict : PySem.W.nsIn K mainGlobals "dict" = some none)
    (b_set : PySem.W.nsIn K mainGlobals "set" = some none)
    (b_sorted : PySem.W.nsIn K mainGlobals "sorted" = some none)
    (b_max : PySem.W.nsIn K mainGlobals "max" = some none)
    (b_min : PySem.W.nsIn K mainGlobals "min" = some none)
    (b_sum : PySem.W.nsIn K mainGlobals "sum" = some none)
    (b_any : PySem.W.nsIn K mainGlobals "any" = some none)
    (b_all : PySem.W.nsIn K mainGlobals "all" = some none)
    (b_abs : PySem.W.nsIn K mainGlobals "abs" = some none)
    (b_reversed : PySem.W.nsIn K mainGlobals "reversed" = some none)
    (b_enumerate : PySem.W.nsIn K mainGlobals "enumerate" = some none)
    (b_zip : PySem.W.nsIn K mainGlobals "zip" = some none)
    (g_LONGEST : PySem.W.nsIn K mainGlobals "LONGEST" = some (some (.int 6 tk_LONGEST)))
    : ∃ t : Ad, Txt K mg t := by
  refine ⟨⟨f_sign_for, PySem.W.fnOf "sign_for" "sign_for" (defArgs s_sign_for) (defBody s_sign_for) (defScope s_sign_for) .none kV_sign_for dc_sign_for pm_sign_for an_sign_for cd_sign_for ct_sign_for, f_shown_bar, PySem.W.fnOf "shown_bar" "shown_bar" (defArgs s_shown_bar) (defBody s_shown_bar) (defScope s_shown_bar) .none kV_shown_bar dc_shown_bar pm_shown_bar an_shown_bar cd_shown_bar ct_shown_bar, f_read_bar, PySem.W.fnOf "read_bar" "read_bar" (defArgs s_read_bar) (defBody s_read_bar) (defScope s_read_bar) .none kV_read_bar dc_read_bar pm_read_bar an_read_bar cd_read_bar ct_read_bar, f__law_cell_at, PySem.W.fnOf "_law_cell_at" "_law_cell_at" (defArgs s__law_cell_at) (defBody s__law_cell_at) (defScope s__law_cell_at) .none kV__law_cell_at dc__law_cell_at pm__law_cell_at an__law_cell_at cd__law_cell_at ct__law_cell_at, f__law_signs, PySem.W.fnOf "_law_signs" "_law_signs" (defArgs s__law_signs) (defBody s__law_signs) (defScope s__law_signs) .none kV__law_signs dc__law_signs pm__law_signs an__law_signs cd__law_signs ct__law_signs, f__law_spoilt, PySem.W.fnOf "_law_spoilt" "_law_spoilt" (defArgs s__law_spoilt) (defBody s__law_spoilt) (defScope s__law_spoilt) .none kV__law_spoilt dc__law_spoilt pm__law_spoilt an__law_spoilt cd__law_spoilt ct__law_spoilt, f__law_bar_of, PySem.W.fnOf "_law_bar_of" "_law_bar_of" (defArgs s__law_bar_of) (defBody s__law_bar_of) (defScope s__law_bar_of) .none kV__law_bar_of dc__law_bar_of pm__law_bar_of an__law_bar_of cd__law_bar_of ct__law_bar_of, f__law_read, PySem.W.fnOf "_law_read" "_law_read" (defArgs s__law_read) (defBody s__law_read) (defScope s__law_read) .none kV__law_read dc__law_read pm__law_read an__law_read cd__law_read ct__law_read, f__law_refused_alone, PySem.W.fnOf "_law_refused_alone" "_law_refused_alone" (defArgs s__law_refused_alone) (defBody s__law_refused_alone) (defScope s__law_refused_alone) .none kV__law_refused_alone dc__law_refused_alone pm__law_refused_alone an__law_refused_alone cd__law_refused_alone ct__law_refused_alone, f__law_told, PySem.W.fnOf "_law_told" "_law_told" (defArgs s__law_told) (defBody s__law_told) (defScope s__law_told) .none kV__law_told dc__law_told pm__law_told an__law_told cd__law_told ct__law_told, f_law, PySem.W.fnOf "law" "law" (defArgs s_law) (defBody s_law) (defScope s_law) .none kV_law dc_law pm_law an_law cd_law ct_law, C_NoBar, C_EverError, C_NoFormula, C_NoChart, C_NoStep, C_NoLine, C_NoName, C_NotShut, C_NoFrame, C_NoFence, C_NoMachine, C_NothingLeft, C_TooMany⟩, ?_⟩
  exact {
    F_sign_for := fun_mk (st := s_sign_for) l_sign_for c_sign_for k_sign_for,
    b_sign_for := (fun_mk (st := s_sign_for) l_sign_for c_sign_for k_sign_for).binds (ps := ["bar", "lamp"]) fun _ _ _ _ _ _ us hl => match us, hl with | [_, _], _ => rfl,
    m_sign_for := PySem.W.mg_of X G a_sign_for,
    F_shown_bar := fun_mk (st := s_shown_bar) l_shown_bar c_shown_bar k_shown_bar,
    b_shown_bar := (fun_mk (st := s_shown_bar) l_shown_bar c_shown_bar k_shown_bar).binds (ps := ["many", "bar"]) fun _ _ _ _ _ _ us hl => match us, hl with | [_, _], _ => rfl,
    m_shown_bar := PySem.W.mg_of X G a_shown_bar,
    F_read_bar := fun_mk (st := s_read_bar) l_read_bar c_read_bar k_read_bar,
    b_read_bar := (fun_mk (st := s_read_bar) l_read_bar c_read_bar k_read_bar).binds (ps := ["text"]) fun _ _ _ _ _ _ us hl => match us, hl with | [_], _ => rfl,
    m_read_bar := PySem.W.mg_of X G a_read_bar,
    F__law_cell_at := fun_mk (st := s__law_cell_at) l__law_cell_at c__law_cell_at k__law_cell_at,
    b__law_cell_at := (fun_mk (st := s__law_cell_at) l__law_cell_at c__law_cell_at k__law_cell_at).binds (ps := ["_law_script", "_law_k"]) fun _ _ _ _ _ _ us hl => match us, hl with | [_, _], _ => rfl,
    m__law_cell_at := PySem.W.mg_of X G a__law_cell_at,
    F__law_signs := fun_mk (st := s__law_signs) l__law_signs c__law_signs k__law_signs,
    b__law_signs := (fun_mk (st := s__law_signs) l__law_signs c__law_signs k__law_signs).binds (ps := ["_law_cell", "_law_size"]) fun _ _ _ _ _ _ us hl => match us, hl with | [_, _], _ => rfl,
    m__law_signs := PySem.W.mg_of X G a__law_signs,
    F__law_spoilt := fun_mk (st := s__law_spoilt) l__law_spoilt c__law_spoilt k__law_spoilt,
    b__law_spoilt := (fun_mk (st := s__law_spoilt) l__law_spoilt c__law_spoilt k__law_spoilt).binds (ps := ["_law_text", "_law_cell"]) fun _ _ _ _ _ _ us hl => match us, hl with | [_, _], _ => rfl,
    m__law_spoilt := PySem.W.mg_of X G a__law_spoilt,
    F__law_bar_of := fun_mk (st := s__law_bar_of) l__law_bar_of c__law_bar_of k__law_bar_of,
    b__law_bar_of := (fun_mk (st := s__law_bar_of) l__law_bar_of c__law_bar_of k__law_bar_of).binds (ps := ["_law_text"]) fun _ _ _ _ _ _ us hl => match us, hl with | [_], _ => rfl,
    m__law_bar_of := PySem.W.mg_of X G a__law_bar_of,
    F__law_read := fun_mk (st := s__law_read) l__law_read c__law_read k__law_read,
    b__law_read := (fun_mk (st := s__law_read) l__law_read c__law_read k__law_read).binds (ps := ["_law_text"]) fun _ _ _ _ _ _ us hl => match us, hl with | [_], _ => rfl,
    m__law_read := PySem.W.mg_of X G a__law_read,
    F__law_refused_alone := fun_mk (st := s__law_refused_alone) l__law_refused_alone c__law_refused_alone k__law_refused_alone,
    b__law_refused_alone := (fun_mk (st := s__law_refused_alone) l__law_refused_alone c__law_refused_alone k__law_refused_alone).binds (ps := ["_law_text"]) fun _ _ _ _ _ _ us hl => match us, hl with | [_], _ => rfl,
    m__law_refused_alone := PySem.W.mg_of X G a__law_refused_alone,
    F__law_told := fun_mk (st := s__law_told) l__law_told c__law_told k__law_told,
    b__law_told := (fun_mk (st := s__law_told) l__law_told c__law_told k__law_told).binds (ps := ["_law_text"]) fun _ _ _ _ _ _ us hl => match us, hl with | [_], _ => rfl,
    m__law_told := PySem.W.mg_of X G a__law_told,
    F_law := fun_mk (st := s_law) l_law c_law k_law,
    b_law := (fun_mk (st := s_law) l_law c_law k_law).binds (ps := ["_law_script"]) fun _ _ _ _ _ _ us hl => match us, hl with | [_], _ => rfl,
    m_law := PySem.W.mg_of X G a_law,
    b_ValueError := PySem.W.mg_none_of X G b_ValueError,
    m_NoBar := PySem.W.mg_of X G a_NoBar,
    ty_NoBar := ty_NoBar,
    cl_NoBar := ic_NoBar,
    mb_NoBar := mb_NoBar,
    m_EverError := PySem.W.mg_of X G a_EverError,
    ty_EverError := ty_EverError,
    cl_EverError := ic_EverError,
    mb_EverError := mb_EverError,
    m_NoFormula := PySem.W.mg_of X G a_NoFormula,
    ty_NoFormula := ty_NoFormula,
    cl_NoFormula := ic_NoFormula,
    mb_NoFormula := mb_NoFormula,
    m_NoChart := PySem.W.mg_of X G a_NoChart,
    ty_NoChart := ty_NoChart,
    cl_NoChart := ic_NoChart,
    mb_NoChart := mb_NoChart,
    m_NoStep := PySem.W.mg_of X G a_NoStep,
    ty_NoStep := ty_NoStep,
    cl_NoStep := ic_NoStep,
    mb_NoStep := mb_NoStep,
    m_NoLine := PySem.W.mg_of X G a_NoLine,
    ty_NoLine := ty_NoLine,
    cl_NoLine := ic_NoLine,
    mb_NoLine := mb_NoLine,
    m_NoName := PySem.W.mg_of X G a_NoName,
    ty_NoName := ty_NoName,
    cl_NoName := ic_NoName,
    mb_NoName := mb_NoName,
    m_NotShut := PySem.W.mg_of X G a_NotShut,
    ty_NotShut := ty_NotShut,
    cl_NotShut := ic_NotShut,
    mb_NotShut := mb_NotShut,
    m_NoFrame := PySem.W.mg_of X G a_NoFrame,
    ty_NoFrame := ty_NoFrame,
    cl_NoFrame := ic_NoFrame,
    mb_NoFrame := mb_NoFrame,
    m_NoFence := PySem.W.mg_of X G a_NoFence,
    ty_NoFence := ty_NoFence,
    cl_NoFence := ic_NoFence,
    mb_NoFence := mb_NoFence,
    m_NoMachine := PySem.W.mg_of X G a_NoMachine,
    ty_NoMachine := ty_NoMachine,
    cl_NoMachine := ic_NoMachine,
    mb_NoMachine := mb_NoMachine,
    m_NothingLeft := PySem.W.mg_of X G a_NothingLeft,
    ty_NothingLeft := ty_NothingLeft,
    cl_NothingLeft := ic_NothingLeft,
    mb_NothingLeft := mb_NothingLeft,
    m_TooMany := PySem.W.mg_of X G a_TooMany,
    ty_TooMany := ty_TooMany,
    cl_TooMany := ic_TooMany,
    mb_TooMany := mb_TooMany,
    q_NoBar := ⟨xo_NoBar, ic_NoBar, xg_NoBar, xh_NoBar, xc_NoBar, mb_NoBar, xm_NoBar⟩,
    v_NoBar := kit_val xv_NoBar,
    xs_NoBar_NoBar := xs_NoBar_NoBar,
    xz_NoBar_NoBar := kit_selfR _ _,
    xs_NoBar_EverError := xs_NoBar_EverError,
    xz_NoBar_EverError := kit_own (fun e => nd_ne ne_ (i := 0) (j := 1) rfl rfl (by decide) (Value.ref.inj e)) ic_EverError ty_EverError xs_NoBar_EverError,
    xs_NoBar_NoFormula := xs_NoBar_NoFormula,
    xz_NoBar_NoFormula := kit_own (fun e => nd_ne ne_ (i := 0) (j := 2) rfl rfl (by decide) (Value.ref.inj e)) ic_NoFormula ty_NoFormula xs_NoBar_NoFormula,
    xs_NoBar_NoChart := xs_NoBar_NoChart,
    xz_NoBar_NoChart := kit_own (fun e => nd_ne ne_ (i := 0) (j := 3) rfl rfl (by decide) (Value.ref.inj e)) ic_NoChart ty_NoChart xs_NoBar_NoChart,
    xs_NoBar_NoStep := xs_NoBar_NoStep,
    xz_NoBar_NoStep := kit_own (fun e => nd_ne ne_ (i := 0) (j := 4) rfl rfl (by decide) (Value.ref.inj e)) ic_NoStep ty_NoStep xs_NoBar_NoStep,
    xs_NoBar_NoLine := xs_NoBar_NoLine,
    xz_NoBar_NoLine := kit_own (fun e => nd_ne ne_ (i := 0) (j := 5) rfl rfl (by decide) (Value.ref.inj e)) ic_NoLine ty_NoLine xs_NoBar_NoLine,
    xs_NoBar_NoName := xs_NoBar_NoName,
    xz_NoBar_NoName := kit_own (fun e => nd_ne ne_ (i := 0) (j := 6) rfl rfl (by decide) (Value.ref.inj e)) ic_NoName ty_NoName xs_NoBar_NoName,
    xs_NoBar_NotShut := xs_NoBar_NotShut,
    xz_NoBar_NotShut := kit_own (fun e => nd_ne ne_ (i := 0) (j := 7) rfl rfl (by decide) (Value.ref.inj e)) ic_NotShut ty_NotShut xs_NoBar_NotShut,
    xs_NoBar_NoFrame := xs_NoBar_NoFrame,
    xz_NoBar_NoFrame := kit_own (fun e => nd_ne ne_ (i := 0) (j := 8) rfl rfl (by decide) (Value.ref.inj e)) ic_NoFrame ty_NoFrame xs_NoBar_NoFrame,
    xs_NoBar_NoFence := xs_NoBar_NoFence,
    xz_NoBar_NoFence := kit_own (fun e => nd_ne ne_ (i := 0) (j := 9) rfl rfl (by decide) (Value.ref.inj e)) ic_NoFence ty_NoFence xs_NoBar_NoFence,
    xs_NoBar_NoMachine := xs_NoBar_NoMachine,
    xz_NoBar_NoMachine := kit_own (fun e => nd_ne ne_ (i := 0) (j := 10) rfl rfl (by decide) (Value.ref.inj e)) ic_NoMachine ty_NoMachine xs_NoBar_NoMachine,
    xs_NoBar_NothingLeft := xs_NoBar_NothingLeft,
    xz_NoBar_NothingLeft := kit_own (fun e => nd_ne ne_ (i := 0) (j := 11) rfl rfl (by decide) (Value.ref.inj e)) ic_NothingLeft ty_NothingLeft xs_NoBar_NothingLeft,
    xs_NoBar_TooMany := xs_NoBar_TooMany,
    xz_NoBar_TooMany := kit_own (fun e => nd_ne ne_ (i := 0) (j := 12) rfl rfl (by decide) (Value.ref.inj e)) ic_TooMany ty_TooMany xs_NoBar_TooMany,
    bl := fun s u => .of_eq rfl,
    B := ⟨PySem.W.mg_none_of X G b_len, PySem.W.mg_none_of X G b_range, PySem.W.mg_none_of X G b_isinstance, PySem.W.mg_none_of X G b_int, PySem.W.mg_none_of X G b_bool, PySem.W.mg_none_of X G b_str, PySem.W.mg_none_of X G b_list, PySem.W.mg_none_of X G b_tuple, PySem.W.mg_none_of X G b_dict, PySem.W.mg_none_of X G b_set, PySem.W.mg_none_of X G b_sorted, PySem.W.mg_none_of X G b_max, PySem.W.mg_none_of X G b_min, PySem.W.mg_none_of X G b_sum, PySem.W.mg_none_of X G b_any, PySem.W.mg_none_of X G b_all, PySem.W.mg_none_of X G b_abs, PySem.W.mg_none_of X G b_reversed, PySem.W.mg_none_of X G b_enumerate, PySem.W.mg_none_of X G b_zip⟩,
    g_LONGEST := ⟨_, PySem.W.mg_of X G g_LONGEST, ⟨_, rfl⟩⟩ }
-- ROOM 10
-- RAISE NoBar
-- ONES read_bar
-- ENUMX read_bar
theorem and_nat (x y : Nat) : Builtin.bitAnd (x : Int) (y : Int) = ((x &&& y : Nat) : Int) := by simp [Builtin.bitAnd]
theorem not_not (x : Int) : Builtin.bitNot (Builtin.bitNot x) = x := by unfold Builtin.bitNot; omega
theorem or_nat (x y : Nat) : Builtin.bitOr (x : Int) (y : Int) = ((x ||| y : Nat) : Int) := by
  show Builtin.bitNot (Builtin.bitAnd (Builtin.bitNot x) (Builtin.bitNot y)) = _
  rw [PyProof.Rows.bitAnd_nn (by unfold Builtin.bitNot; omega) (by unfold Builtin.bitNot; omega), not_not, not_not, not_not]
  simp
theorem xor_nat (x y : Nat) : Builtin.bitXor (x : Int) (y : Int) = ((x ^^^ y : Nat) : Int) := by
  show Builtin.bitOr x y - Builtin.bitAnd x y = _
  rw [or_nat, and_nat, or_split (x + 1) x y (by omega)]
  omega

/-! ### what every law has: its promise, a cell of the script -/
def cell (ns : List Int) (k : Nat) : Int := ns.getD k 0
def spLaw (K : PySem.W.Frag) : Sp := fun vs H Q _ => ∃ (a : Addr) (ns : List Int), vs = [.ref a] ∧ SqL K H a (ns.map V.int) ∧ ns.length ≤ 63 ∧ Only H ∧ ∀ H', Q (.bl true) H'
def spCell (K : PySem.W.Frag) : Sp := fun vs H Q _ => ∃ (a : Addr) (ns : List Int) (k : Nat), vs = [.ref a, .int (k : Int)] ∧ SqL K H a (ns.map V.int) ∧ Q (.int (cell ns k)) H
section
variable {P : Program} {w : World} {K : PySem.W.Frag} {mg : Str → Option Value} {base : Heap} {t : Ad}
theorem ok_cell_at (T : Txt K mg t) : FnS P w K mg base 1 "_law_cell_at" ["_law_script", "_law_k"] (spCell K) := by
  refine ⟨_, _, T.F__law_cell_at.ok sc__law_cell_at (fun vs H Q E h => ?_) (fun cdv A outer s H vs Q E hr h => ?_), T.b__law_cell_at, T.F__law_cell_at.kp, T.m__law_cell_at⟩
  · obtain ⟨a, ns, k, rfl, _⟩ := h
    rfl
  · obtain ⟨a, ns, k, rfl, hS, q⟩ := h
    refine ⟨_, (pss_cons (ps_if (pt_cmpR op_lt (pv 1) (pe_callB call_lenG rfl T.B.len bt_len (pa_cons (pv 0) pa_nil)) (nomark _))
      (pss_one (ps_ret (pe_ix ix_seq (pv 0) (pv 1) (fun _ _ => rfl))))
      pss_nil)
      (pss_one (ps_ret pe_int))), ?_⟩
    walk_at "rd0"
    refine i_ifd (fun h => ?_) (fun h => ?_)
    · rw [List.length_map] at h
      have hk : k < ns.length := by omega
      walk_at "rd"
      refine i_ixS (j := k) (v := .int (cell ns k)) hS ?_ q
      rw [List.getElem?_map, List.getElem?_eq_getElem hk]
      simp [cell, List.getD_eq_getElem?_getD, List.getElem?_eq_getElem hk]
    · rw [List.length_map] at h
      walk_at "rd"
      have e : cell ns k = 0 := by
        simp only [cell, List.getD_eq_getElem?_getD]
        rw [List.getElem?_eq_none (by omega)]
        rfl
      rw [e] at q
      exact q
end

theorem paired_imp {α β : Type} {F G : α → β → Prop} (h : ∀ a b, F a b → G a b) : ∀ {xs : List α} {ys : List β}, Paired F xs ys → Paired G xs ys
  | _, _, .nil => .nil
  | _, _, .cons r s => .cons (h _ _ r) (paired_imp h s)
theorem paired_get {α β : Type} {F : α → β → Prop} : ∀ {xs : List α} {ys : List β} {i : Nat} {x : α}, Paired F xs ys → xs[i]? = some x → ∃ y, ys[i]? = some y ∧ F x y
  | _, _, _, _, .nil, e => by simp at e
  | _, _, 0, _, .cons r _, e => by simp at e; subst e; exact ⟨_, rfl, r⟩
  | _, _, i + 1, x, .cons _ s, e => by
    obtain ⟨u, h1, h2⟩ := paired_get (i := i) (x := x) s (by simpa using e)
    exact ⟨u, by simpa using h1, h2⟩
theorem paired_append {α β : Type} {F : α → β → Prop} : ∀ {xs xs' : List α} {ys ys' : List β}, Paired F xs ys → Paired F xs' ys' → Paired F (xs ++ xs') (ys ++ ys')
  | _, _, _, _, .nil, s => s
  | _, _, _, _, .cons r q, s => .cons r (paired_append q s)
theorem paired_take {α β : Type} {F : α → β → Prop} : ∀ {xs : List α} {ys : List β} (n : Nat), Paired F xs ys → Paired F (xs.take n) (ys.take n)
  | _, _, 0, _ => by rw [List.take_zero, List.take_zero]; exact .nil
  | _, _, _ + 1, .nil => by rw [List.take_nil, List.take_nil]; exact .nil
  | _, _, n + 1, .cons r q => by rw [List.take_succ_cons, List.take_succ_cons]; exact .cons r (paired_take n q)
theorem paired_len {α β : Type} {F : α → β → Prop} {xs : List α} {ys : List β} (h : Paired F xs ys) : xs.length = ys.length := Paired.length h
theorem get_ref {ps : List Addr} {i : Nat} {x : V} (h : (ps.map V.ref)[i]? = some x) : ∃ p, x = V.ref p ∧ ps[i]? = some p := by
  rw [List.getElem?_map] at h
  cases e : ps[i]? with
  | none => rw [e] at h; cases h
  | some p => rw [e] at h; exact ⟨p, (Option.some.inj h).symm, rfl⟩
theorem take_snoc {α : Type} {l : List α} {i : Nat} {x : α} (h : l[i]? = some x) : l.take (i + 1) = l.take i ++ [x] := by
  rw [List.take_add_one, h]; rfl

/-! ### bars in the heap -/
def BarAt (H : Hp) (p : Addr) (b : Bar) : Prop := H p = some (.tup [.int (b.1 : Int), .int (b.2 : Int)])
def ib (b : Bar) : Int × Int := ((b.1 : Int), (b.2 : Int))
theorem pairs_of {H : Hp} : ∀ {ps : List Addr} {bs : List Bar}, Paired (BarAt H) ps bs → Paired (PairAt H) ps (bs.map ib)
  | _, _, .nil => .nil
  | _, _, .cons r q => .cons r (pairs_of q)
theorem bar_ext {H H' : Hp} {ps : List Addr} {bs : List Bar} (s : Ext H H') (h : Paired (BarAt H) ps bs) : Paired (BarAt H') ps bs := paired_imp (fun p b q => s p (.tup [.int (b.1 : Int), .int (b.2 : Int)]) q (fun _ z => nomatch z)) h
theorem lit_val (s k : Nat) : Builtin.bitAnd ((s : Int) / 2 ^ ((k : Int)).toNat) 1 = if s.testBit k = true then 1 else 0 := by
  have e : ((s : Int) / 2 ^ ((k : Int)).toNat) = ((s / 2 ^ k : Nat) : Int) := by simp
  rw [e, show (1 : Int) = ((1 : Nat) : Int) from rfl, and_nat, Nat.and_one_is_mod, lit_iff]
  by_cases h : s / 2 ^ k % 2 = 1
  · rw [decide_eq_true h, if_pos rfl, h]
  · rw [decide_eq_false h, if_neg Bool.false_ne_true]
    have : s / 2 ^ k % 2 = 0 := by omega
    rw [this]; rfl
theorem lit_eq (s k : Nat) : decide (Builtin.bitAnd ((s : Int) / 2 ^ ((k : Int)).toNat) 1 = 1) = s.testBit k := by
  rw [lit_val]
  cases s.testBit k <;> rfl
theorem get_range {n i : Nat} {lo : Int} {x : V} (h : ((List.range n).map fun i : Nat => V.int (lo + (i : Int)))[i]? = some x) : i < n ∧ x = .int (lo + (i : Int)) := by
  rw [List.getElem?_map] at h
  by_cases hi : i < n
  · rw [List.getElem?_range hi] at h
    exact ⟨hi, (Option.some.inj h).symm⟩
  · rw [List.getElem?_eq_none (by rw [List.length_range]; omega)] at h
    cases h
theorem pow_small {m : Nat} (h : m ≤ 6) : (2 : Nat) ^ m ≤ 64 := Nat.le_trans (Nat.pow_le_pow_right (by decide) h) (by decide)
theorem shl_nat (m : Nat) : (1 : Int) * 2 ^ ((m : Int)).toNat = ((2 ^ m : Nat) : Int) := by
  simp
theorem or_one {f : Nat → Bool} {n : Nat} (h : f n = true) : Builtin.bitOr ((bits f n : Nat) : Int) (1 * 2 ^ ((n : Int)).toNat) = ((bits f (n + 1) : Nat) : Int) := by
  rw [shl_nat, or_nat, bits_or_one f n h]
theorem andnot_nat (x y : Nat) : Builtin.bitAnd (x : Int) (Builtin.bitNot (y : Int)) = ((x - (x &&& y) : Nat) : Int) := by
  rw [PyProof.Rows.bitAnd_not, and_nat]
  have := Nat.and_le_left (n := x) (m := y)
  omega
theorem cut_last (xs : List V) : cutV xs none (some (-1)) = xs.dropLast := by
  by_cases h : xs = []
  · subst h; rfl
  · obtain ⟨r, x, rfl⟩ := snoc_of h
    rw [cut_init, List.dropLast_concat]
theorem paired_dropLast {α β : Type} {F : α → β → Prop} {xs : List α} {ys : List β} (h : Paired F xs ys) : Paired F xs.dropLast ys.dropLast := by
  rw [List.dropLast_eq_take, List.dropLast_eq_take, ← paired_len h]
  exact paired_take _ h
def nums (l : List Nat) : List Int := l.map fun k : Nat => (k : Int)
theorem nums_inj {a b : List Nat} (h : nums a = nums b) : a = b := List.map_inj_right (f := fun k : Nat => (k : Int)) (fun x y h => Int.ofNat.inj h) |>.mp h
/-- [s for s in range(n) if p s] -/
theorem comp_range {ix : List Nat} {tc : TT} {te : TE} {σ : St} {H : Hp} {Q : VK} {n : Nat} (p : Nat → Bool) (hz : n ≤ 1000000)
    (ht : ∀ (i : Nat) (H' : Hp), i < n → Same H H' → ∀ R : Bool → Hp → Prop, (∀ H2, Same H' H2 → R (p i) H2) → tc (some (.int (i : Int)) :: subS σ ix) H' R)
    (he : ∀ (i : Nat) (H' : Hp), i < n → Same H H' → ∀ R2 : V → Hp → Prop, (∀ H3, Same H' H3 → R2 (.int (i : Int)) H3) → te (some (.int (i : Int)) :: subS σ ix) H' R2)
    (hd : ∀ (acc : Addr) (H' : Hp), H acc = none → Same H H' → H' acc = some (.lst ((nums ((List.range n).filter p)).map V.int)) → Q (.ref acc) H') : CompG (Itr 0 n) ix tc te σ Q H := by
  refine comp_by (fun i ys => ys = (nums ((List.range i).filter p)).map V.int) (wk_range 0 n H) (by rw [List.length_map, List.length_range]; exact hz) rfl ?_ ?_
  · intro i x ys acc H' hx s1 hacc ea hy _ R k
    obtain ⟨hi, rfl⟩ := get_range hx
    rw [Int.zero_add]
    rw [Int.zero_add] at k
    refine ht i H' hi s1 R fun H2 s2 => k (p i) H2 s2 (fun z => ?_) fun z R2 k2 => ?_
    · rw [filter_succ, z, if_neg Bool.false_ne_true, List.append_nil]; exact hy
    · refine he i H2 hi (s1.trans s2) R2 fun H3 s3 => k2 _ H3 s3 ?_
      rw [filter_succ, z, if_pos rfl, hy]
      unfold nums
      rw [List.map_append, List.map_append]
      rfl
  · intro acc ys H' n1 s1 e1 hy
    rw [List.length_map, List.length_range] at hy
    subst hy
    exact hd acc H' n1 s1 e1

section
variable {P : Program} {w : World} {K : PySem.W.Frag} {mg : Str → Option Value} {base : Heap} {t : Ad}
theorem lit_ne (s k : Nat) : decide (Builtin.bitAnd ((s : Int) / 2 ^ ((k : Int)).toNat) 1 ≠ 0) = s.testBit k := by
  rw [lit_val]
  cases s.testBit k <;> rfl
theorem dne (i : Int) : (!decide (i = 0)) = decide (i ≠ 0) := by simp
/-! ### texts of signs -/
def sgn (c : Nat) : Bool := c == 48 || c == 49 || c == 45
def chr (z : Str) (k : Nat) : Nat := z.cps.toList.getD k 45
def fAsk (z : Str) (k : Nat) : Bool := !(chr z k == 45)
def fLit (z : Str) (k : Nat) : Bool := chr z k == 49
def okB (z : Str) : Bool := decide (1 ≤ z.length) && decide (z.length ≤ 6) && z.cps.toList.all sgn
def barX (z : Str) : Bar := (bits (fAsk z) z.length, bits (fLit z) z.length)
theorem chr_of {z : Str} {i c : Nat} (h : z.cps[i]? = some c) : chr z i = c ∧ c ∈ z.cps.toList := by
  have e : z.cps.toList[i]? = some c := by rw [Array.getElem?_toList]; exact h
  refine ⟨?_, List.mem_of_getElem? e⟩
  unfold chr
  rw [List.getD_eq_getElem?_getD, e]
  rfl
theorem all_sgn {z : Str} (h : ∀ j c, j < z.cps.size → z.cps[j]? = some c → sgn c = true) : z.cps.toList.all sgn = true := by
  rw [List.all_eq_true]
  intro c hc
  obtain ⟨j, hj, e⟩ := List.mem_iff_getElem.mp hc
  have hj' : j < z.cps.size := by simpa using hj
  exact h j c hj' (by rw [← Array.getElem?_toList, List.getElem?_eq_getElem hj, e])
theorem in_tup : ∀ c, c < 128 → inV (.str ⟨#[c]⟩) [.str "0", .str "1", .str "-"] = sgn c := by decide +kernel
theorem in_txt : ∀ c, c < 128 → (!(Builtin.Str.occurrences "01-" ⟨#[c]⟩ 0 (Str.length "01-") 1).isEmpty) = sgn c := by decide +kernel
theorem is_dash : ∀ c, c < 128 → decide ((⟨#[c]⟩ : Str) = "-") = (c == 45) := by decide +kernel
theorem is_lit : ∀ c, c < 128 → decide ((⟨#[c]⟩ : Str) = "1") = (c == 49) := by decide +kernel
theorem repr_one : ∀ c, c < 128 → (reprText ⟨#[c]⟩).length ≤ 6 := by decide +kernel
def spRead (t : Ad) : Sp := fun vs H Q E => ∃ z : Str, vs = [.str z] ∧ Asc z ∧ z.length ≤ 1000 ∧ (okB z = false → ∀ H', Same H H' → E (.ref t.C_NoBar) none H') ∧ (okB z = true → ∀ H' p, Same H H' → BarAt H' p (barX z) → Q (.ref p) H')
theorem ok_read_bar (T : Txt K mg t) : FnS1 P w K mg base 2 "read_bar" ["text"] ((spRead t)) := by
  refine ⟨_, _, T.F_read_bar.ok1 sc_read_bar (fun vs H Q E h => ?_) (fun cdv A outer s H vs Q E hr h => ?_), T.b_read_bar, T.F_read_bar.kp, T.m_read_bar⟩
  · obtain ⟨z, rfl, ha, hz, q1, q2⟩ := h
    rfl
  obtain ⟨z, rfl, ha, hz, q1, q2⟩ := h
  refine ⟨_, (pss_cons (ps_if (PT.nox (PW.pt (pw_or (pt_cmpR op_lt (pe_callB call_lenG rfl T.B.len bt_len (pa_cons (pv 0) pa_nil)) pe_int (nomark _)) (pw_or1 (pt_cmpR op_gt (pe_callB call_lenG rfl T.B.len bt_len (pa_cons (pv 0) pa_nil)) (pe_gc rfl T.g_LONGEST) (nomark _))))))
      (pss_one (ps_raise rfl lets1 T.q_NoBar.own rfl T.m_NoBar (PA.nox (pa_cons pe_str pa_nil))))
      (PSs.nox pss_nil))
      (pss_cons (PS.nox (ss 1 sc_read_bar.nd pe_int))
      (pss_cons (PS.nox (ss 2 sc_read_bar.nd pe_int))
      (pss_cons (ps_for PassesOwn.leaving rfl (pi_enumX rfl T.B.enumerate (pv 0)) (pg_tup rfl (pgs_cons (sg 3 sc_read_bar.nd) (pgs_cons (sg 4 sc_read_bar.nd) pgs_nil)))
      (pss_cons (ps_if (PT.nox (pt_cmpR op_notinG (pv 4) (pe_tup (pa_cons pe_str (pa_cons pe_str (pa_cons pe_str pa_nil)))) (by with_unfolding_all rfl)))
      (pss_one (ps_raise rfl lets1 T.q_NoBar.own rfl T.m_NoBar (PA.nox (pa_cons (pe_joined (pj_cons (pe_fmtR (pv 4)) (pj_cons pe_str pj_nil))) pa_nil))))
      (PSs.nox pss_nil))
      (PSs.nox (pss_cons (ps_if (pt_cmpR (op_neA hr.units) (pv 4) pe_str (nomark _))
      (pss_one (ss 1 sc_read_bar.nd (pe_op op_or (pv 1) (pe_op op_shl pe_int (pv 3)))))
      pss_nil)
      (pss_one (ps_if (pt_cmpR (op_eqA hr.units) (pv 4) pe_str (nomark _))
      (pss_one (ss 2 sc_read_bar.nd (pe_op op_or (pv 2) (pe_op op_shl pe_int (pv 3)))))
      pss_nil))))))
      (PSs.nox (pss_one (ps_ret (pe_tup (pa_cons (pv 1) (pa_cons (pv 2) pa_nil)))))))))), ?_⟩
  walk_at "rd0"
  have hzs : z.length ≤ sizeLine := small (by omega)
  refine i_lenX hzs ?_
  walk_at "rd"
  refine i_ifd (fun h1 => ?_) (fun h1 => ?_)
  · refine i_ifT rfl ?_
    refine i_raise ?_
    walk_at "rd"
    exact ⟨by decide, q1 (by unfold okB; rw [decide_eq_false (by omega)]; rfl) _ (Same.refl _)⟩
  walk_at "rd"
  refine i_lenX hzs ?_
  walk_at "rd"
  refine i_ifd (fun h2 => ?_) (fun h2 => ?_)
  · refine i_raise ?_
    walk_at "rd"
    exact ⟨by decide, q1 (by unfold okB; rw [decide_eq_false (show ¬ z.length ≤ 6 by omega), Bool.and_false]; rfl) _ (Same.refl _)⟩
  walk_at "rd"
  refine seqEX (fun i σ H' => Same H H' ∧ (∀ j c, j < i → z.cps[j]? = some c → sgn c = true) ∧ ∃ v v', σ = [some (.str z), some (.int ((bits (fAsk z) i : Nat) : Int)), some (.int ((bits (fLit z) i : Nat) : Int)), v, v']) ⟨Same.refl _, fun j c hj => absurd hj (Nat.not_lt_zero _), _, _, rfl⟩ ?_ ?_
  · rintro i c T' σ H0 H' hx ⟨sm, hj, v, v', rfl⟩ s2 n2 eT
    obtain ⟨hc, hmem⟩ := chr_of hx
    have c128 := ha c hmem
    have hi : i < z.length := (Array.getElem?_eq_some_iff.mp hx).1
    refine i_gN2 eT ?_
    walk_at "rd"
    refine j_tup (Nat.le_of_ble_eq_true rfl) fun p1 H1 s1 n1 e1 => ?_
    walk_at "rd"
    refine .inr ⟨p1, _, rfl, .inr (SqT.of e1), rfl, rfl, ?_⟩
    rw [in_tup c c128, if_pos rfl]
    walk_at "rd"
    refine i_ifb (fun h3 => ?_) (fun h3 => ?_)
    · refine i_raise ?_
      walk_at "rd"
      refine ⟨_, rfl, small (by have := repr_one c c128; omega), _, rfl, small ?_, ?_⟩
      · have := repr_one c c128
        have e := len_append Str.empty (reprText ⟨#[c]⟩)
        have e0 : Str.empty.length = 0 := rfl
        omega
      walk_at "rd"
      refine ⟨_, rfl, small ?_, small ?_, ?_⟩
      · have := repr_one c c128
        have e := len_append Str.empty (reprText ⟨#[c]⟩)
        have e1 := len_append (Str.empty ++ reprText ⟨#[c]⟩) " has no place in a bar"
        have e0 : Str.empty.length = 0 := rfl
        have e2 : Str.length " has no place in a bar" = 22 := rfl
        omega
      · have := repr_one c c128
        have e := len_append Str.empty (reprText ⟨#[c]⟩)
        have e1 := len_append (Str.empty ++ reprText ⟨#[c]⟩) " has no place in a bar"
        have e0 : Str.empty.length = 0 := rfl
        have e2 : Str.length " has no place in a bar" = 22 := rfl
        omega
      walk_at "rd"
      refine ⟨Nat.le_of_ble_eq_true rfl, q1 ?_ _ (sm.trans (s2.trans s1))⟩
      have h3' : sgn c = false := by simpa using h3
      have : z.cps.toList.all sgn = false := by
        rw [List.all_eq_false]
        exact ⟨c, hmem, by rw [h3']; exact Bool.false_ne_true⟩
      unfold okB
      rw [this, Bool.and_false]
    have h3' : sgn c = true := by simpa using h3
    have nx : ∀ j d, j < i + 1 → z.cps[j]? = some d → sgn d = true := fun j d hj' hd => by
      by_cases e : j = i
      · subst e; rw [hx] at hd; cases hd; exact h3'
      · exact hj j d (by omega) hd
    have sm' := sm.trans (s2.trans s1)
    walk_at "rd"
    rw [is_dash c c128]
    have fa : fAsk z i = !(c == 45) := by unfold fAsk; rw [hc]
    have fl : fLit z i = (c == 49) := by unfold fLit; rw [hc]
    rw [← fa]
    refine i_ifb (fun h4 => ?_) (fun h4 => ?_)
    · walk_at "rd"
      rw [or_one h4]
      rw [is_lit c c128, ← fl]
      refine i_ifb (fun h5 => ?_) (fun h5 => ?_)
      · walk_at "rd"
        rw [or_one h5]
        exact ⟨sm', nx, _, _, rfl⟩
      · walk_at "rd"
        refine ⟨sm', nx, some (.int (i : Int)), some (.str ⟨#[c]⟩), ?_⟩
        rw [bits_skip _ _ h5]
        all_goals rfl
    · walk_at "rd"
      rw [is_lit c c128, ← fl]
      refine i_ifb (fun h5 => ?_) (fun h5 => ?_)
      · rw [fa] at h4
        rw [fl] at h5
        simp only [beq_iff_eq] at h5
        subst h5
        cases h4
      · walk_at "rd"
        refine ⟨sm', nx, some (.int (i : Int)), some (.str ⟨#[c]⟩), ?_⟩
        rw [bits_skip _ _ h5, bits_skip _ _ h4]
        all_goals rfl
  · rintro σ H' ⟨sm, hj, v, v', rfl⟩
    walk_at "rd"
    refine j_tup (Nat.le_of_ble_eq_true rfl) fun p1 H1 s1 n1 e1 => ?_
    refine q2 ?_ H1 p1 (sm.trans s1) e1
    unfold okB
    rw [decide_eq_true (show 1 ≤ z.length by omega), decide_eq_true (show z.length ≤ 6 by omega), all_sgn hj]
    rfl
/-! ### a bar told as signs -/
def sig (b : Bar) (k : Nat) : Str := if b.1.testBit k = true then (if b.2.testBit k = true then "1" else "0") else "-"
def spSignFor : Sp := fun vs H Q _ => ∃ (p : Addr) (b : Bar) (k : Nat), vs = [.ref p, .int (k : Int)] ∧ k ≤ 6 ∧ BarAt H p b ∧ Q (.str (sig b k)) H
theorem ok_sign_for (T : Txt K mg t) : FnS P w K mg base 1 "sign_for" ["bar", "lamp"] (spSignFor) := by
  refine ⟨_, _, T.F_sign_for.ok sc_sign_for (fun vs H Q E h => ?_) (fun cdv A outer s H vs Q E hr h => ?_), T.b_sign_for, T.F_sign_for.kp, T.m_sign_for⟩
  · obtain ⟨p, b, k, rfl, hk, hb, q⟩ := h
    rfl
  obtain ⟨p, b, k, rfl, hk, hb, q⟩ := h
  unfold sig at q
  refine ⟨_, (pss_cons (ps_if (pt_not (pt_truth (pe_op op_and (pe_op op_shr (pe_ix ix_seq (pv 0) pe_int (fun _ _ => rfl)) (pv 1)) pe_int) (fun _ => rfl)))
      (pss_one (ps_ret pe_str))
      pss_nil)
      (pss_one (ps_ret (pe_ifExp (pt_truth (pe_op op_and (pe_op op_shr (pe_ix ix_seq (pv 0) pe_int (fun _ _ => rfl)) (pv 1)) pe_int) (fun _ => rfl)) pe_str pe_str)))), ?_⟩
  walk_at "rd0"
  refine i_ixT hb (v := .int (b.1 : Int)) rfl ?_
  walk_at "rd"
  rw [dne, lit_ne]
  cases h1 : b.1.testBit k with
  | false =>
    rw [h1, if_neg Bool.false_ne_true] at q
    refine i_ifT rfl ?_
    walk_at "rd"
    exact q
  | true =>
    rw [h1, if_pos rfl] at q
    refine i_ifF rfl ?_
    walk_at "rd"
    refine i_ixT hb (v := .int (b.2 : Int)) rfl ?_
    walk_at "rd"
    rw [dne, lit_ne]
    cases h2 : b.2.testBit k with
    | false =>
      rw [h2, if_neg Bool.false_ne_true] at q
      refine i_ifF rfl ?_
      walk_at "rd"
      exact q
    | true =>
      rw [h2, if_pos rfl] at q
      refine i_ifT rfl ?_
      walk_at "rd"
      exact q
theorem sig_bar {z : Str} {k c : Nat} (h : z.cps[k]? = some c) (hs : sgn c = true) : sig (barX z) k = ⟨#[c]⟩ := by
  have hk : k < z.length := (Array.getElem?_eq_some_iff.mp h).1
  obtain ⟨hc, _⟩ := chr_of h
  unfold sig barX
  rw [testBit_bits, testBit_bits, decide_eq_true hk, Bool.true_and, Bool.true_and]
  unfold fAsk fLit
  rw [hc]
  unfold sgn at hs
  simp only [Bool.or_eq_true, beq_iff_eq] at hs
  rcases hs with (rfl | rfl) | rfl <;> rfl
theorem sigs_bar {z : Str} (ha : z.cps.toList.all sgn = true) : (List.range z.length).map (sig (barX z)) = PyProof.Rows.signs z := by
  apply List.ext_getElem?
  intro k
  unfold PyProof.Rows.signs
  rw [List.getElem?_map, List.getElem?_map]
  by_cases hk : k < z.length
  · have e : z.cps[k]? = some z.cps[k] := Array.getElem?_eq_getElem hk
    have e' : z.cps.toList[k]? = some z.cps[k] := by rw [Array.getElem?_toList]; exact e
    rw [List.getElem?_range hk, e']
    have hs := List.all_eq_true.mp ha _ (List.mem_of_getElem? e')
    show some _ = some _
    rw [sig_bar e hs]
  · rw [List.getElem?_eq_none (by rw [List.length_range]; omega), List.getElem?_eq_none (by rw [Array.length_toList]; exact Nat.not_lt.mp hk)]
    rfl
theorem joinOk_ones {l : List Str} (h : ∀ x ∈ l, x.length = 1) (hl : l.length ≤ 1000) : JoinOk "" l = true := by
  have key : ∀ (l : List Str) (a : Nat), (∀ x ∈ l, x.length = 1) → l.foldl (fun n x => n + x.length + Str.length "") a = a + l.length := by
    intro l
    induction l with
    | nil => intro a _; rfl
    | cons x l ih =>
      intro a h
      rw [List.foldl_cons, ih _ fun y hy => h y (List.mem_cons_of_mem _ hy), h x List.mem_cons_self, List.length_cons]
      have : Str.length "" = 0 := rfl
      omega
  unfold JoinOk Builtin.Str.tooLong
  rw [List.foldl_toArray, key l 0 h]
  have : ¬ (0 + l.length > sizeLine) := Nat.not_lt.mpr (small (by omega))
  rw [decide_eq_false this]
  rfl
def spShown : Sp := fun vs H Q _ => ∃ (m : Nat) (p : Addr) (z : Str), vs = [.int (m : Int), .ref p] ∧ m ≤ 6 ∧ z.length = m ∧ z.cps.toList.all sgn = true ∧ BarAt H p (barX z) ∧ ∀ H', Same H H' → Q (.str z) H'
theorem ok_shown_bar (T : Txt K mg t) : FnS P w K mg base 2 "shown_bar" ["many", "bar"] (spShown) := by
  refine ⟨_, _, T.F_shown_bar.ok sc_shown_bar (fun vs H Q E h => ?_) (fun cdv A outer s H vs Q E hr h => ?_), T.b_shown_bar, T.F_shown_bar.kp, T.m_shown_bar⟩
  · obtain ⟨m, p, z, rfl, hm, hz, ha, hb, q⟩ := h
    rfl
  obtain ⟨m, p, z, rfl, hm, hz, ha, hb, q⟩ := h
  have G_sign_for := ok_sign_for (P := P) (w := w) (base := base) T
  refine ⟨_, (pss_one (ps_ret (pe_bm PySem.F.plainAttrs_str PySem.F.slot_str_join PySem.F.type_str_join ms_join pe_str (pa_cons (pe_comp (sc := defScope s_shown_bar) (N := ["many", "bar"]) (ns := ["bar"]) (ix := [1]) rfl rfl (by decide +kernel) rfl (pi_range1 rfl T.B.range (pa_cons (pv 0) pa_nil)) (fun _ _ _ _ => pts_nil) (fun _ _ _ _ => (pe_fn G_sign_for hr (pa_cons (pv 1) (pa_cons (pv 0) pa_nil))))) pa_nil)))), ?_⟩
  walk_at "rd0"
  refine ⟨tyS, ?_⟩
  walk_at "rd"
  refine ⟨_, rfl, by omega, by omega, ?_⟩
  rw [Int.toNat_natCast]
  refine comp_by (fun i ys => ys = (List.range i).map fun k => V.str (sig (barX z) k)) (wk_range 0 m H) (by rw [List.length_map, List.length_range]; omega) rfl ?_ ?_
  · intro i x ys acc H' hx s1 hacc ea hy _ R k
    obtain ⟨hi, rfl⟩ := get_range hx
    rw [Int.zero_add]
    rw [Int.zero_add] at k
    simp only [subS, List.map_cons, List.map_nil]
    walk_at "rd"
    refine k _ H' (Same.refl _) (fun z => by cases z) fun _ R2 k2 => ?_
    walk_at "rd"
    refine ⟨p, _, i, rfl, by omega, s1 _ _ hb, ?_⟩
    refine k2 _ H' (Same.refl _) ?_
    rw [hy, List.range_succ, List.map_append]
    rfl
  intro li ys H1 n1 s1 e1 hy
  rw [List.length_map, List.length_range] at hy
  have hy' : ys = (PyProof.Rows.signs z).map V.str := by
    rw [hy, ← sigs_bar ha, List.map_map, hz]
    rfl
  subst hy'
  walk_at "rd"
  refine ⟨"", li, PyProof.Rows.signs z, rfl, rfl, SqL.of e1, joinOk_ones (fun x hx => ?_) ?_, ?_⟩
  · unfold PyProof.Rows.signs at hx
    obtain ⟨c, _, rfl⟩ := List.mem_map.mp hx
    rfl
  · unfold PyProof.Rows.signs
    rw [List.length_map, Array.length_toList]
    show z.length ≤ 1000
    omega
  have ej : Txt.join "" (PyProof.Rows.signs z) = z := by
    show Builtin.Str.glued _ _ = _
    rw [StrLaws.glued_eq_join]
    exact PyProof.Rows.join_nil_signs z
  rw [ej]
  exact q H1 s1
end
-- CUT
section
variable {P : Program} {w : World} {K : PySem.W.Frag} {mg : Str → Option Value} {base : Heap} {t : Ad}
/-! ### the law -/
theorem three (c : Int) : ∃ d, atI (Str.cps "01-").toList (c % 3) = some d ∧ sgn d = true := by
  have h : c % 3 = 0 ∨ c % 3 = 1 ∨ c % 3 = 2 := by omega
  rcases h with h | h | h <;> rw [h]
  · exact ⟨48, rfl, rfl⟩
  · exact ⟨49, rfl, rfl⟩
  · exact ⟨45, rfl, rfl⟩
theorem all_app {x y : Str} {p : Nat → Bool} (hx : x.cps.toList.all p = true) (hy : y.cps.toList.all p = true) : (x ++ y).cps.toList.all p = true := by
  show (x.cps ++ y.cps).toList.all p = true
  rw [Array.toList_append, List.all_append, hx, hy]
  rfl
theorem asc_of {z : Str} (h : z.cps.toList.all sgn = true) : Asc z := fun c hc => by
  have := List.all_eq_true.mp h c hc
  unfold sgn at this
  simp only [Bool.or_eq_true, beq_iff_eq] at this
  omega
def spSigns : Sp := fun vs H Q _ => ∃ (c : Int) (n : Nat), vs = [.int c, .int (n : Int)] ∧ n ≤ 20 ∧ ∀ z : Str, z.length = n → z.cps.toList.all sgn = true → Q (.str z) H
theorem ok_signs (T : Txt K mg t) : FnS P w K mg base 1 "_law_signs" ["_law_cell", "_law_size"] (spSigns) := by
  refine ⟨_, _, T.F__law_signs.ok sc__law_signs (fun vs H Q E h => ?_) (fun cdv A outer s H vs Q E hr h => ?_), T.b__law_signs, T.F__law_signs.kp, T.m__law_signs⟩
  · obtain ⟨c, n, rfl, hn, q⟩ := h
    rfl
  obtain ⟨c, n, rfl, hn, q⟩ := h
  refine ⟨_, (pss_cons (ss 2 sc__law_signs.nd pe_str)
      (pss_cons (ps_for PassesOwn.never rfl (pi_range1 rfl T.B.range (pa_cons (pv 1) pa_nil)) (sg 3 sc__law_signs.nd)
      (pss_cons (ss 2 sc__law_signs.nd (pe_op op_addG (pv 2) (pe_ix ix_seq pe_str (pe_op op_mod (pv 0) pe_int) (fun _ _ => rfl))))
      (pss_one (ss 0 sc__law_signs.nd (pe_op op_fdivG (pv 0) pe_int)))))
      (pss_one (ps_ret (pv 2))))), ?_⟩
  walk_at "rd0"
  refine ⟨_, rfl, by omega, by omega, ?_⟩
  rw [Int.toNat_natCast]
  refine loopR0 (n := n) (fun i σ H' => H' = H ∧ ∃ (c : Int) (z : Str) (v : Option V), z.length = i ∧ z.cps.toList.all sgn = true ∧ σ = [some (.int c), some (.int (n : Int)), some (.str z), v]) ⟨rfl, _, _, _, rfl, rfl, rfl⟩ ?_ ?_
  · rintro i σ H' hi ⟨rfl, c, z, v, hz, ha, rfl⟩
    walk_at "rd"
    obtain ⟨d, hd, hs⟩ := three c
    refine i_ixX (by decide) hd ?_
    walk_at "rd"
    have e1 : Str.length ⟨#[d]⟩ = 1 := rfl
    refine i_addS (small (by omega)) ?_
    walk_at "rd"
    refine ⟨rfl, _, _, _, ?_, all_app ha ?_, rfl⟩
    · rw [len_append, e1, hz]
    · show [d].all sgn = true
      rw [List.all_cons, hs]; rfl
  · rintro σ H' ⟨rfl, c, z, v, hz, ha, rfl⟩
    walk_at "rd"
    exact q z hz ha
def othersX : Str := "2+ _Oolxa.,;|()9~3\n\t"
theorem others_len : othersX.length = 20 := by decide
theorem others_all : ∀ k, k < 20 → ∃ d, othersX.cps.toList[k]? = some d ∧ d < 128 := by
  have h : ∀ k, k < 20 → (othersX.cps.toList[k]?).any (· < 128) = true := by decide +kernel
  intro k hk
  have := h k hk
  cases e : othersX.cps.toList[k]? with
  | none => rw [e] at this; cases this
  | some d => rw [e] at this; exact ⟨d, rfl, by simpa using this⟩
theorem asc_one {d : Nat} (h : d < 128) : Asc ⟨#[d]⟩ := fun c hc => by
  have : c = d := by simpa using hc
  omega
def spSpoilt : Sp := fun vs H Q _ => ∃ (z : Str) (c : Int), vs = [.str z, .int c] ∧ Asc z ∧ z.length ≤ 20 ∧ ∀ y : Str, Asc y → y.length ≤ 100 → Q (.str y) H
theorem ok_spoilt (T : Txt K mg t) : FnS P w K mg base 1 "_law_spoilt" ["_law_text", "_law_cell"] (spSpoilt) := by
  refine ⟨_, _, T.F__law_spoilt.ok sc__law_spoilt (fun vs H Q E h => ?_) (fun cdv A outer s H vs Q E hr h => ?_), T.b__law_spoilt, T.F__law_spoilt.kp, T.m__law_spoilt⟩
  · obtain ⟨z, c, rfl, ha, hz, q⟩ := h
    rfl
  obtain ⟨z, c, rfl, ha, hz, q⟩ := h
  have fin : ∀ (lo1 hi1 lo2 hi2 : Option Int) (d : Nat), d < 128 → Asc ((Txt.slice z lo1 hi1 ++ ⟨#[d]⟩) ++ Txt.slice z lo2 hi2) ∧ ((Txt.slice z lo1 hi1 ++ ⟨#[d]⟩) ++ Txt.slice z lo2 hi2).length ≤ 41 ∧ (Txt.slice z lo1 hi1).length + 1 ≤ 21 ∧ (Txt.slice z lo1 hi1 ++ ⟨#[d]⟩).length + (Txt.slice z lo2 hi2).length ≤ 41 := fun lo1 hi1 lo2 hi2 d hd => by
    have l1 := Txt.slice_le z lo1 hi1
    have l2 := Txt.slice_le z lo2 hi2
    have e1 : Str.length ⟨#[d]⟩ = 1 := rfl
    have a1 := len_append (Txt.slice z lo1 hi1) ⟨#[d]⟩
    have a2 := len_append (Txt.slice z lo1 hi1 ++ ⟨#[d]⟩) (Txt.slice z lo2 hi2)
    exact ⟨asc_append (asc_append (asc_slice ha _ _) (asc_one hd)) (asc_slice ha _ _), by omega, by omega, by omega⟩
  refine ⟨_, (pss_cons (ss 2 sc__law_spoilt.nd pe_str)
      (pss_cons (ss 3 sc__law_spoilt.nd (pe_op op_mod (pe_op op_fdivG (pv 1) pe_int) (pe_op op_addG (pe_callB call_lenG rfl T.B.len bt_len (pa_cons (pv 0) pa_nil)) pe_int)))
      (pss_cons (ss 4 sc__law_spoilt.nd (pe_ix ix_seq (pv 2) (pe_op op_mod (pe_op op_fdivG (pe_op op_fdivG (pv 1) pe_int) pe_int) (pe_callB call_lenG rfl T.B.len bt_len (pa_cons (pv 2) pa_nil))) (fun _ _ => rfl)))
      (pss_cons (ps_if (pt_cmpR (op_eqA hr.units) (pe_op op_mod (pv 1) pe_int) pe_int (nomark _))
      (pss_one (ps_ret (pe_op op_addG (pe_op op_addG (pe_slice sl_any (pv 0) po_none (po_some (pv 3))) (pv 4)) (pe_slice sl_any (pv 0) (po_some (pv 3)) po_none))))
      pss_nil)
      (pss_one (ps_ret (pe_op op_addG (pe_op op_addG (pe_slice sl_any (pv 0) po_none (po_some (pv 3))) (pv 4)) (pe_slice sl_any (pv 0) (po_some (pe_op op_addG (pv 3) pe_int)) po_none)))))))), ?_⟩
  walk_at "rd0"
  refine i_lenX (small (by omega)) ?_
  walk_at "rd"
  refine i_lenX (by decide) ?_
  walk_at "rd"
  obtain ⟨k, hk, hk20⟩ : ∃ k : Nat, c / 8 / 9 % ((othersX.length : Nat) : Int) = (k : Int) ∧ k < 20 := by
    rw [others_len]
    exact ⟨(c / 8 / 9 % 20).toNat, by omega, by omega⟩
  obtain ⟨d, hd, d128⟩ := others_all k hk20
  have hk' : c / 8 / 9 % ((Str.length "2+ _Oolxa.,;|()9~3\n\t" : Nat) : Int) = (k : Int) := hk
  refine i_rI (by show (0 : Int) < _; decide) ?_
  rw [hk']
  refine i_ixX (by decide) (atI_nat (show (Str.cps "2+ _Oolxa.,;|()9~3\n\t").toList[k]? = some d from hd)) ?_
  have e1 : Str.length ⟨#[d]⟩ = 1 := rfl
  walk_at "rd"
  refine i_ifd (fun h1 => ?_) (fun h1 => ?_)
  · walk_at "rd"
    refine i_slX (by omega) ?_
    walk_at "rd"
    refine i_addS (small ?_) ?_
    · have := (fin none (some (c / 8 % ((z.length : Int) + 1))) none none d d128).2.2.1
      omega
    walk_at "rd"
    refine i_slX (by omega) ?_
    walk_at "rd"
    refine i_addS (small ?_) ?_
    · have := (fin none (some (c / 8 % ((z.length : Int) + 1))) (some (c / 8 % ((z.length : Int) + 1))) none d d128).2.2.2
      omega
    have f := fin none (some (c / 8 % ((z.length : Int) + 1))) (some (c / 8 % ((z.length : Int) + 1))) none d d128
    exact q _ f.1 (Nat.le_trans f.2.1 (by decide))
  · walk_at "rd"
    refine i_slX (by omega) ?_
    walk_at "rd"
    refine i_addS (small ?_) ?_
    · have := (fin none (some (c / 8 % ((z.length : Int) + 1))) none none d d128).2.2.1
      omega
    walk_at "rd"
    refine i_slX (by omega) ?_
    walk_at "rd"
    refine i_addS (small ?_) ?_
    · have := (fin none (some (c / 8 % ((z.length : Int) + 1))) (some (c / 8 % ((z.length : Int) + 1) + 1)) none d d128).2.2.2
      omega
    have f := fin none (some (c / 8 % ((z.length : Int) + 1))) (some (c / 8 % ((z.length : Int) + 1) + 1)) none d d128
    exact q _ f.1 (Nat.le_trans f.2.1 (by decide))
def spBarOf : Sp := fun vs H Q _ => ∃ z : Str, vs = [.str z] ∧ Asc z ∧ z.length ≤ 100 ∧ (okB z = false → Q .non H) ∧ (okB z = true → ∀ H' p, Same H H' → BarAt H' p (barX z) → Q (.ref p) H')
theorem ok_bar_of (T : Txt K mg t) : FnS P w K mg base 1 "_law_bar_of" ["_law_text"] (spBarOf) := by
  refine ⟨_, _, T.F__law_bar_of.ok sc__law_bar_of (fun vs H Q E h => ?_) (fun cdv A outer s H vs Q E hr h => ?_), T.b__law_bar_of, T.F__law_bar_of.kp, T.m__law_bar_of⟩
  · obtain ⟨z, rfl, ha, hz, q1, q2⟩ := h
    rfl
  obtain ⟨z, rfl, ha, hz, q1, q2⟩ := h
  have bnd : ∀ (f : Nat → Bool) (i : Nat), i ≤ 100 → bits f i < 2 ^ 101 := fun f i hi => Nat.lt_of_lt_of_le (bits_lt f i) (Nat.pow_le_pow_right (by decide) (by omega))
  refine ⟨_, (pss_cons (ss 1 sc__law_bar_of.nd pe_int)
      (pss_cons (ss 2 sc__law_bar_of.nd pe_int)
      (pss_cons (ss 3 sc__law_bar_of.nd pe_int)
      (pss_cons (ps_for PassesOwn.never rfl (pi_seq (pv 0)) (sg 4 sc__law_bar_of.nd)
      (pss_cons (ps_if (pt_cmpR op_notinG (pv 4) pe_str (by with_unfolding_all rfl))
      (pss_one (ps_ret pe_non))
      pss_nil)
      (pss_cons (ps_if (pt_cmpR (op_neA hr.units) (pv 4) pe_str (nomark _))
      (pss_one (ss 1 sc__law_bar_of.nd (pe_op op_addG (pv 1) (pv 3))))
      pss_nil)
      (pss_cons (ps_if (pt_cmpR (op_eqA hr.units) (pv 4) pe_str (nomark _))
      (pss_one (ss 2 sc__law_bar_of.nd (pe_op op_addG (pv 2) (pv 3))))
      pss_nil)
      (pss_one (ss 3 sc__law_bar_of.nd (pe_op op_mulG (pv 3) pe_int)))))))
      (pss_cons (ps_if (PW.pt (pw_or (pt_cmpR op_lt (pe_callB call_lenG rfl T.B.len bt_len (pa_cons (pv 0) pa_nil)) pe_int (nomark _)) (pw_or1 (pt_cmpR op_gt (pe_callB call_lenG rfl T.B.len bt_len (pa_cons (pv 0) pa_nil)) pe_int (nomark _)))))
      (pss_one (ps_ret pe_non))
      pss_nil)
      (pss_one (ps_ret (pe_tup (pa_cons (pv 1) (pa_cons (pv 2) pa_nil)))))))))), ?_⟩
  walk_at "rd0"
  refine seqX (fun i σ H' => H' = H ∧ (∀ j c, j < i → z.cps[j]? = some c → sgn c = true) ∧ ∃ v, σ = [some (.str z), some (.int ((bits (fAsk z) i : Nat) : Int)), some (.int ((bits (fLit z) i : Nat) : Int)), some (.int ((2 ^ i : Nat) : Int)), v]) ⟨rfl, fun j c hj => absurd hj (Nat.not_lt_zero _), _, rfl⟩ ?_ ?_
  · rintro i c σ H' hx ⟨rfl, hj, v, rfl⟩
    obtain ⟨hc, hmem⟩ := chr_of hx
    have c128 := ha c hmem
    have fa : fAsk z i = !(c == 45) := by unfold fAsk; rw [hc]
    have fl : fLit z i = (c == 49) := by unfold fLit; rw [hc]
    have e2 : ((2 ^ i : Nat) : Int) * 2 = ((2 ^ (i + 1) : Nat) : Int) := by rw [Nat.pow_succ]; omega
    walk_at "rd"
    refine .inl ⟨_, _, rfl, rfl, ?_⟩
    rw [in_txt c c128]
    dsimp only
    walk_at "rd"
    refine i_ifb (fun h3 => ?_) (fun h3 => ?_)
    · walk_at "rd"
      refine q1 ?_
      have h3' : sgn c = false := by simpa using h3
      have : z.cps.toList.all sgn = false := by
        rw [List.all_eq_false]
        exact ⟨c, hmem, by rw [h3']; exact Bool.false_ne_true⟩
      unfold okB
      rw [this, Bool.and_false]
    have h3' : sgn c = true := by simpa using h3
    have nx : ∀ j d, j < i + 1 → z.cps[j]? = some d → sgn d = true := fun j d hj' hd => by
      by_cases e : j = i
      · subst e; rw [hx] at hd; cases hd; exact h3'
      · exact hj j d (by omega) hd
    walk_at "rd"
    rw [is_dash c c128, ← fa]
    refine i_ifb (fun h4 => ?_) (fun h4 => ?_)
    · walk_at "rd"
      rw [is_lit c c128, ← fl]
      refine i_ifb (fun h5 => ?_) (fun h5 => ?_)
      · walk_at "rd"
        refine i_mulI (.inr ⟨by decide, by decide⟩) ?_
        walk_at "rd"
        refine ⟨rfl, nx, some (.str ⟨#[c]⟩), ?_⟩
        rw [bits_add _ _ h4, bits_add _ _ h5, ← e2]
        rfl
      · walk_at "rd"
        refine i_mulI (.inr ⟨by decide, by decide⟩) ?_
        walk_at "rd"
        refine ⟨rfl, nx, some (.str ⟨#[c]⟩), ?_⟩
        rw [bits_add _ _ h4, bits_skip _ _ h5, ← e2]
        rfl
    · walk_at "rd"
      rw [is_lit c c128, ← fl]
      refine i_ifb (fun h5 => ?_) (fun h5 => ?_)
      · rw [fa] at h4
        rw [fl] at h5
        simp only [beq_iff_eq] at h5
        subst h5
        cases h4
      · walk_at "rd"
        refine i_mulI (.inr ⟨by decide, by decide⟩) ?_
        walk_at "rd"
        refine ⟨rfl, nx, some (.str ⟨#[c]⟩), ?_⟩
        rw [bits_skip _ _ h4, bits_skip _ _ h5, ← e2]
  · rintro σ H' ⟨rfl, hj, v, rfl⟩
    have hall := all_sgn hj
    have hzs : z.length ≤ sizeLine := small (by omega)
    walk_at "rd"
    refine i_lenX hzs ?_
    walk_at "rd"
    refine i_ifd (fun h1 => ?_) (fun h1 => ?_)
    · refine i_ifT rfl ?_
      walk_at "rd"
      exact q1 (by unfold okB; rw [decide_eq_false (show ¬ 1 ≤ z.length by omega)]; rfl)
    walk_at "rd"
    refine i_lenX hzs ?_
    walk_at "rd"
    refine i_ifd (fun h2 => ?_) (fun h2 => ?_)
    · walk_at "rd"
      exact q1 (by unfold okB; rw [decide_eq_false (show ¬ z.length ≤ 6 by omega), Bool.and_false]; rfl)
    walk_at "rd"
    refine j_tup (Nat.le_of_ble_eq_true rfl) fun p1 H1 s1 n1 e1 => ?_
    refine q2 ?_ H1 p1 s1 e1
    unfold okB
    rw [decide_eq_true (show 1 ≤ z.length by omega), decide_eq_true (show z.length ≤ 6 by omega), hall]
    rfl
def spLRead : Sp := fun vs H Q _ => ∃ z : Str, vs = [.str z] ∧ Asc z ∧ z.length ≤ 100 ∧ (okB z = false → ∀ H', Same H H' → Q .non H') ∧ (okB z = true → ∀ H' p, Same H H' → BarAt H' p (barX z) → Q (.ref p) H')
theorem ok_read (T : Txt K mg t) : FnS P w K mg base 3 "_law_read" ["_law_text"] (spLRead) := by
  refine ⟨_, _, T.F__law_read.ok sc__law_read (fun vs H Q E h => ?_) (fun cdv A outer s H vs Q E hr h => ?_), T.b__law_read, T.F__law_read.kp, T.m__law_read⟩
  · obtain ⟨z, rfl, ha, hz, q1, q2⟩ := h
    rfl
  obtain ⟨z, rfl, ha, hz, q1, q2⟩ := h
  have G_read_bar := ok_read_bar (P := P) (w := w) (base := base) T
  refine ⟨_, (pss_cons (ps_try (psx_set (i := 1) sc__law_read.nd rfl (.inl rfl) (pex_fn G_read_bar hr (pa_cons (pv 0) pa_nil)))
      (ph_exc ⟨rfl, T.m_NoBar, T.ty_NoBar, T.cl_NoBar, T.mb_NoBar, by decide⟩ (fun _ _ _ _ _ _ => (pss_one (ps_ret pe_non)))
      ph_nil))
      (pss_one (ps_ret (pv 1)))), ?_⟩
  walk_at "rd0"
  refine i_trySet ?_
  refine i_fnX ?_
  walk_at "rd"
  refine ⟨z, rfl, ha, by omega, fun h H1 s1 => ⟨_, rfl, ?_⟩, fun h H1 p s1 hb => ?_⟩
  · refine i_handT T.xs_NoBar_NoBar ?_
    walk_at "rd"
    exact q1 h H1 s1
  · (try dsimp only [List.set_cons_succ, List.set_cons_zero])
    walk_at "rd"
    exact q2 h H1 p s1 hb
def spAlone : Sp := fun vs H Q _ => ∃ z : Str, vs = [.str z] ∧ Asc z ∧ z.length ≤ 100 ∧ okB z = false ∧ ∀ H', Same H H' → Q (.bl true) H'
theorem ok_refused_alone (T : Txt K mg t) : FnS P w K mg base 3 "_law_refused_alone" ["_law_text"] (spAlone) := by
  refine ⟨_, _, T.F__law_refused_alone.ok sc__law_refused_alone (fun vs H Q E h => ?_) (fun cdv A outer s H vs Q E hr h => ?_), T.b__law_refused_alone, T.F__law_refused_alone.kp, T.m__law_refused_alone⟩
  · obtain ⟨z, rfl, ha, hz, hk, q⟩ := h
    rfl
  obtain ⟨z, rfl, ha, hz, hk, q⟩ := h
  have G_read_bar := ok_read_bar (P := P) (w := w) (base := base) T
  refine ⟨_, (pss_cons (ps_try (psx_expr (pex_fn G_read_bar hr (pa_cons (pv 0) pa_nil)))
      (ph_excAs (i := 1) ⟨rfl, T.m_EverError, T.ty_EverError, T.cl_EverError, T.mb_EverError, by decide⟩ sc__law_refused_alone.nd rfl rfl (fun ea oe C pn h1 h2 h3 h4 hx => (pss_cons (ps_if (pt_truthK (K := K) (by rfl) (pe_callB (call_isiX hx h1 h2 h3 h4) (by rfl) T.B.isinstance bt_isinstance (pa_cons (pv 1) (pa_cons (pe_tup (pa_cons (pe_glob (v := .ref t.C_NoFormula) (by rfl) T.m_NoFormula rfl) (pa_cons (pe_glob (v := .ref t.C_NoChart) (by rfl) T.m_NoChart rfl) (pa_cons (pe_glob (v := .ref t.C_NoStep) (by rfl) T.m_NoStep rfl) (pa_cons (pe_glob (v := .ref t.C_NoLine) (by rfl) T.m_NoLine rfl) (pa_cons (pe_glob (v := .ref t.C_NoName) (by rfl) T.m_NoName rfl) (pa_cons (pe_glob (v := .ref t.C_NotShut) (by rfl) T.m_NotShut rfl) pa_nil))))))) pa_nil))) (fun _ => rfl))
      (pss_one (ps_ret pe_bl))
      pss_nil)
      (pss_cons (ps_if (pt_truthK (K := K) (by rfl) (pe_callB (call_isiX hx h1 h2 h3 h4) (by rfl) T.B.isinstance bt_isinstance (pa_cons (pv 1) (pa_cons (pe_tup (pa_cons (pe_glob (v := .ref t.C_NoFrame) (by rfl) T.m_NoFrame rfl) (pa_cons (pe_glob (v := .ref t.C_NoFence) (by rfl) T.m_NoFence rfl) (pa_cons (pe_glob (v := .ref t.C_NoMachine) (by rfl) T.m_NoMachine rfl) (pa_cons (pe_glob (v := .ref t.C_NothingLeft) (by rfl) T.m_NothingLeft rfl) (pa_cons (pe_glob (v := .ref t.C_TooMany) (by rfl) T.m_TooMany rfl) pa_nil)))))) pa_nil))) (fun _ => rfl))
      (pss_one (ps_ret pe_bl))
      pss_nil)
      (pss_one (ps_ret (pe_and (pe_callB (call_isiX hx h1 h2 h3 h4) (by rfl) T.B.isinstance bt_isinstance (pa_cons (pv 1) (pa_cons (pe_glob (v := .ref t.C_NoBar) (by rfl) T.m_NoBar rfl) pa_nil))) (pe_one (pe_callB (call_isiX hx h1 h2 h3 h4) (by rfl) T.B.isinstance bt_isinstance (pa_cons (pv 1) (pa_cons (pe_bltn (v := .ty "ValueError") (by rfl) T.b_ValueError (by decide +kernel) rfl) pa_nil))))))))))
      ph_nil))
      (pss_one (ps_ret pe_bl))), ?_⟩
  walk_at "rd0"
  refine i_tryX ?_
  refine i_fnX ?_
  walk_at "rd"
  refine ⟨z, rfl, ha, by omega, fun _ H1 s1 => ⟨_, rfl, ?_⟩, fun h => by rw [hk] at h; cases h⟩
  refine i_handT T.xs_NoBar_EverError ?_
  refine i_as T.q_NoBar fun ea => ?_
  (try dsimp only [List.set_cons_succ, List.set_cons_zero])
  walk_at "rd"
  refine j_tup (Nat.le_of_ble_eq_true rfl) fun p1 H2 s2 n2 e2 => ?_
  walk_at "rd"
  refine i_isiXN (cs := [t.C_NoFormula, t.C_NoChart, t.C_NoStep, t.C_NoLine, t.C_NoName, t.C_NotShut]) e2 (fun d hd => ?_) ?_
  · simp only [List.mem_cons, List.not_mem_nil, or_false] at hd
    rcases hd with rfl | rfl | rfl | rfl | rfl | rfl
    all_goals first | exact T.xz_NoBar_NoFormula | exact T.xz_NoBar_NoChart | exact T.xz_NoBar_NoStep | exact T.xz_NoBar_NoLine | exact T.xz_NoBar_NoName | exact T.xz_NoBar_NotShut
  walk_at "rd"
  refine i_ifF rfl ?_
  walk_at "rd"
  refine j_tup (Nat.le_of_ble_eq_true rfl) fun p2 H3 s3 n3 e3 => ?_
  walk_at "rd"
  refine i_isiXN (cs := [t.C_NoFrame, t.C_NoFence, t.C_NoMachine, t.C_NothingLeft, t.C_TooMany]) e3 (fun d hd => ?_) ?_
  · simp only [List.mem_cons, List.not_mem_nil, or_false] at hd
    rcases hd with rfl | rfl | rfl | rfl | rfl
    all_goals first | exact T.xz_NoBar_NoFrame | exact T.xz_NoBar_NoFence | exact T.xz_NoBar_NoMachine | exact T.xz_NoBar_NothingLeft | exact T.xz_NoBar_TooMany
  walk_at "rd"
  refine i_ifF rfl ?_
  walk_at "rd"
  refine i_isiXC T.xz_NoBar_NoBar ?_
  walk_at "rd"
  refine i_ifT rfl ?_
  walk_at "rd"
  refine i_isiXT T.v_NoBar ?_
  exact q H3 (s1.trans (s2.trans s3))
def spTold : Sp := fun vs H Q _ => ∃ z : Str, vs = [.str z] ∧ Asc z ∧ z.length ≤ 100 ∧ ∀ H', Same H H' → Q (.bl true) H'
theorem ok_told (T : Txt K mg t) : FnS P w K mg base 4 "_law_told" ["_law_text"] (spTold) := by
  refine ⟨_, _, T.F__law_told.ok sc__law_told (fun vs H Q E h => ?_) (fun cdv A outer s H vs Q E hr h => ?_), T.b__law_told, T.F__law_told.kp, T.m__law_told⟩
  · obtain ⟨z, rfl, ha, hz, q⟩ := h
    rfl
  obtain ⟨z, rfl, ha, hz, q⟩ := h
  have G__law_bar_of := ok_bar_of (P := P) (w := w) (base := base) T
  have G__law_read := ok_read (P := P) (w := w) (base := base) T
  have G__law_refused_alone := ok_refused_alone (P := P) (w := w) (base := base) T
  refine ⟨_, (pss_cons (ss 1 sc__law_told.nd (pe_fn G__law_bar_of hr (pa_cons (pv 0) pa_nil)))
      (pss_cons (ss 2 sc__law_told.nd (pe_fn G__law_read hr (pa_cons (pv 0) pa_nil)))
      (pss_cons (ps_if (pt_cmpR op_isN (pv 1) pe_non (nomark _))
      (pss_one (ps_ret (pe_and (pe_cmpR op_isN (pv 2) pe_non (nomark _)) (pe_one (pe_fn G__law_refused_alone hr (pa_cons (pv 0) pa_nil))))))
      pss_nil)
      (pss_cons (ps_if (PW.pt (pw_or (pt_not (pt_truth (pe_callB call_isi rfl T.B.isinstance bt_isinstance (pa_cons (pv 2) (pa_cons (pe_bltn (v := .ty "tuple") rfl T.B.tuple bt_tuple rfl) pa_nil))) (fun _ => rfl))) (pw_or1 (pt_cmpR (op_neA hr.units) (pe_callB call_lenG rfl T.B.len bt_len (pa_cons (pv 2) pa_nil)) pe_int (nomark _)))))
      (pss_one (ps_ret pe_bl))
      pss_nil)
      (pss_cons (ps_for PassesOwn.never rfl (pi_seq (pv 2)) (sg 3 sc__law_told.nd)
      (pss_one (ps_if (PW.pt (pw_or (pt_not (pt_truth (pe_callB call_isi rfl T.B.isinstance bt_isinstance (pa_cons (pv 3) (pa_cons (pe_bltn (v := .ty "int") rfl T.B.int bt_int rfl) pa_nil))) (fun _ => rfl))) (pw_or1 (pt_truth (pe_callB call_isi rfl T.B.isinstance bt_isinstance (pa_cons (pv 3) (pa_cons (pe_bltn (v := .ty "bool") rfl T.B.bool bt_bool rfl) pa_nil))) (fun _ => rfl)))))
      (pss_one (ps_ret pe_bl))
      pss_nil)))
      (pss_one (ps_ret (pe_cmpR (op_eqA hr.units) (pv 2) (pv 1) (nomark _))))))))), ?_⟩
  walk_at "rd0"
  refine ⟨z, rfl, ha, hz, fun hk => ?_, fun hk H1 p1 s1 hb1 => ?_⟩
  · walk_at "rd"
    refine ⟨z, rfl, ha, hz, fun _ H2 s2 => ?_, fun h => by rw [hk] at h; cases h⟩
    walk_at "rd"
    refine ⟨rfl, ?_⟩
    walk_at "rd"
    refine i_ifT rfl ?_
    walk_at "rd"
    refine ⟨rfl, ?_⟩
    walk_at "rd"
    refine i_ifT rfl ?_
    walk_at "rd"
    exact ⟨z, rfl, ha, hz, hk, fun H3 s3 => q H3 (s2.trans s3)⟩
  · walk_at "rd"
    refine ⟨z, rfl, ha, hz, fun h => (by rw [hk] at h; cases h), fun _ H2 p2 s2 hb2 => ?_⟩
    have t2 : H2 p2 = some (.tup [.int ((barX z).1 : Int), .int ((barX z).2 : Int)]) := hb2
    walk_at "rd"
    refine ⟨rfl, ?_⟩
    walk_at "rd"
    refine i_ifF rfl ?_
    walk_at "rd"
    refine i_ifF rfl ?_
    walk_at "rd"
    refine i_ifF rfl ?_
    walk_at "rd"
    refine seqT (xs := [.int ((barX z).1 : Int), .int ((barX z).2 : Int)]) (fun i σ H' => H' = H2 ∧ ∃ v, σ = [some (.str z), some (.ref p1), some (.ref p2), v]) ⟨rfl, _, rfl⟩ (fun i σ H' _ hp => by obtain ⟨rfl, _⟩ := hp; exact SqT.of t2) ?_ ?_
    · rintro i x σ H' hx ⟨rfl, v, rfl⟩
      obtain ⟨n, rfl⟩ : ∃ n : Int, x = .int n := by
        match i, hx with
        | 0, hx => exact ⟨_, (Option.some.inj hx).symm⟩
        | 1, hx => exact ⟨_, (Option.some.inj hx).symm⟩
      walk_at "rd"
      refine i_ifF rfl ?_
      walk_at "rd"
      refine i_ifF rfl ?_
      walk_at "rd"
      exact ⟨rfl, _, rfl⟩
    · rintro σ H' ⟨rfl, v, rfl⟩
      walk_at "rd"
      refine i_eqPP (k := ib (barX z)) (k' := ib (barX z)) t2 (s2 _ _ hb1) ?_
      rw [decide_eq_true rfl]
      exact q H' (s1.trans s2)
theorem ok_law (T : Txt K mg t) : FnOk P w K mg base CX0 10 t.f_law t.d_law ["_law_script"] (spLaw K) := by
  refine T.F_law.ok sc_law (fun vs H Q E h => ?_) (fun cdv A outer s H vs Q E hr h => ?_)
  · obtain ⟨a, ns, rfl, _⟩ := h
    rfl
  obtain ⟨sc, ns, rfl, hS, h63, hO, q⟩ := h
  have G__law_cell_at := ok_cell_at (P := P) (w := w) (base := base) T
  have G__law_signs := ok_signs (P := P) (w := w) (base := base) T
  have G__law_bar_of := ok_bar_of (P := P) (w := w) (base := base) T
  have G_shown_bar := ok_shown_bar (P := P) (w := w) (base := base) T
  have G__law_told := ok_told (P := P) (w := w) (base := base) T
  have G__law_spoilt := ok_spoilt (P := P) (w := w) (base := base) T
  refine ⟨_, (pss_cons (ss 1 sc_law.nd (pe_fn G__law_cell_at hr (pa_cons (pv 0) (pa_cons pe_int pa_nil))))
      (pss_cons (ss 2 sc_law.nd (pe_fn G__law_signs hr (pa_cons (pe_fn G__law_cell_at hr (pa_cons (pv 0) (pa_cons pe_int pa_nil))) (pa_cons (pe_op op_addG pe_int (pe_op op_mod (pv 1) pe_int)) pa_nil))))
      (pss_cons (ss 3 sc_law.nd (pe_fn G__law_bar_of hr (pa_cons (pv 2) pa_nil)))
      (pss_cons (ss 4 sc_law.nd (pe_fn G_shown_bar hr (pa_cons (pe_op op_addG pe_int (pe_op op_mod (pv 1) pe_int)) (pa_cons (pv 3) pa_nil))))
      (pss_cons (ps_if (PW.pt (pw_or (pt_not (pt_truth (pe_callB call_isi rfl T.B.isinstance bt_isinstance (pa_cons (pv 4) (pa_cons (pe_bltn (v := .ty "str") rfl T.B.str bt_str rfl) pa_nil))) (fun _ => rfl))) (pw_or (pt_cmpR (op_neA hr.units) (pv 4) (pv 2) (nomark _)) (pw_or1 (pt_not (pt_truth (pe_fn G__law_told hr (pa_cons (pv 2) pa_nil)) (fun _ => rfl)))))))
      (pss_one (ps_ret pe_bl))
      pss_nil)
      (pss_cons (ss 5 sc_law.nd (pe_fn G__law_signs hr (pa_cons (pe_fn G__law_cell_at hr (pa_cons (pv 0) (pa_cons pe_int pa_nil))) (pa_cons (pe_op op_mod (pe_fn G__law_cell_at hr (pa_cons (pv 0) (pa_cons pe_int pa_nil))) pe_int) pa_nil))))
      (pss_cons (ps_if (pt_cmpR (op_eqA hr.units) (pe_op op_mod (pe_op op_fdivG (pv 1) pe_int) pe_int) pe_int (nomark _))
      (pss_one (ss 5 sc_law.nd (pe_fn G__law_spoilt hr (pa_cons (pv 5) (pa_cons (pe_fn G__law_cell_at hr (pa_cons (pv 0) (pa_cons pe_int pa_nil))) pa_nil)))))
      pss_nil)
      (pss_one (ps_ret (pe_and (pe_fn G__law_told hr (pa_cons (pv 5) pa_nil)) (pe_one (pe_fn G__law_told hr (pa_cons (pv 2) pa_nil))))))))))))), ?_⟩
  walk_at "rd0"
  refine ⟨sc, ns, 0, rfl, hS, ?_⟩
  generalize cell ns 0 = y0
  walk_at "rd"
  refine ⟨sc, ns, 1, rfl, hS, ?_⟩
  obtain ⟨m, hm, hm6, hm1⟩ : ∃ m : Nat, 1 + y0 % 6 = (m : Int) ∧ m ≤ 6 ∧ 1 ≤ m := ⟨(1 + y0 % 6).toNat, by omega, by omega, by omega⟩
  walk_at "rd"
  rw [hm]
  refine ⟨_, m, rfl, by omega, fun z hz ha => ?_⟩
  have hA := asc_of ha
  have hk : okB z = true := by
    unfold okB
    rw [decide_eq_true (show 1 ≤ z.length by omega), decide_eq_true (show z.length ≤ 6 by omega), ha]
    rfl
  walk_at "rd"
  refine ⟨z, rfl, hA, by omega, fun h => (by rw [hk] at h; cases h), fun _ H1 p1 s1 hb1 => ?_⟩
  walk_at "rd"
  rw [hm]
  refine ⟨m, p1, z, rfl, hm6, hz, ha, hb1, fun H2 s2 => ?_⟩
  walk_at "rd"
  refine i_ifF rfl ?_
  walk_at "rd"
  refine i_ifF (by simp) ?_
  walk_at "rd"
  refine ⟨z, rfl, hA, by omega, fun H3 s3 => ?_⟩
  walk_at "rd"
  refine i_ifF rfl ?_
  have sA := s1.trans (s2.trans s3)
  walk_at "rd"
  refine ⟨sc, ns, 2, rfl, sA.seq hS, ?_⟩
  walk_at "rd"
  refine ⟨sc, ns, 3, rfl, sA.seq hS, ?_⟩
  walk_at "rd"
  obtain ⟨n, hn, hn8⟩ : ∃ n : Nat, cell ns 3 % 9 = (n : Int) ∧ n ≤ 8 := ⟨(cell ns 3 % 9).toNat, by omega, by omega⟩
  rw [hn]
  refine ⟨_, n, rfl, by omega, fun y hy hay => ?_⟩
  have hAy := asc_of hay
  walk_at "rd"
  refine i_ifd (fun h1 => ?_) (fun h1 => ?_)
  · walk_at "rd"
    refine ⟨sc, ns, 4, rfl, sA.seq hS, ?_⟩
    walk_at "rd"
    refine ⟨y, _, rfl, hAy, by omega, fun y' hAy' hy' => ?_⟩
    walk_at "rd"
    refine ⟨y', rfl, hAy', hy', fun H4 s4 => ?_⟩
    walk_at "rd"
    refine i_ifT rfl ?_
    walk_at "rd"
    exact ⟨z, rfl, hA, by omega, fun H5 s5 => q H5⟩
  · walk_at "rd"
    refine ⟨y, rfl, hAy, by omega, fun H4 s4 => ?_⟩
    walk_at "rd"
    refine i_ifT rfl ?_
    walk_at "rd"
    exact ⟨z, rfl, hA, by omega, fun H5 s5 => q H5⟩
end

end LW
open PySem PySem.W PyProof.Rows
set_option maxRecDepth 100000 in
set_option maxHeartbeats 0 in
theorem PySem.Challenge.cw_evernever_k25_bars_as_signs_holds : PySem.Challenge.rw_evernever_k25_bars_as_signs.Holds := by
  w_on; o_law; k_head; (case hw => w_witness2)
  k_fill
  refine L2.walk_ofK (l := PySem.Challenge.rw_evernever_k25_bars_as_signs) (n := 63) (k := 10) (x := "_law_script") (CX := L2.CX0) (sp := LW.spLaw) rfl (by decide) rfl ⟨rfl, by decide, by decide⟩ (fun w h Y => PySem.W.kIn_of Y) ?F ?S ?C
  case F =>
    intro w mg fa h KX G hmg
    have T : ∃ t, LW.Txt (L2.KOf KX) mg t := by
      dsimp only [L2.KOf]
      refine' LW.txt_mk KX G ?a_sign_for ?a_shown_bar ?a_read_bar ?a__law_cell_at ?a__law_signs ?a__law_spoilt ?a__law_bar_of ?a__law_read ?a__law_refused_alone ?a__law_told ?a_law ?a_NoBar ?a_EverError ?a_NoFormula ?a_NoChart ?a_NoStep ?a_NoLine ?a_NoName ?a_NotShut ?a_NoFrame ?a_NoFence ?a_NoMachine ?a_NothingLeft ?a_TooMany ?ic_NoBar ?ty_NoBar ?mb_NoBar ?ic_EverError ?ty_EverError ?mb_EverError ?ic_NoFormula ?ty_NoFormula ?mb_NoFormula ?ic_NoChart ?ty_NoChart ?mb_NoChart ?ic_NoStep ?ty_NoStep ?mb_NoStep ?ic_NoLine ?ty_NoLine ?mb_NoLine ?ic_NoName ?ty_NoName ?mb_NoName ?ic_NotShut ?ty_NotShut ?mb_NotShut ?ic_NoFrame ?ty_NoFrame ?mb_NoFrame ?ic_NoFence ?ty_NoFence ?mb_NoFence ?ic_NoMachine ?ty_NoMachine ?mb_NoMachine ?ic_NothingLeft ?ty_NothingLeft ?mb_NothingLeft ?ic_TooMany ?ty_TooMany ?mb_TooMany ?xo_NoBar ?xg_NoBar ?xh_NoBar ?xc_NoBar ?xm_NoBar ?xv_NoBar ?xs_NoBar_NoBar ?xs_NoBar_EverError ?xs_NoBar_NoFormula ?xs_NoBar_NoChart ?xs_NoBar_NoStep ?xs_NoBar_NoLine ?xs_NoBar_NoName ?xs_NoBar_NotShut ?xs_NoBar_NoFrame ?xs_NoBar_NoFence ?xs_NoBar_NoMachine ?xs_NoBar_NothingLeft ?xs_NoBar_TooMany ?b_ValueError ?ne_ ?l_sign_for ?c_sign_for ?k_sign_for ?l_shown_bar ?c_shown_bar ?k_shown_bar ?l_read_bar ?c_read_bar ?k_read_bar ?l__law_cell_at ?c__law_cell_at ?k__law_cell_at ?l__law_signs ?c__law_signs ?k__law_signs ?l__law_spoilt ?c__law_spoilt ?k__law_spoilt ?l__law_bar_of ?c__law_bar_of ?k__law_bar_of ?l__law_read ?c__law_read ?k__law_read ?l__law_refused_alone ?c__law_refused_alone ?k__law_refused_alone ?l__law_told ?c__law_told ?k__law_told ?l_law ?c_law ?k_law ?hn_ ?htk_ ?b_len ?b_range ?b_isinstance ?b_int ?b_bool ?b_str ?b_list ?b_tuple ?b_dict ?b_set ?b_sorted ?b_max ?b_min ?b_sum ?b_any ?b_all ?b_abs ?b_reversed ?b_enumerate ?b_zip ?g_LONGEST
      (case a_sign_for => k_is)
      (case a_shown_bar => k_is)
      (case a_read_bar => k_is)
      (case a__law_cell_at => k_is)
      (case a__law_signs => k_is)
      (case a__law_spoilt => k_is)
      (case a__law_bar_of => k_is)
      (case a__law_read => k_is)
      (case a__law_refused_alone => k_is)
      (case a__law_told => k_is)
      (case a_law => k_is)
      (case a_NoBar => k_is)
      (case a_EverError => k_is)
      (case a_NoFormula => k_is)
      (case a_NoChart => k_is)
      (case a_NoStep => k_is)
      (case a_NoLine => k_is)
      (case a_NoName => k_is)
      (case a_NotShut => k_is)
      (case a_NoFrame => k_is)
      (case a_NoFence => k_is)
      (case a_NoMachine => k_is)
      (case a_NothingLeft => k_is)
      (case a_TooMany => k_is)
      (case ic_NoBar => k_is)
      (case ty_NoBar => k_is)
      (case mb_NoBar => k_is)
      (case ic_EverError => k_is)
      (case ty_EverError => k_is)
      (case mb_EverError => k_is)
      (case ic_NoFormula => k_is)
      (case ty_NoFormula => k_is)
      (case mb_NoFormula => k_is)
      (case ic_NoChart => k_is)
      (case ty_NoChart => k_is)
      (case mb_NoChart => k_is)
      (case ic_NoStep => k_is)
      (case ty_NoStep => k_is)
      (case mb_NoStep => k_is)
      (case ic_NoLine => k_is)
      (case ty_NoLine => k_is)
      (case mb_NoLine => k_is)
      (case ic_NoName => k_is)
      (case ty_NoName => k_is)
      (case mb_NoName => k_is)
      (case ic_NotShut => k_is)
      (case ty_NotShut => k_is)
      (case mb_NotShut => k_is)
      (case ic_NoFrame => k_is)
      (case ty_NoFrame => k_is)
      (case mb_NoFrame => k_is)
      (case ic_NoFence => k_is)
      (case ty_NoFence => k_is)
      (case mb_NoFence => k_is)
      (case ic_NoMachine => k_is)
      (case ty_NoMachine => k_is)
      (case mb_NoMachine => k_is)
      (case ic_NothingLeft => k_is)
      (case ty_NothingLeft => k_is)
      (case mb_NothingLeft => k_is)
      (case ic_TooMany => k_is)
      (case ty_TooMany => k_is)
      (case mb_TooMany => k_is)
      (case xo_NoBar => k_exc)
      (case xg_NoBar => k_is)
      (case xh_NoBar => k_is)
      (case xc_NoBar => k_is)
      (case xm_NoBar => k_is)
      (case xv_NoBar => k_is)
      (case xs_NoBar_NoBar => k_is)
      (case xs_NoBar_EverError => k_is)
      (case xs_NoBar_NoFormula => k_is)
      (case xs_NoBar_NoChart => k_is)
      (case xs_NoBar_NoStep => k_is)
      (case xs_NoBar_NoLine => k_is)
      (case xs_NoBar_NoName => k_is)
      (case xs_NoBar_NotShut => k_is)
      (case xs_NoBar_NoFrame => k_is)
      (case xs_NoBar_NoFence => k_is)
      (case xs_NoBar_NoMachine => k_is)
      (case xs_NoBar_NothingLeft => k_is)
      (case xs_NoBar_TooMany => k_is)
      (case b_ValueError => k_is)
      (case ne_ => decide)
      (case l_sign_for => k_is)
      (case c_sign_for => k_is)
      (case k_sign_for => k_is)
      (case l_shown_bar => k_is)
      (case c_shown_bar => k_is)
      (case k_shown_bar => k_is)
      (case l_read_bar => k_is)
      (case c_read_bar => k_is)
      (case k_read_bar => k_is)
      (case l__law_cell_at => k_is)
      (case c__law_cell_at => k_is)
      (case k__law_cell_at => k_is)
      (case l__law_signs => k_is)
      (case c__law_signs => k_is)
      (case k__law_signs => k_is)
      (case l__law_spoilt => k_is)
      (case c__law_spoilt => k_is)
      (case k__law_spoilt => k_is)
      (case l__law_bar_of => k_is)
      (case c__law_bar_of => k_is)
      (case k__law_bar_of => k_is)
      (case l__law_read => k_is)
      (case c__law_read => k_is)
      (case k__law_read => k_is)
      (case l__law_refused_alone => k_is)
      (case c__law_refused_alone => k_is)
      (case k__law_refused_alone => k_is)
      (case l__law_told => k_is)
      (case c__law_told => k_is)
      (case k__law_told => k_is)
      (case l_law => k_is)
      (case c_law => k_is)
      (case k_law => k_is)
      (case hn_ => k_is)
      (case htk_ => k_is)
      (case b_len => k_is)
      (case b_range => k_is)
      (case b_isinstance => k_is)
      (case b_int => k_is)
      (case b_bool => k_is)
      (case b_str => k_is)
      (case b_list => k_is)
      (case b_tuple => k_is)
      (case b_dict => k_is)
      (case b_set => k_is)
      (case b_sorted => k_is)
      (case b_max => k_is)
      (case b_min => k_is)
      (case b_sum => k_is)
      (case b_any => k_is)
      (case b_all => k_is)
      (case b_abs => k_is)
      (case b_reversed => k_is)
      (case b_enumerate => k_is)
      (case b_zip => k_is)
      (case g_LONGEST => k_is)
    obtain ⟨t, T⟩ := T
    have e0 := hmg.symm.trans T.m_law
    cases e0
    exact ⟨_, T.bl, fun base _ _ => LW.ok_law T⟩
  case S => exact fun K H a ns hl hO hS => ⟨a, ns, rfl, hS, hl, hO, fun _ => rfl⟩
  case C => exact fun _ _ _ _ z => z
#print axioms PySem.Challenge.cw_evernever_k25_bars_as_signs_holds
