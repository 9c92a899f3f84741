import PyProof.Rows.All
import Wide.All
import OpenK.AllK
import Wide.FinOn
import Lean
import PyProof.EqAt
import PyProof.EqKinds
import PyProof.TupleCall
import PyProof.P3Eq
import PyProof.NeKinds
import KE.KRevIter
import PyProof.EnumMake
import PyProof.EnumFor
import PyProof.Draws
import PyProof.ZipIter
import PyProof.ConsumeWalk
import PySem.Challenge.RW_evernever_k24_cover
set_option Elab.async false
set_option linter.all false
set_option maxRecDepth 100000
set_option maxHeartbeats 4000000
set_option maxRecDepth 100000
namespace L2
open PySem PySem.Spec PyProof.Rows

/-- a key: an int or a str -/
abbrev Key := Sum Int Str
def keyIs : Key → Value → Bool
  | .inl k, v => Value.isInt k v
  | .inr x, v => Value.isStrOf x v
def keyH (w : World) : Key → Int
  | .inl k => hashInt k
  | .inr x => hashStr w x
theorem keyIs_shape : ∀ {k : Key} {v : Value}, keyIs k v = true → (∃ i t, k = Sum.inl i ∧ v = Value.int i t) ∨ (∃ x t, k = Sum.inr x ∧ v = Value.str x t)
  | .inl i, v, h => by
    obtain ⟨t, e⟩ := Value.isInt_shape (k := i) (v := v) h
    exact .inl ⟨i, t, rfl, e⟩
  | .inr x, v, h => by
    obtain ⟨t, e⟩ := Value.isStrOf_shape (x := x) (v := v) h
    exact .inr ⟨x, t, rfl, e⟩
theorem key_ll (a b : Int) : decide ((Sum.inl a : Key) = Sum.inl b) = (a == b) := by
  by_cases e : a = b
  · subst e; simp
  · have h : ¬ (Sum.inl a : Key) = Sum.inl b := fun q => e (Sum.inl.inj q)
    rw [decide_eq_false h]
    exact (beq_eq_false_iff_ne.mpr e).symm
theorem key_rr (a b : Str) : decide ((Sum.inr a : Key) = Sum.inr b) = decide (a = b) := by
  by_cases e : a = b
  · subst e; simp
  · have h : ¬ (Sum.inr a : Key) = Sum.inr b := fun q => e (Sum.inr.inj q)
    rw [decide_eq_false h, decide_eq_false e]
theorem key_lr (a : Int) (b : Str) : decide ((Sum.inl a : Key) = Sum.inr b) = false := decide_eq_false (fun q => nomatch q)
theorem key_rl (a : Str) (b : Int) : decide ((Sum.inr a : Key) = Sum.inl b) = false := decide_eq_false (fun q => nomatch q)

def mixKind (prog : Program) (w : World) : PySem.KeyKind prog w Key where
  is := keyIs
  hash := keyH w
  inj := fun v a b ha hb => by
    rcases keyIs_shape ha with ⟨i, t, rfl, rfl⟩ | ⟨x, t, rfl, rfl⟩
    · rcases keyIs_shape hb with ⟨j, u, rfl, e⟩ | ⟨y, u, rfl, e⟩
      · injection e with e1 _; rw [e1]
      · exact nomatch e
    · rcases keyIs_shape hb with ⟨j, u, rfl, e⟩ | ⟨y, u, rfl, e⟩
      · exact nomatch e
      · injection e with e1 _; rw [e1]
  byValue := fun k v h => by
    rcases keyIs_shape h with ⟨i, t, rfl, rfl⟩ | ⟨x, t, rfl, rfl⟩ <;> rfl
  pyHash := fun hv h => by
    rcases keyIs_shape hv with ⟨i, t, rfl, rfl⟩ | ⟨x, t, rfl, rfl⟩
    · exact wpAny_pyHash_int h
    · exact wpAny_pyHash_str h
  eqBool := fun hu hv h => by
    rcases keyIs_shape hu with ⟨i, t, rfl, rfl⟩ | ⟨x, t, rfl, rfl⟩
    · rcases keyIs_shape hv with ⟨j, u, rfl, rfl⟩ | ⟨y, u, rfl, rfl⟩
      · rw [key_ll] at h; exact wpAny_eqBool_int h
      · rw [key_lr] at h; exact SeqAt.EqAt.int_str i t y u _ _ _ _ h
    · rcases keyIs_shape hv with ⟨j, u, rfl, rfl⟩ | ⟨y, u, rfl, rfl⟩
      · rw [key_rl] at h; exact SeqAt.EqAt.str_int x t j u _ _ _ _ h
      · rw [key_rr] at h; exact wpAny_eqBool_str h
  «strs» := fun k x t v h => by
    rcases keyIs_shape h with ⟨i, u, rfl, e⟩ | ⟨y, u, rfl, e⟩
    · exact nomatch e
    · injection e with e1 _
      subst e1
      cases v <;> rfl

end L2

namespace L2
open PySem PySem.Spec PyProof.Rows

/-- a value, without the heap -/
inductive V where
  | non | bl (b : Bool) | int (i : Int) | str (x : Str) | byt (b : Array UInt8) | flt (b : UInt64) | ref (a : Addr) | ty (n : String)
  deriving DecidableEq

def RelV : V → Value → Prop
  | .non, u => u = Value.none
  | .bl b, u => u = Value.bool b
  | .int i, u => ∃ t, u = Value.int i t
  | .str x, u => ∃ t, u = Value.str x t
  | .byt b, u => ∃ t, u = Value.bytes b t
  | .flt b, u => ∃ t, u = Value.float b t
  | .ref a, u => u = Value.ref a
  | .ty n, u => u = Value.type n

abbrev Vals : List V → List Value → Prop := Paired RelV
theorem Vals.length {xs : List V} {us : List Value} (r : Vals xs us) : xs.length = us.length := Paired.length r
theorem Vals.get : ∀ {xs : List V} {us : List Value} {i : Nat} {x : V}, Vals xs us → xs[i]? = some x → ∃ u, us[i]? = some u ∧ RelV x u
  | _, _, _, _, .nil, e => by simp at e
  | _, _, 0, _, .cons r _, e => by simp at e; subst e; exact ⟨_, rfl, r⟩
  | _, _, i + 1, x, .cons _ t, e => by
    obtain ⟨u, h1, h2⟩ := Vals.get (i := i) (x := x) t (by simpa using e)
    exact ⟨u, by simpa using h1, h2⟩
theorem Vals.append : ∀ {xs ys : List V} {us ws : List Value}, Vals xs us → Vals ys ws → Vals (xs ++ ys) (us ++ ws)
  | _, _, _, _, .nil, s => s
  | _, _, _, _, .cons r t, s => .cons r (Vals.append t s)
theorem Vals.take : ∀ {xs : List V} {us : List Value} (n : Nat), Vals xs us → Vals (xs.take n) (us.take n)
  | _, _, 0, _ => .nil
  | _, _, _ + 1, .nil => .nil
  | _, _, n + 1, .cons r t => .cons r (Vals.take n t)
theorem Vals.drop : ∀ {xs : List V} {us : List Value} (n : Nat), Vals xs us → Vals (xs.drop n) (us.drop n)
  | _, _, 0, r => r
  | _, _, _ + 1, .nil => .nil
  | _, _, n + 1, .cons _ t => Vals.drop n t
def RelO : Option V → Option Value → Prop
  | some v, some u => RelV v u
  | none, none => True
  | _, _ => False
def KV {κ : Type} : List (κ × V) → List (κ × Value) → Prop := Paired fun (p : κ × V) (q : κ × Value) => p.1 = q.1 ∧ RelV p.2 q.2

/-- a key of a dict (00_mix): an int or a text -/
def kV : Key → V
  | .inl i => .int i
  | .inr x => .str x

/-- what stands at a tracked address -/
inductive HO where
  /-- a list -/
  | lst (xs : List V)
  /-- a tuple (never changes) -/
  | tup (xs : List V)
  /-- a dict whose keys are ints and texts; one whose keys are tuples of ints and texts (the empty one is both) -/
  | dK (kvs : List (Key × V)) | dT (kvs : List (List Key × V))
  /-- a set of ints: its members, its size -/
  | set (S : Int → Bool) (n : Nat)
  /-- an instance of the class at C, its dict at dx, its attributes -/
  | ins (C dx : Addr) (fs : List (Str × V))
  /-- the dict of the instance at x -/
  | own (x : Addr)
  /-- the dict of an exception -/
  | xd (fs : List (Str × V))
  /-- a bound method, f of x -/
  | met (f x : Addr)
  /-- a range object lo, lo + 1, .. below hi -/
  | rng (lo hi : Int)
  /-- a thing that is known to the object (the script; a dict while a loop walks it): read, never written while it is so -/
  | frz (o : Obj) (u : HO)
  /-- a code object's table -/
  | tbl (ps : Array Value)
  /-- any other thing, by what is true of its one object (a def of one's own: SetO a S n := HO.ext fun h => ..) -/
  | ext (φ : Heap → Prop)

abbrev Hp := Addr → Option HO
def upd (H : Hp) (a : Addr) (o : HO) : Hp := fun b => if b = a then some o else H b
theorem upd_same {H : Hp} {a : Addr} {o : HO} : upd H a o a = some o := by unfold upd; rw [if_pos rfl]
theorem upd_ne {H : Hp} {a b : Addr} {o : HO} (h : b ≠ a) : upd H a o b = H b := by unfold upd; rw [if_neg h]
/-- two objects of different content stand apart -/
theorem ne_of {H : Hp} {a b : Addr} {o u : HO} (h : H a = some o) (h' : H b = some u) (d : o ≠ u) : a ≠ b := by
  intro e; subst e; rw [h] at h'; exact d (Option.some.inj h')
theorem ne_of_none {H : Hp} {a b : Addr} {o : HO} (h : H a = some o) (h' : H b = none) : a ≠ b := by
  intro e; subst e; rw [h] at h'; cases h'

section
variable (P : Program) (w : World)
def ObjOk (H : Hp) (h : Heap) (a : Addr) : HO → Prop
  | .lst xs => xs.length ≤ sizeLine ∧ ∃ (its : List Value) (n : Nat), Vals xs its ∧ h.get? a = some { cls := .type "list", data := .seq its.toArray n }
  | .tup xs => xs.length ≤ sizeLine ∧ ∃ its : List Value, Vals xs its ∧ IsTup h a its.toArray
  | .dK kvs => kvs.length ≤ sizeLine ∧ (a == sysModules) = false ∧ ∃ vs, KV kvs vs ∧ h.DictOf (mixKind P w) a vs
  | .dT kvs => kvs.length ≤ sizeLine ∧ (a == sysModules) = false ∧ ∃ xs : List (List Key × Addr × Value),
      Paired (fun (p : List Key × V) (q : List Key × Addr × Value) => p.1 = q.1 ∧ H q.2.1 = some (.tup (p.1.map kV)) ∧ RelV p.2 q.2.2) kvs xs ∧
      ∃ o es ep, h.get? a = some o ∧ o.ExactDict ∧ o.data = .dict es ep ∧ es.toList = xs.map (entryOfKey (tupleKind (mixKind P w))) ∧ (xs.map (·.1)).Nodup
  | .set S n => h.SetOf (intKind P w) a S n
  | .ins C dx fs => H dx = some (.own a) ∧ fs.length ≤ 1000 ∧ dx ≠ a ∧ h.get? a = some (PySem.W.instObj C dx) ∧
      ∃ mA, h.Ns1 dx mA ∧ (∀ f, RelO (fs.lookup f) (mA f)) ∧ PySem.Within mA (fs.map (·.1))
  | .own _ => ∃ o, h.get? a = some o
  | .xd fs => ∃ mA, h.Ns1 a mA ∧ ∀ f, RelO (fs.lookup f) (mA f)
  | .rng lo hi => ∃ t u v, h.get? a = some { cls := .type "range", data := .fields #[.int lo t, .int hi u, .int 1 v] }
  | .frz o u => h.get? a = some o ∧ ObjOk H h a u
  | .tbl ps => h.get? a = some { cls := .none, data := .fields ps }
  | .met f x => h.get? a = some (PySem.W.methodObj (.ref f) (.ref x))
  | .ext φ => φ h ∧ (∃ o, h.get? a = some o) ∧ ∀ h1 h2 : Heap, φ h1 → (∀ o, h1.get? a = some o → h2.get? a = some o) → φ h2
/-- the abstract heap is held -/
def HOk (H : Hp) (h : Heap) : Prop := ∀ a o, H a = some o → ObjOk P w H h a o
end

section
variable {P : Program} {w : World} {H H' : Hp} {h h' : Heap} {a : Addr} {o : HO}
theorem ObjOk.lt (x : ObjOk P w H h a o) : a < h.objs.size := by
  cases o with
  | lst xs => obtain ⟨_, _, _, _, e⟩ := x; exact Heap.lt_size e
  | tup xs => obtain ⟨_, _, _, p⟩ := x; exact p.lt
  | dK kvs => obtain ⟨_, _, _, _, o, _, _, e, _⟩ := x; exact Heap.lt_size e
  | dT kvs => obtain ⟨_, _, _, _, o, _, _, e, _⟩ := x; exact Heap.lt_size e
  | set S n => obtain ⟨o, _, _, _, e, _⟩ := x; exact Heap.lt_size e
  | ins C dx fs => obtain ⟨_, _, _, e, _⟩ := x; exact Heap.lt_size e
  | own y => obtain ⟨_, e⟩ := x; exact Heap.lt_size e
  | xd fs => obtain ⟨_, ⟨_, _, _, e, _⟩, _⟩ := x; exact Heap.lt_size e
  | rng lo hi => obtain ⟨_, _, _, e⟩ := x; exact Heap.lt_size e
  | frz ob u => obtain ⟨e, _⟩ := x; exact Heap.lt_size e
  | tbl ps => exact Heap.lt_size (show h.get? a = some _ from x)
  | met f y => exact Heap.lt_size (show h.get? a = some _ from x)
  | ext φ => obtain ⟨_, ⟨_, e⟩, _⟩ := x; exact Heap.lt_size e
theorem Paired.mapP {α β : Type} {F G : α → β → Prop} : ∀ {l₁ : List α} {l₂ : List β}, Paired F l₁ l₂ → (∀ a b, F a b → G a b) → Paired G l₁ l₂
  | _, _, .nil, _ => .nil
  | _, _, .cons r t, f => .cons (f _ _ r) (Paired.mapP t f)
/-- what an object's description leans on: its own object, its own dict, the tuples -/
theorem ObjOk.stay (x : ObjOk P w H h a o) (k : ∀ b u, (b = a ∨ H b = some (.own a)) → h.get? b = some u → h'.get? b = some u)
    (ho : ∀ b, H b = some (.own a) → H' b = some (.own a)) (ht : ∀ b xs, H b = some (.tup xs) → H' b = some (.tup xs)) : ObjOk P w H' h' a o := by
  induction o with
  | lst xs => obtain ⟨z, its, n, r, e⟩ := x; exact ⟨z, its, n, r, k _ _ (.inl rfl) e⟩
  | tup xs => obtain ⟨z, its, r, ob, e, c⟩ := x; exact ⟨z, its, r, ob, k _ _ (.inl rfl) e, c⟩
  | dK kvs => obtain ⟨z, y, vs, r, ob, es, ep, e, c⟩ := x; exact ⟨z, y, vs, r, ob, es, ep, k _ _ (.inl rfl) e, c⟩
  | dT kvs =>
    obtain ⟨z, y, xs, r, ob, es, ep, e, c⟩ := x
    exact ⟨z, y, xs, Paired.mapP r fun p q z => ⟨z.1, ht _ _ z.2.1, z.2.2⟩, ob, es, ep, k _ _ (.inl rfl) e, c⟩
  | set S n => obtain ⟨ob, es, ep, t, e, c⟩ := x; exact ⟨ob, es, ep, t, k _ _ (.inl rfl) e, c⟩
  | ins C dx fs =>
    obtain ⟨d, z, ne, e, mA, ⟨od, es, ep, e2, c⟩, r⟩ := x
    exact ⟨ho _ d, z, ne, k _ _ (.inl rfl) e, mA, ⟨od, es, ep, k _ _ (.inr d) e2, c⟩, r⟩
  | own y => obtain ⟨ob, e⟩ := x; exact ⟨ob, k _ _ (.inl rfl) e⟩
  | xd fs => obtain ⟨mA, ⟨od, es, ep, e, c⟩, r⟩ := x; exact ⟨mA, ⟨od, es, ep, k _ _ (.inl rfl) e, c⟩, r⟩
  | rng lo hi => obtain ⟨t, u, v, e⟩ := x; exact ⟨t, u, v, k _ _ (.inl rfl) e⟩
  | frz ob u ih => obtain ⟨e, q⟩ := x; exact ⟨k _ _ (.inl rfl) e, ih q⟩
  | tbl ps =>
    have e : h.get? a = some { cls := .none, data := .fields ps } := x
    show h'.get? a = some { cls := .none, data := .fields ps }
    exact k a _ (.inl rfl) e
  | met f y =>
    have e : h.get? a = some (PySem.W.methodObj (.ref f) (.ref y)) := x
    show h'.get? a = some (PySem.W.methodObj (.ref f) (.ref y))
    exact k a _ (.inl rfl) e
  | ext φ => obtain ⟨p, ⟨o, e⟩, st⟩ := x; exact ⟨st _ _ p fun o q => k _ _ (.inl rfl) q, ⟨o, k _ _ (.inl rfl) e⟩, st⟩
theorem HOk.lt (x : HOk P w H h) (e : H a = some o) : a < h.objs.size := (x a o e).lt
theorem HOk.fresh (x : HOk P w H h) (e : h.objs.size ≤ a) : H a = none := by
  cases q : H a with
  | none => rfl
  | some u => exact absurd (Nat.lt_of_lt_of_le (x.lt q) e) (Nat.lt_irrefl _)
/-- every object of the heap is kept -/
theorem HOk.kept (x : HOk P w H h) (k : ∀ b u, h.get? b = some u → h'.get? b = some u) : HOk P w H h' := fun a o e =>
  (x a o e).stay (fun b u _ q => k b u q) (fun _ q => q) fun _ _ q => q
/-- a new object is laid and tracked -/
theorem HOk.laid (x : HOk P w H h) (k : ∀ b u, h.get? b = some u → h'.get? b = some u) (hp : h.objs.size ≤ a) (new : ObjOk P w (upd H a o) h' a o) : HOk P w (upd H a o) h' := fun b u e => by
  have hn := x.fresh hp
  by_cases hb : b = a
  · subst hb; rw [upd_same] at e; cases e; exact new
  · rw [upd_ne hb] at e
    exact (x b u e).stay (fun c v _ q => k c v q) (fun c q => by rw [upd_ne (ne_of_none q hn)]; exact q) fun c xs q => by rw [upd_ne (ne_of_none q hn)]; exact q
end

/-- what may be read as u: it is u, or a known u -/
def Rd (H : Hp) (a : Addr) (u : HO) : Prop := H a = some u ∨ ∃ o, H a = some (.frz o u)
theorem Rd.ok {P : Program} {w : World} {H : Hp} {h : Heap} {a : Addr} {u : HO} (r : Rd H a u) (x : HOk P w H h) : ObjOk P w H h a u := by
  rcases r with r | ⟨o, r⟩
  · exact x a u r
  · obtain ⟨_, q⟩ := x a _ r
    exact q
/-- what may be written -/
def Mut : Option HO → Prop
  | some (.lst _) => True
  | some (.dK _) => True
  | some (.dT _) => True
  | some (.set _ _) => True
  | some (.ins _ _ _) => True
  | some (.ext _) => True
  | _ => False
section
variable {P : Program} {w : World} {H : Hp} {h h' : Heap} {x e : Addr} {o' : HO}
/-- the object at e is changed: x itself, or the dict of the instance x -/
theorem HOk.write (ok : HOk P w H h) (mu : Mut (H x)) (he : e = x ∨ H e = some (.own x)) (k : ∀ b u, b ≠ e → h.get? b = some u → h'.get? b = some u) (heo : ∃ u, h'.get? e = some u)
    (new : ObjOk P w (upd H x o') h' x o') : HOk P w (upd H x o') h' := fun b u q => by
  have nown : ∀ c y, H c = some (.own y) → c ≠ x := fun c y r z => by subst z; rw [r] at mu; exact mu
  have ntup : ∀ c xs, H c = some (.tup xs) → c ≠ x := fun c xs r z => by subst z; rw [r] at mu; exact mu
  by_cases hb : b = x
  · subst hb; rw [upd_same] at q; cases q; exact new
  · rw [upd_ne hb] at q
    by_cases hbe : b = e
    · have q' : H b = some (.own x) := by
        rcases he with z | z
        · exact absurd (hbe.trans z) hb
        · rw [hbe]; exact z
      rw [q] at q'; cases q'
      obtain ⟨v, hv⟩ := heo
      exact ⟨v, by rw [hbe]; exact hv⟩
    · refine (ok b u q).stay (fun c v hc r => k c v ?_ r) (fun c r => by rw [upd_ne (nown c b r)]; exact r) fun c xs r => by rw [upd_ne (ntup c xs r)]; exact r
      rcases hc with rfl | hc
      · exact hbe
      · rintro rfl
        rcases he with z | z
        · exact nown c b hc z
        · rw [hc] at z; cases z; exact hb rfl
end

structure Un (fs ex : List Addr) (H H' : Hp) (h h' : Heap) : Prop where
  keep : ∀ b o, h.get? b = some o → H b = none → b ∉ fs → b ∉ ex → h'.get? b = some o
  slot : ∀ b o, h.get? b = some o → H b = none → b ∈ fs → b ∉ ex → ∃ sl, h'.get? b = some { o with slots := sl }
  free : ∀ b o, h.get? b = some o → H b = none → b ∉ ex → H' b = none
  there : ∀ b o, h.get? b = some o → b ∉ ex → ∃ o', h'.get? b = some o'
  tups : ∀ b xs, H b = some (.tup xs) → H' b = some (.tup xs)
  frzs : ∀ b o u, H b = some (.frz o u) → H' b = some (.frz o u)
  tbls : ∀ b ps, H b = some (.tbl ps) → ∃ more, H' b = some (.tbl (ps ++ more))
section
variable {fs fs' ex ex' : List Addr} {H H1 H2 : Hp} {h h1 h2 h' : Heap} {a x e : Addr} {o : HO}
theorem Un.any (u : Un fs ex H H1 h h1) {b : Addr} {ob : Obj} (q : h.get? b = some ob) (n : H b = none) (hx : b ∉ ex) : ∃ sl, h1.get? b = some { ob with slots := sl } := by
  by_cases hb : b ∈ fs
  · exact u.slot b ob q n hb hx
  · exact ⟨ob.slots, u.keep b ob q n hb hx⟩
theorem Un.kept (k : ∀ b u, h.get? b = some u → h'.get? b = some u) : Un fs ex H H h h' :=
  ⟨fun b ob q _ _ _ => k b ob q, fun b ob q _ _ _ => ⟨ob.slots, k b ob q⟩, fun _ _ _ n _ => n, fun b ob q _ => ⟨ob, k b ob q⟩, fun _ _ q => q, fun _ _ _ q => q, fun _ ps q => ⟨#[], by rw [q]; simp⟩⟩
theorem Un.refl : Un fs ex H H h h := Un.kept fun _ _ q => q
theorem Un.laid (k : ∀ b u, h.get? b = some u → h'.get? b = some u) (hp : h.objs.size ≤ a) (hn : H a = none) : Un fs ex H (upd H a o) h h' where
  keep := fun b u q _ _ _ => k b u q
  slot := fun b u q _ _ _ => ⟨u.slots, k b u q⟩
  free := fun b u q n _ => by rw [upd_ne (Nat.ne_of_lt (Nat.lt_of_lt_of_le (Heap.lt_size q) hp))]; exact n
  there := fun b u q _ => ⟨u, k b u q⟩
  tups := fun b xs q => by rw [upd_ne (ne_of_none q hn)]; exact q
  frzs := fun b u xs q => by rw [upd_ne (ne_of_none q hn)]; exact q
  tbls := fun b ps q => ⟨#[], by rw [upd_ne (ne_of_none q hn), q]; simp⟩
theorem Un.write (mu : Mut (H x)) (he : e = x ∨ H e = some (.own x)) (k : ∀ b u, b ≠ e → h.get? b = some u → h'.get? b = some u) (heo : ∃ u, h'.get? e = some u) : Un fs ex H (upd H x o) h h' := by
  have hx : ∀ b, H b = none → b ≠ x := fun b n z => by subst z; rw [n] at mu; exact mu
  have hb : ∀ b, H b = none → b ≠ e := fun b n z => by
    subst z
    rcases he with r | r
    · exact hx b n r
    · rw [n] at r; cases r
  have hm : ∀ b u, H b = some u → ¬ Mut (some u) → b ≠ x := fun b u q nm z => by subst z; rw [q] at mu; exact nm mu
  refine ⟨fun b u q n _ _ => k b u (hb b n) q, fun b u q n _ _ => ⟨u.slots, k b u (hb b n) q⟩, fun b u q n _ => by rw [upd_ne (hx b n)]; exact n, fun b u q _ => ?_,
    fun b xs q => by rw [upd_ne (hm b _ q fun z => z)]; exact q, fun b u xs q => by rw [upd_ne (hm b _ q fun z => z)]; exact q, fun b ps q => ⟨#[], by rw [upd_ne (hm b _ q fun z => z), q]; simp⟩⟩
  by_cases hbe : b = e
  · subst hbe; exact heo
  · exact ⟨u, k b u hbe q⟩
end

def trk (h : Heap) (H : Hp) : List Addr := (List.range h.objs.size).filter fun a => (H a).isSome
def hidT (h : Heap) (H : Hp) : Heap := PySem.W.hideAll h (trk h H)
theorem hidT_size (h : Heap) (H : Hp) : (hidT h H).objs.size = h.objs.size := PySem.W.hideAll_size _ _
theorem hidT_get {h : Heap} {H : Hp} {b : Addr} {o : Obj} (e : h.get? b = some o) (n : H b = none) : (hidT h H).get? b = some o :=
  PySem.W.hideAll_get _ e fun hm => by
    have q : (H b).isSome = true := (List.mem_filter.mp hm).2
    rw [n] at q; simp at q
theorem of_hidT {h : Heap} {H : Hp} {b : Addr} {o : Obj} (e : (hidT h H).get? b = some o) : h.get? b = some o ∧ H b = none := by
  have e' : h.get? b = some o := PySem.W.of_hideAll (trk h H) e
  refine ⟨e', ?_⟩
  cases q : H b with
  | none => rfl
  | some x =>
    have hm : b ∈ trk h H := List.mem_filter.mpr ⟨List.mem_range.mpr (Heap.lt_size e'), by simp [q]⟩
    have z : (hidT h H).get? b = none := PySem.W.hideAll_none (trk h H) hm
    rw [z] at e; cases e

def allNews (g h : Heap) (L : Addr) : List (Addr × Obj) := (List.range h.objs.size).filterMap fun a => if a = L ∨ (g.get? a).isSome = true then none else (h.get? a).map fun o => (a, o)
theorem mem_allNews {g h : Heap} {L a : Addr} {o : Obj} (h1 : a ≠ L) (h2 : g.get? a = none) (h3 : h.get? a = some o) : (a, o) ∈ allNews g h L :=
  List.mem_filterMap.mpr ⟨a, List.mem_range.mpr (Heap.lt_size h3), by simp [h1, h2, h3]⟩
theorem of_mem_allNews {g h : Heap} {L : Addr} {p : Addr × Obj} (hp : p ∈ allNews g h L) : p.1 ≠ L ∧ g.get? p.1 = none ∧ h.get? p.1 = some p.2 := by
  obtain ⟨b, _, e⟩ := List.mem_filterMap.mp hp
  split at e
  · cases e
  · rename_i hn
    cases q : h.get? b with
    | none => rw [q] at e; simp at e
    | some u =>
      rw [q] at e
      simp only [Option.map_some, Option.some.injEq] at e
      subst e
      refine ⟨fun z => hn (.inl z), ?_, q⟩
      show g.get? b = none
      cases r : g.get? b with
      | none => rfl
      | some v => exact (hn (.inr (by simp [r]))).elim
theorem news_all {g h : Heap} {L : Addr} : News g L h (allNews g h L) := fun p hp => let ⟨a, b, c⟩ := of_mem_allNews hp; ⟨c, a, b⟩
end L2

namespace L2
open PySem PySem.Spec PyProof.Rows

/-- the module's facts, over the base: the heap at the law's entry without what is tracked there -/
structure Mod (K : PySem.W.Frag) (mg : Str → Option Value) (base : Heap) : Prop where
  kin : K.In base
  glob : base.Ns mainGlobals mg
  blt : ∃ mb, base.Ns builtinsNs mb ∧ ∀ x : Str, x ≠ "__name__" → mb x = bootBuiltins x
  nolimit : base.NoLimit

/-- the context: a def's body (or a comprehension's block) running. base: fixed through the whole law; s₀, H₀: the entry; outer: the frames whose slots others may change (a def's callers); stack: all frames that run;
   ex: iterators that were made ahead of the entry and are walked here (a comprehension's); fn: the names whose cells were made at the entry (a def: all; a comprehension's block: its own); calm: not within an except suite; pn: pins that every state bears; xe: what is wanted of an exception that leaves the code -/
structure Cx where
  prog : Program
  w : World
  K : PySem.W.Frag
  mg : Str → Option Value
  base : Heap
  A : Around
  N : List Str
  s₀ : Shared
  H₀ : Hp
  env : Env
  outer : List Env
  stack : List Env
  ex : List Addr
  fn : Str → Bool
  calm : Bool
  pn : List (Addr × Obj)
  xe : Value → Shared → Prop
/-- the callers' frames -/
def frs (l : List Env) : List Addr := l.filterMap (·.frame)
abbrev Cx.fs (X : Cx) : List Addr := frs X.outer

def Vis (sc : Scope) (x : Str) : Prop := sc.names.lookup x = some .local ∨ sc.names.lookup x = some .cell ∨ sc.names.lookup x = some .free
def Loc (sc : Scope) (x : Str) : Prop := sc.names.lookup x = some .local ∨ sc.names.lookup x = some .cell
def Look (env : Env) (h : Heap) (m : Str → Option Value) (x : Str) (u : Value) : Prop :=
  (env.kindOf x = some .local ∧ m x = some u) ∨ ((env.kindOf x = some .cell ∨ env.kindOf x = some .free) ∧ ∃ c, env.cells.lookup x = some c ∧ h.IsCell c (some u))

structure Cx.Ok (X : Cx) : Prop where
  mod : Mod X.K X.mg X.base
  kind : X.env.scope.kind = .function
  glob : X.env.globals = mainGlobals
  blt : X.env.builtins = builtinsNs
  above : X.s₀.heap.objs.size ≤ X.env.locals
  inj : ∀ x y c, X.env.cells.lookup x = some c → X.env.cells.lookup y = some c → x = y
  has : ∀ x, (X.env.kindOf x = some .cell ∨ X.env.kindOf x = some .free) → ∃ c, X.env.cells.lookup x = some c
  cab : ∀ x c, X.fn x = true → X.env.cells.lookup x = some c → X.s₀.heap.objs.size ≤ c
  hd : X.calm = true → X.A.handled = none
  frames : X.A.frames = some X.stack
  stk : X.stack = X.outer ∨ (X.stack = X.env :: X.outer ∧ X.env.frame = some X.env.locals)
  exf : ∀ b ∈ X.ex, b ≠ X.env.locals ∧ ∀ x c, X.env.cells.lookup x = some c → c ≠ b
  bs : ∀ b o, X.base.get? b = some o → X.s₀.heap.get? b = some o ∧ X.H₀ b = none
  bsz : X.base.objs.size ≤ X.s₀.heap.objs.size
  noex : ∀ b o, X.base.get? b = some o → b ∉ X.ex
  exfs : ∀ b ∈ X.ex, b ∉ X.fs
  funs : X.s₀.heap.FunFrames X.base X.outer
  frf : ∀ b ∈ X.fs, X.H₀ b = none

structure Inv (X : Cx) (pins : List (Addr × Obj)) (σ : List (Option V)) (H : Hp) (s : Shared) : Prop where
  ok : X.Ok
  os : s.os = X.s₀.os
  bare : AllBare s.gens
  base : Un X.fs X.ex X.H₀ H X.s₀.heap s.heap
  loc : ∃ m, s.heap.Ns X.env.locals m ∧ ∀ (i : Nat) (x : Str) (v : V), X.N[i]? = some x → σ[i]? = some (some v) → Vis X.env.scope x → ∃ u, RelV v u ∧ Look X.env s.heap m x u
  cell : ∀ x c, X.env.cells.lookup x = some c → ∃ v, s.heap.IsCell c v
  free : H X.env.locals = none
  freeC : ∀ x c, X.env.cells.lookup x = some c → H c = none
  pin : ∀ p ∈ X.pn ++ pins, s.heap.get? p.1 = some p.2 ∧ H p.1 = none ∧ p.1 ≠ X.env.locals ∧ p.1 ∉ X.fs ∧ ∀ v, p.2.data ≠ .cell v
  hok : HOk X.prog X.w H s.heap
  len : σ.length = X.N.length

section
variable {X : Cx} {pins : List (Addr × Obj)} {σ : List (Option V)} {H H' : Hp} {s : Shared} {h' : Heap}

theorem Cx.Ok.nofr (ok : X.Ok) {b : Addr} {o : Obj} (e : X.base.get? b = some o) : b ∉ X.fs := fun hb => by
  have := (ok.funs.mem hb).1
  rw [e] at this; cases this
theorem Inv.bs (I : Inv X pins σ H s) : ∀ b o, X.base.get? b = some o → s.heap.get? b = some o ∧ H b = none := fun b o e =>
  ⟨I.base.keep b o (I.ok.bs b o e).1 (I.ok.bs b o e).2 (I.ok.nofr e) (I.ok.noex b o e), I.base.free b o (I.ok.bs b o e).1 (I.ok.bs b o e).2 (I.ok.noex b o e)⟩
theorem Inv.bk (I : Inv X pins σ H s) : ∀ b o, X.base.get? b = some o → s.heap.get? b = some o := fun b o e => (I.bs b o e).1
theorem Inv.mod (I : Inv X pins σ H s) : Mod X.K X.mg X.base := I.ok.mod
theorem Inv.kIn (I : Inv X pins σ H s) : X.K.In s.heap := I.ok.mod.kin.keeps I.bk
/-- the frame over the base: for OpenK's rules (K.In X.base is I.mod.kin) -/
theorem Inv.fr (I : Inv X pins σ H s) : ∃ m, Fr X.base X.env.locals s.heap m :=
  let ⟨m, hn, _⟩ := I.loc
  ⟨m, hn, I.bk, Nat.le_trans I.ok.bsz I.ok.above⟩
theorem Inv.lt (I : Inv X pins σ H s) : X.env.locals < s.heap.objs.size := let ⟨_, hn, _⟩ := I.loc; hn.lt
theorem Inv.sz (I : Inv X pins σ H s) : X.s₀.heap.objs.size ≤ s.heap.objs.size := Nat.le_trans I.ok.above (Nat.le_of_lt I.lt)
theorem Inv.nofs (I : Inv X pins σ H s) {a : Addr} (h : s.heap.objs.size ≤ a) : a ∉ X.fs := fun hb => by
  obtain ⟨_, o, ho, _⟩ := I.ok.funs.mem hb
  exact absurd (Nat.lt_of_lt_of_le (Heap.lt_size ho) (Nat.le_trans I.sz h)) (Nat.lt_irrefl _)
theorem Inv.cne (I : Inv X pins σ H s) : ∀ x c, X.env.cells.lookup x = some c → c ≠ X.env.locals := fun x c e z => by
  obtain ⟨v, o, ho, hd⟩ := I.cell x c e
  obtain ⟨m, ⟨o', es, ep, ho', hd', _⟩, _⟩ := I.loc
  rw [z, ho'] at ho; cases ho; rw [hd'] at hd; cases hd
theorem Inv.funs (I : Inv X pins σ H s) : s.heap.FunFrames X.base X.outer := by
  have all : ∀ (l : List Env), (∀ b ∈ frs l, b ∈ X.fs) → X.s₀.heap.FunFrames X.base l → s.heap.FunFrames X.base l := by
    intro l
    induction l with
    | nil => intro _ _; trivial
    | cons env r ih =>
      intro hs hl
      obtain ⟨hk, ⟨L, o, hf, hn, ho, hd⟩, hr⟩ := hl
      have hL : L ∈ X.fs := hs L (by unfold frs; rw [List.filterMap_cons, hf]; exact List.mem_cons_self)
      obtain ⟨sl, e⟩ := I.base.slot L o ho (I.ok.frf L hL) hL fun z => I.ok.exfs L z hL
      exact ⟨hk, ⟨L, _, hf, hn, e, hd⟩, ih (fun b hb => hs b (by unfold frs; rw [List.filterMap_cons, hf]; exact List.mem_cons_of_mem _ hb)) hr⟩
  exact all X.outer (fun _ hb => hb) I.ok.funs

/-- the frames that run, for a call -/
theorem Inv.stack (I : Inv X pins σ H s) : s.heap.FunFrames X.base X.stack := by
  rcases I.ok.stk with e | ⟨e, hf⟩
  · rw [e]; exact I.funs
  · rw [e]
    obtain ⟨m, hn, _⟩ := I.loc
    refine .cons (by rw [I.ok.kind]; decide) hf hn ?_ I.funs
    exact Heap.get?_none_of_le (Nat.le_trans I.ok.bsz I.ok.above)
theorem Inv.stkSub (I : Inv X pins σ H s) : ∀ b ∈ frs X.stack, b ∈ X.env.locals :: X.fs := fun b hb => by
  rcases I.ok.stk with e | ⟨e, hf⟩
  · rw [e] at hb; exact List.mem_cons_of_mem _ hb
  · rw [e] at hb
    unfold frs at hb
    rw [List.filterMap_cons, hf] at hb
    exact hb
theorem Inv.stkFree (I : Inv X pins σ H s) : ∀ b ∈ frs X.stack, H b = none := fun b hb => by
  rcases List.mem_cons.mp (I.stkSub b hb) with e | hb
  · rw [e]; exact I.free
  · obtain ⟨_, o, ho, _⟩ := I.ok.funs.mem hb
    exact I.base.free b o ho (I.ok.frf b hb) fun z => I.ok.exfs b z hb

/-- THE STEP: the untracked objects but the frame and the records at ch are kept (the callers' frames up to slots), the frame's map is kept, the new abstract heap is held -/
theorem Inv.step {g' : Array GenState} {t' : Nat} {d' : Drawn} {ch : List Addr} (I : Inv X pins σ H s)
    (hch : ∀ b ∈ ch, (b ∈ X.ex ∨ X.s₀.heap.objs.size ≤ b) ∧ b ≠ X.env.locals ∧ (∀ x c, X.env.cells.lookup x = some c → c ≠ b) ∧ ∀ p ∈ X.pn ++ pins, p.1 ≠ b)
    (keep : ∀ b o, b ≠ X.env.locals → b ∉ X.fs → b ∉ ch → s.heap.get? b = some o → H b = none → h'.get? b = some o)
    (slot : ∀ b o, b ≠ X.env.locals → b ∈ X.fs → b ∉ ch → s.heap.get? b = some o → H b = none → ∃ sl, h'.get? b = some { o with slots := sl }) (free : ∀ b o, b ∉ ch → s.heap.get? b = some o → H b = none → H' b = none)
    (there : ∀ b o, b ∉ ch → s.heap.get? b = some o → ∃ o', h'.get? b = some o')
    (tups : ∀ b xs, H b = some (.tup xs) → H' b = some (.tup xs)) (frzs : ∀ b o u, H b = some (.frz o u) → H' b = some (.frz o u)) (tbls : ∀ b ps, H b = some (.tbl ps) → ∃ more, H' b = some (.tbl (ps ++ more)))
    (ns : ∀ m, s.heap.Ns X.env.locals m → h'.Ns X.env.locals m) (hok : HOk X.prog X.w H' h') (hg : AllBare g') :
    Inv X pins σ H' { s with heap := h', gens := g', drawn := d', toks := t' } := by
  have neL : ∀ b o, X.s₀.heap.get? b = some o → b ≠ X.env.locals := fun b o e => Nat.ne_of_lt (Nat.lt_of_lt_of_le (Heap.lt_size e) I.ok.above)
  have neC : ∀ b o, X.s₀.heap.get? b = some o → b ∉ X.ex → b ∉ ch := fun b o e hx hb => by
    rcases (hch b hb).1 with z | z
    · exact hx z
    · exact absurd (Nat.lt_of_lt_of_le (Heap.lt_size e) z) (Nat.lt_irrefl _)
  have cellK : ∀ x c, X.env.cells.lookup x = some c → ∀ v, s.heap.IsCell c v → h'.IsCell c v := fun x c e v ⟨o, ho, hd⟩ => by
    have nch : c ∉ ch := fun z => (hch c z).2.2.1 x c e rfl
    by_cases hc : c ∈ X.fs
    · obtain ⟨sl, q⟩ := slot c o (I.cne x c e) hc nch ho (I.freeC x c e)
      exact ⟨_, q, hd⟩
    · exact ⟨o, keep c o (I.cne x c e) hc nch ho (I.freeC x c e), hd⟩
  refine ⟨I.ok, I.os, hg, ⟨fun b o e n hb hx => ?_, fun b o e n hb hx => ?_, fun b o e n hx => ?_, fun b o e hx => ?_, fun b xs e => tups b xs (I.base.tups b xs e), fun b o xs e => frzs b o xs (I.base.frzs b o xs e), fun b ps e => ?_⟩, ?_, fun x c e => ?_, ?_, fun x c e => ?_, fun p hp => ?_, hok, I.len⟩
  · exact keep b o (neL b o e) hb (neC b o e hx) (I.base.keep b o e n hb hx) (I.base.free b o e n hx)
  · obtain ⟨sl, e1⟩ := I.base.slot b o e n hb hx
    obtain ⟨sl', e2⟩ := slot b _ (neL b o e) hb (neC b o e hx) e1 (I.base.free b o e n hx)
    exact ⟨sl', e2⟩
  · obtain ⟨o', e1⟩ := I.base.there b o e hx
    exact free b o' (neC b o e hx) e1 (I.base.free b o e n hx)
  · obtain ⟨o', e1⟩ := I.base.there b o e hx
    exact there b o' (neC b o e hx) e1
  · obtain ⟨m1, e1⟩ := I.base.tbls b ps e
    obtain ⟨m2, e2⟩ := tbls b _ e1
    exact ⟨m1 ++ m2, by rw [e2, Array.append_assoc]⟩
  · obtain ⟨m, hn, hl⟩ := I.loc
    refine ⟨m, ns m hn, fun i x v e1 e2 e3 => ?_⟩
    obtain ⟨u, r, l⟩ := hl i x v e1 e2 e3
    refine ⟨u, r, ?_⟩
    rcases l with l | ⟨k, c, e, z⟩
    · exact .inl l
    · exact .inr ⟨k, c, e, cellK x c e _ z⟩
  · obtain ⟨v, z⟩ := I.cell x c e
    exact ⟨v, cellK x c e v z⟩
  · obtain ⟨m, ⟨o, _, _, ho, _⟩, _⟩ := I.loc
    exact free _ o (fun z => (hch _ z).2.1 rfl) ho I.free
  · obtain ⟨v, o, ho, hd⟩ := I.cell x c e
    exact free c o (fun z => (hch c z).2.2.1 x c e rfl) ho (I.freeC x c e)
  · obtain ⟨e, n, ne, nf, d⟩ := I.pin p hp
    have nch : p.1 ∉ ch := fun z => (hch p.1 z).2.2.2 p hp rfl
    exact ⟨keep p.1 p.2 ne nf nch e n, free p.1 p.2 nch e n, ne, nf, d⟩
/-- .. where the frame's own object is kept too -/
theorem Inv.un {t' : Nat} (I : Inv X pins σ H s) (u : Un X.fs [] H H' s.heap h') (hok : HOk X.prog X.w H' h') : Inv X pins σ H' { s with heap := h', toks := t' } := by
  obtain ⟨m, ⟨o, es, ep, ho, r⟩, _⟩ := id I.loc
  obtain ⟨sl, hL⟩ := u.any ho I.free (by simp)
  exact I.step (g' := s.gens) (d' := s.drawn) (ch := []) (fun _ z => nomatch z) (fun b o _ hb _ e n => u.keep b o e n hb (by simp)) (fun b o _ hb _ e n => u.slot b o e n hb (by simp)) (fun b o _ e n => u.free b o e n (by simp)) (fun b o _ e => u.there b o e (by simp)) u.tups u.frzs u.tbls (fun m' hm => by
    obtain ⟨o', es', ep', ho', r'⟩ := hm
    rw [ho] at ho'; cases ho'
    exact ⟨_, es', ep', hL, r'⟩) hok I.bare
/-- behind a call (or a comprehension's block): the slots of this frame may have changed too, the records at ch may have turned -/
theorem Inv.call {g' : Array GenState} {t' : Nat} {d' : Drawn} {ch : List Addr} (I : Inv X pins σ H s) (u : Un (frs X.stack) ch H H' s.heap h') (hok : HOk X.prog X.w H' h') (hg : AllBare g')
    (hch : ∀ b ∈ ch, (b ∈ X.ex ∨ X.s₀.heap.objs.size ≤ b) ∧ b ≠ X.env.locals ∧ (∀ x c, X.env.cells.lookup x = some c → c ≠ b) ∧ ∀ p ∈ X.pn ++ pins, p.1 ≠ b) :
    Inv X pins σ H' { s with heap := h', gens := g', drawn := d', toks := t' } := by
  obtain ⟨m, ⟨o, es, ep, ho, r⟩, _⟩ := id I.loc
  obtain ⟨sl, hL⟩ := u.any ho I.free fun z => (hch _ z).2.1 rfl
  exact I.step (ch := ch) hch (fun b o hL hb hc e n => u.keep b o e n (fun z => (List.mem_cons.mp (I.stkSub b z)).elim hL hb) hc) (fun b o _ _ hc e n => u.any e n hc) (fun b o hc e n => u.free b o e n hc) (fun b o hc e => u.there b o e hc) u.tups u.frzs u.tbls (fun m' hm => by
    obtain ⟨o', es', ep', ho', r'⟩ := hm
    rw [ho] at ho'; cases ho'
    exact ⟨_, es', ep', hL, r'⟩) hok hg
/-- an untracked record of ours (an iterator) has turned -/
theorem Inv.turned {t' : Nat} {it : Addr} (I : Inv X pins σ H s) (k : ∀ b o, b ≠ it → s.heap.get? b = some o → h'.get? b = some o) (hn : H it = none) (hL : it ≠ X.env.locals)
    (h1 : it ∈ X.ex ∨ X.s₀.heap.objs.size ≤ it) (h2 : ∀ x c, X.env.cells.lookup x = some c → c ≠ it) (h3 : ∀ p ∈ X.pn ++ pins, p.1 ≠ it) : Inv X pins σ H { s with heap := h', toks := t' } := by
  have nit : ∀ b u, H b = some u → b ≠ it := fun b u e z => by rw [z, hn] at e; cases e
  refine I.step (g' := s.gens) (d' := s.drawn) (ch := [it]) (fun b hb => ?_) (fun b o _ _ hc e _ => k b o (fun z => hc (by simp [z])) e) (fun b o _ _ hc e _ => ⟨o.slots, k b o (fun z => hc (by simp [z])) e⟩) (fun _ _ _ _ n => n)
    (fun b o hc e => ⟨o, k b o (fun z => hc (by simp [z])) e⟩) (fun _ _ e => e) (fun _ _ _ e => e) (fun b ps e => ⟨#[], by rw [e]; simp⟩) (fun m hm => ?_) (fun b u e => ?_) I.bare
  · have e : b = it := by simpa using hb
    subst e
    exact ⟨h1, hL, h2, h3⟩
  · obtain ⟨o, es, ep, ho, r⟩ := hm
    exact ⟨o, es, ep, k _ o (Ne.symm hL) ho, r⟩
  · refine (I.hok b u e).stay (fun c v hc q => k c v ?_ q) (fun _ q => q) fun _ _ q => q
    rcases hc with z | z
    · rw [z]; exact nit b u e
    · exact nit c _ z
theorem Inv.tok (I : Inv X pins σ H s) (t : Nat) : Inv X pins σ H { s with toks := t } := I.un (h' := s.heap) (t' := t) Un.refl I.hok
/-- all objects kept -/
theorem Inv.kept {t' : Nat} (I : Inv X pins σ H s) (k : ∀ b u, s.heap.get? b = some u → h'.get? b = some u) : Inv X pins σ H { s with heap := h', toks := t' } := I.un (Un.kept k) (I.hok.kept k)
/-- a new object laid and tracked -/
theorem Inv.laid {a : Addr} {o : HO} {t' : Nat} (I : Inv X pins σ H s) (k : ∀ b u, s.heap.get? b = some u → h'.get? b = some u) (hp : s.heap.objs.size ≤ a) (new : ObjOk X.prog X.w (upd H a o) h' a o) :
    Inv X pins σ (upd H a o) { s with heap := h', toks := t' } := I.un (Un.laid k hp (I.hok.fresh hp)) (I.hok.laid k hp new)
/-- an object written -/
theorem Inv.write {x e : Addr} {o : HO} {t' : Nat} (I : Inv X pins σ H s) (mu : Mut (H x)) (he : e = x ∨ H e = some (.own x)) (k : ∀ b u, b ≠ e → s.heap.get? b = some u → h'.get? b = some u) (heo : ∃ u, h'.get? e = some u)
    (new : ObjOk X.prog X.w (upd H x o) h' x o) : Inv X pins σ (upd H x o) { s with heap := h', toks := t' } := I.un (Un.write mu he k heo) (I.hok.write mu he k heo new)
theorem Inv.pins_of {pins' : List (Addr × Obj)} (I : Inv X pins σ H s) (h : ∀ p ∈ pins', s.heap.get? p.1 = some p.2 ∧ H p.1 = none ∧ p.1 ≠ X.env.locals ∧ p.1 ∉ X.fs ∧ ∀ v, p.2.data ≠ .cell v) : Inv X pins' σ H s :=
  ⟨I.ok, I.os, I.bare, I.base, I.loc, I.cell, I.free, I.freeC, fun p hp => (List.mem_append.mp hp).elim (fun z => I.pin p (List.mem_append_left _ z)) (h p), I.hok, I.len⟩

theorem nodup_ix {N : List Str} (hN : N.Nodup) {i j : Nat} {x : Str} (a : N[i]? = some x) (b : N[j]? = some x) : i = j := by
  obtain ⟨h1, e1⟩ := List.getElem?_eq_some_iff.mp a
  obtain ⟨h2, e2⟩ := List.getElem?_eq_some_iff.mp b
  exact (List.getElem_inj hN).mp (e1.trans e2.symm)

/-- a name is stored; what changed -/
theorem store_ok2 {M : Model} {A : Around} {E : Value → Shared → Prop} {i : Nat} {x : Str} {v : V} {u : Value} {Q : Unit → Shared → Prop} (I : Inv X pins σ H s) (hN : X.N.Nodup) (hi : X.N[i]? = some x) (hx : Loc X.env.scope x) (r : RelV v u)
    (h : ∀ s', Inv X pins (σ.set i (some v)) H s' → (∃ a, Heap.SameBut a s.heap s'.heap ∧ (a = X.env.locals ∨ X.env.cells.lookup x = some a)) → Q () s') (hf : X.fn x = true ∨ X.env.scope.names.lookup x = some .local := by first | exact .inl rfl | exact .inr rfl | assumption) : wpAny M A (storeName X.env x u) Q E s := by
  obtain ⟨m, hn, hl⟩ := id I.loc
  have hcls : (X.env.scope.kind == .class || (X.env.scope.kind == .module && X.env.locals != X.env.globals)) = false := by rw [I.ok.kind]; rfl
  have hiσ : i < σ.length := by rw [I.len]; exact (List.getElem?_eq_some_iff.mp hi).1
  have cne := I.cne
  have tracked : ∀ {a : Addr} {h' : Heap}, (∃ o, s.heap.get? a = some o ∧ H a = none) → Heap.SameBut a s.heap h' → HOk X.prog X.w H h' := fun {a h'} ha hs b ob e => by
    obtain ⟨_, _, hfree⟩ := ha
    refine (I.hok b ob e).stay (fun c w' hc q => (hs.2 c ?_).trans q) (fun _ q => q) fun _ _ q => q
    rintro rfl
    rcases hc with rfl | hc
    · rw [hfree] at e; cases e
    · rw [hfree] at hc; cases hc
  rcases hx with hk | hk
  · refine wpAny_storeName_local hk hn (fun h' hn' hs => ?_) hcls
    obtain ⟨oL, _, _, hoL, _⟩ := id hn
    refine h _ ⟨I.ok, I.os, I.bare, ⟨fun b o e n hb hx => ?_, fun b o e n hb hx => ?_, I.base.free, fun b o e hx => ?_, I.base.tups, I.base.frzs, I.base.tbls⟩, ⟨_, hn', fun j y v' e1 e2 e3 => ?_⟩, fun y c e => ?_, I.free, I.freeC, fun p hp => ?_, tracked ⟨oL, hoL, I.free⟩ hs, by simpa using I.len⟩ ⟨_, hs, .inl rfl⟩
    · exact (hs.2 b (Nat.ne_of_lt (Nat.lt_of_lt_of_le (Heap.lt_size e) I.ok.above))).trans (I.base.keep b o e n hb hx)
    · obtain ⟨sl, e1⟩ := I.base.slot b o e n hb hx
      exact ⟨sl, (hs.2 b (Nat.ne_of_lt (Nat.lt_of_lt_of_le (Heap.lt_size e) I.ok.above))).trans e1⟩
    · obtain ⟨o', e1⟩ := I.base.there b o e hx
      exact ⟨o', (hs.2 b (Nat.ne_of_lt (Nat.lt_of_lt_of_le (Heap.lt_size e) I.ok.above))).trans e1⟩
    · by_cases hj : j = i
      · subst hj
        rw [hi] at e1; cases e1
        rw [List.getElem?_set_self hiσ] at e2
        cases e2
        exact ⟨u, r, .inl ⟨hk, by simp⟩⟩
      · rw [List.getElem?_set_ne (Ne.symm hj)] at e2
        obtain ⟨u', r', q⟩ := hl j y v' e1 e2 e3
        refine ⟨u', r', ?_⟩
        rcases q with ⟨k, e⟩ | ⟨k, c, e, z⟩
        · refine .inl ⟨k, ?_⟩
          have : y ≠ x := fun e => hj (nodup_ix hN e1 (e ▸ hi))
          simp [this, e]
        · exact .inr ⟨k, c, e, z.sameBut hs (cne y c e)⟩
    · obtain ⟨w', z⟩ := I.cell y c e
      exact ⟨w', z.sameBut hs (cne y c e)⟩
    · obtain ⟨e, n, ne, nf, d⟩ := I.pin p hp
      exact ⟨(hs.2 p.1 ne).trans e, n, ne, nf, d⟩
  · have hfn : X.fn x = true := by
      rcases hf with z | z
      · exact z
      · rw [z] at hk; cases hk
    obtain ⟨c, hc⟩ := I.ok.has x (.inl hk)
    obtain ⟨w', z⟩ := I.cell x c hc
    refine wpAny_storeName_cell I.ok.kind hk hc z (fun h' hc' hs => ?_)
    obtain ⟨oc, hoc, hocd⟩ := id z
    refine h { s with heap := h' } ⟨I.ok, I.os, I.bare, ⟨fun b o e n hb hx => ?_, fun b o e n hb hx => ?_, I.base.free, fun b o e hx => ?_, I.base.tups, I.base.frzs, I.base.tbls⟩, ⟨m, hn.sameBut hs (Ne.symm (cne x c hc)), fun j y v' e1 e2 e3 => ?_⟩, fun y c' e => ?_, I.free, I.freeC, fun p hp => ?_, tracked ⟨oc, hoc, I.freeC x c hc⟩ hs, by simpa using I.len⟩ ⟨c, hs, .inr hc⟩
    · exact (hs.2 b (Nat.ne_of_lt (Nat.lt_of_lt_of_le (Heap.lt_size e) (I.ok.cab x c hfn hc)))).trans (I.base.keep b o e n hb hx)
    · obtain ⟨sl, e1⟩ := I.base.slot b o e n hb hx
      exact ⟨sl, (hs.2 b (Nat.ne_of_lt (Nat.lt_of_lt_of_le (Heap.lt_size e) (I.ok.cab x c hfn hc)))).trans e1⟩
    · obtain ⟨o', e1⟩ := I.base.there b o e hx
      exact ⟨o', (hs.2 b (Nat.ne_of_lt (Nat.lt_of_lt_of_le (Heap.lt_size e) (I.ok.cab x c hfn hc)))).trans e1⟩
    · by_cases hj : j = i
      · subst hj
        rw [hi] at e1; cases e1
        rw [List.getElem?_set_self hiσ] at e2
        cases e2
        exact ⟨u, r, .inr ⟨.inl hk, c, hc, hc'⟩⟩
      · rw [List.getElem?_set_ne (Ne.symm hj)] at e2
        obtain ⟨u', r', q⟩ := hl j y v' e1 e2 e3
        refine ⟨u', r', ?_⟩
        rcases q with q | ⟨k, c', e, z'⟩
        · exact .inl q
        · refine .inr ⟨k, c', e, z'.sameBut hs ?_⟩
          rintro rfl
          exact hj (nodup_ix hN e1 (I.ok.inj _ _ _ e hc ▸ hi))
    · by_cases hcc : c' = c
      · subst hcc; exact ⟨_, hc'⟩
      · obtain ⟨w2, z2⟩ := I.cell y c' e
        exact ⟨w2, z2.sameBut hs hcc⟩
    · obtain ⟨e, n, ne, nf, d⟩ := I.pin p hp
      refine ⟨(hs.2 p.1 ?_).trans e, n, ne, nf, d⟩
      intro q
      rw [q, hoc] at e
      have q' : oc = p.2 := Option.some.inj e
      exact d w' (by rw [← q']; exact hocd)
theorem store_ok {M : Model} {A : Around} {E : Value → Shared → Prop} {i : Nat} {x : Str} {v : V} {u : Value} {Q : Unit → Shared → Prop} (I : Inv X pins σ H s) (hN : X.N.Nodup) (hi : X.N[i]? = some x) (hx : Loc X.env.scope x) (r : RelV v u)
    (h : ∀ s', Inv X pins (σ.set i (some v)) H s' → Q () s') (hf : X.fn x = true ∨ X.env.scope.names.lookup x = some .local := by first | exact .inl rfl | exact .inr rfl | assumption) : wpAny M A (storeName X.env x u) Q E s :=
  store_ok2 I hN hi hx r (fun s' I' _ => h s' I') hf
/-- behind a call or a block, the state as it is -/
theorem Inv.call' {s' : Shared} {ch : List Addr} (I : Inv X pins σ H s) (ho : s'.os = s.os) (u : Un (frs X.stack) ch H H' s.heap s'.heap) (hok : HOk X.prog X.w H' s'.heap) (hg : AllBare s'.gens)
    (hch : ∀ b ∈ ch, (b ∈ X.ex ∨ X.s₀.heap.objs.size ≤ b) ∧ b ≠ X.env.locals ∧ (∀ x c, X.env.cells.lookup x = some c → c ≠ b) ∧ ∀ p ∈ X.pn ++ pins, p.1 ≠ b) : Inv X pins σ H' s' := by
  obtain ⟨h', g', d', t', o'⟩ := s'
  have e : o' = s.os := ho
  subst e
  exact I.call (g' := g') (t' := t') (d' := d') u hok hg hch
end

/-- an exception: its class, its own dict's address (where it has one), the abstract heap behind it -/
abbrev XK := Value → Option Addr → Hp → Prop
abbrev St := List (Option V)
abbrev VK := V → Hp → Prop
/-- an expression's reading; a test's; an argument list's -/
abbrev TE := St → Hp → VK → Prop
abbrev TT := St → Hp → (Bool → Hp → Prop) → Prop
abbrev TA := St → Hp → (List V → Hp → Prop) → Prop
/-- what is wanted behind a statement -/
structure Ends where
  nx : St → Hp → Prop
  rt : VK
  bk : St → Hp → Prop := fun _ _ => False
  ct : St → Hp → Prop := fun _ _ => False
abbrev TS := Ends → St → Hp → Prop

def EP (X : Cx) (pins : List (Addr × Obj)) (σ : St) (Q : VK) (u : Value) (s' : Shared) : Prop := ∃ v H', Inv X pins σ H' s' ∧ RelV v u ∧ Q v H'
def TP (X : Cx) (pins : List (Addr × Obj)) (σ : St) (Q : Bool → Hp → Prop) (b : Bool) (s' : Shared) : Prop := ∃ H', Inv X pins σ H' s' ∧ Q b H'
def AP (X : Cx) (pins : List (Addr × Obj)) (σ : St) (Q : List V → Hp → Prop) (us : List Value) (s' : Shared) : Prop := ∃ vs H', Inv X pins σ H' s' ∧ Vals vs us ∧ Q vs H'
def SP (X : Cx) (pins : List (Addr × Obj)) (D : Ends) (f : Flow) (s' : Shared) : Prop :=
  match f with
  | .next => ∃ σ' H', Inv X pins σ' H' s' ∧ D.nx σ' H'
  | .brk => ∃ σ' H', Inv X pins σ' H' s' ∧ D.bk σ' H'
  | .cont => ∃ σ' H', Inv X pins σ' H' s' ∧ D.ct σ' H'
  | .ret u => ∃ v σ' H', Inv X pins σ' H' s' ∧ RelV v u ∧ D.rt v H'

def PE (X : Cx) (e : Expr) (t : TE) : Prop :=
  ∀ (pins : List (Addr × Obj)) (s : Shared) (σ : St) (H : Hp) (Q : VK), Inv X pins σ H s → t σ H Q → wpAny (model X.prog X.w) X.A (eval e X.env) (EP X pins σ Q) X.xe s
def PT (X : Cx) (e : Expr) (t : TT) : Prop :=
  ∀ (pins : List (Addr × Obj)) (s : Shared) (σ : St) (H : Hp) (Q : Bool → Hp → Prop), Inv X pins σ H s → t σ H Q → wpAny (model X.prog X.w) X.A (isTrue e X.env (eval e X.env)) (TP X pins σ Q) X.xe s
/-- a test whatever its 'whole' is (and, or) -/
def PW (X : Cx) (e : Expr) (t : TT) : Prop :=
  ∀ (whole : Sem Value) (pins : List (Addr × Obj)) (s : Shared) (σ : St) (H : Hp) (Q : Bool → Hp → Prop), Inv X pins σ H s → t σ H Q → wpAny (model X.prog X.w) X.A (isTrue e X.env whole) (TP X pins σ Q) X.xe s
theorem PW.pt {X : Cx} {e : Expr} {t : TT} (h : PW X e t) : PT X e t := h _
/-- an argument list (no star), from the left -/
def PA (X : Cx) (es : List Expr) (t : TA) : Prop :=
  ∀ (pos : Pos) (pins : List (Addr × Obj)) (s : Shared) (σ : St) (H : Hp) (Q : List V → Hp → Prop), Inv X pins σ H s → t σ H Q → wpAny (model X.prog X.w) X.A (spliced (backTo pos (starEach es X.env))) (AP X pins σ Q) X.xe s
def PS (X : Cx) (st : Stmt) (t : TS) : Prop :=
  ∀ (pins : List (Addr × Obj)) (s : Shared) (σ : St) (H : Hp) (D : Ends), Inv X pins σ H s → t D σ H → wpAny (model X.prog X.w) X.A (exec st X.env) (SP X pins D) X.xe s
def PSs (X : Cx) (st : List Stmt) (t : TS) : Prop :=
  ∀ (pins : List (Addr × Obj)) (s : Shared) (σ : St) (H : Hp) (D : Ends), Inv X pins σ H s → t D σ H → wpAny (model X.prog X.w) X.A (execs st X.env) (SP X pins D) X.xe s
/-- weaken the end -/
theorem thn {α : Type} {t : Sem α} {Q Q' : α → Shared → Prop} {M : Model} {A : Around} {E : Value → Shared → Prop} {s : Shared} (h : wpAny M A t Q E s) (hQ : ∀ a s, Q a s → Q' a s) : wpAny M A t Q' E s := wpAny_mono h hQ fun _ _ x => x
end L2

namespace L2
open PySem PySem.Spec PyProof.Rows
section
variable {X : Cx}

def tVar (i : Nat) : TE := fun σ H Q => ∃ v, σ[i]? = some (some v) ∧ Q v H
def tC (v : V) : TE := fun _ H Q => Q v H
theorem pe_var {i : Nat} {x : Str} {pos : Pos} (hN : X.N[i]? = some x) (hv : Vis X.env.scope x) (hd : (x == ("__debug__" : Str)) = false := by decide) (hcd : (x == ("__classdict__" : Str)) = false := by decide) : PE X (.Name x pos) (tVar i) := by
  intro pins s σ H Q I h
  obtain ⟨v, e, h⟩ := h
  obtain ⟨m, hn, hl⟩ := I.loc
  obtain ⟨u, r, l⟩ := hl i x v hN e hv
  have fin : EP X pins σ Q u s := ⟨v, H, I, r, h⟩
  rcases l with ⟨hk, hm⟩ | ⟨hk, c, hc, hcell⟩
  · exact wpAny_Name (wpAny_loadName_local I.ok.kind hk hn hm fin) hd
  · rcases hk with hk | hk
    · exact wpAny_Name (wpAny_loadName_cell I.ok.kind hk hc hcell fin) hd
    · exact wpAny_Name (wpAny_loadName_free I.ok.kind hk hc hcell fin hcd) hd
theorem pe_int {i j pos} : PE X (.Constant (.int i) j pos) (tC (.int i)) := fun _ _ _ H _ I h => wpAny_Constant_int ⟨.int i, H, I.tok _, ⟨_, rfl⟩, h⟩
theorem pe_bl {b j pos} : PE X (.Constant (.bool b) j pos) (tC (.bl b)) := fun _ _ _ H _ I h => Constant_bool ⟨.bl b, H, I, rfl, h⟩
/-- a global name of the def -/
def Gl (X : Cx) (x : Str) : Prop := X.env.kindOf x = some .globalImplicit
theorem ld_glob {E : Value → Shared → Prop} {pins : List (Addr × Obj)} {s : Shared} {σ : St} {H : Hp} {x : Str} {u : Value} {pos : Pos} {Q : Value → Shared → Prop} (I : Inv X pins σ H s) (hg : Gl X x) (hm : X.mg x = some u) (h : Q u s)
    (hd : (x == ("__debug__" : Str)) = false := by decide) : wpAny (model X.prog X.w) X.A (eval (.Name x pos) X.env) Q E s :=
  Calls.Name_function_global I.ok.kind hg (Calls.loadGlobal_global (by rw [I.ok.glob]; exact I.mod.glob.keeps I.bk) hm h) hd
theorem ld_blt {E : Value → Shared → Prop} {pins : List (Addr × Obj)} {s : Shared} {σ : St} {H : Hp} {x : Str} {u : Value} {pos : Pos} {Q : Value → Shared → Prop} (I : Inv X pins σ H s) (hg : Gl X x) (hm : X.mg x = none) (hv : bootBuiltins x = some u) (h : Q u s)
    (hn : x ≠ "__name__" := by decide) (hd : (x == ("__debug__" : Str)) = false := by decide) : wpAny (model X.prog X.w) X.A (eval (.Name x pos) X.env) Q E s := by
  obtain ⟨mb, h1, h2⟩ := I.mod.blt
  exact Calls.Name_function_global I.ok.kind hg (Calls.loadGlobal_builtin (by rw [I.ok.glob]; exact I.mod.glob.keeps I.bk) hm (by rw [I.ok.blt]; exact h1.keeps I.bk) ((h2 x hn).trans hv) h) hd
theorem pe_bltn {x : Str} {v : V} {u : Value} {pos : Pos} (hg : Gl X x) (hm : X.mg x = none) (hv : bootBuiltins x = some u) (r : RelV v u) (hn : x ≠ "__name__" := by decide) (hd : (x == ("__debug__" : Str)) = false := by decide) : PE X (.Name x pos) (tC v) :=
  fun _ _ _ H _ I h => ld_blt I hg hm hv ⟨v, H, I, r, h⟩ hn hd

variable {a b : Expr} {ta tb : TE} {pos : Pos}
variable {tA tB' : TT} {rest : List Expr}
def tOr (t u : TT) : TT := fun σ H Q => t σ H fun c H1 => if c = true then Q true H1 else u σ H1 Q
def tNot (t : TT) : TT := fun σ H Q => t σ H fun c H1 => Q (!c) H1
theorem pw_or1 (ha : PT X a tA) : PW X (.BoolOp .Or [a] pos) tA := by
  intro wh pins s σ H Q I h
  refine isTrue_or (thn (ha pins s σ H Q I h) fun c s1 e => ?_)
  cases c with
  | false => exact isTrue_or_nil e
  | true => exact e
theorem pw_or (ha : PT X a tA) (hb : PW X (.BoolOp .Or (b :: rest) pos) tB') : PW X (.BoolOp .Or (a :: b :: rest) pos) (tOr tA tB') := by
  intro wh pins s σ H Q I h
  refine isTrue_or (thn (ha pins s σ H _ I h) fun c s1 ⟨H1, I1, q1⟩ => ?_)
  cases c with
  | true => exact ⟨H1, I1, q1⟩
  | false => exact hb wh pins s1 σ H1 Q I1 q1
theorem pt_not (ha : PT X a tA) : PT X (.UnaryOp .Not a pos) (tNot tA) := by
  intro pins s σ H Q I h
  exact isTrue_not (ha pins s σ H (fun c H1 => Q (!c) H1) I h)
end
end L2

namespace L2
open PySem PySem.Spec PyProof.Rows

def SqL (K : PySem.W.Frag) (H : Hp) (a : Addr) (xs : List V) : Prop :=
  Rd H a (.lst xs) ∨
    ∃ (o : Obj) (its : Array Value) (n : Nat), K.lookup a = some o ∧ o.cls = .type "list" ∧ o.dict = none ∧ o.data = .seq its n ∧ its.size ≤ sizeLine ∧ Vals xs its.toList
def SqT (K : PySem.W.Frag) (H : Hp) (a : Addr) (xs : List V) : Prop :=
  Rd H a (.tup xs) ∨
    ∃ (o : Obj) (its : Array Value) (n : Nat), K.lookup a = some o ∧ o.cls = .type "tuple" ∧ o.data = .seq its n ∧ its.size ≤ sizeLine ∧ Vals xs its.toList
def absV : Value → Option V
  | .none => some .non
  | .bool b => some (.bl b)
  | .int i _ => some (.int i)
  | .str x _ => some (.str x)
  | .bytes b _ => some (.byt b)
  | .float b _ => some (.flt b)
  | .ref a => some (.ref a)
  | .type n => some (.ty n)
  | _ => none
theorem RelV.abs {x : V} {u : Value} (r : RelV x u) : absV u = some x := by
  cases x with
  | non => cases r; rfl
  | bl _ => cases r; rfl
  | int _ => obtain ⟨t, rfl⟩ := r; rfl
  | str _ => obtain ⟨t, rfl⟩ := r; rfl
  | byt _ => obtain ⟨t, rfl⟩ := r; rfl
  | flt _ => obtain ⟨t, rfl⟩ := r; rfl
  | ref _ => cases r; rfl
  | ty _ => cases r; rfl
theorem RelV.inj {x y : V} {u : Value} (r : RelV x u) (q : RelV y u) : x = y := Option.some.inj (r.abs.symm.trans q.abs)
theorem Vals.inj : ∀ {xs ys : List V} {us : List Value}, Vals xs us → Vals ys us → xs = ys
  | _, _, _, .nil, .nil => rfl
  | _, _, _, .cons r t, .cons r' t' => by rw [r.inj r', Vals.inj t t']
section
variable {X : Cx} {pins : List (Addr × Obj)} {σ : St} {H : Hp} {s : Shared} {a : Addr} {xs ys : List V}
theorem SqL.of {K : PySem.W.Frag} (h : H a = some (.lst xs)) : SqL K H a xs := .inl (.inl h)
theorem SqT.of {K : PySem.W.Frag} (h : H a = some (.tup xs)) : SqT K H a xs := .inl (.inl h)
theorem Inv.list (I : Inv X pins σ H s) (h : SqL X.K H a xs) : ∃ its : List Value, Vals xs its ∧ PlainL s.heap a its.toArray ∧ xs.length ≤ sizeLine := by
  rcases h with h | ⟨o, its, n, hk, hc, hd, hs, hz, r⟩
  · obtain ⟨z, its, n, r, e⟩ := h.ok I.hok
    exact ⟨its, r, ⟨_, n, e, rfl, rfl, rfl⟩, z⟩
  · refine ⟨its.toList, r, ⟨o, n, I.kIn a o hk, hc, hd, by simpa using hs⟩, ?_⟩
    have e := r.length
    simp only [Array.length_toList] at e
    omega
theorem Inv.tuple (I : Inv X pins σ H s) (h : SqT X.K H a xs) : ∃ its : List Value, Vals xs its ∧ IsTup s.heap a its.toArray ∧ xs.length ≤ sizeLine := by
  rcases h with h | ⟨o, its, n, hk, hc, hs, hz, r⟩
  · obtain ⟨z, its, r, p⟩ := h.ok I.hok
    exact ⟨its, r, p, z⟩
  · refine ⟨its.toList, r, ⟨o, I.kIn a o hk, hc, n, by simpa using hs⟩, ?_⟩
    have e := r.length
    simp only [Array.length_toList] at e
    omega
theorem Inv.list_inj (I : Inv X pins σ H s) (h : SqL X.K H a xs) (h' : SqL X.K H a ys) : xs = ys := by
  obtain ⟨its, r, ⟨o, n, e, _, _, d⟩, _⟩ := I.list h
  obtain ⟨its', r', ⟨o', n', e', _, _, d'⟩, _⟩ := I.list h'
  rw [e] at e'; cases e'
  rw [d] at d'
  injection d' with d1 _
  have : its = its' := by simpa using congrArg Array.toList d1
  subst this
  exact r.inj r'
theorem Inv.tuple_inj (I : Inv X pins σ H s) (h : SqT X.K H a xs) (h' : SqT X.K H a ys) : xs = ys := by
  obtain ⟨its, r, ⟨o, e, _, n, d⟩, _⟩ := I.tuple h
  obtain ⟨its', r', ⟨o', e', _, n', d'⟩, _⟩ := I.tuple h'
  rw [e] at e'; cases e'
  rw [d] at d'
  injection d' with d1 _
  have : its = its' := by simpa using congrArg Array.toList d1
  subst this
  exact r.inj r'
end

abbrev Cx.wish (X : Cx) (E : Value → Shared → Prop) : Cx := { X with xe := E }
/-- no exception leaves -/
abbrev Cx.nox (X : Cx) : Cx := X.wish fun _ _ => False
theorem Cx.Ok.wish {X : Cx} (ok : X.Ok) (E : Value → Shared → Prop) : (X.wish E).Ok :=
  ⟨ok.mod, ok.kind, ok.glob, ok.blt, ok.above, ok.inj, ok.has, ok.cab, ok.hd, ok.frames, ok.stk, ok.exf, ok.bs, ok.bsz, ok.noex, ok.exfs, ok.funs, ok.frf⟩
theorem Cx.Ok.unwish {X : Cx} {E : Value → Shared → Prop} (ok : (X.wish E).Ok) : X.Ok :=
  ⟨ok.mod, ok.kind, ok.glob, ok.blt, ok.above, ok.inj, ok.has, ok.cab, ok.hd, ok.frames, ok.stk, ok.exf, ok.bs, ok.bsz, ok.noex, ok.exfs, ok.funs, ok.frf⟩
section
variable {X : Cx} {pins : List (Addr × Obj)} {σ : St} {H : Hp} {s : Shared} {E : Value → Shared → Prop}
theorem Inv.wish (I : Inv X pins σ H s) (E : Value → Shared → Prop) : Inv (X.wish E) pins σ H s := ⟨I.ok.wish E, I.os, I.bare, I.base, I.loc, I.cell, I.free, I.freeC, I.pin, I.hok, I.len⟩
theorem Inv.unwish (I : Inv (X.wish E) pins σ H s) : Inv X pins σ H s := ⟨I.ok.unwish, I.os, I.bare, I.base, I.loc, I.cell, I.free, I.freeC, I.pin, I.hok, I.len⟩
theorem SP.unwish {D : Ends} {f : Flow} {s' : Shared} (h : SP (X.wish E) pins D f s') : SP X pins D f s' := by
  cases f with
  | next => obtain ⟨σ', H', I, q⟩ := h; exact ⟨σ', H', I.unwish, q⟩
  | brk => obtain ⟨σ', H', I, q⟩ := h; exact ⟨σ', H', I.unwish, q⟩
  | cont => obtain ⟨σ', H', I, q⟩ := h; exact ⟨σ', H', I.unwish, q⟩
  | ret u => obtain ⟨v, σ', H', I, r, q⟩ := h; exact ⟨v, σ', H', I.unwish, r, q⟩
theorem PSs.nox {st : List Stmt} {t : TS} (h : PSs X.nox st t) : PSs X st t := fun pins s σ H D I hw =>
  wpAny_mono (h pins s σ H D (I.wish _) hw) (fun _ _ q => q.unwish) fun _ _ z => False.elim z
end

section
variable {X : Cx} {st : Stmt} {rest : List Stmt} {t u : TS} {e : Expr} {te : TE} {pos : Pos}
def tNext : TS := fun D σ H => D.nx σ H
def tSeq (t u : TS) : TS := fun D σ H => t { D with nx := u D } σ H
theorem pss_nil : PSs X [] tNext := fun _ _ σ H _ I h => wpAny_execs_nil ⟨σ, H, I, h⟩
theorem pss_cons (h1 : PS X st t) (h2 : PSs X rest u) : PSs X (st :: rest) (tSeq t u) := by
  intro pins s σ H D I h
  refine wpAny_execs_cons (thn (h1 pins s σ H { D with nx := u D } I h) fun f s1 q => ?_)
  cases f with
  | next =>
    obtain ⟨σ', H', I', q⟩ := q
    exact h2 pins s1 σ' H' D I' q
  | ret v => exact q
  | brk => exact q
  | cont => exact q
theorem pss_one (h1 : PS X st t) : PSs X [st] t := by
  intro pins s σ H D I h
  refine wpAny_execs_cons (thn (h1 pins s σ H D I h) fun f s1 q => ?_)
  cases f with
  | next => exact wpAny_execs_nil q
  | ret v => exact q
  | brk => exact q
  | cont => exact q
/-- in a def's body nothing is shown -/
theorem Inv.quiet {pins : List (Addr × Obj)} {σ : St} {H : Hp} {s : Shared} (I : Inv X pins σ H s) : interactive X.env = false := by simp [interactive, I.ok.kind]
/-- an expression whose value is dropped -/
def tDrop (te : TE) : TS := fun D σ H => te σ H fun _ H1 => D.nx σ H1
theorem ps_expr (he : PE X e te) (hs : swapsWith e none pos.line X.env = pure false := by rfl) : PS X (.Expr e pos) (tDrop te) := by
  intro pins s σ H D I h
  exact wpAny_Expr_any (thn (he pins s σ H _ I h) fun v s1 ⟨x, H1, I1, r1, q1⟩ => ⟨σ, H1, I1, q1⟩) I.quiet hs
def tRet (te : TE) : TS := fun D σ H => te σ H D.rt
theorem ps_ret (he : PE X e te) : PS X (.Return (some e) pos) (tRet te) := by
  intro pins s σ H D I h
  exact wpAny_Return_some (thn (he pins s σ H _ I h) fun v s1 ⟨x, H1, I1, r1, q1⟩ => ⟨x, σ, H1, I1, r1, q1⟩)
def tIfS (c : TT) (t u : TS) : TS := fun D σ H => c σ H fun b H1 => if b = true then t D σ H1 else u D σ H1
theorem ps_if {c : Expr} {a b : List Stmt} {tc : TT} (hc : PT X c tc) (ha : PSs X a t) (hb : PSs X b u) : PS X (.If c a b pos) (tIfS tc t u) := by
  intro pins s σ H D I h
  refine wpAny_If (thn (hc pins s σ H _ I h) fun d s1 ⟨H1, I1, q1⟩ => ?_)
  cases d with
  | true => exact ha pins s1 σ H1 D I1 q1
  | false => exact hb pins s1 σ H1 D I1 q1
end

abbrev TG := V → St → Hp → (St → Hp → Prop) → Prop
def PG (X : Cx) (target : Expr) (t : TG) : Prop :=
  ∀ (pins : List (Addr × Obj)) (s : Shared) (σ : St) (H : Hp) (v : V) (u : Value) (Q : St → Hp → Prop), Inv X pins σ H s → RelV v u → t v σ H Q →
    wpAny (model X.prog X.w) X.A (assign target X.env u) (fun _ s' => ∃ σ' H', Inv X pins σ' H' s' ∧ Q σ' H') X.xe s
section
variable {X : Cx} {pos : Pos}
def gName (i : Nat) : TG := fun v σ H Q => Q (σ.set i (some v)) H
theorem pg_name {i : Nat} {x : Str} (hN : X.N.Nodup) (hi : X.N[i]? = some x) (hx : Loc X.env.scope x) (hf : X.fn x = true ∨ X.env.scope.names.lookup x = some .local := by first | exact .inl rfl | exact .inr rfl | assumption) : PG X (.Name x pos) (gName i) := by
  intro pins s σ H v u Q I r h
  exact wpAny_assign_Name (store_ok I hN hi hx r (fun s' I' => ⟨_, H, I', h⟩) hf)
/-- target = value -/
def tAsg (te : TE) (g : TG) : TS := fun D σ H => te σ H fun x H1 => g x σ H1 D.nx
/-- name = value -/
theorem ps_set {i : Nat} {x : Str} {e : Expr} {te : TE} {pos' : Pos} (hN : X.N.Nodup) (hi : X.N[i]? = some x) (hx : Loc X.env.scope x) (he : PE X e te) (hs : swapsWith e (some (.Name x pos')) pos.line X.env = pure false := by rfl) (hf : X.fn x = true ∨ X.env.scope.names.lookup x = some .local := by first | exact .inl rfl | exact .inr rfl | assumption) :
    PS X (.Assign [.Name x pos'] e pos) (tAsg te (gName i)) := by
  intro pins s σ H D I h
  refine wpAny_Assign_Name (thn (he pins s σ H _ I h) fun v s1 ⟨y, H1, I1, r1, q1⟩ => ?_) hs
  exact store_ok I1 hN hi hx r1 (fun s2 I2 => ⟨_, H1, I2, q1⟩) hf
end

section
variable {X : Cx} {pos : Pos}
/-- the invariant W with its measure -/
def tWhile (c : TT) (tb : TS) : TS := fun D σ H => ∃ W : Nat → St → Hp → Prop, (∃ m, W m σ H) ∧ ∀ m σ H, W m σ H →
  c σ H fun b H1 => if b = true then ∃ N : St → Hp → Prop, (∀ σ' H', N σ' H' → ∃ m', m' < m ∧ W m' σ' H') ∧ tb { D with nx := N, ct := N, bk := D.nx } σ H1 else D.nx σ H1
theorem ps_while {c : Expr} {body : List Stmt} {tc : TT} {tb : TS} (hp : PassesOwn (model X.prog X.w) X.A X.env X.xe) (hc : PT X c tc) (hb : PSs X body tb) : PS X (.While c body [] pos) (tWhile tc tb) := by
  intro pins s σ H D I h
  obtain ⟨W, ⟨m0, w0⟩, turn⟩ := h
  refine wpAny_While (codeAny_whileLoop (fun n s' => ∃ σ' H', Inv X pins σ' H' s' ∧ W n σ' H') ?_ m0 ⟨σ, H, I, w0⟩)
  rintro n s1 ⟨σ1, H1, I1, w1⟩
  refine wpAny_passesOwn hp (thn (hc pins s1 σ1 H1 _ I1 (turn n σ1 H1 w1)) fun b s2 ⟨H2, I2, q2⟩ => ?_)
  cases b with
  | true =>
    obtain ⟨N, hN, q2⟩ := q2
    rw [if_pos rfl]
    refine wpAny_passesOwn hp (thn (hb pins s2 σ1 H2 _ I2 q2) fun f s3 q3 => ?_)
    cases f with
    | next =>
      obtain ⟨σ3, H3, I3, n3⟩ := q3
      obtain ⟨m', hm, w3⟩ := hN σ3 H3 n3
      exact ⟨m', hm, σ3, H3, I3, w3⟩
    | cont =>
      obtain ⟨σ3, H3, I3, n3⟩ := q3
      obtain ⟨m', hm, w3⟩ := hN σ3 H3 n3
      exact ⟨m', hm, σ3, H3, I3, w3⟩
    | brk => exact q3
    | ret v => exact q3
  | false =>
    rw [if_neg Bool.false_ne_true]
    exact wpAny_execs_nil ⟨σ1, H2, I2, q2⟩
end

/-- at turn i: it yields x (the heap may grow), or it stops -/
structure It where
  go : Nat → Hp → Prop
  yld : Nat → Hp → V → Hp → Prop
  stop : Nat → Hp → Prop
/-- the iterator's own objects may turn: they are not the frame's, not pinned, younger than the entry (or a comprehension's own) -/
def FpOk (X : Cx) (pins : List (Addr × Obj)) (H : Hp) (b : Addr) : Prop :=
  H b = none ∧ b ≠ X.env.locals ∧ b ∉ X.fs ∧ (b ∈ X.ex ∨ X.s₀.heap.objs.size ≤ b) ∧ (∀ x c, X.env.cells.lookup x = some c → c ≠ b) ∧ ∀ p ∈ X.pn ++ pins, p.1 ≠ b
theorem Inv.fpOk {X : Cx} {pins : List (Addr × Obj)} {σ : St} {H H' : Hp} {s : Shared} {b : Addr} (I : Inv X pins σ H s) (hb : s.heap.objs.size ≤ b) (hn : H' b = none) : FpOk X pins H' b := by
  refine ⟨hn, Nat.ne_of_gt (Nat.lt_of_lt_of_le I.lt hb), I.nofs hb, .inr (Nat.le_trans I.sz hb), fun x c e z => ?_, fun p hp z => ?_⟩
  · obtain ⟨v, q⟩ := I.cell x c e
    exact absurd (Nat.lt_of_lt_of_le q.lt (by rw [z]; exact hb)) (Nat.lt_irrefl _)
  · exact absurd (Nat.lt_of_lt_of_le (Heap.lt_size (I.pin p hp).1) (by rw [z]; exact hb)) (Nat.lt_irrefl _)
structure Turn (P : Program) (w : World) (K : PySem.W.Frag) (tg : Expr) (J : It) (fp : List Addr) (it : Addr) (tn : Nat → Heap → Prop) : Prop where
  mem : it ∈ fp
  obj : ∀ i h, tn i h → ∀ b ∈ fp, ∃ o, h.get? b = some o ∧ ∀ v, o.data ≠ .cell v
  keep : ∀ i h h', tn i h → (∀ b ∈ fp, ∀ o, h.get? b = some o → h'.get? b = some o) → tn i h'
  item : ∀ (X : Cx), X.prog = P → X.w = w → X.K = K → X.calm = true → ∀ (i : Nat) (pins : List (Addr × Obj)) (s : Shared) (σ : St) (H : Hp) (E : Value → Shared → Prop), Inv X pins σ H s → (∀ b ∈ fp, FpOk X pins H b) → tn i s.heap → J.go i H →
    wpAny (model P w) X.A (pyNext (.ref it)) (fun r s1 => ∃ u, r = some u ∧
      wpAny (model P w) X.A (letOwnedTupleGo tg (.ref it) u) (fun _ s2 => ∃ x H', Inv X pins σ H' s2 ∧ RelV x u ∧ J.yld i H x H' ∧ tn (i + 1) s2.heap ∧ ∀ b ∈ fp, H' b = none) E s1) E s
  done : ∀ (X : Cx), X.prog = P → X.w = w → X.K = K → X.calm = true → ∀ (i : Nat) (pins : List (Addr × Obj)) (s : Shared) (σ : St) (H : Hp) (E : Value → Shared → Prop), Inv X pins σ H s → (∀ b ∈ fp, FpOk X pins H b) → tn i s.heap → J.stop i H →
    wpAny (model P w) X.A (pyNext (.ref it)) (fun r s1 => r = none ∧ Inv X pins σ H s1) E s
  self : ∀ (A : Around) (i : Nat) (s : Shared) (Q : Value → Shared → Prop) (E : Value → Shared → Prop), tn i s.heap → Q (.ref it) s → wpAny (model P w) A (pyIter (.ref it)) Q E s
abbrev TI := St → Hp → (It → Hp → Prop) → Prop
/-- an iterator has come -/
def PIE (X : Cx) (pins : List (Addr × Obj)) (σ : St) (tg : Expr) (R : It → Hp → Prop) (itv : Value) (s2 : Shared) : Prop :=
  ∃ (it : Addr) (fp : List Addr) (tn : Nat → Heap → Prop) (J : It) (H' : Hp), itv = .ref it ∧ Inv X pins σ H' s2 ∧ Turn X.prog X.w X.K tg J fp it tn ∧ tn 0 s2.heap ∧ (∀ b ∈ fp, FpOk X pins H' b) ∧ R J H'
def PI (X : Cx) (tg iter : Expr) (wi : TI) : Prop :=
  ∀ (pins : List (Addr × Obj)) (s : Shared) (σ : St) (H : Hp) (R : It → Hp → Prop), Inv X pins σ H s → wi σ H R →
    wpAny (model X.prog X.w) X.A (eval iter X.env) (fun v s1 => wpAny (model X.prog X.w) X.A (pyIter v) (PIE X pins σ tg R) X.xe s1) X.xe s

/-- the step ahead of the store is nothing for an iterator that keeps no tuple -/
theorem go_of {M : Model} {A : Around} {E : Value → Shared → Prop} {s : Shared} {tg : Expr} {it : Addr} {u : Value} {o : Obj} {n : String} {vs : Array Value} {Q : Unit → Shared → Prop} (ho : s.heap.get? it = some o) (hc : o.cls = .type n) (hd : o.data = .fields vs)
    (hn : ["enumerate", "zip", "dict_itemiterator", "dict_reverseitemiterator", "odict_iterator", "itertools.zip_longest", "itertools.pairwise"].contains n = false) (hQ : Q () s) : wpAny M A (letOwnedTupleGo tg (.ref it) u) Q E s := by
  unfold letOwnedTupleGo
  cases tg <;> first
    | exact wpAny_pure hQ
    | (cases u <;> first
        | exact wpAny_pure hQ
        | (refine wpAny_bind (wpAny_load ho ?_)
           rw [hc, hd]
           show wpAny M A (if (["enumerate", "zip", "dict_itemiterator", "dict_reverseitemiterator", "odict_iterator", "itertools.zip_longest", "itertools.pairwise"].contains n && vs[0]? == some (rawInt _)) = true then _ else _) Q E s
           rw [if_neg (by intro h; rw [hn, Bool.false_and] at h; cases h)]
           exact wpAny_pure hQ))

/-- the list at a, as it stands at each turn (a loop may append to it) -/
def Itl (K : PySem.W.Frag) (a : Addr) : It :=
  ⟨fun i H => ∃ xs x, SqL K H a xs ∧ xs[i]? = some x, fun i H x H' => H' = H ∧ ∀ xs, SqL K H a xs → xs[i]? = some x, fun i H => ∃ xs, SqL K H a xs ∧ xs.length ≤ i⟩
def Itt (K : PySem.W.Frag) (a : Addr) : It :=
  ⟨fun i H => ∃ xs x, SqT K H a xs ∧ xs[i]? = some x, fun i H x H' => H' = H ∧ ∀ xs, SqT K H a xs → xs[i]? = some x, fun i H => ∃ xs, SqT K H a xs ∧ xs.length ≤ i⟩
/-- lo, lo + 1, .. (n of them) -/
def Itr (lo : Int) (n : Nat) : It := ⟨fun i _ => i < n, fun i H x H' => H' = H ∧ x = .int (lo + i), fun i _ => n ≤ i⟩
theorem turn_list {P : Program} {w : World} {K : PySem.W.Frag} {tg : Expr} (a it : Addr) : Turn P w K tg (Itl K a) [it] it (fun i h => h.IsListIter it a i) where
  mem := by simp
  obj := fun i h st b hb => by
    have e : b = it := by simpa using hb
    subst e
    obtain ⟨o, e, c, d⟩ := st
    exact ⟨o, e, fun v z => by rw [d] at z; cases z⟩
  keep := fun i h h' st k => st.at fun o e => k it (by simp) o e
  item := by
    intro X hP hw hK hc i pins s σ H E I hf st hg
    subst hP hw hK
    obtain ⟨xs, x, hq, hx⟩ := hg
    obtain ⟨its, rv, p, hz⟩ := I.list hq
    obtain ⟨u, hu, ru⟩ := rv.get hx
    obtain ⟨f0, f1, f2, f3, f4, f5⟩ := hf it (by simp)
    refine wpAny_pyNext_list_item st p.isList (x := u) (by simpa using hu) fun h' st' sb => ?_
    have I1 : Inv X pins σ H { s with heap := h' } := I.turned (t' := s.toks) (fun b o hb e => (sb.2 b hb).trans e) f0 f1 f3 f4 f5
    obtain ⟨o, e, c, d⟩ := id st'
    exact ⟨u, rfl, go_of (s := { s with heap := h' }) e c d (by decide) ⟨x, H, I1, ru, ⟨rfl, fun ys hy => by rw [I.list_inj hy hq]; exact hx⟩, st', fun b hb => (hf b hb).1⟩⟩
  done := by
    intro X hP hw hK hc i pins s σ H E I hf st hg
    subst hP hw hK
    obtain ⟨xs, hq, hx⟩ := hg
    obtain ⟨its, rv, p, hz⟩ := I.list hq
    obtain ⟨f0, f1, f2, f3, f4, f5⟩ := hf it (by simp)
    have hl := rv.length
    exact wpAny_pyNext_list_end (I.ok.hd hc) st p.isList (by simp; omega) fun h' eb => ⟨rfl, I.turned (t' := s.toks) (fun b o hb e => eb b o hb e) f0 f1 f3 f4 f5⟩
  self := fun _ _ _ _ _ st h => wpAny_pyIter_listiter st h
theorem turn_tuple {P : Program} {w : World} {K : PySem.W.Frag} {tg : Expr} (a it : Addr) : Turn P w K tg (Itt K a) [it] it (fun i h => h.IsTupleIter it a i) where
  mem := by simp
  obj := fun i h st b hb => by
    have e : b = it := by simpa using hb
    subst e
    obtain ⟨o, e, c, d⟩ := st
    exact ⟨o, e, fun v z => by rw [d] at z; cases z⟩
  keep := fun i h h' st k => st.at fun o e => k it (by simp) o e
  item := by
    intro X hP hw hK hc i pins s σ H E I hf st hg
    subst hP hw hK
    obtain ⟨xs, x, hq, hx⟩ := hg
    obtain ⟨its, rv, p, hz⟩ := I.tuple hq
    obtain ⟨u, hu, ru⟩ := rv.get hx
    obtain ⟨f0, f1, f2, f3, f4, f5⟩ := hf it (by simp)
    refine wpAny_pyNext_tuple_item st (show s.heap.IsTuple a its.toArray from p) (x := u) (by simpa using hu) fun h' st' sb => ?_
    have I1 : Inv X pins σ H { s with heap := h' } := I.turned (t' := s.toks) (fun b o hb e => (sb.2 b hb).trans e) f0 f1 f3 f4 f5
    obtain ⟨o, e, c, d⟩ := id st'
    exact ⟨u, rfl, go_of (s := { s with heap := h' }) e c d (by decide) ⟨x, H, I1, ru, ⟨rfl, fun ys hy => by rw [I.tuple_inj hy hq]; exact hx⟩, st', fun b hb => (hf b hb).1⟩⟩
  done := by
    intro X hP hw hK hc i pins s σ H E I hf st hg
    subst hP hw hK
    obtain ⟨xs, hq, hx⟩ := hg
    obtain ⟨its, rv, p, hz⟩ := I.tuple hq
    obtain ⟨f0, f1, f2, f3, f4, f5⟩ := hf it (by simp)
    have hl := rv.length
    exact wpAny_pyNext_tuple_end (I.ok.hd hc) st (show s.heap.IsTuple a its.toArray from p) (by simp; omega) fun h' eb => ⟨rfl, I.turned (t' := s.toks) (fun b o hb e => eb b o hb e) f0 f1 f3 f4 f5⟩
  self := fun _ _ _ _ _ st h => wpAny_pyIter_tupleiter st h
theorem turn_range {P : Program} {w : World} {K : PySem.W.Frag} {tg : Expr} (it : Addr) (lo : Int) (n : Nat) : Turn P w K tg (Itr lo n) [it] it (fun i h => IsRangeIter h it (lo + (i : Nat) * 1) ((n : Int) - (i : Nat)) 1) where
  mem := by simp
  obj := fun i h st b hb => by
    have e : b = it := by simpa using hb
    subst e
    exact ⟨_, st, fun v z => by
      have z' : Data.fields _ = Data.cell v := z
      cases z'⟩
  keep := fun i h h' st k => k it (by simp) _ st
  item := by
    intro X hP hw hK hc i pins s σ H E I hf st hg
    subst hP hw hK
    obtain ⟨f0, f1, f2, f3, f4, f5⟩ := hf it (by simp)
    have W := Walks.range (prog := X.prog) (w := X.w) (I.ok.hd hc) it lo 1 n
    refine W.item i s _ _ hg st fun v h' tk hv st' kk => ?_
    obtain ⟨t, rfl⟩ := hv
    have I1 : Inv X pins σ H { s with heap := h', toks := tk } := I.turned (fun b o hb e => kk b o (by simpa using hb) e) f0 f1 f3 f4 f5
    refine ⟨_, rfl, go_of (s := { s with heap := h', toks := tk }) (n := "range_iterator") st' rfl rfl (by decide) ⟨.int (lo + i), H, I1, ⟨t, ?_⟩, ⟨rfl, rfl⟩, st', fun b hb => (hf b hb).1⟩⟩
    rw [Int.mul_one]
  done := by
    intro X hP hw hK hc i pins s σ H E I hf st hg
    subst hP hw hK
    obtain ⟨f0, f1, f2, f3, f4, f5⟩ := hf it (by simp)
    exact wpAny_pyNext_range_end (I.ok.hd hc) st (by have : n ≤ i := hg; omega) fun h' eb => ⟨rfl, I.turned (t' := s.toks) (fun b o hb e => eb b o hb e) f0 f1 f3 f4 f5⟩
  self := fun _ _ _ _ _ st h => wpAny_pyIter_rangeiter st h
end L2

namespace L2
open PySem PySem.Spec PyProof.Rows
section
variable {X : Cx} {tg : Expr}
/-- a range object just made, walked -/
theorem range_it {pins : List (Addr × Obj)} {σ : St} {H : Hp} {s : Shared} {R : It → Hp → Prop} {E : Value → Shared → Prop} {lo hi : Int} {t u v : Tok} {tk : Nat} (I : Inv X pins σ H s) (h1 : -(2 ^ 62) ≤ lo) (h2 : lo < 2 ^ 62) (h3 : -(2 ^ 62) ≤ hi) (h4 : hi < 2 ^ 62)
    (q : R (Itr lo (hi - lo).toNat) H) : wpAny (model X.prog X.w) X.A (pyIter (.ref s.heap.objs.size)) (PIE X pins σ tg R) E { s with heap := s.heap.push { cls := .type "range", data := .fields #[.int lo t, .int hi u, .int 1 v] }, toks := tk } := by
  refine wpAny_pyIter_range (IsRange.new ..) (small_one h1 h2 h3 h4) ?_
  have I1 : Inv X pins σ H { s with heap := s.heap.push { cls := .type "range", data := .fields #[.int lo t, .int hi u, .int 1 v] }, toks := tk } := I.kept fun b o e => Heap.get?_push_of_some _ e
  refine ⟨(s.heap.push { cls := .type "range", data := .fields #[.int lo t, .int hi u, .int 1 v] }).objs.size, [(s.heap.push { cls := .type "range", data := .fields #[.int lo t, .int hi u, .int 1 v] }).objs.size], _, _, H, rfl,
    I1.kept (t' := tk) fun b o e => Heap.get?_push_of_some _ e, turn_range _ lo (hi - lo).toNat, ?_, fun b hb => ?_, q⟩
  · have e1 : lo + ((0 : Nat) : Int) * 1 = lo := by simp
    have e2 : (((hi - lo).toNat : Nat) : Int) - ((0 : Nat) : Int) = Builtin.Range.rangeSize lo hi 1 := by rw [rangeSize_one]; split <;> omega
    show IsRangeIter _ _ (lo + ((0 : Nat) : Int) * 1) ((((hi - lo).toNat : Nat) : Int) - ((0 : Nat) : Int)) 1
    rw [e1, e2]
    exact Heap.get?_push_size _ rfl
  · have e : b = (s.heap.push { cls := .type "range", data := .fields #[.int lo t, .int hi u, .int 1 v] }).objs.size := by simpa using hb
    subst e
    exact I1.fpOk (Nat.le_refl _) (I1.hok.fresh (Nat.le_refl _))
def iRng1 (ta : TA) : TI := fun σ H R => ta σ H fun vs H1 => ∃ j : Int, vs = [.int j] ∧ -(2 ^ 62) ≤ j ∧ j < 2 ^ 62 ∧ R (Itr 0 j.toNat) H1
def iRng2 (ta : TA) : TI := fun σ H R => ta σ H fun vs H1 => ∃ i j : Int, vs = [.int i, .int j] ∧ (-(2 ^ 62) ≤ i ∧ i < 2 ^ 62 ∧ -(2 ^ 62) ≤ j ∧ j < 2 ^ 62) ∧ R (Itr i (j - i).toNat) H1
theorem pi_range1 {a : Expr} {ta : TA} {p pos : Pos} (hg : Gl X "range") (hm : X.mg "range" = none) (ha : PA X [a] ta) (hs : starEach [a] X.env = [(false, eval a X.env)] := by rfl) : PI X tg (.Call (.Name "range" p) [a] [] pos) (iRng1 ta) := by
  intro pins s σ H R I h
  refine Call_ (ld_blt I hg hm boot_range (PyProof.Rows.callWith_type1 (thn (ha pos pins s σ H _ I h) fun us s1 ⟨vs, H1, I1, r1, q1⟩ => ?_) hs rfl))
  obtain ⟨j, e, q1, q2, q⟩ := q1
  subst e
  cases r1 with
  | cons r rr =>
    cases rr
    obtain ⟨t, rfl⟩ := r
    exact call_range_1 (range_it I1 (by omega) (by omega) q1 q2 (by simpa using q))
theorem pi_range2 {a b : Expr} {ta : TA} {p pos : Pos} (hg : Gl X "range") (hm : X.mg "range" = none) (ha : PA X [a, b] ta) (hs : starEach [a, b] X.env = [(false, eval a X.env), (false, eval b X.env)] := by rfl) (hs2 : starEach [b] X.env = [(false, eval b X.env)] := by rfl) :
    PI X tg (.Call (.Name "range" p) [a, b] [] pos) (iRng2 ta) := by
  intro pins s σ H R I h
  refine Call_ (ld_blt I hg hm boot_range (PyProof.Rows.callWith_type1 (thn (ha pos pins s σ H _ I h) fun us s1 ⟨vs, H1, I1, r1, q1⟩ => ?_) (by rw [hs, hs2]) (by rw [hs2]; rfl)))
  obtain ⟨i, j, e, ⟨q1, q2, q3, q4⟩, q⟩ := q1
  subst e
  cases r1 with
  | cons r rr =>
    cases rr with
    | cons r' rr =>
      cases rr
      obtain ⟨t, rfl⟩ := r
      obtain ⟨t', rfl⟩ := r'
      exact call_range_2 (range_it I1 q1 q2 q3 q4 q)

/-- W: the invariant by the turn and a measure; N: what the body is to reach -/
def tFor (wi : TI) (g : TG) (tb : TS) : TS := fun D σ H => wi σ H fun J H1 => ∃ W : Nat → Nat → St → Hp → Prop, (∃ m, W 0 m σ H1) ∧ ∀ i m σ H, W i m σ H →
  (J.stop i H ∧ D.nx σ H) ∨ (J.go i H ∧ ∃ N : St → Hp → Prop, (∀ σ' H', N σ' H' → ∃ m', m' < m ∧ W (i + 1) m' σ' H') ∧ ∀ x H', J.yld i H x H' → g x σ H' fun σ2 H2 => tb { D with nx := N, ct := N, bk := D.nx } σ2 H2)
/-- the records at fp as they stand -/
def pinsAt (fp : List Addr) (h : Heap) : List (Addr × Obj) := fp.filterMap fun b => (h.get? b).map fun o => (b, o)
theorem mem_pinsAt {fp : List Addr} {h : Heap} {b : Addr} {o : Obj} (hb : b ∈ fp) (e : h.get? b = some o) : (b, o) ∈ pinsAt fp h := List.mem_filterMap.mpr ⟨b, hb, by rw [e]; rfl⟩
theorem of_pinsAt {fp : List Addr} {h : Heap} {p : Addr × Obj} (hp : p ∈ pinsAt fp h) : p.1 ∈ fp ∧ h.get? p.1 = some p.2 := by
  obtain ⟨b, hb, e⟩ := List.mem_filterMap.mp hp
  cases q : h.get? b with
  | none => rw [q] at e; cases e
  | some o =>
    rw [q] at e
    have e' : (b, o) = p := Option.some.inj e
    subst e'
    exact ⟨hb, q⟩
theorem Inv.pinned {pins : List (Addr × Obj)} {σ : St} {H : Hp} {s : Shared} {fp : List Addr} (I : Inv X pins σ H s) (hf : ∀ b ∈ fp, FpOk X pins H b) (ho : ∀ b ∈ fp, ∃ o, s.heap.get? b = some o ∧ ∀ v, o.data ≠ .cell v) : Inv X (pins ++ pinsAt fp s.heap) σ H s :=
  I.pins_of fun p hp => (List.mem_append.mp hp).elim (fun z => I.pin p (List.mem_append_right _ z)) fun z => by
    obtain ⟨hb, e⟩ := of_pinsAt z
    obtain ⟨f0, f1, f2, _⟩ := hf p.1 hb
    obtain ⟨o, e', d⟩ := ho p.1 hb
    rw [e] at e'; cases e'
    exact ⟨e, f0, f1, f2, d⟩
theorem Inv.unpinned {pins pl : List (Addr × Obj)} {σ : St} {H : Hp} {s : Shared} (I : Inv X (pins ++ pl) σ H s) : Inv X pins σ H s := I.pins_of fun p hp => I.pin p (List.mem_append_right _ (List.mem_append_left _ hp))
theorem ps_for {iter : Expr} {body : List Stmt} {wi : TI} {g : TG} {tb : TS} {pos : Pos} (hp : PassesOwn (model X.prog X.w) X.A X.env X.xe) (hc : X.calm = true) (hi : PI X tg iter wi) (hg : PG X tg g) (hb : PSs X body tb)
    (hs : ∀ x, foldedSetIterable iter X.env x = pure x := by intro _; rfl) : PS X (.For tg iter body [] pos) (tFor wi g tb) := by
  intro pins s σ H D I h
  refine wpAny_For (thn (hi pins s σ H _ I h) fun v s1 h1 => thn h1 fun itv s2 h2 => ?_) hs
  obtain ⟨it, fp, tn, J, H2, e, I2, T, st2, f2, W, ⟨m0, w0⟩, turn⟩ := h2
  subst e
  -- what stays true of the iterator's objects through the loop
  have stat : ∀ {H' : Hp}, (∀ b ∈ fp, H' b = none) → ∀ b ∈ fp, FpOk X pins H' b := fun hn b hb => ⟨hn b hb, (f2 b hb).2⟩
  refine codeAny_forLoop_any (fun n s' => ∃ i σ' H', Inv X pins σ' H' s' ∧ tn i s'.heap ∧ (∀ b ∈ fp, H' b = none) ∧ W i n σ' H') ?_ m0 ⟨0, σ, H2, I2, st2, fun b hb => (f2 b hb).1, w0⟩
  rintro n s3 ⟨i, σ3, H3, I3, st3, fr3, w3⟩
  rcases turn i n σ3 H3 w3 with ⟨stop, qn⟩ | ⟨go, N, hN, step⟩
  · refine wpAny_passesOwn hp (thn (T.done X rfl rfl rfl hc i pins s3 σ3 H3 X.xe I3 (stat fr3) st3 stop) fun r s4 ⟨hr, I4⟩ => ?_)
    subst hr
    exact wpAny_execs_nil ⟨σ3, H3, I4, qn⟩
  · refine wpAny_passesOwn hp (thn (T.item X rfl rfl rfl hc i pins s3 σ3 H3 X.xe I3 (stat fr3) st3 go) fun r s4 ⟨u, hr, h4⟩ => ?_)
    subst hr
    refine wpAny_passesOwn hp (thn h4 fun _ s5 ⟨x, H5, I5, r5, y5, st5, fr5⟩ => ?_)
    have I5' := I5.pinned (stat fr5) (T.obj _ _ st5)
    refine wpAny_passesOwn hp (thn (hg _ s5 σ3 H5 x u _ I5' r5 (step x H5 y5)) fun _ s6 ⟨σ6, H6, I6, q6⟩ => ?_)
    refine wpAny_passesOwn hp (thn (hb _ s6 σ6 H6 _ I6 q6) fun f s7 q7 => ?_)
    have again : ∀ {σ7 : St} {H7 : Hp}, Inv X (pins ++ pinsAt fp s5.heap) σ7 H7 s7 → N σ7 H7 → ∃ m, m < n ∧ ∃ i σ' H', Inv X pins σ' H' s7 ∧ tn i s7.heap ∧ (∀ b ∈ fp, H' b = none) ∧ W i m σ' H' := fun {σ7 H7} I7 n7 => by
      obtain ⟨m', hm, w7⟩ := hN σ7 H7 n7
      refine ⟨m', hm, i + 1, σ7, H7, I7.unpinned, T.keep _ _ _ st5 fun b hb o e => (I7.pin (b, o) (List.mem_append_right _ (List.mem_append_right _ (mem_pinsAt hb e)))).1, fun b hb => ?_, w7⟩
      obtain ⟨o, e, d⟩ := T.obj _ _ st5 b hb
      exact (I7.pin (b, o) (List.mem_append_right _ (List.mem_append_right _ (mem_pinsAt hb e)))).2.1
    cases f with
    | next => obtain ⟨σ7, H7, I7, n7⟩ := q7; exact again I7 n7
    | cont => obtain ⟨σ7, H7, I7, n7⟩ := q7; exact again I7 n7
    | brk => obtain ⟨σ7, H7, I7, q7⟩ := q7; exact ⟨σ7, H7, I7.unpinned, q7⟩
    | ret v => obtain ⟨x7, σ7, H7, I7, r7, q7⟩ := q7; exact ⟨x7, σ7, H7, I7.unpinned, r7, q7⟩
end

/-- over a list that the body leaves as it is -/
theorem for_list {K : PySem.W.Frag} {a : Addr} {xs : List V} {g : TG} {tb : TS} {D : Ends} {σ : St} {H : Hp} (Pv : Nat → St → Hp → Prop) (h0 : Pv 0 σ H) (hl : ∀ i σ H, i ≤ xs.length → Pv i σ H → SqL K H a xs)
    (hs : ∀ i x σ H, xs[i]? = some x → Pv i σ H → g x σ H fun σ2 H2 => tb { D with nx := Pv (i + 1), ct := Pv (i + 1), bk := D.nx } σ2 H2) (hd : ∀ σ H, Pv xs.length σ H → D.nx σ H) :
    ∃ W : Nat → Nat → St → Hp → Prop, (∃ m, W 0 m σ H) ∧ ∀ i m σ H, W i m σ H →
      ((Itl K a).stop i H ∧ D.nx σ H) ∨ ((Itl K a).go i H ∧ ∃ N : St → Hp → Prop, (∀ σ' H', N σ' H' → ∃ m', m' < m ∧ W (i + 1) m' σ' H') ∧ ∀ x H', (Itl K a).yld i H x H' → g x σ H' fun σ2 H2 => tb { D with nx := N, ct := N, bk := D.nx } σ2 H2) := by
  refine ⟨fun i m σ H => m = xs.length - i ∧ i ≤ xs.length ∧ Pv i σ H, ⟨xs.length, by simp, Nat.zero_le _, h0⟩, ?_⟩
  rintro i m σ H ⟨rfl, hi, p⟩
  have q := hl i σ H hi p
  by_cases hlt : i < xs.length
  · refine .inr ⟨⟨xs, xs[i], q, by simp [hlt]⟩, Pv (i + 1), fun σ' H' p' => ⟨xs.length - (i + 1), by omega, rfl, hlt, p'⟩, fun x H' y => ?_⟩
    obtain ⟨e, y⟩ := y
    subst e
    exact hs i x σ _ (y xs q) p
  · have e : i = xs.length := by omega
    subst e
    exact .inl ⟨⟨xs, q, Nat.le_refl _⟩, hd σ H p⟩
theorem for_tup {K : PySem.W.Frag} {a : Addr} {xs : List V} {g : TG} {tb : TS} {D : Ends} {σ : St} {H : Hp} (Pv : Nat → St → Hp → Prop) (h0 : Pv 0 σ H) (hl : ∀ i σ H, i ≤ xs.length → Pv i σ H → SqT K H a xs)
    (hs : ∀ i x σ H, xs[i]? = some x → Pv i σ H → g x σ H fun σ2 H2 => tb { D with nx := Pv (i + 1), ct := Pv (i + 1), bk := D.nx } σ2 H2) (hd : ∀ σ H, Pv xs.length σ H → D.nx σ H) :
    ∃ W : Nat → Nat → St → Hp → Prop, (∃ m, W 0 m σ H) ∧ ∀ i m σ H, W i m σ H →
      ((Itt K a).stop i H ∧ D.nx σ H) ∨ ((Itt K a).go i H ∧ ∃ N : St → Hp → Prop, (∀ σ' H', N σ' H' → ∃ m', m' < m ∧ W (i + 1) m' σ' H') ∧ ∀ x H', (Itt K a).yld i H x H' → g x σ H' fun σ2 H2 => tb { D with nx := N, ct := N, bk := D.nx } σ2 H2) := by
  refine ⟨fun i m σ H => m = xs.length - i ∧ i ≤ xs.length ∧ Pv i σ H, ⟨xs.length, by simp, Nat.zero_le _, h0⟩, ?_⟩
  rintro i m σ H ⟨rfl, hi, p⟩
  have q := hl i σ H hi p
  by_cases hlt : i < xs.length
  · refine .inr ⟨⟨xs, xs[i], q, by simp [hlt]⟩, Pv (i + 1), fun σ' H' p' => ⟨xs.length - (i + 1), by omega, rfl, hlt, p'⟩, fun x H' y => ?_⟩
    obtain ⟨e, y⟩ := y
    subst e
    exact hs i x σ _ (y xs q) p
  · have e : i = xs.length := by omega
    subst e
    exact .inl ⟨⟨xs, q, Nat.le_refl _⟩, hd σ H p⟩
theorem for_range {lo : Int} {n : Nat} {g : TG} {tb : TS} {D : Ends} {σ : St} {H : Hp} (Pv : Nat → St → Hp → Prop) (h0 : Pv 0 σ H)
    (hs : ∀ i σ H, i < n → Pv i σ H → g (.int (lo + i)) σ H fun σ2 H2 => tb { D with nx := Pv (i + 1), ct := Pv (i + 1), bk := D.nx } σ2 H2) (hd : ∀ σ H, Pv n σ H → D.nx σ H) :
    ∃ W : Nat → Nat → St → Hp → Prop, (∃ m, W 0 m σ H) ∧ ∀ i m σ H, W i m σ H →
      ((Itr lo n).stop i H ∧ D.nx σ H) ∨ ((Itr lo n).go i H ∧ ∃ N : St → Hp → Prop, (∀ σ' H', N σ' H' → ∃ m', m' < m ∧ W (i + 1) m' σ' H') ∧ ∀ x H', (Itr lo n).yld i H x H' → g x σ H' fun σ2 H2 => tb { D with nx := N, ct := N, bk := D.nx } σ2 H2) := by
  refine ⟨fun i m σ H => m = n - i ∧ i ≤ n ∧ Pv i σ H, ⟨n, by simp, Nat.zero_le _, h0⟩, ?_⟩
  rintro i m σ H ⟨rfl, hi, p⟩
  by_cases hlt : i < n
  · refine .inr ⟨hlt, Pv (i + 1), fun σ' H' p' => ⟨n - (i + 1), by omega, rfl, hlt, p'⟩, fun x H' y => ?_⟩
    obtain ⟨e, y⟩ := y
    subst e y
    exact hs i σ _ hlt p
  · have e : i = n := by omega
    subst e
    exact .inl ⟨Nat.le_refl _, hd σ H p⟩
end L2

namespace L2
open PySem PySem.Spec PyProof.Rows

abbrev R2 := V → V → Hp → VK → Prop
/-- a two-place operation on values: f is binaryOp op, inplaceOp op or compareOp op -/
def OpR (X : Cx) (f : Value → Value → Sem Value) (r : R2) : Prop :=
  ∀ (pins : List (Addr × Obj)) (s : Shared) (σ : St) (H : Hp) (x y : V) (v u : Value) (Q : VK), Inv X pins σ H s → RelV x v → RelV y u → r x y H Q →
    wpAny (model X.prog X.w) X.A (f v u) (EP X pins σ Q) X.xe s
/-- a one-place operation -/
def UnR (X : Cx) (f : Value → Sem Value) (r : V → Hp → VK → Prop) : Prop :=
  ∀ (pins : List (Addr × Obj)) (s : Shared) (σ : St) (H : Hp) (x : V) (v : Value) (Q : VK), Inv X pins σ H s → RelV x v → r x H Q →
    wpAny (model X.prog X.w) X.A (f v) (EP X pins σ Q) X.xe s
/-- a call of a value that is known (a builtin, a type) with values -/
def CallR (X : Cx) (f : Value) (r : List V → Hp → VK → Prop) : Prop :=
  ∀ (pins : List (Addr × Obj)) (s : Shared) (σ : St) (H : Hp) (xs : List V) (us : List Value) (Q : VK), Inv X pins σ H s → Vals xs us → r xs H Q →
    wpAny (model X.prog X.w) X.A (call f us) (EP X pins σ Q) X.xe s
/-- a value's truth -/
def TruR (X : Cx) (r : V → Hp → (Bool → Hp → Prop) → Prop) : Prop :=
  ∀ (pins : List (Addr × Obj)) (s : Shared) (σ : St) (H : Hp) (x : V) (v : Value) (Q : Bool → Hp → Prop), Inv X pins σ H s → RelV x v → r x H Q →
    wpAny (model X.prog X.w) X.A (truthy v) (TP X pins σ Q) X.xe s

def tOp (r : R2) (ta tb : TE) : TE := fun σ H Q => ta σ H fun x H1 => tb σ H1 fun y H2 => r x y H2 Q
def tUn (r : V → Hp → VK → Prop) (ta : TE) : TE := fun σ H Q => ta σ H fun x H1 => r x H1 Q
/-- ints in, under C, and a value out -/
def rI (C : Int → Int → Prop) (g : Int → Int → V) : R2 := fun x y H Q => ∃ i j, x = .int i ∧ y = .int j ∧ C i j ∧ Q (g i j) H
def rI0 (g : Int → Int → V) : R2 := fun x y H Q => ∃ i j, x = .int i ∧ y = .int j ∧ Q (g i j) H
def rU (g : Int → V) : V → Hp → VK → Prop := fun x H Q => ∃ i, x = .int i ∧ Q (g i) H

section
variable {X : Cx} {a b c : Expr} {ta tb tc : TE} {pos : Pos}

theorem binT (ha : PE X a ta) (hb : PE X b tb) {pins : List (Addr × Obj)} {s : Shared} {σ : St} {H : Hp} {R : V → V → Hp → Prop} (I : Inv X pins σ H s)
    (h : ta σ H fun x H1 => tb σ H1 fun y H2 => R x y H2) {Q : Value → Shared → Prop} {f : Value → Value → Sem Value}
    (hf : ∀ v u s2 x y H2, Inv X pins σ H2 s2 → RelV x v → RelV y u → R x y H2 → wpAny (model X.prog X.w) X.A (f v u) Q X.xe s2) :
    wpAny (model X.prog X.w) X.A (eval a X.env) (fun v s₁ => wpAny (model X.prog X.w) X.A (eval b X.env) (fun u s₂ => wpAny (model X.prog X.w) X.A (f v u) Q X.xe s₂) X.xe s₁) X.xe s := by
  refine thn (ha pins s σ H _ I h) fun v s1 ⟨x, H1, I1, r1, q1⟩ => ?_
  refine thn (hb pins s1 σ H1 _ I1 q1) fun u s2 ⟨y, H2, I2, r2, q2⟩ => ?_
  exact hf v u s2 x y H2 I2 r1 r2 q2

theorem pe_op {op : Operator} {r : R2} (ho : OpR X (binaryOp op) r) (ha : PE X a ta) (hb : PE X b tb) : PE X (.BinOp a op b pos) (tOp r ta tb) := by
  intro pins s σ H Q I h
  exact wpAny_BinOp (binT ha hb I h fun v u s2 x y H2 I2 rx ry q => ho pins s2 σ H2 x y v u Q I2 rx ry q)
theorem pe_un {op : UnaryOp} {r : V → Hp → VK → Prop} (ho : UnR X (unaryOp op) r) (ha : PE X a ta) : PE X (.UnaryOp op a pos) (tUn r ta) := by
  intro pins s σ H Q I h
  exact UnaryOp_ (thn (ha pins s σ H _ I h) fun v s1 ⟨x, H1, I1, r1, q1⟩ => ho pins s1 σ H1 x v Q I1 r1 q1)
theorem opI {f : Value → Value → Sem Value} {C : Int → Int → Prop} {g : Int → Int → Int}
    (rule : ∀ (i j : Int) (t u : Tok) (s : Shared) (Q : Value → Shared → Prop) (E : Value → Shared → Prop), C i j → Q (.int (g i j) s.toks) { s with toks := s.toks + 1 } → wpAny (model X.prog X.w) X.A (f (.int i t) (.int j u)) Q E s) :
    OpR X f (rI C fun i j => .int (g i j)) := by
  intro pins s σ H x y v u Q I rx ry h
  obtain ⟨i, j, rfl, rfl, hc, q⟩ := h
  obtain ⟨t, rfl⟩ := rx
  obtain ⟨t', rfl⟩ := ry
  exact rule i j t t' s _ _ hc ⟨.int (g i j), H, I.tok _, ⟨_, rfl⟩, q⟩
theorem opI0 {f : Value → Value → Sem Value} {g : Int → Int → Int}
    (rule : ∀ (i j : Int) (t u : Tok) (s : Shared) (Q : Value → Shared → Prop) (E : Value → Shared → Prop), Q (.int (g i j) s.toks) { s with toks := s.toks + 1 } → wpAny (model X.prog X.w) X.A (f (.int i t) (.int j u)) Q E s) :
    OpR X f (rI0 fun i j => .int (g i j)) := by
  intro pins s σ H x y v u Q I rx ry h
  obtain ⟨i, j, rfl, rfl, q⟩ := h
  obtain ⟨t, rfl⟩ := rx
  obtain ⟨t', rfl⟩ := ry
  exact rule i j t t' s _ _ ⟨.int (g i j), H, I.tok _, ⟨_, rfl⟩, q⟩
theorem opB0 {f : Value → Value → Sem Value} {g : Int → Int → Bool}
    (rule : ∀ (i j : Int) (t u : Tok) (s : Shared) (Q : Value → Shared → Prop) (E : Value → Shared → Prop), Q (.bool (g i j)) s → wpAny (model X.prog X.w) X.A (f (.int i t) (.int j u)) Q E s) :
    OpR X f (rI0 fun i j => .bl (g i j)) := by
  intro pins s σ H x y v u Q I rx ry h
  obtain ⟨i, j, rfl, rfl, q⟩ := h
  obtain ⟨t, rfl⟩ := rx
  obtain ⟨t', rfl⟩ := ry
  exact rule i j t t' s _ _ ⟨.bl (g i j), H, I, rfl, q⟩

def CPow (i j : Int) : Prop := 0 ≤ j ∧ j ≤ 1000000 ∧ i.natAbs < 2 ^ 64
def CMul (i j : Int) : Prop := (-(2 ^ 64) < i ∧ i < 2 ^ 64) ∨ (-(2 ^ 64) < j ∧ j < 2 ^ 64)
theorem CMul.ok {i j : Int} (h : CMul i j) : IntMulOk i j := by
  rcases h with ⟨h1, h2⟩ | ⟨h1, h2⟩
  · exact .of_left (intBits_le_64 h1 h2)
  · exact .of_right (intBits_le_64 h1 h2)
theorem two_pow_nn (k : Nat) : (0 : Int) ≤ 2 ^ k := by
  rw [two_pow_cast]
  exact Int.natCast_nonneg _

theorem op_add : OpR X (binaryOp .Add) (rI0 fun i j => .int (i + j)) := opI0 fun _ _ _ _ _ _ _ q => add_int q
theorem op_sub : OpR X (binaryOp .Sub) (rI0 fun i j => .int (i - j)) := opI0 fun _ _ _ _ _ _ _ q => sub_int q
theorem op_mul : OpR X (binaryOp .Mult) (rI CMul fun i j => .int (i * j)) := opI fun _ _ _ _ _ _ _ hc q => mul_int q hc.ok
/-- % by a positive divisor of any size -/
theorem op_mod : OpR X (binaryOp .Mod) (rI (fun _ j => 0 < j) fun i j => .int (i % j)) := opI fun i j _ _ _ _ _ hc q => by
  have h1 : (0 : Int) < j := hc
  exact mod_int' (by omega) (by rw [Int.fmod_eq_emod_of_nonneg i (by omega)]; exact q)
theorem op_shl : OpR X (binaryOp .LShift) (rI CPow fun i j => .int (i * 2 ^ j.toNat)) := opI fun _ _ _ _ _ _ _ hc q => lshift_int_small hc.1 hc.2.1 hc.2.2 q
theorem op_shr : OpR X (binaryOp .RShift) (rI (fun _ j => 0 ≤ j) fun i j => .int (i / 2 ^ j.toNat)) := opI fun i j _ _ _ _ _ hc q =>
  rshift_int hc (by rw [Int.fdiv_eq_ediv_of_nonneg i (two_pow_nn _)]; exact q)
theorem op_and : OpR X (binaryOp .BitAnd) (rI0 fun i j => .int (Builtin.bitAnd i j)) := opI0 fun _ _ _ _ _ _ _ q => and_int q
theorem op_or : OpR X (binaryOp .BitOr) (rI0 fun i j => .int (Builtin.bitOr i j)) := opI0 fun _ _ _ _ _ _ _ q => or_int q
theorem unI {f : Value → Sem Value} {g : Int → Int}
    (rule : ∀ (i : Int) (t : Tok) (s : Shared) (Q : Value → Shared → Prop) (E : Value → Shared → Prop), Q (.int (g i) s.toks) { s with toks := s.toks + 1 } → wpAny (model X.prog X.w) X.A (f (.int i t)) Q E s) :
    UnR X f (rU fun i => .int (g i)) := by
  intro pins s σ H x v Q I rx h
  obtain ⟨i, rfl, q⟩ := h
  obtain ⟨t, rfl⟩ := rx
  exact rule i t s _ _ ⟨.int (g i), H, I.tok _, ⟨_, rfl⟩, q⟩
theorem un_neg : UnR X (unaryOp .USub) (rU fun i => .int (-i)) := unI fun _ _ _ _ _ q => neg_int q
theorem un_inv : UnR X (unaryOp .Invert) (rU fun i => .int (Builtin.bitNot i)) := unI fun _ _ _ _ _ q => invert_int q

end

/-- the scalars that == tells apart as data does -/
def scal : V → V → Bool
  | .non, .non => true | .non, .int _ => true | .int _, .non => true | .non, .bl _ => true | .bl _, .non => true | .non, .str _ => true | .str _, .non => true
  | .int _, .int _ => true | .bl _, .bl _ => true | .str _, .str _ => true | .byt _, .byt _ => true
  | .int _, .str _ => true | .str _, .int _ => true | .bl _, .str _ => true | .str _, .bl _ => true
  | _, _ => false
def rEq : R2 := fun x y H Q => scal x y = true ∧ Q (.bl (decide (x = y))) H
def rNe : R2 := fun x y H Q => scal x y = true ∧ Q (.bl (!decide (x = y))) H

theorem dec_int {i j : Int} : decide (V.int i = V.int j) = (i == j) := by
  rw [Bool.eq_iff_iff]
  simp
theorem dec_bl {i j : Bool} : decide (V.bl i = V.bl j) = (i == j) := by
  rw [Bool.eq_iff_iff]
  simp
theorem dec_str {i j : Str} : decide (V.str i = V.str j) = (i == j) := by
  rw [Bool.eq_iff_iff]
  simp
theorem dec_byt {i j : Array UInt8} : decide (V.byt i = V.byt j) = (i.toList == j.toList) := by
  rw [Bool.eq_iff_iff]
  cases i
  cases j
  simp

section
variable {X : Cx} {a b c : Expr} {ta tb tc : TE} {pos : Pos}
theorem fin_bl {pins : List (Addr × Obj)} {σ : St} {H : Hp} {s : Shared} {Q : VK} {k k' : Bool} (I : Inv X pins σ H s) (q : Q (.bl k) H) (e : k = k') : EP X pins σ Q (.bool k') s := by
  subst e
  exact ⟨.bl k, H, I, rfl, q⟩
theorem op_eq : OpR X (compareOp .Eq) rEq := by
  intro pins s σ H x y v u Q I rx ry h
  obtain ⟨hs, q⟩ := h
  cases x with
  | non =>
    cases rx
    cases y with
    | non => cases ry; exact PySem.EqNone.eq_none_none (fin_bl I q (by simp))
    | bl j => cases ry; exact PySem.EqNone.eq_none_bool (fin_bl I q (by simp))
    | int j => obtain ⟨t', rfl⟩ := ry; exact PySem.EqNone.eq_none_int (fin_bl I q (by simp))
    | str j => obtain ⟨t', rfl⟩ := ry; exact PySem.EqNone.eq_none_str (fin_bl I q (by simp))
    | _ => exact absurd (show false = true from hs) Bool.false_ne_true
  | bl i =>
    cases rx
    cases y with
    | non => cases ry; exact PySem.EqNone.eq_bool_none (fin_bl I q (by simp))
    | bl j => cases ry; exact eq_bool (fin_bl I q dec_bl)
    | str j => obtain ⟨t', rfl⟩ := ry; exact PySem.EqMixed.eq_bool_str (fin_bl I q (by simp))
    | _ => exact absurd (show false = true from hs) Bool.false_ne_true
  | int i =>
    obtain ⟨t, rfl⟩ := rx
    cases y with
    | non => cases ry; exact PySem.EqNone.eq_int_none (fin_bl I q (by simp))
    | int j => obtain ⟨t', rfl⟩ := ry; exact eq_int (fin_bl I q dec_int)
    | str j => obtain ⟨t', rfl⟩ := ry; exact PySem.EqMixed.eq_int_str (fin_bl I q (by simp))
    | _ => exact absurd (show false = true from hs) Bool.false_ne_true
  | str i =>
    obtain ⟨t, rfl⟩ := rx
    cases y with
    | non => cases ry; exact PySem.EqNone.eq_str_none (fin_bl I q (by simp))
    | bl j => cases ry; exact PySem.EqMixed.eq_str_bool (fin_bl I q (by simp))
    | int j => obtain ⟨t', rfl⟩ := ry; exact PySem.EqMixed.eq_str_int (fin_bl I q (by simp))
    | str j => obtain ⟨t', rfl⟩ := ry; exact eq_str (fin_bl I q dec_str)
    | _ => exact absurd (show false = true from hs) Bool.false_ne_true
  | byt i =>
    obtain ⟨t, rfl⟩ := rx
    cases y with
    | byt j => obtain ⟨t', rfl⟩ := ry; exact PySem.W.eq_bytes (fin_bl I q dec_byt)
    | _ => exact absurd (show false = true from hs) Bool.false_ne_true
  | _ => cases y <;> exact absurd (show false = true from hs) Bool.false_ne_true
theorem op_ne : OpR X (compareOp .NotEq) rNe := by
  intro pins s σ H x y v u Q I rx ry h
  obtain ⟨hs, q⟩ := h
  cases x with
  | non =>
    cases rx
    cases y with
    | non => cases ry; exact PySem.EqNone.ne_none_none (fin_bl I q (by simp))
    | bl j => cases ry; exact PySem.EqNone.ne_none_bool (fin_bl I q (by simp))
    | int j => obtain ⟨t', rfl⟩ := ry; exact PySem.EqNone.ne_none_int (fin_bl I q (by simp))
    | str j => obtain ⟨t', rfl⟩ := ry; exact PySem.EqNone.ne_none_str (fin_bl I q (by simp))
    | _ => exact absurd (show false = true from hs) Bool.false_ne_true
  | bl i =>
    cases rx
    cases y with
    | non => cases ry; exact PySem.EqNone.ne_bool_none (fin_bl I q (by simp))
    | bl j => cases ry; exact ne_bool (fin_bl I q (congrArg not dec_bl))
    | str j => obtain ⟨t', rfl⟩ := ry; exact PySem.EqMixed.ne_bool_str (fin_bl I q (by simp))
    | _ => exact absurd (show false = true from hs) Bool.false_ne_true
  | int i =>
    obtain ⟨t, rfl⟩ := rx
    cases y with
    | non => cases ry; exact PySem.EqNone.ne_int_none (fin_bl I q (by simp))
    | int j => obtain ⟨t', rfl⟩ := ry; exact ne_int (fin_bl I q (congrArg not dec_int))
    | str j => obtain ⟨t', rfl⟩ := ry; exact PySem.EqMixed.ne_int_str (fin_bl I q (by simp))
    | _ => exact absurd (show false = true from hs) Bool.false_ne_true
  | str i =>
    obtain ⟨t, rfl⟩ := rx
    cases y with
    | non => cases ry; exact PySem.EqNone.ne_str_none (fin_bl I q (by simp))
    | bl j => cases ry; exact PySem.EqMixed.ne_str_bool (fin_bl I q (by simp))
    | int j => obtain ⟨t', rfl⟩ := ry; exact PySem.EqMixed.ne_str_int (fin_bl I q (by simp))
    | str j => obtain ⟨t', rfl⟩ := ry; exact ne_str (fin_bl I q (congrArg not dec_str))
    | _ => exact absurd (show false = true from hs) Bool.false_ne_true
  | byt i =>
    obtain ⟨t, rfl⟩ := rx
    cases y with
    | byt j => obtain ⟨t', rfl⟩ := ry; exact PySem.W.ne_bytes (fin_bl I q (congrArg not dec_byt))
    | _ => exact absurd (show false = true from hs) Bool.false_ne_true
  | _ => cases y <;> exact absurd (show false = true from hs) Bool.false_ne_true

theorem op_lt : OpR X (compareOp .Lt) (rI0 fun i j => .bl (decide (i < j))) := opB0 fun _ _ _ _ _ _ _ q => lt_int q
theorem op_ge : OpR X (compareOp .GtE) (rI0 fun i j => .bl (decide (j ≤ i))) := opB0 fun _ _ _ _ _ _ _ q => ge_int q
/-- two rules for one operation: by cases -/
theorem OpR.or {f : Value → Value → Sem Value} {r r' : R2} (h : OpR X f r) (h' : OpR X f r') : OpR X f (fun x y H Q => r x y H Q ∨ r' x y H Q) := by
  intro pins s σ H x y v u Q I rx ry q
  rcases q with q | q
  · exact h pins s σ H x y v u Q I rx ry q
  · exact h' pins s σ H x y v u Q I rx ry q

theorem nomark (b : Expr) {op : CmpOp} (h : op ≠ .In := by decide) (h2 : op ≠ .NotIn := by decide) : behindInMarks op b = false := by
  have e1 : (op == CmpOp.In) = false := by cases op <;> first | rfl | exact absurd rfl h
  have e2 : (op == CmpOp.NotIn) = false := by cases op <;> first | rfl | exact absurd rfl h2
  cases b <;> simp [behindInMarks, e1, e2]
/-- a reading of a value as a test -/
def tTest (t : TE) : TT := fun σ H Q => t σ H fun x H' => ∃ k, x = .bl k ∧ Q k H'
theorem pt_cmpR {op : CmpOp} {r : R2} (ho : OpR X (compareOp op) r) (ha : PE X a ta) (hb : PE X b tb) (hm : behindInMarks op b = false) : PT X (.Compare a [op] [b] pos) (tTest (tOp r ta tb)) := by
  intro pins s σ H Q I h
  refine wpAny_isTrue_Compare1 (thn (ha pins s σ H _ I h) fun v s1 ⟨x, H1, I1, r1, q1⟩ => thn (hb pins s1 σ H1 _ I1 q1) fun u s2 ⟨y, H2, I2, r2, q2⟩ =>
    thn (ho pins s2 σ H2 x y v u _ I2 r1 r2 q2) fun c s3 ⟨z, H3, I3, r3, k, e, q3⟩ => ?_) hm
  subst e
  cases r3
  exact wpAny_truthy_bool ⟨H3, I3, q3⟩
/-- a value's truth by the abstract heap -/
def TruV (K : PySem.W.Frag) (x : V) (H : Hp) (k : Bool) : Prop :=
  match x with
  | .non => k = false
  | .bl b => k = b
  | .int i => k = (i != 0)
  | .str y => y.length ≤ sizeLine ∧ k = ((y.length : Int) != 0)
  | .byt y => y.size ≤ sizeLine ∧ k = ((y.size : Int) != 0)
  | .ref p => (∃ xs, SqL K H p xs ∧ k = !xs.isEmpty) ∨ (∃ xs, SqT K H p xs ∧ k = !xs.isEmpty) ∨ ∃ kvs, H p = some (.dK kvs) ∧ k = !kvs.isEmpty
  | _ => False
theorem isEmpty_kv {κ : Type} {kvs : List (κ × V)} {vs : List (κ × Value)} (r : KV kvs vs) : (!vs.isEmpty) = !kvs.isEmpty := by
  cases r <;> rfl
theorem isEmpty_of {xs : List V} {its : List Value} (r : Vals xs its) : (!its.toArray.isEmpty) = !xs.isEmpty := by
  cases r <;> simp
theorem line63 : (sizeLine : Nat) < 2 ^ 63 := by rw [sizeLine_eq]; decide
theorem tru_ok : TruR X (fun x H Q => ∃ k, TruV X.K x H k ∧ Q k H) := by
  intro pins s σ H x v Q I rx h
  obtain ⟨k, e, q⟩ := h
  have hl := line63
  have hs : sizeLine = 16777216 := sizeLine_eq
  cases x with
  | non =>
    cases rx
    have e' : k = false := e
    subst e'
    exact truthy_none ⟨H, I, q⟩
  | bl b =>
    cases rx
    have e' : k = b := e
    subst e'
    exact wpAny_truthy_bool ⟨H, I, q⟩
  | int i =>
    obtain ⟨t, rfl⟩ := rx
    have e' : k = (i != 0) := e
    subst e'
    exact PySem.P.truthy_int ⟨H, I, q⟩
  | str y =>
    obtain ⟨t, rfl⟩ := rx
    obtain ⟨hy, e'⟩ : y.length ≤ sizeLine ∧ k = ((y.length : Int) != 0) := e
    subst e'
    exact PySem.P.truthy_str (by omega) ⟨H, I.tok _, q⟩
  | byt y =>
    obtain ⟨t, rfl⟩ := rx
    obtain ⟨hy, e'⟩ : y.size ≤ sizeLine ∧ k = ((y.size : Int) != 0) := e
    subst e'
    exact PySem.W.truthy_bytes (by omega) ⟨H, I.tok _, q⟩
  | ref p =>
    cases rx
    have e' : (∃ xs, SqL X.K H p xs ∧ k = !xs.isEmpty) ∨ (∃ xs, SqT X.K H p xs ∧ k = !xs.isEmpty) ∨ ∃ kvs, H p = some (.dK kvs) ∧ k = !kvs.isEmpty := e
    rcases e' with ⟨xs, hx, e'⟩ | ⟨xs, hx, e'⟩ | ⟨kvs, hx, e'⟩
    · subst e'
      obtain ⟨its, r, pl, hz⟩ := I.list hx
      have hlen := r.length
      exact wpAny_truthy_list pl.isList (by simp only [List.size_toArray]; omega) ⟨H, I.tok _, by rw [isEmpty_of r]; exact q⟩
    · subst e'
      obtain ⟨its, r, pl, hz⟩ := I.tuple hx
      have hlen := r.length
      exact truthy_tuple pl (by simp only [List.size_toArray]; omega) ⟨H, I.tok _, by rw [isEmpty_of r]; exact q⟩
    · subst e'
      obtain ⟨hz, hS, vs, r, m⟩ : kvs.length ≤ sizeLine ∧ (p == sysModules) = false ∧ ∃ vs, KV kvs vs ∧ s.heap.DictOf (mixKind X.prog X.w) p vs := I.hok p _ hx
      have hlen : kvs.length = vs.length := Paired.length r
      exact wpAny_truthy_dict hS m (by omega) ⟨H, I.tok _, by rw [isEmpty_kv r]; exact q⟩
  | _ => exact (show False from e).elim
/-- any expression whose test is its value's truth (a name, a call, a subscript, a field ..: he by fun _ => rfl) -/
theorem pt_truth (ha : PE X a ta) (he : ∀ whole, isTrue a X.env whole = (do let v ← whole; standAt a.pos; holding [v] (truthy v))) :
    PT X a (fun σ H Q => ta σ H fun x H' => ∃ k, TruV X.K x H' k ∧ Q k H') := by
  intro pins s σ H Q I h
  exact isTrue_plain (thn (ha pins s σ H _ I h) fun v s1 ⟨x, H1, I1, r1, q1⟩ => tru_ok pins s1 σ H1 x v Q I1 r1 q1) (he _)

theorem op_add_str : OpR X (binaryOp .Add) (fun x y H Q => ∃ i j, x = .str i ∧ y = .str j ∧ i.length + j.length ≤ sizeLine ∧ Q (.str (i ++ j)) H) := by
  intro pins s σ H x y v u Q I rx ry h
  obtain ⟨i, j, rfl, rfl, hz, q⟩ := h
  obtain ⟨t, rfl⟩ := rx
  obtain ⟨t', rfl⟩ := ry
  exact add_str (fun t' tk => ⟨.str (i ++ j), H, I.tok _, ⟨_, rfl⟩, q⟩) hz
theorem vals1 {x : V} {us : List Value} (r : Vals [x] us) : ∃ u, us = [u] ∧ RelV x u := by
  cases r with
  | cons r1 r2 => cases r2; exact ⟨_, rfl, r1⟩
theorem vals2 {x y : V} {us : List Value} (r : Vals [x, y] us) : ∃ u w', us = [u, w'] ∧ RelV x u ∧ RelV y w' := by
  cases r with
  | cons r1 r2 =>
    cases r2 with
    | cons r3 r4 => cases r4; exact ⟨_, _, rfl, r1, r3⟩
/-- len of a str, a bytes, a list, a tuple -/
def LenV (K : PySem.W.Frag) (x : V) (H : Hp) (n : Nat) : Prop :=
  match x with
  | .str y => y.length ≤ sizeLine ∧ n = y.length
  | .byt y => y.size ≤ sizeLine ∧ n = y.size
  | .ref p => (∃ xs, SqL K H p xs ∧ n = xs.length) ∨ ∃ xs, SqT K H p xs ∧ n = xs.length
  | _ => False
theorem call_len : CallR X (.builtin "len") (fun xs H Q => ∃ x n, xs = [x] ∧ LenV X.K x H n ∧ Q (.int n) H) := by
  intro pins s σ H xs us Q I r h
  obtain ⟨x, n, rfl, e, q⟩ := h
  obtain ⟨u, rfl, rx⟩ := vals1 r
  have hl := line63
  have hs : sizeLine = 16777216 := sizeLine_eq
  cases x with
  | str y =>
    obtain ⟨t, rfl⟩ := rx
    obtain ⟨hy, e'⟩ : y.length ≤ sizeLine ∧ n = y.length := e
    subst e'
    exact len_str (by omega) ⟨.int _, H, I.tok _, ⟨_, rfl⟩, q⟩
  | byt y =>
    obtain ⟨t, rfl⟩ := rx
    obtain ⟨hy, e'⟩ : y.size ≤ sizeLine ∧ n = y.size := e
    subst e'
    exact PySem.W.len_bytes (by omega) ⟨.int _, H, I.tok _, ⟨_, rfl⟩, q⟩
  | ref p =>
    cases rx
    have e' : (∃ xs, SqL X.K H p xs ∧ n = xs.length) ∨ ∃ xs, SqT X.K H p xs ∧ n = xs.length := e
    rcases e' with ⟨xs, hx, e'⟩ | ⟨xs, hx, e'⟩
    · subst e'
      obtain ⟨its, r', pl, hz⟩ := I.list hx
      have hlen := r'.length
      exact Calls.call_len_list pl.isList (by simp only [List.size_toArray]; omega) ⟨.int xs.length, H, I.tok _, ⟨_, by simp only [List.size_toArray]; rw [hlen]⟩, q⟩
    · subst e'
      obtain ⟨its, r', pl, hz⟩ := I.tuple hx
      have hlen := r'.length
      exact len_tuple pl (by simp only [List.size_toArray]; omega) ⟨.int xs.length, H, I.tok _, ⟨_, by simp only [List.size_toArray]; rw [hlen]⟩, q⟩
  | _ => exact (show False from e).elim
end
end L2

namespace L2
open PySem PySem.Spec PyProof.Rows

structure ObjM (h : Heap) (x dx C : Addr) (mA : Str → Option Value) : Prop where
  obj : h.get? x = some (PySem.W.instObj C dx)
  ns : h.Ns1 dx mA
  ne : dx ≠ x

theorem lookIn_ns {h : Heap} {dx : Addr} {mA : Str → Option Value} (n : h.Ns1 dx mA) : ∃ od, h.get? dx = some od ∧ ∀ name, PySem.W.lookIn name od = some (mA name) := by
  obtain ⟨o, es, ep, ho, hd, hk, _, hm⟩ := n
  refine ⟨o, ho, fun name => ?_⟩
  have e := hm name
  unfold nsFind findBy at e
  rw [← Array.find?_toList] at e
  unfold PySem.W.lookIn
  rw [hd]
  dsimp only
  split
  · rename_i y q
    rw [q] at e
    exact congrArg some e
  · rename_i q
    rw [q] at e
    have a : es.toList.any (·.refKey) = false := by
      rw [List.any_eq_false]
      intro y hy
      obtain ⟨z, t, hkey⟩ := hk y (Array.mem_toList_iff.mp hy)
      simp [DictEntry.refKey, hkey]
    have a' : ¬ es.toList.any (·.refKey) = true := by rw [a]; exact Bool.false_ne_true
    rw [if_neg a']
    exact congrArg some e

theorem ObjM.look {h : Heap} {x dx C : Addr} {mA : Str → Option Value} (I : ObjM h x dx C mA) : ∃ od, PySem.W.InstAt h x (PySem.W.instObj C dx) C (some od) ∧ ∀ name, PySem.W.lookIn name od = some (mA name) :=
  let ⟨od, ho, hl⟩ := lookIn_ns I.ns
  ⟨od, ⟨I.obj, rfl, rfl, ho⟩, hl⟩

section
variable {prog : Program} {w : World} {A : Around} {E : Value → Shared → Prop} {s : Shared} {K : PySem.W.Frag} {x dx C f : Addr} {mA : Str → Option Value} {name : Str} {v : Value}

end

section
variable {P : Program} {w : World} {H H' : Hp} {h h' : Heap} {a C dx : Addr} {fs fs' : List (Str × V)}
theorem ins_get (hok : HOk P w H h) (e : H a = some (.ins C dx fs)) : ∃ mA, ObjM h a dx C mA ∧ (∀ f, RelO (fs.lookup f) (mA f)) ∧ PySem.Within mA (fs.map (·.1)) ∧ fs.length ≤ 1000 ∧ H dx = some (.own a) := by
  obtain ⟨d, z, ne, ob, mA, n, r, q⟩ := (show ObjOk P w H h a (.ins C dx fs) from hok a _ e)
  exact ⟨mA, ⟨ob, n, ne⟩, r, q, z, d⟩
end

structure Cls (K : PySem.W.Frag) (C : Addr) : Prop where
  pg : PySem.W.plainGet K C Str.empty = true
  hd : PySem.W.hasDictIn K C = true
  po : PySem.W.plainOver K C = true
  sa : PySem.W.findIn K (.ref C) "__setattr__" = some (some (.builtin "object.__setattr__"))
theorem Cls.get {K : PySem.W.Frag} {C : Addr} (c : Cls K C) (f : Str) : PySem.W.plainGet K C f = true := c.pg
section
variable {X : Cx} {pins : List (Addr × Obj)} {σ : St} {H : Hp} {s : Shared} {a C dx : Addr} {fs : List (Str × V)} {f : Str} {v : V} {A : Around} {E : Value → Shared → Prop}

end

section
variable {X : Cx} {o e value : Expr} {f : Str} {pos pos' tpos : Pos} {ta tv : TE}
end

section
variable {X : Cx} {pins : List (Addr × Obj)} {σ : St} {H : Hp} {s : Shared} {A : Around} {E : Value → Shared → Prop} {Q : Value → Shared → Prop} {c : Value} {b : Bool}
/-- the type of a value, as the fragment's deciders take it; for an instance its class -/
inductive TyOf (K : PySem.W.Frag) (H : Hp) : V → Value → Prop where
  | non : TyOf K H .non (.type "NoneType")
  | bl (x : Bool) : TyOf K H (.bl x) (.type "bool")
  | int (i : Int) : TyOf K H (.int i) (.type "int")
  | str (x : Str) : TyOf K H (.str x) (.type "str")
  | flt (x : UInt64) : TyOf K H (.flt x) (.type "float")
  | lst {a : Addr} {xs : List V} (e : H a = some (.lst xs)) : TyOf K H (.ref a) (.type "list")
  | frz {a : Addr} {o : Obj} {xs : List V} (e : H a = some (.frz o (.lst xs))) : TyOf K H (.ref a) (.type "list")
  | tup {a : Addr} {xs : List V} (e : H a = some (.tup xs)) : TyOf K H (.ref a) (.type "tuple")
  | dK {a : Addr} {kvs : List (Key × V)} (e : H a = some (.dK kvs)) : TyOf K H (.ref a) (.type "dict")
  | dT {a : Addr} {kvs : List (List Key × V)} (e : H a = some (.dT kvs)) : TyOf K H (.ref a) (.type "dict")
  | ins {a C dx : Addr} {fs : List (Str × V)} (e : H a = some (.ins C dx fs)) (cl : Cls K C) (ha : PySem.W.findIn K (.ref C) "__class__" = some (some (.builtin "object.__class__")))
      (hn : PySem.W.specialIn K (.builtin "object.__class__") "__get__" = some (some (.builtin "getset_descriptor.__get__"))) (htk : PySem.W.takesIn K (.builtin "object.__class__") = some true)
      (hm : PySem.W.mroIn K C (.type "object") = some true) : TyOf K H (.ref a) (.ref C)
/-- isinstance(x, c) for one class c, a built-in or an own one: kitOne's answer -/
theorem isinst_ok {x : V} {u t : Value} (I : Inv X pins σ H s) (rx : RelV x u) (ty : TyOf X.K H x t) (e : PySem.W.kitOne X.K t c = some b) (h : ∀ tk, Q (.bool b) { s with toks := tk }) :
    wpAny (model X.prog X.w) A (call (.builtin "isinstance") [u, c]) Q E s := by
  cases ty with
  | non => cases (show u = Value.none from rx); exact PySem.W.kia_one PySem.W.kitx_none I.kIn True.intro e (fun z => nomatch z) h
  | bl y => cases (show u = Value.bool y from rx); exact PySem.W.kia_one PySem.W.kitx_bool I.kIn True.intro e (fun z => nomatch z) h
  | int i => obtain ⟨t, q⟩ := (show ∃ t, u = Value.int i t from rx); cases q; exact PySem.W.kia_one PySem.W.kitx_int I.kIn True.intro e (fun z => nomatch z) h
  | str y => obtain ⟨t, q⟩ := (show ∃ t, u = Value.str y t from rx); cases q; exact PySem.W.kia_one PySem.W.kitx_str I.kIn True.intro e (fun z => nomatch z) h
  | flt y => obtain ⟨t, q⟩ := (show ∃ t, u = Value.float y t from rx); cases q; exact PySem.W.kia_one PySem.W.kitx_float I.kIn True.intro e (fun z => nomatch z) h
  | @lst a xs ea =>
    cases (show u = Value.ref a from rx)
    obtain ⟨_, _, n, _, h1⟩ := (show ObjOk X.prog X.w H s.heap a (.lst xs) from I.hok a _ ea)
    exact PySem.W.kia_one PySem.W.kitx_list I.kIn ⟨_, h1, rfl⟩ e (fun z => nomatch z) h
  | @frz a ob xs ea =>
    cases (show u = Value.ref a from rx)
    obtain ⟨_, _, _, n, _, h1⟩ := (show ObjOk X.prog X.w H s.heap a (.frz ob (.lst xs)) from I.hok a _ ea)
    exact PySem.W.kia_one PySem.W.kitx_list I.kIn ⟨_, h1, rfl⟩ e (fun z => nomatch z) h
  | @tup a xs ea =>
    cases (show u = Value.ref a from rx)
    obtain ⟨_, _, _, p⟩ := (show ObjOk X.prog X.w H s.heap a (.tup xs) from I.hok a _ ea)
    obtain ⟨o, h1, h2, _⟩ := p
    exact PySem.W.kia_one PySem.W.kitx_tuple I.kIn ⟨o, h1, h2⟩ e (fun z => nomatch z) h
  | @dK a kvs ea =>
    cases (show u = Value.ref a from rx)
    obtain ⟨_, _, vs, _, p⟩ := (show ObjOk X.prog X.w H s.heap a (.dK kvs) from I.hok a _ ea)
    obtain ⟨o, es, ep, h1, h2, _⟩ := p
    exact PySem.W.kia_one PySem.W.kitx_dict I.kIn ⟨o, h1, h2.1⟩ e (fun z => nomatch z) h
  | @dT a kvs ea =>
    cases (show u = Value.ref a from rx)
    obtain ⟨_, _, xs, _, o, es, ep, h1, h2, _⟩ := (show ObjOk X.prog X.w H s.heap a (.dT kvs) from I.hok a _ ea)
    exact PySem.W.kia_one PySem.W.kitx_dict I.kIn ⟨o, h1, h2.1⟩ e (fun z => nomatch z) h
  | @ins a C dx fs ea cl ha hn htk hm =>
    cases (show u = Value.ref a from rx)
    obtain ⟨mA, O, _⟩ := ins_get I.hok ea
    obtain ⟨od, J, _⟩ := O.look
    exact PySem.W.kia_one (PySem.W.kitx_own (cl.get _) cl.hd ha hn htk hm) I.kIn J e (fun z => nomatch z) h
end
end L2

namespace L2
open PySem PySem.Spec PyProof.Rows

structure Room (k : Nat) (A : Around) : Prop where
  hd : A.handled = none
  dp : A.depth + 3 * k + 5 < recursionLimit
  un : A.units + 16 * k + 200 < cLine
theorem Room.mono {j k : Nat} {A : Around} (r : Room k A) (h : j ≤ k) : Room j A := ⟨r.hd, by have := r.dp; omega, by have := r.un; omega⟩
theorem Room.deeper {k : Nat} {A : Around} (r : Room (k + 1) A) (env : Env) : Room k (A.deeper env) :=
  ⟨r.hd, by have := r.dp; show A.depth + 1 + 3 * k + 5 < _; omega, by have := r.un; show A.units + 3 + 16 * k + 200 < _; omega⟩
theorem Room.depth {k : Nat} {A : Around} (r : Room k A) : A.depth < recursionLimit := by have := r.dp; omega
theorem Room.units {k : Nat} {A : Around} (r : Room k A) : A.units + 64 < cLine := by have := r.un; omega
def tNil : TA := fun _ H Q => Q [] H
def tCons (ta : TE) (tr : TA) : TA := fun σ H Q => ta σ H fun x H1 => tr σ H1 fun xs H2 => Q (x :: xs) H2
section
variable {X : Cx} {e : Expr} {es : List Expr} {te : TE} {t : TA} {pos : Pos}
theorem pa_nil : PA X [] tNil := fun _ _ _ _ H Q I h => Calls.spliced_nil ⟨[], H, I, .nil, h⟩
theorem pa_cons (ha : PE X e te) (hr : PA X es t) (hs : starEach (e :: es) X.env = (false, eval e X.env) :: starEach es X.env := by rfl) : PA X (e :: es) (tCons te t) := by
  intro pos pins s σ H Q I h
  rw [hs]
  show wpAny _ _ (spliced ((false, eval e X.env) :: backTo pos (starEach es X.env))) _ _ s
  refine Calls.spliced_cons (thn (ha pins s σ H _ I h) fun u s1 ⟨x, H1, I1, r1, q1⟩ => ?_)
  exact thn (hr pos pins s1 σ H1 _ I1 q1) fun us s2 ⟨xs, H2, I2, r2, q2⟩ => ⟨x :: xs, H2, I2, .cons r1 r2, q2⟩

/-- a tuple, a list of written items -/
def tTup (t : TA) : TE := fun σ H Q => t σ H fun xs H1 => xs.length ≤ sizeLine ∧ ∀ p, H1 p = none → Q (.ref p) (upd H1 p (.tup xs))
def tLst (t : TA) : TE := fun σ H Q => t σ H fun xs H1 => xs.length ≤ sizeLine ∧ ∀ p, H1 p = none → Q (.ref p) (upd H1 p (.lst xs))
theorem pe_tup {x1} (h : PA X es t) : PE X (.Tuple es x1 pos) (tTup t) := by
  intro pins s σ H Q I hq
  refine wpAny_Tuple_spliced (thn (h pos pins s σ H _ I hq) fun us s1 ⟨xs, H1, I1, r, z, q⟩ => ⟨by rw [← r.length]; exact z, ?_⟩)
  have hf : H1 s1.heap.objs.size = none := I1.hok.fresh (Nat.le_refl _)
  refine ⟨.ref s1.heap.objs.size, upd H1 s1.heap.objs.size (.tup xs), I1.laid (t' := s1.toks) (fun b u e => Heap.get?_push_of_some _ e) (Nat.le_refl _) ?_, rfl, q _ hf⟩
  exact ⟨z, us, r, ⟨_, Heap.get?_push_size _ rfl, rfl, _, rfl⟩⟩
theorem pe_lst (h : PA X es t) : PE X (.List es pos) (tLst t) := by
  intro pins s σ H Q I hq
  refine wpAny_List_spliced (thn (h pos pins s σ H _ I hq) fun us s1 ⟨xs, H1, I1, r, z, q⟩ => ⟨by rw [← r.length]; exact z, ?_⟩)
  have hf : H1 s1.heap.objs.size = none := I1.hok.fresh (Nat.le_refl _)
  refine ⟨.ref s1.heap.objs.size, upd H1 s1.heap.objs.size (.lst xs), I1.laid (t' := s1.toks) (fun b u e => Heap.get?_push_of_some _ e) (Nat.le_refl _) ?_, rfl, q _ hf⟩
  exact ⟨z, us, 0, r, Heap.get?_push_size _ rfl⟩
end

/-- a def's promise: the bound arguments in the parameters' order, the heap, the wanted end, the wanted exception -/
abbrev Sp := List V → Hp → VK → XK → Prop
/-- how an exception lies behind a call (file 08 gives it): the callers' frames, abstract heap and state ahead of the call, the wish, the exception, the state -/
abbrev CXT := List Env → Hp → Shared → XK → Value → Shared → Prop

/-- the state at a call -/
structure Env0 (P : Program) (w : World) (K : PySem.W.Frag) (mg : Str → Option Value) (base : Heap) (A : Around) (outer : List Env) (s : Shared) (H : Hp) : Prop where
  frames : A.frames = some outer
  mod : Mod K mg base
  bs : ∀ b o, base.get? b = some o → s.heap.get? b = some o ∧ H b = none
  bsz : base.objs.size ≤ s.heap.objs.size
  funs : s.heap.FunFrames base outer
  frf : ∀ b ∈ frs outer, H b = none
  hok : HOk P w H s.heap
  bare : AllBare s.gens
/-- a call's end -/
def CE (outer : List Env) (P : Program) (w : World) (H : Hp) (s : Shared) (Q : VK) (u : Value) (s' : Shared) : Prop :=
  ∃ v H', s'.os = s.os ∧ AllBare s'.gens ∧ Un (frs outer) [] H H' s.heap s'.heap ∧ HOk P w H' s'.heap ∧ RelV v u ∧ Q v H'
def CR (CX : CXT) (outer : List Env) (P : Program) (w : World) (H : Hp) (s : Shared) (Q : VK) (E : XK) (r : Result) (s' : Shared) : Prop :=
  match r with
  | .ok (.ret u) => CE outer P w H s Q u s'
  | .ok _ => False
  | .error e => CX outer H s E e s'
structure FnOk (P : Program) (w : World) (K : PySem.W.Frag) (mg : Str → Option Value) (base : Heap) (CX : CXT) (k : Nat) (f : Addr) (fd : FuncData) (ps : List Str) (sp : Sp) : Prop where
  len : ∀ vs H Q E, sp vs H Q E → vs.length = ps.length
  run : ∀ (A : Around) (outer : List Env) (s : Shared) (H : Hp) (args : Args) (us : List Value) (vs : List V) (Q : VK) (E : XK), Room k A → Env0 P w K mg base A outer s H → BindsTo s fd args (ps.zip us) → Vals vs us → sp vs H Q E →
    codeAny (model P w) A (.call (.ref f) args) (CR CX outer P w H s Q E) s
section
variable {X : Cx} {pins : List (Addr × Obj)} {σ : St} {H : Hp} {s s' : Shared}
/-- from a body: what a callee wants -/
theorem Inv.env0 (I : Inv X pins σ H s) : Env0 X.prog X.w X.K X.mg X.base X.A X.stack s H :=
  ⟨I.ok.frames, I.ok.mod, I.bs, Nat.le_trans I.ok.bsz I.sz, I.stack, I.stkFree, I.hok, I.bare⟩
/-- behind a call -/
theorem Inv.after {Q : VK} {u : Value} (I : Inv X pins σ H s) (h : CE X.stack X.prog X.w H s Q u s') : EP X pins σ Q u s' := by
  obtain ⟨v, H', os, bare, un, hok, r, q⟩ := h
  obtain ⟨hh, g, d, t, os'⟩ := s'
  obtain rfl : os' = s.os := os
  exact ⟨v, H', I.call (h' := hh) (g' := g) (d' := d) (t' := t) (ch := []) un hok bare (fun b z => absurd z (by simp)), r, q⟩
end

/-- f(..): the written arguments, then the defaults dvs; E: what is wanted of an exception -/
def tCall (sp : Sp) (dvs : List V) (E : XK) (t : TA) : TE := fun σ H Q => t σ H fun vs H1 => sp (vs ++ dvs) H1 Q E
/-- how the parameters are bound: us the positional arguments, kw the keywords' values by name, ds the defaults that fill up -/
def Binds (K : PySem.W.Frag) (fd : FuncData) (ps : List Str) (ds : List Value) : Prop :=
  ∀ (s : Shared) (us : List Value), K.In s.heap → (us ++ ds).length = ps.length → BindsTo s fd ⟨us, []⟩ (ps.zip (us ++ ds))
/-- every parameter is given -/
theorem Binds.all {K : PySem.W.Frag} {fd : FuncData} {ps : List Str} (h : ∀ us : List Value, us.length = ps.length → bindArgs fd ⟨us, []⟩ = pure (ps.zip us)) : Binds K fd ps [] := fun s us _ hl => by
  rw [List.append_nil] at hl ⊢
  exact .of_eq (h us hl)

/-- an exception of a callee reaches what this body wants of exceptions -/
def Passes (CX : CXT) (X : Cx) (E : XK) : Prop := ∀ (pins : List (Addr × Obj)) (σ : St) (H : Hp) (s : Shared) (e : Value) (s' : Shared), Inv X pins σ H s → CX X.stack H s E e s' → X.xe e s'

section
variable {X : Cx} {CX : CXT} {k : Nat} {f C : Addr} {fd : FuncData} {ps : List Str} {sp : Sp} {dvs : List V} {ds : List Value} {E : XK} {x m : Str} {p pos apos : Pos} {e o : Expr} {es : List Expr} {ta : TE} {t : TA}

/-- the callee runs -/
theorem run_fn {pins : List (Addr × Obj)} {σ : St} {H : Hp} {s : Shared} {Q : VK} {us : List Value} {vs : List V} (F : FnOk X.prog X.w X.K X.mg X.base CX k f fd ps sp) (hr : Room k X.A) (hb : Binds X.K fd ps ds) (hd : Vals dvs ds) (hx : Passes CX X E)
    (I : Inv X pins σ H s) (r : Vals vs us) (h : sp (vs ++ dvs) H Q E) : wpAny (model X.prog X.w) X.A (call (.ref f) us) (EP X pins σ Q) X.xe s := by
  have r2 : Vals (vs ++ dvs) (us ++ ds) := r.append hd
  have hl : (us ++ ds).length = ps.length := by rw [← r2.length]; exact F.len _ _ _ _ h
  refine wpAny_call (codeAny_mono (F.run X.A X.stack s H ⟨us, []⟩ (us ++ ds) (vs ++ dvs) Q E hr I.env0 (hb s us I.kIn hl) r2 h) fun r s' hq => ?_)
  cases r with
  | error e => exact hx pins σ H s e s' I hq
  | ok fl =>
    cases fl with
    | ret u => exact I.after hq
    | next => exact False.elim hq
    | brk => exact False.elim hq
    | cont => exact False.elim hq

theorem pe_call (F : FnOk X.prog X.w X.K X.mg X.base CX k f fd ps sp) (hr : Room k X.A) (hg : Gl X x) (hm : X.mg x = some (.ref f)) (hk : PySem.W.keepIn X.K (.ref f) = true) (hb : Binds X.K fd ps ds) (hd : Vals dvs ds) (hx : Passes CX X E)
    (ha : PA X (e :: es) t) (hdb : (x == ("__debug__" : Str)) = false := by decide) (he : starEach (e :: es) X.env = (false, eval e X.env) :: starEach es X.env := by rfl) (hpl : (backTo pos (starEach es X.env)).any (·.1) = false := by rfl) :
    PE X (.Call (.Name x p) (e :: es) [] pos) (tCall sp dvs E t) := by
  intro pins s σ H Q I h
  refine wpAny_Call_Name_kw (ld_glob I hg hm ?_ hdb)
  refine PySem.W.callWith_K (h₀ := X.base) I.ok.mod.kin hk (thn (ha pos pins s σ H _ I h) fun us s1 ⟨vs, H1, I1, r, q⟩ => ⟨I1.kIn, ?_⟩) he hpl
  exact run_fn F hr hb hd hx I1 r q
end

section
variable {X : Cx} {CX : CXT} {k : Nat} {f C : Addr} {fd : FuncData} {ps ks : List Str} {sp : Sp} {E : XK} {x m : Str} {p pos apos kpos : Pos} {e o : Expr} {es : List Expr} {kws : List Keyword} {te ta : TE} {t tk : TA} {nm : Option Str}
variable {g : List Value → List Value → List Value} {gV : List V → List V → List V}
end

/-- names: the parameters first -/
structure FnScope (N P : List Str) (sc : Scope) : Prop where
  kind : sc.kind = .function
  co : sc.isCoroutine = false
  gen : sc.isGenerator = false
  nd : N.Nodup
  pre : N.take P.length = P
  par : ∀ x ∈ P, sc.names.lookup x = some .local ∨ sc.names.lookup x = some .cell
  nofree : ∀ y ∈ sc.names, y.2 ≠ .free

theorem bindL_out {kindOf : Str → Option NameKind} {x : Str} : ∀ {binds : List (Str × Value)} {m : Str → Option Value}, (∀ v, (x, v) ∉ binds) → bindL kindOf binds m x = m x
  | [], _, _ => rfl
  | (n, v) :: r, m, h => by
    unfold bindL
    rw [bindL_out fun w hw => h w (List.mem_cons_of_mem _ hw)]
    split
    · have : x ≠ n := by rintro rfl; exact h v List.mem_cons_self
      simp [this]
    · rfl
theorem bindC_out {kindOf : Str → Option NameKind} {x : Str} : ∀ {binds : List (Str × Value)} {m : Str → Option Value}, (∀ v, (x, v) ∉ binds) → bindC kindOf binds m x = m x
  | [], _, _ => rfl
  | (n, v) :: r, m, h => by
    unfold bindC
    rw [bindC_out fun w hw => h w (List.mem_cons_of_mem _ hw)]
    split
    · rfl
    · have : x ≠ n := by rintro rfl; exact h v List.mem_cons_self
      simp [this]
theorem bindL_get {kindOf : Str → Option NameKind} {x : Str} {v : Value} : ∀ {P : List Str} {vs : List Value} {i : Nat} {m : Str → Option Value}, P.Nodup → P[i]? = some x → vs[i]? = some v → kindOf x = some .local →
    bindL kindOf (P.zip vs) m x = some v
  | [], _, _, _, _, h, _, _ => by simp at h
  | _ :: _, [], _, _, _, _, h, _ => by simp at h
  | p :: P, w :: vs, 0, m, nd, h1, h2, hk => by
    simp at h1 h2; subst h1; subst h2
    show bindL kindOf ((p, w) :: P.zip vs) m p = _
    unfold bindL
    rw [bindL_out fun v hv => (List.nodup_cons.mp nd).1 (List.of_mem_zip hv).1, if_pos hk]
    simp
  | p :: P, w :: vs, i + 1, m, nd, h1, h2, hk => by
    show bindL kindOf ((p, w) :: P.zip vs) m x = _
    unfold bindL
    exact bindL_get (i := i) (List.nodup_cons.mp nd).2 (by simpa using h1) (by simpa using h2) hk
theorem bindC_get {kindOf : Str → Option NameKind} {x : Str} {v : Value} : ∀ {P : List Str} {vs : List Value} {i : Nat} {m : Str → Option Value}, P.Nodup → P[i]? = some x → vs[i]? = some v → kindOf x ≠ some .local →
    bindC kindOf (P.zip vs) m x = some v
  | [], _, _, _, _, h, _, _ => by simp at h
  | _ :: _, [], _, _, _, _, h, _ => by simp at h
  | p :: P, w :: vs, 0, m, nd, h1, h2, hk => by
    simp at h1 h2; subst h1; subst h2
    show bindC kindOf ((p, w) :: P.zip vs) m p = _
    unfold bindC
    rw [bindC_out fun v hv => (List.nodup_cons.mp nd).1 (List.of_mem_zip hv).1, if_neg hk]
    simp
  | p :: P, w :: vs, i + 1, m, nd, h1, h2, hk => by
    show bindC kindOf ((p, w) :: P.zip vs) m x = _
    unfold bindC
    exact bindC_get (i := i) (List.nodup_cons.mp nd).2 (by simpa using h1) (by simpa using h2) hk

/-- the names' values at the entry -/
def start (N : List Str) (vs : List V) : St := vs.map some ++ List.replicate (N.length - vs.length) none

/-- the context of a def's body, at its entry; an exception leaves the frame, then lies as CX says -/
def cxOf (CX : CXT) (P : Program) (w : World) (K : PySem.W.Frag) (mg : Str → Option Value) (base : Heap) (N : List Str) (qual : Str) (scope : Scope) (f : Addr) (cd : Value) (A : Around) (outer : List Env) (s : Shared) (H : Hp) (E : XK) : Cx where
  prog := P
  w := w
  K := K
  mg := mg
  base := base
  A := A.deeper (envOfC qual scope s.heap.objs.size f cd)
  N := N
  s₀ := s
  H₀ := H
  env := envOfC qual scope s.heap.objs.size f cd
  outer := outer
  stack := envOfC qual scope s.heap.objs.size f cd :: outer
  ex := []
  calm := true
  fn := fun _ => true
  pn := []
  xe := fun e s' => wpAny (model P w) (A.deeper (envOfC qual scope s.heap.objs.size f cd)) (leaving (envOfC qual scope s.heap.objs.size f cd) e) (fun _ s'' => CX outer H s E e s'') (fun e' s'' => CX outer H s E e' s'') s'

theorem cell_has {sc : Scope} {n : Nat} {x : Str} (h : sc.names.lookup x = some .cell) : ∃ c, (cellsFrom n sc.names []).lookup x = some c := by
  have q := PySem.W.cellsFrom_some sc.names n [] (.inl h)
  exact Option.isSome_iff_exists.mp q

theorem inv_start {CX : CXT} {P : Program} {w : World} {K : PySem.W.Frag} {mg : Str → Option Value} {base : Heap} {N ps : List Str} {qual : Str} {scope : Scope} {f : Addr} {cd : Value} {A : Around} {outer : List Env} {s s1 : Shared} {H : Hp} {E : XK} {us : List Value} {vs : List V}
    (S : FnScope N ps scope) (hd : A.handled = none) (e0 : Env0 P w K mg base A outer s H) (hl : vs.length = ps.length) (r : Vals vs us)
    (x : InCallC s s.heap.objs.size (bindL (envOfC qual scope s.heap.objs.size f cd).kindOf (ps.zip us) fun _ => none) (cellsFrom (s.heap.objs.size + 1) scope.names []) (bindC (envOfC qual scope s.heap.objs.size f cd).kindOf (ps.zip us) fun _ => none) s1) :
    Inv (cxOf CX P w K mg base N qual scope f cd A outer s H E) [] (start N vs) H s1 := by
  have hpl : ps.length ≤ N.length := by have := congrArg List.length S.pre; rw [List.length_take] at this; omega
  obtain ⟨h1, tk, rfl, hk⟩ := x.done
  have noA : ∀ b : Addr, b ∉ (cxOf CX P w K mg base N qual scope f cd A outer s H E).ex := fun b z => absurd (show b ∈ ([] : List Addr) from z) (by simp)
  refine ⟨⟨e0.mod, S.kind, rfl, rfl, Nat.le_refl _, fun y z c h1 h2 => ?_, fun y hy => ?_, fun y c _ h => ?_, fun _ => hd, Around.frames_deeper e0.frames, .inr ⟨rfl, rfl⟩, fun b z => absurd z (noA b), e0.bs, e0.bsz, fun b _ _ => noA b, fun b z => absurd z (noA b), e0.funs, e0.frf⟩,
    rfl, e0.bare, Un.kept hk, ⟨_, x.toInCall.ns, fun i y v h1 h2 h3 => ?_⟩, fun y c h => ⟨_, x.cell y c h⟩, e0.hok.fresh (Nat.le_refl _), fun y c h => ?_, fun p hp => absurd (show p ∈ ([] : List (Addr × Obj)) from hp) (by simp), e0.hok.kept hk, ?_⟩
  · exact name_of_addr x.apart (PySem.mem_of_lookup h1) (PySem.mem_of_lookup h2)
  · have hy : scope.names.lookup y = some .cell ∨ scope.names.lookup y = some .free := hy
    rcases hy with hy | hy
    · exact cell_has hy
    · exact absurd rfl (S.nofree _ (PySem.mem_of_lookup hy))
  · exact Nat.le_of_lt (x.above y c (PySem.mem_of_lookup h))
  · have hi : i < vs.length := by
      unfold start at h2
      by_cases hi : i < vs.length
      · exact hi
      · rw [List.getElem?_append_right (by simpa using hi)] at h2
        rw [List.getElem?_replicate] at h2
        split at h2 <;> cases h2
    have ha : vs[i]? = some v := by
      unfold start at h2
      rw [List.getElem?_append_left (by simpa using hi), List.getElem?_map] at h2
      cases e : vs[i]? with
      | none => rw [e] at h2; cases h2
      | some a => rw [e] at h2; cases h2; rfl
    obtain ⟨u, hu, rv⟩ := r.get ha
    have hp : ps[i]? = some y := by
      rw [← S.pre, List.getElem?_take_of_lt (by omega)]; exact h1
    have ndP : ps.Nodup := by rw [← S.pre]; exact S.nd.sublist (List.take_sublist _ _)
    refine ⟨u, rv, ?_⟩
    rcases S.par y (List.mem_of_getElem? hp) with k | k
    · exact .inl ⟨k, bindL_get ndP hp hu k⟩
    · obtain ⟨c, e⟩ := cell_has (n := s.heap.objs.size + 1) k
      refine .inr ⟨.inl k, c, e, ?_⟩
      have q := x.cell y c e
      rw [bindC_get ndP hp hu (by show scope.names.lookup y ≠ _; rw [k]; decide)] at q
      exact q
  · exact e0.hok.fresh (Nat.le_of_lt (x.above y c (PySem.mem_of_lookup h)))
  · unfold start
    show _ = N.length
    rw [List.length_append, List.length_map, List.length_replicate]
    omega

/-- THE RULE: a def (or a method) of the text, by its body. The body's reading t is chosen for each entry; it is run at the parameters' values -/
theorem fn_of {CX : CXT} {P : Program} {w : World} {K : PySem.W.Frag} {mg : Str → Option Value} {base : Heap} {k : Nat} {f : Addr} {name qual : Str} {params : Arguments} {body : List Stmt} {scope : Scope} {dV kV doc pm cdv ct oc : Value} {an od : Option Addr}
    {osl : Array (Option Value)} {N ps : List Str} {sp : Sp} (lk : K.lookup f = some ⟨oc, od, .func (PySem.W.fnOf name qual params body scope dV kV doc pm an cdv ct), osl⟩) (hcd : PySem.W.codeIn K cdv qual = true) (S : FnScope N ps scope)
    (len : ∀ vs H Q E, sp vs H Q E → vs.length = ps.length)
    (hbody : ∀ (A : Around) (outer : List Env) (s : Shared) (H : Hp) (vs : List V) (Q : VK) (E : XK), Room k (A.deeper (envOfC qual scope s.heap.objs.size f cdv)) → sp vs H Q E →
      ∃ t, PSs (cxOf CX P w K mg base N qual scope f cdv A outer s H E) body t ∧ t { nx := fun _ H' => Q .non H', rt := Q } (start N vs) H) :
    FnOk P w K mg base CX (k + 1) f (PySem.W.fnOf name qual params body scope dV kV doc pm an cdv ct) ps sp := by
  refine ⟨len, fun A outer s H args us vs Q E hr e0 hb r hsp => ?_⟩
  have hl := len _ _ _ _ hsp
  have KX : K.In s.heap := e0.mod.kin.keeps fun b o e => (e0.bs b o e).1
  have lim : s.heap.NoLimit := e0.mod.nolimit.keeps fun b o e => (e0.bs b o e).1
  have hkind : ∀ y ∈ ps.zip us, scope.names.lookup y.1 = some .local ∨ (scope.names.lookup y.1 = some .cell ∧ ((cellsFrom (s.heap.objs.size + 1) scope.names []).lookup y.1).isSome = true) := fun ⟨n, v⟩ hy => by
    rcases S.par n (List.of_mem_zip hy).1 with q | q
    · exact .inl q
    · exact .inr ⟨q, PySem.W.cellsFrom_some _ _ _ (.inl q)⟩
  refine codeAny_call_function hr.depth (KX _ _ lk) rfl S.co S.gen rfl (PySem.W.codeRec_of KX hcd) (hb _ _ _ _ ?_)
  refine wpAny_newFunctionEnv_cells S.kind hkind fun env he s1 x => ?_
  subst he
  refine ⟨lim.keeps x.toInCall.keep, codeAny_func ?_⟩
  obtain ⟨t, ht, hq⟩ := hbody A outer s H vs Q E (hr.deeper _) hsp
  have I : Inv (cxOf CX P w K mg base N qual scope f cdv A outer s H E) [] (start N vs) H s1 := inv_start S hr.hd e0 hl r x
  refine wpAny_mono (ht [] s1 (start N vs) H _ I hq) (fun fl s' hs => ?_) fun e s' hs => hs
  have fin : ∀ {σ' : St} {H' : Hp} {v : V} {u : Value}, Inv (cxOf CX P w K mg base N qual scope f cdv A outer s H E) [] σ' H' s' → RelV v u → Q v H' → CE outer P w H s Q u s' :=
    fun {σ' H' v u} J rv q => ⟨v, H', J.os, J.bare, J.base, J.hok, rv, q⟩
  cases fl with
  | ret u =>
    obtain ⟨v, σ', H', J, rv, q⟩ := hs
    exact fin J rv q
  | next =>
    obtain ⟨σ', H', J, q⟩ := hs
    exact fin (v := V.non) (u := Value.none) J rfl q
  | brk =>
    obtain ⟨_, _, _, q⟩ := hs
    exact False.elim q
  | cont =>
    obtain ⟨_, _, _, q⟩ := hs
    exact False.elim q
end L2

namespace L2
open PySem PySem.Spec PyProof.Rows
section
variable {X : Cx} {x : Str} {p pos : Pos} {e : Expr} {es : List Expr} {t : TA} {id T : String} {r : List V → Hp → VK → Prop}

def tCB (r : List V → Hp → VK → Prop) (t : TA) : TE := fun σ H Q => t σ H fun vs H1 => r vs H1 Q
/-- f(e, ..), f a built-in function -/
theorem pe_callB (hc : CallR X (.builtin id) r) (hg : Gl X x) (hm : X.mg x = none) (hv : bootBuiltins x = some (.builtin id)) (ha : PA X (e :: es) t) (hn : x ≠ "__name__" := by decide) (hdb : (x == ("__debug__" : Str)) = false := by decide)
    (he : starEach (e :: es) X.env = (false, eval e X.env) :: starEach es X.env := by rfl) (hpl : (backTo pos (starEach es X.env)).any (·.1) = false := by rfl) : PE X (.Call (.Name x p) (e :: es) [] pos) (tCB r t) := by
  intro pins s σ H Q I h
  refine wpAny_Call_Name_kw (ld_blt I hg hm hv ?_ hn hdb)
  exact PyProof.Rows.callWith_builtin1 (thn (ha pos pins s σ H _ I h) fun us s1 ⟨vs, H1, I1, r1, q1⟩ => hc pins s1 σ H1 vs us Q I1 r1 q1) he hpl
/-- T(e, ..), T a built-in type -/
theorem pe_callTy (hc : CallR X (.type T) r) (hg : Gl X x) (hm : X.mg x = none) (hv : bootBuiltins x = some (.type T)) (ha : PA X (e :: es) t) (hn : x ≠ "__name__" := by decide) (hdb : (x == ("__debug__" : Str)) = false := by decide)
    (he : starEach (e :: es) X.env = (false, eval e X.env) :: starEach es X.env := by rfl) (hpl : (backTo pos (starEach es X.env)).any (·.1) = false := by rfl) : PE X (.Call (.Name x p) (e :: es) [] pos) (tCB r t) := by
  intro pins s σ H Q I h
  refine wpAny_Call_Name_kw (ld_blt I hg hm hv ?_ hn hdb)
  exact PyProof.Rows.callWith_type1 (thn (ha pos pins s σ H _ I h) fun us s1 ⟨vs, H1, I1, r1, q1⟩ => hc pins s1 σ H1 vs us Q I1 r1 q1) he hpl
end
end L2

namespace HT
open PySem PyProof.Rows

/-- t < u of tuples of ints -/
def lexLt : List Int → List Int → Bool
  | [], [] => false
  | [], _ :: _ => true
  | _ :: _, [] => false
  | x :: xs, y :: ys => if x = y then lexLt xs ys else decide (x < y)
theorem lexLt_cons (x y : Int) (xs ys : List Int) : lexLt (x :: xs) (y :: ys) = if x = y then lexLt xs ys else decide (x < y) := rfl
theorem lexLt_nil_nil : lexLt [] [] = false := rfl
theorem lexLt_nil_cons (y : Int) (ys : List Int) : lexLt [] (y :: ys) = true := rfl
theorem lexLt_cons_nil (x : Int) (xs : List Int) : lexLt (x :: xs) [] = false := rfl

theorem eqAt_int (A : Around) (s : Shared) (a : Int) (t : Tok) (c : Int) (u : Tok) : ∃ e, SeqAt.EqAt A s (.int a t) (.int c u) e ∧ (e = true ↔ a = c) :=
  ⟨(a == c), SeqAt.EqAt.int_int a t c u, by simp⟩
section
open PySem.SeqAt
open PySem.AutoSeq1 (wpAny_loadPart')
open PySem.MeetsSeq PySem.MeetsSeq2 PySem.MeetsSeq3

end

section
variable {prog : Program} {w : World} {A : Around} {E : Value → Shared → Prop} {s : Shared}

/-- a slice's bound as a place among n (d where it is left out) -/
def sIx (n d : Nat) : Option Int → Nat
  | none => d
  | some v => if v < 0 then (v + (n : Int)).toNat else min v.toNat n
theorem sIx_none (n d : Nat) : sIx n d none = d := rfl
theorem sIx_nat (n d k : Nat) : sIx n d (some (k : Int)) = min k n := by
  show (if (k : Int) < 0 then ((k : Int) + (n : Int)).toNat else min (k : Int).toNat n) = min k n
  rw [if_neg (by omega), Int.toNat_natCast]
theorem sIx_le (n d : Nat) (hd : d ≤ n) (o : Option Int) : sIx n d o ≤ n := by
  cases o with
  | none => exact hd
  | some v =>
    show (if v < 0 then (v + (n : Int)).toNat else min v.toNat n) ≤ n
    by_cases hv : v < 0
    · rw [if_pos hv]; omega
    · rw [if_neg hv]; exact Nat.min_le_right _ _
theorem clip_eq (v : Int) (n d : Nat) : (if v < 0 then max (v + (n : Int)) 0 else min v (n : Int)) = ((sIx n d (some v) : Nat) : Int) := by
  show (if v < 0 then max (v + (n : Int)) 0 else min v (n : Int)) = (((if v < 0 then (v + (n : Int)).toNat else min v.toNat n) : Nat) : Int)
  by_cases hv : v < 0
  · simp only [if_pos hv]; omega
  · simp only [if_neg hv]; omega
theorem adjust_gen (lo hi : Option Int) (n : Nat) : Builtin.Slice.sliceAdjust lo hi 1 (n : Int) = (((sIx n 0 lo : Nat) : Int), ((sIx n n hi : Nat) : Int)) := by
  have h1 : ¬ ((1 : Int) < 0) := by omega
  unfold Builtin.Slice.sliceAdjust
  simp only [h1, if_false]
  refine Prod.ext ?_ ?_
  · cases lo with
    | none => rfl
    | some v => exact clip_eq v n 0
  · cases hi with
    | none => rfl
    | some v => exact clip_eq v n n
theorem places_gen (i j : Nat) : Builtin.Slice.slicePlaces (i : Int) (j : Int) 1 = j - i := by
  unfold Builtin.Slice.slicePlaces
  have h1 : (1 : Int) > 0 := by omega
  simp only [h1, if_true, Int.ediv_one]
  split <;> omega
theorem slicePart_ {v : Value} {o : Option Int} {Q : Option Int → Shared → Prop} (p : IsPart v o) (h : Q o s) : wpAny (model prog w) A (Builtin.Slice.slicePartIndex v) Q E s := by
  cases p with
  | none => exact slicePart_none h
  | int i t => exact slicePart_int h
theorem sliceApplied_gen {sl : Addr} {vl vu : Value} {lo hi : Option Int} {n : Nat} {Q : Int × Int × Nat → Shared → Prop} (hs : s.heap.IsSliceOf sl vl vu .none) (pl : IsPart vl lo) (pu : IsPart vu hi)
    (h : Q (((sIx n 0 lo : Nat) : Int), 1, sIx n n hi - sIx n 0 lo) s) : wpAny (model prog w) A (Builtin.Slice.sliceApplied (.ref sl) (pure (n : Int))) Q E s := by
  obtain ⟨os, hos, hcs, hds⟩ := id hs
  unfold Builtin.Slice.sliceApplied Builtin.Slice.sliceFields
  refine wpAny_bind (wpAny_bind (wpAny_field hos hds (x := vl) rfl (wpAny_bind (wpAny_field hos hds (x := vu) rfl (wpAny_bind (wpAny_field hos hds (x := .none) rfl (wpAny_pure ?_)))))))
  refine wpAny_bind (slicePart_none ?_)
  show wpAny _ _ (if ((1 : Int) == 0) = true then _ else _) _ _ s
  rw [if_neg (by decide)]
  refine wpAny_bind (slicePart_ pl (wpAny_bind (slicePart_ pu (wpAny_bind (wpAny_pure ?_)))))
  show wpAny _ _ (match Builtin.Slice.sliceAdjust lo hi 1 (n : Int) with | (lo, hi) => pure (lo, (1 : Int), Builtin.Slice.slicePlaces lo hi 1)) _ _ s
  rw [adjust_gen lo hi n]
  show wpAny _ _ (pure (((sIx n 0 lo : Nat) : Int), (1 : Int), Builtin.Slice.slicePlaces ((sIx n 0 lo : Nat) : Int) ((sIx n n hi : Nat) : Int) 1)) _ _ s
  rw [places_gen]
  exact wpAny_pure h
theorem pick_gen (xs : Array Value) (i k : Nat) : ((List.range k).filterMap fun (m : Nat) => xs[((i : Int) + (m : Int) * 1).toNat]?).toArray = ((xs.toList.drop i).take k).toArray := by
  have e : (fun (m : Nat) => xs[((i : Int) + (m : Int) * 1).toNat]?) = fun m => xs[i + m]? := by
    funext m
    have : ((i : Int) + (m : Int) * 1).toNat = i + m := by omega
    rw [this]
  rw [e]
  have := pick_run xs i k
  rw [List.filterMap_map] at this
  have e2 : ((fun x => xs[x]?) ∘ fun x => i + x) = fun m => xs[i + m]? := rfl
  rw [e2] at this
  rw [this]

theorem getItem_tuple_cut {t sl : Addr} {items : Array Value} {vl vu : Value} {lo hi : Option Int} {Q : Value → Shared → Prop} (ht : IsTup s.heap t items) (hs : s.heap.IsSliceOf sl vl vu .none) (pl : IsPart vl lo) (pu : IsPart vu hi)
    (hw : ¬ (sIx items.size 0 lo = 0 ∧ sIx items.size items.size hi = items.size))
    (h : Q (.ref s.heap.objs.size) { s with heap := s.heap.push { cls := .type "tuple", data := .seq ((items.toList.drop (sIx items.size 0 lo)).take (sIx items.size items.size hi - sIx items.size 0 lo)).toArray } })
    (hsz : items.size ≤ sizeLine) : wpAny (model prog w) A (getItem (.ref t) (.ref sl)) Q E s := by
  have htake : sizeOk (.seq ((items.toList.drop (sIx items.size 0 lo)).take (sIx items.size items.size hi - sIx items.size 0 lo)).toArray) := by
    show ((items.toList.drop (sIx items.size 0 lo)).take (sIx items.size items.size hi - sIx items.size 0 lo)).toArray.size ≤ sizeLine
    rw [List.size_toArray, List.length_take, List.length_drop, Array.length_toList]
    omega
  have hj : sIx items.size items.size hi ≤ items.size := sIx_le _ _ (Nat.le_refl _) hi
  obtain ⟨os, hos, hcs, hds⟩ := id hs
  have hTs : s.TypeIs (.ref sl) "slice" := ⟨os, hos, hcs⟩
  unfold getItem
  try with_reducible refine wpAny_holding ?_
  first | refine wpAny_bind (wpAny_pure ?_) | skip
  refine wpAny_bind (wpAny_sequenceKey ht.typeIs (by decide) ?_)
  refine wpAny_bind (wpAny_callSpecial?_slot (name := Str.ofString "__getitem__") ht.typeIs PyProof.Rows.slot_tuple_getitem
    (wpAny_call_entry PyProof.Rows.slot_tuple_getitem ht.typeIs entry_tuple_getitem ?_ (args_tuple_getitem _ _)))
  show wpAny _ _ (Builtin.Tuple.tupleItemsOf (.ref t) >>= _) _ _ s
  refine wpAny_bind (tupleItemsOf_ ht ?_)
  refine wpAny_bind (wpAny_typeOf hTs ?_)
  rw [if_pos (by decide)]
  refine wpAny_bind (sliceApplied_gen hs pl pu ?_)
  have hno : ¬ ((((sIx items.size 0 lo : Nat) : Int) == 0 && (1 : Int) == 1 && (sIx items.size items.size hi - sIx items.size 0 lo) == items.size) = true) := by
    intro q
    rw [Bool.and_eq_true, Bool.and_eq_true] at q
    have q1 : ((sIx items.size 0 lo : Nat) : Int) = 0 := eq_of_beq q.1.1
    have q2 : sIx items.size items.size hi - sIx items.size 0 lo = items.size := eq_of_beq q.2
    exact hw ⟨by omega, by omega⟩
  show wpAny _ _ (if (((sIx items.size 0 lo : Nat) : Int) == 0 && (1 : Int) == 1 && (sIx items.size items.size hi - sIx items.size 0 lo) == items.size) = true then _ else _) _ _ s
  rw [if_neg hno, pick_gen]
  first
    | exact wpAny_bind (m := Builtin.Tuple.tupleExact _) (wpAny_newObj_type (wpAny_pure ⟨_, rfl, wpAny_pure h⟩) htake)
    | exact wpAny_bind (m := Builtin.Tuple.tupleExact _) (wpAny_newObj_type (wpAny_bind (wpAny_pure (wpAny_pure ⟨_, rfl, wpAny_pure h⟩))) htake)
    | exact wpAny_bind (wpAny_bind (m := Builtin.Tuple.tupleExact _) (wpAny_newObj_type (wpAny_pure (wpAny_pure ⟨_, rfl, wpAny_pure h⟩)) htake))
    | exact wpAny_bind (wpAny_bind (m := Builtin.Tuple.tupleExact _) (wpAny_newObj_type (wpAny_pure ⟨_, rfl, wpAny_pure h⟩) htake))
end
end HT

namespace L2
open PySem PySem.Spec PyProof.Rows

abbrev TO := St → Hp → (Option Int → Hp → Prop) → Prop
/-- a slice's part (left out, or an int) -/
def PO (X : Cx) (e : Option Expr) (t : TO) : Prop :=
  ∀ (pins : List (Addr × Obj)) (s : Shared) (σ : St) (H : Hp) (Q : Option Int → Hp → Prop), Inv X pins σ H s → t σ H Q →
    wpAny (model X.prog X.w) X.A (evalPart e X.env) (fun u s' => ∃ o H', Inv X pins σ H' s' ∧ IsPart u o ∧ Q o H') X.xe s
def tPart (t : TE) : TO := fun σ H Q => t σ H fun x H1 => ∃ i, x = .int i ∧ Q (some i) H1

theorem intsAre_of {ns : List Int} : ∀ {us : List Value}, Vals (ns.map V.int) us → IntsAre us ns := by
  induction ns with
  | nil => intro us r; rw [List.map_nil] at r; cases r; exact .nil
  | cons n ns ih =>
    intro us r
    rw [List.map_cons] at r
    cases r with
    | cons r1 r2 =>
      obtain ⟨t, e⟩ := r1
      subst e
      exact .cons n t (ih r2)

section
variable {X : Cx} {e : Expr} {te : TE} {lo hi : Option Expr} {tl th : TO} {pos p2 : Pos}

theorem po_some (h : PE X e te) : PO X (some e) (tPart te) := by
  intro pins s σ H Q I hw
  rw [evalPart_some]
  refine thn (h pins s σ H _ I hw) fun u s1 ⟨x, H1, I1, r1, q1⟩ => ?_
  obtain ⟨i, rfl, q⟩ := q1
  obtain ⟨t, rfl⟩ := r1
  exact ⟨some i, H1, I1, .int i t, q⟩

/-- what a slice of a value is, by values: the slice object stands at sl -/
def SlR (X : Cx) (r : V → Option Int → Option Int → Hp → VK → Prop) : Prop :=
  ∀ (pins : List (Addr × Obj)) (s : Shared) (σ : St) (H : Hp) (x : V) (v vl vu : Value) (lo hi : Option Int) (sl : Addr) (Q : VK), Inv X pins σ H s → RelV x v → s.heap.IsSliceOf sl vl vu .none → IsPart vl lo → IsPart vu hi → r x lo hi H Q →
    ∃ T id, typeLookup (.type T) "__getitem__" = pure (some (.builtin id)) ∧ s.TypeIs v T ∧ wpAny (model X.prog X.w) X.A (getItem v (.ref sl)) (EP X pins σ Q) X.xe s
theorem SlR.or {r r' : V → Option Int → Option Int → Hp → VK → Prop} (h : SlR X r) (h' : SlR X r') : SlR X (fun x lo hi H Q => r x lo hi H Q ∨ r' x lo hi H Q) := by
  intro pins s σ H x v vl vu lo hi sl Q I rx hs pl pu q
  rcases q with q | q
  · exact h pins s σ H x v vl vu lo hi sl Q I rx hs pl pu q
  · exact h' pins s σ H x v vl vu lo hi sl Q I rx hs pl pu q
def tSl (r : V → Option Int → Option Int → Hp → VK → Prop) (te : TE) (tl th : TO) : TE := fun σ H Q => te σ H fun x H1 => tl σ H1 fun l H2 => th σ H2 fun u H3 => r x l u H3 Q
/-- a[lo:hi], any a -/
theorem pe_slice {r : V → Option Int → Option Int → Hp → VK → Prop} (hr : SlR X r) (he : PE X e te) (hl : PO X lo tl) (hu : PO X hi th) : PE X (.Subscript e (.Slice lo hi none p2) pos) (tSl r te tl th) := by
  intro pins s σ H Q I h
  refine Subscript_ (thn (he pins s σ H _ I h) fun v s1 ⟨x, H1, I1, r1, q1⟩ => ?_)
  refine wpAny_Slice (thn (hl pins s1 σ H1 _ I1 q1) fun vl s2 ⟨l, H2, I2, pl, q2⟩ => thn (hu pins s2 σ H2 _ I2 q2) fun vu s3 ⟨u, H3, I3, pu, q3⟩ => ?_)
  rw [evalPart_none]
  refine wpAny_pure ?_
  have I4 : Inv X pins σ H3 { s3 with heap := s3.heap.push { cls := .type "slice", data := .fields #[vl, vu, .none] } } := I3.kept (t' := s3.toks) fun b ob q => Heap.get?_push_of_some _ q
  obtain ⟨T, id, hT, ht, hg⟩ := hr pins { s3 with heap := s3.heap.push { cls := .type "slice", data := .fields #[vl, vu, .none] } } σ H3 x v vl vu l u s3.heap.objs.size Q I4 r1 (Heap.IsSliceOf.new ..) pl pu q3
  show wpAny (model X.prog X.w) X.A (subscriptTail e (.Slice lo hi none p2) v (.ref s3.heap.objs.size)) (EP X pins σ Q) X.xe { s3 with heap := s3.heap.push { cls := .type "slice", data := .fields #[vl, vu, .none] } }
  exact tail_any (ops := [.ref s3.heap.objs.size, v]) ht hT hg (by with_unfolding_all rfl)

/-- the items of xs[lo:hi] -/
def cutV (xs : List V) (lo hi : Option Int) : List V := (xs.drop (HT.sIx xs.length 0 lo)).take (HT.sIx xs.length xs.length hi - HT.sIx xs.length 0 lo)
theorem cutV_length (xs : List V) (lo hi : Option Int) : (cutV xs lo hi).length ≤ xs.length := by
  unfold cutV
  rw [List.length_take, List.length_drop]
  omega
/-- t[lo:hi], not the whole of it (the whole would be t itself) -/
def rSlT (K : PySem.W.Frag) : V → Option Int → Option Int → Hp → VK → Prop := fun x lo hi H Q => ∃ a xs, x = .ref a ∧ SqT K H a xs ∧
  ¬ (HT.sIx xs.length 0 lo = 0 ∧ HT.sIx xs.length xs.length hi = xs.length) ∧ ∀ p, H p = none → Q (.ref p) (upd H p (.tup (cutV xs lo hi)))
theorem sl_tup : SlR X (rSlT X.K) := by
  intro pins s σ H x v vl vu lo hi sl Q I rx hs pl pu h
  obtain ⟨a, xs, rfl, hx, hw, q⟩ := h
  cases rx
  obtain ⟨its, r, ht, hz⟩ := I.tuple hx
  have hlen : its.toArray.size = xs.length := by rw [List.size_toArray]; exact r.length.symm
  refine ⟨"tuple", _, PyProof.Rows.slot_tuple_getitem.lookup, ht.typeIs, ?_⟩
  refine HT.getItem_tuple_cut ht hs pl pu (by rw [hlen]; exact hw) ?_ (by rw [hlen]; exact hz)
  rw [hlen]
  refine ⟨.ref s.heap.objs.size, _, I.laid (t' := s.toks) (o := .tup (cutV xs lo hi)) (fun b ob q => Heap.get?_push_of_some _ q) (Nat.le_refl _) ?_, rfl, q _ (I.hok.fresh (Nat.le_refl _))⟩
  exact ⟨Nat.le_trans (cutV_length xs lo hi) hz, _, (r.drop (HT.sIx xs.length 0 lo)).take (HT.sIx xs.length xs.length hi - HT.sIx xs.length 0 lo), IsTup.new _ _⟩

end
end L2

namespace L2
open PySem PySem.Spec PyProof.Rows

/-- the place that an index of any sign means -/
def ixN (n : Nat) (i : Int) : Option Nat := if 0 ≤ i then (if i < n then some i.toNat else none) else if -(n : Int) ≤ i then some (i + n).toNat else none
def atI {α : Type} (xs : List α) (i : Int) : Option α := (ixN xs.length i).bind fun j => xs[j]?
theorem ixN_seq {n : Nat} {i : Int} {j : Nat} (h : ixN n i = some j) : seqIndex? i n = some j ∧ j < n ∧ -(n : Int) ≤ i ∧ i < n := by
  unfold ixN at h
  by_cases h0 : 0 ≤ i
  · rw [if_pos h0] at h
    by_cases h1 : i < n
    · rw [if_pos h1] at h
      have e : i.toNat = j := Option.some.inj h
      exact ⟨by rw [seqIndex_of h0 h1, e], by omega, by omega, h1⟩
    · rw [if_neg h1] at h; cases h
  · rw [if_neg h0] at h
    by_cases h1 : -(n : Int) ≤ i
    · rw [if_pos h1] at h
      have e : (i + n).toNat = j := Option.some.inj h
      exact ⟨by rw [seqIndex_neg (by omega) h1, e], by omega, h1, by omega⟩
    · rw [if_neg h1] at h; cases h
theorem atI_get {α : Type} {xs : List α} {i : Int} {v : α} (h : atI xs i = some v) : ∃ j, seqIndex? i xs.length = some j ∧ xs[j]? = some v ∧ j < xs.length ∧ -(xs.length : Int) ≤ i ∧ i < xs.length := by
  unfold atI at h
  cases e : ixN xs.length i with
  | none => rw [e] at h; cases h
  | some j =>
    rw [e] at h
    obtain ⟨h1, h2, h3, h4⟩ := ixN_seq e
    exact ⟨j, h1, h, h2, h3, h4⟩
theorem atI_nat {α : Type} {xs : List α} {j : Nat} {v : α} (h : xs[j]? = some v) : atI xs (j : Int) = some v := by
  have hj : j < xs.length := (List.getElem?_eq_some_iff.mp h).1
  have e : ixN xs.length (j : Int) = some j := by
    unfold ixN
    rw [if_pos (by omega), if_pos (by omega)]; simp
  unfold atI; rw [e]; exact h
/-- what stands as an index of a plain subscript -/
def PlainIx (b : Expr) : Prop := ∀ o i, subscripted b false o i = operate [o, i] (getItem o i)
/-- a subscript by values -/
def IxR (X : Cx) (r : R2) : Prop :=
  ∀ (value slice : Expr) (pins : List (Addr × Obj)) (s : Shared) (σ : St) (H : Hp) (x y : V) (v u : Value) (Q : VK), Inv X pins σ H s → RelV x v → RelV y u → r x y H Q →
    subscripted slice false v u = operate [v, u] (getItem v u) → wpAny (model X.prog X.w) X.A (subscriptTail value slice v u) (EP X pins σ Q) X.xe s
/-- a call of a builtin's method by values: the receiver, the arguments -/
def MtR (X : Cx) (id : String) (r : V → List V → Hp → VK → Prop) : Prop :=
  ∀ (pins : List (Addr × Obj)) (s : Shared) (σ : St) (H : Hp) (x : V) (xs : List V) (v : Value) (us : List Value) (Q : VK), Inv X pins σ H s → RelV x v → Vals xs us → r x xs H Q →
    wpAny (model X.prog X.w) X.A (call (.builtin id) (v :: us)) (EP X pins σ Q) X.xe s
section
variable {X : Cx} {a b : Expr} {ta tb : TE} {pos : Pos}
theorem IxR.or {r r' : R2} (h : IxR X r) (h' : IxR X r') : IxR X (fun x y H Q => r x y H Q ∨ r' x y H Q) := by
  intro value slice pins s σ H x y v u Q I rx ry q hs
  rcases q with q | q
  · exact h value slice pins s σ H x y v u Q I rx ry q hs
  · exact h' value slice pins s σ H x y v u Q I rx ry q hs
/-- a[b] -/
theorem pe_ix {r : R2} (hr : IxR X r) (ha : PE X a ta) (hb : PE X b tb) (hs : PlainIx b) : PE X (.Subscript a b pos) (tOp r ta tb) := by
  intro pins s σ H Q I h
  exact Subscript_ (binT ha hb I h fun v u s2 x y H2 I2 rx ry q => hr a b pins s2 σ H2 x y v u Q I2 rx ry q (hs _ _))

def rIxL (K : PySem.W.Frag) : R2 := fun x y H Q => ∃ p xs i v, x = .ref p ∧ y = .int i ∧ SqL K H p xs ∧ atI xs i = some v ∧ Q v H
def rIxT (K : PySem.W.Frag) : R2 := fun x y H Q => ∃ p xs i v, x = .ref p ∧ y = .int i ∧ SqT K H p xs ∧ atI xs i = some v ∧ Q v H
def rIxS : R2 := fun x y H Q => ∃ z i c, x = .str z ∧ y = .int i ∧ z.length ≤ sizeLine ∧ atI z.cps.toList i = some c ∧ Q (.str ⟨#[c]⟩) H
theorem ix_list : IxR X (rIxL X.K) := by
  intro value slice pins s σ H x y v u Q I rx ry h hs
  obtain ⟨p, xs, i, z, rfl, rfl, hq, he, q⟩ := h
  cases rx
  obtain ⟨t, rfl⟩ := ry
  obtain ⟨its, r, pl, hz⟩ := I.list hq
  obtain ⟨j, h1, h2, h3, h4, h5⟩ := atI_get he
  obtain ⟨w, ew, rw'⟩ := r.get h2
  have hl := r.length
  have hn := line63
  have fin : EP X pins σ Q w s := ⟨z, H, I, rw', q⟩
  by_cases h0 : 0 ≤ i
  · have hj : i.toNat = j := by
      rw [seqIndex_of h0 h5] at h1
      exact Option.some.inj h1
    exact item_listR pl.isList h0 (by omega) (by rw [hj]; simpa using ew) fin hs
  · have hj : (i + (its.toArray.size : Int)).toNat = j := by
      rw [seqIndex_neg (by omega) h4] at h1
      rw [List.size_toArray, ← hl]
      exact Option.some.inj h1
    exact subscriptTail_builtinR (x := w) pl.isList.typeIs slot_list_getitem.lookup
      (wpAny_getItem_list_neg (Q := fun r s' => r = w ∧ EP X pins σ Q r s') pl.isList (by omega) (by rw [List.size_toArray] <;> omega) (by omega) (by rw [hj]; simpa using ew) ⟨rfl, fin⟩) hs
theorem ix_tup : IxR X (rIxT X.K) := by
  intro value slice pins s σ H x y v u Q I rx ry h hs
  obtain ⟨p, xs, i, z, rfl, rfl, hq, he, q⟩ := h
  cases rx
  obtain ⟨t, rfl⟩ := ry
  obtain ⟨its, r, pl, hz⟩ := I.tuple hq
  obtain ⟨j, h1, h2, h3, h4, h5⟩ := atI_get he
  obtain ⟨w, ew, rw'⟩ := r.get h2
  have hl := r.length
  have hn := line63
  have fin : EP X pins σ Q w s := ⟨z, H, I, rw', q⟩
  exact subscriptTail_builtinR (x := w) pl.typeIs slot_tuple_getitem.lookup
    (getItem_tuple (j := j) (Q := fun r s' => r = w ∧ EP X pins σ Q r s') pl (by omega) (by omega) (by rw [List.size_toArray, ← hl]; exact h1) (by simpa using ew) ⟨rfl, fin⟩) hs
theorem ix_str : IxR X rIxS := by
  intro value slice pins s σ H x y v u Q I rx ry h hs
  obtain ⟨z, i, c, rfl, rfl, hz, he, q⟩ := h
  obtain ⟨t, rfl⟩ := rx
  obtain ⟨t', rfl⟩ := ry
  obtain ⟨j, h1, h2, h3, h4, h5⟩ := atI_get he
  have hl : z.cps.toList.length = z.length := by simp [Str.length]
  rw [hl] at h1 h4 h5
  have hn := line63
  exact tail_any (typeIs_str s z t) slot_str_getitem.lookup (getItem_str (c := c) (by
    have e1 : decide (i < -(2 ^ 63 : Int)) = false := decide_eq_false (by omega)
    have e2 : decide (i ≥ 2 ^ 63) = false := decide_eq_false (by omega)
    rw [e1, e2, Bool.or_false]) (by rw [h1]; simpa using h2) ⟨.str ⟨#[c]⟩, H, I.tok _, ⟨_, rfl⟩, q⟩) hs
/-- list, tuple or str -/
def rIx (K : PySem.W.Frag) : R2 := fun x y H Q => rIxL K x y H Q ∨ rIxT K x y H Q ∨ rIxS x y H Q
theorem ix_seq : IxR X (rIx X.K) := ix_list.or (ix_tup.or ix_str)

theorem slice_bounds (lo hi : Option Int) (n : Nat) : (sliceBounds lo hi none n).1 = ((HT.sIx n 0 lo : Nat) : Int) ∧ (sliceBounds lo hi none n).2.1 = ((HT.sIx n n hi : Nat) : Int) ∧ (sliceBounds lo hi none n).2.2 = 1 := by
  refine ⟨?_, ?_, rfl⟩
  · cases lo with
    | none => simp [sliceBounds, HT.sIx]
    | some i =>
      simp only [sliceBounds, HT.sIx, Option.getD_none, show (1 : Int) > 0 by decide, if_true]
      by_cases h : i < 0
      · simp only [h, if_true] <;> omega
      · simp only [h, if_false] <;> omega
  · cases hi with
    | none => simp [sliceBounds, HT.sIx]
    | some i =>
      simp only [sliceBounds, HT.sIx, Option.getD_none, show (1 : Int) > 0 by decide, if_true]
      by_cases h : i < 0
      · simp only [h, if_true] <;> omega
      · simp only [h, if_false] <;> omega
theorem slicePick_cut (its : List Value) (lo hi : Option Int) : slicePick its.toArray lo hi none = ((its.drop (HT.sIx its.length 0 lo)).take (HT.sIx its.length its.length hi - HT.sIx its.length 0 lo)).toArray := by
  obtain ⟨h1, h2, h3⟩ := slice_bounds lo hi its.toArray.size
  unfold slicePick
  rw [h1, h2, h3]
  simp only [sliceRange_one, pick_run, List.size_toArray] <;> rfl
/-- xs[lo:hi] of a list: a new list -/
def rSlL (K : PySem.W.Frag) : V → Option Int → Option Int → Hp → VK → Prop := fun x lo hi H Q => ∃ a xs, x = .ref a ∧ SqL K H a xs ∧ ∀ p, H p = none → Q (.ref p) (upd H p (.lst (cutV xs lo hi)))
theorem sl_list : SlR X (rSlL X.K) := by
  intro pins s σ H x v vl vu lo hi sl Q I rx hs pl pu h
  obtain ⟨a, xs, rfl, hx, q⟩ := h
  cases rx
  obtain ⟨its, r, ht, hz⟩ := I.list hx
  have hlen := r.length
  refine ⟨"list", _, slot_list_getitem.lookup, ht.isList.typeIs, ?_⟩
  refine wpAny_getItem_list_slice ht.isList hs pl pu .none (by simp) ?_ (by rw [List.size_toArray] <;> omega)
  rw [slicePick_cut, ← hlen]
  refine ⟨.ref s.heap.objs.size, _, I.laid (t' := s.toks) (o := .lst (cutV xs lo hi)) (fun b ob q => Heap.get?_push_of_some _ q) (Nat.le_refl _) ?_, rfl, q _ (I.hok.fresh (Nat.le_refl _))⟩
  exact ⟨Nat.le_trans (cutV_length xs lo hi) hz, _, 0, (r.drop (HT.sIx xs.length 0 lo)).take (HT.sIx xs.length xs.length hi - HT.sIx xs.length 0 lo), Heap.get?_push_size _ rfl⟩

theorem call_list_of : CallR X (.type "list") (fun xs H Q => ∃ p ys, xs = [.ref p] ∧ (SqL X.K H p ys ∨ SqT X.K H p ys) ∧ ∀ l, H l = none → Q (.ref l) (upd H l (.lst ys))) := by
  intro pins s σ H xs us Q I r h
  obtain ⟨p, ys, rfl, hq, q⟩ := h
  obtain ⟨u, rfl, rx⟩ := vals1 r
  cases rx
  have fin : ∀ (its : List Value), Vals ys its → ys.length ≤ sizeLine → ∀ (h' : Heap) (c' : Nat), (∀ b o', s.heap.get? b = some o' → h'.get? b = some o') →
      h'.get? s.heap.objs.size = some { cls := .type "list", dict := none, data := .seq its.toArray c', slots := #[] } → EP X pins σ Q (.ref s.heap.objs.size) { s with heap := h' } := fun its r' hz h' c' kp e =>
    ⟨.ref s.heap.objs.size, _, I.laid (t' := s.toks) kp (Nat.le_refl _) (show ObjOk X.prog X.w _ h' _ (.lst ys) from ⟨hz, its, c', r', e⟩), rfl, q _ (I.hok.fresh (Nat.le_refl _))⟩
  rcases hq with hq | hq
  · obtain ⟨its, r', pl, hz⟩ := I.list hq
    have hlen := r'.length
    obtain ⟨o, ho, hc, n, hd⟩ := pl.isList
    exact call_list_seq p (.inl rfl) ho hc hd (fun h' c' kp e => fin its r' hz h' c' kp e) (by simp only [List.size_toArray] <;> omega)
  · obtain ⟨its, r', pl, hz⟩ := I.tuple hq
    have hlen := r'.length
    obtain ⟨o, ho, hc, n, hd⟩ := pl
    exact call_list_seq p (.inr rfl) ho hc hd (fun h' c' kp e => fin its r' hz h' c' kp e) (by simp only [List.size_toArray] <;> omega)
/-- the value is of that builtin type -/
def tyV (K : PySem.W.Frag) (T : String) (x : V) (H : Hp) : Prop := match x with
  | .str _ => T = "str"
  | .int _ => T = "int"
  | .ref p => (T = "list" ∧ ∃ xs, SqL K H p xs) ∨ (T = "tuple" ∧ ∃ o, K.lookup p = some o ∧ o.cls = .type "tuple" ∧ o.dict = none) ∨
      (T = "dict" ∧ ((∃ kvs, H p = some (.dK kvs)) ∨ ∃ kvs, H p = some (.dT kvs))) ∨ (T = "set" ∧ ∃ S n, H p = some (.set S n))
  | _ => False
theorem tyV_is {pins : List (Addr × Obj)} {σ : St} {H : Hp} {s : Shared} {T : String} {x : V} {v : Value} (I : Inv X pins σ H s) (r : RelV x v) (ty : tyV X.K T x H) :
    s.TypeIs v T ∧ ∀ a, v = .ref a → ∃ ob, s.heap.get? a = some ob ∧ ob.dict = none := by
  cases x with
  | str z =>
    obtain ⟨t, rfl⟩ := r
    cases (show T = "str" from ty)
    exact ⟨typeIs_str s z t, fun _ e => nomatch e⟩
  | int i =>
    obtain ⟨t, rfl⟩ := r
    cases (show T = "int" from ty)
    exact ⟨typeIs_int s i t, fun _ e => nomatch e⟩
  | ref p =>
    cases r
    rcases ty with ⟨rfl, xs, hq⟩ | ⟨rfl, o, hk, hc, hd⟩ | ⟨rfl, hk⟩ | ⟨rfl, S, n, hk⟩
    · obtain ⟨its, _, pl, _⟩ := I.list hq
      refine ⟨pl.isList.typeIs, fun a e => ?_⟩
      cases e
      obtain ⟨o, n, e, c, hd, _⟩ := pl
      exact ⟨o, e, hd⟩
    · refine ⟨⟨o, I.kIn p o hk, hc⟩, fun a e => ?_⟩
      cases e
      exact ⟨o, I.kIn _ o hk, hd⟩
    · have z : ∃ o, s.heap.get? p = some o ∧ o.ExactDict := by
        rcases hk with ⟨kvs, hk⟩ | ⟨kvs, hk⟩
        · obtain ⟨_, _, _, _, o, _, _, e, ex, _⟩ := I.hok p _ hk
          exact ⟨o, e, ex⟩
        · obtain ⟨_, _, _, _, o, _, _, e, ex, _⟩ := I.hok p _ hk
          exact ⟨o, e, ex⟩
      obtain ⟨o, e, ex⟩ := z
      refine ⟨⟨o, e, ex.1⟩, fun a e2 => ?_⟩
      cases e2
      exact ⟨o, e, ex.2.1⟩
    · obtain ⟨o, _, _, _, e, ex, _⟩ := I.hok p _ hk
      refine ⟨⟨o, e, ex.1⟩, fun a e2 => ?_⟩
      cases e2
      exact ⟨o, e, ex.2.1⟩
  | _ => exact False.elim ty
def tBM0 (K : PySem.W.Frag) (T : String) (r : V → List V → Hp → VK → Prop) (to : TE) : TE := fun σ H Q => to σ H fun x H1 => tyV K T x H1 ∧ r x [] H1 Q
def tBM (K : PySem.W.Frag) (T : String) (r : V → List V → Hp → VK → Prop) (to : TE) (t : TA) : TE := fun σ H Q => to σ H fun x H1 => tyV K T x H1 ∧ t σ H1 fun xs H2 => r x xs H2 Q
variable {o e : Expr} {es : List Expr} {to : TE} {t : TA} {name : Str} {apos cpos : Pos} {T id : String} {r : V → List V → Hp → VK → Prop}
theorem pe_bm0 (pa : PlainAttrs T) (slot : Slot T name id) (hty : typeOf (.builtin id) = pure (.type "method_descriptor")) (hm : MtR X id r) (ho : PE X o to)
    (hbase : attributeBase o name X.env (eval o X.env) = eval o X.env := by rfl) (hline : (apos.endLine == cpos.line) = true := by rfl) : PE X (.Call (.Attribute o name apos) [] [] cpos) (tBM0 X.K T r to) := by
  intro pins s σ H Q I h
  refine wpAny_Call_method0_late hbase hline (thn (ho pins s σ H _ I h) fun v s1 ⟨x, H1, I1, r1, ty, q1⟩ => ?_)
  obtain ⟨h1, h2⟩ := tyV_is I1 r1 ty
  exact ⟨T, id, pa, slot, hty, h1, h2, Calls.callWith_builtin rfl (PySem.evalArgs_none (hm pins s1 σ H1 x [] v [] Q I1 r1 .nil q1))⟩
theorem pe_bm (pa : PlainAttrs T) (slot : Slot T name id) (hty : typeOf (.builtin id) = pure (.type "method_descriptor")) (hm : MtR X id r) (ho : PE X o to) (ha : PA X (e :: es) t)
    (hbase : attributeBase o name X.env (eval o X.env) = eval o X.env := by rfl)
    (hfew : ((backTo cpos (starEach (e :: es) X.env)).all (fun x => !x.1) && (backToKw cpos (keywordEach [] X.env)).all (fun x => x.1.isSome)
      && decide ((e :: es).length + ([] : List Keyword).length + (if ([] : List Keyword).isEmpty then 0 else 1) < 30)) = true := by rfl)
    (hline : (apos.endLine == cpos.line) = true := by rfl) (hs : starEach (e :: es) X.env = (false, eval e X.env) :: starEach es X.env := by rfl) (hplain : (backTo cpos (starEach es X.env)).any (·.1) = false := by rfl) :
    PE X (.Call (.Attribute o name apos) (e :: es) [] cpos) (tBM X.K T r to t) := by
  intro pins s σ H Q I h
  refine wpAny_Call_method_late hbase hfew hline rfl (thn (ho pins s σ H _ I h) fun v s1 ⟨x, H1, I1, r1, ty, q1⟩ => ?_)
  obtain ⟨h1, h2⟩ := tyV_is I1 r1 ty
  refine ⟨T, id, pa, slot, hty, h1, h2, ?_⟩
  have hA := ha cpos pins s1 σ H1 _ I1 q1
  rw [hs] at hA ⊢
  refine Calls.callWith_builtin (by show (false || (backTo cpos (starEach es X.env)).any (·.1)) = false; rw [hplain] <;> rfl) (Calls.evalArgs_plain ?_)
  exact thn hA fun us s2 ⟨vs, H2, I2, r2, q2⟩ => hm pins s2 σ H2 x vs v us Q I2 r1 r2 q2
/- xs.append(e), list.index on a module's tuple .. are MtR facts of 06m -/
end
end L2

namespace L2
open PySem PySem.Spec PyProof.Rows

def MtM (X : Cx) (id : String) (r : V → List V → Hp → VK → Prop) : Prop :=
  ∀ (pins : List (Addr × Obj)) (s : Shared) (σ : St) (H : Hp) (x : V) (xs : List V) (v : Value) (us : List Value) (Q : VK), Inv X pins σ H s → RelV x v → Vals xs us → r x xs H Q →
    wpAny (model X.prog X.w) X.A (call (.builtin id) (v :: us)) (EP X pins σ Q) X.xe s

theorem Vals.one : ∀ {x : V} {us : List Value}, Vals [x] us → ∃ u, us = [u] ∧ RelV x u
  | _, _, .cons r .nil => ⟨_, rfl, r⟩
section
variable {X : Cx} {pins : List (Addr × Obj)} {σ : St} {H : Hp} {s : Shared} {l b : Addr} {xs ys zs : List V}

theorem Inv.lset {its its' : List Value} {n : Nat} {f : Array Value → Array Value} {t' : Nat} (I : Inv X pins σ H s) (hH : H l = some (.lst xs))
    (e : s.heap.get? l = some { cls := .type "list", data := .seq its.toArray n }) (hf : f its.toArray = its'.toArray) (hv : Vals ys its') (hz : ys.length ≤ sizeLine) :
    Inv X pins σ (upd H l (.lst ys)) { s with heap := s.heap.update l (Obj.mapSeq f), toks := t' } := by
  have q := PySem.IsL.update e f
  rw [hf] at q
  refine I.write (x := l) (e := l) (by rw [hH]; exact trivial) (.inl rfl) (fun b' u hb hu => (Heap.get?_update_other s.heap (Obj.mapSeq f) (Ne.symm hb)).trans hu) ⟨_, q⟩ ?_
  exact ⟨hz, its', _, hv, q⟩
theorem Inv.lnew {its : List Value} {t' : Nat} (I : Inv X pins σ H s) (hv : Vals ys its) (hz : ys.length ≤ sizeLine) :
    Inv X pins σ (upd H s.heap.objs.size (.lst ys)) { s with heap := s.heap.push { cls := .type "list", data := .seq its.toArray }, toks := t' } :=
  I.laid (fun _ _ q => Heap.get?_push_of_some _ q) (Nat.le_refl _) ⟨hz, its, 0, hv, Heap.get?_push_size _ rfl⟩
theorem Inv.fresh (I : Inv X pins σ H s) : H s.heap.objs.size = none := I.hok.fresh (Nat.le_refl _)
theorem Inv.lstM (I : Inv X pins σ H s) (hH : H l = some (.lst xs)) : xs.length ≤ sizeLine ∧ ∃ (its : List Value) (n : Nat), Vals xs its ∧ xs.length = its.length ∧ s.heap.get? l = some { cls := .type "list", data := .seq its.toArray n } := by
  obtain ⟨z, its, n, r, e⟩ := I.hok l _ hH
  exact ⟨z, its, n, r, r.length, e⟩

end

section
variable {X : Cx}

def rAppend : V → List V → Hp → VK → Prop := fun x vs H Q => ∃ l xs y, x = .ref l ∧ vs = [y] ∧ H l = some (.lst xs) ∧ xs.length < sizeLine ∧ Q .non (upd H l (.lst (xs ++ [y])))
theorem mt_append : MtM X "list.append" rAppend := by
  intro pins s σ H x vs v us Q I rx rv h
  obtain ⟨l, xs, y, rfl, rfl, hH, hz, q⟩ := h
  cases rx
  obtain ⟨u, rfl, ru⟩ := rv.one
  obtain ⟨z, its, n, r, hl, e⟩ := I.lstM hH
  refine call_meets F.slot_list_append ⟨_, e, rfl⟩ F.entry_list_append (F.args_list_append_2 _ _) (PySem.list_append l its.toArray n u (by rw [List.size_toArray]; omega)) ⟨e, ?_⟩
  refine ⟨.non, _, I.lset (its' := its ++ [u]) hH e (by simp) (r.append (.cons ru .nil)) ?_, rfl, q⟩
  rw [List.length_append, List.length_singleton]
  omega

def rCat : R2 := fun x y H Q => ∃ l b xs zs, x = .ref l ∧ y = .ref b ∧ H l = some (.lst xs) ∧ H b = some (.lst zs) ∧ xs.length + zs.length ≤ sizeLine ∧ ∀ p, H p = none → Q (.ref p) (upd H p (.lst (xs ++ zs)))
theorem op_cat : OpR X (binaryOp .Add) rCat := by
  intro pins s σ H x y v u Q I rx ry h
  obtain ⟨l, b, xs, zs, rfl, rfl, hH, hB, hz, q⟩ := h
  cases rx
  cases ry
  obtain ⟨z, its, n, r, hl, e⟩ := I.lstM hH
  obtain ⟨z2, its2, n2, r2, hl2, e2⟩ := I.lstM hB
  refine PySem.P.add_list e e2 ?_ (by rw [List.size_toArray, List.size_toArray]; omega)
  have ea : its.toArray ++ its2.toArray = (its ++ its2).toArray := by simp
  rw [ea]
  exact ⟨.ref _, _, I.lnew (t' := s.toks) (r.append r2) (by rw [List.length_append]; omega), rfl, q _ I.fresh⟩
end

section
variable {prog : Program} {w : World} {A : Around} {E : Value → Shared → Prop} {s : Shared}
end

section
variable {X : Cx}
end
end L2

namespace L2
open PySem PySem.Spec PyProof.Rows

section
variable {κ : Type} [DecidableEq κ]
end


section
variable {P : Program} {w : World} {H : Hp} {h : Heap} {a : Addr}
end

section
variable {X : Cx} {pins : List (Addr × Obj)} {σ : St} {H : Hp} {s : Shared} {a : Addr} {y v : V} {u r : Value} {o : Option V} {A : Around} {E : Value → Shared → Prop}

end

section
variable {X : Cx} {pins : List (Addr × Obj)} {σ : St} {H : Hp} {s : Shared} {a : Addr} {kvs : List (Key × V)} {k : Key} {u : Value} {A : Around} {E : Value → Shared → Prop}
end


section
variable {X : Cx} {o i e value : Expr} {pos pos' tpos : Pos} {td ty tv : TE}
end


section
variable {X : Cx} {pos : Pos}
end

section
variable {X : Cx} {pins : List (Addr × Obj)} {σ : St} {H : Hp} {s : Shared} {a : Addr} {y d : V} {u r : Value} {o : Option V} {A : Around} {E : Value → Shared → Prop}
end

section
variable {X : Cx} {o e f : Expr} {apos cpos : Pos} {td ty tx : TE}
end

section
variable {X : Cx} {pins : List (Addr × Obj)} {σ : St} {H : Hp} {s : Shared} {a : Addr} {kvs : List (Key × V)} {A : Around} {E : Value → Shared → Prop}
end


section
variable {X : Cx} {pins : List (Addr × Obj)} {σ : St} {H : Hp} {s : Shared} {a : Addr} {y : V} {u : Value} {A : Around} {E : Value → Shared → Prop}
end
end L2

namespace Att
open PySem PySem.W PySem.Calls PyProof.Rows

theorem ints_of_wellAll {P : Params} {h : Heap} : ∀ (ns : List Int) (vs : List Value), WellAll P h vs (ns.map WData.int) → IntsAre vs ns := by
  intro ns
  induction ns with
  | nil =>
    intro vs w
    rw [List.map_nil] at w
    cases w
    exact .nil
  | cons n ns ih =>
    intro vs w
    rw [List.map_cons] at w
    cases w with
    | cons a b =>
      cases a
      exact .cons _ _ (ih _ b)

theorem script_of {l : OpenLaw} {n : Nat} (hn : l.most = some n) {P : Params} {h : Heap} {args : List WData} {vals : List Value}
    (hpre : l.row.toRowW.claim.pre args = true) (hwl : WellAll P h vals args) :
    ∃ a vs ns, vals = [Value.ref a] ∧ args = [WData.list (ns.map WData.int)] ∧ h.get? a = some { cls := .type "list", data := .seq vs.toArray } ∧ IntsAre vs ns ∧ ns.length ≤ n := by
  have hsh : WShape.hasAll [] args [.list .int] = true := (pre_splitW hpre).1
  have hc : l.pre.holds [] { args := args } = true := (pre_splitW hpre).2
  obtain ⟨d, r, rfl, h1, h2⟩ := hasAllW_cons hsh
  obtain rfl := hasAllW_nil h2
  obtain ⟨xs, rfl, h3⟩ := hasW_list h1
  obtain ⟨ns, rfl⟩ := items_int h3
  have hlen : ns.length ≤ n := by
    unfold OpenLaw.pre at hc
    have h4 : (WTm.not (.lt (.lit (.int (n : Int))) (.len (.arg 0)))).holds [] { args := [.list (ns.map .int)] } = true := by
      have h4 := (holds_andW hc).1
      rw [hn] at h4
      exact h4
    have h5 := condW_of h4 (w_not (w_lt w_lit (w_len_list (w_arg rfl))))
    rw [List.length_map] at h5
    refine Nat.le_of_not_lt fun q => ?_
    have q' : (n : Int) < ((ns.length : Nat) : Int) := by omega
    first
      | (rw [decide_eq_true q'] at h5; exact absurd h5 (by decide))
      | (simp at h5; omega)
  cases hwl with
  | cons w1 w2 =>
    cases w2
    cases w1 with
    | list ho hall => exact ⟨_, _, ns, rfl, rfl, ho, ints_of_wellAll ns _ hall, hlen⟩

theorem post_true (l : OpenLaw) (args : List WData) : l.row.toRowW.claim.post args (.bool true) args = true :=
  postW_of (r := l.row.toRowW) (X := (true == true))
    (show WShape.has [] (.bool true) .bool = true by first | rfl | decide | simp [WShape.has, WShape.arms, WShape.armsAll])
    (show (WTm.eq .res (.lit (.bool true))).value [] { args := args, res := some (.bool true), after := args } = some (.bool (true == true)) from w_eq_bool (w_res rfl) w_lit) rfl

/-- the same from a codeAny of the CALL (for a layer whose function contracts speak of calls) -/
theorem attach_call {l : OpenLaw} {n : Nat} {q : Program} {loose : List Str} {XP : (Str → Option Value) → Heap → Prop} {YP : World → Heap → Prop} {d : DefRec}
    (hn : l.most = some n) (hdf : d.params.defaults = [])
    (call : ∀ (w : World) (s₀ s₁ : Shared) (mg mb : Str → Option Value) (fa : Addr) (o : Obj) (pm cd doc : Value) (a : Addr) (vs : List Value) (ns : List Int),
      Ground q loose [] XP w s₀ mg mb s₁.heap → YP w s₁.heap →
      s₁.heap.get? fa = some o → o.data = .func (docDef d.name d.params d.body d.scope pm cd doc) → s₁.heap.CodeRec cd d.name → mg d.name = some (.ref fa) →
      s₁.heap.get? a = some { cls := .type "list", data := .seq vs.toArray } → IntsAre vs ns → ns.length ≤ n → s₁.gens = #[] →
      codeAny (model l.prog w) callerA (.call (.ref fa) ⟨[.ref a], []⟩) (fun r s' => r = .ok (.ret (.bool true)) ∧ OldK s₁.heap s'.heap ∧ s'.os = s₁.os ∧ AllBare s'.gens) s₁) :
    WalkO q loose XP YP l.row.toRowW d [] (fun f vs => PySem.call f vs) := by
  intro w s₀ s₁ mg mb G Y fa o pm cd doc dV kV ho hd hcd hD hmg hg args vals as hpre hlay hrd hwl hlo
  obtain rfl : dV = .none := Dflts.none hD hdf
  obtain rfl : kV = .none := Dflts.noKw hD
  obtain ⟨a, vs, ns, rfl, rfl, hobj, hints, hlen⟩ := script_of hn hpre hwl
  refine enter_call (codeAny_mono (call w s₀ s₁ mg mb fa o pm cd doc a vs ns G Y ho (fd_plain hd) hcd hmg hobj hints hlen hg) fun r s' hq => ?_)
  obtain ⟨rfl, h2, h3, h4⟩ := hq
  exact ⟨.inl ⟨.bool true, .bool true, [], rfl, fun _ => rfl, .bool true, post_true l _, fun _ => ⟨List.Pairwise.nil, fun _ hm => (nomatch hm)⟩⟩, h2, h3, h4⟩

section
variable {prog : Program} {w : World} {A : Around} {E : Value → Shared → Prop} {s : Shared} {K : Frag}

end
end Att

namespace L2
open PySem PySem.Spec PyProof.Rows

theorem vals_ints : ∀ {vs : List Value} {ns : List Int}, IntsAre vs ns → Vals (ns.map V.int) vs
  | _, _, .nil => .nil
  | _, _, .cons n t h => .cons ⟨t, rfl⟩ (vals_ints h)

/-- nothing is tracked but the script, known to the object (or it is an object of the module) -/
def Only (H : Hp) : Prop := ∀ b, H b = none ∨ ∃ o xs, H b = some (.frz o (.lst xs))

/-- THE HEAD: the law's promise, at the heap behind the top. F, the promise of the law's def, may use that base is part of the heap (so K.In base, base.Ns mainGlobals mg stand in Mod) -/
theorem law_call {P : Program} {w : World} {K : PySem.W.Frag} {mg mb : Str → Option Value} {CX : CXT} {k : Nat} {fa a : Addr} {fd : FuncData} {x : Str} {sp : Sp} {s₁ : Shared} {vs : List Value} {ns : List Int}
    (KX : K.In s₁.heap) (hns : s₁.heap.Ns mainGlobals mg) (hb : s₁.heap.Ns builtinsNs mb) (hbb : ∀ x : Str, x ≠ "__name__" → mb x = bootBuiltins x) (hlim : s₁.heap.NoLimit) (hg : s₁.gens = #[])
    (ha : s₁.heap.get? a = some { cls := .type "list", data := .seq vs.toArray }) (hi : IntsAre vs ns) (hl : ns.length ≤ sizeLine) (hr : Room k callerA)
    (F : ∀ base : Heap, K.In base → base.Ns mainGlobals mg → FnOk P w K mg base CX k fa fd [x] sp) (hbind : ∀ (s : Shared) (u : Value), BindsTo s fd ⟨[u], []⟩ [(x, u)])
    (hsp : ∀ H : Hp, Only H → SqL K H a (ns.map V.int) → sp [.ref a] H (fun v _ => v = .bl true) fun _ _ _ => False)
    (hCX : ∀ H e s', CX [] H s₁ (fun _ _ _ => False) e s' → False) :
    codeAny (model P w) callerA (.call (.ref fa) ⟨[.ref a], []⟩) (fun r s' => r = .ok (.ret (.bool true)) ∧ OldK s₁.heap s'.heap ∧ s'.os = s₁.os ∧ AllBare s'.gens) s₁ := by
  have rv := vals_ints hi
  have lenV := hi.length
  -- from an abstract heap in which nothing but the script may be tracked
  have core : ∀ H : Hp, Only H → SqL K H a (ns.map V.int) → HOk P w H s₁.heap → (∀ b, H b ≠ none → b = a) → (H a ≠ none → K.lookup a = none) →
      codeAny (model P w) callerA (.call (.ref fa) ⟨[.ref a], []⟩) (fun r s' => r = .ok (.ret (.bool true)) ∧ OldK s₁.heap s'.heap ∧ s'.os = s₁.os ∧ AllBare s'.gens) s₁ := by
    intro H hO hS hok hA hK
    have base_of : ∀ {b : Addr} {o : Obj}, s₁.heap.get? b = some o → H b = none → (hidT s₁.heap H).get? b = some o := fun e n => hidT_get e n
    have noA : ∀ {b : Addr} {o : Obj} {es : Array DictEntry} {ep : Nat}, s₁.heap.get? b = some o → o.data = .dict es ep → H b = none := fun {b o es ep} e d => by
      cases q : H b with
      | none => rfl
      | some u =>
        have e' : b = a := hA b (by rw [q]; simp)
        subst e'
        rw [ha] at e; cases e
        have d' : Data.seq vs.toArray _ = Data.dict es ep := d
        cases d'
    have nsK : ∀ {b : Addr} {m : Str → Option Value}, s₁.heap.Ns b m → (hidT s₁.heap H).Ns b m := fun {b m} ⟨o, es, ep, e, d, r⟩ => ⟨o, es, ep, base_of e (noA e d), d, r⟩
    have hKb : K.In (hidT s₁.heap H) := fun b o e => base_of (KX b o e) (by
      cases q : H b with
      | none => rfl
      | some u =>
        have e' : b = a := hA b (by rw [q]; simp)
        subst e'
        rw [hK (by rw [q]; simp)] at e; cases e)
    have hM : Mod K mg (hidT s₁.heap H) := ⟨hKb, nsK hns, ⟨mb, nsK hb, hbb⟩, let ⟨mc, h1, h2⟩ := hlim; ⟨mc, nsK h1, h2⟩⟩
    have e0 : Env0 P w K mg (hidT s₁.heap H) callerA [] s₁ H := ⟨rfl, hM, fun b o e => of_hidT e, Nat.le_of_eq (hidT_size _ _), trivial, fun b hb => absurd (show b ∈ ([] : List Addr) from hb) (by simp), hok, .of_eq hg⟩
    refine codeAny_mono ((F _ hKb (nsK hns)).run callerA [] s₁ H ⟨[.ref a], []⟩ [.ref a] [.ref a] _ _ hr e0 (hbind s₁ (.ref a)) (.cons rfl .nil) (hsp H hO hS)) fun r s' h => ?_
    cases r with
    | error e => exact (hCX H e s' h).elim
    | ok fl =>
      cases fl with
      | next => exact False.elim h
      | brk => exact False.elim h
      | cont => exact False.elim h
      | ret u =>
        obtain ⟨v, H', os, bare, un, hok', r', q⟩ := h
        have q' : v = .bl true := q
        subst q'
        obtain rfl : u = Value.bool true := r'
        refine ⟨rfl, OldK.of_keep fun b o e => ?_, os, bare⟩
        cases q : H b with
        | none => exact un.keep b o e q (by intro z; exact absurd (show b ∈ ([] : List Addr) from z) (by simp)) (by simp)
        | some u =>
          rcases hO b with z | ⟨ob, xs, z⟩
          · rw [q] at z; cases z
          · have z2 := un.frzs b ob _ z
            obtain ⟨e1, _⟩ := hok b _ z
            obtain ⟨e2, _⟩ := hok' b _ z2
            rw [e] at e1; cases e1
            exact e2
  cases hk : K.lookup a with
  | some o =>
    -- the script is one of the module's own objects
    have e := KX a o hk
    rw [ha] at e
    cases e
    refine core (fun _ => none) (fun _ => .inl rfl) (.inr ⟨_, vs.toArray, _, hk, rfl, rfl, rfl, by rw [List.size_toArray, lenV]; exact hl, by simpa using rv⟩) (fun b u z => by have z' : (none : Option HO) = some u := z; cases z') (fun b z => absurd rfl z) fun z => absurd rfl z
  | none =>
    refine core (fun b => if b = a then some (.frz { cls := .type "list", data := .seq vs.toArray } (.lst (ns.map V.int))) else none) (fun b => ?_) (.inl (.inr ⟨{ cls := .type "list", data := .seq vs.toArray }, if_pos rfl⟩)) (fun b u z => ?_) (fun b z => ?_) fun _ => hk
    · by_cases hb : b = a
      · exact .inr ⟨_, _, if_pos hb⟩
      · exact .inl (if_neg hb)
    · by_cases hb : b = a
      · have z' := (if_pos hb).symm.trans z
        cases z'
        subst hb
        exact ⟨ha, by rw [List.length_map]; exact hl, vs, _, rv, ha⟩
      · have z' := (if_neg hb).symm.trans z
        cases z'
    · by_cases hb : b = a
      · exact hb
      · exact absurd (if_neg hb) z
end L2

namespace L2
open PySem PySem.Spec PyProof.Rows

abbrev KOf {K : PySem.W.Frag} {h : Heap} (_ : K.In h) : PySem.W.Frag := K

/-- the goal that k_head leaves (case hc), from the law's promise. F gives the function object fd (K's own) once, then the promise over every base -/
theorem walk_of {l : PySem.W.OpenLaw} {n k : Nat} {q : Program} {loose : List Str} {XP : (Str → Option Value) → Heap → Prop} {YP : World → Heap → Prop} {d : DefRec} {K : Params → PySem.W.Frag} {CX : World → CXT} {sp : World → Sp} {x : Str}
    (hn : l.most = some n) (hn2 : n ≤ sizeLine) (hdf : d.params.defaults = []) (hr : Room k callerA)
    (hY : ∀ (w : World) (h : Heap), YP w h → (K w.params).In h)
    (F : ∀ (w : World) (mg : Str → Option Value) (fa : Addr) (h : Heap), (K w.params).In h → h.Ns mainGlobals mg → mg d.name = some (.ref fa) →
      ∃ fd : FuncData, (∀ (s : Shared) (u : Value), BindsTo s fd ⟨[u], []⟩ [(x, u)]) ∧
        ∀ base : Heap, (K w.params).In base → base.Ns mainGlobals mg → FnOk l.prog w (K w.params) mg base (CX w) k fa fd [x] (sp w))
    (hsp : ∀ (w : World) (H : Hp) (a : Addr) (ns : List Int), ns.length ≤ n → Only H → SqL (K w.params) H a (ns.map V.int) → sp w [.ref a] H (fun v _ => v = .bl true) fun _ _ _ => False)
    (hCX : ∀ (w : World) (H : Hp) (s : Shared) (e : Value) (s' : Shared), CX w [] H s (fun _ _ _ => False) e s' → False) :
    PySem.W.WalkO q loose XP YP l.row.toRowW d [] (fun f vs => PySem.call f vs) := by
  refine Att.attach_call hn hdf fun w s₀ s₁ mg mb fa o pm cd doc a vs ns G Y ho hd hcd hmg hobj hints hlen hg => ?_
  have KX := hY w _ Y
  obtain ⟨fd, hb, hF⟩ := F w mg fa _ KX G.T.g hmg
  exact law_call KX G.T.g G.T.b G.T.builtins G.T.nolimit hg hobj hints (Nat.le_trans hlen hn2) hr hF hb (fun H hO hS => hsp w H a ns hlen hO hS) fun H e s' => hCX w H s₁ e s'
/-- the same where the promise hangs on the written part alone: (sp := My.sp_law), no hole under a binder -/
theorem walk_ofK {l : PySem.W.OpenLaw} {n k : Nat} {q : Program} {loose : List Str} {XP : (Str → Option Value) → Heap → Prop} {YP : World → Heap → Prop} {d : DefRec} {K : Params → PySem.W.Frag} {CX : CXT} {sp : PySem.W.Frag → Sp} {x : Str}
    (hn : l.most = some n) (hn2 : n ≤ sizeLine) (hdf : d.params.defaults = []) (hr : Room k callerA)
    (hY : ∀ (w : World) (h : Heap), YP w h → (K w.params).In h)
    (F : ∀ (w : World) (mg : Str → Option Value) (fa : Addr) (h : Heap), (K w.params).In h → h.Ns mainGlobals mg → mg d.name = some (.ref fa) →
      ∃ fd : FuncData, (∀ (s : Shared) (u : Value), BindsTo s fd ⟨[u], []⟩ [(x, u)]) ∧
        ∀ base : Heap, (K w.params).In base → base.Ns mainGlobals mg → FnOk l.prog w (K w.params) mg base CX k fa fd [x] (sp (K w.params)))
    (hsp : ∀ (K : PySem.W.Frag) (H : Hp) (a : Addr) (ns : List Int), ns.length ≤ n → Only H → SqL K H a (ns.map V.int) → sp K [.ref a] H (fun v _ => v = .bl true) fun _ _ _ => False)
    (hCX : ∀ (H : Hp) (s : Shared) (e : Value) (s' : Shared), CX [] H s (fun _ _ _ => False) e s' → False) :
    PySem.W.WalkO q loose XP YP l.row.toRowW d [] (fun f vs => PySem.call f vs) :=
  walk_of (K := K) (CX := fun _ => CX) (sp := fun w => sp (K w.params)) hn hn2 hdf hr hY F (fun w H a ns h1 h2 h3 => hsp (K w.params) H a ns h1 h2 h3) fun _ H s e s' => hCX H s e s'
end L2

namespace L2
open PySem PySem.Spec PyProof.Rows

def defArgs (s : Stmt) : Arguments := match s with
  | .FunctionDef _ a _ _ _ _ _ _ _ _ => a
  | _ => { posonlyargs := [], args := [], vararg := none, kwonlyargs := [], kw_defaults := [], kwarg := none, defaults := [] }
def defBody (s : Stmt) : List Stmt := match s with
  | .FunctionDef _ _ b _ _ _ _ _ _ _ => b
  | _ => []
def defScope (s : Stmt) : Scope := match s with
  | .FunctionDef _ _ _ _ _ _ sc _ _ _ => sc
  | _ => { kind := .function, names := [], isGenerator := false, isCoroutine := false }

abbrev CX0 : CXT := fun _ _ _ _ _ _ => False
abbrev E0 : XK := fun _ _ _ => False
theorem pass0 {X : Cx} : Passes CX0 X E0 := fun _ _ _ _ _ _ _ h => h.elim

structure Fun (K : PySem.W.Frag) (x qual : Str) (st : Stmt) (f : Addr) (fd : FuncData) : Prop where
  ex : ∃ (oc : Value) (od : Option Addr) (kV doc pm : Value) (an : Option Addr) (cdv ct : Value) (osl : Array (Option Value)),
    fd = PySem.W.fnOf x qual (defArgs st) (defBody st) (defScope st) .none kV doc pm an cdv ct ∧ K.lookup f = some ⟨oc, od, .func fd, osl⟩ ∧ PySem.W.codeIn K cdv qual = true
  kp : PySem.W.keepIn K (.ref f) = true
section
variable {P : Program} {w : World} {K : PySem.W.Frag} {mg : Str → Option Value} {base : Heap}
/-- THE RULE for a def: its body as a term of rules, and the reading of that term -/
theorem Fun.ok {x qual : Str} {st : Stmt} {f : Addr} {fd : FuncData} {N ps : List Str} {k : Nat} {sp : Sp} (F : Fun K x qual st f fd) (S : FnScope N ps (defScope st)) (len : ∀ vs H Q E, sp vs H Q E → vs.length = ps.length)
    (hbody : ∀ (cdv : Value) (A : Around) (outer : List Env) (s : Shared) (H : Hp) (vs : List V) (Q : VK) (E : XK), Room k (A.deeper (envOfC qual (defScope st) s.heap.objs.size f cdv)) → sp vs H Q E →
      ∃ t, PSs (cxOf CX0 P w K mg base N qual (defScope st) f cdv A outer s H E).nox (defBody st) t ∧ t { nx := fun _ H' => Q .non H', rt := Q } (start N vs) H) : FnOk P w K mg base CX0 (k + 1) f fd ps sp := by
  obtain ⟨oc, od, kV, doc, pm, an, cdv, ct, osl, rfl, lk, hcd⟩ := F.ex
  refine fn_of lk hcd S len fun A outer s H vs Q E hr hsp => ?_
  obtain ⟨t, h, q⟩ := hbody cdv A outer s H vs Q E hr hsp
  exact ⟨t, h.nox, q⟩
/-- how its arguments bind (no defaults): h is «fun _ _ _ _ _ _ us hl => match us, hl with | [_, _], _ => rfl», one _ a parameter -/
theorem Fun.binds {x qual : Str} {st : Stmt} {f : Addr} {fd : FuncData} {ps : List Str} (F : Fun K x qual st f fd)
    (h : ∀ (kV doc pm : Value) (an : Option Addr) (cdv ct : Value) (us : List Value), us.length = ps.length → bindArgs (PySem.W.fnOf x qual (defArgs st) (defBody st) (defScope st) .none kV doc pm an cdv ct) ⟨us, []⟩ = pure (ps.zip us)) : Binds K fd ps [] := by
  obtain ⟨oc, od, kV, doc, pm, an, cdv, ct, osl, rfl, lk, hcd⟩ := F.ex
  exact .all (h kV doc pm an cdv ct)
theorem fun_mk {x qual : Str} {st : Stmt} {f : Addr} {oc : Value} {od an : Option Addr} {osl : Array (Option Value)} {kV doc pm cdv ct : Value} (l : K.lookup f = some ⟨oc, od, .func (PySem.W.fnOf x qual (defArgs st) (defBody st) (defScope st) .none kV doc pm an cdv ct), osl⟩)
    (c : PySem.W.codeIn K cdv qual = true) (k : PySem.W.keepIn K (.ref f) = true) : Fun K x qual st f (PySem.W.fnOf x qual (defArgs st) (defBody st) (defScope st) .none kV doc pm an cdv ct) := ⟨⟨oc, od, kV, doc, pm, an, cdv, ct, osl, rfl, l, c⟩, k⟩
end
section
variable {X : Cx}
theorem pv (i : Nat) {x : Str} {pos : Pos} (hN : X.N[i]? = some x := by rfl) (hv : Vis X.env.scope x := by first | exact Or.inl rfl | exact Or.inr (Or.inl rfl) | exact Or.inr (Or.inr rfl)) (hd : (x == ("__debug__" : Str)) = false := by decide)
    (hcd : (x == ("__classdict__" : Str)) = false := by decide) : PE X (.Name x pos) (tVar i) := pe_var hN hv hd hcd
end

/-- all that was tracked is as it was -/
abbrev Same (H H' : Hp) : Prop := ∀ b o, H b = some o → H' b = some o
theorem Same.refl (H : Hp) : Same H H := fun _ _ h => h
theorem Same.trans {H H1 H2 : Hp} (a : Same H H1) (b : Same H1 H2) : Same H H2 := fun c o h => b c o (a c o h)
theorem Same.seq {K : PySem.W.Frag} {H H' : Hp} {a : Addr} {xs : List V} (e : Same H H') (h : SqL K H a xs) : SqL K H' a xs := by
  rcases h with (h | ⟨o, h⟩) | h
  · exact .inl (.inl (e _ _ h))
  · exact .inl (.inr ⟨o, e _ _ h⟩)
  · exact .inr h

section
variable {X : Cx}
end
section
variable {κ : Type} [DecidableEq κ]
end
end L2


namespace EM
/-- the number whose bits below n are those of f -/
def bits (f : Nat → Bool) : Nat → Nat
  | 0 => 0
  | n + 1 => bits f n + (if f n then 2 ^ n else 0)
theorem bits_lt (f : Nat → Bool) : ∀ n, bits f n < 2 ^ n
  | 0 => by simp [bits]
  | n + 1 => by
    have h := bits_lt f n
    simp only [bits]
    have e : (2 : Nat) ^ (n + 1) = 2 ^ n + 2 ^ n := by rw [Nat.pow_succ]; omega
    split <;> omega
theorem testBit_bits (f : Nat → Bool) (i : Nat) : ∀ n, (bits f n).testBit i = (decide (i < n) && f i)
  | 0 => by simp [bits]
  | n + 1 => by
    have ih := testBit_bits f i n
    have hl := bits_lt f n
    simp only [bits]
    by_cases hf : f n = true
    · rw [if_pos hf, Nat.add_comm]
      rcases Nat.lt_trichotomy i n with h | h | h
      · rw [Nat.testBit_two_pow_add_gt h, ih]
        simp [h, Nat.lt_succ_of_lt h]
      · subst h
        rw [Nat.testBit_two_pow_add_eq, ih]
        simp [hf]
      · have : (2 : Nat) ^ n + bits f n < 2 ^ i := by
          have e : (2 : Nat) ^ (n + 1) = 2 ^ n + 2 ^ n := by rw [Nat.pow_succ]; omega
          have : (2 : Nat) ^ (n + 1) ≤ 2 ^ i := Nat.pow_le_pow_right (by decide) h
          omega
        rw [Nat.testBit_lt_two_pow this]
        have : ¬ i < n + 1 := by omega
        simp [this]
    · rw [if_neg hf, Nat.add_zero, ih]
      by_cases h : i = n
      · subst h
        have : f i = false := by simpa using hf
        simp [this]
      · have : (i < n + 1) ↔ (i < n) := by omega
        simp [this]
theorem bits_ext {f g : Nat → Bool} {n : Nat} (h : ∀ i, i < n → f i = g i) : bits f n = bits g n := by
  apply Nat.eq_of_testBit_eq
  intro i
  rw [testBit_bits, testBit_bits]
  by_cases hi : i < n
  · simp [hi, h i hi]
  · simp [hi]
theorem bits_or (f g : Nat → Bool) (n : Nat) : bits f n ||| bits g n = bits (fun i => f i || g i) n := by
  apply Nat.eq_of_testBit_eq
  intro i
  rw [Nat.testBit_or, testBit_bits, testBit_bits, testBit_bits]
  cases decide (i < n) <;> simp
theorem bits_true (n : Nat) : bits (fun _ => true) n = 2 ^ n - 1 := by
  apply Nat.eq_of_testBit_eq
  intro i
  rw [testBit_bits, Nat.testBit_two_pow_sub_one]
  simp
theorem bits_false (n : Nat) : bits (fun _ => false) n = 0 := by
  apply Nat.eq_of_testBit_eq
  intro i
  rw [testBit_bits]
  simp
/-- one more bit by or -/
theorem bits_or_one (f : Nat → Bool) (n : Nat) (h : f n = true) : bits f n ||| 2 ^ n = bits f (n + 1) := by
  have e := Nat.two_pow_add_eq_or_of_lt (bits_lt f n) 1
  rw [Nat.mul_one] at e
  rw [Nat.or_comm, ← e]
  simp only [bits, h, if_true]
  omega
theorem bits_skip (f : Nat → Bool) (n : Nat) (h : f n = false) : bits f (n + 1) = bits f n := by
  simp [bits, h]
theorem lit_iff (s k : Nat) : s.testBit k = decide (s / 2 ^ k % 2 = 1) := Nat.testBit_eq_decide_div_mod_eq
theorem or_split : ∀ (n x y : Nat), x < n → (x ||| y) = (x &&& y) + (x ^^^ y)
  | 0, x, y, h => absurd h (by omega)
  | n + 1, x, y, h => by
    by_cases hx : x = 0
    · subst hx; simp
    · have ih := or_split n (x / 2) (y / 2) (by omega)
      have e1 := Nat.div_add_mod (x ||| y) 2
      have e2 := Nat.div_add_mod (x &&& y) 2
      have e3 := Nat.div_add_mod (x ^^^ y) 2
      rw [Nat.or_div_two] at e1
      rw [Nat.and_div_two] at e2
      rw [Nat.xor_div_two] at e3
      have m1 : (x ||| y) % 2 = (x % 2 ||| y % 2) := Nat.or_mod_two_pow (n := 1)
      have m2 : (x &&& y) % 2 = (x % 2 &&& y % 2) := Nat.and_mod_two_pow (n := 1)
      have m3 : (x ^^^ y) % 2 = (x % 2 ^^^ y % 2) := Nat.xor_mod_two_pow (n := 1)
      have m4 : (x % 2 ||| y % 2) = (x % 2 &&& y % 2) + (x % 2 ^^^ y % 2) := by
        rcases Nat.mod_two_eq_zero_or_one x with a | a <;> rcases Nat.mod_two_eq_zero_or_one y with b | b <;> rw [a, b] <;> rfl
      omega
end EM

namespace EM
end EM

set_option maxRecDepth 100000
set_option maxHeartbeats 4000000
namespace L2
open PySem PySem.Spec PyProof.Rows

section
variable {σ : St} {H : Hp} {Q : VK} {D : Ends} {K : PySem.W.Frag} {BQ : Bool → Hp → Prop}
theorem i_var {i : Nat} {v : V} (h : σ[i]? = some (some v)) (k : Q v H) : tVar i σ H Q := ⟨v, h, k⟩
theorem i_c {v : V} (k : Q v H) : tC v σ H Q := k
theorem i_op {r : R2} {ta tb : TE} (h : ta σ H fun x H1 => tb σ H1 fun y H2 => r x y H2 Q) : tOp r ta tb σ H Q := h
theorem i_un {r : V → Hp → VK → Prop} {ta : TE} (h : ta σ H fun x H1 => r x H1 Q) : tUn r ta σ H Q := h
theorem i_rI0 {g : Int → Int → V} {i j : Int} (h : Q (g i j) H) : rI0 g (.int i) (.int j) H Q := ⟨i, j, rfl, rfl, h⟩
theorem i_rI {C : Int → Int → Prop} {g : Int → Int → V} {i j : Int} (c : C i j) (h : Q (g i j) H) : rI C g (.int i) (.int j) H Q := ⟨i, j, rfl, rfl, c, h⟩
theorem i_rU {g : Int → V} {i : Int} (h : Q (g i) H) : rU g (.int i) H Q := ⟨i, rfl, h⟩
theorem i_eqI {i j : Int} (h : Q (.bl (decide (i = j))) H) : rEq (.int i) (.int j) H Q := by
  refine ⟨rfl, ?_⟩
  have e : decide (V.int i = V.int j) = decide (i = j) := by simp
  rw [e]; exact h
theorem i_neI {i j : Int} (h : Q (.bl (!decide (i = j))) H) : rNe (.int i) (.int j) H Q := by
  refine ⟨rfl, ?_⟩
  have e : decide (V.int i = V.int j) = decide (i = j) := by simp
  rw [e]; exact h
theorem i_test {t : TE} (h : t σ H fun x H' => ∃ k, x = .bl k ∧ BQ k H') : tTest t σ H BQ := h
theorem i_exb {b : Bool} {R : Bool → Prop} (h : R b) : ∃ k, V.bl b = V.bl k ∧ R k := ⟨b, rfl, h⟩
theorem i_or {t u : TT} (h : t σ H fun c H1 => if c = true then BQ true H1 else u σ H1 BQ) : tOr t u σ H BQ := h
theorem i_not {t : TT} (h : t σ H fun c H1 => BQ (!c) H1) : tNot t σ H BQ := h
theorem i_seq {t u : TS} (h : t { D with nx := u D } σ H) : tSeq t u D σ H := h
theorem i_next (h : D.nx σ H) : tNext D σ H := h
theorem i_drop {te : TE} (h : te σ H fun _ H1 => D.nx σ H1) : tDrop te D σ H := h
theorem i_ret {te : TE} (h : te σ H D.rt) : tRet te D σ H := h
theorem i_ifs {c : TT} {t u : TS} (h : c σ H fun b H1 => if b = true then t D σ H1 else u D σ H1) : tIfS c t u D σ H := h
theorem i_asg {te : TE} {g : TG} (h : te σ H fun x H1 => g x σ H1 D.nx) : tAsg te g D σ H := h
theorem i_name {i : Nat} {v : V} {R : St → Hp → Prop} (h : R (σ.set i (some v)) H) : gName i v σ H R := h
theorem i_nil {R : List V → Hp → Prop} (h : R [] H) : tNil σ H R := h
theorem i_cons {ta : TE} {tr : TA} {R : List V → Hp → Prop} (h : ta σ H fun x H1 => tr σ H1 fun xs H2 => R (x :: xs) H2) : tCons ta tr σ H R := h
theorem i_cb {r : List V → Hp → VK → Prop} {t : TA} (h : t σ H fun vs H1 => r vs H1 Q) : tCB r t σ H Q := h
/-- a new list, a new tuple -/
abbrev NewL (xs : List V) (H : Hp) (Q : VK) : Prop := xs.length ≤ sizeLine ∧ ∀ p, H p = none → Q (.ref p) (upd H p (.lst xs))
abbrev NewT (xs : List V) (H : Hp) (Q : VK) : Prop := xs.length ≤ sizeLine ∧ ∀ p, H p = none → Q (.ref p) (upd H p (.tup xs))
theorem i_tup {t : TA} (h : t σ H fun xs H1 => NewT xs H1 Q) : tTup t σ H Q := h
theorem i_lst {t : TA} (h : t σ H fun xs H1 => NewL xs H1 Q) : tLst t σ H Q := h
theorem i_bm {T : String} {r : V → List V → Hp → VK → Prop} {to : TE} {t : TA} (h : to σ H fun x H1 => tyV K T x H1 ∧ t σ H1 fun xs H2 => r x xs H2 Q) : tBM K T r to t σ H Q := h
theorem i_bm0 {T : String} {r : V → List V → Hp → VK → Prop} {to : TE} (h : to σ H fun x H1 => tyV K T x H1 ∧ r x [] H1 Q) : tBM0 K T r to σ H Q := h
theorem i_sl {r : V → Option Int → Option Int → Hp → VK → Prop} {te : TE} {tl th : TO} (h : te σ H fun x H1 => tl σ H1 fun l H2 => th σ H2 fun u H3 => r x l u H3 Q) : tSl r te tl th σ H Q := h
theorem i_part {t : TE} {R : Option Int → Hp → Prop} (h : t σ H fun x H1 => ∃ i, x = .int i ∧ R (some i) H1) : tPart t σ H R := h
theorem i_exi {b : Int} {R : Int → Prop} (h : R b) : ∃ k, V.int b = V.int k ∧ R k := ⟨b, rfl, h⟩
/-- a test by a value's truth -/
theorem i_truB {b : Bool} {R : Bool → Prop} (h : R b) : ∃ k, TruV K (.bl b) H k ∧ R k := ⟨b, rfl, h⟩
/-- ifs -/
theorem i_ifd {c A B : Prop} [Decidable c] (h1 : c → A) (h2 : ¬ c → B) : if decide c = true then A else B := by
  by_cases h : c
  · rw [if_pos (decide_eq_true h)]; exact h1 h
  · rw [if_neg (by simp [h])]; exact h2 h
theorem i_ifn {c A B : Prop} [Decidable c] (h1 : ¬ c → A) (h2 : c → B) : if (!decide c) = true then A else B := by
  by_cases h : c
  · rw [if_neg (by simp [h])]; exact h2 h
  · rw [if_pos (by simp [h])]; exact h1 h
theorem i_ifb {b : Bool} {A B : Prop} (h1 : b = true → A) (h2 : b = false → B) : if b = true then A else B := by
  cases b
  · rw [if_neg Bool.false_ne_true]; exact h2 rfl
  · rw [if_pos rfl]; exact h1 rfl
theorem i_ifT {b : Bool} {A B : Prop} (h : b = true) (k : A) : if b = true then A else B := by rw [if_pos h]; exact k
theorem i_ifF {b : Bool} {A B : Prop} (h : b = false) (k : B) : if b = true then A else B := by rw [if_neg (by rw [h]; exact Bool.false_ne_true)]; exact k
end

def LoopR (lo : Int) (n : Nat) (g : TG) (tb : TS) (D : Ends) (σ : St) (H : Hp) : Prop :=
  ∃ W : Nat → Nat → St → Hp → Prop, (∃ m, W 0 m σ H) ∧ ∀ i m σ H, W i m σ H →
      ((Itr lo n).stop i H ∧ D.nx σ H) ∨ ((Itr lo n).go i H ∧ ∃ N : St → Hp → Prop, (∀ σ' H', N σ' H' → ∃ m', m' < m ∧ W (i + 1) m' σ' H') ∧ ∀ x H', (Itr lo n).yld i H x H' → g x σ H' fun σ2 H2 => tb { D with nx := N, ct := N, bk := D.nx } σ2 H2)
def LoopL (K : PySem.W.Frag) (a : Addr) (g : TG) (tb : TS) (D : Ends) (σ : St) (H : Hp) : Prop :=
  ∃ W : Nat → Nat → St → Hp → Prop, (∃ m, W 0 m σ H) ∧ ∀ i m σ H, W i m σ H →
      ((Itl K a).stop i H ∧ D.nx σ H) ∨ ((Itl K a).go i H ∧ ∃ N : St → Hp → Prop, (∀ σ' H', N σ' H' → ∃ m', m' < m ∧ W (i + 1) m' σ' H') ∧ ∀ x H', (Itl K a).yld i H x H' → g x σ H' fun σ2 H2 => tb { D with nx := N, ct := N, bk := D.nx } σ2 H2)
def LoopT (K : PySem.W.Frag) (a : Addr) (g : TG) (tb : TS) (D : Ends) (σ : St) (H : Hp) : Prop :=
  ∃ W : Nat → Nat → St → Hp → Prop, (∃ m, W 0 m σ H) ∧ ∀ i m σ H, W i m σ H →
      ((Itt K a).stop i H ∧ D.nx σ H) ∨ ((Itt K a).go i H ∧ ∃ N : St → Hp → Prop, (∀ σ' H', N σ' H' → ∃ m', m' < m ∧ W (i + 1) m' σ' H') ∧ ∀ x H', (Itt K a).yld i H x H' → g x σ H' fun σ2 H2 => tb { D with nx := N, ct := N, bk := D.nx } σ2 H2)
section
variable {σ : St} {H : Hp} {D : Ends} {K : PySem.W.Frag} {g : TG} {tb : TS}
theorem i_forR1 {ta : TA} (h : ta σ H fun vs H1 => ∃ j : Int, vs = [.int j] ∧ -(2 ^ 62) ≤ j ∧ j < 2 ^ 62 ∧ LoopR 0 j.toNat g tb D σ H1) : tFor (iRng1 ta) g tb D σ H := h
theorem i_forR2 {ta : TA} (h : ta σ H fun vs H1 => ∃ i j : Int, vs = [.int i, .int j] ∧ (-(2 ^ 62) ≤ i ∧ i < 2 ^ 62 ∧ -(2 ^ 62) ≤ j ∧ j < 2 ^ 62) ∧ LoopR i (j - i).toNat g tb D σ H1) : tFor (iRng2 ta) g tb D σ H := h
theorem loopR0 {n : Nat} (Pv : Nat → St → Hp → Prop) (h0 : Pv 0 σ H) (hs : ∀ (i : Nat) σ H, i < n → Pv i σ H → g (.int (i : Int)) σ H fun σ2 H2 => tb { D with nx := Pv (i + 1), ct := Pv (i + 1), bk := D.nx } σ2 H2) (hd : ∀ σ H, Pv n σ H → D.nx σ H) : LoopR 0 n g tb D σ H := for_range Pv h0 (fun i σ H hi p => by rw [Int.zero_add]; exact hs i σ H hi p) hd
theorem loopL {a : Addr} {xs : List V} (Pv : Nat → St → Hp → Prop) (h0 : Pv 0 σ H) (hl : ∀ i σ H, i ≤ xs.length → Pv i σ H → SqL K H a xs) (hs : ∀ i x σ H, xs[i]? = some x → Pv i σ H → g x σ H fun σ2 H2 => tb { D with nx := Pv (i + 1), ct := Pv (i + 1), bk := D.nx } σ2 H2) (hd : ∀ σ H, Pv xs.length σ H → D.nx σ H) : LoopL K a g tb D σ H := for_list Pv h0 hl hs hd
theorem loopT {a : Addr} {xs : List V} (Pv : Nat → St → Hp → Prop) (h0 : Pv 0 σ H) (hl : ∀ i σ H, i ≤ xs.length → Pv i σ H → SqT K H a xs) (hs : ∀ i x σ H, xs[i]? = some x → Pv i σ H → g x σ H fun σ2 H2 => tb { D with nx := Pv (i + 1), ct := Pv (i + 1), bk := D.nx } σ2 H2) (hd : ∀ σ H, Pv xs.length σ H → D.nx σ H) : LoopT K a g tb D σ H := for_tup Pv h0 hl hs hd
end

def Its (x : Str) : It := ⟨fun i _ => i < x.cps.size, fun i H v H' => H' = H ∧ ∃ c, x.cps[i]? = some c ∧ v = .str ⟨#[c]⟩, fun i _ => x.cps.size ≤ i⟩
theorem turn_strA {P : Program} {w : World} {K : PySem.W.Frag} {tg : Expr} (x : Str) (t : Tok) (it : Addr) : Turn P w K tg (Its x) [it] it (fun i h => h.IsStrIter it "str_ascii_iterator" x t i) where
  mem := by simp
  obj := fun i h st b hb => by
    have e : b = it := by simpa using hb
    subst e
    obtain ⟨o, e, c, d⟩ := st
    exact ⟨o, e, fun v z => by rw [d] at z; cases z⟩
  keep := fun i h h' st k => let ⟨o, ho, r⟩ := st; ⟨o, k it (by simp) o ho, r⟩
  item := by
    intro X hP hw hK hc i pins s σ H E I hf st hg
    subst hP hw hK
    obtain ⟨f0, f1, f2, f3, f4, f5⟩ := hf it (by simp)
    have hg : i < x.cps.size := hg
    refine wpAny_pyNext_ascii_item st (c := x.cps[i]) (by simp [hg]) fun h' st' sb => ?_
    have I1 : Inv X pins σ H { s with heap := h', toks := s.toks + 1 } := I.turned (fun b o hb e => (sb.2 b hb).trans e) f0 f1 f3 f4 f5
    obtain ⟨o, e, c, d⟩ := id st'
    exact ⟨_, rfl, go_of (s := { s with heap := h', toks := s.toks + 1 }) e c d (by decide) ⟨.str ⟨#[x.cps[i]]⟩, H, I1, ⟨_, rfl⟩, ⟨rfl, _, by simp [hg], rfl⟩, st', fun b hb => (hf b hb).1⟩⟩
  done := by
    intro X hP hw hK hc i pins s σ H E I hf st hg
    subst hP hw hK
    obtain ⟨f0, f1, f2, f3, f4, f5⟩ := hf it (by simp)
    have hg : x.cps.size ≤ i := hg
    exact wpAny_pyNext_ascii_end (I.ok.hd hc) st (by simp [hg]) fun h' eb => ⟨rfl, I.turned (t' := s.toks) (fun b o hb e => eb b o hb e) f0 f1 f3 f4 f5⟩
  self := fun _ _ _ _ _ st h => wpAny_pyIter_striter_ascii st h
theorem turn_strW {P : Program} {w : World} {K : PySem.W.Frag} {tg : Expr} (x : Str) (t : Tok) (it : Addr) : Turn P w K tg (Its x) [it] it (fun i h => h.IsStrIter it "str_iterator" x t i) where
  mem := by simp
  obj := fun i h st b hb => by
    have e : b = it := by simpa using hb
    subst e
    obtain ⟨o, e, c, d⟩ := st
    exact ⟨o, e, fun v z => by rw [d] at z; cases z⟩
  keep := fun i h h' st k => let ⟨o, ho, r⟩ := st; ⟨o, k it (by simp) o ho, r⟩
  item := by
    intro X hP hw hK hc i pins s σ H E I hf st hg
    subst hP hw hK
    obtain ⟨f0, f1, f2, f3, f4, f5⟩ := hf it (by simp)
    have hg : i < x.cps.size := hg
    refine wpAny_pyNext_wide_item st (c := x.cps[i]) (by simp [hg]) fun h' st' sb => ?_
    have I1 : Inv X pins σ H { s with heap := h', toks := s.toks + 1 } := I.turned (fun b o hb e => (sb.2 b hb).trans e) f0 f1 f3 f4 f5
    obtain ⟨o, e, c, d⟩ := id st'
    exact ⟨_, rfl, go_of (s := { s with heap := h', toks := s.toks + 1 }) e c d (by decide) ⟨.str ⟨#[x.cps[i]]⟩, H, I1, ⟨_, rfl⟩, ⟨rfl, _, by simp [hg], rfl⟩, st', fun b hb => (hf b hb).1⟩⟩
  done := by
    intro X hP hw hK hc i pins s σ H E I hf st hg
    subst hP hw hK
    obtain ⟨f0, f1, f2, f3, f4, f5⟩ := hf it (by simp)
    have hg : x.cps.size ≤ i := hg
    exact wpAny_pyNext_wide_end (I.ok.hd hc) st (by simp [hg]) fun h' eb => ⟨rfl, I.turned (t' := s.toks) (fun b o hb e => eb b o hb e) f0 f1 f3 f4 f5⟩
  self := fun _ _ _ _ _ st h => wpAny_pyIter_striter_wide st h
def iSeq (K : PySem.W.Frag) (tl : TE) : TI := fun σ H R => tl σ H fun x H1 => (∃ a xs, x = .ref a ∧ SqL K H1 a xs ∧ R (Itl K a) H1) ∨ (∃ a xs, x = .ref a ∧ SqT K H1 a xs ∧ R (Itt K a) H1) ∨ (∃ z, x = .str z ∧ R (Its z) H1)
theorem pi_seq {X : Cx} {tg : Expr} {l : Expr} {tl : TE} (hl : PE X l tl) : PI X tg l (iSeq X.K tl) := by
  intro pins s σ H R I h
  refine thn (hl pins s σ H _ I h) fun v s1 ⟨x, H1, I1, r1, q1⟩ => ?_
  have fp : ∀ b ∈ [s1.heap.objs.size], FpOk X pins H1 b := fun b hb => by
    have e : b = s1.heap.objs.size := by simpa using hb
    subst e
    exact I1.fpOk (Nat.le_refl _) (I1.hok.fresh (Nat.le_refl _))
  rcases q1 with ⟨a, xs, e, hq, q⟩ | ⟨a, xs, e, hq, q⟩ | ⟨z, e, q⟩
  · subst e
    cases r1
    obtain ⟨its, rv, p, hz⟩ := I1.list hq
    refine wpAny_pyIter_list p.isList ?_
    exact ⟨s1.heap.objs.size, [s1.heap.objs.size], _, _, H1, rfl, I1.kept (t' := s1.toks) fun b o e => Heap.get?_push_of_some _ e, turn_list a _, ⟨_, Heap.get?_push_size _ rfl, rfl, rfl⟩, fp, q⟩
  · subst e
    cases r1
    obtain ⟨its, rv, p, hz⟩ := I1.tuple hq
    refine wpAny_pyIter_tuple (show s1.heap.IsTuple a its.toArray from p) ?_
    exact ⟨s1.heap.objs.size, [s1.heap.objs.size], _, _, H1, rfl, I1.kept (t' := s1.toks) fun b o e => Heap.get?_push_of_some _ e, turn_tuple a _, ⟨_, Heap.get?_push_size _ rfl, rfl, rfl⟩, fp, q⟩
  · subst e
    obtain ⟨t, rfl⟩ := r1
    cases ha : z.cps.all (· < 128) with
    | false =>
      refine wpAny_pyIter_wide ha ?_
      exact ⟨s1.heap.objs.size, [s1.heap.objs.size], _, _, H1, rfl, I1.kept (t' := s1.toks) fun b o e => Heap.get?_push_of_some _ e, turn_strW z t _, ⟨_, Heap.get?_push_size _ rfl, rfl, rfl⟩, fp, q⟩
    | true =>
      refine wpAny_pyIter_ascii ha ?_
      exact ⟨s1.heap.objs.size, [s1.heap.objs.size], _, _, H1, rfl, I1.kept (t' := s1.toks) fun b o e => Heap.get?_push_of_some _ e, turn_strA z t _, ⟨_, Heap.get?_push_size _ rfl, rfl, rfl⟩, fp, q⟩
def LoopX (x : Str) (g : TG) (tb : TS) (D : Ends) (σ : St) (H : Hp) : Prop :=
  ∃ W : Nat → Nat → St → Hp → Prop, (∃ m, W 0 m σ H) ∧ ∀ i m σ H, W i m σ H →
      ((Its x).stop i H ∧ D.nx σ H) ∨ ((Its x).go i H ∧ ∃ N : St → Hp → Prop, (∀ σ' H', N σ' H' → ∃ m', m' < m ∧ W (i + 1) m' σ' H') ∧ ∀ x' H', (Its x).yld i H x' H' → g x' σ H' fun σ2 H2 => tb { D with nx := N, ct := N, bk := D.nx } σ2 H2)
def SeqW (K : PySem.W.Frag) (x : V) (g : TG) (tb : TS) (D : Ends) (σ : St) (H1 : Hp) : Prop :=
  (∃ a xs, x = .ref a ∧ SqL K H1 a xs ∧ LoopL K a g tb D σ H1) ∨ (∃ a xs, x = .ref a ∧ SqT K H1 a xs ∧ LoopT K a g tb D σ H1) ∨ (∃ z, x = .str z ∧ LoopX z g tb D σ H1)
section
variable {σ : St} {H : Hp} {D : Ends} {K : PySem.W.Frag} {g : TG} {tb : TS}
theorem i_forS {tl : TE} (h : tl σ H fun x H1 => SeqW K x g tb D σ H1) : tFor (iSeq K tl) g tb D σ H := h
theorem seqL {a : Addr} {xs : List V} (Pv : Nat → St → Hp → Prop) (h0 : Pv 0 σ H) (hl : ∀ i σ H, i ≤ xs.length → Pv i σ H → SqL K H a xs) (hs : ∀ i x σ H, xs[i]? = some x → Pv i σ H → g x σ H fun σ2 H2 => tb { D with nx := Pv (i + 1), ct := Pv (i + 1), bk := D.nx } σ2 H2) (hd : ∀ σ H, Pv xs.length σ H → D.nx σ H) : SeqW K (.ref a) g tb D σ H := .inl ⟨a, xs, rfl, hl 0 σ H (Nat.zero_le _) h0, loopL Pv h0 hl hs hd⟩
theorem seqT {a : Addr} {xs : List V} (Pv : Nat → St → Hp → Prop) (h0 : Pv 0 σ H) (hl : ∀ i σ H, i ≤ xs.length → Pv i σ H → SqT K H a xs) (hs : ∀ i x σ H, xs[i]? = some x → Pv i σ H → g x σ H fun σ2 H2 => tb { D with nx := Pv (i + 1), ct := Pv (i + 1), bk := D.nx } σ2 H2) (hd : ∀ σ H, Pv xs.length σ H → D.nx σ H) : SeqW K (.ref a) g tb D σ H := .inr (.inl ⟨a, xs, rfl, hl 0 σ H (Nat.zero_le _) h0, loopT Pv h0 hl hs hd⟩)
end

section
variable (P : Program) (w : World) (K : PySem.W.Frag) (mg : Str → Option Value) (base : Heap)
def FnS (k : Nat) (x : Str) (ps : List Str) (sp : Sp) : Prop := ∃ f fd, FnOk P w K mg base CX0 k f fd ps sp ∧ Binds K fd ps [] ∧ PySem.W.keepIn K (.ref f) = true ∧ mg x = some (.ref f)
end
def tFn (sp : Sp) (t : TA) : TE := fun σ H Q => t σ H fun vs H1 => sp vs H1 Q E0
theorem i_fn {sp : Sp} {t : TA} {σ : St} {H : Hp} {Q : VK} (h : t σ H fun vs H1 => sp vs H1 Q E0) : tFn sp t σ H Q := h
theorem tCall_nil (sp : Sp) (t : TA) : tCall sp [] E0 t = tFn sp t := by
  funext σ H Q
  unfold tCall tFn
  have e : (fun (vs : List V) (H1 : Hp) => sp (vs ++ []) H1 Q E0) = fun vs H1 => sp vs H1 Q E0 := by
    funext vs H1; rw [List.append_nil]
  rw [e]
section
variable {X : Cx} {k k' : Nat} {x m : Str} {C : Addr} {ps : List Str} {sp : Sp} {e o : Expr} {es : List Expr} {ta : TE} {t : TA} {p pos apos : Pos}
theorem pe_fn (G : FnS X.prog X.w X.K X.mg X.base k x ps sp) (hr : Room k' X.A) (ha : PA X (e :: es) t) (hk : k ≤ k' := by omega) (hg : Gl X x := by rfl) (hdb : (x == ("__debug__" : Str)) = false := by decide)
    (he : starEach (e :: es) X.env = (false, eval e X.env) :: starEach es X.env := by rfl) (hpl : (backTo pos (starEach es X.env)).any (·.1) = false := by rfl) : PE X (.Call (.Name x p) (e :: es) [] pos) (tFn sp t) := by
  obtain ⟨f, fd, F, hb, kp, hm⟩ := G
  rw [← tCall_nil]
  exact pe_call F (hr.mono hk) hg hm kp hb .nil pass0 ha hdb he hpl
/-- name = value, the slot i -/
theorem ss (i : Nat) {x : Str} {e : Expr} {te : TE} {pos pos' : Pos} (hN : X.N.Nodup) (he : PE X e te) (hi : X.N[i]? = some x := by rfl) (hx : Loc X.env.scope x := by first | exact Or.inl rfl | exact Or.inr rfl)
    (hs : swapsWith e (some (.Name x pos')) pos.line X.env = pure false := by rfl) (hf : X.fn x = true ∨ X.env.scope.names.lookup x = some .local := by first | exact .inl rfl | exact .inr rfl) : PS X (.Assign [.Name x pos'] e pos) (tAsg te (gName i)) :=
  ps_set hN hi hx he hs hf
theorem sg (i : Nat) {x : Str} {pos : Pos} (hN : X.N.Nodup) (hi : X.N[i]? = some x := by rfl) (hx : Loc X.env.scope x := by first | exact Or.inl rfl | exact Or.inr rfl) (hf : X.fn x = true ∨ X.env.scope.names.lookup x = some .local := by first | exact .inl rfl | exact .inr rfl) : PG X (.Name x pos) (gName i) := pg_name hN hi hx hf
def rIsi (K : PySem.W.Frag) : List V → Hp → VK → Prop := fun xs H Q => ∃ x t b, TyOf K H x t ∧ ((∃ n, xs = [x, .ty n] ∧ PySem.W.kitOne K t (.type n) = some b) ∨ (∃ c, xs = [x, .ref c] ∧ PySem.W.kitOne K t (.ref c) = some b)) ∧ Q (.bl b) H
theorem call_isi : CallR X (.builtin "isinstance") (rIsi X.K) := by
  intro pins s σ H xs us Q I r h
  obtain ⟨x, t, b, ty, h, q⟩ := h
  rcases h with ⟨n, rfl, e⟩ | ⟨c, rfl, e⟩
  · obtain ⟨u, v, rfl, ru, rv⟩ := vals2 r
    obtain rfl : v = Value.type n := rv
    exact isinst_ok I ru ty e fun tk => ⟨.bl b, H, I.tok tk, rfl, q⟩
  · obtain ⟨u, v, rfl, ru, rv⟩ := vals2 r
    obtain rfl : v = Value.ref c := rv
    exact isinst_ok I ru ty e fun tk => ⟨.bl b, H, I.tok tk, rfl, q⟩
theorem i_isiT {K : PySem.W.Frag} {x : V} {n : String} {t : Value} {b : Bool} {H : Hp} {Q : VK} (ty : TyOf K H x t) (e : PySem.W.kitOne K t (.type n) = some b) (h : Q (.bl b) H) : rIsi K [x, .ty n] H Q := ⟨x, t, b, ty, .inl ⟨n, rfl, e⟩, h⟩
def rAddG : R2 := fun x y H Q => rI0 (fun i j => V.int (i + j)) x y H Q ∨ (∃ i j, x = .str i ∧ y = .str j ∧ i.length + j.length ≤ sizeLine ∧ Q (.str (i ++ j)) H) ∨ rCat x y H Q
theorem op_addG : OpR X (binaryOp .Add) rAddG := OpR.or op_add (OpR.or op_add_str op_cat)
theorem i_addI {i j : Int} {H : Hp} {Q : VK} (h : Q (.int (i + j)) H) : rAddG (.int i) (.int j) H Q := .inl ⟨i, j, rfl, rfl, h⟩
end

section
variable {X : Cx} {K : PySem.W.Frag} {H : Hp} {Q : VK} {a : Expr} {ta : TE} {pos : Pos}
theorem bt_len : bootBuiltins "len" = some (.builtin "len") := by decide +kernel
theorem bt_isinstance : bootBuiltins "isinstance" = some (.builtin "isinstance") := by decide +kernel
theorem bt_sorted : bootBuiltins "sorted" = some (.builtin "sorted") := by decide +kernel
theorem bt_int : bootBuiltins "int" = some (.type "int") := by decide +kernel
theorem bt_bool : bootBuiltins "bool" = some (.type "bool") := by decide +kernel
theorem bt_list : bootBuiltins "list" = some (.type "list") := by decide +kernel
theorem bt_tuple : bootBuiltins "tuple" = some (.type "tuple") := by decide +kernel
/-- len -/
def rLen (K : PySem.W.Frag) : List V → Hp → VK → Prop := fun xs H Q => ∃ x n, xs = [x] ∧ LenV K x H n ∧ Q (.int n) H
theorem call_lenG : CallR X (.builtin "len") (rLen X.K) := call_len
theorem i_lenS {p : Addr} {xs : List V} (h : SqL K H p xs) (k : Q (.int xs.length) H) : rLen K [.ref p] H Q := ⟨_, _, rfl, .inl ⟨xs, h, rfl⟩, k⟩
theorem i_lenL {p : Addr} {xs : List V} (h : H p = some (.lst xs)) (k : Q (.int xs.length) H) : rLen K [.ref p] H Q := ⟨_, _, rfl, .inl ⟨xs, SqL.of h, rfl⟩, k⟩
theorem i_lenT {p : Addr} {xs : List V} (h : H p = some (.tup xs)) (k : Q (.int xs.length) H) : rLen K [.ref p] H Q := ⟨_, _, rfl, .inr ⟨xs, SqT.of h, rfl⟩, k⟩
/-- list(), tuple() -/
def rListOf (K : PySem.W.Frag) : List V → Hp → VK → Prop := fun xs H Q => ∃ p ys, xs = [.ref p] ∧ (SqL K H p ys ∨ SqT K H p ys) ∧ ∀ l, H l = none → Q (.ref l) (upd H l (.lst ys))
theorem call_listG : CallR X (.type "list") (rListOf X.K) := call_list_of
/-- index -/
theorem i_ixS {p : Addr} {xs : List V} {j : Nat} {v : V} (h : SqL K H p xs) (e : xs[j]? = some v) (k : Q v H) : rIx K (.ref p) (.int (j : Int)) H Q := .inl ⟨p, xs, j, v, rfl, rfl, h, atI_nat e, k⟩
theorem i_ixL {p : Addr} {xs : List V} {j : Nat} {v : V} (h : H p = some (.lst xs)) (e : xs[j]? = some v) (k : Q v H) : rIx K (.ref p) (.int (j : Int)) H Q := .inl ⟨p, xs, j, v, rfl, rfl, SqL.of h, atI_nat e, k⟩
theorem i_ixT {p : Addr} {xs : List V} {i : Int} {v : V} (h : H p = some (.tup xs)) (e : atI xs i = some v) (k : Q v H) : rIx K (.ref p) (.int i) H Q := .inr (.inl ⟨p, xs, i, v, rfl, rfl, SqT.of h, e, k⟩)
/-- slices of lists and tuples -/
def rSlG (K : PySem.W.Frag) : V → Option Int → Option Int → Hp → VK → Prop := fun x lo hi H Q => rSlL K x lo hi H Q ∨ rSlT K x lo hi H Q
theorem sl_seq : SlR X (rSlG X.K) := SlR.or sl_list sl_tup
theorem i_slS {p : Addr} {xs : List V} {lo hi : Option Int} (h : SqL K H p xs) (k : ∀ l, H l = none → Q (.ref l) (upd H l (.lst (cutV xs lo hi)))) : rSlG K (.ref p) lo hi H Q := .inl ⟨p, xs, rfl, h, k⟩
/-- a times b -/
def rMulG : R2 := rI CMul fun i j => V.int (i * j)
theorem op_mulG : OpR X (binaryOp .Mult) rMulG := op_mul
theorem i_mulI {i j : Int} (c : CMul i j) (h : Q (.int (i * j)) H) : rMulG (.int i) (.int j) H Q := ⟨i, j, rfl, rfl, c, h⟩
/-- list methods -/
theorem i_append {l : Addr} {xs : List V} {y : V} (h : H l = some (.lst xs)) (z : xs.length < sizeLine) (k : Q .non (upd H l (.lst (xs ++ [y])))) : rAppend (.ref l) [y] H Q := ⟨l, xs, y, rfl, rfl, h, z, k⟩
theorem tyL {l : Addr} {xs : List V} (h : H l = some (.lst xs)) : tyV K "list" (.ref l) H := .inl ⟨rfl, xs, SqL.of h⟩
end
theorem small {n : Nat} (h : n ≤ 1000000) : n ≤ sizeLine := Nat.le_trans h (by decide)
theorem smallL {n : Nat} (h : n < 1000000) : n < sizeLine := Nat.lt_of_lt_of_le h (by decide)
theorem kit_self (K : PySem.W.Frag) (n : String) : PySem.W.kitOne K (.type n) (.type n) = some true := by
  unfold PySem.W.kitOne
  rw [if_pos (by simp)]
theorem same_new {H : Hp} {p : Addr} (h : H p = none) (o : HO) : Same H (upd H p o) := fun b u q => by rw [upd_ne (ne_of_none q h)]; exact q
theorem kit_prim {K : PySem.W.Frag} {t c : String} {b : Bool} (h1 : t ≠ c) (h2 : PySem.W.kitMeta c = true) (h3 : (PySem.fastBuiltinMro t).map (·.contains (Value.type c)) = some b) : PySem.W.kitOne K (.type t) (.type c) = some b := by
  unfold PySem.W.kitOne
  rw [if_neg (by simp [h1])]
  unfold PySem.W.kitCls
  dsimp only
  rw [if_pos h2]
  exact h3
theorem kit_int_bool (K : PySem.W.Frag) : PySem.W.kitOne K (.type "int") (.type "bool") = some false := kit_prim (by decide) (by decide +kernel) (by decide +kernel)
/-- the built-in names that the text does not bind -/
structure Bt (mg : Str → Option Value) : Prop where
  len : mg "len" = none
  range : mg "range" = none
  isinstance : mg "isinstance" = none
  int : mg "int" = none
  bool : mg "bool" = none
  str : mg "str" = none
  list : mg "list" = none
  tuple : mg "tuple" = none
  dict : mg "dict" = none
  set : mg "set" = none
  sorted : mg "sorted" = none
  max : mg "max" = none
  min : mg "min" = none
  sum : mg "sum" = none
  any : mg "any" = none
  all : mg "all" = none
  abs : mg "abs" = none
  reversed : mg "reversed" = none
  enumerate : mg "enumerate" = none
  zip : mg "zip" = none
/-- all but lists stay: what FmAt and its like lean on -/
def Ext (H H' : Hp) : Prop := ∀ b o, H b = some o → (∀ xs, o ≠ .lst xs) → H' b = some o
theorem Ext.of {H H' : Hp} (a : Same H H') : Ext H H' := fun b o h _ => a b o h
theorem cut_init (xs : List V) (v : V) : cutV (xs ++ [v]) none (some (-1)) = xs := by
  unfold cutV
  rw [HT.sIx_none]
  have e : HT.sIx (xs ++ [v]).length (xs ++ [v]).length (some (-1)) = xs.length := by
    have h : HT.sIx (xs ++ [v]).length (xs ++ [v]).length (some (-1)) = (if (-1 : Int) < 0 then ((-1 : Int) + ((xs ++ [v]).length : Int)).toNat else min (-1 : Int).toNat (xs ++ [v]).length) := rfl
    rw [h, if_pos (by decide), List.length_append, List.length_singleton]
    omega
  rw [e]
  simp
theorem cut_mid (xs : List V) (i j : Nat) : cutV xs (some (i : Int)) (some (j : Int)) = (xs.drop i).take (j - i) := by
  unfold cutV
  rw [HT.sIx_nat, HT.sIx_nat]
  by_cases hi : i ≤ xs.length
  · rw [Nat.min_eq_left hi]
    by_cases hj : j ≤ xs.length
    · rw [Nat.min_eq_left hj]
    · rw [Nat.min_eq_right (by omega), List.take_of_length_le (by rw [List.length_drop]; omega), List.take_of_length_le (by rw [List.length_drop]; omega)]
  · rw [Nat.min_eq_right (show xs.length ≤ i by omega), List.drop_eq_nil_of_le (Nat.le_refl _), List.drop_eq_nil_of_le (show xs.length ≤ i by omega)]
    simp
theorem map_int_mid (ns : List Int) (i j : Nat) : ((ns.map V.int).drop i).take j = ((ns.drop i).take j).map V.int := by
  rw [List.map_take, List.map_drop]
theorem get_int {ns : List Int} {i : Nat} {x : V} (h : (ns.map V.int)[i]? = some x) : ∃ n, x = V.int n ∧ ns[i]? = some n := by
  rw [List.getElem?_map] at h
  cases e : ns[i]? with
  | none => rw [e] at h; cases h
  | some n => rw [e] at h; exact ⟨n, (Option.some.inj h).symm, rfl⟩
theorem snoc_of {α : Type} {l : List α} (h : l ≠ []) : ∃ r x, l = r ++ [x] := ⟨l.dropLast, l.getLast h, (List.dropLast_concat_getLast h).symm⟩
section
variable {K : PySem.W.Frag} {H : Hp} {Q : VK}
theorem j_lst {xs : List V} (z : xs.length ≤ 1000000) (h : ∀ (p : Addr) (H' : Hp), Same H H' → H p = none → H' p = some (.lst xs) → Q (.ref p) H') : NewL xs H Q :=
  ⟨small z, fun p hp => h p _ (same_new hp _) hp upd_same⟩
theorem j_tup {xs : List V} (z : xs.length ≤ 1000000) (h : ∀ (p : Addr) (H' : Hp), Same H H' → H p = none → H' p = some (.tup xs) → Q (.ref p) H') : NewT xs H Q :=
  ⟨small z, fun p hp => h p _ (same_new hp _) hp upd_same⟩
theorem j_sl {p : Addr} {xs ys : List V} {lo hi : Option Int} (h : SqL K H p xs) (e : cutV xs lo hi = ys) (k : ∀ (l : Addr) (H' : Hp), Same H H' → H l = none → H' l = some (.lst ys) → Q (.ref l) H') : rSlG K (.ref p) lo hi H Q :=
  i_slS h fun l hl => by rw [e]; exact k l _ (same_new hl _) hl upd_same
theorem j_list {p : Addr} {ys : List V} (h : SqL K H p ys ∨ SqT K H p ys) (k : ∀ (l : Addr) (H' : Hp), Same H H' → H l = none → H' l = some (.lst ys) → Q (.ref l) H') : rListOf K [.ref p] H Q :=
  ⟨p, ys, rfl, h, fun l hl => k l _ (same_new hl _) hl upd_same⟩
/-- all but the list at l stays -/
def But (l : Addr) (H H' : Hp) : Prop := ∀ b o, b ≠ l → H b = some o → H' b = some o
theorem But.ext {l : Addr} {H H' : Hp} {xs : List V} (h : H l = some (.lst xs)) (s : But l H H') : Ext H H' := fun b o e n => s b o (ne_of e h (n xs)) e
theorem But.same {l : Addr} {H0 H H' : Hp} (s : But l H H') (h0 : H0 l = none) (s0 : Same H0 H) : Same H0 H' := fun b o e => s b o (ne_of_none e h0) (s0 b o e)
theorem but_upd {l : Addr} {H : Hp} {o : HO} : But l H (upd H l o) := fun b u n e => by rw [upd_ne n]; exact e
theorem j_append {l : Addr} {xs : List V} {y : V} (h : H l = some (.lst xs)) (z : xs.length < 1000000) (k : ∀ H' : Hp, But l H H' → H' l = some (.lst (xs ++ [y])) → Q .non H') : rAppend (.ref l) [y] H Q := i_append h (smallL z) (k _ but_upd upd_same)
end
end L2

set_option maxRecDepth 100000
set_option maxHeartbeats 4000000
namespace L2
open PySem PySem.Spec PyProof.Rows
def cxComp (X : Cx) (x : Str) (ns : List Str) (scope : Scope) (cl : List (Str × Addr)) (s : Shared) (H : Hp) (ex : List Addr) : Cx where
  prog := X.prog
  w := X.w
  K := X.K
  mg := X.mg
  base := X.base
  A := X.A
  N := x :: ns
  s₀ := s
  H₀ := H
  env := compEnvC scope cl s.heap.objs.size X.env
  outer := X.stack
  stack := X.stack
  ex := ex
  fn := fun _ => false
  calm := X.calm
  pn := []
  xe := fun _ _ => False
/-- the slots that the block takes from around -/
def subS (σ : St) (ix : List Nat) : St := ix.map fun k => (σ[k]?).join
/-- the block's names: its own one, x; those it takes from around, ns, at the places ix of the frame around -/
def CompOk (sc : Scope) (N : List Str) (x : Str) (ns : List Str) (ix : List Nat) (scope : Scope) : Prop :=
  scope.kind = .function ∧ (∀ y ∈ scope.names, y.2 ≠ .cell ∧ (y.2 = .local → scope.names.lookup y.1 = some .local) ∧ (y.2 = .free → sc.names.lookup y.1 = some .cell ∨ sc.names.lookup y.1 = some .free)) ∧
  scope.names.lookup x = some .local ∧ (∀ y ∈ ns, scope.names.lookup y = some .free) ∧ (ix.map fun k => N[k]?) = ns.map some ∧ (x :: ns).Nodup
instance (sc : Scope) (N : List Str) (x : Str) (ns : List Str) (ix : List Nat) (scope : Scope) : Decidable (CompOk sc N x ns ix scope) := by unfold CompOk; infer_instance
/-- what the walk of the block is to show, the iterator J in hand -/
def CompG (J : It) (ix : List Nat) (tc : TT) (te : TE) (σ : St) (Q : VK) (H1 : Hp) : Prop := ∀ acc, H1 acc = none → ∃ W : Nat → Nat → List V → Hp → Prop, (∃ m, W 0 m [] (upd H1 acc (.lst []))) ∧
  ∀ i m ys H, W i m ys H → (J.stop i H ∧ Q (.ref acc) H) ∨ (J.go i H ∧ ∀ x H', J.yld i H x H' → tc (some x :: subS σ ix) H' fun b H2 =>
    if b = true then te (some x :: subS σ ix) H2 fun y H3 => H3 acc = some (.lst ys) ∧ ys.length < sizeLine ∧ ∃ m', m' < m ∧ W (i + 1) m' (ys ++ [y]) (upd H3 acc (.lst (ys ++ [y]))) else ∃ m', m' < m ∧ W (i + 1) m' ys H2)
def tComp (wi : TI) (ix : List Nat) (tc : TT) (te : TE) : TE := fun σ H Q => wi σ H fun J H1 => CompG J ix tc te σ Q H1
theorem lookup_mem {α β : Type} [BEq α] [LawfulBEq α] : ∀ {l : List (α × β)} {a : α} {b : β}, l.lookup a = some b → (a, b) ∈ l
  | [], _, _, h => by simp at h
  | (k, v) :: r, a, b, h => by
    rw [List.lookup_cons] at h
    cases e : a == k with
    | true =>
      rw [e] at h
      have : a = k := by simpa using e
      subst this
      cases h
      exact List.mem_cons_self
    | false =>
      rw [e] at h
      exact List.mem_cons_of_mem _ (lookup_mem h)
theorem closure_go {env : Env} : ∀ (names : List (Str × NameKind)) (acc : List (Str × Addr)), (∀ y ∈ names, y.2 = .free → ∃ c, env.cells.lookup y.1 = some c) → (∀ y c, acc.lookup y = some c → env.cells.lookup y = some c) →
    ∃ cl, (forIn names acc fun x r => match x with | (name, kind) => if (kind == NameKind.free) = true then (do let a ← cellOf env name; pure (ForInStep.yield ((name, a) :: r))) else pure (ForInStep.yield r) : Sem (List (Str × Addr))) = pure cl ∧
      (∀ y c, cl.lookup y = some c → env.cells.lookup y = some c) ∧ (∀ y, (∃ c, acc.lookup y = some c) → ∃ c, cl.lookup y = some c) ∧ ∀ y ∈ names, y.2 = .free → ∃ c, cl.lookup y.1 = some c
  | [], acc, _, ha => ⟨acc, rfl, ha, fun _ h => h, fun _ h => nomatch h⟩
  | (name, kind) :: r, acc, hn, ha => by
    cases hk : kind == NameKind.free with
    | false =>
      obtain ⟨cl, e, h1, h2, h3⟩ := closure_go r acc (fun y hy => hn y (List.mem_cons_of_mem _ hy)) ha
      refine ⟨cl, ?_, h1, h2, fun y hy hf => ?_⟩
      · rw [List.forIn_cons]
        simp only [hk, Bool.false_eq_true, if_false]
        exact e
      · rcases List.mem_cons.mp hy with rfl | hy
        · have : kind = .free := hf
          subst this
          simp at hk
        · exact h3 y hy hf
    | true =>
      have hkf : kind = .free := by simpa using hk
      obtain ⟨c, hc⟩ := hn (name, kind) List.mem_cons_self hkf
      have hc : env.cells.lookup name = some c := hc
      obtain ⟨cl, e, h1, h2, h3⟩ := closure_go r ((name, c) :: acc) (fun y hy => hn y (List.mem_cons_of_mem _ hy)) (fun y c' hy => by
        rw [List.lookup_cons] at hy
        cases e : y == name with
        | true =>
          rw [e] at hy
          have : y = name := by simpa using e
          subst this
          cases hy
          exact hc
        | false =>
          rw [e] at hy
          exact ha y c' hy)
      refine ⟨cl, ?_, h1, fun y hy => h2 y ?_, fun y hy hf => ?_⟩
      · rw [List.forIn_cons]
        simp only [hk, if_true]
        have : cellOf env name = pure c := by unfold cellOf; rw [hc]
        rw [this]
        exact e
      · obtain ⟨c', hc'⟩ := hy
        rw [List.lookup_cons]
        cases y == name
        · exact ⟨c', hc'⟩
        · exact ⟨c, rfl⟩
      · rcases List.mem_cons.mp hy with rfl | hy
        · exact h2 _ ⟨c, by rw [List.lookup_cons]; simp⟩
        · exact h3 y hy hf
theorem closure_ok {env : Env} (scope : Scope) (h : ∀ y ∈ scope.names, y.2 = .free → ∃ c, env.cells.lookup y.1 = some c) :
    ∃ cl, closureFor scope env = pure cl ∧ (∀ y c, cl.lookup y = some c → env.cells.lookup y = some c) ∧ ∀ y ∈ scope.names, y.2 = .free → ∃ c, cl.lookup y.1 = some c := by
  obtain ⟨cl, e, h1, _, h3⟩ := closure_go (env := env) scope.names [] h (fun _ _ z => by simp at z)
  refine ⟨cl, ?_, h1, h3⟩
  show ((forIn scope.names [] fun x r => match x with | (name, kind) => if (kind == NameKind.free) = true then (do let a ← cellOf env name; pure (ForInStep.yield ((name, a) :: r))) else pure (ForInStep.yield r) : Sem (List (Str × Addr))) >>= fun s => pure s) = pure cl
  rw [e]
  rfl
/-- a name's kind within the block -/
theorem relabel_kind {env : Env} : ∀ (names : List (Str × NameKind)) (y : Str), (names.map fun (n, k) => if (k == NameKind.free && env.scope.kind == .function && env.kindOf n == some .cell) then (n, NameKind.cell) else (n, k)).lookup y =
    (names.lookup y).map fun k => if (k == NameKind.free && env.scope.kind == .function && env.kindOf y == some .cell) = true then NameKind.cell else k
  | [], y => by simp
  | (n, k) :: r, y => by
    have ih := relabel_kind (env := env) r y
    rw [List.map_cons, List.lookup_cons]
    cases e : y == n with
    | true =>
      have ey : y = n := by simpa using e
      subst ey
      by_cases hc : (k == NameKind.free && env.scope.kind == .function && env.kindOf y == some .cell) = true
      · simp only [hc, if_true, List.lookup_cons, beq_self_eq_true, Option.map_some]
      · simp only [hc, if_false, List.lookup_cons, beq_self_eq_true, Option.map_some, Bool.false_eq_true]
    | false =>
      by_cases hc : (k == NameKind.free && env.scope.kind == .function && env.kindOf n == some .cell) = true
      · simp only [hc, if_true, List.lookup_cons, e]; exact ih
      · simp only [hc, if_false, List.lookup_cons, e, Bool.false_eq_true]; exact ih
section
variable {X : Cx} {pins : List (Addr × Obj)} {σ : St} {H : Hp} {s : Shared} {cl : List (Str × Addr)} {x : Str} {ns : List Str} {ix : List Nat} {sc scope : Scope} {N : List Str} {fp : List Addr}
theorem fp_comp (I : Inv X pins σ H s) (f : ∀ b ∈ fp, FpOk X pins H b) (hlt : ∀ b ∈ fp, b < s.heap.objs.size) (hcl : ∀ y c, cl.lookup y = some c → X.env.cells.lookup y = some c) {H' : Hp} (hn : ∀ b ∈ fp, H' b = none) : ∀ b ∈ fp, FpOk (cxComp X x ns scope cl s H fp) [] H' b := fun b hb => by
  obtain ⟨f0, f1, f2, f3, f4, f5⟩ := f b hb
  refine ⟨hn b hb, Nat.ne_of_lt (hlt b hb), fun z => ?_, .inl hb, fun y c e => f4 y c (hcl y c e), fun p hp => ?_⟩
  · rcases List.mem_cons.mp (I.stkSub b z) with z | z
    · exact f1 z
    · exact f2 z
  · exact absurd (show p ∈ ([] : List (Addr × Obj)) from hp) (by simp)
theorem inv_comp {h1 : Heap} {m : Str → Option Value} {t' : Nat} (I : Inv X pins σ H s) (hsc : X.env.scope = sc) (hN : X.N = N) (C : CompOk sc N x ns ix scope) (hcl : ∀ y c, cl.lookup y = some c → X.env.cells.lookup y = some c)
    (hcla : ∀ y ∈ scope.names, y.2 = .free → ∃ c, cl.lookup y.1 = some c) (f : ∀ b ∈ fp, FpOk X pins H b) (hlt : ∀ b ∈ fp, b < s.heap.objs.size) (hn : h1.Ns s.heap.objs.size m) (hk : ∀ b o, s.heap.get? b = some o → h1.get? b = some o) :
    Inv (cxComp X x ns scope cl s H fp) [] (none :: subS σ ix) H { s with heap := h1, toks := t' } := by
  obtain ⟨c1, c2, c3, c4, c5, c6⟩ := C
  have kind : ∀ y, (relabel scope X.env).names.lookup y = (scope.names.lookup y).map fun k => if (k == NameKind.free && X.env.scope.kind == .function && X.env.kindOf y == some .cell) = true then NameKind.cell else k := fun y => relabel_kind scope.names y
  have fr : ∀ y, ((relabel scope X.env).names.lookup y = some .cell ∨ (relabel scope X.env).names.lookup y = some .free) → scope.names.lookup y = some .free := fun y h => by
    rw [kind y] at h
    cases e : scope.names.lookup y with
    | none => rw [e] at h; simp at h
    | some k =>
      rw [e] at h
      have hm := lookup_mem e
      cases k with
      | free => rfl
      | cell => exact absurd rfl (c2 _ hm).1
      | «local» => simp at h
      | globalExplicit => simp at h
      | globalImplicit => simp at h
  have fr' : ∀ y, scope.names.lookup y = some .free → (relabel scope X.env).names.lookup y = some .cell ∨ (relabel scope X.env).names.lookup y = some .free := fun y h => by
    rw [kind y, h]
    by_cases hc : (NameKind.free == NameKind.free && X.env.scope.kind == .function && X.env.kindOf y == some .cell) = true
    · left; rw [Option.map_some, if_pos hc]
    · right; rw [Option.map_some, if_neg hc]
  have noC : ∀ p : Addr × Obj, p ∉ (cxComp X x ns scope cl s H fp).pn ++ [] := fun p hp => absurd (show p ∈ ([] : List (Addr × Obj)) from hp) (by simp)
  have lenE : ix.length = ns.length := by
    have := congrArg List.length c5
    rwa [List.length_map, List.length_map] at this
  refine ⟨⟨I.ok.mod, c1, I.ok.glob, I.ok.blt, Nat.le_refl _, fun y z c h1 h2 => I.ok.inj y z c (hcl y c h1) (hcl z c h2), fun y hy => ?_, fun y c hy => absurd hy (by simp [cxComp]), I.ok.hd, I.ok.frames, .inl rfl, fun b hb => ?_, I.bs,
    Nat.le_trans I.ok.bsz I.sz, fun b o e hb => ?_, fun b hb => ?_, I.stack, I.stkFree⟩, rfl, I.bare, Un.kept hk, ⟨m, hn, fun i y v e1 e2 e3 => ?_⟩, fun y c e => ?_, I.hok.fresh (Nat.le_refl _), fun y c e => I.freeC y c (hcl y c e), fun p hp => absurd hp (noC p), I.hok.kept hk, ?_⟩
  · exact hcla _ (lookup_mem (fr y hy)) rfl
  · obtain ⟨f0, f1, f2, f3, f4, f5⟩ := f b hb
    exact ⟨Nat.ne_of_lt (hlt b hb), fun y c e => f4 y c (hcl y c e)⟩
  · obtain ⟨f0, f1, f2, f3, f4, f5⟩ := f b hb
    rcases f3 with z | z
    · exact I.ok.noex b o e z
    · exact absurd (Nat.lt_of_lt_of_le (Heap.lt_size (I.ok.bs b o e).1) z) (Nat.lt_irrefl _)
  · obtain ⟨f0, f1, f2, f3, f4, f5⟩ := f b hb
    intro z
    rcases List.mem_cons.mp (I.stkSub b z) with z | z
    · exact f1 z
    · exact f2 z
  · cases i with
    | zero => cases e2
    | succ j =>
      have e1' : ns[j]? = some y := e1
      have e2' : (ix.map fun k => (σ[k]?).join)[j]? = some (some v) := e2
      have e5 := congrArg (fun l => l[j]?) c5
      simp only [List.getElem?_map, e1', Option.map_some] at e5 e2'
      cases ek : ix[j]? with
      | none => rw [ek] at e5; cases e5
      | some k =>
        rw [ek] at e5 e2'
        have eN : N[k]? = some y := by simpa using e5
        have eσ : (σ[k]?).join = some v := by simpa using e2'
        have eσ' : σ[k]? = some (some v) := by
          cases q : σ[k]? with
          | none => rw [q] at eσ; cases eσ
          | some w => rw [q] at eσ; have : w = some v := eσ; rw [this]
        have hy := c4 y (List.mem_of_getElem? e1')
        have hk' := (c2 _ (lookup_mem hy)).2.2 rfl
        rw [← hsc] at hk'
        obtain ⟨m0, hn0, hl⟩ := I.loc
        obtain ⟨u, r, l⟩ := hl k y v (by rw [hN]; exact eN) eσ' (.inr hk')
        refine ⟨u, r, ?_⟩
        rcases l with ⟨kl, _⟩ | ⟨_, c, ec, z⟩
        · exfalso
          have kl : X.env.scope.names.lookup y = some .local := kl
          rw [kl] at hk'
          rcases hk' with z | z <;> cases z
        · obtain ⟨c', ec'⟩ := hcla _ (lookup_mem hy) rfl
          have ee : c' = c := by
            have := hcl y c' ec'
            rw [ec] at this
            exact (Option.some.inj this).symm
          subst ee
          obtain ⟨o, ho, hd⟩ := z
          exact .inr ⟨fr' y hy, c', ec', ⟨o, hk _ _ ho, hd⟩⟩
  · obtain ⟨v, o, ho, hd⟩ := I.cell y c (hcl y c e)
    exact ⟨v, o, hk _ _ ho, hd⟩
  · show (none :: subS σ ix).length = (x :: ns).length
    rw [List.length_cons, List.length_cons]
    unfold subS
    rw [List.length_map, lenE]
end
theorem wp_of_pure {α β : Type} {M : Model} {A : Around} {a : α} {P : α → Shared → Prop} {E E' : Value → Shared → Prop} {s s' : Shared} {t : Sem β} {Q : β → Shared → Prop} (h : wpAny M A (pure a) P E s) (k : P a s → wpAny M A t Q E' s') : wpAny M A t Q E' s' :=
  fun Γ p hi => k (h Γ p hi) Γ p hi
/-- the tests of a comprehension -/
def PTs (X : Cx) (ifs : List Expr) (t : TT) : Prop :=
  ∀ (pins : List (Addr × Obj)) (s : Shared) (σ : St) (H : Hp) (Q : Bool → Hp → Prop), Inv X pins σ H s → t σ H Q →
    wpAny (model X.prog X.w) X.A (forIn ifs true fun c r => if r = true then do let ok ← isTrue c X.env (eval c X.env); pure (ForInStep.yield ok) else pure (ForInStep.yield r)) (TP X pins σ Q) X.xe s
def tNoIf : TT := fun _ H Q => Q true H
theorem pts_nil {X : Cx} : PTs X [] tNoIf := fun _ _ _ H _ I h => wpAny_tests_nil ⟨H, I, h⟩
theorem pts_one {X : Cx} {c : Expr} {t : TT} (h : PT X c t) : PTs X [c] t := fun pins s σ H Q I q => wpAny_tests_one (h pins s σ H Q I q)
section
variable {X : Cx} {pins : List (Addr × Obj)} {σ : St} {H : Hp} {s : Shared} {cl : List (Str × Addr)} {x : Str} {ns : List Str} {ix : List Nat} {sc scope : Scope} {N : List Str} {fp : List Addr} {elt iter : Expr} {px pos : Pos} {ifs : List Expr} {tc : TT} {te : TE} {wi : TI}
theorem comp_run {E : Value → Shared → Prop} {J : It} {it : Addr} {tn : Nat → Heap → Prop} {Q : VK} {RR : Value → Addr → Result → Shared → Prop} (hsc : X.env.scope = sc) (hN : X.N = N) (C : CompOk sc N x ns ix scope) (hc : X.calm = true)
    (ht : ∀ cl s H ex, PTs (cxComp X x ns scope cl s H ex) ifs tc) (he : ∀ cl s H ex, PE (cxComp X x ns scope cl s H ex) elt te) (I : Inv X pins σ H s) (hcl : ∀ y c, cl.lookup y = some c → X.env.cells.lookup y = some c)
    (hcla : ∀ y ∈ scope.names, y.2 = .free → ∃ c, cl.lookup y.1 = some c) (T : Turn X.prog X.w X.K (.Name x px) J fp it tn) (st : tn 0 s.heap) (f : ∀ b ∈ fp, FpOk X pins H b) (h : CompG J ix tc te σ Q H)
    (fin : ∀ D C m s' H', Inv X pins σ H' s' → s'.heap.Ns C m → FpOk X pins H' C → Q (.ref D) H' → RR (.ref D) C (.ok .next) s') :
    wpAny (model X.prog X.w) X.A (newList []) (fun ja s3 => wpAny (model X.prog X.w) X.A (newFunctionEnv scope X.env.globals cl [] X.env.qual none .none (some X.env)) (fun ce s4 =>
      codeAny (model X.prog X.w) X.A (.compStart (.ListComp elt [⟨.Name x px, iter, ifs, 0⟩] scope pos) 0 (.ref it) ja { ce with scope := relabel scope X.env }) (RR ja ce.locals) s4) E s3) E s := by
  have hC := C
  obtain ⟨c1, c2, c3, c4, c5, c6⟩ := C
  have hfr : H s.heap.objs.size = none := I.hok.fresh (Nat.le_refl _)
  obtain ⟨W, ⟨m0, w0⟩, turn⟩ := h _ hfr
  refine wpAny_newObj_type (wpAny_newFunctionEnv (fun y hy => (c2 y hy).1) (by intro y hy; simp at hy) (fun h1 hn1 hs1 => ?_) c1)
  have I3 := I.lnew (its := []) (ys := []) (t' := s.toks) .nil (Nat.zero_le _)
  have hlt0 : ∀ b ∈ fp, b < s.heap.objs.size := fun b hb => by
    obtain ⟨o, ho, _⟩ := T.obj _ _ st b hb
    exact Heap.lt_size ho
  generalize hs3 : ({ s with heap := s.heap.push { cls := .type "list", data := .seq ([] : List Value).toArray }, toks := s.toks } : Shared) = s3 at I3
  have e3 : s3.heap = s.heap.push { cls := .type "list", data := .seq ([] : List Value).toArray } := by rw [← hs3]
  have sz3 : s3.heap.objs.size = s.heap.objs.size + 1 := by rw [e3, Heap.size_push]
  have f3 : ∀ b ∈ fp, FpOk X pins (upd H s.heap.objs.size (.lst [])) b := fun b hb => ⟨by rw [upd_ne (Nat.ne_of_lt (hlt0 b hb))]; exact (f b hb).1, (f b hb).2⟩
  have hlt : ∀ b ∈ fp, b < s3.heap.objs.size := fun b hb => by rw [sz3]; exact Nat.lt_succ_of_lt (hlt0 b hb)
  have hk : ∀ b o, s3.heap.get? b = some o → h1.get? b = some o := fun b o e => by
    refine (hs1.2 b ?_).trans (Heap.get?_push_of_some _ ?_)
    · have := Heap.lt_size e
      rw [sz3] at this
      show b ≠ (s.heap.push _).objs.size
      rw [Heap.size_push]
      exact Nat.ne_of_lt this
    · rw [e3] at e; exact e
  have hn3 : h1.Ns s3.heap.objs.size (fun y => ([] : List (Str × Value)).reverse.lookup y) := by rw [e3]; exact hn1
  have I4 := inv_comp (t' := s3.toks + ([] : List (Str × Value)).length) I3 hsc hN hC hcl hcla f3 hlt hn3 hk
  have st4 : tn 0 h1 := T.keep _ _ _ st fun b hb o e => hk b o (by rw [e3]; exact Heap.get?_push_of_some _ e)
  have stat : ∀ {H' : Hp}, (∀ b ∈ fp, H' b = none) → ∀ b ∈ fp, FpOk (cxComp X x ns scope cl s3 (upd H s.heap.objs.size (.lst [])) fp) [] H' b := fun {H'} hn => fp_comp I3 f3 hlt hcl hn
  have loop : ∀ s4 : Shared, s4 = { s3 with heap := h1, toks := s3.toks + ([] : List (Str × Value)).length } →
      codeAny (model X.prog X.w) X.A (.compLoop (.ListComp elt [⟨.Name x px, iter, ifs, 0⟩] scope pos) 0 (.ref it) (.ref s.heap.objs.size) (compEnvC scope cl s3.heap.objs.size X.env)) (RR (.ref s.heap.objs.size) s3.heap.objs.size) s4 := by
    rintro s4 rfl
    refine codeAny_compLoop_tests (fun n s' => ∃ i v0 ys H', Inv (cxComp X x ns scope cl s3 (upd H s.heap.objs.size (.lst [])) fp) [] (v0 :: subS σ ix) H' s' ∧ tn i s'.heap ∧ (∀ b ∈ fp, H' b = none) ∧ W i n ys H') ?_ m0 ⟨0, none, [], _, I4, st4, fun b hb => (f3 b hb).1, w0⟩
    rintro n s5 ⟨i, v0, ys, H5, I5, st5, fr5, w5⟩
    rcases turn i n ys H5 w5 with ⟨stop, q⟩ | ⟨go, step⟩
    · refine wpAny_mono (T.done (cxComp X x ns scope cl s3 (upd H s.heap.objs.size (.lst [])) fp) rfl rfl rfl hc i [] s5 _ H5 _ I5 (stat fr5) st5 stop) (fun r s6 hr => ?_) fun _ _ e => e
      obtain ⟨hr, I6⟩ := hr
      subst hr
      obtain ⟨m6, hn6, _⟩ := id I6.loc
      refine fin _ _ m6 s6 H5 (I3.call' I6.os I6.base I6.hok I6.bare fun b hb => ?_) hn6 (I3.fpOk (Nat.le_refl _) I6.free) q
      obtain ⟨g0, g1, g2, g3, g4, g5⟩ := f3 b hb
      exact ⟨g3, g1, g4, g5⟩
    · refine wpAny_mono (T.item (cxComp X x ns scope cl s3 (upd H s.heap.objs.size (.lst [])) fp) rfl rfl rfl hc i [] s5 _ H5 _ I5 (stat fr5) st5 go) (fun r s6 hr => ?_) fun _ _ e => e
      obtain ⟨u, hr, h6⟩ := hr
      subst hr
      refine wp_of_pure (a := ()) h6 fun q6 => ?_
      obtain ⟨xv, H6, I6, r6, y6, st6, fr6⟩ := q6
      have I6' := I6.pinned (stat fr6) (T.obj _ _ st6)
      have again : ∀ {m' : Nat} {ys' : List V} {H7 : Hp} {s7 : Shared}, Inv (cxComp X x ns scope cl s3 (upd H s.heap.objs.size (.lst [])) fp) ([] ++ pinsAt fp s6.heap) (some xv :: subS σ ix) H7 s7 → W (i + 1) m' ys' H7 →
          ∃ i v0 ys H', Inv (cxComp X x ns scope cl s3 (upd H s.heap.objs.size (.lst [])) fp) [] (v0 :: subS σ ix) H' s7 ∧ tn i s7.heap ∧ (∀ b ∈ fp, H' b = none) ∧ W i m' ys H' := fun {m' ys' H7 s7} I7 w7 => by
        refine ⟨i + 1, some xv, ys', H7, I7.unpinned, T.keep _ _ _ st6 fun b hb o e => (I7.pin (b, o) (List.mem_append_right _ (List.mem_append_right _ (mem_pinsAt hb e)))).1, fun b hb => ?_, w7⟩
        obtain ⟨o, e, d⟩ := T.obj _ _ st6 b hb
        exact (I7.pin (b, o) (List.mem_append_right _ (List.mem_append_right _ (mem_pinsAt hb e)))).2.1
      have lx : (relabel scope X.env).names.lookup x = some .local := lookup_relabel_local c3
      refine wpAny_mono (pg_name (X := cxComp X x ns scope cl s3 (upd H s.heap.objs.size (.lst [])) fp) (i := 0) (x := x) (pos := px) c6 rfl (.inl lx) (.inr lx) _ s6 _ H6 xv u (fun σ' H' => σ' = some xv :: subS σ ix ∧ H' = H6) I6' r6 ⟨rfl, rfl⟩) (fun _ s7 h7 => ?_) fun _ _ e => e.elim
      obtain ⟨σ7, H7, I7, rfl, rfl⟩ := h7
      refine wpAny_mono (ht cl s3 _ fp _ s7 _ _ _ I7 (step xv _ y6)) (fun b s8 h8 => ?_) fun _ _ e => e.elim
      obtain ⟨H8, I8, q8⟩ := h8
      cases b with
      | false =>
        rw [if_neg Bool.false_ne_true] at q8 ⊢
        obtain ⟨m', hm, w8⟩ := q8
        exact ⟨m', hm, again I8 w8⟩
      | true =>
        rw [if_pos rfl] at q8 ⊢
        refine wpAny_mono (he cl s3 _ fp _ s8 _ _ _ I8 q8) (fun uy s9 h9 => ?_) fun _ _ e => e.elim
        obtain ⟨y, H9, I9, r9, hacc, hz, m', hm, w9⟩ := h9
        refine wpAny_mono (mt_append (X := cxComp X x ns scope cl s3 (upd H s.heap.objs.size (.lst [])) fp) _ s9 _ H9 (.ref s.heap.objs.size) [y] _ [uy] (fun v H' => H' = upd H9 s.heap.objs.size (.lst (ys ++ [y]))) I9 rfl (.cons r9 .nil) ⟨_, ys, y, rfl, rfl, hacc, hz, rfl⟩) (fun _ s10 h10 => ?_) fun _ _ e => e.elim
        obtain ⟨v, H10, I10, _, rfl⟩ := h10
        exact ⟨m', hm, again I10 w9⟩
  exact codeAny_compStart_list (loop _ rfl) (T.self _ 0 _ _ _ st4 (loop _ rfl))
theorem pe_comp (hsc : X.env.scope = sc) (hN : X.N = N) (C : CompOk sc N x ns ix scope) (hc : X.calm = true) (hi : PI X (.Name x px) iter wi) (ht : ∀ cl s H ex, PTs (cxComp X x ns scope cl s H ex) ifs tc) (he : ∀ cl s H ex, PE (cxComp X x ns scope cl s H ex) elt te)
    (hs : ∀ v, foldedSetIterable iter X.env v = pure v := by intro _; rfl) : PE X (.ListComp elt [⟨.Name x px, iter, ifs, 0⟩] scope pos) (tComp wi ix tc te) := by
  intro pins s σ H Q I h
  obtain ⟨cl, hclos, hcl, hcla⟩ := closure_ok (env := X.env) scope fun y hy hf => I.ok.has y.1 (by
    have := (C.2.1 y hy).2.2 hf
    rw [← hsc] at this
    exact this)
  rw [eval_ListComp]
  refine wpAny_comprehension_free (use := none) rfl hs hclos C.1 (fun y hy => (C.2.1 y hy).2.1) (thn (hi pins s σ H _ I h) fun v s1 h1 => thn h1 fun itv s2 h2 => ?_)
  obtain ⟨it, fp, tn, J, H2, rfl, I2, T, st2, f2, hg⟩ := h2
  refine comp_run (RR := fun ja C => compPost (model X.prog X.w) X.A X.xe none (EP X pins σ Q) ja C) hsc hN C hc ht he I2 hcl hcla T st2 f2 hg ?_
  intro D C' m s' H' I' hn' fC q
  obtain ⟨g0, g1, g2, g3, g4, g5⟩ := fC
  exact ⟨m, hn', fun h' hs' => ⟨.ref D, H', I'.turned (t' := s'.toks) (fun b o hb e => hs'.extBut b o hb e) g0 (Ne.symm (Ne.symm g1)) g3 g4 g5, rfl, q⟩⟩
/-- y = [..] where the name is no cell -/
theorem ps_comp {y : Str} {py spos : Pos} (i : Nat) (hNd : X.N.Nodup) (hsc : X.env.scope = sc) (hN : X.N = N) (C : CompOk sc N x ns ix scope) (hc : X.calm = true) (hi : PI X (.Name x px) iter wi) (ht : ∀ cl s H ex, PTs (cxComp X x ns scope cl s H ex) ifs tc) (he : ∀ cl s H ex, PE (cxComp X x ns scope cl s H ex) elt te)
    (hs : ∀ v, foldedSetIterable iter X.env v = pure v := by intro _; rfl) (hy : X.N[i]? = some y := by rfl) (hl : X.env.scope.names.lookup y = some .local := by rfl)
    (hsw : swapsWith (.ListComp elt [⟨.Name x px, iter, ifs, 0⟩] scope pos) (some (.Name y py)) spos.line X.env = pure true := by rfl) :
    PS X (.Assign [.Name y py] (.ListComp elt [⟨.Name x px, iter, ifs, 0⟩] scope pos) spos) (tAsg (tComp wi ix tc te) (gName i)) := by
  intro pins s σ H D I h
  obtain ⟨cl, hclos, hcl, hcla⟩ := closure_ok (env := X.env) scope fun y hy hf => I.ok.has y.1 (by
    have := (C.2.1 y hy).2.2 hf
    rw [← hsc] at this
    exact this)
  rw [exec_Assign_Name_used _ _ _ _ hsw]
  refine wpAny_bind (wpAny_standAt (wpAny_bind ?_))
  show wpAny _ X.A (do let _ ← comprehension (.ListComp elt [⟨.Name x px, iter, ifs, 0⟩] scope pos) scope X.env _ (newList []) false (eval iter X.env) (some (assign (.Name y py) X.env))) _ _ s
  refine wpAny_bind (wpAny_mono (wpAny_comprehension_free (use := some (assign (.Name y py) X.env)) (Q := fun _ s' => SP X pins D .next s') rfl hs hclos C.1 (fun y hy => (C.2.1 y hy).2.1)
    (thn (hi pins s σ H _ I h) fun v s1 h1 => thn h1 fun itv s2 h2 => ?_)) (fun _ s' hq => wpAny_pure (wpAny_pure hq)) fun _ _ e => e)
  obtain ⟨it, fp, tn, J, H2, rfl, I2, T, st2, f2, hg⟩ := h2
  refine comp_run (RR := fun ja C => compPost (model X.prog X.w) X.A X.xe (some (assign (.Name y py) X.env)) (fun _ s' => SP X pins D .next s') ja C) hsc hN C hc ht he I2 hcl hcla T st2 f2 hg ?_
  intro D' C' m s' H' I' hn' fC q
  obtain ⟨g0, g1, g2, g3, g4, g5⟩ := fC
  refine wpAny_assign_Name (store_ok2 I' hNd hy (.inl hl) (v := .ref D') rfl (fun s'' I'' hs'' => ?_) (.inr hl))
  obtain ⟨a, sb, ha⟩ := hs''
  have hne : C' ≠ a := by
    rcases ha with ha | ha
    · rw [ha]; exact g1
    · intro z; exact g4 y a ha z.symm
  exact ⟨m, hn'.sameBut sb hne, fun h' hs' => ⟨_, H', I''.turned (t' := s''.toks) (fun b o hb e => hs'.extBut b o hb e) g0 g1 g3 g4 g5, q⟩⟩
end
section
variable {wi : TI} {ix : List Nat} {tc : TT} {te : TE} {σ : St} {H : Hp} {Q : VK} {K : PySem.W.Frag}
theorem i_compR1 {ta : TA} (h : ta σ H fun vs H1 => ∃ j : Int, vs = [.int j] ∧ -(2 ^ 62) ≤ j ∧ j < 2 ^ 62 ∧ CompG (Itr 0 j.toNat) ix tc te σ Q H1) : tComp (iRng1 ta) ix tc te σ H Q := h
def CompS (K : PySem.W.Frag) (x : V) (ix : List Nat) (tc : TT) (te : TE) (σ : St) (Q : VK) (H1 : Hp) : Prop :=
  (∃ a xs, x = .ref a ∧ SqL K H1 a xs ∧ CompG (Itl K a) ix tc te σ Q H1) ∨ (∃ a xs, x = .ref a ∧ SqT K H1 a xs ∧ CompG (Itt K a) ix tc te σ Q H1) ∨ (∃ z, x = .str z ∧ CompG (Its z) ix tc te σ Q H1)
theorem i_compS {tl : TE} (h : tl σ H fun x H1 => CompS K x ix tc te σ Q H1) : tComp (iSeq K tl) ix tc te σ H Q := h
theorem i_noif {BQ : Bool → Hp → Prop} (h : BQ true H) : tNoIf σ H BQ := h
/-- J tells the values xs, one by one, as long as what was tracked at H1 stays -/
def Wk (J : It) (xs : List V) (H1 : Hp) : Prop := ∀ H', Same H1 H' → (∀ i, i < xs.length → J.go i H' ∧ ∀ x H2, J.yld i H' x H2 → H2 = H' ∧ xs[i]? = some x) ∧ J.stop xs.length H'
theorem wk_range (lo : Int) (n : Nat) (H : Hp) : Wk (Itr lo n) ((List.range n).map fun i : Nat => V.int (lo + (i : Int))) H := fun H' _ => by
  refine ⟨fun i hi => ?_, ?_⟩
  · rw [List.length_map, List.length_range] at hi
    refine ⟨hi, fun x H2 y => ?_⟩
    obtain ⟨e, y⟩ := y
    refine ⟨e, ?_⟩
    rw [List.getElem?_map, List.getElem?_range hi, y]
    rfl
  · rw [List.length_map, List.length_range]
    exact Nat.le_refl n
theorem wk_list {a : Addr} {xs : List V} (h : SqL K H a xs) : Wk (Itl K a) xs H := fun H' s => by
  have h' := s.seq h
  refine ⟨fun i hi => ⟨⟨xs, xs[i], h', by simp [hi]⟩, fun x H2 y => ?_⟩, ⟨xs, h', Nat.le_refl _⟩⟩
  obtain ⟨e, y⟩ := y
  exact ⟨e, y xs h'⟩
/-- the loop of a block whose turns leave what was tracked as it was: Pv says what the told list is -/
theorem comp_by {J : It} {xs : List V} (Pv : Nat → List V → Prop) (hw : Wk J xs H) (hz : xs.length ≤ 1000000) (h0 : Pv 0 [])
    (hs : ∀ (i : Nat) (x : V) (ys : List V) (acc : Addr) (H' : Hp), xs[i]? = some x → Same H H' → H acc = none → H' acc = some (.lst ys) → Pv i ys → ys.length ≤ i →
      ∀ R : Bool → Hp → Prop, (∀ b H2, Same H' H2 → (b = false → Pv (i + 1) ys) → (b = true → ∀ R2 : V → Hp → Prop, (∀ y H3, Same H2 H3 → Pv (i + 1) (ys ++ [y]) → R2 y H3) → te (some x :: subS σ ix) H2 R2) → R b H2) → tc (some x :: subS σ ix) H' R)
    (hd : ∀ (acc : Addr) (ys : List V) (H' : Hp), H acc = none → Same H H' → H' acc = some (.lst ys) → Pv xs.length ys → Q (.ref acc) H') : CompG J ix tc te σ Q H := by
  intro acc hacc
  have sU : ∀ {H2 : Hp} (o : HO), Same H H2 → Same H (upd H2 acc o) := fun o s b u e => by rw [upd_ne (ne_of_none e hacc)]; exact s b u e
  refine ⟨fun i m ys H' => m = xs.length - i ∧ i ≤ xs.length ∧ Same H H' ∧ H' acc = some (.lst ys) ∧ Pv i ys ∧ ys.length ≤ i, ⟨xs.length, by simp, Nat.zero_le _, same_new hacc _, upd_same, h0, Nat.le_refl _⟩, ?_⟩
  rintro i m ys H' ⟨rfl, hi, sm, ea, pv, hy⟩
  by_cases hlt : i < xs.length
  · obtain ⟨go, yl⟩ := (hw H' sm).1 i hlt
    refine .inr ⟨go, fun x H2 y => ?_⟩
    obtain ⟨rfl, hx⟩ := yl x H2 y
    refine hs i x ys acc _ hx sm hacc ea pv hy _ fun b H3 s3 pf pt => ?_
    cases b with
    | false =>
      rw [if_neg Bool.false_ne_true]
      exact ⟨xs.length - (i + 1), by omega, rfl, hlt, sm.trans s3, s3 _ _ ea, pf rfl, Nat.le_succ_of_le hy⟩
    | true =>
      rw [if_pos rfl]
      refine pt rfl _ fun y H4 s4 py => ⟨s4 _ _ (s3 _ _ ea), smallL (by omega), xs.length - (i + 1), by omega, rfl, hlt, sU _ (sm.trans (s3.trans s4)), upd_same, py, ?_⟩
      rw [List.length_append, List.length_singleton]
      omega
  · have e : i = xs.length := by omega
    subst e
    exact .inl ⟨(hw H' sm).2, hd acc ys H' hacc sm ea pv⟩
end
section
variable {X : Cx} {K : PySem.W.Frag} {a o : Expr} {ta : TE} {pos : Pos}
theorem ix_seqK (hK : X.K = K) : IxR X (rIx K) := by subst hK; exact ix_seq
theorem pt_truthK (hK : X.K = K) (ha : PE X a ta) (he : ∀ whole, isTrue a X.env whole = (do let v ← whole; standAt a.pos; holding [v] (truthy v))) : PT X a (fun σ H Q => ta σ H fun x H' => ∃ k, TruV K x H' k ∧ Q k H') := by subst hK; exact pt_truth ha he
end
end L2

namespace EM
theorem sub_and (x y : Nat) : x - (x &&& y) = (x &&& y) ^^^ x := by
  have h := or_split (x + 1) (x &&& y) x (by have := Nat.and_le_left (n := x) (m := y); omega)
  have e1 : (x &&& y) ||| x = x := by
    apply Nat.eq_of_testBit_eq; intro i; rw [Nat.testBit_or, Nat.testBit_and]; cases x.testBit i <;> simp
  have e2 : (x &&& y) &&& x = x &&& y := by
    apply Nat.eq_of_testBit_eq; intro i; rw [Nat.testBit_and, Nat.testBit_and]; cases x.testBit i <;> simp
  rw [e1, e2] at h
  omega
theorem testBit_sub_and (x y i : Nat) : (x - (x &&& y)).testBit i = (x.testBit i && !y.testBit i) := by
  rw [sub_and, Nat.testBit_xor, Nat.testBit_and]
  cases x.testBit i <;> cases y.testBit i <;> rfl
theorem bits_andnot (f g : Nat → Bool) (n : Nat) : bits f n - (bits f n &&& bits g n) = bits (fun i => f i && !g i) n := by
  apply Nat.eq_of_testBit_eq
  intro i
  rw [testBit_sub_and, testBit_bits, testBit_bits, testBit_bits]
  cases decide (i < n) <;> simp
/-- a bar: the lamps asked for, those that must be lit -/
abbrev Bar := Nat × Nat
def Bar.good (b : Bar) : Prop := b.1 < 64 ∧ b.2 &&& b.1 = b.2
/-- the stand s lies in the bar -/
def lies (s : Nat) (b : Bar) : Bool := (List.range 6).all fun k => !(b.1.testBit k && (b.2.testBit k != s.testBit k))
theorem lies_iff {s : Nat} {b : Bar} : lies s b = true ↔ ∀ k, k < 6 → b.1.testBit k = true → b.2.testBit k = s.testBit k := by
  unfold lies
  rw [List.all_eq_true]
  constructor
  · intro h k hk hb
    have := h k (List.mem_range.mpr hk)
    rw [hb] at this
    simpa using this
  · intro h k hk
    cases hb : b.1.testBit k with
    | false => rfl
    | true =>
      have := h k (List.mem_range.mp hk) hb
      simp [this]
theorem lies_and {s : Nat} {b : Bar} (g : b.good) : decide (s &&& b.1 = b.2) = lies s b := by
  obtain ⟨g1, g2⟩ := g
  have hi : ∀ k, 6 ≤ k → b.1.testBit k = false := fun k hk => Nat.testBit_lt_two_pow (Nat.lt_of_lt_of_le g1 (Nat.pow_le_pow_right (by decide) hk : 2 ^ 6 ≤ 2 ^ k))
  have sub : ∀ k, b.2.testBit k = true → b.1.testBit k = true := fun k h => by
    rw [← g2, Nat.testBit_and] at h
    simp at h; exact h.2
  rw [Bool.eq_iff_iff, decide_eq_true_iff, lies_iff]
  constructor
  · intro h k _ hb
    rw [← h, Nat.testBit_and, hb, Bool.and_true]
  · intro h
    apply Nat.eq_of_testBit_eq
    intro k
    rw [Nat.testBit_and]
    cases hb : b.1.testBit k with
    | false =>
      rw [Bool.and_false]
      cases hl : b.2.testBit k with
      | false => rfl
      | true => rw [sub k hl] at hb; cases hb
    | true =>
      rw [Bool.and_true]
      have hk : k < 6 := by
        by_cases hk : k < 6
        · exact hk
        · rw [hi k (by omega)] at hb; cases hb
      exact (h k hk hb).symm
def crowdB (n : Nat) (b : Bar) : Nat := bits (fun s => lies s b) n
def keptB (n : Nat) (bs : List Bar) : Nat := bits (fun s => !bs.any (lies s)) n
theorem testBit_hi {x m k : Nat} (h : x < 2 ^ m) (hk : m ≤ k) : x.testBit k = false := Nat.testBit_lt_two_pow (Nat.lt_of_lt_of_le h (Nat.pow_le_pow_right (by decide) hk))
/-- the bar in which one stand alone lies -/
theorem lies_one {m s s0 : Nat} (hm : m ≤ 6) (hs : s < 2 ^ m) (h0 : s0 < 2 ^ m) : lies s (2 ^ m - 1, s0) = decide (s = s0) := by
  rw [Bool.eq_iff_iff, lies_iff, decide_eq_true_iff]
  constructor
  · intro h
    apply Nat.eq_of_testBit_eq
    intro k
    by_cases hk : k < m
    · have := h k (by omega) (by rw [Nat.testBit_two_pow_sub_one]; exact decide_eq_true hk)
      exact this.symm
    · rw [testBit_hi hs (by omega), testBit_hi h0 (by omega)]
  · intro h k _ _
    rw [h]
theorem crowd_one {m s0 : Nat} (hm : m ≤ 6) (h0 : s0 < 2 ^ m) : crowdB (2 ^ m) (2 ^ m - 1, s0) = 2 ^ s0 := by
  apply Nat.eq_of_testBit_eq
  intro i
  unfold crowdB
  rw [testBit_bits, Nat.testBit_two_pow]
  by_cases h : i < 2 ^ m
  · rw [lies_one hm h h0, decide_eq_true h, Bool.true_and]
    exact decide_eq_decide.mpr (by omega)
  · rw [decide_eq_false h, Bool.false_and]
    symm
    exact decide_eq_false (by omega)
theorem good_and {m a x : Nat} (hm : m ≤ 6) (ha : a < 2 ^ m) : Bar.good (a, a &&& x) := by
  have h6 : (2 : Nat) ^ m ≤ 64 := Nat.le_trans (Nat.pow_le_pow_right (by decide) hm) (by decide)
  refine ⟨(by show a < 64; omega), ?_⟩
  show (a &&& x) &&& a = a &&& x
  apply Nat.eq_of_testBit_eq
  intro k
  rw [Nat.testBit_and, Nat.testBit_and]
  cases a.testBit k <;> simp
theorem good_one {m s : Nat} (hm : m ≤ 6) (hs : s < 2 ^ m) : Bar.good (2 ^ m - 1, s) := by
  have h6 : (2 : Nat) ^ m ≤ 64 := Nat.le_trans (Nat.pow_le_pow_right (by decide) hm) (by decide)
  refine ⟨(by show 2 ^ m - 1 < 64; omega), ?_⟩
  show s &&& (2 ^ m - 1) = s
  rw [Nat.and_two_pow_sub_one_eq_mod, Nat.mod_eq_of_lt hs]
def clr (x k : Nat) : Nat := x - (x &&& 2 ^ k)
theorem testBit_clr (x k i : Nat) : (clr x k).testBit i = (x.testBit i && !decide (k = i)) := by
  unfold clr
  rw [testBit_sub_and, Nat.testBit_two_pow]
def Bar.wo (b : Bar) (k : Nat) : Bar := (clr b.1 k, clr b.2 k)
theorem filter_succ (p : Nat → Bool) (i : Nat) : (List.range (i + 1)).filter p = (List.range i).filter p ++ (if p i = true then [i] else []) := by
  rw [List.range_succ, List.filter_append, List.filter_cons, List.filter_nil]
theorem good_sub {b : Bar} (g : b.good) {k : Nat} (h : b.1.testBit k = false) : b.2.testBit k = false := by
  have := g.2
  cases e : b.2.testBit k with
  | false => rfl
  | true => rw [← this, Nat.testBit_and, h, Bool.and_false] at e; cases e
theorem good_le {b : Bar} (g : b.good) : b.2 ≤ b.1 := by
  have h := Nat.and_le_right (n := b.2) (m := b.1)
  rw [g.2] at h
  exact h
theorem good_hi {b : Bar} (g : b.good) {k : Nat} (h : b.1.testBit k = true) : k < 6 := by
  by_cases hk : k < 6
  · exact hk
  · rw [testBit_hi (m := 6) g.1 (by omega)] at h; cases h
end EM

set_option maxRecDepth 100000
set_option maxHeartbeats 4000000
namespace EM
open PySem PySem.W PyProof.Rows
section
variable {cmp : Nat → Nat → (Bool → Shared → Prop) → Shared → Prop} {Ok : Shared → Prop} {n : Nat} {lt : Nat → Nat → Bool} {R : Nat → Nat → Prop} {α β : Type}
/-- the tree's end satisfies Pq, whatever state it is asked in -/
def Sat (cmp : Nat → Nat → (Bool → Shared → Prop) → Shared → Prop) (Ok : Shared → Prop) (t : KasT α) (Pq : α → Prop) : Prop :=
  ∀ (Q : α → Shared → Prop) s, Ok s → (∀ a s', Ok s' → Pq a → Q a s') → t.kasWp cmp Q s
/-- the questions are answered by lt, which orders by R -/
structure Cm (cmp : Nat → Nat → (Bool → Shared → Prop) → Shared → Prop) (Ok : Shared → Prop) (n : Nat) (lt : Nat → Nat → Bool) (R : Nat → Nat → Prop) : Prop where
  ask : ∀ i j, i < n → j < n → ∀ (C : Bool → Shared → Prop) s, Ok s → (∀ s', Ok s' → C (lt i j) s') → cmp i j C s
  yes : ∀ i j, lt i j = true → R i j
  no : ∀ i j, lt i j = false → R j i
  tr : ∀ i j k, R i j → R j k → R i k
theorem Sat.ret {a : α} {Pq : α → Prop} (h : Pq a) : Sat cmp Ok (.ret a) Pq := fun Q s o k => k a s o h
theorem Sat.ask {i j : Nat} {k : Bool → KasT α} {Pq : α → Prop} (M : Cm cmp Ok n lt R) (hi : i < n) (hj : j < n) (h : ∀ b, lt i j = b → Sat cmp Ok (k b) Pq) : Sat cmp Ok (.ask i j k) Pq := fun Q s o q =>
  M.ask i j hi hj _ s o fun s' o' => h _ rfl Q s' o' q
theorem Sat.bind {t : KasT α} {f : α → KasT β} {Pq : α → Prop} {P2 : β → Prop} (h : Sat cmp Ok t Pq) (h2 : ∀ a, Pq a → Sat cmp Ok (f a) P2) : Sat cmp Ok (t.bind f) P2 := fun Q s o q => by
  rw [KasT.kasWp_bind]
  exact h _ s o fun a s' o' p => h2 a p Q s' o' q
theorem Cm.refl (M : Cm cmp Ok n lt R) (i : Nat) : R i i := by
  cases h : lt i i with
  | true => exact M.yes _ _ h
  | false => exact M.no _ _ h
/-- an array of places -/
structure Ga (n : Nat) (p : Array Nat) : Prop where
  sz : p.size = n
  pm : p.Perm (List.toArray (List.range n))
theorem Ga.lo {p : Array Nat} (h : Ga n p) (h0 : 0 < n) (k : Nat) : p.getD k 0 < n := by
  rw [Array.getD_eq_getD_getElem?]
  cases e : p[k]? with
  | none => exact h0
  | some v =>
    have hm : v ∈ p := Array.mem_of_getElem? e
    have : v ∈ (List.range n).toArray := h.pm.mem_iff.mp hm
    simpa using this
theorem rev_at {p : Array Nat} {i j : Nat} (hj : j ≤ p.size) (hij : i ≤ j) (k : Nat) : (kas_rev p i j).getD k 0 = if i ≤ k ∧ k < j then p.getD (i + j - 1 - k) 0 else p.getD k 0 := by
  unfold kas_rev
  rw [Array.getD_eq_getD_getElem?, getElem?_mirror hj _ (by omega), Array.getD_eq_getD_getElem?, Array.getD_eq_getD_getElem?]
  by_cases h1 : (i ≤ k ∧ k < i + (j - i) / 2) ∨ (j - (j - i) / 2 ≤ k ∧ k < j)
  · rw [if_pos h1, if_pos (by omega)]
  · rw [if_neg h1]
    by_cases h2 : i ≤ k ∧ k < j
    · rw [if_pos h2]
      have : i + j - 1 - k = k := by omega
      rw [this]
    · rw [if_neg h2]
theorem bub_at {p : Array Nat} {k l : Nat} (hk : k < p.size) (hl : l ≤ k) (i : Nat) : (bubble p k (k - l)).getD i 0 = if i = l then p.getD k 0 else if l < i ∧ i ≤ k then p.getD (i - 1) 0 else p.getD i 0 := by
  rw [Array.getD_eq_getD_getElem?, getElem?_bubble hk _ (by omega), Array.getD_eq_getD_getElem?, Array.getD_eq_getD_getElem?, Array.getD_eq_getD_getElem?]
  have e : k - (k - l) = l := by omega
  rw [e]
  split
  · rfl
  · split <;> rfl
theorem Ga.rev {p : Array Nat} (h : Ga n p) (i j : Nat) : Ga n (kas_rev p i j) := ⟨(mirror_size _ _ _ _).trans h.sz, (mirror_perm _ _ _ _).trans h.pm⟩
theorem Ga.bub {p : Array Nat} (h : Ga n p) (k d : Nat) : Ga n (bubble p k d) := ⟨(bubble_size _ _ _).trans h.sz, (bubble_perm _ _ _).trans h.pm⟩
/-- rising, falling, below m -/
def Asc (R : Nat → Nat → Prop) (p : Array Nat) (m : Nat) : Prop := ∀ i, i + 1 < m → R (p.getD i 0) (p.getD (i + 1) 0)
def Dsc (R : Nat → Nat → Prop) (p : Array Nat) (m : Nat) : Prop := ∀ i, i + 1 < m → R (p.getD (i + 1) 0) (p.getD i 0)
theorem Asc.le (M : Cm cmp Ok n lt R) {p : Array Nat} {m : Nat} (h : Asc R p m) {i j : Nat} (hij : i ≤ j) (hj : j < m) : R (p.getD i 0) (p.getD j 0) := by
  induction j with
  | zero =>
    have : i = 0 := by omega
    subst this; exact M.refl _
  | succ j ih =>
    by_cases e : i = j + 1
    · subst e; exact M.refl _
    · exact M.tr _ _ _ (ih (by omega) (by omega)) (h j hj)
theorem Dsc.le (M : Cm cmp Ok n lt R) {p : Array Nat} {m : Nat} (h : Dsc R p m) {i j : Nat} (hij : i ≤ j) (hj : j < m) : R (p.getD j 0) (p.getD i 0) := by
  induction j with
  | zero =>
    have : i = 0 := by omega
    subst this; exact M.refl _
  | succ j ih =>
    by_cases e : i = j + 1
    · subst e; exact M.refl _
    · exact M.tr _ _ _ (h j hj) (ih (by omega) (by omega))
theorem asc_ok (M : Cm cmp Ok n lt R) (h0 : 0 < n) {p : Array Nat} (hp : Ga n p) : ∀ (f m : Nat), 1 ≤ m → m + f = n → Asc R p m → Sat cmp Ok (kas_asc p f m) fun r => m ≤ r ∧ r ≤ n ∧ Asc R p r ∧ (r = n ∨ R (p.getD r 0) (p.getD (r - 1) 0))
  | 0, m, h1, h2, a => Sat.ret ⟨Nat.le_refl _, by omega, a, .inl (by omega)⟩
  | f + 1, m, h1, h2, a => by
    refine Sat.ask M (hp.lo h0 _) (hp.lo h0 _) fun b hb => ?_
    cases b with
    | true =>
      rw [if_pos rfl]
      exact Sat.ret ⟨Nat.le_refl _, by omega, a, .inr (M.yes _ _ hb)⟩
    | false =>
      rw [if_neg Bool.false_ne_true]
      have a' : Asc R p (m + 1) := fun i hi => by
        by_cases e : i + 1 < m
        · exact a i e
        · have e' : i = m - 1 := by omega
          subst e'
          have := M.no _ _ hb
          have e2 : m - 1 + 1 = m := by omega
          rw [e2]; exact this
      intro Q s o q
      exact asc_ok M h0 hp f (m + 1) (by omega) (by omega) a' Q s o fun r s' o' ⟨x1, x2, x3⟩ => q r s' o' ⟨by omega, x2, x3⟩
/-- the last places from a on are all alike -/
def Alk (R : Nat → Nat → Prop) (p : Array Nat) (a m : Nat) : Prop := ∀ i, a ≤ i → i + 1 < m → R (p.getD i 0) (p.getD (i + 1) 0)
theorem dsc_rev (M : Cm cmp Ok n lt R) {p : Array Nat} (hp : Ga n p) {a m : Nat} (ham : a ≤ m) (hm : m ≤ n) (d : Dsc R p m) (k : Alk R p a m) : Dsc R (kas_rev p a m) m := fun i hi => by
  have hs : m ≤ p.size := by rw [hp.sz]; exact hm
  rw [rev_at hs ham, rev_at hs ham]
  by_cases h1 : a ≤ i
  · rw [if_pos (by omega), if_pos (by omega)]
    have := k (a + m - 1 - (i + 1)) (by omega) (by omega)
    have e : a + m - 1 - (i + 1) + 1 = a + m - 1 - i := by omega
    rw [e] at this
    exact this
  · rw [if_neg (show ¬ (a ≤ i ∧ i < m) by omega)]
    by_cases h2 : a ≤ i + 1
    · rw [if_pos (by omega)]
      have e : i + 1 = a := by omega
      have e2 : a + m - 1 - (i + 1) = m - 1 := by omega
      rw [e2]
      have r1 := d.le M (i := a) (j := m - 1) (by omega) (by omega)
      have r2 := d i hi
      rw [e] at r2
      exact M.tr _ _ _ r1 r2
    · rw [if_neg (by omega)]
      exact d i hi
theorem desc_ok (M : Cm cmp Ok n lt R) (h0 : 0 < n) : ∀ (f : Nat) (p : Array Nat) (m q : Nat), Ga n p → q + 1 ≤ m → m + f = n → Dsc R p m → Alk R p (m - (q + 1)) m →
    Sat cmp Ok (kas_desc f p m q) fun r => Ga n r.1 ∧ r.2.2 + 1 ≤ r.2.1 ∧ r.2.1 ≤ n ∧ Dsc R r.1 r.2.1 ∧ Alk R r.1 (r.2.1 - (r.2.2 + 1)) r.2.1
  | 0, p, m, q, hp, h1, h2, d, k => Sat.ret ⟨hp, h1, (show m ≤ n by omega), d, k⟩
  | f + 1, p, m, q, hp, h1, h2, d, k => by
    refine Sat.ask M (hp.lo h0 _) (hp.lo h0 _) fun b hb => ?_
    cases b with
    | true =>
      rw [if_pos rfl]
      have rm := M.yes _ _ hb
      have em : m - 1 + 1 = m := by omega
      by_cases hq : q > 0
      · rw [if_pos hq]
        have hs : m ≤ p.size := by rw [hp.sz]; omega
        refine desc_ok M h0 f _ (m + 1) 0 (hp.rev _ _) (by omega) (by omega) (fun i hi => ?_) fun i hi1 hi2 => absurd hi2 (by omega)
        by_cases e : i + 1 < m
        · exact dsc_rev M hp (by omega) (by omega) d k i e
        · have ei : i = m - 1 := by omega
          subst ei
          rw [em, rev_at hs (by omega), rev_at hs (by omega), if_neg (by omega), if_pos (by omega)]
          have e3 : m - (q + 1) + m - 1 - (m - 1) = m - (q + 1) := by omega
          rw [e3]
          exact M.tr _ _ _ rm (d.le M (by omega) (by omega))
      · rw [if_neg hq]
        refine desc_ok M h0 f p (m + 1) 0 hp (by omega) (by omega) (fun i hi => ?_) fun i hi1 hi2 => absurd hi2 (by omega)
        by_cases e : i + 1 < m
        · exact d i e
        · have ei : i = m - 1 := by omega
          subst ei
          rw [em]; exact rm
    | false =>
      rw [if_neg Bool.false_ne_true]
      refine Sat.ask M (hp.lo h0 _) (hp.lo h0 _) fun c hc => ?_
      cases c with
      | true =>
        rw [if_pos rfl]
        exact Sat.ret ⟨hp, h1, (show m ≤ n by omega), d, k⟩
      | false =>
        rw [if_neg Bool.false_ne_true]
        have em : m - 1 + 1 = m := by omega
        have r1 := M.no _ _ hb
        have r2 := M.no _ _ hc
        refine desc_ok M h0 f p (m + 1) (q + 1) hp (by omega) (by omega) (fun i hi => ?_) fun i hi1 hi2 => ?_
        · by_cases e : i + 1 < m
          · exact d i e
          · have ei : i = m - 1 := by omega
            subst ei
            rw [em]; exact r2
        · by_cases e : i + 1 < m
          · exact k i (by omega) e
          · have ei : i = m - 1 := by omega
            subst ei
            rw [em]; exact r1
theorem tail3_ok (M : Cm cmp Ok n lt R) (h0 : 0 < n) {p : Array Nat} {m : Nat} (hp : Ga n p) (h1 : 1 ≤ m) (hm : m ≤ n) (d : Dsc R p m) : Sat cmp Ok (kas_tail3 m n p) fun r => 1 ≤ r.1 ∧ r.1 ≤ n ∧ Ga n r.2 ∧ Asc R r.2 r.1 := by
  have hs : m ≤ p.size := by rw [hp.sz]; exact hm
  unfold kas_tail3
  refine Sat.bind (asc_ok M h0 (hp.rev 0 m) (n - m) m h1 (by omega) fun i hi => ?_) fun r ⟨x1, x2, x3, _⟩ => Sat.ret ⟨by omega, x2, hp.rev 0 m, x3⟩
  rw [rev_at hs (by omega), rev_at hs (by omega), if_pos (by omega), if_pos (by omega)]
  have := d (0 + m - 1 - (i + 1)) (by omega)
  have e : 0 + m - 1 - (i + 1) + 1 = 0 + m - 1 - i := by omega
  rw [e] at this
  exact this
theorem descPart_ok (M : Cm cmp Ok n lt R) (h0 : 0 < n) {p : Array Nat} {m : Nat} (hp : Ga n p) (hm : m + 1 ≤ n) (d : Dsc R p (m + 1)) : Sat cmp Ok (kas_descPart m n p) fun r => 1 ≤ r.1 ∧ r.1 ≤ n ∧ Ga n r.2 ∧ Asc R r.2 r.1 := by
  unfold kas_descPart
  refine Sat.bind (desc_ok M h0 (n - (m + 1)) p (m + 1) 0 hp (by omega) (by omega) d fun i h1 h2 => absurd h2 (by omega)) fun r ⟨g, x1, x2, x3, x4⟩ => ?_
  by_cases hq : r.2.2 > 0
  · rw [if_pos hq]
    exact tail3_ok M h0 (g.rev _ _) (by omega) x2 (dsc_rev M g (by omega) x2 x3 x4)
  · rw [if_neg hq]
    exact tail3_ok M h0 g (by omega) x2 x3
theorem count_ok (M : Cm cmp Ok n lt R) (h0 : 0 < n) {p : Array Nat} (hp : Ga n p) : Sat cmp Ok (kas_count n p) fun r => 1 ≤ r.1 ∧ r.1 ≤ n ∧ Ga n r.2 ∧ Asc R r.2 r.1 := by
  unfold kas_count
  refine Sat.bind (asc_ok M h0 hp (n - 1) 1 (by omega) (by omega) fun i hi => absurd hi (by omega)) fun m ⟨x1, x2, x3, x4⟩ => ?_
  by_cases e : m = n
  · rw [if_pos (by simp [e])]
    exact Sat.ret ⟨x1, x2, hp, x3⟩
  · rw [if_neg (by simp [e])]
    have rm : R (p.getD m 0) (p.getD (m - 1) 0) := by
      rcases x4 with z | z
      · exact absurd z e
      · exact z
    have hs : m ≤ p.size := by rw [hp.sz]; exact x2
    by_cases h1 : m > 1
    · rw [if_pos h1]
      refine Sat.ask M (hp.lo h0 _) (hp.lo h0 _) fun b hb => ?_
      cases b with
      | true =>
        rw [if_pos rfl]
        exact Sat.ret ⟨x1, x2, hp, x3⟩
      | false =>
        rw [if_neg Bool.false_ne_true]
        refine descPart_ok M h0 (hp.rev _ _) (by omega) fun i hi => ?_
        rw [rev_at hs (by omega), rev_at hs (by omega)]
        by_cases e2 : i + 1 < m
        · rw [if_pos (by omega), if_pos (by omega)]
          have := x3 (0 + m - 1 - (i + 1)) (by omega)
          have e3 : 0 + m - 1 - (i + 1) + 1 = 0 + m - 1 - i := by omega
          rw [e3] at this
          exact this
        · have ei : i + 1 = m := by omega
          rw [if_neg (by omega), if_pos (by omega), ei]
          have e3 : 0 + m - 1 - i = 0 := by omega
          rw [e3]
          exact M.tr _ _ _ rm (M.no _ _ hb)
    · rw [if_neg h1]
      have em : m = 1 := by omega
      subst em
      refine descPart_ok M h0 hp (by omega) fun i hi => ?_
      have ei : i = 0 := by omega
      subst ei
      exact rm
theorem place_ok (M : Cm cmp Ok n lt R) (h0 : 0 < n) {p : Array Nat} (hp : Ga n p) {k : Nat} (a : Asc R p k) : ∀ (f l r : Nat), l ≤ r → r ≤ k → r - l ≤ f → (∀ i, i < l → R (p.getD i 0) (p.getD k 0)) → (∀ i, r ≤ i → i < k → R (p.getD k 0) (p.getD i 0)) →
    Sat cmp Ok (kas_place p k f l r) fun z => z ≤ k ∧ (∀ i, i < z → R (p.getD i 0) (p.getD k 0)) ∧ ∀ i, z ≤ i → i < k → R (p.getD k 0) (p.getD i 0)
  | 0, l, r, h1, h2, h3, hl, hr => by
    have e : l = r := by omega
    subst e
    exact Sat.ret ⟨h2, hl, hr⟩
  | f + 1, l, r, h1, h2, h3, hl, hr => by
    unfold kas_place
    by_cases hlr : l ≥ r
    · rw [if_pos hlr]
      have e : l = r := by omega
      subst e
      exact Sat.ret ⟨h2, hl, hr⟩
    · rw [if_neg hlr]
      refine Sat.ask M (hp.lo h0 _) (hp.lo h0 _) fun b hb => ?_
      cases b with
      | true =>
        rw [if_pos rfl]
        exact place_ok M h0 hp a f l ((l + r) / 2) (by omega) (by omega) (by omega) hl fun i h4 h5 => M.tr _ _ _ (M.yes _ _ hb) (a.le M h4 h5)
      | false =>
        rw [if_neg Bool.false_ne_true]
        refine place_ok M h0 hp a f ((l + r) / 2 + 1) r (by omega) h2 (by omega) (fun i h4 => ?_) hr
        exact M.tr _ _ _ (a.le M (i := i) (j := (l + r) / 2) (by omega) (by omega)) (M.no _ _ hb)
theorem bin_ok (M : Cm cmp Ok n lt R) (h0 : 0 < n) : ∀ (f : Nat) (p : Array Nat) (k : Nat), Ga n p → k + f = n → Asc R p k → Sat cmp Ok (kas_bin f p k) fun r => Ga n r ∧ Asc R r n
  | 0, p, k, hp, h, a => Sat.ret ⟨hp, by have e : k = n := by omega
                                         rw [← e]; exact a⟩
  | f + 1, p, k, hp, h, a => by
    unfold kas_bin
    refine Sat.bind (place_ok M h0 hp a k 0 k (Nat.zero_le _) (Nat.le_refl _) (by omega) (fun i z => absurd z (by omega)) fun i z1 z2 => absurd z2 (by omega)) fun l ⟨y1, y2, y3⟩ => ?_
    refine bin_ok M h0 f _ (k + 1) (hp.bub _ _) (by omega) fun i hi => ?_
    have hk : k < p.size := by rw [hp.sz]; omega
    rw [bub_at hk y1, bub_at hk y1]
    by_cases c1 : i = l
    · rw [if_pos c1, if_neg (by omega), if_pos (by omega)]
      have e : i + 1 - 1 = l := by omega
      rw [e]
      exact y3 l (Nat.le_refl _) (by omega)
    · rw [if_neg c1]
      by_cases c2 : l < i
      · rw [if_pos (by omega), if_neg (by omega), if_pos (by omega)]
        have := a (i - 1) (by omega)
        have e : i - 1 + 1 = i + 1 - 1 := by omega
        rw [e] at this
        exact this
      · rw [if_neg (by omega)]
        by_cases c3 : i + 1 = l
        · rw [if_pos c3]
          exact y2 i (by omega)
        · rw [if_neg c3, if_neg (by omega)]
          exact a i (by omega)
theorem sort_ok (M : Cm cmp Ok n lt R) (h0 : 0 < n) : Sat cmp Ok (kas_sort n) fun r => Ga n r ∧ Asc R r n := by
  unfold kas_sort
  have g0 : Ga n (List.toArray (List.range n)) := ⟨by simp, Array.Perm.refl _⟩
  refine Sat.bind (count_ok M h0 g0) fun r ⟨x1, x2, x3, x4⟩ => ?_
  by_cases h : r.1 < n
  · rw [if_pos h]
    have e : max r.1 1 = r.1 := by omega
    rw [e]
    exact bin_ok M h0 _ _ _ x3 (by omega) x4
  · rw [if_neg h]
    have e : r.1 = n := by omega
    exact Sat.ret ⟨x3, by rw [← e]; exact x4⟩
end
end EM

set_option maxRecDepth 100000
set_option maxHeartbeats 4000000
namespace L2
open PySem PySem.Spec PyProof.Rows
section
variable {prog : Program} {w : World} {A : Around} {E : Value → Shared → Prop} {s : Shared}
theorem snd_zip_self (ws : List Value) : ((ws.toArray.zip ws.toArray).map fun x => x.2) = ws.toArray := by
  apply Array.ext'
  rw [Array.toList_map, Array.toList_zip]
  exact List.map_snd_zip (Nat.le_refl _)
/-- fewer than two: nothing is asked -/
theorem sort_few {a : Addr} {ws : List Value} {k : Nat} {Pq : PySem.Fin → Shared → Prop} (ho : s.heap.get? a = some (seqObj "list" ws.toArray k)) (few : ws.length < 2)
    (h : Pq (.done (.ret .none)) { s with heap := sortedHeap s.heap a ws ws.toArray }) : wpAny (model prog w) A (Builtin.«list.sort» ⟨[.ref a], []⟩) Pq E s := by
  have sm : ws.toArray.size < 2 := by rw [List.size_toArray]; exact few
  have fit : ws.toArray.size ≤ sizeLine := Nat.le_trans (Nat.le_of_lt sm) (by decide)
  have ha := Heap.lt_size ho
  rw [list_sort_plain]
  refine wpAny_bind (listItems_at ho rfl (wpAny_bind (listUpdate_at ho rfl ?_ fit (Nat.zero_le _))))
  obtain ⟨c1, hc1⟩ : ∃ c, (s.heap.update a (Obj.mapSeq fun _ => #[])).get? a = some (seqObj "list" #[] c) := ⟨_, get?_update_seq ho _⟩
  refine wpAny_bind (seqEpoch_at hc1 rfl (wpAny_bind (wpAny_newTuple ?_ (by simpa using fit))))
  refine wpAny_bind (wpAny_newList ?_ (Nat.zero_le _))
  refine wpAny_holding ?_
  have hc2 : (((s.heap.update a (Obj.mapSeq fun _ => #[])).push (seqObj "tuple" ws.toArray 0)).push (seqObj "list" #[] 0)).get? a = some (seqObj "list" #[] c1) :=
    Heap.get?_push_of_some _ (Heap.get?_push_of_some _ hc1)
  show wpAny (model prog w) A _ Pq E { s with heap := ((s.heap.update a (Obj.mapSeq fun _ => #[])).push (seqObj "tuple" ws.toArray 0)).push (seqObj "list" #[] 0) }
  dsimp only
  rw [if_pos sm, if_pos sm]
  refine wpAny_bind (wpAny_pure ?_)
  rw [StateT.run_pure]
  refine wpAny_bind (wpAny_pure ?_)
  dsimp only
  have ez : (arrOf (SortSt.mk' general' (ws.toArray.zip ws.toArray) #[] 7 none)).map (·.2) = ws.toArray := snd_zip_self ws
  rw [ez]
  refine wpAny_bind (seqEpoch_at hc2 rfl (wpAny_bind (listUpdate_at hc2 rfl ?_ (Nat.zero_le _) (Nat.le_succ_of_le fit))))
  simp only [bne_self_eq_false, Bool.false_eq_true, if_false]
  exact wpAny_pure h
theorem sorted_few {l : Addr} {ws : List Value} {Q : Value → Shared → Prop} (hl : s.heap.IsList l ws.toArray) (few : ws.length < 2)
    (h : Q (.ref (s.heap.objs.size + 1)) { s with heap := sortedAll s.heap ws ws.toArray }) : wpAny (model prog w) A (call (.builtin "sorted") [.ref l]) Q E s := by
  have fit : ws.length ≤ sizeLine := Nat.le_trans (Nat.le_of_lt few) (by decide)
  refine Calls.call_function_entry kind_sorted plain_sorted entry_sorted (args_sorted1 _) ?_
  unfold Builtin.«sorted»
  refine wpAny_bind (m := checkCount "sorted" 1 1 _) (wpAny_pure (wpAny_bind (collect_list hl ?_ (by rw [sizeLine_eq]; omega))))
  refine wpAny_bind (wpAny_newList ?_ fit)
  have z1 : ((s.heap.push (seqObj "list" #[] 0)).update s.heap.objs.size (Obj.mapSeq (· ++ ws.toArray))).objs.size = s.heap.objs.size + 1 := by rw [Heap.size_update, size_push']
  have at1 : (((s.heap.push (seqObj "list" #[] 0)).update s.heap.objs.size (Obj.mapSeq (· ++ ws.toArray))).push (seqObj "list" ws.toArray 0)).get? (s.heap.objs.size + 1) = some (seqObj "list" ws.toArray 0) := by
    have := Heap.get?_push_size ((s.heap.push (seqObj "list" #[] 0)).update s.heap.objs.size (Obj.mapSeq (· ++ ws.toArray))) (o := seqObj "list" ws.toArray 0) rfl
    rw [z1] at this
    exact this
  show wpAny _ _ _ _ _ { s with heap := ((s.heap.push (seqObj "list" #[] 0)).update s.heap.objs.size (Obj.mapSeq (· ++ ws.toArray))).push (seqObj "list" ws.toArray 0) }
  rw [z1]
  refine wpAny_bind (wpAny_holding (wpAny_call_entry slot_list_sort ⟨_, at1, rfl⟩ entry_list_sort (sort_few at1 few ⟨_, rfl, ?_⟩) (args_list_sort _)))
  exact wpAny_pure ⟨_, rfl, h⟩
end
section
variable {X : Cx}
/-- at most, the first number first -/
def ple (a b : Int × Int) : Prop := a.1 < b.1 ∨ (a.1 = b.1 ∧ a.2 ≤ b.2)
def PairAt (H : Hp) (p : Addr) (k : Int × Int) : Prop := H p = some (.tup [.int k.1, .int k.2])
def rSortP (K : PySem.W.Frag) : List V → Hp → VK → Prop := fun xs H Q => ∃ l ps ks, xs = [.ref l] ∧ SqL K H l (ps.map V.ref) ∧ Paired (PairAt H) ps ks ∧ ps.length < 64 ∧
  ∀ (l' : Addr) (ps' : List Addr) (ks' : List (Int × Int)), Paired (PairAt H) ps' ks' → ps'.Perm ps → ks'.Perm ks → ks'.Pairwise ple → H l' = none → Q (.ref l') (upd H l' (.lst (ps'.map V.ref)))
theorem vals_refs : ∀ {ps : List Addr} {us : List Value}, Vals (ps.map V.ref) us → us = ps.map Value.ref
  | [], _, r => by cases r; rfl
  | p :: ps, _, r => by
    cases r with
    | cons r1 r2 =>
      rw [vals_refs r2]
      cases r1
      rfl
theorem refs_vals : ∀ ps : List Addr, Vals (ps.map V.ref) (ps.map Value.ref)
  | [] => .nil
  | p :: ps => .cons rfl (refs_vals ps)
theorem vals_pair {a b : Int} {us : List Value} (r : Vals [.int a, .int b] us) : ∃ t u, us = [.int a t, .int b u] := by
  cases r with
  | cons r1 r2 =>
    cases r2 with
    | cons r3 r4 =>
      cases r4
      obtain ⟨t, rfl⟩ := r1
      obtain ⟨u, rfl⟩ := r3
      exact ⟨t, u, rfl⟩
theorem ple_tr {a b c : Int × Int} (h : ple a b) (k : ple b c) : ple a c := by
  unfold ple at *
  omega
def pltB (a b : Int × Int) : Bool := if a.1 = b.1 then decide (a.2 < b.2) else decide (a.1 < b.1)
theorem pltB_yes {a b : Int × Int} (h : pltB a b = true) : ple a b := by
  unfold pltB at h
  unfold ple
  split at h
  · have := of_decide_eq_true h; omega
  · have := of_decide_eq_true h; omega
theorem pltB_no {a b : Int × Int} (h : pltB a b = false) : ple b a := by
  unfold pltB at h
  unfold ple
  split at h
  · have := of_decide_eq_false h; omega
  · have := of_decide_eq_false h; omega
theorem perm_map_range {α : Type} (d : α) (l : List α) {ix : List Nat} (h : ix.Perm (List.range l.length)) : (ix.map fun i => l.getD i d).Perm l := by
  have e : (List.range l.length).map (fun i => l.getD i d) = l := by
    apply List.ext_getElem
    · simp
    · intro i h1 h2
      simp [List.getD_eq_getElem?_getD, h2]
  have := h.map fun i => l.getD i d
  rwa [e] at this
theorem paired_getD {α β : Type} {F : α → β → Prop} {xs : List α} {ys : List β} (h : Paired F xs ys) (d : α) (e : β) {i : Nat} (hi : i < xs.length) : F (xs.getD i d) (ys.getD i e) := by
  induction h generalizing i with
  | nil => exact absurd hi (by simp)
  | cons r s ih =>
    cases i with
    | zero => exact r
    | succ i => simpa using ih (by simpa using hi)
theorem paired_ix {α β : Type} {F : α → β → Prop} {xs : List α} {ys : List β} (h : Paired F xs ys) (d : α) (e : β) : ∀ ix : List Nat, (∀ i ∈ ix, i < xs.length) → Paired F (ix.map fun i => xs.getD i d) (ix.map fun i => ys.getD i e)
  | [], _ => .nil
  | i :: r, hi => .cons (paired_getD h d e (hi i List.mem_cons_self)) (paired_ix h d e r fun j hj => hi j (List.mem_cons_of_mem _ hj))
theorem Inv.tup_at {pins : List (Addr × Obj)} {σ : St} {H : Hp} {s : Shared} (I : Inv X pins σ H s) {p : Addr} {k : Int × Int} (h : PairAt H p k) : ∃ o t u c, s.heap.get? p = some o ∧ o.cls = .type "tuple" ∧ o.data = .seq #[.int k.1 t, .int k.2 u] c := by
  obtain ⟨_, its, r, o, e, hc, c, hd⟩ := I.hok p _ h
  obtain ⟨t, u, rfl⟩ := vals_pair r
  exact ⟨o, t, u, c, e, hc, hd⟩
/-- a new list has come at D, all else but the frame's object is kept, its names too -/
theorem Inv.newAt {pins : List (Addr × Obj)} {σ : St} {H : Hp} {s : Shared} {h' : Heap} {D : Addr} {m : Str → Option Value} {u : HO} {o : Obj} (I : Inv X pins σ H s) (F : Fr X.base X.env.locals s.heap m) (F' : Fr X.base X.env.locals h' m)
    (keep : ∀ b o, b ≠ X.env.locals → s.heap.get? b = some o → h'.get? b = some o) (hD : s.heap.get? D = none) (ho : h'.get? D = some o) (new : ObjOk X.prog X.w (upd H D u) h' D u) : H D = none ∧ Inv X pins σ (upd H D u) { s with heap := h' } := by
  have hH : H D = none := by
    cases q : H D with
    | none => rfl
    | some v =>
      obtain ⟨o', e⟩ : ∃ o', s.heap.get? D = some o' := by
        have z := I.hok D v q
        cases v with
        | lst xs => obtain ⟨_, _, _, _, e⟩ := z; exact ⟨_, e⟩
        | tup xs => obtain ⟨_, _, _, o, e, _⟩ := z; exact ⟨o, e⟩
        | dK kvs => obtain ⟨_, _, _, _, o, _, _, e, _⟩ := z; exact ⟨o, e⟩
        | dT kvs => obtain ⟨_, _, _, _, o, _, _, e, _⟩ := z; exact ⟨o, e⟩
        | set S n => obtain ⟨o, _, _, _, e, _⟩ := z; exact ⟨o, e⟩
        | ins C dx fs => obtain ⟨_, _, _, e, _⟩ := z; exact ⟨_, e⟩
        | own y => obtain ⟨o, e⟩ := z; exact ⟨o, e⟩
        | xd fs => obtain ⟨_, ⟨o, _, _, e, _⟩, _⟩ := z; exact ⟨o, e⟩
        | rng lo hi => obtain ⟨_, _, _, e⟩ := z; exact ⟨_, e⟩
        | frz ob w => obtain ⟨e, _⟩ := z; exact ⟨_, e⟩
        | tbl ps => exact ⟨_, show s.heap.get? D = some _ from z⟩
        | met f y => exact ⟨_, show s.heap.get? D = some _ from z⟩
        | ext φ => obtain ⟨_, ⟨o, e⟩, _⟩ := z; exact ⟨o, e⟩
      rw [hD] at e; cases e
  have nL : ∀ b v, H b = some v → b ≠ X.env.locals := fun b v e z => by rw [z, I.free] at e; cases e
  refine ⟨hH, ?_⟩
  refine I.step (g' := s.gens) (d' := s.drawn) (t' := s.toks) (ch := []) (fun _ z => nomatch z) (fun b o hL _ _ e _ => keep b o hL e) (fun b o hL _ _ e _ => ⟨o.slots, keep b o hL e⟩) (fun b o _ e n => ?_) (fun b o _ e => ?_)
    (fun b xs e => ?_) (fun b ob v e => ?_) (fun b ps e => ?_) (fun m' hm => ?_) (fun b v e => ?_) I.bare
  · have : b ≠ D := fun z => by rw [z, hD] at e; cases e
    rw [upd_ne this]; exact n
  · by_cases hL : b = X.env.locals
    · obtain ⟨oL, _, _, hoL, _⟩ := F'.ns
      exact ⟨oL, by rw [hL]; exact hoL⟩
    · exact ⟨o, keep b o hL e⟩
  · rw [upd_ne (ne_of_none e hH)]; exact e
  · rw [upd_ne (ne_of_none e hH)]; exact e
  · exact ⟨#[], by rw [upd_ne (ne_of_none e hH), e]; simp⟩
  · have em : m' = m := by
      obtain ⟨o1, es1, ep1, h1, d1, k1, f1⟩ := hm
      obtain ⟨o2, es2, ep2, h2, d2, k2, f2⟩ := F.ns
      rw [h1] at h2; cases h2
      rw [d1] at d2; cases d2
      funext y
      rw [← f1 y, ← f2 y]
    rw [em]; exact F'.ns
  · by_cases hb : b = D
    · subst hb
      rw [upd_same] at e; cases e
      exact new
    · rw [upd_ne hb] at e
      refine (I.hok b v e).stay (fun c w hc q => keep c w ?_ q) (fun c q => by rw [upd_ne (ne_of_none q hH)]; exact q) fun c xs q => by rw [upd_ne (ne_of_none q hH)]; exact q
      rcases hc with z | z
      · rw [z]; exact nL b v e
      · exact nL c _ z
theorem call_sortP : CallR X (.builtin "sorted") (rSortP X.K) := by
  intro pins s σ H xs us Q I r h
  obtain ⟨l, ps, ks, rfl, hq, hp, h64, q⟩ := h
  obtain ⟨u, rfl, rx⟩ := vals1 r
  cases rx
  obtain ⟨its, r', pl, hz⟩ := I.list hq
  obtain rfl := vals_refs r'
  have hkl : ps.length = ks.length := Paired.length hp
  have hvl : (ps.map Value.ref).length = ps.length := List.length_map _
  by_cases few : ps.length < 2
  · refine sorted_few pl.isList (by rw [hvl]; exact few) ?_
    obtain ⟨c, hc⟩ := sortedAll_at s.heap (ps.map Value.ref) (ps.map Value.ref).toArray
    have hf : H (s.heap.objs.size + 1) = none := I.hok.fresh (Nat.le_succ _)
    refine ⟨.ref (s.heap.objs.size + 1), _, I.laid (t' := s.toks) (o := .lst (ps.map V.ref)) (fun b o e => sortedAll_old e) (Nat.le_succ _) ⟨hz, _, c, refs_vals ps, hc⟩, rfl, q _ ps ks hp (List.Perm.refl _) (List.Perm.refl _) ?_ hf⟩
    match ks, hkl with
    | [], _ => exact .nil
    | [k], _ => exact List.pairwise_singleton _ _
    | a :: b :: r, e => rw [e] at few; simp at few; omega
  · obtain ⟨m, F⟩ := I.fr
    have h0 : 0 < ps.length := by omega
    have N : News X.base X.env.locals s.heap (allNews X.base s.heap X.env.locals) := news_all
    refine PySem.W.kat_sorted F N pl.isList (by rw [hvl]; omega) (by rw [hvl]; exact h64) fun D e1 h1 F1 N1 hD => ?_
    have keep1 : ∀ b o, b ≠ X.env.locals → s.heap.get? b = some o → h1.get? b = some o := fun b o hL e => by
      cases hb : X.base.get? b with
      | some v =>
        have := I.bk b v hb
        rw [e] at this; cases this
        exact F1.keep b _ hb
      | none => exact (N1 (b, o) (List.mem_cons_of_mem _ (mem_allNews hL hb e))).1
    have nL : ∀ b v, H b = some v → b ≠ X.env.locals := fun b v e z => by rw [z, I.free] at e; cases e
    have tup1 : ∀ p k, PairAt H p k → ∃ o t u c, h1.get? p = some o ∧ o.cls = .type "tuple" ∧ o.data = .seq #[.int k.1 t, .int k.2 u] c := fun p k hpk => by
      obtain ⟨o, t, u, c, e, hc, hd⟩ := I.tup_at hpk
      exact ⟨o, t, u, c, keep1 p o (nL p _ hpk) e, hc, hd⟩
    have tups : ∀ (ps : List Addr) (ks : List (Int × Int)), Paired (PairAt H) ps ks → ∃ fs, PySem.W.KatTups h1 (ps.map Value.ref) fs ∧ fs.length = ps.length ∧ ∀ v ∈ fs, ∃ i t, v = Value.int i t := by
      intro ps ks hp
      induction hp with
      | nil => exact ⟨[], .nil, rfl, fun v z => nomatch z⟩
      | cons r _ ih =>
        obtain ⟨fs, a1, a2, a3⟩ := ih
        obtain ⟨o, t, u, c, e, hc, hd⟩ := tup1 _ _ r
        refine ⟨_ :: fs, .cons e hc hd rfl a1, by simp [a2], fun v hv => ?_⟩
        rcases List.mem_cons.mp hv with rfl | hv
        · exact ⟨_, _, rfl⟩
        · exact a3 v hv
    obtain ⟨fs, ft, fl, fi⟩ := tups ps ks hp
    refine PySem.W.kat_kind (T := .type "int") (s := { s with heap := h1 }) ft (by omega) (fun v hv => ?_) (by decide) ?_
    · obtain ⟨i, t, rfl⟩ := fi v hv
      exact PySem.W.Looks.of_pure rfl
    have hsD : s.heap.get? D = none := by
      cases e : s.heap.get? D with
      | none => rfl
      | some o =>
        have n1 := N1 (D, seqObj "list" #[] e1) List.mem_cons_self
        exact absurd (hD (D, o) (mem_allNews n1.2.1 n1.2.2 e)) (Nat.lt_irrefl _)
    have at_ : ∀ i, i < ps.length → (ps.map Value.ref).getD i Value.none = Value.ref (ps.getD i 0) := fun i hi => by
      simp [List.getD_eq_getElem?_getD, hi]
    have M : EM.Cm (PySem.W.kas_ask X.prog X.w X.A.in1.in1 (tuples' (Value.type "int" != Value.type "tuple")) (ps.map Value.ref)) (fun s' => s' = { s with heap := h1 }) ps.length (fun i j => pltB (ks.getD i (0, 0)) (ks.getD j (0, 0))) (fun i j => ple (ks.getD i (0, 0)) (ks.getD j (0, 0))) := {
      ask := fun i j hi hj C s' hs hC => by
        subst hs
        have hC := hC _ rfl
        unfold PySem.W.kas_ask
        rw [at_ i hi, at_ j hj]
        obtain ⟨o1, t1, u1, c1, g1, _, d1⟩ := tup1 _ _ (paired_getD hp 0 (0, 0) hi)
        obtain ⟨o2, t2, u2, c2, g2, _, d2⟩ := tup1 _ _ (paired_getD hp 0 (0, 0) hj)
        refine PySem.W.kat_lt g1 d1 g2 d2 ?_
        refine PySem.W.kat_cons (wpAny_eqBool_int ?_)
        unfold pltB at hC
        refine PySem.W.kat_go (fun e => PySem.W.kat_yes ?_) (fun e => PySem.W.kat_no ?_)
        · have e := eq_of_beq e
          rw [if_pos e] at hC
          refine PySem.W.kat_cons (wpAny_eqBool_int (PySem.W.kat_go (fun e' => PySem.W.kat_yes (PySem.W.kat_nil ?_)) (fun e' => PySem.W.kat_no ?_)))
          · have e' := eq_of_beq e'
            rw [e', decide_eq_false (Int.lt_irrefl _)] at hC
            exact hC
          · exact PySem.W.kat_one _ _ (lt_int hC)
        · rw [if_neg (fun z => by rw [z, beq_self_eq_true] at e; cases e)] at hC
          exact oneLt_int hC
      yes := fun i j h => pltB_yes h
      no := fun i j h => pltB_no h
      tr := fun i j k a b => ple_tr a b }
    rw [hvl]
    refine EM.sort_ok M h0 _ _ rfl fun p s' hs hg => ?_
    subst hs
    obtain ⟨g, a⟩ := hg
    refine ⟨_, _, F1, N1, .head fun x hx => Nat.ne_of_lt (hD x hx), fun h2 c F2 N2 => ?_⟩
    have keep2 : ∀ b o, b ≠ X.env.locals → s.heap.get? b = some o → h2.get? b = some o := fun b o hL e => by
      cases hb : X.base.get? b with
      | some v =>
        have := I.bk b v hb
        rw [e] at this; cases this
        exact F2.keep b _ hb
      | none => exact (N2 (b, o) (List.mem_cons_of_mem _ (mem_allNews hL hb e))).1
    have hpm : p.toList.Perm (List.range ps.length) := by
      have := Array.perm_iff_toList_perm.mp g.pm
      simpa using this
    have hix : ∀ i ∈ p.toList, i < ps.length := fun i hi => by
      have := hpm.mem_iff.mp hi
      simpa using this
    have eo : (p.toList.map fun i => (ps.map Value.ref).getD i Value.none) = (p.toList.map fun i => ps.getD i 0).map Value.ref := by
      rw [List.map_map]
      exact List.map_congr_left fun i hi => at_ i (hix i hi)
    have n2 := N2 _ List.mem_cons_self
    rw [eo] at n2
    have hpp := perm_map_range 0 ps hpm
    have hkk : (p.toList.map fun i => ks.getD i (0, 0)).Perm ks := perm_map_range (0, 0) ks (by rw [← hkl]; exact hpm)
    have hpk := paired_ix hp 0 (0, 0) p.toList hix
    have hlen : (p.toList.map fun i => ps.getD i 0).length = ps.length := hpp.length_eq
    obtain ⟨hHD, I2⟩ := I.newAt (u := .lst ((p.toList.map fun i => ps.getD i 0).map V.ref)) F F2 keep2 hsD n2.1 ⟨by rw [List.length_map, hlen]; exact Nat.le_trans (Nat.le_of_lt h64) (by decide), _, c, refs_vals _, n2.1⟩
    refine ⟨.ref D, _, I2, rfl, q D _ _ hpk hpp hkk ?_ hHD⟩
    rw [List.pairwise_map, List.pairwise_iff_getElem]
    intro i j hi hj hij
    have hn : p.toList.length = ps.length := by rw [Array.length_toList, g.sz]
    have := a.le M (i := i) (j := j) (Nat.le_of_lt hij) (by omega)
    have e1 : p.getD i 0 = p.toList[i] := by rw [Array.getD_eq_getD_getElem?, ← Array.getElem?_toList, List.getElem?_eq_getElem hi]; rfl
    have e2 : p.getD j 0 = p.toList[j] := by rw [Array.getD_eq_getD_getElem?, ← Array.getElem?_toList, List.getElem?_eq_getElem hj]; rfl
    rw [e1, e2] at this
    exact this
end
end L2

set_option maxRecDepth 100000
set_option maxHeartbeats 4000000
namespace L2
open PySem PySem.Spec PyProof.Rows
section
variable {X : Cx} {K : PySem.W.Frag} {σ : St} {H : Hp} {Q : VK} {a : Expr} {ta : TE} {pos : Pos}
/-- a slice -/
def rSlX : V → Option Int → Option Int → Hp → VK → Prop := fun x lo hi H Q => ∃ z, x = .str z ∧ z.length ≤ sizeLine ∧ Q (.str (Txt.slice z lo hi)) H
theorem sl_str : SlR X rSlX := by
  intro pins s σ H x v vl vu lo hi sl Q I rx hs pl pu h
  obtain ⟨z, rfl, hz, q⟩ := h
  obtain ⟨t, rfl⟩ := rx
  refine ⟨"str", _, F.slot_str_getitem.lookup, typeIs_str _ _ _, ?_⟩
  obtain ⟨o, ho, hc, hd⟩ := hs
  have fin : ∀ (l u : Option (Int × Tok)), vl = partValue l → vu = partValue u → l.map (·.1) = lo → u.map (·.1) = hi → wpAny (model X.prog X.w) X.A (getItem (.str z t) (.ref sl)) (EP X pins σ Q) X.xe s := fun l u e1 e2 e3 e4 => by
    subst e1 e2 e3 e4
    exact wpAny_getItem_str_slice (l := l) (u := u) (st := none) ⟨o, ho, hc, hd⟩ rfl
      (post_val_or_str ⟨Nat.le_trans (Txt.slice_le z _ _) hz, fun t' k => ⟨.str _, H, I.tok k, ⟨t', rfl⟩, q⟩⟩)
  have pv : ∀ {v : Value} {o : Option Int}, IsPart v o → ∃ l : Option (Int × Tok), v = partValue l ∧ l.map (·.1) = o := fun {v o} h => by
    cases h <;> first | exact ⟨none, rfl, rfl⟩ | exact ⟨some (_, _), rfl, rfl⟩
  obtain ⟨l, e1, e3⟩ := pv pl
  obtain ⟨u, e2, e4⟩ := pv pu
  exact fin l u e1 e2 e3 e4
/-- slices of lists, tuples, texts -/
def rSlA (K : PySem.W.Frag) : V → Option Int → Option Int → Hp → VK → Prop := fun x lo hi H Q => rSlG K x lo hi H Q ∨ rSlX x lo hi H Q
theorem sl_any : SlR X (rSlA X.K) := SlR.or sl_seq sl_str
theorem j_slA {p : Addr} {xs ys : List V} {lo hi : Option Int} (h : SqL K H p xs) (e : cutV xs lo hi = ys) (k : ∀ (l : Addr) (H' : Hp), Same H H' → H l = none → H' l = some (.lst ys) → Q (.ref l) H') : rSlA K (.ref p) lo hi H Q := .inl (j_sl h e k)
end
end L2

set_option maxRecDepth 100000
set_option maxHeartbeats 4000000
namespace L2
open PySem PySem.Spec PyProof.Rows
mutual
def DV (H : Hp) : PyData → V → Prop
  | .none, v => v = .non
  | .bool b, v => v = .bl b
  | .int i, v => v = .int i
  | .str x, v => v = .str x
  | .list ds, v => ∃ p xs, v = .ref p ∧ H p = some (.lst xs) ∧ DVs H ds xs
  | .tuple ds, v => ∃ p xs, v = .ref p ∧ H p = some (.tup xs) ∧ DVs H ds xs
  | .dict _, _ => False
def DVs (H : Hp) : List PyData → List V → Prop
  | [], xs => xs = []
  | d :: ds, xs => ∃ v r, xs = v :: r ∧ DV H d v ∧ DVs H ds r
end
section
variable {X : Cx} {pins : List (Addr × Obj)} {σ : St} {H : Hp} {s : Shared}
mutual
theorem reads_of (I : Inv X pins σ H s) : ∀ (d : PyData) (v : V) (u : Value), DV H d v → RelV v u → ∃ as, Reads s.heap u d as
  | .none, v, u, h, r => by
    rw [DV] at h; subst h; cases r; exact ⟨_, .none⟩
  | .bool b, v, u, h, r => by
    rw [DV] at h; subst h; cases r; exact ⟨_, .bool b⟩
  | .int i, v, u, h, r => by
    rw [DV] at h; subst h; obtain ⟨t, rfl⟩ := r; exact ⟨_, .int i t⟩
  | .str x, v, u, h, r => by
    rw [DV] at h; subst h; obtain ⟨t, rfl⟩ := r; exact ⟨_, .str x t⟩
  | .list ds, v, u, h, r => by
    rw [DV] at h
    obtain ⟨p, xs, rfl, e, hs⟩ := h
    cases r
    obtain ⟨z, its, n, r', e'⟩ := I.hok p _ e
    obtain ⟨as, ra⟩ := reads_all I ds xs its hs r'
    exact ⟨_, .list e' rfl rfl (by simpa using ra)⟩
  | .tuple ds, v, u, h, r => by
    rw [DV] at h
    obtain ⟨p, xs, rfl, e, hs⟩ := h
    cases r
    obtain ⟨z, its, r', o, e', hc, n, hd⟩ := I.hok p _ e
    obtain ⟨as, ra⟩ := reads_all I ds xs its hs r'
    exact ⟨_, .tuple e' hc hd (by simpa using ra)⟩
  | .dict _, v, u, h, r => by rw [DV] at h; exact h.elim
theorem reads_all (I : Inv X pins σ H s) : ∀ (ds : List PyData) (xs : List V) (us : List Value), DVs H ds xs → Vals xs us → ∃ as, ReadsAll s.heap us ds as
  | [], xs, us, h, r => by
    rw [DVs] at h; subst h; cases r; exact ⟨_, .nil⟩
  | d :: ds, xs, us, h, r => by
    rw [DVs] at h
    obtain ⟨v, r0, rfl, h1, h2⟩ := h
    cases r with
    | cons r1 r2 =>
      obtain ⟨a1, q1⟩ := reads_of I d v _ h1 r1
      obtain ⟨a2, q2⟩ := reads_all I ds r0 _ h2 r2
      exact ⟨_, .cons q1 q2⟩
end
def rEqD : R2 := fun x y H Q => ∃ d1 d2, DV H d1 x ∧ DV H d2 y ∧ d1.canLay0 = true ∧ d2.canLay0 = true ∧ d1.depth ≤ 60 ∧ Q (.bl (PyData.eqv d1 d2)) H
theorem op_eqD (hu : X.A.units + 64 < cLine) : OpR X (compareOp .Eq) rEqD := by
  intro pins s σ H x y v u Q I rx ry h
  obtain ⟨d1, d2, h1, h2, c1, c2, hd, q⟩ := h
  obtain ⟨a1, q1⟩ := reads_of I d1 x v h1 rx
  obtain ⟨a2, q2⟩ := reads_of I d2 y u h2 ry
  exact SeqAt.compareEq_reads q1 q2 c1 c2 (Nat.lt_of_le_of_lt (Nat.add_le_add_left (Nat.le_trans (Nat.min_le_left _ _) hd) _) (by omega)) ⟨.bl _, H, I, rfl, q⟩
def rEqA : R2 := fun x y H Q => rEq x y H Q ∨ rEqD x y H Q
theorem op_eqA (hu : X.A.units + 64 < cLine) : OpR X (compareOp .Eq) rEqA := OpR.or op_eq (op_eqD hu)
/-- != of two lists -/
def rNeD : R2 := fun x y H Q => ∃ d1 d2, DV H (.list d1) x ∧ DV H (.list d2) y ∧ PyData.canLayAll0 d1 = true ∧ PyData.canLayAll0 d2 = true ∧ PyData.depthAll d1 ≤ 60 ∧ Q (.bl (!PyData.eqvAll d1 d2)) H
theorem op_neD (hu : X.A.units + 64 < cLine) : OpR X (compareOp .NotEq) rNeD := by
  intro pins s σ H x y v u Q I rx ry h
  obtain ⟨d1, d2, h1, h2, c1, c2, hd, q⟩ := h
  obtain ⟨a1, q1⟩ := reads_of I (.list d1) x v h1 rx
  obtain ⟨a2, q2⟩ := reads_of I (.list d2) y u h2 ry
  cases q1 with
  | @list b1 o vs n _ as1 g1 g2 g3 g4 =>
    cases q2 with
    | @list b2 o' vs' n' _ as2 k1 k2 k3 k4 =>
      have hl : s.heap.IsList _ vs := ⟨_, g1, g2, _, g3⟩
      have hl' : s.heap.IsList _ vs' := ⟨_, k1, k2, _, k3⟩
      have n1 : vs.size = d1.length := by simpa using SeqAt.ReadsAll.length _ _ _ g4
      have n2 : vs'.size = d2.length := by simpa using SeqAt.ReadsAll.length _ _ _ k4
      have fin : EP X pins σ Q (.bool (!PyData.eqvAll d1 d2)) s := ⟨.bl _, H, I, rfl, q⟩
      by_cases hz : vs.size = vs'.size
      · refine SeqAt.RcNeAt.lists hl hl' hz (by omega) (e := SeqAt.pairEq d1 d2) (fun j j1 j2 => ?_) _ _ _ _ ?_
        · have := SeqAt.eqAt_readsAll d1 d2 X.A.in1 s vs.toList vs'.toList _ _ g4 k4 c1 c2 (by
            have : X.A.in1.units = X.A.units + 1 ∨ X.A.in1.units = X.A.units := by first | exact .inl rfl | exact .inr rfl
            have h3 := Nat.min_le_left (PyData.depthAll d1) (PyData.depthAll d2)
            omega) j (by simpa using j1) (by simpa using j2)
          simpa using this
        · have e := SeqAt.eqvAll_eq d1 d2
          rw [← n1, ← n2, ← hz, Nat.min_self, beq_self_eq_true, Bool.and_true] at e
          rw [e]; exact fin
      · refine SeqAt.RcNeAt.lists_lengths hl hl' (by simpa using hz) (by omega) _ _ _ _ ?_
        have e := SeqAt.eqvAll_eq d1 d2
        have hb : (d1.length == d2.length) = false := by
          rw [← n1, ← n2]; simpa using hz
        rw [hb, Bool.and_false] at e
        rw [← e] at fin
        exact fin
/-- != of two tuples -/
def rNeT : R2 := fun x y H Q => ∃ d1 d2, DV H (.tuple d1) x ∧ DV H (.tuple d2) y ∧ PyData.canLayAll0 d1 = true ∧ PyData.canLayAll0 d2 = true ∧ PyData.depthAll d1 ≤ 60 ∧ Q (.bl (!PyData.eqvAll d1 d2)) H
theorem op_neT (hu : X.A.units + 64 < cLine) : OpR X (compareOp .NotEq) rNeT := by
  intro pins s σ H x y v u Q I rx ry h
  obtain ⟨d1, d2, h1, h2, c1, c2, hd, q⟩ := h
  obtain ⟨a1, q1⟩ := reads_of I (.tuple d1) x v h1 rx
  obtain ⟨a2, q2⟩ := reads_of I (.tuple d2) y u h2 ry
  cases q1 with
  | @tuple b1 o vs n _ as1 g1 g2 g3 g4 =>
    cases q2 with
    | @tuple b2 o' vs' n' _ as2 k1 k2 k3 k4 =>
      have hl : s.heap.IsTuple _ vs := ⟨_, g1, g2, _, g3⟩
      have hl' : s.heap.IsTuple _ vs' := ⟨_, k1, k2, _, k3⟩
      have n1 : vs.size = d1.length := by simpa using SeqAt.ReadsAll.length _ _ _ g4
      have n2 : vs'.size = d2.length := by simpa using SeqAt.ReadsAll.length _ _ _ k4
      refine SeqAt.RcNeAt.tuples hl hl' (by omega) (e := SeqAt.pairEq d1 d2) (fun j j1 j2 => ?_) _ _ _ _ ?_
      · have := SeqAt.eqAt_readsAll d1 d2 X.A.in1 s vs.toList vs'.toList _ _ g4 k4 c1 c2 (by
          have : X.A.in1.units = X.A.units + 1 ∨ X.A.in1.units = X.A.units := by first | exact .inl rfl | exact .inr rfl
          have h3 := Nat.min_le_left (PyData.depthAll d1) (PyData.depthAll d2)
          omega) j (by simpa using j1) (by simpa using j2)
        simpa using this
      · rw [n1, n2, SeqAt.eqvAll_eq d1 d2]
        exact ⟨.bl _, H, I, rfl, q⟩
def rNeA : R2 := fun x y H Q => rNe x y H Q ∨ rNeD x y H Q ∨ rNeT x y H Q
theorem op_neA (hu : X.A.units + 64 < cLine) : OpR X (compareOp .NotEq) rNeA := OpR.or op_ne (OpR.or (op_neD hu) (op_neT hu))
end
def pd (k : Int × Int) : PyData := .tuple [.int k.1, .int k.2]
theorem eqv_pd (x y : Int × Int) : PyData.eqv (pd x) (pd y) = decide (x = y) := by
  obtain ⟨a, b⟩ := x
  obtain ⟨c, d⟩ := y
  simp only [pd, PyData.eqv, PyData.eqvAll, Bool.and_true, Prod.mk.injEq]
  by_cases h : a = c
  · subst h; by_cases h' : b = d
    · subst h'; simp
    · simp [h']
  · simp [h]
theorem dvs_ints (H : Hp) : ∀ a : List Int, DVs H (a.map .int) (a.map V.int)
  | [] => by rw [List.map_nil, DVs]; rfl
  | x :: a => by
    rw [List.map_cons, DVs]
    exact ⟨.int x, a.map V.int, rfl, by rw [DV], dvs_ints H a⟩
theorem dv_pair {H : Hp} {p : Addr} {k : Int × Int} (h : PairAt H p k) : DV H (pd k) (.ref p) := by
  unfold pd
  rw [DV]
  exact ⟨p, _, rfl, h, dvs_ints H [k.1, k.2]⟩
section
variable {K : PySem.W.Frag} {H : Hp} {Q : VK}
theorem i_nePP {p p' : Addr} {k k' : Int × Int} (h : PairAt H p k) (h' : PairAt H p' k') (q : Q (.bl (!decide (k = k'))) H) : rNeA (.ref p) (.ref p') H Q := by
  refine .inr (.inr ⟨[.int k.1, .int k.2], [.int k'.1, .int k'.2], dv_pair h, dv_pair h', ?_, ?_, ?_, ?_⟩)
  · simp [PyData.canLay0, PyData.canLayAll0]
  · simp [PyData.canLay0, PyData.canLayAll0]
  · simp [PyData.depth, PyData.depthAll]
  · have e := eqv_pd k k'
    unfold pd at e
    rw [PyData.eqv] at e
    rw [e]; exact q
theorem i_eqAI {i j : Int} (h : Q (.bl (decide (i = j))) H) : rEqA (.int i) (.int j) H Q := .inl (i_eqI h)
theorem i_neAI {i j : Int} (h : Q (.bl (!decide (i = j))) H) : rNeA (.int i) (.int j) H Q := .inl (i_neI h)
end
end L2

set_option maxRecDepth 100000
namespace PySem
open Sem (wp)
open AutoSeq1 (wpAny_loadPart')
section
variable {prog : Program} {w : World} {A : Around} {E : Value → Shared → Prop} {s : Shared}
end
end PySem
namespace L2
open PySem PySem.Spec PyProof.Rows
section
variable {X : Cx} {pins : List (Addr × Obj)} {σ : List (Option V)} {H : Hp} {s : Shared} {h' : Heap}
end
section
variable {X : Cx}
def rBits : V → List V → Hp → VK → Prop := fun x vs H Q => ∃ i : Int, x = .int i ∧ vs = [] ∧ Q (.int ((Builtin.Int.intBits i : Nat) : Int)) H
theorem mi_bit_length : MtR X "int.bit_length" rBits := by
  intro pins s σ H x xs v us Q I r rs h
  obtain ⟨i, rfl, rfl, q⟩ := h
  obtain ⟨t, rfl⟩ := r
  cases rs
  exact call_int_bit_length ⟨.int _, H, I.tok _, ⟨_, rfl⟩, q⟩
end
section
variable {σ : St} {H : Hp} {Q : VK} {D : Ends} {K : PySem.W.Frag} {g : TG} {tb : TS}
theorem i_bitlen {i : Int} (h : Q (.int ((Builtin.Int.intBits i : Nat) : Int)) H) : tyV K "int" (.int i) H ∧ rBits (.int i) [] H Q := ⟨rfl, i, rfl, rfl, h⟩
theorem i_truI {i : Int} {R : Bool → Prop} (h : R (!decide (i = 0))) : ∃ k, TruV K (.int i) H k ∧ R k := ⟨_, rfl, h⟩
end
end L2

set_option maxRecDepth 100000
namespace L2
open PySem PySem.Spec PyProof.Rows
section
variable {X : Cx}
end
section
open PySem.SeqAt
open PySem.AutoSeq1 (wpAny_loadPart')
open PySem.MeetsSeq PySem.MeetsSeq2 PySem.MeetsSeq3
theorem rcGe_int (A : Around) (z : Shared) (a : Int) (t : Tok) (c : Int) (u : Tok) (pr : Program) (wo : World) (E : Value → Shared → Prop) (Q : Value → Shared → Prop) (q : Q (.bool (!decide (a < c))) z) : wpAny (model pr wo) A (richCompare .GtE (.int a t) (.int c u)) Q E z := by
  have e : decide (c ≤ a) = !decide (a < c) := by
    by_cases h : a < c
    · rw [decide_eq_true h, decide_eq_false (by omega)]; rfl
    · rw [decide_eq_false h, decide_eq_true (by omega)]; rfl
  exact (PyProof.Rows.ge_int (by rw [e]; exact q) : wpAny (model pr wo) A (compareOp .GtE (.int a t) (.int c u)) Q E z)
theorem tup_ge_ints (l b : Addr) (vs ws : Array Value) (n n2 : Nat) (dd dd2 : Option Addr) (sl sl2 : Array (Option Value)) (ns ms : List Int) (hi : IntsAre vs.toList ns) (hj : IntsAre ws.toList ms) : Meets (Builtin.«tuple.__ge__» ⟨[.ref l, .ref b], []⟩)
    (fun _ R z => z.heap.get? l = some { cls := .type "tuple", dict := dd, data := .seq vs n, slots := sl } ∧ z.heap.get? b = some { cls := .type "tuple", dict := dd2, data := .seq ws n2, slots := sl2 } ∧ R (.ok (.ret (.bool (!HT.lexLt ns ms)))) z) :=
  .of_wp fun pr wo A R z h => by
    obtain ⟨hp, g, d, tk, os⟩ := z
    obtain ⟨hl, hb, h⟩ := h
    have ft := AutoSeq1.sub_tuple_tuple
    have z1 : vs.size = ns.length := by rw [← hi.length]; simp
    have z2 : ws.size = ms.length := by rw [← hj.length]; simp
    wp_walk using wpAny_loadPart' hl, wpAny_loadPart' hb, wpAny_forIn_list _ (fun rest b z' => b.1 = none ∧ z' = ⟨hp, g, d, tk, os⟩ ∧ ∃ (xs ys : List Value) (ns' ms' : List Int), rest = xs.zip ys ∧ IntsAre xs ns' ∧ IntsAre ys ms' ∧ ns'.length + ws.size = ms'.length + vs.size ∧ R (.ok (.ret (.bool (!HT.lexLt ns' ms')))) ⟨hp, g, d, tk, os⟩) _
    case turn =>
      rintro ⟨y, x⟩ rest b z' ⟨hb', rfl, xs, ys, ns', ms', hz, hvi, hwi, hlen, hR⟩
      cases hvi with
      | nil => rw [List.zip_nil_left] at hz; cases hz
      | cons a t hvi' =>
        cases hwi with
        | nil => rw [List.zip_nil_right] at hz; cases hz
        | cons c u hwi' =>
          rw [List.zip_cons_cons] at hz
          injection hz with hyx hrest
          injection hyx with hy hx
          subst hy hx
          rw [HT.lexLt_cons] at hR
          simp only [List.length_cons] at hlen
          obtain ⟨e, he, hiff⟩ := HT.eqAt_int A.in1 ⟨hp, g, d, tk, os⟩ a t c u
          refine wpAny_bind (he pr wo _ _ ?_)
          cases e with
          | true =>
            rw [if_pos (hiff.mp rfl)] at hR
            wp_walk
            exact ⟨rfl, rfl, _, _, _, _, hrest, hvi', hwi', by omega, hR⟩
          | false =>
            rw [if_neg (fun q => absurd (hiff.mpr q) Bool.false_ne_true)] at hR
            have hri := rcGe_int A.in1 ⟨hp, g, d, tk, os⟩ a t c u pr wo
            wp_walk using hri
            exact ⟨_, rfl, by simpa using hR⟩
    case fin =>
      rintro ⟨b1, b2⟩ z' ⟨hb', rfl, xs, ys, ns', ms', hz, hvi, hwi, hlen, hR⟩
      simp only at hb'
      subst hb'
      have hv : (!HT.lexLt ns' ms') = decide (vs.size ≥ ws.size) := by
        cases hvi with
        | nil =>
          cases hwi with
          | nil =>
            simp only [List.length_nil] at hlen
            rw [HT.lexLt_nil_nil]
            exact (decide_eq_true (by omega)).symm
          | cons c u hw =>
            simp only [List.length_nil, List.length_cons] at hlen
            rw [HT.lexLt_nil_cons]
            exact (decide_eq_false (by omega)).symm
        | cons a t hv =>
          cases hwi with
          | nil =>
            simp only [List.length_nil, List.length_cons] at hlen
            rw [HT.lexLt_cons_nil]
            exact (decide_eq_true (by omega)).symm
          | cons c u hw =>
            rw [List.zip_cons_cons] at hz
            cases hz
      rw [hv] at hR
      wp_walk
      exact ⟨_, rfl, by simpa [Builtin.Tuple.tupleCompareSizes] using hR⟩
    case h =>
      exact ⟨rfl, rfl, vs.toList, ws.toList, ns, ms, rfl, hi, hj, by omega, h⟩
end
def rGeT (K : PySem.W.Frag) : R2 := fun x y H Q => ∃ a b ns ms, x = .ref a ∧ y = .ref b ∧ SqT K H a (ns.map V.int) ∧ SqT K H b (ms.map V.int) ∧ Q (.bl (!HT.lexLt ns ms)) H
theorem op_geT {X : Cx} (hu : X.A.units + 64 < cLine) : OpR X (compareOp .GtE) (rGeT X.K) := by
  intro pins s σ H x y v u Q I rx ry h
  obtain ⟨a, b, ns, ms, rfl, rfl, ha, hb, q⟩ := h
  cases rx
  cases ry
  obtain ⟨its, r1, p1, _⟩ := I.tuple ha
  obtain ⟨its2, r2, p2, _⟩ := I.tuple hb
  have i1 : IntsAre its.toArray.toList ns := intsAre_of r1
  have i2 : IntsAre its2.toArray.toList ms := intsAre_of r2
  obtain ⟨⟨c1, dd, da, sl⟩, ho, hc, n, hd⟩ := id p1
  obtain ⟨⟨c2, dd2, da2, sl2⟩, ho2, hc2, n2, hd2⟩ := id p2
  simp only at hc hd hc2 hd2
  subst hc hd hc2 hd2
  exact richCompare_meets_room (op := .GtE) ⟨_, ho, rfl⟩ ⟨_, ho2, rfl⟩ PySem.F.slot_tuple_ge PySem.F.entry_tuple_ge (PySem.F.args_tuple_ge_2 _ _) (tup_ge_ints a b _ _ n n2 dd dd2 sl sl2 ns ms i1 i2)
    ⟨ho, ho2, show Value.bool (!HT.lexLt ns ms) ≠ Value.notImplemented ∧ EP X pins σ Q (.bool (!HT.lexLt ns ms)) s from ⟨(fun x => nomatch x), ⟨.bl (!HT.lexLt ns ms), H, I, rfl, q⟩⟩⟩ (by omega)
def CDivG (i j : Int) : Prop := 0 < j ∧ j ≤ 18446744073709551616
theorem op_fdivG {X : Cx} : OpR X (binaryOp .FloorDiv) (rI CDivG fun i j => .int (i / j)) := opI fun i j _ _ _ _ _ hc q => by
  have h1 : (0 : Int) < j := hc.1
  have h2 : j ≤ 18446744073709551616 := hc.2
  refine floordiv_int (by omega) (by rw [Int.fdiv_eq_ediv_of_nonneg i (by omega)]; exact q) (.inl (PyProof.noPylong_of_log2 ?_))
  have h3 : j.natAbs.log2 < 65 := (Nat.log2_lt (by omega)).mpr (by omega)
  omega
section
variable {σ : St} {H : Hp} {Q : VK} {D : Ends} {K : PySem.W.Frag} {g : TG} {tb : TS}
end
end L2

open PySem L2
local macro_rules | `(tactic| walk_at "side") => `(tactic| first | omega | (show (_ : Int) < _; omega) | exact ⟨by omega, by omega⟩ | exact ⟨by omega, by omega, by decide⟩)
local macro_rules | `(tactic| walk_at "rd1") => `(tactic| first
  | (with_reducible first | refine i_seq ?_ | refine i_asg ?_ | refine i_op ?_ | refine i_c ?_ | refine i_cons ?_ | refine i_nil ?_ | refine i_ifs ?_ | refine i_ret ?_ | refine i_fn ?_ | refine i_cb ?_ | refine i_test ?_ | refine i_exb ?_ | refine i_exi ?_ | refine i_truB ?_ | refine i_dy ?_ | refine i_mk ?_ | refine i_fld ?_ | refine i_sfld ?_ | refine i_drop ?_ | refine i_next ?_ | refine i_retN ?_ | refine i_brk ?_ | refine i_cont ?_ | refine i_un ?_ | refine i_and ?_ | refine i_or ?_ | refine i_not ?_ | refine i_andV ?_ | refine i_orV ?_ | refine i_notG ?_ | refine i_if ?_ | refine i_tup ?_ | refine i_lst ?_ | refine i_bm ?_ | refine i_bm0 ?_ | refine i_sl ?_ | refine i_part ?_ | refine i_noPart ?_ | refine i_forR1 ?_ | refine i_forR2 ?_ | refine i_forR3 ?_ | refine i_compR3 ?_ | refine i_listrev ?_ | refine i_forS ?_ | refine i_forE ?_ | refine i_forZ ?_ | refine i_forV ?_ | refine i_bitlen ?_ | refine i_chain ?_ | refine i_truI ?_ | refine i_compR1 ?_ | refine i_compR2 ?_ | refine i_compS ?_ | refine i_noif ?_ | refine i_rI0 ?_ | refine i_addI ?_ | refine i_rU ?_ | refine i_eqAI ?_ | refine i_eqAS ?_ | refine i_eqAB ?_ | refine i_neAI ?_ | refine i_neAS ?_ | refine i_neAB ?_ | refine i_fs ?_ | refine i_gsub ?_ | refine i_jc ?_ | refine i_fmt ?_ | refine i_eqI ?_ | refine i_eqS ?_ | refine i_eqB ?_ | refine i_neI ?_ | refine i_neS ?_ | refine i_neB ?_ | refine i_intI ?_ | refine i_intB ?_ | refine i_max ?_ | refine i_min ?_)
  | ((with_reducible refine i_name ?_); (try dsimp only [List.set_cons_succ, List.set_cons_zero]))
  | ((with_reducible refine' i_var ?hv ?_); (case hv => exact rfl))
  | ((with_reducible refine i_rI ?hc ?_); (case hc => walk_at "side"))
  | ((with_reducible refine' i_lenS ?hc ?_); (case hc => assumption))
  | ((with_reducible refine' i_lenL ?hc ?_); (case hc => assumption))
  | ((with_reducible refine' i_lenT ?hc ?_); (case hc => assumption))
  | ((with_reducible refine' i_isiT ?ht ?he ?_); (case ht => first | exact TyOf.bl _ | exact TyOf.int _ | exact TyOf.str _ | exact TyOf.non | exact TyOf.lst (by assumption) | exact TyOf.tup (by assumption)); (case he => first | exact kit_self _ _ | exact kit_int_bool _ | exact kit_bool_int _ | exact kit_str_bool _ | exact kit_str_int _ | exact kit_list_int _ | exact kit_list_bool _ | exact kit_none_int _ | exact kit_none_list _ | exact kit_none_str _ | exact kit_none_tuple _ | exact kit_list_tuple _ | exact kit_tuple_list _ | exact kit_str_list _ | exact kit_int_str _ | exact kit_int_list _ | exact kit_bool_str _ | exact kit_bool_list _ | exact kit_int_tuple _ | exact kit_str_tuple _ | exact kit_bool_tuple _ | exact kit_tuple_int _ | exact kit_tuple_bool _ | exact kit_tuple_str _ | exact kit_list_str _ | exact kit_none_bool _)))
local macro_rules | `(tactic| walk_at "hp") => `(tactic| first | assumption | solve_by_elim (maxDepth := 16) only [*, ne_of_none])
local macro_rules | `(tactic| walk_at "rd0") => `(tactic| ((try dsimp only [cxOf]); (try simp only [L2.start, List.map_cons, List.map_nil, List.length_cons, List.length_nil, Nat.reduceAdd, Nat.reduceSub, List.replicate_zero, List.append_nil, List.cons_append, List.nil_append, List.replicate_succ]); (repeat walk_at "rd1")))
local macro_rules | `(tactic| walk_at "rd") => `(tactic| repeat walk_at "rd1")

namespace LW
open PySem L2 EM
def top (i : Nat) : Stmt := PySem.Challenge.pw_evernever_k24_cover.main.body.getD i (.Pass ⟨0, 0, 0, 0⟩)
abbrev s_least : Stmt := top 1
abbrev s_bar_of : Stmt := top 3
abbrev s_crowd_of : Stmt := top 4
abbrev s_asked_by : Stmt := top 5
abbrev s_without : Stmt := top 6
abbrev s_shut_out : Stmt := top 7
abbrev s_widest : Stmt := top 9
abbrev s_needed : Stmt := top 10
abbrev s_cover : Stmt := top 11
abbrev s__law_cell_at : Stmt := top 13
abbrev s__law_inside : Stmt := top 14
abbrev s__law_bars : Stmt := top 15
abbrev s__law_wide : Stmt := top 16
abbrev s__law_covers : Stmt := top 17
abbrev s__law_crowd_by : Stmt := top 18
abbrev s_law : Stmt := top 19
theorem sc_least : FnScope ["crowd"] ["crowd"] (defScope s_least) := ⟨rfl, rfl, rfl, by decide +kernel, rfl, by decide +kernel, by decide +kernel⟩
theorem sc_bar_of : FnScope ["many", "stand"] ["many", "stand"] (defScope s_bar_of) := ⟨rfl, rfl, rfl, by decide +kernel, rfl, by decide +kernel, by decide +kernel⟩
theorem sc_crowd_of : FnScope ["many", "bar", "crowd", "lamp", "lit"] ["many", "bar"] (defScope s_crowd_of) := ⟨rfl, rfl, rfl, by decide +kernel, rfl, by decide +kernel, by decide +kernel⟩
theorem sc_asked_by : FnScope ["bar"] ["bar"] (defScope s_asked_by) := ⟨rfl, rfl, rfl, by decide +kernel, rfl, by decide +kernel, by decide +kernel⟩
theorem sc_without : FnScope ["bar", "lamp", "others"] ["bar", "lamp"] (defScope s_without) := ⟨rfl, rfl, rfl, by decide +kernel, rfl, by decide +kernel, by decide +kernel⟩
theorem sc_shut_out : FnScope ["many", "bars", "crowd", "bar"] ["many", "bars"] (defScope s_shut_out) := ⟨rfl, rfl, rfl, by decide +kernel, rfl, by decide +kernel, by decide +kernel⟩
theorem sc_widest : FnScope ["many", "crowd", "bar", "found", "lamp", "wider"] ["many", "crowd", "bar"] (defScope s_widest) := ⟨rfl, rfl, rfl, by decide +kernel, rfl, by decide +kernel, by decide +kernel⟩
theorem sc_needed : FnScope ["many", "bars", "stay", "bar", "others"] ["many", "bars"] (defScope s_needed) := ⟨rfl, rfl, rfl, by decide +kernel, rfl, by decide +kernel, by decide +kernel⟩
theorem sc_cover : FnScope ["many", "crowd", "bars", "left", "bar"] ["many", "crowd"] (defScope s_cover) := ⟨rfl, rfl, rfl, by decide +kernel, rfl, by decide +kernel, by decide +kernel⟩
theorem sc__law_cell_at : FnScope ["_law_script", "_law_k"] ["_law_script", "_law_k"] (defScope s__law_cell_at) := ⟨rfl, rfl, rfl, by decide +kernel, rfl, by decide +kernel, by decide +kernel⟩
theorem sc__law_inside : FnScope ["_law_size", "_law_bar", "_law_inside_here", "_law_s"] ["_law_size", "_law_bar"] (defScope s__law_inside) := ⟨rfl, rfl, rfl, by decide +kernel, rfl, by decide +kernel, by decide +kernel⟩
theorem sc__law_bars : FnScope ["_law_found", "_law_size", "_law_bar", "_law_number", "_law_k"] ["_law_found", "_law_size"] (defScope s__law_bars) := ⟨rfl, rfl, rfl, by decide +kernel, rfl, by decide +kernel, by decide +kernel⟩
theorem sc__law_wide : FnScope ["_law_size", "_law_crowd", "_law_bar", "_law_k", "_law_wider"] ["_law_size", "_law_crowd", "_law_bar"] (defScope s__law_wide) := ⟨rfl, rfl, rfl, by decide +kernel, rfl, by decide +kernel, by decide +kernel⟩
theorem sc__law_covers : FnScope ["_law_found", "_law_size", "_law_crowd", "_law_insides", "_law_once", "_law_twice", "_law_inside_here", "_law_k"] ["_law_found", "_law_size", "_law_crowd"] (defScope s__law_covers) := ⟨rfl, rfl, rfl, by decide +kernel, rfl, by decide +kernel, by decide +kernel⟩
theorem sc__law_crowd_by : FnScope ["_law_script", "_law_size", "_law_first", "_law_cell", "_law_crowd", "_law_one", "_law_asked"] ["_law_script", "_law_size"] (defScope s__law_crowd_by) := ⟨rfl, rfl, rfl, by decide +kernel, rfl, by decide +kernel, by decide +kernel⟩
theorem sc_law : FnScope ["_law_script", "_law_many", "_law_size", "_law_crowd", "_law_found", "_law_other"] ["_law_script"] (defScope s_law) := ⟨rfl, rfl, rfl, by decide +kernel, rfl, by decide +kernel, by decide +kernel⟩
/-- the addresses of what the top has made -/
structure Ad where
  f_least : Addr
  d_least : FuncData
  f_bar_of : Addr
  d_bar_of : FuncData
  f_crowd_of : Addr
  d_crowd_of : FuncData
  f_asked_by : Addr
  d_asked_by : FuncData
  f_without : Addr
  d_without : FuncData
  f_shut_out : Addr
  d_shut_out : FuncData
  f_widest : Addr
  d_widest : FuncData
  f_needed : Addr
  d_needed : FuncData
  f_cover : Addr
  d_cover : FuncData
  f__law_cell_at : Addr
  d__law_cell_at : FuncData
  f__law_inside : Addr
  d__law_inside : FuncData
  f__law_bars : Addr
  d__law_bars : FuncData
  f__law_wide : Addr
  d__law_wide : FuncData
  f__law_covers : Addr
  d__law_covers : FuncData
  f__law_crowd_by : Addr
  d__law_crowd_by : FuncData
  f_law : Addr
  d_law : FuncData
/-- what the top has written -/
structure Txt (K : PySem.W.Frag) (mg : Str → Option Value) (t : Ad) : Prop where
  F_least : Fun K "least" "least" s_least t.f_least t.d_least
  b_least : Binds K t.d_least ["crowd"] []
  m_least : mg "least" = some (.ref t.f_least)
  F_bar_of : Fun K "bar_of" "bar_of" s_bar_of t.f_bar_of t.d_bar_of
  b_bar_of : Binds K t.d_bar_of ["many", "stand"] []
  m_bar_of : mg "bar_of" = some (.ref t.f_bar_of)
  F_crowd_of : Fun K "crowd_of" "crowd_of" s_crowd_of t.f_crowd_of t.d_crowd_of
  b_crowd_of : Binds K t.d_crowd_of ["many", "bar"] []
  m_crowd_of : mg "crowd_of" = some (.ref t.f_crowd_of)
  F_asked_by : Fun K "asked_by" "asked_by" s_asked_by t.f_asked_by t.d_asked_by
  b_asked_by : Binds K t.d_asked_by ["bar"] []
  m_asked_by : mg "asked_by" = some (.ref t.f_asked_by)
  F_without : Fun K "without" "without" s_without t.f_without t.d_without
  b_without : Binds K t.d_without ["bar", "lamp"] []
  m_without : mg "without" = some (.ref t.f_without)
  F_shut_out : Fun K "shut_out" "shut_out" s_shut_out t.f_shut_out t.d_shut_out
  b_shut_out : Binds K t.d_shut_out ["many", "bars"] []
  m_shut_out : mg "shut_out" = some (.ref t.f_shut_out)
  F_widest : Fun K "widest" "widest" s_widest t.f_widest t.d_widest
  b_widest : Binds K t.d_widest ["many", "crowd", "bar"] []
  m_widest : mg "widest" = some (.ref t.f_widest)
  F_needed : Fun K "needed" "needed" s_needed t.f_needed t.d_needed
  b_needed : Binds K t.d_needed ["many", "bars"] []
  m_needed : mg "needed" = some (.ref t.f_needed)
  F_cover : Fun K "cover" "cover" s_cover t.f_cover t.d_cover
  b_cover : Binds K t.d_cover ["many", "crowd"] []
  m_cover : mg "cover" = some (.ref t.f_cover)
  F__law_cell_at : Fun K "_law_cell_at" "_law_cell_at" s__law_cell_at t.f__law_cell_at t.d__law_cell_at
  b__law_cell_at : Binds K t.d__law_cell_at ["_law_script", "_law_k"] []
  m__law_cell_at : mg "_law_cell_at" = some (.ref t.f__law_cell_at)
  F__law_inside : Fun K "_law_inside" "_law_inside" s__law_inside t.f__law_inside t.d__law_inside
  b__law_inside : Binds K t.d__law_inside ["_law_size", "_law_bar"] []
  m__law_inside : mg "_law_inside" = some (.ref t.f__law_inside)
  F__law_bars : Fun K "_law_bars" "_law_bars" s__law_bars t.f__law_bars t.d__law_bars
  b__law_bars : Binds K t.d__law_bars ["_law_found", "_law_size"] []
  m__law_bars : mg "_law_bars" = some (.ref t.f__law_bars)
  F__law_wide : Fun K "_law_wide" "_law_wide" s__law_wide t.f__law_wide t.d__law_wide
  b__law_wide : Binds K t.d__law_wide ["_law_size", "_law_crowd", "_law_bar"] []
  m__law_wide : mg "_law_wide" = some (.ref t.f__law_wide)
  F__law_covers : Fun K "_law_covers" "_law_covers" s__law_covers t.f__law_covers t.d__law_covers
  b__law_covers : Binds K t.d__law_covers ["_law_found", "_law_size", "_law_crowd"] []
  m__law_covers : mg "_law_covers" = some (.ref t.f__law_covers)
  F__law_crowd_by : Fun K "_law_crowd_by" "_law_crowd_by" s__law_crowd_by t.f__law_crowd_by t.d__law_crowd_by
  b__law_crowd_by : Binds K t.d__law_crowd_by ["_law_script", "_law_size"] []
  m__law_crowd_by : mg "_law_crowd_by" = some (.ref t.f__law_crowd_by)
  F_law : Fun K "law" "law" s_law t.f_law t.d_law
  b_law : Binds K t.d_law ["_law_script"] []
  m_law : mg "law" = some (.ref t.f_law)
  bl : ∀ (s : Shared) (u : Value), BindsTo s t.d_law ⟨[u], []⟩ [("_law_script", u)]
  B : Bt mg
theorem txt_mk {K : PySem.W.Frag} {h : Heap} {mg : Str → Option Value} (X : K.In h) (G : h.Ns mainGlobals mg)
    {f_least : Addr} {od_least an_least : Option Addr} {sl_least : Array (Option Value)} {oc_least kV_least dc_least pm_least cd_least ct_least : Value}
    {f_bar_of : Addr} {od_bar_of an_bar_of : Option Addr} {sl_bar_of : Array (Option Value)} {oc_bar_of kV_bar_of dc_bar_of pm_bar_of cd_bar_of ct_bar_of : Value}
    {f_crowd_of : Addr} {od_crowd_of an_crowd_of : Option Addr} {sl_crowd_of : Array (Option Value)} {oc_crowd_of kV_crowd_of dc_crowd_of pm_crowd_of cd_crowd_of ct_crowd_of : Value}
    {f_asked_by : Addr} {od_asked_by an_asked_by : Option Addr} {sl_asked_by : Array (Option Value)} {oc_asked_by kV_asked_by dc_asked_by pm_asked_by cd_asked_by ct_asked_by : Value}
    {f_without : Addr} {od_without an_without : Option Addr} {sl_without : Array (Option Value)} {oc_without kV_without dc_without pm_without cd_without ct_without : Value}
    {f_shut_out : Addr} {od_shut_out an_shut_out : Option Addr} {sl_shut_out : Array (Option Value)} {oc_shut_out kV_shut_out dc_shut_out pm_shut_out cd_shut_out ct_shut_out : Value}
    {f_widest : Addr} {od_widest an_widest : Option Addr} {sl_widest : Array (Option Value)} {oc_widest kV_widest dc_widest pm_widest cd_widest ct_widest : Value}
    {f_needed : Addr} {od_needed an_needed : Option Addr} {sl_needed : Array (Option Value)} {oc_needed kV_needed dc_needed pm_needed cd_needed ct_needed : Value}
    {f_cover : Addr} {od_cover an_cover : Option Addr} {sl_cover : Array (Option Value)} {oc_cover kV_cover dc_cover pm_cover cd_cover ct_cover : Value}
    {f__law_cell_at : Addr} {od__law_cell_at an__law_cell_at : Option Addr} {sl__law_cell_at : Array (Option Value)} {oc__law_cell_at kV__law_cell_at dc__law_cell_at pm__law_cell_at cd__law_cell_at ct__law_cell_at : Value}
    {f__law_inside : Addr} {od__law_inside an__law_inside : Option Addr} {sl__law_inside : Array (Option Value)} {oc__law_inside kV__law_inside dc__law_inside pm__law_inside cd__law_inside ct__law_inside : Value}
    {f__law_bars : Addr} {od__law_bars an__law_bars : Option Addr} {sl__law_bars : Array (Option Value)} {oc__law_bars kV__law_bars dc__law_bars pm__law_bars cd__law_bars ct__law_bars : Value}
    {f__law_wide : Addr} {od__law_wide an__law_wide : Option Addr} {sl__law_wide : Array (Option Value)} {oc__law_wide kV__law_wide dc__law_wide pm__law_wide cd__law_wide ct__law_wide : Value}
    {f__law_covers : Addr} {od__law_covers an__law_covers : Option Addr} {sl__law_covers : Array (Option Value)} {oc__law_covers kV__law_covers dc__law_covers pm__law_covers cd__law_covers ct__law_covers : Value}
    {f__law_crowd_by : Addr} {od__law_crowd_by an__law_crowd_by : Option Addr} {sl__law_crowd_by : Array (Option Value)} {oc__law_crowd_by kV__law_crowd_by dc__law_crowd_by pm__law_crowd_by cd__law_crowd_by ct__law_crowd_by : Value}
    {f_law : Addr} {od_law an_law : Option Addr} {sl_law : Array (Option Value)} {oc_law kV_law dc_law pm_law cd_law ct_law : Value}
    (a_least : PySem.W.nsIn K mainGlobals "least" = some (some (.ref f_least)))
    (a_bar_of : PySem.W.nsIn K mainGlobals "bar_of" = some (some (.ref f_bar_of)))
    (a_crowd_of : PySem.W.nsIn K mainGlobals "crowd_of" = some (some (.ref f_crowd_of)))
    (a_asked_by : PySem.W.nsIn K mainGlobals "asked_by" = some (some (.ref f_asked_by)))
    (a_without : PySem.W.nsIn K mainGlobals "without" = some (some (.ref f_without)))
    (a_shut_out : PySem.W.nsIn K mainGlobals "shut_out" = some (some (.ref f_shut_out)))
    (a_widest : PySem.W.nsIn K mainGlobals "widest" = some (some (.ref f_widest)))
    (a_needed : PySem.W.nsIn K mainGlobals "needed" = some (some (.ref f_needed)))
    (a_cover : PySem.W.nsIn K mainGlobals "cover" = some (some (.ref f_cover)))
    (a__law_cell_at : PySem.W.nsIn K mainGlobals "_law_cell_at" = some (some (.ref f__law_cell_at)))
    (a__law_inside : PySem.W.nsIn K mainGlobals "_law_inside" = some (some (.ref f__law_inside)))
    (a__law_bars : PySem.W.nsIn K mainGlobals "_law_bars" = some (some (.ref f__law_bars)))
    (a__law_wide : PySem.W.nsIn K mainGlobals "_law_wide" = some (some (.ref f__law_wide)))
    (a__law_covers : PySem.W.nsIn K mainGlobals "_law_covers" = some (some (.ref f__law_covers)))
    (a__law_crowd_by : PySem.W.nsIn K mainGlobals "_law_crowd_by" = some (some (.ref f__law_crowd_by)))
    (a_law : PySem.W.nsIn K mainGlobals "law" = some (some (.ref f_law)))
    (l_least : K.lookup f_least = some ⟨oc_least, od_least, .func (PySem.W.fnOf "least" "least" (defArgs s_least) (defBody s_least) (defScope s_least) .none kV_least dc_least pm_least an_least cd_least ct_least), sl_least⟩)
    (c_least : PySem.W.codeIn K cd_least "least" = true)
    (k_least : PySem.W.keepIn K (.ref f_least) = true)
    (l_bar_of : K.lookup f_bar_of = some ⟨oc_bar_of, od_bar_of, .func (PySem.W.fnOf "bar_of" "bar_of" (defArgs s_bar_of) (defBody s_bar_of) (defScope s_bar_of) .none kV_bar_of dc_bar_of pm_bar_of an_bar_of cd_bar_of ct_bar_of), sl_bar_of⟩)
    (c_bar_of : PySem.W.codeIn K cd_bar_of "bar_of" = true)
    (k_bar_of : PySem.W.keepIn K (.ref f_bar_of) = true)
    (l_crowd_of : K.lookup f_crowd_of = some ⟨oc_crowd_of, od_crowd_of, .func (PySem.W.fnOf "crowd_of" "crowd_of" (defArgs s_crowd_of) (defBody s_crowd_of) (defScope s_crowd_of) .none kV_crowd_of dc_crowd_of pm_crowd_of an_crowd_of cd_crowd_of ct_crowd_of), sl_crowd_of⟩)
    (c_crowd_of : PySem.W.codeIn K cd_crowd_of "crowd_of" = true)
    (k_crowd_of : PySem.W.keepIn K (.ref f_crowd_of) = true)
    (l_asked_by : K.lookup f_asked_by = some ⟨oc_asked_by, od_asked_by, .func (PySem.W.fnOf "asked_by" "asked_by" (defArgs s_asked_by) (defBody s_asked_by) (defScope s_asked_by) .none kV_asked_by dc_asked_by pm_asked_by an_asked_by cd_asked_by ct_asked_by), sl_asked_by⟩)
    (c_asked_by : PySem.W.codeIn K cd_asked_by "asked_by" = true)
    (k_asked_by : PySem.W.keepIn K (.ref f_asked_by) = true)
    (l_without : K.lookup f_without = some ⟨oc_without, od_without, .func (PySem.W.fnOf "without" "without" (defArgs s_without) (defBody s_without) (defScope s_without) .none kV_without dc_without pm_without an_without cd_without ct_without), sl_without⟩)
    (c_without : PySem.W.codeIn K cd_without "without" = true)
    (k_without : PySem.W.keepIn K (.ref f_without) = true)
    (l_shut_out : K.lookup f_shut_out = some ⟨oc_shut_out, od_shut_out, .func (PySem.W.fnOf "shut_out" "shut_out" (defArgs s_shut_out) (defBody s_shut_out) (defScope s_shut_out) .none kV_shut_out dc_shut_out pm_shut_out an_shut_out cd_shut_out ct_shut_out), sl_shut_out⟩)
    (c_shut_out : PySem.W.codeIn K cd_shut_out "shut_out" = true)
    (k_shut_out : PySem.W.keepIn K (.ref f_shut_out) = true)
    (l_widest : K.lookup f_widest = some ⟨oc_widest, od_widest, .func (PySem.W.fnOf "widest" "widest" (defArgs s_widest) (defBody s_widest) (defScope s_widest) .none kV_widest dc_widest pm_widest an_widest cd_widest ct_widest), sl_widest⟩)
    (c_widest : PySem.W.codeIn K cd_widest "widest" = true)
    (k_widest : PySem.W.keepIn K (.ref f_widest) = true)
    (l_needed : K.lookup f_needed = some ⟨oc_needed, od_needed, .func (PySem.W.fnOf "needed" "needed" (defArgs s_needed) (defBody s_needed) (defScope s_needed) .none kV_needed dc_needed pm_needed an_needed cd_needed ct_needed), sl_needed⟩)
    (c_needed : PySem.W.codeIn K cd_needed "needed" = true)
    (k_needed : PySem.W.keepIn K (.ref f_needed) = true)
    (l_cover : K.lookup f_cover = some ⟨oc_cover, od_cover, .func (PySem.W.fnOf "cover" "cover" (defArgs s_cover) (defBody s_cover) (defScope s_cover) .none kV_cover dc_cover pm_cover an_cover cd_cover ct_cover), sl_cover⟩)
    (c_cover : PySem.W.codeIn K cd_cover "cover" = true)
    (k_cover : PySem.W.keepIn K (.ref f_cover) = true)
    (l__law_cell_at : K.lookup f__law_cell_at = some ⟨oc__law_cell_at, od__law_cell_at, .func (PySem.W.fnOf "_law_cell_at" "_law_cell_at" (defArgs s__law_cell_at) (defBody s__law_cell_at) (defScope s__law_cell_at) .none kV__law_cell_at dc__law_cell_at pm__law_cell_at an__law_cell_at cd__law_cell_at ct__law_cell_at), sl__law_cell_at⟩)
    (c__law_cell_at : PySem.W.codeIn K cd__law_cell_at "_law_cell_at" = true)
    (k__law_cell_at : PySem.W.keepIn K (.ref f__law_cell_at) = true)
    (l__law_inside : K.lookup f__law_inside = some ⟨oc__law_inside, od__law_inside, .func (PySem.W.fnOf "_law_inside" "_law_inside" (defArgs s__law_inside) (defBody s__law_inside) (defScope s__law_inside) .none kV__law_inside dc__law_inside pm__law_inside an__law_inside cd__law_inside ct__law_inside), sl__law_inside⟩)
    (c__law_inside : PySem.W.codeIn K cd__law_inside "_law_inside" = true)
    (k__law_inside : PySem.W.keepIn K (.ref f__law_inside) = true)
    (l__law_bars : K.lookup f__law_bars = some ⟨oc__law_bars, od__law_bars, .func (PySem.W.fnOf "_law_bars" "_law_bars" (defArgs s__law_bars) (defBody s__law_bars) (defScope s__law_bars) .none kV__law_bars dc__law_bars pm__law_bars an__law_bars cd__law_bars ct__law_bars), sl__law_bars⟩)
    (c__law_bars : PySem.W.codeIn K cd__law_bars "_law_bars" = true)
    (k__law_bars : PySem.W.keepIn K (.ref f__law_bars) = true)
    (l__law_wide : K.lookup f__law_wide = some ⟨oc__law_wide, od__law_wide, .func (PySem.W.fnOf "_law_wide" "_law_wide" (defArgs s__law_wide) (defBody s__law_wide) (defScope s__law_wide) .none kV__law_wide dc__law_wide pm__law_wide an__law_wide cd__law_wide ct__law_wide), sl__law_wide⟩)
    (c__law_wide : PySem.W.codeIn K cd__law_wide "_law_wide" = true)
    (k__law_wide : PySem.W.keepIn K (.ref f__law_wide) = true)
    (l__law_covers : K.lookup f__law_covers = some ⟨oc__law_covers, od__law_covers, .func (PySem.W.fnOf "_law_covers" "_law_covers" (defArgs s__law_covers) (defBody s__law_covers) (defScope s__law_covers) .none kV__law_covers dc__law_covers pm__law_covers an__law_covers cd__law_covers ct__law_covers), sl__law_covers⟩)
    (c__law_covers : PySem.W.codeIn K cd__law_covers "_law_covers" = true)
    (k__law_covers : PySem.W.keepIn K (.ref f__law_covers) = true)
    (l__law_crowd_by : K.lookup f__law_crowd_by = some ⟨oc__law_crowd_by, od__law_crowd_by, .func (PySem.W.fnOf "_law_crowd_by" "_law_crowd_by" (defArgs s__law_crowd_by) (defBody s__law_crowd_by) (defScope s__law_crowd_by) .none kV__law_crowd_by dc__law_crowd_by pm__law_crowd_by an__law_crowd_by cd__law_crowd_by ct__law_crowd_by), sl__law_crowd_by⟩)
    (c__law_crowd_by : PySem.W.codeIn K cd__law_crowd_by "_law_crowd_by" = true)
    (k__law_crowd_by : PySem.W.keepIn K (.ref f__law_crowd_by) = true)
    (l_law : K.lookup f_law = some ⟨oc_law, od_law, .func (PySem.W.fnOf "law" "law" (defArgs s_law) (defBody s_law) (defScope s_law) .none kV_law dc_law pm_law an_law cd_law ct_law), sl_law⟩)
    (c_law : PySem.W.codeIn K cd_law "law" = true)
    (k_law : PySem.W.keepIn K (.ref f_law) = true)
    (hn_ : PySem.W.specialIn K (.builtin "object.__class__") "__get__" = some (some (.builtin "getset_descriptor.__get__")))
    (htk_ : PySem.W.takesIn K (.builtin "object.__class__") = some true)
    (b_len : PySem.W.nsIn K mainGlobals "len" = some none)
    (b_range : PySem.W.nsIn K mainGlobals "range" = some none)
    (b_isinstance : PySem.W.nsIn K mainGlobals "isinstance" = some none)
    (b_int : PySem.W.nsIn K mainGlobals "int" = some none)
    (b_bool : PySem.W.nsIn K mainGlobals "bool" = some none)
    (b_str : PySem.W.nsIn K mainGlobals "str" = some none)
    (b_list : PySem.W.nsIn K mainGlobals "list" = some none)
    (b_tuple : PySem.W.nsIn K mainGlobals "tuple" = some none)
    (b_dict : PySem.W.nsIn K mainGlobals "dict" = some none)
    (b_set : PySem.W.nsIn K mainGlobals "set" = some none)
    (b_sorted : PySem.W.nsIn K mainGlobals "sorted" = some none)
    (b_max : PySem.W.nsIn K mainGlobals "max" = some none)
    (b_min : PySem.W.nsIn K mainGlobals "min" = some none)
    (b_sum : PySem.W.nsIn K mainGlobals "sum" = some none)
    (b_any : PySem.W.nsIn K mainGlobals "any" = some none)
    (b_all : PySem.W.nsIn K mainGlobals "all" = some none)
    (b_abs : PySem.W.nsIn K mainGlobals "abs" = some none)
    (b_reversed : PySem.W.nsIn K mainGlobals "reversed" = some none)
    (b_enumerate : PySem.W.nsIn K mainGlobals "enumerate" = some none)
    (b_zip : PySem.W.nsIn K mainGlobals "zip" = some none)
    : ∃ t : Ad, Txt K mg t := by
  refine ⟨⟨f_least, PySem.W.fnOf "least" "least" (defArgs s_least) (defBody s_least) (defScope s_least) .none kV_least dc_least pm_least an_least cd_least ct_least, f_bar_of, PySem.W.fnOf "bar_of" "bar_of" (defArgs s_bar_of) (defBody s_bar_of) (defScope s_bar_of) .none kV_bar_of dc_bar_of pm_bar_of an_bar_of cd_bar_of ct_bar_of, f_crowd_of, PySem.W.fnOf "crowd_of" "crowd_of" (defArgs s_crowd_of) (defBody s_crowd_of) (defScope s_crowd_of) .none kV_crowd_of dc_crowd_of pm_crowd_of an_crowd_of cd_crowd_of ct_crowd_of, f_asked_by, PySem.W.fnOf "asked_by" "asked_by" (defArgs s_asked_by) (defBody s_asked_by) (defScope s_asked_by) .none kV_asked_by dc_asked_by pm_asked_by an_asked_by cd_asked_by ct_asked_by, f_without, PySem.W.fnOf "without" "without" (defArgs s_without) (defBody s_without) (defScope s_without) .none kV_without dc_without pm_without an_without cd_without ct_without, f_shut_out, PySem.W.fnOf "shut_out" "shut_out" (defArgs s_shut_out) (defBody s_shut_out) (defScope s_shut_out) .none kV_shut_out dc_shut_out pm_shut_out an_shut_out cd_shut_out ct_shut_out, f_widest, PySem.W.fnOf "widest" "widest" (defArgs s_widest) (defBody s_widest) (defScope s_widest) .none kV_widest dc_widest pm_widest an_widest cd_widest ct_widest, f_needed, PySem.W.fnOf "needed" "needed" (defArgs s_needed) (defBody s_needed) (defScope s_needed) .none kV_needed dc_needed pm_needed an_needed cd_needed ct_needed, f_cover, PySem.W.fnOf "cover" "cover" (defArgs s_cover) (defBody s_cover) (defScope s_cover) .none kV_cover dc_cover pm_cover an_cover cd_cover ct_cover, f__law_cell_at, PySem.W.fnOf "_law_cell_at" "_law_cell_at" (defArgs s__law_cell_at) (defBody s__law_cell_at) (defScope s__law_cell_at) .none kV__law_cell_at dc__law_cell_at pm__law_cell_at an__law_cell_at cd__law_cell_at ct__law_cell_at, f__law_inside, PySem.W.fnOf "_law_inside" "_law_inside" (defArgs s__law_inside) (defBody s__law_inside) (defScope s__law_inside) .none kV__law_inside dc__law_inside pm__law_inside an__law_inside cd__law_inside ct__law_inside, f__law_bars, PySem.W.fnOf "_law_bars" "_law_bars" (defArgs s__law_bars) (defBody s__law_bars) (defScope s__law_bars) .none kV__law_bars dc__law_bars pm__law_bars an__law_bars cd__law_bars ct__law_bars, f__law_wide, PySem.W.fnOf "_law_wide" "_law_wide" (defArgs s__law_wide) (defBody s__law_wide) (defScope s__law_wide) .none kV__law_wide dc__law_wide pm__law_wide an__law_wide cd__law_wide ct__law_wide, f__law_covers, PySem.W.fnOf "_law_covers" "_law_covers" (defArgs s__law_covers) (defBody s__law_covers) (defScope s__law_covers) .none kV__law_covers dc__law_covers pm__law_covers an__law_covers cd__law_covers ct__law_covers, f__law_crowd_by, PySem.W.fnOf "_law_crowd_by" "_law_crowd_by" (defArgs s__law_crowd_by) (defBody s__law_crowd_by) (defScope s__law_crowd_by) .none kV__law_crowd_by dc__law_crowd_by pm__law_crowd_by an__law_crowd_by cd__law_crowd_by ct__law_crowd_by, f_law, PySem.W.fnOf "law" "law" (defArgs s_law) (defBody s_law) (defScope s_law) .none kV_law dc_law pm_law an_law cd_law ct_law⟩, ?_⟩
  exact {
    F_least := fun_mk (st := s_least) l_least c_least k_least,
    b_least := (fun_mk (st := s_least) l_least c_least k_least).binds (ps := ["crowd"]) fun _ _ _ _ _ _ us hl => match us, hl with | [_], _ => rfl,
    m_least := PySem.W.mg_of X G a_least,
    F_bar_of := fun_mk (st := s_bar_of) l_bar_of c_bar_of k_bar_of,
    b_bar_of := (fun_mk (st := s_bar_of) l_bar_of c_bar_of k_bar_of).binds (ps := ["many", "stand"]) fun _ _ _ _ _ _ us hl => match us, hl with | [_, _], _ => rfl,
    m_bar_of := PySem.W.mg_of X G a_bar_of,
    F_crowd_of := fun_mk (st := s_crowd_of) l_crowd_of c_crowd_of k_crowd_of,
    b_crowd_of := (fun_mk (st := s_crowd_of) l_crowd_of c_crowd_of k_crowd_of).binds (ps := ["many", "bar"]) fun _ _ _ _ _ _ us hl => match us, hl with | [_, _], _ => rfl,
    m_crowd_of := PySem.W.mg_of X G a_crowd_of,
    F_asked_by := fun_mk (st := s_asked_by) l_asked_by c_asked_by k_asked_by,
    b_asked_by := (fun_mk (st := s_asked_by) l_asked_by c_asked_by k_asked_by).binds (ps := ["bar"]) fun _ _ _ _ _ _ us hl => match us, hl with | [_], _ => rfl,
    m_asked_by := PySem.W.mg_of X G a_asked_by,
    F_without := fun_mk (st := s_without) l_without c_without k_without,
    b_without := (fun_mk (st := s_without) l_without c_without k_without).binds (ps := ["bar", "lamp"]) fun _ _ _ _ _ _ us hl => match us, hl with | [_, _], _ => rfl,
    m_without := PySem.W.mg_of X G a_without,
    F_shut_out := fun_mk (st := s_shut_out) l_shut_out c_shut_out k_shut_out,
    b_shut_out := (fun_mk (st := s_shut_out) l_shut_out c_shut_out k_shut_out).binds (ps := ["many", "bars"]) fun _ _ _ _ _ _ us hl => match us, hl with | [_, _], _ => rfl,
    m_shut_out := PySem.W.mg_of X G a_shut_out,
    F_widest := fun_mk (st := s_widest) l_widest c_widest k_widest,
    b_widest := (fun_mk (st := s_widest) l_widest c_widest k_widest).binds (ps := ["many", "crowd", "bar"]) fun _ _ _ _ _ _ us hl => match us, hl with | [_, _, _], _ => rfl,
    m_widest := PySem.W.mg_of X G a_widest,
    F_needed := fun_mk (st := s_needed) l_needed c_needed k_needed,
    b_needed := (fun_mk (st := s_needed) l_needed c_needed k_needed).binds (ps := ["many", "bars"]) fun _ _ _ _ _ _ us hl => match us, hl with | [_, _], _ => rfl,
    m_needed := PySem.W.mg_of X G a_needed,
    F_cover := fun_mk (st := s_cover) l_cover c_cover k_cover,
    b_cover := (fun_mk (st := s_cover) l_cover c_cover k_cover).binds (ps := ["many", "crowd"]) fun _ _ _ _ _ _ us hl => match us, hl with | [_, _], _ => rfl,
    m_cover := PySem.W.mg_of X G a_cover,
    F__law_cell_at := fun_mk (st := s__law_cell_at) l__law_cell_at c__law_cell_at k__law_cell_at,
    b__law_cell_at := (fun_mk (st := s__law_cell_at) l__law_cell_at c__law_cell_at k__law_cell_at).binds (ps := ["_law_script", "_law_k"]) fun _ _ _ _ _ _ us hl => match us, hl with | [_, _], _ => rfl,
    m__law_cell_at := PySem.W.mg_of X G a__law_cell_at,
    F__law_inside := fun_mk (st := s__law_inside) l__law_inside c__law_inside k__law_inside,
    b__law_inside := (fun_mk (st := s__law_inside) l__law_inside c__law_inside k__law_inside).binds (ps := ["_law_size", "_law_bar"]) fun _ _ _ _ _ _ us hl => match us, hl with | [_, _], _ => rfl,
    m__law_inside := PySem.W.mg_of X G a__law_inside,
    F__law_bars := fun_mk (st := s__law_bars) l__law_bars c__law_bars k__law_bars,
    b__law_bars := (fun_mk (st := s__law_bars) l__law_bars c__law_bars k__law_bars).binds (ps := ["_law_found", "_law_size"]) fun _ _ _ _ _ _ us hl => match us, hl with | [_, _], _ => rfl,
    m__law_bars := PySem.W.mg_of X G a__law_bars,
    F__law_wide := fun_mk (st := s__law_wide) l__law_wide c__law_wide k__law_wide,
    b__law_wide := (fun_mk (st := s__law_wide) l__law_wide c__law_wide k__law_wide).binds (ps := ["_law_size", "_law_crowd", "_law_bar"]) fun _ _ _ _ _ _ us hl => match us, hl with | [_, _, _], _ => rfl,
    m__law_wide := PySem.W.mg_of X G a__law_wide,
    F__law_covers := fun_mk (st := s__law_covers) l__law_covers c__law_covers k__law_covers,
    b__law_covers := (fun_mk (st := s__law_covers) l__law_covers c__law_covers k__law_covers).binds (ps := ["_law_found", "_law_size", "_law_crowd"]) fun _ _ _ _ _ _ us hl => match us, hl with | [_, _, _], _ => rfl,
    m__law_covers := PySem.W.mg_of X G a__law_covers,
    F__law_crowd_by := fun_mk (st := s__law_crowd_by) l__law_crowd_by c__law_crowd_by k__law_crowd_by,
    b__law_crowd_by := (fun_mk (st := s__law_crowd_by) l__law_crowd_by c__law_crowd_by k__law_crowd_by).binds (ps := ["_law_script", "_law_size"]) fun _ _ _ _ _ _ us hl => match us, hl with | [_, _], _ => rfl,
    m__law_crowd_by := PySem.W.mg_of X G a__law_crowd_by,
    F_law := fun_mk (st := s_law) l_law c_law k_law,
    b_law := (fun_mk (st := s_law) l_law c_law k_law).binds (ps := ["_law_script"]) fun _ _ _ _ _ _ us hl => match us, hl with | [_], _ => rfl,
    m_law := PySem.W.mg_of X G a_law,
    bl := fun s u => .of_eq rfl,
    B := ⟨PySem.W.mg_none_of X G b_len, PySem.W.mg_none_of X G b_range, PySem.W.mg_none_of X G b_isinstance, PySem.W.mg_none_of X G b_int, PySem.W.mg_none_of X G b_bool, PySem.W.mg_none_of X G b_str, PySem.W.mg_none_of X G b_list, PySem.W.mg_none_of X G b_tuple, PySem.W.mg_none_of X G b_dict, PySem.W.mg_none_of X G b_set, PySem.W.mg_none_of X G b_sorted, PySem.W.mg_none_of X G b_max, PySem.W.mg_none_of X G b_min, PySem.W.mg_none_of X G b_sum, PySem.W.mg_none_of X G b_any, PySem.W.mg_none_of X G b_all, PySem.W.mg_none_of X G b_abs, PySem.W.mg_none_of X G b_reversed, PySem.W.mg_none_of X G b_enumerate, PySem.W.mg_none_of X G b_zip⟩ }
-- ROOM 10
-- GEA
theorem and_nat (x y : Nat) : Builtin.bitAnd (x : Int) (y : Int) = ((x &&& y : Nat) : Int) := by simp [Builtin.bitAnd]
theorem not_not (x : Int) : Builtin.bitNot (Builtin.bitNot x) = x := by unfold Builtin.bitNot; omega
theorem or_nat (x y : Nat) : Builtin.bitOr (x : Int) (y : Int) = ((x ||| y : Nat) : Int) := by
  show Builtin.bitNot (Builtin.bitAnd (Builtin.bitNot x) (Builtin.bitNot y)) = _
  rw [PyProof.Rows.bitAnd_nn (by unfold Builtin.bitNot; omega) (by unfold Builtin.bitNot; omega), not_not, not_not, not_not]
  simp
theorem xor_nat (x y : Nat) : Builtin.bitXor (x : Int) (y : Int) = ((x ^^^ y : Nat) : Int) := by
  show Builtin.bitOr x y - Builtin.bitAnd x y = _
  rw [or_nat, and_nat, or_split (x + 1) x y (by omega)]
  omega

/-! ### what every law has: its promise, a cell of the script -/
def cell (ns : List Int) (k : Nat) : Int := ns.getD k 0
def spLaw (K : PySem.W.Frag) : Sp := fun vs H Q _ => ∃ (a : Addr) (ns : List Int), vs = [.ref a] ∧ SqL K H a (ns.map V.int) ∧ ns.length ≤ 63 ∧ Only H ∧ ∀ H', Q (.bl true) H'
def spCell (K : PySem.W.Frag) : Sp := fun vs H Q _ => ∃ (a : Addr) (ns : List Int) (k : Nat), vs = [.ref a, .int (k : Int)] ∧ SqL K H a (ns.map V.int) ∧ Q (.int (cell ns k)) H
section
variable {P : Program} {w : World} {K : PySem.W.Frag} {mg : Str → Option Value} {base : Heap} {t : Ad}
theorem ok_cell_at (T : Txt K mg t) : FnS P w K mg base 1 "_law_cell_at" ["_law_script", "_law_k"] (spCell K) := by
  refine ⟨_, _, T.F__law_cell_at.ok sc__law_cell_at (fun vs H Q E h => ?_) (fun cdv A outer s H vs Q E hr h => ?_), T.b__law_cell_at, T.F__law_cell_at.kp, T.m__law_cell_at⟩
  · obtain ⟨a, ns, k, rfl, _⟩ := h
    rfl
  · obtain ⟨a, ns, k, rfl, hS, q⟩ := h
    refine ⟨_, (pss_cons (ps_if (pt_cmpR op_lt (pv 1) (pe_callB call_lenG rfl T.B.len bt_len (pa_cons (pv 0) pa_nil)) (nomark _))
      (pss_one (ps_ret (pe_ix ix_seq (pv 0) (pv 1) (fun _ _ => rfl))))
      pss_nil)
      (pss_one (ps_ret pe_int))), ?_⟩
    walk_at "rd0"
    refine i_ifd (fun h => ?_) (fun h => ?_)
    · rw [List.length_map] at h
      have hk : k < ns.length := by omega
      walk_at "rd"
      refine i_ixS (j := k) (v := .int (cell ns k)) hS ?_ q
      rw [List.getElem?_map, List.getElem?_eq_getElem hk]
      simp [cell, List.getD_eq_getElem?_getD, List.getElem?_eq_getElem hk]
    · rw [List.length_map] at h
      walk_at "rd"
      have e : cell ns k = 0 := by
        simp only [cell, List.getD_eq_getElem?_getD]
        rw [List.getElem?_eq_none (by omega)]
        rfl
      rw [e] at q
      exact q
end

theorem paired_imp {α β : Type} {F G : α → β → Prop} (h : ∀ a b, F a b → G a b) : ∀ {xs : List α} {ys : List β}, Paired F xs ys → Paired G xs ys
  | _, _, .nil => .nil
  | _, _, .cons r s => .cons (h _ _ r) (paired_imp h s)
theorem paired_get {α β : Type} {F : α → β → Prop} : ∀ {xs : List α} {ys : List β} {i : Nat} {x : α}, Paired F xs ys → xs[i]? = some x → ∃ y, ys[i]? = some y ∧ F x y
  | _, _, _, _, .nil, e => by simp at e
  | _, _, 0, _, .cons r _, e => by simp at e; subst e; exact ⟨_, rfl, r⟩
  | _, _, i + 1, x, .cons _ s, e => by
    obtain ⟨u, h1, h2⟩ := paired_get (i := i) (x := x) s (by simpa using e)
    exact ⟨u, by simpa using h1, h2⟩
theorem paired_append {α β : Type} {F : α → β → Prop} : ∀ {xs xs' : List α} {ys ys' : List β}, Paired F xs ys → Paired F xs' ys' → Paired F (xs ++ xs') (ys ++ ys')
  | _, _, _, _, .nil, s => s
  | _, _, _, _, .cons r q, s => .cons r (paired_append q s)
theorem paired_take {α β : Type} {F : α → β → Prop} : ∀ {xs : List α} {ys : List β} (n : Nat), Paired F xs ys → Paired F (xs.take n) (ys.take n)
  | _, _, 0, _ => by rw [List.take_zero, List.take_zero]; exact .nil
  | _, _, _ + 1, .nil => by rw [List.take_nil, List.take_nil]; exact .nil
  | _, _, n + 1, .cons r q => by rw [List.take_succ_cons, List.take_succ_cons]; exact .cons r (paired_take n q)
theorem paired_len {α β : Type} {F : α → β → Prop} {xs : List α} {ys : List β} (h : Paired F xs ys) : xs.length = ys.length := Paired.length h
theorem get_ref {ps : List Addr} {i : Nat} {x : V} (h : (ps.map V.ref)[i]? = some x) : ∃ p, x = V.ref p ∧ ps[i]? = some p := by
  rw [List.getElem?_map] at h
  cases e : ps[i]? with
  | none => rw [e] at h; cases h
  | some p => rw [e] at h; exact ⟨p, (Option.some.inj h).symm, rfl⟩
theorem take_snoc {α : Type} {l : List α} {i : Nat} {x : α} (h : l[i]? = some x) : l.take (i + 1) = l.take i ++ [x] := by
  rw [List.take_add_one, h]; rfl

/-! ### bars in the heap -/
def BarAt (H : Hp) (p : Addr) (b : Bar) : Prop := H p = some (.tup [.int (b.1 : Int), .int (b.2 : Int)])
def ib (b : Bar) : Int × Int := ((b.1 : Int), (b.2 : Int))
theorem pairs_of {H : Hp} : ∀ {ps : List Addr} {bs : List Bar}, Paired (BarAt H) ps bs → Paired (PairAt H) ps (bs.map ib)
  | _, _, .nil => .nil
  | _, _, .cons r q => .cons r (pairs_of q)
theorem bar_ext {H H' : Hp} {ps : List Addr} {bs : List Bar} (s : Ext H H') (h : Paired (BarAt H) ps bs) : Paired (BarAt H') ps bs := paired_imp (fun p b q => s p (.tup [.int (b.1 : Int), .int (b.2 : Int)]) q (fun _ z => nomatch z)) h
theorem lit_val (s k : Nat) : Builtin.bitAnd ((s : Int) / 2 ^ ((k : Int)).toNat) 1 = if s.testBit k = true then 1 else 0 := by
  have e : ((s : Int) / 2 ^ ((k : Int)).toNat) = ((s / 2 ^ k : Nat) : Int) := by simp
  rw [e, show (1 : Int) = ((1 : Nat) : Int) from rfl, and_nat, Nat.and_one_is_mod, lit_iff]
  by_cases h : s / 2 ^ k % 2 = 1
  · rw [decide_eq_true h, if_pos rfl, h]
  · rw [decide_eq_false h, if_neg Bool.false_ne_true]
    have : s / 2 ^ k % 2 = 0 := by omega
    rw [this]; rfl
theorem lit_eq (s k : Nat) : decide (Builtin.bitAnd ((s : Int) / 2 ^ ((k : Int)).toNat) 1 = 1) = s.testBit k := by
  rw [lit_val]
  cases s.testBit k <;> rfl
theorem get_range {n i : Nat} {lo : Int} {x : V} (h : ((List.range n).map fun i : Nat => V.int (lo + (i : Int)))[i]? = some x) : i < n ∧ x = .int (lo + (i : Int)) := by
  rw [List.getElem?_map] at h
  by_cases hi : i < n
  · rw [List.getElem?_range hi] at h
    exact ⟨hi, (Option.some.inj h).symm⟩
  · rw [List.getElem?_eq_none (by rw [List.length_range]; omega)] at h
    cases h
theorem pow_small {m : Nat} (h : m ≤ 6) : (2 : Nat) ^ m ≤ 64 := Nat.le_trans (Nat.pow_le_pow_right (by decide) h) (by decide)
theorem shl_nat (m : Nat) : (1 : Int) * 2 ^ ((m : Int)).toNat = ((2 ^ m : Nat) : Int) := by
  simp
theorem or_one {f : Nat → Bool} {n : Nat} (h : f n = true) : Builtin.bitOr ((bits f n : Nat) : Int) (1 * 2 ^ ((n : Int)).toNat) = ((bits f (n + 1) : Nat) : Int) := by
  rw [shl_nat, or_nat, bits_or_one f n h]
theorem andnot_nat (x y : Nat) : Builtin.bitAnd (x : Int) (Builtin.bitNot (y : Int)) = ((x - (x &&& y) : Nat) : Int) := by
  rw [PyProof.Rows.bitAnd_not, and_nat]
  have := Nat.and_le_left (n := x) (m := y)
  omega
theorem cut_last (xs : List V) : cutV xs none (some (-1)) = xs.dropLast := by
  by_cases h : xs = []
  · subst h; rfl
  · obtain ⟨r, x, rfl⟩ := snoc_of h
    rw [cut_init, List.dropLast_concat]
theorem paired_dropLast {α β : Type} {F : α → β → Prop} {xs : List α} {ys : List β} (h : Paired F xs ys) : Paired F xs.dropLast ys.dropLast := by
  rw [List.dropLast_eq_take, List.dropLast_eq_take, ← paired_len h]
  exact paired_take _ h
def nums (l : List Nat) : List Int := l.map fun k : Nat => (k : Int)
theorem nums_inj {a b : List Nat} (h : nums a = nums b) : a = b := List.map_inj_right (f := fun k : Nat => (k : Int)) (fun x y h => Int.ofNat.inj h) |>.mp h
/-- [s for s in range(n) if p s] -/
theorem comp_range {ix : List Nat} {tc : TT} {te : TE} {σ : St} {H : Hp} {Q : VK} {n : Nat} (p : Nat → Bool) (hz : n ≤ 1000000)
    (ht : ∀ (i : Nat) (H' : Hp), i < n → Same H H' → ∀ R : Bool → Hp → Prop, (∀ H2, Same H' H2 → R (p i) H2) → tc (some (.int (i : Int)) :: subS σ ix) H' R)
    (he : ∀ (i : Nat) (H' : Hp), i < n → Same H H' → ∀ R2 : V → Hp → Prop, (∀ H3, Same H' H3 → R2 (.int (i : Int)) H3) → te (some (.int (i : Int)) :: subS σ ix) H' R2)
    (hd : ∀ (acc : Addr) (H' : Hp), H acc = none → Same H H' → H' acc = some (.lst ((nums ((List.range n).filter p)).map V.int)) → Q (.ref acc) H') : CompG (Itr 0 n) ix tc te σ Q H := by
  refine comp_by (fun i ys => ys = (nums ((List.range i).filter p)).map V.int) (wk_range 0 n H) (by rw [List.length_map, List.length_range]; exact hz) rfl ?_ ?_
  · intro i x ys acc H' hx s1 hacc ea hy _ R k
    obtain ⟨hi, rfl⟩ := get_range hx
    rw [Int.zero_add]
    rw [Int.zero_add] at k
    refine ht i H' hi s1 R fun H2 s2 => k (p i) H2 s2 (fun z => ?_) fun z R2 k2 => ?_
    · rw [filter_succ, z, if_neg Bool.false_ne_true, List.append_nil]; exact hy
    · refine he i H2 hi (s1.trans s2) R2 fun H3 s3 => k2 _ H3 s3 ?_
      rw [filter_succ, z, if_pos rfl, hy]
      unfold nums
      rw [List.map_append, List.map_append]
      rfl
  · intro acc ys H' n1 s1 e1 hy
    rw [List.length_map, List.length_range] at hy
    subst hy
    exact hd acc H' n1 s1 e1

/-! ### the least stand of a crowd -/
theorem odd_split : ∀ c : Nat, 0 < c → ∃ k q, c = 2 ^ k * (2 * q + 1) := fun c => by
  induction c using Nat.strongRecOn with
  | _ c ih =>
    intro h
    by_cases e : c % 2 = 1
    · exact ⟨0, c / 2, by omega⟩
    · obtain ⟨k, q, hk⟩ := ih (c / 2) (by omega) (by omega)
      refine ⟨k + 1, q, ?_⟩
      have : c = 2 * (c / 2) := by omega
      rw [this, hk, Nat.pow_succ, Nat.mul_comm (2 ^ k) 2, Nat.mul_assoc]
theorem split_bit (k q j : Nat) : (2 ^ k * (2 * q + 1)).testBit j = if j < k then false else (2 * q + 1).testBit (j - k) := by
  have := Nat.testBit_two_pow_mul_add (2 * q + 1) (Nat.two_pow_pos k) j
  rw [Nat.add_zero] at this
  rw [this, Nat.zero_testBit]
theorem split_pred (k q j : Nat) : (2 ^ k * (2 * q + 1) - 1).testBit j = if j < k then true else (2 * q).testBit (j - k) := by
  have e : 2 ^ k * (2 * q + 1) - 1 = 2 ^ k * (2 * q) + (2 ^ k - 1) := by
    have := Nat.two_pow_pos k
    rw [Nat.mul_add, Nat.mul_one]; omega
  have h : 2 ^ k - 1 < 2 ^ k := by have := Nat.two_pow_pos k; omega
  rw [e, Nat.testBit_two_pow_mul_add (2 * q) h j, Nat.testBit_two_pow_sub_one]
  by_cases hj : j < k
  · rw [if_pos hj, if_pos hj, decide_eq_true hj]
  · rw [if_neg hj, if_neg hj]
theorem low_eq (k q : Nat) : 2 ^ k * (2 * q + 1) - (2 ^ k * (2 * q + 1) &&& (2 ^ k * (2 * q + 1) - 1)) = 2 ^ k := by
  apply Nat.eq_of_testBit_eq
  intro j
  rw [testBit_sub_and, split_bit, split_pred, Nat.testBit_two_pow]
  by_cases hj : j < k
  · rw [if_pos hj, if_pos hj, decide_eq_false (by omega)]; rfl
  · rw [if_neg hj, if_neg hj]
    by_cases e : j = k
    · subst e
      rw [Nat.sub_self, decide_eq_true rfl, Nat.testBit_zero, Nat.testBit_zero]
      simp
    · rw [decide_eq_false (fun z => e z.symm)]
      obtain ⟨i, hi⟩ : ∃ i, j - k = i + 1 := ⟨j - k - 1, by omega⟩
      rw [hi, Nat.testBit_succ, Nat.testBit_succ, show (2 * q + 1) / 2 = q by omega, show 2 * q / 2 = q by omega]
      cases q.testBit i <;> rfl
def lowN (c : Nat) : Nat := (c - (c &&& (c - 1))).log2
theorem lowN_spec {c : Nat} (h : 0 < c) : c.testBit (lowN c) = true ∧ (∀ j, j < lowN c → c.testBit j = false) ∧ c - (c &&& (c - 1)) = 2 ^ lowN c := by
  obtain ⟨k, q, rfl⟩ := odd_split c h
  have e : lowN (2 ^ k * (2 * q + 1)) = k := by unfold lowN; rw [low_eq, Nat.log2_two_pow]
  rw [e]
  refine ⟨?_, fun j hj => ?_, low_eq k q⟩
  · rw [split_bit, if_neg (Nat.lt_irrefl _), Nat.sub_self, Nat.testBit_zero]; simp
  · rw [split_bit, if_pos hj]
theorem lowN_lt {c B : Nat} (h : 0 < c) (hB : c < 2 ^ B) : lowN c < B := by
  have := (lowN_spec h).1
  by_cases e : lowN c < B
  · exact e
  · rw [Nat.testBit_lt_two_pow (Nat.lt_of_lt_of_le hB (Nat.pow_le_pow_right (by decide) (by omega)))] at this
    cases this
theorem low_len {c : Nat} (h : 0 < c) : ((Builtin.Int.intBits (Builtin.bitAnd (c : Int) (-(c : Int))) : Nat) : Int) - 1 = ((lowN c : Nat) : Int) := by
  have e : -(c : Int) = Builtin.bitNot ((c - 1 : Nat) : Int) := by unfold Builtin.bitNot; omega
  rw [e, andnot_nat, (lowN_spec h).2.2]
  unfold Builtin.Int.intBits
  have hp : 0 < 2 ^ lowN c := Nat.two_pow_pos _
  have hne : ((((2 ^ lowN c : Nat) : Int)) == 0) = false := by rw [beq_eq_false_iff_ne]; omega
  rw [hne, if_neg Bool.false_ne_true, Int.natAbs_natCast, Nat.log2_two_pow]
  omega

section
variable {P : Program} {w : World} {K : PySem.W.Frag} {mg : Str → Option Value} {base : Heap} {t : Ad}
def spCrowdOf : Sp := fun vs H Q _ => ∃ (m : Nat) (p : Addr) (b : Bar), vs = [.int (m : Int), .ref p] ∧ m ≤ 6 ∧ BarAt H p b ∧ b.good ∧ Q (.int ((crowdB (2 ^ m) b : Nat) : Int)) H
/-- .. of the first i lamps alone -/
def liesU (i : Nat) (b : Bar) (s : Nat) : Bool := (List.range i).all fun k => !(b.1.testBit k && (b.2.testBit k != s.testBit k))
theorem liesU_succ (i : Nat) (b : Bar) (s : Nat) : liesU (i + 1) b s = (liesU i b s && !(b.1.testBit i && (b.2.testBit i != s.testBit i))) := by
  unfold liesU
  rw [List.range_succ, List.all_append, List.all_cons, List.all_nil, Bool.and_true]
theorem liesU_low (b : Bar) (i r j : Nat) (hj : j ≤ i) : liesU j b (2 ^ i + r) = liesU j b r := by
  unfold liesU
  apply Bool.eq_iff_iff.mpr
  rw [List.all_eq_true, List.all_eq_true]
  constructor
  · intro h k hk
    have := h k hk
    rw [Nat.testBit_two_pow_add_gt (by have := List.mem_range.mp hk; omega)] at this
    exact this
  · intro h k hk
    have := h k hk
    rw [Nat.testBit_two_pow_add_gt (by have := List.mem_range.mp hk; omega)]
    exact this
theorem bits_split (f : Nat → Bool) (n : Nat) : ∀ m, bits f (n + m) = bits f n ||| (bits (fun r => f (n + r)) m) <<< n := fun m => by
  apply Nat.eq_of_testBit_eq
  intro k
  rw [testBit_bits, Nat.testBit_or, testBit_bits, Nat.testBit_shiftLeft, testBit_bits]
  by_cases h : k < n
  · rw [decide_eq_true (show k < n + m by omega), decide_eq_true h, decide_eq_false (show ¬ k ≥ n by omega), Bool.false_and, Bool.or_false]
  · rw [decide_eq_false h, Bool.false_and, Bool.false_or, decide_eq_true (show k ≥ n by omega), Bool.true_and, show n + (k - n) = k by omega]
    congr 1
    exact decide_eq_decide.mpr (by omega)
def crU (b : Bar) (i : Nat) : Nat := bits (liesU i b) (2 ^ i)
theorem low_bit {i s : Nat} (h : s < 2 ^ i) : s.testBit i = false := Nat.testBit_lt_two_pow h
theorem high_bit {i r : Nat} (h : r < 2 ^ i) : (2 ^ i + r).testBit i = true := by
  rw [Nat.testBit_two_pow_add_eq, low_bit h]; rfl
theorem crU_lo (b : Bar) (i : Nat) (f : Bool) (hf : (!(b.1.testBit i && (b.2.testBit i != false))) = f) : bits (liesU (i + 1) b) (2 ^ i) = if f = true then crU b i else 0 := by
  cases f with
  | true => exact bits_ext fun s hs => by rw [liesU_succ, low_bit hs, hf, Bool.and_true]
  | false => rw [if_neg Bool.false_ne_true, ← bits_false (2 ^ i)]; exact bits_ext fun s hs => by rw [liesU_succ, low_bit hs, hf, Bool.and_false]
theorem crU_hi (b : Bar) (i : Nat) (f : Bool) (hf : (!(b.1.testBit i && (b.2.testBit i != true))) = f) : bits (fun r => liesU (i + 1) b (2 ^ i + r)) (2 ^ i) = if f = true then crU b i else 0 := by
  cases f with
  | true => exact bits_ext fun s hs => by rw [liesU_succ, high_bit hs, hf, Bool.and_true, liesU_low b i s i (Nat.le_refl _)]
  | false => rw [if_neg Bool.false_ne_true, ← bits_false (2 ^ i)]; exact bits_ext fun s hs => by rw [liesU_succ, high_bit hs, hf, Bool.and_false]
theorem crU_succ (b : Bar) (i : Nat) : crU b (i + 1) = (if (!(b.1.testBit i && (b.2.testBit i != false))) = true then crU b i else 0) ||| (if (!(b.1.testBit i && (b.2.testBit i != true))) = true then crU b i else 0) <<< 2 ^ i := by
  unfold crU
  rw [show 2 ^ (i + 1) = 2 ^ i + 2 ^ i by rw [Nat.pow_succ]; omega, bits_split, crU_lo b i _ rfl, crU_hi b i _ rfl]
  rfl
theorem crU_free {b : Bar} {i : Nat} (h : b.1.testBit i = false) : crU b (i + 1) = crU b i ||| crU b i <<< 2 ^ i := by
  rw [crU_succ, h]; rfl
theorem crU_lit {b : Bar} {i : Nat} (h : b.1.testBit i = true) (h2 : b.2.testBit i = true) : crU b (i + 1) = crU b i <<< 2 ^ i := by
  rw [crU_succ, h, h2]
  show 0 ||| crU b i <<< 2 ^ i = _
  rw [Nat.zero_or]
theorem crU_dark {b : Bar} {i : Nat} (h : b.1.testBit i = true) (h2 : b.2.testBit i = false) : crU b (i + 1) = crU b i := by
  rw [crU_succ, h, h2]
  show crU b i ||| 0 <<< 2 ^ i = _
  rw [Nat.zero_shiftLeft, Nat.or_zero]
theorem crU_end {b : Bar} {m : Nat} (g : b.good) (hm : m ≤ 6) (h : b.2 < 2 ^ m) : crU b m = crowdB (2 ^ m) b := by
  unfold crU crowdB
  refine bits_ext fun s hs => ?_
  apply Bool.eq_iff_iff.mpr
  rw [lies_iff]
  unfold liesU
  rw [List.all_eq_true]
  constructor
  · intro q k hk hb
    by_cases e : k < m
    · have := q k (List.mem_range.mpr e)
      rw [hb] at this
      simpa using this
    · rw [testBit_hi h (by omega), testBit_hi hs (by omega)]
  · intro q k hk
    have hk := List.mem_range.mp hk
    cases hb : b.1.testBit k with
    | false => rfl
    | true => simp [q k (by omega) hb]
theorem crowd_none {b : Bar} {m : Nat} (g : b.good) (h : ¬ b.2 < 2 ^ m) : crowdB (2 ^ m) b = 0 := by
  unfold crowdB
  rw [← bits_false (2 ^ m)]
  refine bits_ext fun s hs => ?_
  cases z : lies s b with
  | false => rfl
  | true =>
    rw [lies_iff] at z
    exfalso
    apply h
    apply Nat.lt_pow_two_of_testBit
    intro k hk
    cases e : b.2.testBit k with
    | false => rfl
    | true =>
      have e1 : b.1.testBit k = true := by
        cases e2 : b.1.testBit k with
        | true => rfl
        | false => rw [good_sub g e2] at e; cases e
      have := z k (good_hi g e1) e1
      rw [e, testBit_hi hs hk] at this
      cases this
theorem shr_nat (n m : Nat) : ((n : Int) / 2 ^ ((m : Int)).toNat) = ((n / 2 ^ m : Nat) : Int) := by simp
theorem shl_nat2 (n m : Nat) : (n : Int) * 2 ^ ((m : Int)).toNat = ((n <<< m : Nat) : Int) := by
  rw [Nat.shiftLeft_eq]; simp
theorem lit_ne (s k : Nat) : decide (Builtin.bitAnd ((s : Int) / 2 ^ ((k : Int)).toNat) 1 ≠ 0) = s.testBit k := by
  rw [lit_val]
  cases s.testBit k <;> rfl
theorem dne (i : Int) : (!decide (i = 0)) = decide (i ≠ 0) := by simp
theorem ok_crowd_of (T : Txt K mg t) : FnS P w K mg base 1 "crowd_of" ["many", "bar"] (spCrowdOf) := by
  refine ⟨_, _, T.F_crowd_of.ok sc_crowd_of (fun vs H Q E h => ?_) (fun cdv A outer s H vs Q E hr h => ?_), T.b_crowd_of, T.F_crowd_of.kp, T.m_crowd_of⟩
  · obtain ⟨m, p, b, rfl, hm, hb, hg, q⟩ := h
    rfl
  obtain ⟨m, p, b, rfl, hm, hb, hg, q⟩ := h
  have hp := pow_small hm
  refine ⟨_, (pss_cons (ps_if (pt_truth (pe_op op_shr (pe_ix ix_seq (pv 1) pe_int (fun _ _ => rfl)) (pv 0)) (fun _ => rfl))
      (pss_one (ps_ret pe_int))
      pss_nil)
      (pss_cons (ss 2 sc_crowd_of.nd pe_int)
      (pss_cons (ps_for PassesOwn.never rfl (pi_range1 rfl T.B.range (pa_cons (pv 0) pa_nil)) (sg 3 sc_crowd_of.nd)
      (pss_cons (ss 4 sc_crowd_of.nd (pe_op op_shl (pv 2) (pe_op op_shl pe_int (pv 3))))
      (pss_one (ps_if (pt_not (pt_truth (pe_op op_and (pe_op op_shr (pe_ix ix_seq (pv 1) pe_int (fun _ _ => rfl)) (pv 3)) pe_int) (fun _ => rfl)))
      (pss_one (ss 2 sc_crowd_of.nd (pe_op op_or (pv 2) (pv 4))))
      (pss_one (ps_if (pt_truth (pe_op op_and (pe_op op_shr (pe_ix ix_seq (pv 1) pe_int (fun _ _ => rfl)) (pv 3)) pe_int) (fun _ => rfl))
      (pss_one (ss 2 sc_crowd_of.nd (pv 4)))
      pss_nil))))))
      (pss_one (ps_ret (pv 2)))))), ?_⟩
  walk_at "rd0"
  refine i_ixT hb (v := .int (b.2 : Int)) rfl ?_
  walk_at "rd"
  rw [shr_nat]
  refine i_ifn (fun h1 => ?_) (fun h1 => ?_)
  · walk_at "rd"
    rw [crowd_none hg (fun z => h1 (by rw [Nat.div_eq_of_lt z]; rfl))] at q
    exact q
  have hlt : b.2 < 2 ^ m := by
    have e : b.2 / 2 ^ m = 0 := by omega
    rcases Nat.div_eq_zero_iff.mp e with z | z
    · exact absurd z (Nat.ne_of_gt (Nat.two_pow_pos m))
    · exact z
  walk_at "rd"
  refine ⟨_, rfl, by omega, by omega, ?_⟩
  rw [Int.toNat_natCast]
  refine loopR0 (fun i σ H' => H' = H ∧ ∃ v v', σ = [some (.int (m : Int)), some (.ref p), some (.int ((crU b i : Nat) : Int)), v, v']) ⟨rfl, _, _, rfl⟩ ?_ ?_
  · rintro i σ H' hi ⟨rfl, v, v', rfl⟩
    have hpi := pow_small (show i ≤ 6 by omega)
    walk_at "rd"
    rw [shl_nat]
    refine i_rI ⟨Int.natCast_nonneg _, by omega, ?_⟩ ?_
    · rw [Int.natAbs_natCast]
      exact Nat.lt_of_lt_of_le (bits_lt _ _) (Nat.pow_le_pow_right (by decide) hpi)
    walk_at "rd"
    refine i_ixT hb (v := .int (b.1 : Int)) rfl ?_
    walk_at "rd"
    rw [dne, lit_ne]
    cases h1 : b.1.testBit i with
    | false =>
      refine i_ifT rfl ?_
      walk_at "rd"
      rw [shl_nat2, or_nat, ← crU_free h1]
      exact ⟨rfl, _, _, rfl⟩
    | true =>
      refine i_ifF rfl ?_
      walk_at "rd"
      refine i_ixT hb (v := .int (b.2 : Int)) rfl ?_
      walk_at "rd"
      rw [dne, lit_ne]
      refine i_ifb (fun h2 => ?_) (fun h2 => ?_)
      · walk_at "rd"
        rw [shl_nat2, ← crU_lit h1 h2]
        exact ⟨rfl, _, _, rfl⟩
      · walk_at "rd"
        rw [← crU_dark h1 h2]
        exact ⟨rfl, _, _, rfl⟩
  · rintro σ H' ⟨rfl, v, v', rfl⟩
    walk_at "rd"
    rw [crU_end hg hm hlt]
    exact q

def lampsOf (b : Bar) : List Nat := (List.range 6).filter fun k => b.1.testBit k
def vi (k : Nat) : V := .int (k : Int)
theorem nums_vi (l : List Nat) : (nums l).map V.int = l.map vi := by unfold nums; rw [List.map_map]; rfl
theorem bits_len {n : Nat} (h : n < 64) : (List.range (Builtin.Int.intBits (n : Int))).filter (fun k => n.testBit k) = (List.range 6).filter (fun k => n.testBit k) ∧ Builtin.Int.intBits (n : Int) ≤ 6 := by
  have z : ∀ n : Fin 64, (List.range (Builtin.Int.intBits ((n.val : Nat) : Int))).filter (fun k => n.val.testBit k) = (List.range 6).filter (fun k => n.val.testBit k) ∧ Builtin.Int.intBits ((n.val : Nat) : Int) ≤ 6 := by decide +kernel
  exact z ⟨n, h⟩
theorem lit_tru (s k : Nat) : (!decide (Builtin.bitAnd ((s : Int) / 2 ^ ((k : Int)).toNat) 1 = 0)) = s.testBit k := by
  rw [lit_val]
  cases s.testBit k <;> rfl
def spAskedBy : Sp := fun vs H Q _ => ∃ (p : Addr) (b : Bar), vs = [.ref p] ∧ BarAt H p b ∧ b.1 < 64 ∧ ∀ l H', Same H H' → H l = none → H' l = some (.lst ((lampsOf b).map vi)) → Q (.ref l) H'
theorem ok_asked_by (T : Txt K mg t) : FnS P w K mg base 1 "asked_by" ["bar"] (spAskedBy) := by
  refine ⟨_, _, T.F_asked_by.ok sc_asked_by (fun vs H Q E h => ?_) (fun cdv A outer s H vs Q E hr h => ?_), T.b_asked_by, T.F_asked_by.kp, T.m_asked_by⟩
  · obtain ⟨p, b, rfl, hb, h64, q⟩ := h
    rfl
  obtain ⟨p, b, rfl, hb, h64, q⟩ := h
  obtain ⟨ef, hl6⟩ := bits_len h64
  refine ⟨_, (pss_one (ps_ret (pe_comp (sc := defScope s_asked_by) (N := ["bar"]) (ns := ["bar"]) (ix := [0]) rfl rfl (by decide +kernel) rfl (pi_range1 rfl T.B.range (pa_cons (pe_bm0 PySem.F.plainAttrs_int PySem.F.slot_int_bit_length PySem.F.type_int_bit_length mi_bit_length (pe_ix ix_seq (pv 0) pe_int (fun _ _ => rfl))) pa_nil)) (fun _ _ _ _ => (pts_one (pt_truthK (K := K) rfl (pe_op op_and (pe_op op_shr (pe_ix (ix_seqK (K := K) rfl) (pv 1) pe_int (fun _ _ => rfl)) (pv 0)) pe_int) (fun _ => rfl)))) (fun _ _ _ _ => (pv 0))))), ?_⟩
  walk_at "rd0"
  refine i_ixT hb (v := .int (b.1 : Int)) rfl ?_
  walk_at "rd"
  refine ⟨_, rfl, by omega, by omega, ?_⟩
  rw [Int.toNat_natCast]
  refine comp_range (fun k => b.1.testBit k) (by omega) ?_ ?_ ?_
  · intro i H' hi s1 R k
    simp only [subS, List.map_cons, List.map_nil]
    walk_at "rd"
    refine i_ixT (s1 _ _ hb) (v := .int (b.1 : Int)) rfl ?_
    walk_at "rd"
    rw [lit_tru]
    exact k H' (Same.refl _)
  · intro i H' hi s1 R k
    simp only [subS, List.map_cons, List.map_nil]
    walk_at "rd"
    exact k H' (Same.refl _)
  · intro l H' n1 s1 e1
    rw [ef, nums_vi] at e1
    exact q l H' s1 n1 e1
def spWithout : Sp := fun vs H Q _ => ∃ (p : Addr) (b : Bar) (k : Nat), vs = [.ref p, .int (k : Int)] ∧ k ≤ 6 ∧ BarAt H p b ∧ ∀ p' H', Same H H' → H p' = none → BarAt H' p' (b.wo k) → Q (.ref p') H'
theorem ok_without (T : Txt K mg t) : FnS P w K mg base 1 "without" ["bar", "lamp"] (spWithout) := by
  refine ⟨_, _, T.F_without.ok sc_without (fun vs H Q E h => ?_) (fun cdv A outer s H vs Q E hr h => ?_), T.b_without, T.F_without.kp, T.m_without⟩
  · obtain ⟨p, b, k, rfl, hk, hb, q⟩ := h
    rfl
  obtain ⟨p, b, k, rfl, hk, hb, q⟩ := h
  have hp := pow_small hk
  refine ⟨_, (pss_cons (ss 2 sc_without.nd (pe_un un_inv (pe_op op_shl pe_int (pv 1))))
      (pss_one (ps_ret (pe_tup (pa_cons (pe_op op_and (pe_ix ix_seq (pv 0) pe_int (fun _ _ => rfl)) (pv 2)) (pa_cons (pe_op op_and (pe_ix ix_seq (pv 0) pe_int (fun _ _ => rfl)) (pv 2)) pa_nil)))))), ?_⟩
  walk_at "rd0"
  rw [shl_nat]
  refine i_ixT hb (v := .int (b.1 : Int)) rfl ?_
  walk_at "rd"
  refine i_ixT hb (v := .int (b.2 : Int)) rfl ?_
  walk_at "rd"
  rw [andnot_nat, andnot_nat]
  exact j_tup (Nat.le_of_ble_eq_true rfl) fun p' H' s1 n1 e1 => q p' H' s1 n1 e1

def shutB (n : Nat) (bs : List Bar) : Nat := bits (fun s => bs.any (lies s)) n
theorem shutB_nil (n : Nat) : shutB n [] = 0 := by unfold shutB; simp only [List.any_nil]; exact bits_false n
theorem shutB_snoc (n : Nat) (bs : List Bar) (b : Bar) : shutB n (bs ++ [b]) = shutB n bs ||| crowdB n b := by
  unfold shutB crowdB
  rw [bits_or]
  exact bits_ext fun s hs => by rw [List.any_append, List.any_cons, List.any_nil, Bool.or_false]
theorem shutB_lt (n : Nat) (bs : List Bar) : shutB n bs < 2 ^ n := bits_lt _ _
theorem kept_shut (n : Nat) (bs : List Bar) : (2 ^ n - 1) - ((2 ^ n - 1) &&& shutB n bs) = keptB n bs := by
  unfold shutB keptB
  rw [← bits_true, bits_andnot]
  rfl
def spShutOut : Sp := fun vs H Q _ => ∃ (m : Nat) (l : Addr) (ps : List Addr) (bs : List Bar), vs = [.int (m : Int), .ref l] ∧ m ≤ 6 ∧ H l = some (.lst (ps.map V.ref)) ∧ Paired (BarAt H) ps bs ∧ (∀ b ∈ bs, b.good) ∧ Q (.int ((shutB (2 ^ m) bs : Nat) : Int)) H
theorem ok_shut_out (T : Txt K mg t) : FnS P w K mg base 2 "shut_out" ["many", "bars"] (spShutOut) := by
  refine ⟨_, _, T.F_shut_out.ok sc_shut_out (fun vs H Q E h => ?_) (fun cdv A outer s H vs Q E hr h => ?_), T.b_shut_out, T.F_shut_out.kp, T.m_shut_out⟩
  · obtain ⟨m, l, ps, bs, rfl, hm, hl, hb, hg, q⟩ := h
    rfl
  obtain ⟨m, l, ps, bs, rfl, hm, hl, hb, hg, q⟩ := h
  have G_crowd_of := ok_crowd_of (P := P) (w := w) (base := base) T
  refine ⟨_, (pss_cons (ss 2 sc_shut_out.nd pe_int)
      (pss_cons (ps_for PassesOwn.never rfl (pi_seq (pv 1)) (sg 3 sc_shut_out.nd)
      (pss_one (ss 2 sc_shut_out.nd (pe_op op_or (pv 2) (pe_fn G_crowd_of hr (pa_cons (pv 0) (pa_cons (pv 3) pa_nil)))))))
      (pss_one (ps_ret (pv 2))))), ?_⟩
  walk_at "rd0"
  refine seqL (xs := ps.map V.ref) (fun i σ H' => H' = H ∧ ∃ v, σ = [some (.int (m : Int)), some (.ref l), some (.int ((shutB (2 ^ m) (bs.take i) : Nat) : Int)), v]) ⟨rfl, _, by rw [List.take_zero, shutB_nil]; rfl⟩ (fun i σ H' _ hp => by obtain ⟨rfl, _⟩ := hp; exact SqL.of hl) ?_ ?_
  · rintro i x σ H' hx ⟨rfl, v, rfl⟩
    obtain ⟨p, rfl, hx'⟩ := get_ref hx
    obtain ⟨b, hbi, hbp⟩ := paired_get hb hx'
    walk_at "rd"
    refine ⟨m, p, b, rfl, hm, hbp, hg b (List.mem_of_getElem? hbi), ?_⟩
    walk_at "rd"
    refine ⟨rfl, some (.ref p), ?_⟩
    rw [or_nat, take_snoc hbi, shutB_snoc]
    all_goals rfl
  · rintro σ H' ⟨rfl, v, rfl⟩
    walk_at "rd"
    rw [List.length_map, paired_len hb, List.take_length]
    exact q

def spLeast : Sp := fun vs H Q _ => ∃ c : Nat, vs = [.int (c : Int)] ∧ 0 < c ∧ Q (.int ((lowN c : Nat) : Int)) H
theorem ok_least (T : Txt K mg t) : FnS P w K mg base 1 "least" ["crowd"] (spLeast) := by
  refine ⟨_, _, T.F_least.ok sc_least (fun vs H Q E h => ?_) (fun cdv A outer s H vs Q E hr h => ?_), T.b_least, T.F_least.kp, T.m_least⟩
  · obtain ⟨c, rfl, hc, q⟩ := h
    rfl
  obtain ⟨c, rfl, hc, q⟩ := h
  refine ⟨_, (pss_one (ps_ret (pe_op op_sub (pe_bm0 PySem.F.plainAttrs_int PySem.F.slot_int_bit_length PySem.F.type_int_bit_length mi_bit_length (pe_op op_and (pv 0) (pe_un un_neg (pv 0)))) pe_int))), ?_⟩
  walk_at "rd0"
  rw [low_len hc]
  exact q

def spBarOf : Sp := fun vs H Q _ => ∃ (m s : Nat), vs = [.int (m : Int), .int (s : Int)] ∧ m ≤ 6 ∧ ∀ p H', Same H H' → H p = none → BarAt H' p (2 ^ m - 1, s) → Q (.ref p) H'
theorem ok_bar_of (T : Txt K mg t) : FnS P w K mg base 1 "bar_of" ["many", "stand"] (spBarOf) := by
  refine ⟨_, _, T.F_bar_of.ok sc_bar_of (fun vs H Q E h => ?_) (fun cdv A outer s H vs Q E hr h => ?_), T.b_bar_of, T.F_bar_of.kp, T.m_bar_of⟩
  · obtain ⟨m, n, rfl, hm, q⟩ := h
    rfl
  obtain ⟨m, n, rfl, hm, q⟩ := h
  refine ⟨_, (pss_one (ps_ret (pe_tup (pa_cons (pe_op op_sub (pe_op op_shl pe_int (pv 0)) pe_int) (pa_cons (pv 1) pa_nil))))), ?_⟩
  walk_at "rd0"
  rw [shl_nat]
  have h1 : 1 ≤ 2 ^ m := Nat.one_le_two_pow
  have e : ((2 ^ m : Nat) : Int) - 1 = ((2 ^ m - 1 : Nat) : Int) := by omega
  rw [e]
  exact j_tup (Nat.le_of_ble_eq_true rfl) fun p H' s1 n1 e1 => q p H' s1 n1 e1

/-! ### crowds within crowds -/
def Sub (x y : Nat) : Prop := ∀ k, x.testBit k = true → y.testBit k = true
theorem sub_iff {x y : Nat} : x - (x &&& y) = 0 ↔ Sub x y := by
  constructor
  · intro h k hk
    have e : (x - (x &&& y)).testBit k = false := by rw [h]; exact Nat.zero_testBit k
    rw [testBit_sub_and, hk, Bool.true_and] at e
    simpa using e
  · intro h
    apply Nat.eq_of_testBit_eq
    intro k
    rw [testBit_sub_and, Nat.zero_testBit]
    cases e : x.testBit k with
    | false => rfl
    | true => rw [h k e]; rfl
theorem sub_trans {x y z : Nat} (a : Sub x y) (b : Sub y z) : Sub x z := fun k h => b k (a k h)
theorem testBit_crowd (n : Nat) (b : Bar) (k : Nat) : (crowdB n b).testBit k = (decide (k < n) && lies k b) := testBit_bits _ _ _
theorem testBit_shut (n : Nat) (bs : List Bar) (k : Nat) : (shutB n bs).testBit k = (decide (k < n) && bs.any (lies k)) := testBit_bits _ _ _
theorem wo1 (b : Bar) (k j : Nat) : (b.wo k).1.testBit j = (b.1.testBit j && !decide (k = j)) := testBit_clr _ _ _
theorem wo2 (b : Bar) (k j : Nat) : (b.wo k).2.testBit j = (b.2.testBit j && !decide (k = j)) := testBit_clr _ _ _
theorem wo_bit {b : Bar} {k j : Nat} (h : (b.wo k).1.testBit j = true) : b.1.testBit j = true ∧ k ≠ j := by
  rw [wo1, Bool.and_eq_true] at h
  exact ⟨h.1, by simpa using h.2⟩
theorem lies_wo {s k : Nat} {b : Bar} (h : lies s b = true) : lies s (b.wo k) = true := by
  rw [lies_iff] at h ⊢
  intro j hj hb
  obtain ⟨h1, h2⟩ := wo_bit hb
  rw [wo2, decide_eq_false h2, Bool.not_false, Bool.and_true]
  exact h j hj h1
theorem lies_wo2 {s k k' : Nat} {b : Bar} (h : lies s (b.wo k') = true) : lies s ((b.wo k).wo k') = true := by
  rw [lies_iff] at h ⊢
  intro j hj hb
  obtain ⟨h1, h2⟩ := wo_bit hb
  obtain ⟨h3, h4⟩ := wo_bit h1
  have hb' : (b.wo k').1.testBit j = true := by rw [wo1, h3, decide_eq_false h2]; rfl
  have := h j hj hb'
  rw [wo2, decide_eq_false h2, Bool.not_false, Bool.and_true] at this ⊢
  rw [wo2, decide_eq_false h4, Bool.not_false, Bool.and_true]
  exact this
theorem crowd_sub {n : Nat} {b c : Bar} (h : ∀ s, lies s b = true → lies s c = true) : Sub (crowdB n b) (crowdB n c) := fun k hk => by
  rw [testBit_crowd, Bool.and_eq_true] at hk ⊢
  exact ⟨hk.1, h k hk.2⟩
theorem wo_good {b : Bar} (g : b.good) (k : Nat) : (b.wo k).good := by
  refine ⟨Nat.lt_of_le_of_lt (Nat.sub_le _ _) g.1, ?_⟩
  apply Nat.eq_of_testBit_eq
  intro j
  rw [Nat.testBit_and]
  show ((clr b.2 k).testBit j && (clr b.1 k).testBit j) = (clr b.2 k).testBit j
  rw [testBit_clr, testBit_clr]
  have : (b.2 &&& b.1).testBit j = b.2.testBit j := by rw [g.2]
  rw [Nat.testBit_and] at this
  cases h1 : b.2.testBit j <;> cases h2 : b.1.testBit j <;> simp_all
theorem wo_lt {b : Bar} {m : Nat} (h : b.1 < 2 ^ m) (k : Nat) : (b.wo k).1 < 2 ^ m := Nat.lt_of_le_of_lt (Nat.sub_le _ _) h
/-- no lamp of it can go -/
def Wide (n c : Nat) (b : Bar) : Prop := ∀ k, b.1.testBit k = true → ¬ Sub (crowdB n (b.wo k)) c
structure InC (m c : Nat) (b : Bar) : Prop where
  gd : b.good
  lt : b.1 < 2 ^ m
  sb : Sub (crowdB (2 ^ m) b) c
def spWidest : Sp := fun vs H Q _ => ∃ (m c : Nat) (p : Addr) (b : Bar), vs = [.int (m : Int), .int (c : Int), .ref p] ∧ m ≤ 6 ∧ BarAt H p b ∧ InC m c b ∧ ∀ p' H' b', Same H H' → BarAt H' p' b' → InC m c b' → Sub (crowdB (2 ^ m) b) (crowdB (2 ^ m) b') → Wide (2 ^ m) c b' → Q (.ref p') H'
theorem lamps_mem {b : Bar} (g : b.good) {k : Nat} : k ∈ lampsOf b ↔ b.1.testBit k = true := by
  unfold lampsOf
  rw [List.mem_filter, List.mem_range]
  exact ⟨fun h => h.2, fun h => ⟨good_hi g h, h⟩⟩
theorem ok_widest (T : Txt K mg t) : FnS P w K mg base 2 "widest" ["many", "crowd", "bar"] (spWidest) := by
  refine ⟨_, _, T.F_widest.ok sc_widest (fun vs H Q E h => ?_) (fun cdv A outer s H vs Q E hr h => ?_), T.b_widest, T.F_widest.kp, T.m_widest⟩
  · obtain ⟨m, c, p, b, rfl, hm, hb, hI, q⟩ := h
    rfl
  obtain ⟨m, c, p, b, rfl, hm, hb, hI, q⟩ := h
  have G_asked_by := ok_asked_by (P := P) (w := w) (base := base) T
  have G_without := ok_without (P := P) (w := w) (base := base) T
  have G_crowd_of := ok_crowd_of (P := P) (w := w) (base := base) T
  refine ⟨_, (pss_cons (ss 3 sc_widest.nd (pv 2))
      (pss_cons (ps_for PassesOwn.never rfl (pi_seq (pe_fn G_asked_by hr (pa_cons (pv 2) pa_nil))) (sg 4 sc_widest.nd)
      (pss_cons (ss 5 sc_widest.nd (pe_fn G_without hr (pa_cons (pv 3) (pa_cons (pv 4) pa_nil))))
      (pss_one (ps_if (pt_cmpR (op_eqA hr.units) (pe_op op_and (pe_fn G_crowd_of hr (pa_cons (pv 0) (pa_cons (pv 5) pa_nil))) (pe_un un_inv (pv 1))) pe_int (nomark _))
      (pss_one (ss 3 sc_widest.nd (pv 5)))
      pss_nil))))
      (pss_one (ps_ret (pv 3))))), ?_⟩
  walk_at "rd0"
  refine ⟨p, b, rfl, hb, hI.gd.1, fun l H1 s1 n1 e1 => ?_⟩
  refine seqL (xs := (lampsOf b).map vi) (fun i σ H' => ∃ f fb v v', Same H1 H' ∧ BarAt H' f fb ∧ InC m c fb ∧ Sub (crowdB (2 ^ m) b) (crowdB (2 ^ m) fb) ∧ (∀ k, fb.1.testBit k = true → b.1.testBit k = true) ∧ (∀ j k, j < i → (lampsOf b)[j]? = some k → fb.1.testBit k = true → ¬ Sub (crowdB (2 ^ m) (fb.wo k)) c) ∧ σ = [some (.int (m : Int)), some (.int (c : Int)), some (.ref p), some (.ref f), v, v']) ⟨p, b, _, _, Same.refl _, s1 _ _ hb, hI, fun k h => h, fun k h => h, fun j k hj => absurd hj (Nat.not_lt_zero _), rfl⟩ (fun i σ H' _ hp => by obtain ⟨_, _, _, _, sm, _⟩ := hp; exact SqL.of (sm _ _ e1)) ?_ ?_
  · rintro i x σ H' hx ⟨f, fb, v, v', sm, hf, hF, hs, hsub, hk, rfl⟩
    obtain ⟨k, rfl, hki⟩ : ∃ k : Nat, x = .int (k : Int) ∧ (lampsOf b)[i]? = some k := by
      rw [List.getElem?_map] at hx
      cases e : (lampsOf b)[i]? with
      | none => rw [e] at hx; cases hx
      | some k => rw [e] at hx; exact ⟨k, (Option.some.inj hx).symm, rfl⟩
    have hk6 : k < 6 := good_hi hI.gd ((lamps_mem hI.gd).mp (List.mem_of_getElem? hki))
    walk_at "rd"
    refine ⟨f, fb, k, rfl, by omega, hf, fun f2 H2 s2 n2 e2 => ?_⟩
    walk_at "rd"
    refine ⟨m, f2, fb.wo k, rfl, hm, e2, wo_good hF.gd k, ?_⟩
    walk_at "rd"
    rw [andnot_nat]
    refine i_ifd (fun h1 => ?_) (fun h1 => ?_)
    · have hS : Sub (crowdB (2 ^ m) (fb.wo k)) c := sub_iff.mp (by omega)
      walk_at "rd"
      refine ⟨f2, fb.wo k, _, _, sm.trans s2, e2, ⟨wo_good hF.gd k, wo_lt hF.lt k, hS⟩, sub_trans hs (crowd_sub fun s h => lies_wo h), fun j hj => hsub j (wo_bit hj).1, fun j k' hj hkj hb' => ?_, rfl⟩
      obtain ⟨b1, b2⟩ := wo_bit hb'
      by_cases e : j = i
      · subst e
        rw [hki] at hkj
        exact absurd (Option.some.inj hkj) b2
      · exact fun z => hk j k' (by omega) hkj b1 (sub_trans (crowd_sub fun s h => lies_wo2 h) z)
    · walk_at "rd"
      refine ⟨f, fb, _, _, sm.trans s2, s2 _ _ hf, hF, hs, hsub, fun j k' hj hkj hb' => ?_, rfl⟩
      by_cases e : j = i
      · subst e
        rw [hki] at hkj
        cases hkj
        exact fun z => h1 (by rw [sub_iff.mpr z]; rfl)
      · exact hk j k' (by omega) hkj hb'
  · rintro σ H' ⟨f, fb, v, v', sm, hf, hF, hs, hsub, hk, rfl⟩
    walk_at "rd"
    refine q f H' fb (s1.trans sm) hf hF hs fun k hb' => ?_
    obtain ⟨j, hj⟩ := List.mem_iff_getElem?.mp ((lamps_mem hI.gd).mpr (hsub k hb'))
    exact hk j k (by rw [List.length_map]; exact (List.getElem?_eq_some_iff.mp hj).1) hj hb'
/-! ### needed -/
structure BLs (H : Hp) (l : Addr) (ps : List Addr) (bs : List Bar) : Prop where
  fl : H l = some (.lst (ps.map V.ref))
  pr : Paired (BarAt H) ps bs
theorem BLs.mono {H H' : Hp} {l : Addr} {ps : List Addr} {bs : List Bar} (h : BLs H l ps bs) (s : Same H H') : BLs H' l ps bs := ⟨s _ _ h.fl, bar_ext (Ext.of s) h.pr⟩
def oth (bs : List Bar) (b : Bar) : List Bar := bs.filter fun x => !decide (ib x = ib b)
theorem ib_inj {a b : Bar} (h : ib a = ib b) : a = b := by
  unfold ib at h
  have h1 := congrArg Prod.fst h
  have h2 := congrArg Prod.snd h
  exact Prod.ext (by exact Int.ofNat.inj h1) (by exact Int.ofNat.inj h2)
theorem oth_mem {bs : List Bar} {a b : Bar} : a ∈ oth bs b ↔ a ∈ bs ∧ a ≠ b := by
  unfold oth
  rw [List.mem_filter]
  constructor
  · rintro ⟨h1, h2⟩
    exact ⟨h1, fun z => by subst z; simp at h2⟩
  · rintro ⟨h1, h2⟩
    exact ⟨h1, by rw [decide_eq_false (fun z => h2 (ib_inj z))]; rfl⟩
def Need (n : Nat) (bs : List Bar) (b : Bar) : Prop := ¬ Sub (crowdB n b) (shutB n (oth bs b))
def spNeeded : Sp := fun vs H Q _ => ∃ (m : Nat) (l : Addr) (ps : List Addr) (bs : List Bar), vs = [.int (m : Int), .ref l] ∧ m ≤ 6 ∧ BLs H l ps bs ∧ (∀ b ∈ bs, b.good) ∧ ps.length ≤ 64 ∧ ∀ l' H' ps' bs', Same H H' → H l' = none → BLs H' l' ps' bs' → bs'.Sublist bs → (∀ s, s < 2 ^ m → bs'.any (lies s) = bs.any (lies s)) → (∀ b ∈ bs', Need (2 ^ m) bs' b) → Q (.ref l') H'
theorem oth_snoc {bs : List Bar} {i : Nat} {a b : Bar} (h : bs[i]? = some a) : oth (bs.take (i + 1)) b = oth (bs.take i) b ++ (if (!decide (ib a = ib b)) = true then [a] else []) := by
  unfold oth
  rw [take_snoc h, List.filter_append]
  by_cases e : (!decide (ib a = ib b)) = true
  · rw [if_pos e]
    congr 1
    exact List.filter_cons_of_pos (p := fun x : Bar => !decide (ib x = ib b)) e
  · rw [if_neg e]
    congr 1
    exact List.filter_cons_of_neg (p := fun x : Bar => !decide (ib x = ib b)) e
theorem any_iff {bs : List Bar} {s : Nat} : bs.any (lies s) = true ↔ ∃ b ∈ bs, lies s b = true := List.any_eq_true
theorem oth_sub (bs : List Bar) (b : Bar) : (oth bs b).Sublist bs := List.filter_sublist
theorem shut_mono {n : Nat} {as bs : List Bar} (h : ∀ b ∈ as, b ∈ bs) : Sub (shutB n as) (shutB n bs) := fun k hk => by
  rw [testBit_shut, Bool.and_eq_true] at hk ⊢
  refine ⟨hk.1, ?_⟩
  obtain ⟨b, hb, hl⟩ := any_iff.mp hk.2
  exact any_iff.mpr ⟨b, h b hb, hl⟩
theorem drop_ok {n : Nat} {bs sb : List Bar} {b : Bar} (hc : ∀ s, s < n → sb.any (lies s) = bs.any (lies s)) (h : Sub (crowdB n b) (shutB n (oth sb b))) : ∀ s, s < n → (oth sb b).any (lies s) = bs.any (lies s) := fun s hs => by
  rw [← hc s hs]
  cases e : sb.any (lies s) with
  | false =>
    cases z : (oth sb b).any (lies s) with
    | false => rfl
    | true =>
      obtain ⟨a, ha, hl⟩ := any_iff.mp z
      rw [any_iff.mpr ⟨a, (oth_mem.mp ha).1, hl⟩] at e; cases e
  | true =>
    obtain ⟨a, ha, hl⟩ := any_iff.mp e
    by_cases y : a = b
    · subst y
      have := h s (by rw [testBit_crowd, decide_eq_true hs, hl]; rfl)
      rw [testBit_shut, Bool.and_eq_true] at this
      exact this.2
    · exact any_iff.mpr ⟨a, oth_mem.mpr ⟨ha, y⟩, hl⟩
theorem need_drop {n : Nat} {sb : List Bar} {a b : Bar} (h : Need n sb a) : Need n (oth sb b) a := fun z => h (sub_trans z (shut_mono fun c hc => by
  have h1 := oth_mem.mp hc
  exact oth_mem.mpr ⟨(oth_mem.mp h1.1).1, h1.2⟩))
theorem fresh_of {H H' : Hp} {l : Addr} (s : Same H H') (n : H' l = none) : H l = none := by
  cases e : H l with
  | none => rfl
  | some o => rw [s _ _ e] at n; cases n
theorem ok_needed (T : Txt K mg t) : FnS P w K mg base 3 "needed" ["many", "bars"] (spNeeded) := by
  refine ⟨_, _, T.F_needed.ok sc_needed (fun vs H Q E h => ?_) (fun cdv A outer s H vs Q E hr h => ?_), T.b_needed, T.F_needed.kp, T.m_needed⟩
  · obtain ⟨m, l, ps, bs, rfl, hm, B, hg, h64, q⟩ := h
    rfl
  obtain ⟨m, l, ps, bs, rfl, hm, B, hg, h64, q⟩ := h
  have G_crowd_of := ok_crowd_of (P := P) (w := w) (base := base) T
  have G_shut_out := ok_shut_out (P := P) (w := w) (base := base) T
  refine ⟨_, (pss_cons (ss 2 sc_needed.nd (pe_callTy call_listG rfl T.B.list bt_list (pa_cons (pv 1) pa_nil)))
      (pss_cons (ps_for PassesOwn.never rfl (pi_seq (pv 1)) (sg 3 sc_needed.nd)
      (pss_cons (ps_comp 4 sc_needed.nd (sc := defScope s_needed) (N := ["many", "bars", "stay", "bar", "others"]) (ns := ["bar"]) (ix := [3]) rfl rfl (by decide +kernel) rfl (pi_seq (pv 2)) (fun _ _ _ _ => (pts_one (pt_cmpR (op_neA hr.units) (pv 0) (pv 1) (nomark _)))) (fun _ _ _ _ => (pv 0)))
      (pss_one (ps_if (pt_cmpR (op_eqA hr.units) (pe_op op_and (pe_fn G_crowd_of hr (pa_cons (pv 0) (pa_cons (pv 3) pa_nil))) (pe_un un_inv (pe_fn G_shut_out hr (pa_cons (pv 0) (pa_cons (pv 4) pa_nil))))) pe_int (nomark _))
      (pss_one (ss 2 sc_needed.nd (pv 4)))
      pss_nil))))
      (pss_one (ps_ret (pv 2))))), ?_⟩
  walk_at "rd0"
  refine j_list (.inl (SqL.of B.fl)) fun st0 H1 s1 n1 e1 => ?_
  walk_at "rd"
  refine seqL (xs := ps.map V.ref) (fun i σ H' => ∃ st sp sb v v', Same H H' ∧ H st = none ∧ BLs H' st sp sb ∧ sp.length ≤ 64 ∧ sb.Sublist bs ∧ (∀ s, s < 2 ^ m → sb.any (lies s) = bs.any (lies s)) ∧ (∀ j b, j < i → bs[j]? = some b → b ∈ sb → Need (2 ^ m) sb b) ∧ σ = [some (.int (m : Int)), some (.ref l), some (.ref st), v, v']) ⟨st0, ps, bs, _, _, s1, n1, ⟨e1, bar_ext (Ext.of s1) B.pr⟩, h64, List.Sublist.refl _, fun s _ => rfl, fun j b hj => absurd hj (Nat.not_lt_zero _), rfl⟩ (fun i σ H' _ hp => by obtain ⟨_, _, _, _, _, sm, _⟩ := hp; exact SqL.of (sm _ _ B.fl)) ?_ ?_
  · rintro i x σ H2 hx ⟨st, sp, sb, v, v', s2, nst, B2, l2, sub, cov, nd, rfl⟩
    obtain ⟨p, rfl, hx'⟩ := get_ref hx
    obtain ⟨b, hbi, hbp⟩ := paired_get B.pr hx'
    have hgb := hg b (List.mem_of_getElem? hbi)
    have hb2 : BarAt H2 p b := s2 _ _ hbp
    walk_at "rd"
    refine .inl ⟨st, _, rfl, SqL.of B2.fl, ?_⟩
    refine comp_by (fun i ys => ∃ qs, ys = qs.map V.ref ∧ Paired (BarAt H2) qs (oth (sb.take i) b) ∧ qs.length ≤ i) (wk_list (SqL.of B2.fl)) (by rw [List.length_map]; omega) ⟨[], rfl, .nil, Nat.le_refl _⟩ ?_ ?_
    · intro j y ys acc H' hy s3 hacc ea hq _ R k
      obtain ⟨p2, rfl, hy'⟩ := get_ref hy
      obtain ⟨b2, hbj, hbp2⟩ := paired_get B2.pr hy'
      obtain ⟨qs, rfl, hpr, hql⟩ := hq
      simp only [subS, List.map_cons, List.map_nil]
      walk_at "rd"
      refine i_nePP (k := ib b2) (k' := ib b) (s3 _ _ hbp2) (s3 _ _ hb2) ?_
      walk_at "rd"
      refine k _ H' (Same.refl _) (fun z => ⟨qs, rfl, by rw [oth_snoc hbj, if_neg (by rw [z]; exact Bool.false_ne_true), List.append_nil]; exact hpr, by omega⟩) fun z R2 k2 => ?_
      walk_at "rd"
      refine k2 _ H' (Same.refl _) ⟨qs ++ [p2], by rw [List.map_append]; rfl, by rw [oth_snoc hbj, if_pos z]; exact paired_append hpr (.cons hbp2 .nil), by rw [List.length_append, List.length_singleton]; omega⟩
    intro lo ys H3 n3 s3 e3 hq
    obtain ⟨qs, rfl, hpr, hql⟩ := hq
    rw [List.length_map, paired_len B2.pr, List.take_length] at hpr
    rw [List.length_map] at hql
    have B3 : BLs H3 lo qs (oth sb b) := ⟨e3, bar_ext (Ext.of s3) hpr⟩
    have g3 : ∀ a ∈ oth sb b, a.good := fun a ha => hg a (sub.subset (oth_mem.mp ha).1)
    walk_at "rd"
    refine ⟨m, p, b, rfl, hm, s3 _ _ hb2, hgb, ?_⟩
    walk_at "rd"
    refine ⟨m, lo, qs, oth sb b, rfl, hm, B3.fl, B3.pr, g3, ?_⟩
    walk_at "rd"
    rw [andnot_nat]
    refine i_ifd (fun h1 => ?_) (fun h1 => ?_)
    · have hS : Sub (crowdB (2 ^ m) b) (shutB (2 ^ m) (oth sb b)) := sub_iff.mp (by omega)
      walk_at "rd"
      refine ⟨lo, qs, oth sb b, _, _, s2.trans s3, fresh_of s2 n3, B3, by omega, (oth_sub sb b).trans sub, drop_ok cov hS, fun j a hj hja ha => ?_, rfl⟩
      by_cases e : j = i
      · subst e
        rw [hbi] at hja
        cases hja
        exact absurd rfl (oth_mem.mp ha).2
      · exact need_drop (nd j a (by omega) hja (oth_mem.mp ha).1)
    · walk_at "rd"
      refine ⟨st, sp, sb, _, _, s2.trans s3, nst, B2.mono s3, l2, sub, cov, fun j a hj hja ha => ?_, rfl⟩
      by_cases e : j = i
      · subst e
        rw [hbi] at hja
        cases hja
        exact fun z => h1 (by rw [sub_iff.mpr z]; rfl)
      · exact nd j a (by omega) hja ha
  · rintro σ H2 ⟨st, sp, sb, v, v', s2, nst, B2, l2, sub, cov, nd, rfl⟩
    rw [List.length_map, paired_len B.pr] at nd
    walk_at "rd"
    refine q st H2 sp sb s2 nst B2 sub cov fun b hb => ?_
    obtain ⟨j, hj⟩ := List.mem_iff_getElem?.mp (sub.subset hb)
    exact nd j b (List.getElem?_eq_some_iff.mp hj).1 hj hb
/-! ### cover -/
structure Cov (m c : Nat) (bs : List Bar) : Prop where
  gd : ∀ b ∈ bs, InC m c b
  al : shutB (2 ^ m) bs = c
  wd : ∀ b ∈ bs, Wide (2 ^ m) c b
  ne : ∀ b ∈ bs, Need (2 ^ m) bs b
  so : bs.Pairwise fun a b => HT.lexLt [(a.1 : Int), (a.2 : Int)] [(b.1 : Int), (b.2 : Int)] = true
def spCover : Sp := fun vs H Q _ => ∃ (m c : Nat), vs = [.int (m : Int), .int (c : Int)] ∧ m ≤ 6 ∧ c < 2 ^ 2 ^ m ∧ ∀ l H' ps bs, Same H H' → H l = none → BLs H' l ps bs → Cov m c bs → ps.length ≤ 64 → Q (.ref l) H'
/-- how many of the first n bits are lit -/
def pc (c : Nat) : Nat → Nat
  | 0 => 0
  | n + 1 => pc c n + (if c.testBit n = true then 1 else 0)
theorem pc_le (c : Nat) : ∀ n, pc c n ≤ n
  | 0 => Nat.le_refl _
  | n + 1 => by
    show pc c n + (if c.testBit n = true then 1 else 0) ≤ n + 1
    have := pc_le c n
    split <;> omega
theorem pc_mono {c d : Nat} (h : ∀ k, c.testBit k = true → d.testBit k = true) : ∀ n, pc c n ≤ pc d n
  | 0 => Nat.le_refl _
  | n + 1 => by
    show pc c n + (if c.testBit n = true then 1 else 0) ≤ pc d n + (if d.testBit n = true then 1 else 0)
    have := pc_mono h n
    by_cases e : c.testBit n = true
    · rw [if_pos e, if_pos (h n e)]; omega
    · rw [if_neg e]; split <;> omega
theorem pc_lt {c d k : Nat} (h : ∀ k, c.testBit k = true → d.testBit k = true) (h1 : c.testBit k = false) (h2 : d.testBit k = true) : ∀ n, k < n → pc c n < pc d n
  | 0, hk => absurd hk (Nat.not_lt_zero _)
  | n + 1, hk => by
    show pc c n + (if c.testBit n = true then 1 else 0) < pc d n + (if d.testBit n = true then 1 else 0)
    by_cases e : k = n
    · subst e
      have := pc_mono h k
      rw [h1, h2, if_neg Bool.false_ne_true, if_pos rfl]; omega
    · have := pc_lt h h1 h2 n (by omega)
      by_cases e : c.testBit n = true
      · rw [if_pos e, if_pos (h n e)]; omega
      · rw [if_neg e]; split <;> omega
theorem few {m c : Nat} {bs : List Bar} (hm : m ≤ 6) (hI : ∀ b ∈ bs, InC m c b) (hW : ∀ b ∈ bs, Wide (2 ^ m) c b) (nd : bs.Nodup) (hl : bs.length ≤ pc c (2 ^ m)) : bs.length < 64 := by
  have hp := pow_small hm
  by_cases full : ∀ k, k < 2 ^ m → c.testBit k = true
  · have z : ∀ b ∈ bs, b = (0, 0) := fun b hb => by
      have h1 : b.1 = 0 := Nat.eq_of_testBit_eq fun k => by
        rw [Nat.zero_testBit]
        cases e : b.1.testBit k with
        | false => rfl
        | true => exact absurd (fun j hj => by
            rw [testBit_crowd, Bool.and_eq_true, decide_eq_true_iff] at hj
            exact full j hj.1) (hW b hb k e)
      have h2 : b.2 = 0 := by have := good_le (hI b hb).gd; omega
      exact Prod.ext h1 h2
    match bs, z, nd with
    | [], _, _ => exact Nat.le_of_ble_eq_true rfl
    | [_], _, _ => exact Nat.le_of_ble_eq_true rfl
    | a :: b :: r, z, nd =>
      exfalso
      have e1 := z a List.mem_cons_self
      have e2 := z b (List.mem_cons_of_mem _ List.mem_cons_self)
      exact (List.nodup_cons.mp nd).1 (by rw [e1, e2]; exact List.mem_cons_self)
  · obtain ⟨k, hk⟩ : ∃ k, k < 2 ^ m ∧ c.testBit k = false := Classical.byContradiction fun q => full fun k hk => by
      cases e : c.testBit k with
      | true => rfl
      | false => exact absurd ⟨k, hk, e⟩ q
    have h1 : pc (c &&& (2 ^ 2 ^ m - 1)) (2 ^ m) < pc (2 ^ 2 ^ m - 1) (2 ^ m) := pc_lt (k := k) (fun j hj => by rw [Nat.testBit_and, Bool.and_eq_true] at hj; exact hj.2) (by rw [Nat.testBit_and, hk.2]; rfl) (by rw [Nat.testBit_two_pow_sub_one]; exact decide_eq_true hk.1) _ hk.1
    have h2 := pc_le (2 ^ 2 ^ m - 1) (2 ^ m)
    have h3 : ∀ n, n ≤ 2 ^ m → pc (c &&& (2 ^ 2 ^ m - 1)) n = pc c n := fun n => by
      induction n with
      | zero => intro _; rfl
      | succ n ih =>
        intro hn
        show pc (c &&& (2 ^ 2 ^ m - 1)) n + (if (c &&& (2 ^ 2 ^ m - 1)).testBit n = true then 1 else 0) = pc c n + (if c.testBit n = true then 1 else 0)
        rw [ih (by omega), Nat.testBit_and, Nat.testBit_two_pow_sub_one, decide_eq_true (show n < 2 ^ m by omega), Bool.and_true]
    rw [h3 _ (Nat.le_refl _)] at h1
    omega
theorem lex_of {a b : Bar} (h : ple (ib a) (ib b)) (n : a ≠ b) : HT.lexLt [(a.1 : Int), (a.2 : Int)] [(b.1 : Int), (b.2 : Int)] = true := by
  rw [HT.lexLt_cons, HT.lexLt_cons, HT.lexLt_nil_nil]
  have h : (a.1 : Int) < (b.1 : Int) ∨ ((a.1 : Int) = (b.1 : Int) ∧ (a.2 : Int) ≤ (b.2 : Int)) := h
  rcases h with h | ⟨h1, h2⟩
  · rw [if_neg (by omega)]; exact decide_eq_true h
  · rw [if_pos h1]
    have : (a.2 : Int) ≠ (b.2 : Int) := fun z => n (Prod.ext (by omega) (by omega))
    rw [if_neg this]; exact decide_eq_true (by omega)
theorem bars_of {H : Hp} : ∀ {ps : List Addr} {bs : List Bar}, Paired (PairAt H) ps (bs.map ib) → Paired (BarAt H) ps bs
  | ps, [], h => by
    cases h; exact .nil
  | ps, b :: bs, h => by
    rw [List.map_cons] at h
    cases h with
    | cons r q => exact .cons r (bars_of q)
theorem unib {ks : List (Int × Int)} {bs : List Bar} (h : ks.Perm (bs.map ib)) : ∃ cs : List Bar, cs.Perm bs ∧ ks = cs.map ib := by
  refine ⟨ks.map fun k => (k.1.toNat, k.2.toNat), ?_, ?_⟩
  · have := h.map fun k : Int × Int => ((k.1.toNat, k.2.toNat) : Bar)
    rw [List.map_map] at this
    have e : ((fun k : Int × Int => ((k.1.toNat, k.2.toNat) : Bar)) ∘ ib) = id := by
      funext b
      show ((b.1 : Int).toNat, (b.2 : Int).toNat) = b
      rw [Int.toNat_natCast, Int.toNat_natCast]
    rw [e, List.map_id] at this
    exact this
  · rw [List.map_map]
    have : ks.map id = ks.map (ib ∘ fun k : Int × Int => ((k.1.toNat, k.2.toNat) : Bar)) := List.map_congr_left fun k hk => by
      obtain ⟨b, _, rfl⟩ := List.mem_map.mp (h.subset hk)
      show ib b = ib ((b.1 : Int).toNat, (b.2 : Int).toNat)
      rw [Int.toNat_natCast, Int.toNat_natCast]
    rw [List.map_id] at this
    exact this
theorem cov_of {m c : Nat} {bs bs2 bs3 : List Bar} (hI : ∀ b ∈ bs, InC m c b) (hW : ∀ b ∈ bs, Wide (2 ^ m) c b) (nd : bs.Nodup) (hc : c < 2 ^ 2 ^ m) (hl : ∀ k, c.testBit k = true → bs.any (lies k) = true) (sub : bs2.Sublist bs) (cov : ∀ s, s < 2 ^ m → bs2.any (lies s) = bs.any (lies s)) (ne : ∀ b ∈ bs2, Need (2 ^ m) bs2 b) (pm : bs3.Perm bs2) (so : (bs3.map ib).Pairwise ple) : Cov m c bs3 := by
  have m32 : ∀ b, b ∈ bs3 ↔ b ∈ bs2 := fun b => pm.mem_iff
  refine ⟨fun b hb => hI b (sub.subset ((m32 b).mp hb)), ?_, fun b hb => hW b (sub.subset ((m32 b).mp hb)), fun b hb z => ne b ((m32 b).mp hb) (sub_trans z (shut_mono fun a ha => ?_)), ?_⟩
  · apply Nat.eq_of_testBit_eq
    intro k
    rw [testBit_shut]
    cases e : c.testBit k with
    | true =>
      have hk : k < 2 ^ m := by
        by_cases z : k < 2 ^ m
        · exact z
        · rw [testBit_hi hc (by omega)] at e; cases e
      have h2 := hl k e
      rw [← cov k hk] at h2
      obtain ⟨b, hb, hlb⟩ := any_iff.mp h2
      rw [decide_eq_true hk, any_iff.mpr ⟨b, (m32 b).mpr hb, hlb⟩]; rfl
    | false =>
      cases y : (decide (k < 2 ^ m) && bs3.any (lies k)) with
      | false => rfl
      | true =>
        rw [Bool.and_eq_true] at y
        obtain ⟨b, hb, hlb⟩ := any_iff.mp y.2
        rw [(hI b (sub.subset ((m32 b).mp hb))).sb k (by rw [testBit_crowd, y.1, hlb]; rfl)] at e; cases e
  · have := oth_mem.mp ha
    exact oth_mem.mpr ⟨(m32 a).mp this.1, this.2⟩
  · have n3 : bs3.Nodup := pm.nodup_iff.mpr (sub.nodup nd)
    have so' := List.pairwise_map.mp so
    exact (so'.and n3).imp fun h => lex_of h.1 h.2
theorem ok_cover (T : Txt K mg t) : FnS P w K mg base 4 "cover" ["many", "crowd"] (spCover) := by
  refine ⟨_, _, T.F_cover.ok sc_cover (fun vs H Q E h => ?_) (fun cdv A outer s H vs Q E hr h => ?_), T.b_cover, T.F_cover.kp, T.m_cover⟩
  · obtain ⟨m, c, rfl, hm, hc, q⟩ := h
    rfl
  obtain ⟨m, c, rfl, hm, hc, q⟩ := h
  have G_widest := ok_widest (P := P) (w := w) (base := base) T
  have G_bar_of := ok_bar_of (P := P) (w := w) (base := base) T
  have G_least := ok_least (P := P) (w := w) (base := base) T
  have G_crowd_of := ok_crowd_of (P := P) (w := w) (base := base) T
  have G_needed := ok_needed (P := P) (w := w) (base := base) T
  have hp := pow_small hm
  refine ⟨_, (pss_cons (ss 2 sc_cover.nd (pe_lst pa_nil))
      (pss_cons (ss 3 sc_cover.nd (pv 1))
      (pss_cons (ps_while PassesOwn.never (pt_truth (pv 3) (fun _ => rfl))
      (pss_cons (ss 4 sc_cover.nd (pe_fn G_widest hr (pa_cons (pv 0) (pa_cons (pv 1) (pa_cons (pe_fn G_bar_of hr (pa_cons (pv 0) (pa_cons (pe_fn G_least hr (pa_cons (pv 3) pa_nil)) pa_nil))) pa_nil)))))
      (pss_cons (ps_expr (pe_bm PySem.F.plainAttrs_list PySem.F.slot_list_append PySem.F.type_list_append mt_append (pv 2) (pa_cons (pv 4) pa_nil)))
      (pss_one (ss 3 sc_cover.nd (pe_op op_and (pv 3) (pe_un un_inv (pe_fn G_crowd_of hr (pa_cons (pv 0) (pa_cons (pv 4) pa_nil))))))))))
      (pss_one (ps_ret (pe_callB call_sortP rfl T.B.sorted bt_sorted (pa_cons (pe_fn G_needed hr (pa_cons (pv 0) (pa_cons (pv 2) pa_nil))) pa_nil))))))), ?_⟩
  walk_at "rd0"
  refine j_lst (Nat.le_of_ble_eq_true rfl) fun lb H1 s1 n1 e1 => ?_
  walk_at "rd"
  refine ⟨fun z σ H' => ∃ ps bs left v, z = pc left (2 ^ m) ∧ Same H H' ∧ BLs H' lb ps bs ∧ (∀ b ∈ bs, InC m c b) ∧ (∀ b ∈ bs, Wide (2 ^ m) c b) ∧ bs.Nodup ∧ bs.length + pc left (2 ^ m) ≤ pc c (2 ^ m) ∧ (∀ k, left.testBit k = (c.testBit k && !(bs.any (lies k)))) ∧ σ = [some (.int (m : Int)), some (.int (c : Int)), some (.ref lb), some (.int (left : Int)), v], ⟨_, [], [], c, _, rfl, s1, ⟨e1, .nil⟩, fun b z => (by cases z), fun b z => (by cases z), List.nodup_nil, by rw [List.length_nil]; omega, fun k => by rw [List.any_nil, Bool.not_false, Bool.and_true], rfl⟩, ?_⟩
  rintro z σ H2 ⟨ps, bs, left, v, rfl, s2, B2, hI, hW, nd, hlen, hleft, rfl⟩
  have hpc := pc_le c (2 ^ m)
  have hpl : ps.length = bs.length := paired_len B2.pr
  walk_at "rd"
  refine i_ifn (fun h1 => ?_) (fun h1 => ?_)
  · have hpos : 0 < left := by omega
    have sp := lowN_spec hpos
    have hcl : c.testBit (lowN left) = true ∧ bs.any (lies (lowN left)) = false := by
      have := sp.1
      rw [hleft, Bool.and_eq_true] at this
      exact ⟨this.1, by simpa using this.2⟩
    have hs : lowN left < 2 ^ m := by
      by_cases z : lowN left < 2 ^ m
      · exact z
      · rw [testBit_hi hc (by omega)] at hcl; cases hcl.1
    refine ⟨fun σ' H'' => ∃ ps' bs' left' v, pc left' (2 ^ m) < pc left (2 ^ m) ∧ Same H H'' ∧ BLs H'' lb ps' bs' ∧ (∀ b ∈ bs', InC m c b) ∧ (∀ b ∈ bs', Wide (2 ^ m) c b) ∧ bs'.Nodup ∧ bs'.length + pc left' (2 ^ m) ≤ pc c (2 ^ m) ∧ (∀ k, left'.testBit k = (c.testBit k && !(bs'.any (lies k)))) ∧ σ' = [some (.int (m : Int)), some (.int (c : Int)), some (.ref lb), some (.int (left' : Int)), v], ?_, ?_⟩
    · rintro σ' H'' ⟨ps', bs', left', v', h, r⟩
      exact ⟨_, h, ps', bs', left', v', rfl, r⟩
    walk_at "rd"
    refine ⟨left, rfl, hpos, ?_⟩
    walk_at "rd"
    refine ⟨m, lowN left, rfl, hm, fun p3 H3 s3 n3 e3 => ?_⟩
    walk_at "rd"
    have one : InC m c (2 ^ m - 1, lowN left) := ⟨good_one hm hs, by show 2 ^ m - 1 < 2 ^ m; have := Nat.two_pow_pos m; omega, fun k hk => by
      rw [crowd_one hm hs, Nat.testBit_two_pow, decide_eq_true_iff] at hk
      rw [← hk]; exact hcl.1⟩
    refine ⟨m, c, p3, (2 ^ m - 1, lowN left), rfl, hm, e3, one, fun p4 H4 b4 s4 e4 I4 sub4 W4 => ?_⟩
    have sA := s3.trans s4
    have hlie : lies (lowN left) b4 = true := by
      have := sub4 (lowN left) (by rw [crowd_one hm hs, Nat.testBit_two_pow]; exact decide_eq_true rfl)
      rw [testBit_crowd, Bool.and_eq_true] at this
      exact this.2
    have hnb : b4 ∉ bs := fun z => by rw [any_iff.mpr ⟨b4, z, hlie⟩] at hcl; cases hcl.2
    have B4 := B2.mono sA
    walk_at "rd"
    refine ⟨tyL B4.fl, ?_⟩
    walk_at "rd"
    refine j_append B4.fl (by rw [List.length_map]; omega) fun H5 b5 e5 => ?_
    have x5 : Ext H4 H5 := b5.ext B4.fl
    have e45 : BarAt H5 p4 b4 := x5 _ _ e4 (fun _ z => nomatch z)
    walk_at "rd"
    refine ⟨m, p4, b4, rfl, hm, e45, I4.gd, ?_⟩
    walk_at "rd"
    rw [andnot_nat]
    have hl' : ∀ k, (left - (left &&& crowdB (2 ^ m) b4)).testBit k = (c.testBit k && !((bs ++ [b4]).any (lies k))) := fun k => by
      rw [testBit_sub_and, hleft, testBit_crowd, List.any_append, List.any_cons, List.any_nil, Bool.or_false]
      by_cases z : k < 2 ^ m
      · rw [decide_eq_true z, Bool.true_and]
        cases c.testBit k <;> cases bs.any (lies k) <;> cases lies k b4 <;> rfl
      · rw [testBit_hi hc (by omega), Bool.false_and, Bool.false_and, Bool.false_and]
    have hlt : pc (left - (left &&& crowdB (2 ^ m) b4)) (2 ^ m) < pc left (2 ^ m) := pc_lt (k := lowN left) (fun k hk => by rw [testBit_sub_and, Bool.and_eq_true] at hk; exact hk.1) (by rw [testBit_sub_and, testBit_crowd, decide_eq_true hs, hlie, sp.1]; rfl) sp.1 _ hs
    refine ⟨ps ++ [p4], bs ++ [b4], _, _, hlt, b5.same n1 (s2.trans sA), ⟨by rw [e5, List.map_append]; rfl, paired_append (bar_ext x5 B4.pr) (.cons e45 .nil)⟩, fun b hb => ?_, fun b hb => ?_, ?_, ?_, hl', rfl⟩
    · rcases List.mem_append.mp hb with hb | hb
      · exact hI b hb
      · rw [List.mem_singleton.mp hb]; exact I4
    · rcases List.mem_append.mp hb with hb | hb
      · exact hW b hb
      · rw [List.mem_singleton.mp hb]; exact W4
    · refine List.nodup_append.mpr ⟨nd, List.nodup_cons.mpr ⟨fun z => (by cases z), List.nodup_nil⟩, fun a ha b hb e => ?_⟩
      rw [List.mem_singleton] at hb
      exact hnb (hb ▸ e ▸ ha)
    · rw [List.length_append, List.length_singleton]; omega
  · have hz : left = 0 := by omega
    have hfew := few hm hI hW nd (by omega)
    have hl : ∀ k, c.testBit k = true → bs.any (lies k) = true := fun k hk => by
      have := hleft k
      rw [hz, Nat.zero_testBit, hk, Bool.true_and] at this
      simpa using this.symm
    walk_at "rd"
    refine ⟨m, lb, ps, bs, rfl, hm, B2, fun b hb => (hI b hb).gd, by omega, fun l5 H5 ps5 bs5 s5 n5 B5 sub5 cov5 nd5 => ?_⟩
    have hl5 : ps5.length ≤ bs.length := by rw [paired_len B5.pr]; exact sub5.length_le
    walk_at "rd"
    refine ⟨l5, ps5, bs5.map ib, rfl, SqL.of B5.fl, pairs_of B5.pr, by omega, fun l6 ps6 ks6 hpr pmp pmk so n6 => ?_⟩
    obtain ⟨bs6, pm6, rfl⟩ := unib pmk
    have s6 := same_new n6 (.lst (ps6.map V.ref))
    have sA := s2.trans s5
    exact q l6 _ ps6 bs6 (sA.trans s6) (fresh_of sA n6) ⟨upd_same, bar_ext (Ext.of s6) (bars_of hpr)⟩ (cov_of hI hW nd hc hl sub5 cov5 nd5 pm6 so) (by rw [pmp.length_eq]; omega)

theorem mod_nat (c : Int) (m : Nat) : ∃ a : Nat, c % ((2 ^ m : Nat) : Int) = (a : Int) ∧ a < 2 ^ m := by
  have h0 : 0 < 2 ^ m := Nat.two_pow_pos m
  have h1 := Int.emod_nonneg c (show ((2 ^ m : Nat) : Int) ≠ 0 by omega)
  have h2 := Int.emod_lt_of_pos c (show (0 : Int) < ((2 ^ m : Nat) : Int) by omega)
  exact ⟨(c % ((2 ^ m : Nat) : Int)).toNat, by omega, by omega⟩

/-! ### the law -/
theorem pow_lt2 {a b : Nat} (h : a < b) : 2 ^ a < 2 ^ b := Nat.pow_lt_pow_right (by decide) h
theorem len_nums (af : List Nat) : ((nums af).map V.int).length = af.length := by unfold nums; rw [List.length_map, List.length_map]
theorem nums_snoc (af : List Nat) (x : Nat) : (nums (af ++ [x])).map V.int = (nums af).map V.int ++ [V.int (x : Int)] := by unfold nums; rw [List.map_append, List.map_append]; rfl
theorem get_nums {af : List Nat} {i : Nat} (h : i < af.length) : ((nums af).map V.int)[i]? = some (.int ((af.getD i 0 : Nat) : Int)) := by
  unfold nums
  rw [List.getElem?_map, List.getElem?_map, List.getD_eq_getElem?_getD, List.getElem?_eq_getElem h]
  rfl
def spInside : Sp := fun vs H Q _ => ∃ (n : Nat) (p : Addr) (b : Bar), vs = [.int (n : Int), .ref p] ∧ n ≤ 64 ∧ BarAt H p b ∧ b.good ∧ Q (.int ((crowdB n b : Nat) : Int)) H
theorem ok_inside (T : Txt K mg t) : FnS P w K mg base 1 "_law_inside" ["_law_size", "_law_bar"] (spInside) := by
  refine ⟨_, _, T.F__law_inside.ok sc__law_inside (fun vs H Q E h => ?_) (fun cdv A outer s H vs Q E hr h => ?_), T.b__law_inside, T.F__law_inside.kp, T.m__law_inside⟩
  · obtain ⟨n, p, b, rfl, hn, hb, hg, q⟩ := h
    rfl
  obtain ⟨n, p, b, rfl, hn, hb, hg, q⟩ := h
  refine ⟨_, (pss_cons (ss 2 sc__law_inside.nd pe_int)
      (pss_cons (ps_for PassesOwn.never rfl (pi_range1 rfl T.B.range (pa_cons (pv 0) pa_nil)) (sg 3 sc__law_inside.nd)
      (pss_one (ps_if (pt_cmpR (op_eqA hr.units) (pe_op op_and (pv 3) (pe_ix ix_seq (pv 1) pe_int (fun _ _ => rfl))) (pe_ix ix_seq (pv 1) pe_int (fun _ _ => rfl)) (nomark _))
      (pss_one (ss 2 sc__law_inside.nd (pe_op op_or (pv 2) (pe_op op_shl pe_int (pv 3)))))
      pss_nil)))
      (pss_one (ps_ret (pv 2))))), ?_⟩
  walk_at "rd0"
  refine ⟨_, rfl, by omega, by omega, ?_⟩
  rw [Int.toNat_natCast]
  refine loopR0 (n := n) (fun i σ H' => H' = H ∧ ∃ v, σ = [some (.int (n : Int)), some (.ref p), some (.int ((crowdB i b : Nat) : Int)), v]) ⟨rfl, _, rfl⟩ ?_ ?_
  · rintro i σ H' hi ⟨rfl, v, rfl⟩
    have li : decide (Builtin.bitAnd (i : Int) (b.1 : Int) = (b.2 : Int)) = lies i b := by
      rw [and_nat, ← lies_and hg]
      exact decide_eq_decide.mpr (by omega)
    walk_at "rd"
    refine i_ixT hb (v := .int (b.1 : Int)) rfl ?_
    walk_at "rd"
    refine i_ixT hb (v := .int (b.2 : Int)) rfl ?_
    walk_at "rd"
    rw [li]
    refine i_ifb (fun h1 => ?_) (fun h1 => ?_)
    · walk_at "rd"
      refine ⟨rfl, some (.int (i : Int)), ?_⟩
      unfold crowdB
      rw [or_one (f := fun s => lies s b) h1]
      all_goals rfl
    · walk_at "rd"
      refine ⟨rfl, some (.int (i : Int)), ?_⟩
      unfold crowdB
      rw [bits_skip (fun s => lies s b) i h1]
      all_goals rfl
  · rintro σ H' ⟨rfl, v, rfl⟩
    walk_at "rd"
    exact q
def spBarsL : Sp := fun vs H Q _ => ∃ (n : Nat) (l : Addr) (ps : List Addr) (bs : List Bar), vs = [.ref l, .int (n : Int)] ∧ BLs H l ps bs ∧ ps.length ≤ 64 ∧ (∀ b ∈ bs, b.good ∧ b.1 < n) ∧ (bs.Pairwise fun a b => HT.lexLt [(a.1 : Int), (a.2 : Int)] [(b.1 : Int), (b.2 : Int)] = true) ∧ Q (.bl true) H
theorem ok_bars (T : Txt K mg t) : FnS P w K mg base 1 "_law_bars" ["_law_found", "_law_size"] (spBarsL) := by
  refine ⟨_, _, T.F__law_bars.ok sc__law_bars (fun vs H Q E h => ?_) (fun cdv A outer s H vs Q E hr h => ?_), T.b__law_bars, T.F__law_bars.kp, T.m__law_bars⟩
  · obtain ⟨n, l, ps, bs, rfl, B, h64, hg, so, q⟩ := h
    rfl
  obtain ⟨n, l, ps, bs, rfl, B, h64, hg, so, q⟩ := h
  have hfl := B.fl
  have hpl : ps.length = bs.length := paired_len B.pr
  refine ⟨_, (pss_cons (ps_if (pt_not (pt_truth (pe_callB call_isi rfl T.B.isinstance bt_isinstance (pa_cons (pv 0) (pa_cons (pe_bltn (v := .ty "list") rfl T.B.list bt_list rfl) pa_nil))) (fun _ => rfl)))
      (pss_one (ps_ret pe_bl))
      pss_nil)
      (pss_cons (ps_for PassesOwn.never rfl (pi_seq (pv 0)) (sg 2 sc__law_bars.nd)
      (pss_cons (ps_if (PW.pt (pw_or (pt_not (pt_truth (pe_callB call_isi rfl T.B.isinstance bt_isinstance (pa_cons (pv 2) (pa_cons (pe_bltn (v := .ty "tuple") rfl T.B.tuple bt_tuple rfl) pa_nil))) (fun _ => rfl))) (pw_or1 (pt_cmpR (op_neA hr.units) (pe_callB call_lenG rfl T.B.len bt_len (pa_cons (pv 2) pa_nil)) pe_int (nomark _)))))
      (pss_one (ps_ret pe_bl))
      pss_nil)
      (pss_cons (ps_for PassesOwn.never rfl (pi_seq (pv 2)) (sg 3 sc__law_bars.nd)
      (pss_one (ps_if (PW.pt (pw_or (pt_not (pt_truth (pe_callB call_isi rfl T.B.isinstance bt_isinstance (pa_cons (pv 3) (pa_cons (pe_bltn (v := .ty "int") rfl T.B.int bt_int rfl) pa_nil))) (fun _ => rfl))) (pw_or1 (pt_truth (pe_callB call_isi rfl T.B.isinstance bt_isinstance (pa_cons (pv 3) (pa_cons (pe_bltn (v := .ty "bool") rfl T.B.bool bt_bool rfl) pa_nil))) (fun _ => rfl)))))
      (pss_one (ps_ret pe_bl))
      pss_nil)))
      (pss_one (ps_if (PW.pt (pw_or (pt_cmpR op_lt (pe_ix ix_seq (pv 2) pe_int (fun _ _ => rfl)) pe_int (nomark _)) (pw_or (pt_cmpR op_ge (pe_ix ix_seq (pv 2) pe_int (fun _ _ => rfl)) (pv 1) (nomark _)) (pw_or (pt_cmpR op_lt (pe_ix ix_seq (pv 2) pe_int (fun _ _ => rfl)) pe_int (nomark _)) (pw_or1 (pt_cmpR (op_neA hr.units) (pe_op op_and (pe_ix ix_seq (pv 2) pe_int (fun _ _ => rfl)) (pe_un un_inv (pe_ix ix_seq (pv 2) pe_int (fun _ _ => rfl)))) pe_int (nomark _)))))))
      (pss_one (ps_ret pe_bl))
      pss_nil)))))
      (pss_cons (ps_for PassesOwn.never rfl (pi_range2 rfl T.B.range (pa_cons pe_int (pa_cons (pe_callB call_lenG rfl T.B.len bt_len (pa_cons (pv 0) pa_nil)) pa_nil))) (sg 4 sc__law_bars.nd)
      (pss_one (ps_if (pt_cmpR (op_geT hr.units) (pe_ix ix_seq (pv 0) (pe_op op_sub (pv 4) pe_int) (fun _ _ => rfl)) (pe_ix ix_seq (pv 0) (pv 4) (fun _ _ => rfl)) (nomark _))
      (pss_one (ps_ret pe_bl))
      pss_nil)))
      (pss_one (ps_ret pe_bl))))), ?_⟩
  walk_at "rd0"
  refine i_ifF rfl ?_
  walk_at "rd"
  refine seqL (xs := ps.map V.ref) (fun i σ H' => H' = H ∧ ∃ v1 v2 v3, σ = [some (.ref l), some (.int (n : Int)), v1, v2, v3]) ⟨rfl, _, _, _, rfl⟩ (fun i σ H' _ hp => by obtain ⟨rfl, _⟩ := hp; exact SqL.of B.fl) ?_ ?_
  · rintro i x σ H' hx ⟨rfl, v1, v2, v3, rfl⟩
    obtain ⟨p, rfl, hx'⟩ := get_ref hx
    obtain ⟨b, hbi, hbp⟩ := paired_get B.pr hx'
    obtain ⟨hgb, hlt⟩ := hg b (List.mem_of_getElem? hbi)
    have hbt : H' p = some (.tup [.int (b.1 : Int), .int (b.2 : Int)]) := hbp
    walk_at "rd"
    refine i_ifF rfl ?_
    walk_at "rd"
    refine i_ifF (by simp) ?_
    walk_at "rd"
    refine seqT (xs := [.int (b.1 : Int), .int (b.2 : Int)]) (fun j σ H'' => H'' = H' ∧ ∃ v2, σ = [some (.ref l), some (.int (n : Int)), some (.ref p), v2, v3]) ⟨rfl, _, rfl⟩ (fun j σ H'' _ hp => by obtain ⟨rfl, _⟩ := hp; exact SqT.of hbt) ?_ ?_
    · rintro j y σ H'' hy ⟨rfl, v2, rfl⟩
      obtain ⟨c, rfl⟩ : ∃ c : Int, y = .int c := by
        match j, hy with
        | 0, hy => cases hy; exact ⟨_, rfl⟩
        | 1, hy => cases hy; exact ⟨_, rfl⟩
      walk_at "rd"
      refine i_ifF rfl ?_
      walk_at "rd"
      refine i_ifF rfl ?_
      walk_at "rd"
      exact ⟨rfl, _, rfl⟩
    · rintro σ H'' ⟨rfl, v2, rfl⟩
      walk_at "rd"
      refine i_ixT hbt (v := .int (b.1 : Int)) rfl ?_
      walk_at "rd"
      refine i_ifF (decide_eq_false (by omega)) ?_
      walk_at "rd"
      refine i_ixT hbt (v := .int (b.1 : Int)) rfl ?_
      walk_at "rd"
      refine i_ifF (decide_eq_false (by omega)) ?_
      walk_at "rd"
      refine i_ixT hbt (v := .int (b.2 : Int)) rfl ?_
      walk_at "rd"
      refine i_ifF (decide_eq_false (by omega)) ?_
      walk_at "rd"
      refine i_ixT hbt (v := .int (b.2 : Int)) rfl ?_
      walk_at "rd"
      refine i_ixT hbt (v := .int (b.1 : Int)) rfl ?_
      walk_at "rd"
      rw [andnot_nat, hgb.2, Nat.sub_self]
      refine i_ifF rfl ?_
      walk_at "rd"
      exact ⟨rfl, _, _, _, rfl⟩
  · rintro σ H' ⟨rfl, v1, v2, v3, rfl⟩
    walk_at "rd"
    rw [List.length_map]
    refine ⟨1, _, rfl, by omega, ?_⟩
    have en : ((((ps.length : Nat) : Int) - 1).toNat) = ps.length - 1 := by omega
    rw [en]
    refine for_range (fun i σ H'' => H'' = H' ∧ ∃ v1 v2 v3, σ = [some (.ref l), some (.int (n : Int)), v1, v2, v3]) ⟨rfl, _, _, _, rfl⟩ ?_ ?_
    · rintro i σ H'' hi ⟨rfl, v1, v2, v3, rfl⟩
      have e1 : (1 : Int) + (i : Int) = ((i + 1 : Nat) : Int) := by omega
      have e2 : ((i + 1 : Nat) : Int) - 1 = (i : Int) := by omega
      obtain ⟨p1, hp1⟩ : ∃ p, ps[i]? = some p := ⟨ps[i]'(by omega), List.getElem?_eq_getElem (by omega)⟩
      obtain ⟨p2, hp2⟩ : ∃ p, ps[i + 1]? = some p := ⟨ps[i + 1]'(by omega), List.getElem?_eq_getElem (by omega)⟩
      obtain ⟨b1, hb1, q1⟩ := paired_get B.pr hp1
      obtain ⟨b2, hb2, q2⟩ := paired_get B.pr hp2
      have hlex : HT.lexLt [(b1.1 : Int), (b1.2 : Int)] [(b2.1 : Int), (b2.2 : Int)] = true := by
        obtain ⟨g1, h1⟩ := List.getElem?_eq_some_iff.mp hb1
        obtain ⟨g2, h2⟩ := List.getElem?_eq_some_iff.mp hb2
        have := List.pairwise_iff_getElem.mp so i (i + 1) g1 g2 (Nat.lt_succ_self _)
        rw [h1, h2] at this
        exact this
      rw [e1]
      walk_at "rd"
      rw [e2]
      refine i_ixL B.fl (v := .ref p1) (by rw [List.getElem?_map, hp1]; rfl) ?_
      walk_at "rd"
      refine i_ixL B.fl (v := .ref p2) (by rw [List.getElem?_map, hp2]; rfl) ?_
      refine ⟨p1, p2, [(b1.1 : Int), (b1.2 : Int)], [(b2.1 : Int), (b2.2 : Int)], rfl, rfl, SqT.of q1, SqT.of q2, ?_⟩
      rw [hlex]
      walk_at "rd"
      refine i_ifF rfl ?_
      walk_at "rd"
      exact ⟨rfl, _, _, _, rfl⟩
    · rintro σ H'' ⟨rfl, v1, v2, v3, rfl⟩
      walk_at "rd"
      exact q
def spWideL : Sp := fun vs H Q _ => ∃ (n c : Nat) (p : Addr) (b : Bar), vs = [.int (n : Int), .int (c : Int), .ref p] ∧ n ≤ 64 ∧ BarAt H p b ∧ b.good ∧ Wide n c b ∧ ∀ H', Same H H' → Q (.bl true) H'
theorem ok_wide (T : Txt K mg t) : FnS P w K mg base 2 "_law_wide" ["_law_size", "_law_crowd", "_law_bar"] (spWideL) := by
  refine ⟨_, _, T.F__law_wide.ok sc__law_wide (fun vs H Q E h => ?_) (fun cdv A outer s H vs Q E hr h => ?_), T.b__law_wide, T.F__law_wide.kp, T.m__law_wide⟩
  · obtain ⟨n, c, p, b, rfl, hn, hb, hg, hW, q⟩ := h
    rfl
  obtain ⟨n, c, p, b, rfl, hn, hb, hg, hW, q⟩ := h
  have G__law_inside := ok_inside (P := P) (w := w) (base := base) T
  refine ⟨_, (pss_cons (ps_for PassesOwn.never rfl (pi_range1 rfl T.B.range (pa_cons pe_int pa_nil)) (sg 3 sc__law_wide.nd)
      (pss_one (ps_if (pt_cmpR (op_eqA hr.units) (pe_op op_and (pe_op op_shr (pe_ix ix_seq (pv 2) pe_int (fun _ _ => rfl)) (pv 3)) pe_int) pe_int (nomark _))
      (pss_cons (ss 4 sc__law_wide.nd (pe_tup (pa_cons (pe_op op_and (pe_ix ix_seq (pv 2) pe_int (fun _ _ => rfl)) (pe_un un_inv (pe_op op_shl pe_int (pv 3)))) (pa_cons (pe_op op_and (pe_ix ix_seq (pv 2) pe_int (fun _ _ => rfl)) (pe_un un_inv (pe_op op_shl pe_int (pv 3)))) pa_nil))))
      (pss_one (ps_if (pt_cmpR (op_eqA hr.units) (pe_op op_and (pe_fn G__law_inside hr (pa_cons (pv 0) (pa_cons (pv 4) pa_nil))) (pe_un un_inv (pv 1))) pe_int (nomark _))
      (pss_one (ps_ret pe_bl))
      pss_nil)))
      pss_nil)))
      (pss_one (ps_ret pe_bl))), ?_⟩
  walk_at "rd0"
  refine ⟨6, rfl, by decide, by decide, ?_⟩
  refine loopR0 (n := 6) (fun i σ H' => Same H H' ∧ ∃ v1 v2, σ = [some (.int (n : Int)), some (.int (c : Int)), some (.ref p), v1, v2]) ⟨Same.refl _, _, _, rfl⟩ ?_ ?_
  · rintro i σ H' hi ⟨sm, v1, v2, rfl⟩
    have hb' : BarAt H' p b := sm _ _ hb
    have hpi := pow_small (show i ≤ 6 by omega)
    walk_at "rd"
    refine i_ixT hb' (v := .int (b.1 : Int)) rfl ?_
    walk_at "rd"
    rw [lit_eq]
    refine i_ifb (fun h1 => ?_) (fun h1 => ?_)
    · walk_at "rd"
      refine i_ixT hb' (v := .int (b.1 : Int)) rfl ?_
      walk_at "rd"
      refine i_ixT hb' (v := .int (b.2 : Int)) rfl ?_
      walk_at "rd"
      rw [shl_nat, andnot_nat, andnot_nat]
      refine j_tup (Nat.le_of_ble_eq_true rfl) fun p2 H2 s2 n2 e2 => ?_
      walk_at "rd"
      refine ⟨n, p2, b.wo i, rfl, hn, e2, wo_good hg i, ?_⟩
      walk_at "rd"
      rw [andnot_nat]
      refine i_ifF (decide_eq_false fun z => hW i h1 (sub_iff.mp (by omega))) ?_
      walk_at "rd"
      exact ⟨sm.trans s2, _, _, rfl⟩
    · walk_at "rd"
      exact ⟨sm, _, _, rfl⟩
  · rintro σ H' ⟨sm, v1, v2, rfl⟩
    walk_at "rd"
    exact q H' sm
def spCovers : Sp := fun vs H Q _ => ∃ (m c : Nat) (l : Addr) (ps : List Addr) (bs : List Bar), vs = [.ref l, .int ((2 ^ m : Nat) : Int), .int (c : Int)] ∧ m ≤ 6 ∧ BLs H l ps bs ∧ ps.length ≤ 64 ∧ Cov m c bs ∧ ∀ H', Same H H' → Q (.bl true) H'
theorem lex_irr (b : Bar) : HT.lexLt [(b.1 : Int), (b.2 : Int)] [(b.1 : Int), (b.2 : Int)] = false := by
  rw [HT.lexLt_cons, HT.lexLt_cons, HT.lexLt_nil_nil, if_pos rfl, if_pos rfl]
theorem alone {n : Nat} {bs : List Bar} {b : Bar} (h : Need n bs b) : ∃ s, s < n ∧ lies s b = true ∧ ∀ a ∈ bs, a ≠ b → lies s a = false := by
  have : ∃ k, (crowdB n b).testBit k = true ∧ ¬ (shutB n (oth bs b)).testBit k = true := Classical.byContradiction fun z => h fun k hk => Classical.byContradiction fun y => z ⟨k, hk, y⟩
  obtain ⟨k, h1, h2⟩ := this
  rw [testBit_crowd, Bool.and_eq_true, decide_eq_true_iff] at h1
  refine ⟨k, h1.1, h1.2, fun a ha hn => ?_⟩
  cases e : lies k a with
  | false => rfl
  | true => exact absurd (by rw [testBit_shut, decide_eq_true h1.1, any_iff.mpr ⟨a, oth_mem.mpr ⟨ha, hn⟩, e⟩]; rfl) h2
theorem ok_covers (T : Txt K mg t) : FnS P w K mg base 3 "_law_covers" ["_law_found", "_law_size", "_law_crowd"] (spCovers) := by
  refine ⟨_, _, T.F__law_covers.ok sc__law_covers (fun vs H Q E h => ?_) (fun cdv A outer s H vs Q E hr h => ?_), T.b__law_covers, T.F__law_covers.kp, T.m__law_covers⟩
  · obtain ⟨m, c, l, ps, bs, rfl, hm, B, h64, CV, q⟩ := h
    rfl
  obtain ⟨m, c, l, ps, bs, rfl, hm, B, h64, CV, q⟩ := h
  have G__law_bars := ok_bars (P := P) (w := w) (base := base) T
  have G__law_inside := ok_inside (P := P) (w := w) (base := base) T
  have G__law_wide := ok_wide (P := P) (w := w) (base := base) T
  have hp := pow_small hm
  have hpl : ps.length = bs.length := paired_len B.pr
  refine ⟨_, (pss_cons (ps_if (pt_not (pt_truth (pe_fn G__law_bars hr (pa_cons (pv 0) (pa_cons (pv 1) pa_nil))) (fun _ => rfl)))
      (pss_one (ps_ret pe_bl))
      pss_nil)
      (pss_cons (ps_comp 3 sc__law_covers.nd (sc := defScope s__law_covers) (N := ["_law_found", "_law_size", "_law_crowd", "_law_insides", "_law_once", "_law_twice", "_law_inside_here", "_law_k"]) (ns := ["_law_size"]) (ix := [1]) rfl rfl (by decide +kernel) rfl (pi_seq (pv 0)) (fun _ _ _ _ => pts_nil) (fun _ _ _ _ => (pe_fn G__law_inside hr (pa_cons (pv 1) (pa_cons (pv 0) pa_nil)))))
      (pss_cons (ss 4 sc__law_covers.nd pe_int)
      (pss_cons (ss 5 sc__law_covers.nd pe_int)
      (pss_cons (ps_for PassesOwn.never rfl (pi_seq (pv 3)) (sg 6 sc__law_covers.nd)
      (pss_cons (ss 5 sc__law_covers.nd (pe_op op_or (pv 5) (pe_op op_and (pv 4) (pv 6))))
      (pss_one (ss 4 sc__law_covers.nd (pe_op op_or (pv 4) (pv 6))))))
      (pss_cons (ps_if (pt_cmpR (op_neA hr.units) (pv 4) (pv 2) (nomark _))
      (pss_one (ps_ret pe_bl))
      pss_nil)
      (pss_cons (ps_for PassesOwn.never rfl (pi_range1 rfl T.B.range (pa_cons (pe_callB call_lenG rfl T.B.len bt_len (pa_cons (pv 0) pa_nil)) pa_nil)) (sg 7 sc__law_covers.nd)
      (pss_one (ps_if (PW.pt (pw_or (pt_cmpR (op_eqA hr.units) (pe_op op_and (pe_ix ix_seq (pv 3) (pv 7) (fun _ _ => rfl)) (pe_un un_inv (pv 5))) pe_int (nomark _)) (pw_or1 (pt_not (pt_truth (pe_fn G__law_wide hr (pa_cons (pv 1) (pa_cons (pv 2) (pa_cons (pe_ix ix_seq (pv 0) (pv 7) (fun _ _ => rfl)) pa_nil)))) (fun _ => rfl))))))
      (pss_one (ps_ret pe_bl))
      pss_nil)))
      (pss_one (ps_ret pe_bl))))))))), ?_⟩
  walk_at "rd0"
  refine ⟨2 ^ m, l, ps, bs, rfl, B, h64, fun b hb => ⟨(CV.gd b hb).gd, (CV.gd b hb).lt⟩, CV.so, ?_⟩
  walk_at "rd"
  refine i_ifF rfl ?_
  walk_at "rd"
  refine .inl ⟨l, _, rfl, SqL.of B.fl, ?_⟩
  refine comp_by (fun i ys => ys = (nums ((bs.take i).map (crowdB (2 ^ m)))).map V.int) (wk_list (SqL.of B.fl)) (by rw [List.length_map]; omega) rfl ?_ ?_
  · intro i x ys acc H' hx s1 hacc ea hy _ R k
    obtain ⟨p, rfl, hx'⟩ := get_ref hx
    obtain ⟨b, hbi, hbp⟩ := paired_get B.pr hx'
    simp only [subS, List.map_cons, List.map_nil]
    walk_at "rd"
    refine k _ H' (Same.refl _) (fun z => by cases z) fun z R2 k2 => ?_
    walk_at "rd"
    refine ⟨2 ^ m, p, b, rfl, hp, s1 _ _ hbp, (CV.gd b (List.mem_of_getElem? hbi)).gd, ?_⟩
    refine k2 _ H' (Same.refl _) ?_
    rw [hy, take_snoc hbi, List.map_append, List.map_cons, List.map_nil, nums_snoc]
  intro li ys H1 n1 s1 e1 hy
  rw [List.length_map, hpl, List.take_length] at hy
  subst hy
  have ln : (bs.map (crowdB (2 ^ m))).length = bs.length := List.length_map _
  walk_at "rd"
  refine seqL (xs := (nums (bs.map (crowdB (2 ^ m)))).map V.int) (fun j σ H' => H' = H1 ∧ ∃ (tw : Nat) (v1 v2 : Option V), (∀ s, tw.testBit s = true → ∃ i1 i2, i1 < i2 ∧ i2 < j ∧ ∃ b1 b2, bs[i1]? = some b1 ∧ bs[i2]? = some b2 ∧ lies s b1 = true ∧ lies s b2 = true) ∧ σ = [some (.ref l), some (.int ((2 ^ m : Nat) : Int)), some (.int (c : Int)), some (.ref li), some (.int ((shutB (2 ^ m) (bs.take j) : Nat) : Int)), some (.int (tw : Int)), v1, v2]) ⟨rfl, 0, _, _, (fun s hs => by rw [Nat.zero_testBit] at hs; cases hs), by rw [List.take_zero, shutB_nil]; rfl⟩ (fun j σ H' _ hp => by obtain ⟨rfl, _⟩ := hp; exact SqL.of e1) ?_ ?_
  · rintro j x σ H' hx ⟨rfl, tw, v1, v2, htw, rfl⟩
    have hj : j < bs.length := by
      have := (List.getElem?_eq_some_iff.mp hx).1
      rw [len_nums, ln] at this
      exact this
    obtain ⟨b, hbj⟩ : ∃ b, bs[j]? = some b := ⟨bs[j], List.getElem?_eq_getElem hj⟩
    have hxe : x = .int ((crowdB (2 ^ m) b : Nat) : Int) := by
      rw [get_nums (by rw [ln]; exact hj)] at hx
      have e : (bs.map (crowdB (2 ^ m))).getD j 0 = crowdB (2 ^ m) b := by rw [List.getD_eq_getElem?_getD, List.getElem?_map, hbj]; rfl
      rw [e] at hx
      exact (Option.some.inj hx).symm
    subst hxe
    walk_at "rd"
    rw [and_nat, or_nat, or_nat]
    refine ⟨rfl, _, _, _, fun s hs => ?_, by rw [take_snoc hbj, shutB_snoc]⟩
    rw [Nat.testBit_or, Bool.or_eq_true] at hs
    rcases hs with hs | hs
    · obtain ⟨i1, i2, a1, a2, r⟩ := htw s hs
      exact ⟨i1, i2, a1, by omega, r⟩
    · rw [Nat.testBit_and, Bool.and_eq_true, testBit_shut, testBit_crowd, Bool.and_eq_true, Bool.and_eq_true] at hs
      obtain ⟨b1, hb1, hl1⟩ := any_iff.mp hs.1.2
      obtain ⟨i1, hi1⟩ := List.mem_iff_getElem?.mp hb1
      have hi1l := (List.getElem?_eq_some_iff.mp hi1).1
      rw [List.length_take] at hi1l
      rw [List.getElem?_take, if_pos (by omega)] at hi1
      exact ⟨i1, j, by omega, Nat.lt_succ_self _, b1, b, hi1, hbj, hl1, hs.2.2⟩
  rintro σ H2 ⟨rfl, tw, v1, v2, htw, rfl⟩
  rw [len_nums, ln, List.take_length, CV.al]
  walk_at "rd"
  refine i_ifF (by simp) ?_
  walk_at "rd"
  have hfl2 := s1 _ _ B.fl
  refine i_lenL hfl2 ?_
  rw [List.length_map, hpl]
  walk_at "rd"
  refine ⟨_, rfl, by omega, by omega, ?_⟩
  rw [Int.toNat_natCast]
  refine loopR0 (n := bs.length) (fun i σ H' => Same H2 H' ∧ ∃ v1 v2, σ = [some (.ref l), some (.int ((2 ^ m : Nat) : Int)), some (.int (c : Int)), some (.ref li), some (.int (c : Int)), some (.int (tw : Int)), v1, v2]) ⟨Same.refl _, _, _, rfl⟩ ?_ ?_
  · rintro i σ H' hi ⟨sm, w1, w2, rfl⟩
    obtain ⟨p, hpi⟩ : ∃ p, ps[i]? = some p := ⟨ps[i]'(by omega), List.getElem?_eq_getElem (by omega)⟩
    obtain ⟨b, hbi, hbp⟩ := paired_get B.pr hpi
    have hbm := List.mem_of_getElem? hbi
    obtain ⟨s, hsn, hsl, hso⟩ := alone (CV.ne b hbm)
    have htf : tw.testBit s = false := by
      cases e : tw.testBit s with
      | false => rfl
      | true =>
        obtain ⟨i1, i2, a1, a2, b1, b2, g1, g2, l1, l2⟩ := htw s e
        have f1 : b1 = b := Classical.byContradiction fun z => by rw [hso b1 (List.mem_of_getElem? g1) z] at l1; cases l1
        have f2 : b2 = b := Classical.byContradiction fun z => by rw [hso b2 (List.mem_of_getElem? g2) z] at l2; cases l2
        subst f1
        subst f2
        obtain ⟨k1, h1⟩ := List.getElem?_eq_some_iff.mp g1
        obtain ⟨k2, h2⟩ := List.getElem?_eq_some_iff.mp g2
        have := List.pairwise_iff_getElem.mp CV.so i1 i2 k1 k2 a1
        rw [h1, h2, lex_irr] at this
        cases this
    have hne : crowdB (2 ^ m) b - (crowdB (2 ^ m) b &&& tw) ≠ 0 := fun z => by
      have := sub_iff.mp z s (by rw [testBit_crowd, decide_eq_true hsn, hsl]; rfl)
      rw [htf] at this
      cases this
    walk_at "rd"
    refine i_ixL (sm _ _ e1) (get_nums (by rw [ln]; exact hi)) ?_
    rw [show (bs.map (crowdB (2 ^ m))).getD i 0 = crowdB (2 ^ m) b by rw [List.getD_eq_getElem?_getD, List.getElem?_map, hbi]; rfl]
    walk_at "rd"
    rw [andnot_nat]
    refine i_ifF (decide_eq_false (by omega)) ?_
    walk_at "rd"
    refine i_ixL (sm _ _ hfl2) (v := .ref p) (by rw [List.getElem?_map, hpi]; rfl) ?_
    walk_at "rd"
    refine ⟨2 ^ m, c, p, b, rfl, hp, sm _ _ (s1 _ _ hbp), (CV.gd b hbm).gd, CV.wd b hbm, fun H3 s3 => ?_⟩
    walk_at "rd"
    refine i_ifF rfl ?_
    walk_at "rd"
    exact ⟨sm.trans s3, _, _, rfl⟩
  · rintro σ H' ⟨sm, w1, w2, rfl⟩
    walk_at "rd"
    exact q H' (s1.trans sm)
def spCrowdBy (K : PySem.W.Frag) : Sp := fun vs H Q _ => ∃ (sc : Addr) (ns : List Int) (m : Nat), vs = [.ref sc, .int ((2 ^ m : Nat) : Int)] ∧ SqL K H sc (ns.map V.int) ∧ m ≤ 6 ∧ ∀ (r : Nat) H', Same H H' → r < 2 ^ 2 ^ m → Q (.int (r : Int)) H'
theorem ok_crowd_by (T : Txt K mg t) : FnS P w K mg base 2 "_law_crowd_by" ["_law_script", "_law_size"] ((spCrowdBy K)) := by
  refine ⟨_, _, T.F__law_crowd_by.ok sc__law_crowd_by (fun vs H Q E h => ?_) (fun cdv A outer s H vs Q E hr h => ?_), T.b__law_crowd_by, T.F__law_crowd_by.kp, T.m__law_crowd_by⟩
  · obtain ⟨sc, ns, m, rfl, hS, hm, q⟩ := h
    rfl
  obtain ⟨sc, ns, m, rfl, hS, hm, q⟩ := h
  have G__law_cell_at := ok_cell_at (P := P) (w := w) (base := base) T
  have G__law_inside := ok_inside (P := P) (w := w) (base := base) T
  have hp := pow_small hm
  have hp0 : 0 < 2 ^ m := Nat.two_pow_pos m
  have h2p : 0 < 2 ^ 2 ^ m := Nat.two_pow_pos _
  obtain ⟨d, hd, ld⟩ := mod_nat (cell ns 1) (2 ^ m)
  refine ⟨_, (pss_cons (ss 2 sc__law_crowd_by.nd (pe_op op_fdivG (pe_fn G__law_cell_at hr (pa_cons (pv 0) (pa_cons pe_int pa_nil))) pe_int))
      (pss_cons (ss 3 sc__law_crowd_by.nd (pe_fn G__law_cell_at hr (pa_cons (pv 0) (pa_cons pe_int pa_nil))))
      (pss_cons (ps_if (pt_cmpR (op_eqA hr.units) (pe_op op_mod (pv 2) pe_int) pe_int (nomark _))
      (pss_one (ps_ret (pe_op op_mulG (pe_op op_sub (pe_op op_shl pe_int (pv 1)) pe_int) (pe_op op_mod (pv 3) pe_int))))
      pss_nil)
      (pss_cons (ps_if (pt_cmpR (op_eqA hr.units) (pe_op op_mod (pv 2) pe_int) pe_int (nomark _))
      (pss_one (ps_ret (pe_op op_mod (pv 3) (pe_op op_shl pe_int (pv 1)))))
      pss_nil)
      (pss_cons (ss 4 sc__law_crowd_by.nd pe_int)
      (pss_cons (ps_for PassesOwn.never rfl (pi_seq (pe_slice sl_any (pv 0) (po_some pe_int) (po_some pe_int))) (sg 5 sc__law_crowd_by.nd)
      (pss_cons (ss 6 sc__law_crowd_by.nd (pe_op op_or (pe_op op_mod (pv 5) (pv 1)) (pe_op op_mod (pe_op op_fdivG (pe_op op_fdivG (pv 5) (pv 1)) (pv 1)) (pv 1))))
      (pss_one (ss 4 sc__law_crowd_by.nd (pe_op op_or (pv 4) (pe_fn G__law_inside hr (pa_cons (pv 1) (pa_cons (pe_tup (pa_cons (pv 6) (pa_cons (pe_op op_and (pv 6) (pe_op op_mod (pe_op op_fdivG (pv 5) (pv 1)) (pv 1))) pa_nil))) pa_nil))))))))
      (pss_cons (ps_if (pt_cmpR (op_eqA hr.units) (pe_op op_mod (pv 2) pe_int) pe_int (nomark _))
      (pss_one (ps_ret (pe_op op_sub (pe_op op_sub (pe_op op_shl pe_int (pv 1)) pe_int) (pv 4))))
      pss_nil)
      (pss_one (ps_ret (pv 4)))))))))), ?_⟩
  walk_at "rd0"
  refine ⟨sc, ns, 0, rfl, hS, ?_⟩
  walk_at "rd"
  generalize cell ns 0 / 6 = y
  refine ⟨sc, ns, 1, rfl, hS, ?_⟩
  walk_at "rd"
  refine i_ifd (fun h1 => ?_) (fun h1 => ?_)
  · walk_at "rd"
    rw [shl_nat]
    have eev : ((2 ^ 2 ^ m : Nat) : Int) - 1 = ((2 ^ 2 ^ m - 1 : Nat) : Int) := by omega
    rw [eev]
    refine i_mulI (.inr ⟨by omega, by omega⟩) ?_
    by_cases e : cell ns 1 % 2 = 0
    · rw [e, Int.mul_zero]; exact q 0 H (Same.refl _) h2p
    · rw [show cell ns 1 % 2 = 1 by omega, Int.mul_one]; exact q _ H (Same.refl _) (by omega)
  walk_at "rd"
  refine i_ifd (fun h2 => ?_) (fun h2 => ?_)
  · walk_at "rd"
    rw [shl_nat]
    refine i_rI (by show (0 : Int) < _; omega) ?_
    rw [hd]
    exact q _ H (Same.refl _) ld
  walk_at "rd"
  refine j_slA hS ((cut_mid _ 1 42).trans (map_int_mid ns 1 41)) fun cp H1 s1 n1 e1 => ?_
  generalize (ns.drop 1).take 41 = cs at e1 ⊢
  refine seqL (xs := cs.map V.int) (fun i σ H' => ∃ (cr : Nat) (v1 v2 : Option V), Same H1 H' ∧ cr < 2 ^ 2 ^ m ∧ σ = [some (.ref sc), some (.int ((2 ^ m : Nat) : Int)), some (.int y), some (.int (cell ns 1)), some (.int (cr : Int)), v1, v2]) ⟨0, _, _, Same.refl _, h2p, rfl⟩ (fun i σ H' _ hp => by obtain ⟨_, _, _, sm, _⟩ := hp; exact SqL.of (sm _ _ e1)) ?_ ?_
  · rintro i x σ H' hx ⟨cr, v1, v2, sm, lcr, rfl⟩
    obtain ⟨z, rfl, hz⟩ := get_int hx
    obtain ⟨a, ha, la⟩ := mod_nat z m
    obtain ⟨b, hb, lb⟩ := mod_nat (z / ((2 ^ m : Nat) : Int) / ((2 ^ m : Nat) : Int)) m
    obtain ⟨e, he, le⟩ := mod_nat (z / ((2 ^ m : Nat) : Int)) m
    walk_at "rd"
    rw [ha]
    walk_at "rd"
    rw [hb]
    walk_at "rd"
    rw [or_nat]
    walk_at "rd"
    rw [he, and_nat]
    refine j_tup (Nat.le_of_ble_eq_true rfl) fun p H2 s2 n2 e2 => ?_
    walk_at "rd"
    refine ⟨2 ^ m, p, (a ||| b, (a ||| b) &&& e), rfl, hp, e2, good_and hm (Nat.or_lt_two_pow la lb), ?_⟩
    walk_at "rd"
    rw [or_nat]
    exact ⟨_, _, _, sm.trans s2, Nat.or_lt_two_pow lcr (bits_lt _ _), rfl⟩
  · rintro σ H' ⟨cr, v1, v2, sm, lcr, rfl⟩
    walk_at "rd"
    refine i_ifd (fun h3 => ?_) (fun h3 => ?_)
    · walk_at "rd"
      rw [shl_nat, show ((2 ^ 2 ^ m : Nat) : Int) - 1 - (cr : Int) = ((2 ^ 2 ^ m - 1 - cr : Nat) : Int) by omega]
      exact q _ H' (s1.trans sm) (by omega)
    · walk_at "rd"
      exact q _ H' (s1.trans sm) lcr
end
-- CUT
section
variable {P : Program} {w : World} {K : PySem.W.Frag} {mg : Str → Option Value} {base : Heap} {t : Ad}
theorem ok_law (T : Txt K mg t) : FnOk P w K mg base CX0 10 t.f_law t.d_law ["_law_script"] (spLaw K) := by
  refine T.F_law.ok sc_law (fun vs H Q E h => ?_) (fun cdv A outer s H vs Q E hr h => ?_)
  · obtain ⟨a, ns, rfl, _⟩ := h
    rfl
  obtain ⟨sc, ns, rfl, hS, h63, hO, q⟩ := h
  have G__law_cell_at := ok_cell_at (P := P) (w := w) (base := base) T
  have G__law_crowd_by := ok_crowd_by (P := P) (w := w) (base := base) T
  have G__law_covers := ok_covers (P := P) (w := w) (base := base) T
  have G_cover := ok_cover (P := P) (w := w) (base := base) T
  obtain ⟨m, hm, hm6⟩ : ∃ m : Nat, 1 + cell ns 0 % 6 = (m : Int) ∧ m ≤ 6 := ⟨(1 + cell ns 0 % 6).toNat, by omega, by omega⟩
  have hp := pow_small hm6
  have hp0 : 0 < 2 ^ m := Nat.two_pow_pos m
  have h2p : 0 < 2 ^ 2 ^ m := Nat.two_pow_pos _
  obtain ⟨d, hd, ld⟩ := mod_nat (cell ns 2) (2 ^ m)
  refine ⟨_, (pss_cons (ss 1 sc_law.nd (pe_op op_addG pe_int (pe_op op_mod (pe_fn G__law_cell_at hr (pa_cons (pv 0) (pa_cons pe_int pa_nil))) pe_int)))
      (pss_cons (ss 2 sc_law.nd (pe_op op_shl pe_int (pv 1)))
      (pss_cons (ss 3 sc_law.nd (pe_fn G__law_crowd_by hr (pa_cons (pv 0) (pa_cons (pv 2) pa_nil))))
      (pss_cons (ss 4 sc_law.nd (pe_fn G_cover hr (pa_cons (pv 1) (pa_cons (pv 3) pa_nil))))
      (pss_cons (ps_if (pt_not (pt_truth (pe_fn G__law_covers hr (pa_cons (pv 4) (pa_cons (pv 2) (pa_cons (pv 3) pa_nil)))) (fun _ => rfl)))
      (pss_one (ps_ret pe_bl))
      pss_nil)
      (pss_cons (ps_expr (pe_bm PySem.F.plainAttrs_list PySem.F.slot_list_append PySem.F.type_list_append mt_append (pv 4) (pa_cons (pe_tup (pa_cons pe_int (pa_cons pe_int pa_nil))) pa_nil)))
      (pss_cons (ss 5 sc_law.nd (pe_op op_mod (pe_fn G__law_cell_at hr (pa_cons (pv 0) (pa_cons pe_int pa_nil))) (pe_op op_shl pe_int (pv 2))))
      (pss_cons (ps_if (pt_not (pt_truth (pe_fn G__law_covers hr (pa_cons (pe_fn G_cover hr (pa_cons (pv 1) (pa_cons (pv 5) pa_nil))) (pa_cons (pv 2) (pa_cons (pv 5) pa_nil)))) (fun _ => rfl)))
      (pss_one (ps_ret pe_bl))
      pss_nil)
      (pss_one (ps_ret (pe_fn G__law_covers hr (pa_cons (pe_fn G_cover hr (pa_cons (pv 1) (pa_cons (pv 3) pa_nil))) (pa_cons (pv 2) (pa_cons (pv 3) pa_nil)))))))))))))), ?_⟩
  walk_at "rd0"
  refine ⟨sc, ns, 0, rfl, hS, ?_⟩
  walk_at "rd"
  rw [hm]
  walk_at "rd"
  rw [shl_nat]
  refine ⟨sc, ns, m, rfl, hS, hm6, fun c H1 s1 hc => ?_⟩
  walk_at "rd"
  refine ⟨m, c, rfl, hm6, hc, fun l H2 ps bs s2 n2 B2 C2 h2 => ?_⟩
  walk_at "rd"
  refine ⟨m, c, l, ps, bs, rfl, hm6, B2, h2, C2, fun H3 s3 => ?_⟩
  walk_at "rd"
  refine i_ifF rfl ?_
  have f3 := s3 _ _ B2.fl
  walk_at "rd"
  refine ⟨tyL f3, ?_⟩
  walk_at "rd"
  refine j_tup (Nat.le_of_ble_eq_true rfl) fun p4 H4 s4 n4 e4 => ?_
  walk_at "rd"
  refine j_append (s4 _ _ f3) (by rw [List.length_map]; omega) fun H5 b5 e5 => ?_
  have s5 : Same H H5 := b5.same (fresh_of s1 n2) (s1.trans (s2.trans (s3.trans s4)))
  walk_at "rd"
  refine ⟨sc, ns, 2, rfl, s5.seq hS, ?_⟩
  walk_at "rd"
  rw [shl_nat]
  refine i_rI (by show (0 : Int) < _; omega) ?_
  rw [hd]
  walk_at "rd"
  refine ⟨m, d, rfl, hm6, ld, fun l6 H6 ps6 bs6 s6 n6 B6 C6 h6 => ?_⟩
  walk_at "rd"
  refine ⟨m, d, l6, ps6, bs6, rfl, hm6, B6, h6, C6, fun H7 s7 => ?_⟩
  walk_at "rd"
  refine i_ifF rfl ?_
  walk_at "rd"
  refine ⟨m, c, rfl, hm6, hc, fun l8 H8 ps8 bs8 s8 n8 B8 C8 h8 => ?_⟩
  walk_at "rd"
  exact ⟨m, c, l8, ps8, bs8, rfl, hm6, B8, h8, C8, fun H9 s9 => q _⟩
end

end LW
open PySem PySem.W PyProof.Rows
set_option maxRecDepth 100000 in
set_option maxHeartbeats 0 in
theorem PySem.Challenge.cw_evernever_k24_cover_holds : PySem.Challenge.rw_evernever_k24_cover.Holds := by
  w_on; o_law; k_head; (case hw => w_witness2)
  k_fill
  refine L2.walk_ofK (l := PySem.Challenge.rw_evernever_k24_cover) (n := 63) (k := 10) (x := "_law_script") (CX := L2.CX0) (sp := LW.spLaw) rfl (by decide) rfl ⟨rfl, by decide, by decide⟩ (fun w h Y => PySem.W.kIn_of Y) ?F ?S ?C
  case F =>
    intro w mg fa h KX G hmg
    have T : ∃ t, LW.Txt (L2.KOf KX) mg t := by
      dsimp only [L2.KOf]
      refine' LW.txt_mk KX G ?a_least ?a_bar_of ?a_crowd_of ?a_asked_by ?a_without ?a_shut_out ?a_widest ?a_needed ?a_cover ?a__law_cell_at ?a__law_inside ?a__law_bars ?a__law_wide ?a__law_covers ?a__law_crowd_by ?a_law ?l_least ?c_least ?k_least ?l_bar_of ?c_bar_of ?k_bar_of ?l_crowd_of ?c_crowd_of ?k_crowd_of ?l_asked_by ?c_asked_by ?k_asked_by ?l_without ?c_without ?k_without ?l_shut_out ?c_shut_out ?k_shut_out ?l_widest ?c_widest ?k_widest ?l_needed ?c_needed ?k_needed ?l_cover ?c_cover ?k_cover ?l__law_cell_at ?c__law_cell_at ?k__law_cell_at ?l__law_inside ?c__law_inside ?k__law_inside ?l__law_bars ?c__law_bars ?k__law_bars ?l__law_wide ?c__law_wide ?k__law_wide ?l__law_covers ?c__law_covers ?k__law_covers ?l__law_crowd_by ?c__law_crowd_by ?k__law_crowd_by ?l_law ?c_law ?k_law ?hn_ ?htk_ ?b_len ?b_range ?b_isinstance ?b_int ?b_bool ?b_str ?b_list ?b_tuple ?b_dict ?b_set ?b_sorted ?b_max ?b_min ?b_sum ?b_any ?b_all ?b_abs ?b_reversed ?b_enumerate ?b_zip
      (case a_least => k_is)
      (case a_bar_of => k_is)
      (case a_crowd_of => k_is)
      (case a_asked_by => k_is)
      (case a_without => k_is)
      (case a_shut_out => k_is)
      (case a_widest => k_is)
      (case a_needed => k_is)
      (case a_cover => k_is)
      (case a__law_cell_at => k_is)
      (case a__law_inside => k_is)
      (case a__law_bars => k_is)
      (case a__law_wide => k_is)
      (case a__law_covers => k_is)
      (case a__law_crowd_by => k_is)
      (case a_law => k_is)
      (case l_least => k_is)
      (case c_least => k_is)
      (case k_least => k_is)
      (case l_bar_of => k_is)
      (case c_bar_of => k_is)
      (case k_bar_of => k_is)
      (case l_crowd_of => k_is)
      (case c_crowd_of => k_is)
      (case k_crowd_of => k_is)
      (case l_asked_by => k_is)
      (case c_asked_by => k_is)
      (case k_asked_by => k_is)
      (case l_without => k_is)
      (case c_without => k_is)
      (case k_without => k_is)
      (case l_shut_out => k_is)
      (case c_shut_out => k_is)
      (case k_shut_out => k_is)
      (case l_widest => k_is)
      (case c_widest => k_is)
      (case k_widest => k_is)
      (case l_needed => k_is)
      (case c_needed => k_is)
      (case k_needed => k_is)
      (case l_cover => k_is)
      (case c_cover => k_is)
      (case k_cover => k_is)
      (case l__law_cell_at => k_is)
      (case c__law_cell_at => k_is)
      (case k__law_cell_at => k_is)
      (case l__law_inside => k_is)
      (case c__law_inside => k_is)
      (case k__law_inside => k_is)
      (case l__law_bars => k_is)
      (case c__law_bars => k_is)
      (case k__law_bars => k_is)
      (case l__law_wide => k_is)
      (case c__law_wide => k_is)
      (case k__law_wide => k_is)
      (case l__law_covers => k_is)
      (case c__law_covers => k_is)
      (case k__law_covers => k_is)
      (case l__law_crowd_by => k_is)
      (case c__law_crowd_by => k_is)
      (case k__law_crowd_by => k_is)
      (case l_law => k_is)
      (case c_law => k_is)
      (case k_law => k_is)
      (case hn_ => k_is)
      (case htk_ => k_is)
      (case b_len => k_is)
      (case b_range => k_is)
      (case b_isinstance => k_is)
      (case b_int => k_is)
      (case b_bool => k_is)
      (case b_str => k_is)
      (case b_list => k_is)
      (case b_tuple => k_is)
      (case b_dict => k_is)
      (case b_set => k_is)
      (case b_sorted => k_is)
      (case b_max => k_is)
      (case b_min => k_is)
      (case b_sum => k_is)
      (case b_any => k_is)
      (case b_all => k_is)
      (case b_abs => k_is)
      (case b_reversed => k_is)
      (case b_enumerate => k_is)
      (case b_zip => k_is)
    obtain ⟨t, T⟩ := T
    have e0 := hmg.symm.trans T.m_law
    cases e0
    exact ⟨_, T.bl, fun base _ _ => LW.ok_law T⟩
  case S => exact fun K H a ns hl hO hS => ⟨a, ns, rfl, hS, hl, hO, fun _ => rfl⟩
  case C => exact fun _ _ _ _ z => z
#print axioms PySem.Challenge.cw_evernever_k24_cover_holds
