import PyProof.Rows.All
import Wide.All
import OpenK.AllK
import Wide.FinOn
import Lean
import PyProof.EqAt
import PyProof.EqKinds
import PyProof.TupleCall
import PyProof.P3Eq
import PyProof.NeKinds
import KE.KRevIter
import PyProof.EnumMake
import PyProof.EnumFor
import PyProof.Draws
import PyProof.ZipIter
import PyProof.ConsumeWalk
import PySem.Challenge.RW_evernever_k03_crowd_of_a_formula
set_option Elab.async false
set_option linter.all false
set_option maxRecDepth 100000
set_option maxHeartbeats 4000000
set_option maxRecDepth 100000
namespace L2
open PySem PySem.Spec PyProof.Rows

/-- a key: an int or a str -/
abbrev Key := Sum Int Str
def keyIs : Key → Value → Bool
  | .inl k, v => Value.isInt k v
  | .inr x, v => Value.isStrOf x v
def keyH (w : World) : Key → Int
  | .inl k => hashInt k
  | .inr x => hashStr w x
theorem keyIs_shape : ∀ {k : Key} {v : Value}, keyIs k v = true → (∃ i t, k = Sum.inl i ∧ v = Value.int i t) ∨ (∃ x t, k = Sum.inr x ∧ v = Value.str x t)
  | .inl i, v, h => by
    obtain ⟨t, e⟩ := Value.isInt_shape (k := i) (v := v) h
    exact .inl ⟨i, t, rfl, e⟩
  | .inr x, v, h => by
    obtain ⟨t, e⟩ := Value.isStrOf_shape (x := x) (v := v) h
    exact .inr ⟨x, t, rfl, e⟩
theorem key_ll (a b : Int) : decide ((Sum.inl a : Key) = Sum.inl b) = (a == b) := by
  by_cases e : a = b
  · subst e; simp
  · have h : ¬ (Sum.inl a : Key) = Sum.inl b := fun q => e (Sum.inl.inj q)
    rw [decide_eq_false h]
    exact (beq_eq_false_iff_ne.mpr e).symm
theorem key_rr (a b : Str) : decide ((Sum.inr a : Key) = Sum.inr b) = decide (a = b) := by
  by_cases e : a = b
  · subst e; simp
  · have h : ¬ (Sum.inr a : Key) = Sum.inr b := fun q => e (Sum.inr.inj q)
    rw [decide_eq_false h, decide_eq_false e]
theorem key_lr (a : Int) (b : Str) : decide ((Sum.inl a : Key) = Sum.inr b) = false := decide_eq_false (fun q => nomatch q)
theorem key_rl (a : Str) (b : Int) : decide ((Sum.inr a : Key) = Sum.inl b) = false := decide_eq_false (fun q => nomatch q)

def mixKind (prog : Program) (w : World) : PySem.KeyKind prog w Key where
  is := keyIs
  hash := keyH w
  inj := fun v a b ha hb => by
    rcases keyIs_shape ha with ⟨i, t, rfl, rfl⟩ | ⟨x, t, rfl, rfl⟩
    · rcases keyIs_shape hb with ⟨j, u, rfl, e⟩ | ⟨y, u, rfl, e⟩
      · injection e with e1 _; rw [e1]
      · exact nomatch e
    · rcases keyIs_shape hb with ⟨j, u, rfl, e⟩ | ⟨y, u, rfl, e⟩
      · exact nomatch e
      · injection e with e1 _; rw [e1]
  byValue := fun k v h => by
    rcases keyIs_shape h with ⟨i, t, rfl, rfl⟩ | ⟨x, t, rfl, rfl⟩ <;> rfl
  pyHash := fun hv h => by
    rcases keyIs_shape hv with ⟨i, t, rfl, rfl⟩ | ⟨x, t, rfl, rfl⟩
    · exact wpAny_pyHash_int h
    · exact wpAny_pyHash_str h
  eqBool := fun hu hv h => by
    rcases keyIs_shape hu with ⟨i, t, rfl, rfl⟩ | ⟨x, t, rfl, rfl⟩
    · rcases keyIs_shape hv with ⟨j, u, rfl, rfl⟩ | ⟨y, u, rfl, rfl⟩
      · rw [key_ll] at h; exact wpAny_eqBool_int h
      · rw [key_lr] at h; exact SeqAt.EqAt.int_str i t y u _ _ _ _ h
    · rcases keyIs_shape hv with ⟨j, u, rfl, rfl⟩ | ⟨y, u, rfl, rfl⟩
      · rw [key_rl] at h; exact SeqAt.EqAt.str_int x t j u _ _ _ _ h
      · rw [key_rr] at h; exact wpAny_eqBool_str h
  «strs» := fun k x t v h => by
    rcases keyIs_shape h with ⟨i, u, rfl, e⟩ | ⟨y, u, rfl, e⟩
    · exact nomatch e
    · injection e with e1 _
      subst e1
      cases v <;> rfl

end L2

namespace L2
open PySem PySem.Spec PyProof.Rows

/-- a value, without the heap -/
inductive V where
  | non | bl (b : Bool) | int (i : Int) | str (x : Str) | byt (b : Array UInt8) | flt (b : UInt64) | ref (a : Addr) | ty (n : String)
  deriving DecidableEq

def RelV : V → Value → Prop
  | .non, u => u = Value.none
  | .bl b, u => u = Value.bool b
  | .int i, u => ∃ t, u = Value.int i t
  | .str x, u => ∃ t, u = Value.str x t
  | .byt b, u => ∃ t, u = Value.bytes b t
  | .flt b, u => ∃ t, u = Value.float b t
  | .ref a, u => u = Value.ref a
  | .ty n, u => u = Value.type n

abbrev Vals : List V → List Value → Prop := Paired RelV
theorem Vals.length {xs : List V} {us : List Value} (r : Vals xs us) : xs.length = us.length := Paired.length r
theorem Vals.get : ∀ {xs : List V} {us : List Value} {i : Nat} {x : V}, Vals xs us → xs[i]? = some x → ∃ u, us[i]? = some u ∧ RelV x u
  | _, _, _, _, .nil, e => by simp at e
  | _, _, 0, _, .cons r _, e => by simp at e; subst e; exact ⟨_, rfl, r⟩
  | _, _, i + 1, x, .cons _ t, e => by
    obtain ⟨u, h1, h2⟩ := Vals.get (i := i) (x := x) t (by simpa using e)
    exact ⟨u, by simpa using h1, h2⟩
theorem Vals.append : ∀ {xs ys : List V} {us ws : List Value}, Vals xs us → Vals ys ws → Vals (xs ++ ys) (us ++ ws)
  | _, _, _, _, .nil, s => s
  | _, _, _, _, .cons r t, s => .cons r (Vals.append t s)
theorem Vals.take : ∀ {xs : List V} {us : List Value} (n : Nat), Vals xs us → Vals (xs.take n) (us.take n)
  | _, _, 0, _ => .nil
  | _, _, _ + 1, .nil => .nil
  | _, _, n + 1, .cons r t => .cons r (Vals.take n t)
theorem Vals.drop : ∀ {xs : List V} {us : List Value} (n : Nat), Vals xs us → Vals (xs.drop n) (us.drop n)
  | _, _, 0, r => r
  | _, _, _ + 1, .nil => .nil
  | _, _, n + 1, .cons _ t => Vals.drop n t
def RelO : Option V → Option Value → Prop
  | some v, some u => RelV v u
  | none, none => True
  | _, _ => False
def KV {κ : Type} : List (κ × V) → List (κ × Value) → Prop := Paired fun (p : κ × V) (q : κ × Value) => p.1 = q.1 ∧ RelV p.2 q.2

/-- a key of a dict (00_mix): an int or a text -/
def kV : Key → V
  | .inl i => .int i
  | .inr x => .str x

/-- what stands at a tracked address -/
inductive HO where
  /-- a list -/
  | lst (xs : List V)
  /-- a tuple (never changes) -/
  | tup (xs : List V)
  /-- a dict whose keys are ints and texts; one whose keys are tuples of ints and texts (the empty one is both) -/
  | dK (kvs : List (Key × V)) | dT (kvs : List (List Key × V))
  /-- a set of ints: its members, its size -/
  | set (S : Int → Bool) (n : Nat)
  /-- an instance of the class at C, its dict at dx, its attributes -/
  | ins (C dx : Addr) (fs : List (Str × V))
  /-- the dict of the instance at x -/
  | own (x : Addr)
  /-- the dict of an exception -/
  | xd (fs : List (Str × V))
  /-- a bound method, f of x -/
  | met (f x : Addr)
  /-- a range object lo, lo + 1, .. below hi -/
  | rng (lo hi : Int)
  /-- a thing that is known to the object (the script; a dict while a loop walks it): read, never written while it is so -/
  | frz (o : Obj) (u : HO)
  /-- a code object's table -/
  | tbl (ps : Array Value)
  /-- any other thing, by what is true of its one object (a def of one's own: SetO a S n := HO.ext fun h => ..) -/
  | ext (φ : Heap → Prop)

abbrev Hp := Addr → Option HO
def upd (H : Hp) (a : Addr) (o : HO) : Hp := fun b => if b = a then some o else H b
theorem upd_same {H : Hp} {a : Addr} {o : HO} : upd H a o a = some o := by unfold upd; rw [if_pos rfl]
theorem upd_ne {H : Hp} {a b : Addr} {o : HO} (h : b ≠ a) : upd H a o b = H b := by unfold upd; rw [if_neg h]
theorem upd_upd {H : Hp} {a : Addr} {o u : HO} : upd (upd H a o) a u = upd H a u := by
  funext b; unfold upd; split <;> rfl
/-- two objects of different content stand apart -/
theorem ne_of {H : Hp} {a b : Addr} {o u : HO} (h : H a = some o) (h' : H b = some u) (d : o ≠ u) : a ≠ b := by
  intro e; subst e; rw [h] at h'; exact d (Option.some.inj h')
theorem ne_of_none {H : Hp} {a b : Addr} {o : HO} (h : H a = some o) (h' : H b = none) : a ≠ b := by
  intro e; subst e; rw [h] at h'; cases h'

section
variable (P : Program) (w : World)
def ObjOk (H : Hp) (h : Heap) (a : Addr) : HO → Prop
  | .lst xs => xs.length ≤ sizeLine ∧ ∃ (its : List Value) (n : Nat), Vals xs its ∧ h.get? a = some { cls := .type "list", data := .seq its.toArray n }
  | .tup xs => xs.length ≤ sizeLine ∧ ∃ its : List Value, Vals xs its ∧ IsTup h a its.toArray
  | .dK kvs => kvs.length ≤ sizeLine ∧ (a == sysModules) = false ∧ ∃ vs, KV kvs vs ∧ h.DictOf (mixKind P w) a vs
  | .dT kvs => kvs.length ≤ sizeLine ∧ (a == sysModules) = false ∧ ∃ xs : List (List Key × Addr × Value),
      Paired (fun (p : List Key × V) (q : List Key × Addr × Value) => p.1 = q.1 ∧ H q.2.1 = some (.tup (p.1.map kV)) ∧ RelV p.2 q.2.2) kvs xs ∧
      ∃ o es ep, h.get? a = some o ∧ o.ExactDict ∧ o.data = .dict es ep ∧ es.toList = xs.map (entryOfKey (tupleKind (mixKind P w))) ∧ (xs.map (·.1)).Nodup
  | .set S n => h.SetOf (intKind P w) a S n
  | .ins C dx fs => H dx = some (.own a) ∧ fs.length ≤ 1000 ∧ dx ≠ a ∧ h.get? a = some (PySem.W.instObj C dx) ∧
      ∃ mA, h.Ns1 dx mA ∧ (∀ f, RelO (fs.lookup f) (mA f)) ∧ PySem.Within mA (fs.map (·.1))
  | .own _ => ∃ o, h.get? a = some o
  | .xd fs => ∃ mA, h.Ns1 a mA ∧ ∀ f, RelO (fs.lookup f) (mA f)
  | .rng lo hi => ∃ t u v, h.get? a = some { cls := .type "range", data := .fields #[.int lo t, .int hi u, .int 1 v] }
  | .frz o u => h.get? a = some o ∧ ObjOk H h a u
  | .tbl ps => h.get? a = some { cls := .none, data := .fields ps }
  | .met f x => h.get? a = some (PySem.W.methodObj (.ref f) (.ref x))
  | .ext φ => φ h ∧ (∃ o, h.get? a = some o) ∧ ∀ h1 h2 : Heap, φ h1 → (∀ o, h1.get? a = some o → h2.get? a = some o) → φ h2
/-- the abstract heap is held -/
def HOk (H : Hp) (h : Heap) : Prop := ∀ a o, H a = some o → ObjOk P w H h a o
end

section
variable {P : Program} {w : World} {H H' : Hp} {h h' : Heap} {a : Addr} {o : HO}
theorem ObjOk.lt (x : ObjOk P w H h a o) : a < h.objs.size := by
  cases o with
  | lst xs => obtain ⟨_, _, _, _, e⟩ := x; exact Heap.lt_size e
  | tup xs => obtain ⟨_, _, _, p⟩ := x; exact p.lt
  | dK kvs => obtain ⟨_, _, _, _, o, _, _, e, _⟩ := x; exact Heap.lt_size e
  | dT kvs => obtain ⟨_, _, _, _, o, _, _, e, _⟩ := x; exact Heap.lt_size e
  | set S n => obtain ⟨o, _, _, _, e, _⟩ := x; exact Heap.lt_size e
  | ins C dx fs => obtain ⟨_, _, _, e, _⟩ := x; exact Heap.lt_size e
  | own y => obtain ⟨_, e⟩ := x; exact Heap.lt_size e
  | xd fs => obtain ⟨_, ⟨_, _, _, e, _⟩, _⟩ := x; exact Heap.lt_size e
  | rng lo hi => obtain ⟨_, _, _, e⟩ := x; exact Heap.lt_size e
  | frz ob u => obtain ⟨e, _⟩ := x; exact Heap.lt_size e
  | tbl ps => exact Heap.lt_size (show h.get? a = some _ from x)
  | met f y => exact Heap.lt_size (show h.get? a = some _ from x)
  | ext φ => obtain ⟨_, ⟨_, e⟩, _⟩ := x; exact Heap.lt_size e
theorem Paired.mapP {α β : Type} {F G : α → β → Prop} : ∀ {l₁ : List α} {l₂ : List β}, Paired F l₁ l₂ → (∀ a b, F a b → G a b) → Paired G l₁ l₂
  | _, _, .nil, _ => .nil
  | _, _, .cons r t, f => .cons (f _ _ r) (Paired.mapP t f)
/-- what an object's description leans on: its own object, its own dict, the tuples -/
theorem ObjOk.stay (x : ObjOk P w H h a o) (k : ∀ b u, (b = a ∨ H b = some (.own a)) → h.get? b = some u → h'.get? b = some u)
    (ho : ∀ b, H b = some (.own a) → H' b = some (.own a)) (ht : ∀ b xs, H b = some (.tup xs) → H' b = some (.tup xs)) : ObjOk P w H' h' a o := by
  induction o with
  | lst xs => obtain ⟨z, its, n, r, e⟩ := x; exact ⟨z, its, n, r, k _ _ (.inl rfl) e⟩
  | tup xs => obtain ⟨z, its, r, ob, e, c⟩ := x; exact ⟨z, its, r, ob, k _ _ (.inl rfl) e, c⟩
  | dK kvs => obtain ⟨z, y, vs, r, ob, es, ep, e, c⟩ := x; exact ⟨z, y, vs, r, ob, es, ep, k _ _ (.inl rfl) e, c⟩
  | dT kvs =>
    obtain ⟨z, y, xs, r, ob, es, ep, e, c⟩ := x
    exact ⟨z, y, xs, Paired.mapP r fun p q z => ⟨z.1, ht _ _ z.2.1, z.2.2⟩, ob, es, ep, k _ _ (.inl rfl) e, c⟩
  | set S n => obtain ⟨ob, es, ep, t, e, c⟩ := x; exact ⟨ob, es, ep, t, k _ _ (.inl rfl) e, c⟩
  | ins C dx fs =>
    obtain ⟨d, z, ne, e, mA, ⟨od, es, ep, e2, c⟩, r⟩ := x
    exact ⟨ho _ d, z, ne, k _ _ (.inl rfl) e, mA, ⟨od, es, ep, k _ _ (.inr d) e2, c⟩, r⟩
  | own y => obtain ⟨ob, e⟩ := x; exact ⟨ob, k _ _ (.inl rfl) e⟩
  | xd fs => obtain ⟨mA, ⟨od, es, ep, e, c⟩, r⟩ := x; exact ⟨mA, ⟨od, es, ep, k _ _ (.inl rfl) e, c⟩, r⟩
  | rng lo hi => obtain ⟨t, u, v, e⟩ := x; exact ⟨t, u, v, k _ _ (.inl rfl) e⟩
  | frz ob u ih => obtain ⟨e, q⟩ := x; exact ⟨k _ _ (.inl rfl) e, ih q⟩
  | tbl ps =>
    have e : h.get? a = some { cls := .none, data := .fields ps } := x
    show h'.get? a = some { cls := .none, data := .fields ps }
    exact k a _ (.inl rfl) e
  | met f y =>
    have e : h.get? a = some (PySem.W.methodObj (.ref f) (.ref y)) := x
    show h'.get? a = some (PySem.W.methodObj (.ref f) (.ref y))
    exact k a _ (.inl rfl) e
  | ext φ => obtain ⟨p, ⟨o, e⟩, st⟩ := x; exact ⟨st _ _ p fun o q => k _ _ (.inl rfl) q, ⟨o, k _ _ (.inl rfl) e⟩, st⟩
theorem HOk.lt (x : HOk P w H h) (e : H a = some o) : a < h.objs.size := (x a o e).lt
theorem HOk.fresh (x : HOk P w H h) (e : h.objs.size ≤ a) : H a = none := by
  cases q : H a with
  | none => rfl
  | some u => exact absurd (Nat.lt_of_lt_of_le (x.lt q) e) (Nat.lt_irrefl _)
/-- every object of the heap is kept -/
theorem HOk.kept (x : HOk P w H h) (k : ∀ b u, h.get? b = some u → h'.get? b = some u) : HOk P w H h' := fun a o e =>
  (x a o e).stay (fun b u _ q => k b u q) (fun _ q => q) fun _ _ q => q
/-- a new object is laid and tracked -/
theorem HOk.laid (x : HOk P w H h) (k : ∀ b u, h.get? b = some u → h'.get? b = some u) (hp : h.objs.size ≤ a) (new : ObjOk P w (upd H a o) h' a o) : HOk P w (upd H a o) h' := fun b u e => by
  have hn := x.fresh hp
  by_cases hb : b = a
  · subst hb; rw [upd_same] at e; cases e; exact new
  · rw [upd_ne hb] at e
    exact (x b u e).stay (fun c v _ q => k c v q) (fun c q => by rw [upd_ne (ne_of_none q hn)]; exact q) fun c xs q => by rw [upd_ne (ne_of_none q hn)]; exact q
end

/-- what may be read as u: it is u, or a known u -/
def Rd (H : Hp) (a : Addr) (u : HO) : Prop := H a = some u ∨ ∃ o, H a = some (.frz o u)
theorem Rd.ok {P : Program} {w : World} {H : Hp} {h : Heap} {a : Addr} {u : HO} (r : Rd H a u) (x : HOk P w H h) : ObjOk P w H h a u := by
  rcases r with r | ⟨o, r⟩
  · exact x a u r
  · obtain ⟨_, q⟩ := x a _ r
    exact q
/-- what may be written -/
def Mut : Option HO → Prop
  | some (.lst _) => True
  | some (.dK _) => True
  | some (.dT _) => True
  | some (.set _ _) => True
  | some (.ins _ _ _) => True
  | some (.ext _) => True
  | _ => False
section
variable {P : Program} {w : World} {H : Hp} {h h' : Heap} {x e : Addr} {o' : HO}
/-- the object at e is changed: x itself, or the dict of the instance x -/
theorem HOk.write (ok : HOk P w H h) (mu : Mut (H x)) (he : e = x ∨ H e = some (.own x)) (k : ∀ b u, b ≠ e → h.get? b = some u → h'.get? b = some u) (heo : ∃ u, h'.get? e = some u)
    (new : ObjOk P w (upd H x o') h' x o') : HOk P w (upd H x o') h' := fun b u q => by
  have nown : ∀ c y, H c = some (.own y) → c ≠ x := fun c y r z => by subst z; rw [r] at mu; exact mu
  have ntup : ∀ c xs, H c = some (.tup xs) → c ≠ x := fun c xs r z => by subst z; rw [r] at mu; exact mu
  by_cases hb : b = x
  · subst hb; rw [upd_same] at q; cases q; exact new
  · rw [upd_ne hb] at q
    by_cases hbe : b = e
    · have q' : H b = some (.own x) := by
        rcases he with z | z
        · exact absurd (hbe.trans z) hb
        · rw [hbe]; exact z
      rw [q] at q'; cases q'
      obtain ⟨v, hv⟩ := heo
      exact ⟨v, by rw [hbe]; exact hv⟩
    · refine (ok b u q).stay (fun c v hc r => k c v ?_ r) (fun c r => by rw [upd_ne (nown c b r)]; exact r) fun c xs r => by rw [upd_ne (ntup c xs r)]; exact r
      rcases hc with rfl | hc
      · exact hbe
      · rintro rfl
        rcases he with z | z
        · exact nown c b hc z
        · rw [hc] at z; cases z; exact hb rfl
end

structure Un (fs ex : List Addr) (H H' : Hp) (h h' : Heap) : Prop where
  keep : ∀ b o, h.get? b = some o → H b = none → b ∉ fs → b ∉ ex → h'.get? b = some o
  slot : ∀ b o, h.get? b = some o → H b = none → b ∈ fs → b ∉ ex → ∃ sl, h'.get? b = some { o with slots := sl }
  free : ∀ b o, h.get? b = some o → H b = none → b ∉ ex → H' b = none
  there : ∀ b o, h.get? b = some o → b ∉ ex → ∃ o', h'.get? b = some o'
  tups : ∀ b xs, H b = some (.tup xs) → H' b = some (.tup xs)
  frzs : ∀ b o u, H b = some (.frz o u) → H' b = some (.frz o u)
  tbls : ∀ b ps, H b = some (.tbl ps) → ∃ more, H' b = some (.tbl (ps ++ more))
section
variable {fs fs' ex ex' : List Addr} {H H1 H2 : Hp} {h h1 h2 h' : Heap} {a x e : Addr} {o : HO}
theorem Un.any (u : Un fs ex H H1 h h1) {b : Addr} {ob : Obj} (q : h.get? b = some ob) (n : H b = none) (hx : b ∉ ex) : ∃ sl, h1.get? b = some { ob with slots := sl } := by
  by_cases hb : b ∈ fs
  · exact u.slot b ob q n hb hx
  · exact ⟨ob.slots, u.keep b ob q n hb hx⟩
theorem Un.kept (k : ∀ b u, h.get? b = some u → h'.get? b = some u) : Un fs ex H H h h' :=
  ⟨fun b ob q _ _ _ => k b ob q, fun b ob q _ _ _ => ⟨ob.slots, k b ob q⟩, fun _ _ _ n _ => n, fun b ob q _ => ⟨ob, k b ob q⟩, fun _ _ q => q, fun _ _ _ q => q, fun _ ps q => ⟨#[], by rw [q]; simp⟩⟩
theorem Un.refl : Un fs ex H H h h := Un.kept fun _ _ q => q
theorem Un.laid (k : ∀ b u, h.get? b = some u → h'.get? b = some u) (hp : h.objs.size ≤ a) (hn : H a = none) : Un fs ex H (upd H a o) h h' where
  keep := fun b u q _ _ _ => k b u q
  slot := fun b u q _ _ _ => ⟨u.slots, k b u q⟩
  free := fun b u q n _ => by rw [upd_ne (Nat.ne_of_lt (Nat.lt_of_lt_of_le (Heap.lt_size q) hp))]; exact n
  there := fun b u q _ => ⟨u, k b u q⟩
  tups := fun b xs q => by rw [upd_ne (ne_of_none q hn)]; exact q
  frzs := fun b u xs q => by rw [upd_ne (ne_of_none q hn)]; exact q
  tbls := fun b ps q => ⟨#[], by rw [upd_ne (ne_of_none q hn), q]; simp⟩
theorem Un.write (mu : Mut (H x)) (he : e = x ∨ H e = some (.own x)) (k : ∀ b u, b ≠ e → h.get? b = some u → h'.get? b = some u) (heo : ∃ u, h'.get? e = some u) : Un fs ex H (upd H x o) h h' := by
  have hx : ∀ b, H b = none → b ≠ x := fun b n z => by subst z; rw [n] at mu; exact mu
  have hb : ∀ b, H b = none → b ≠ e := fun b n z => by
    subst z
    rcases he with r | r
    · exact hx b n r
    · rw [n] at r; cases r
  have hm : ∀ b u, H b = some u → ¬ Mut (some u) → b ≠ x := fun b u q nm z => by subst z; rw [q] at mu; exact nm mu
  refine ⟨fun b u q n _ _ => k b u (hb b n) q, fun b u q n _ _ => ⟨u.slots, k b u (hb b n) q⟩, fun b u q n _ => by rw [upd_ne (hx b n)]; exact n, fun b u q _ => ?_,
    fun b xs q => by rw [upd_ne (hm b _ q fun z => z)]; exact q, fun b u xs q => by rw [upd_ne (hm b _ q fun z => z)]; exact q, fun b ps q => ⟨#[], by rw [upd_ne (hm b _ q fun z => z), q]; simp⟩⟩
  by_cases hbe : b = e
  · subst hbe; exact heo
  · exact ⟨u, k b u hbe q⟩
end

def trk (h : Heap) (H : Hp) : List Addr := (List.range h.objs.size).filter fun a => (H a).isSome
def hidT (h : Heap) (H : Hp) : Heap := PySem.W.hideAll h (trk h H)
theorem hidT_size (h : Heap) (H : Hp) : (hidT h H).objs.size = h.objs.size := PySem.W.hideAll_size _ _
theorem hidT_get {h : Heap} {H : Hp} {b : Addr} {o : Obj} (e : h.get? b = some o) (n : H b = none) : (hidT h H).get? b = some o :=
  PySem.W.hideAll_get _ e fun hm => by
    have q : (H b).isSome = true := (List.mem_filter.mp hm).2
    rw [n] at q; simp at q
theorem of_hidT {h : Heap} {H : Hp} {b : Addr} {o : Obj} (e : (hidT h H).get? b = some o) : h.get? b = some o ∧ H b = none := by
  have e' : h.get? b = some o := PySem.W.of_hideAll (trk h H) e
  refine ⟨e', ?_⟩
  cases q : H b with
  | none => rfl
  | some x =>
    have hm : b ∈ trk h H := List.mem_filter.mpr ⟨List.mem_range.mpr (Heap.lt_size e'), by simp [q]⟩
    have z : (hidT h H).get? b = none := PySem.W.hideAll_none (trk h H) hm
    rw [z] at e; cases e

end L2

namespace L2
open PySem PySem.Spec PyProof.Rows

/-- the module's facts, over the base: the heap at the law's entry without what is tracked there -/
structure Mod (K : PySem.W.Frag) (mg : Str → Option Value) (base : Heap) : Prop where
  kin : K.In base
  glob : base.Ns mainGlobals mg
  blt : ∃ mb, base.Ns builtinsNs mb ∧ ∀ x : Str, x ≠ "__name__" → mb x = bootBuiltins x
  nolimit : base.NoLimit

/-- the context: a def's body (or a comprehension's block) running. base: fixed through the whole law; s₀, H₀: the entry; outer: the frames whose slots others may change (a def's callers); stack: all frames that run;
   ex: iterators that were made ahead of the entry and are walked here (a comprehension's); fn: the names whose cells were made at the entry (a def: all; a comprehension's block: its own); calm: not within an except suite; pn: pins that every state bears; xe: what is wanted of an exception that leaves the code -/
structure Cx where
  prog : Program
  w : World
  K : PySem.W.Frag
  mg : Str → Option Value
  base : Heap
  A : Around
  N : List Str
  s₀ : Shared
  H₀ : Hp
  env : Env
  outer : List Env
  stack : List Env
  ex : List Addr
  fn : Str → Bool
  calm : Bool
  pn : List (Addr × Obj)
  xe : Value → Shared → Prop
/-- the callers' frames -/
def frs (l : List Env) : List Addr := l.filterMap (·.frame)
abbrev Cx.fs (X : Cx) : List Addr := frs X.outer

def Vis (sc : Scope) (x : Str) : Prop := sc.names.lookup x = some .local ∨ sc.names.lookup x = some .cell ∨ sc.names.lookup x = some .free
def Loc (sc : Scope) (x : Str) : Prop := sc.names.lookup x = some .local ∨ sc.names.lookup x = some .cell
def Look (env : Env) (h : Heap) (m : Str → Option Value) (x : Str) (u : Value) : Prop :=
  (env.kindOf x = some .local ∧ m x = some u) ∨ ((env.kindOf x = some .cell ∨ env.kindOf x = some .free) ∧ ∃ c, env.cells.lookup x = some c ∧ h.IsCell c (some u))

structure Cx.Ok (X : Cx) : Prop where
  mod : Mod X.K X.mg X.base
  kind : X.env.scope.kind = .function
  glob : X.env.globals = mainGlobals
  blt : X.env.builtins = builtinsNs
  above : X.s₀.heap.objs.size ≤ X.env.locals
  inj : ∀ x y c, X.env.cells.lookup x = some c → X.env.cells.lookup y = some c → x = y
  has : ∀ x, (X.env.kindOf x = some .cell ∨ X.env.kindOf x = some .free) → ∃ c, X.env.cells.lookup x = some c
  cab : ∀ x c, X.fn x = true → X.env.cells.lookup x = some c → X.s₀.heap.objs.size ≤ c
  hd : X.calm = true → X.A.handled = none
  frames : X.A.frames = some X.stack
  stk : X.stack = X.outer ∨ (X.stack = X.env :: X.outer ∧ X.env.frame = some X.env.locals)
  exf : ∀ b ∈ X.ex, b ≠ X.env.locals ∧ ∀ x c, X.env.cells.lookup x = some c → c ≠ b
  bs : ∀ b o, X.base.get? b = some o → X.s₀.heap.get? b = some o ∧ X.H₀ b = none
  bsz : X.base.objs.size ≤ X.s₀.heap.objs.size
  noex : ∀ b o, X.base.get? b = some o → b ∉ X.ex
  exfs : ∀ b ∈ X.ex, b ∉ X.fs
  funs : X.s₀.heap.FunFrames X.base X.outer
  frf : ∀ b ∈ X.fs, X.H₀ b = none

structure Inv (X : Cx) (pins : List (Addr × Obj)) (σ : List (Option V)) (H : Hp) (s : Shared) : Prop where
  ok : X.Ok
  os : s.os = X.s₀.os
  bare : AllBare s.gens
  base : Un X.fs X.ex X.H₀ H X.s₀.heap s.heap
  loc : ∃ m, s.heap.Ns X.env.locals m ∧ ∀ (i : Nat) (x : Str) (v : V), X.N[i]? = some x → σ[i]? = some (some v) → Vis X.env.scope x → ∃ u, RelV v u ∧ Look X.env s.heap m x u
  cell : ∀ x c, X.env.cells.lookup x = some c → ∃ v, s.heap.IsCell c v
  free : H X.env.locals = none
  freeC : ∀ x c, X.env.cells.lookup x = some c → H c = none
  pin : ∀ p ∈ X.pn ++ pins, s.heap.get? p.1 = some p.2 ∧ H p.1 = none ∧ p.1 ≠ X.env.locals ∧ p.1 ∉ X.fs ∧ ∀ v, p.2.data ≠ .cell v
  hok : HOk X.prog X.w H s.heap
  len : σ.length = X.N.length

section
variable {X : Cx} {pins : List (Addr × Obj)} {σ : List (Option V)} {H H' : Hp} {s : Shared} {h' : Heap}

theorem Cx.Ok.nofr (ok : X.Ok) {b : Addr} {o : Obj} (e : X.base.get? b = some o) : b ∉ X.fs := fun hb => by
  have := (ok.funs.mem hb).1
  rw [e] at this; cases this
theorem Inv.bs (I : Inv X pins σ H s) : ∀ b o, X.base.get? b = some o → s.heap.get? b = some o ∧ H b = none := fun b o e =>
  ⟨I.base.keep b o (I.ok.bs b o e).1 (I.ok.bs b o e).2 (I.ok.nofr e) (I.ok.noex b o e), I.base.free b o (I.ok.bs b o e).1 (I.ok.bs b o e).2 (I.ok.noex b o e)⟩
theorem Inv.bk (I : Inv X pins σ H s) : ∀ b o, X.base.get? b = some o → s.heap.get? b = some o := fun b o e => (I.bs b o e).1
theorem Inv.mod (I : Inv X pins σ H s) : Mod X.K X.mg X.base := I.ok.mod
theorem Inv.kIn (I : Inv X pins σ H s) : X.K.In s.heap := I.ok.mod.kin.keeps I.bk
theorem Inv.lt (I : Inv X pins σ H s) : X.env.locals < s.heap.objs.size := let ⟨_, hn, _⟩ := I.loc; hn.lt
theorem Inv.sz (I : Inv X pins σ H s) : X.s₀.heap.objs.size ≤ s.heap.objs.size := Nat.le_trans I.ok.above (Nat.le_of_lt I.lt)
theorem Inv.nofs (I : Inv X pins σ H s) {a : Addr} (h : s.heap.objs.size ≤ a) : a ∉ X.fs := fun hb => by
  obtain ⟨_, o, ho, _⟩ := I.ok.funs.mem hb
  exact absurd (Nat.lt_of_lt_of_le (Heap.lt_size ho) (Nat.le_trans I.sz h)) (Nat.lt_irrefl _)
theorem Inv.cne (I : Inv X pins σ H s) : ∀ x c, X.env.cells.lookup x = some c → c ≠ X.env.locals := fun x c e z => by
  obtain ⟨v, o, ho, hd⟩ := I.cell x c e
  obtain ⟨m, ⟨o', es, ep, ho', hd', _⟩, _⟩ := I.loc
  rw [z, ho'] at ho; cases ho; rw [hd'] at hd; cases hd
theorem Inv.funs (I : Inv X pins σ H s) : s.heap.FunFrames X.base X.outer := by
  have all : ∀ (l : List Env), (∀ b ∈ frs l, b ∈ X.fs) → X.s₀.heap.FunFrames X.base l → s.heap.FunFrames X.base l := by
    intro l
    induction l with
    | nil => intro _ _; trivial
    | cons env r ih =>
      intro hs hl
      obtain ⟨hk, ⟨L, o, hf, hn, ho, hd⟩, hr⟩ := hl
      have hL : L ∈ X.fs := hs L (by unfold frs; rw [List.filterMap_cons, hf]; exact List.mem_cons_self)
      obtain ⟨sl, e⟩ := I.base.slot L o ho (I.ok.frf L hL) hL fun z => I.ok.exfs L z hL
      exact ⟨hk, ⟨L, _, hf, hn, e, hd⟩, ih (fun b hb => hs b (by unfold frs; rw [List.filterMap_cons, hf]; exact List.mem_cons_of_mem _ hb)) hr⟩
  exact all X.outer (fun _ hb => hb) I.ok.funs

/-- the frames that run, for a call -/
theorem Inv.stack (I : Inv X pins σ H s) : s.heap.FunFrames X.base X.stack := by
  rcases I.ok.stk with e | ⟨e, hf⟩
  · rw [e]; exact I.funs
  · rw [e]
    obtain ⟨m, hn, _⟩ := I.loc
    refine .cons (by rw [I.ok.kind]; decide) hf hn ?_ I.funs
    exact Heap.get?_none_of_le (Nat.le_trans I.ok.bsz I.ok.above)
theorem Inv.stkSub (I : Inv X pins σ H s) : ∀ b ∈ frs X.stack, b ∈ X.env.locals :: X.fs := fun b hb => by
  rcases I.ok.stk with e | ⟨e, hf⟩
  · rw [e] at hb; exact List.mem_cons_of_mem _ hb
  · rw [e] at hb
    unfold frs at hb
    rw [List.filterMap_cons, hf] at hb
    exact hb
theorem Inv.stkFree (I : Inv X pins σ H s) : ∀ b ∈ frs X.stack, H b = none := fun b hb => by
  rcases List.mem_cons.mp (I.stkSub b hb) with e | hb
  · rw [e]; exact I.free
  · obtain ⟨_, o, ho, _⟩ := I.ok.funs.mem hb
    exact I.base.free b o ho (I.ok.frf b hb) fun z => I.ok.exfs b z hb

/-- THE STEP: the untracked objects but the frame and the records at ch are kept (the callers' frames up to slots), the frame's map is kept, the new abstract heap is held -/
theorem Inv.step {g' : Array GenState} {t' : Nat} {d' : Drawn} {ch : List Addr} (I : Inv X pins σ H s)
    (hch : ∀ b ∈ ch, (b ∈ X.ex ∨ X.s₀.heap.objs.size ≤ b) ∧ b ≠ X.env.locals ∧ (∀ x c, X.env.cells.lookup x = some c → c ≠ b) ∧ ∀ p ∈ X.pn ++ pins, p.1 ≠ b)
    (keep : ∀ b o, b ≠ X.env.locals → b ∉ X.fs → b ∉ ch → s.heap.get? b = some o → H b = none → h'.get? b = some o)
    (slot : ∀ b o, b ≠ X.env.locals → b ∈ X.fs → b ∉ ch → s.heap.get? b = some o → H b = none → ∃ sl, h'.get? b = some { o with slots := sl }) (free : ∀ b o, b ∉ ch → s.heap.get? b = some o → H b = none → H' b = none)
    (there : ∀ b o, b ∉ ch → s.heap.get? b = some o → ∃ o', h'.get? b = some o')
    (tups : ∀ b xs, H b = some (.tup xs) → H' b = some (.tup xs)) (frzs : ∀ b o u, H b = some (.frz o u) → H' b = some (.frz o u)) (tbls : ∀ b ps, H b = some (.tbl ps) → ∃ more, H' b = some (.tbl (ps ++ more)))
    (ns : ∀ m, s.heap.Ns X.env.locals m → h'.Ns X.env.locals m) (hok : HOk X.prog X.w H' h') (hg : AllBare g') :
    Inv X pins σ H' { s with heap := h', gens := g', drawn := d', toks := t' } := by
  have neL : ∀ b o, X.s₀.heap.get? b = some o → b ≠ X.env.locals := fun b o e => Nat.ne_of_lt (Nat.lt_of_lt_of_le (Heap.lt_size e) I.ok.above)
  have neC : ∀ b o, X.s₀.heap.get? b = some o → b ∉ X.ex → b ∉ ch := fun b o e hx hb => by
    rcases (hch b hb).1 with z | z
    · exact hx z
    · exact absurd (Nat.lt_of_lt_of_le (Heap.lt_size e) z) (Nat.lt_irrefl _)
  have cellK : ∀ x c, X.env.cells.lookup x = some c → ∀ v, s.heap.IsCell c v → h'.IsCell c v := fun x c e v ⟨o, ho, hd⟩ => by
    have nch : c ∉ ch := fun z => (hch c z).2.2.1 x c e rfl
    by_cases hc : c ∈ X.fs
    · obtain ⟨sl, q⟩ := slot c o (I.cne x c e) hc nch ho (I.freeC x c e)
      exact ⟨_, q, hd⟩
    · exact ⟨o, keep c o (I.cne x c e) hc nch ho (I.freeC x c e), hd⟩
  refine ⟨I.ok, I.os, hg, ⟨fun b o e n hb hx => ?_, fun b o e n hb hx => ?_, fun b o e n hx => ?_, fun b o e hx => ?_, fun b xs e => tups b xs (I.base.tups b xs e), fun b o xs e => frzs b o xs (I.base.frzs b o xs e), fun b ps e => ?_⟩, ?_, fun x c e => ?_, ?_, fun x c e => ?_, fun p hp => ?_, hok, I.len⟩
  · exact keep b o (neL b o e) hb (neC b o e hx) (I.base.keep b o e n hb hx) (I.base.free b o e n hx)
  · obtain ⟨sl, e1⟩ := I.base.slot b o e n hb hx
    obtain ⟨sl', e2⟩ := slot b _ (neL b o e) hb (neC b o e hx) e1 (I.base.free b o e n hx)
    exact ⟨sl', e2⟩
  · obtain ⟨o', e1⟩ := I.base.there b o e hx
    exact free b o' (neC b o e hx) e1 (I.base.free b o e n hx)
  · obtain ⟨o', e1⟩ := I.base.there b o e hx
    exact there b o' (neC b o e hx) e1
  · obtain ⟨m1, e1⟩ := I.base.tbls b ps e
    obtain ⟨m2, e2⟩ := tbls b _ e1
    exact ⟨m1 ++ m2, by rw [e2, Array.append_assoc]⟩
  · obtain ⟨m, hn, hl⟩ := I.loc
    refine ⟨m, ns m hn, fun i x v e1 e2 e3 => ?_⟩
    obtain ⟨u, r, l⟩ := hl i x v e1 e2 e3
    refine ⟨u, r, ?_⟩
    rcases l with l | ⟨k, c, e, z⟩
    · exact .inl l
    · exact .inr ⟨k, c, e, cellK x c e _ z⟩
  · obtain ⟨v, z⟩ := I.cell x c e
    exact ⟨v, cellK x c e v z⟩
  · obtain ⟨m, ⟨o, _, _, ho, _⟩, _⟩ := I.loc
    exact free _ o (fun z => (hch _ z).2.1 rfl) ho I.free
  · obtain ⟨v, o, ho, hd⟩ := I.cell x c e
    exact free c o (fun z => (hch c z).2.2.1 x c e rfl) ho (I.freeC x c e)
  · obtain ⟨e, n, ne, nf, d⟩ := I.pin p hp
    have nch : p.1 ∉ ch := fun z => (hch p.1 z).2.2.2 p hp rfl
    exact ⟨keep p.1 p.2 ne nf nch e n, free p.1 p.2 nch e n, ne, nf, d⟩
/-- .. where the frame's own object is kept too -/
theorem Inv.un {t' : Nat} (I : Inv X pins σ H s) (u : Un X.fs [] H H' s.heap h') (hok : HOk X.prog X.w H' h') : Inv X pins σ H' { s with heap := h', toks := t' } := by
  obtain ⟨m, ⟨o, es, ep, ho, r⟩, _⟩ := id I.loc
  obtain ⟨sl, hL⟩ := u.any ho I.free (by simp)
  exact I.step (g' := s.gens) (d' := s.drawn) (ch := []) (fun _ z => nomatch z) (fun b o _ hb _ e n => u.keep b o e n hb (by simp)) (fun b o _ hb _ e n => u.slot b o e n hb (by simp)) (fun b o _ e n => u.free b o e n (by simp)) (fun b o _ e => u.there b o e (by simp)) u.tups u.frzs u.tbls (fun m' hm => by
    obtain ⟨o', es', ep', ho', r'⟩ := hm
    rw [ho] at ho'; cases ho'
    exact ⟨_, es', ep', hL, r'⟩) hok I.bare
/-- behind a call (or a comprehension's block): the slots of this frame may have changed too, the records at ch may have turned -/
theorem Inv.call {g' : Array GenState} {t' : Nat} {d' : Drawn} {ch : List Addr} (I : Inv X pins σ H s) (u : Un (frs X.stack) ch H H' s.heap h') (hok : HOk X.prog X.w H' h') (hg : AllBare g')
    (hch : ∀ b ∈ ch, (b ∈ X.ex ∨ X.s₀.heap.objs.size ≤ b) ∧ b ≠ X.env.locals ∧ (∀ x c, X.env.cells.lookup x = some c → c ≠ b) ∧ ∀ p ∈ X.pn ++ pins, p.1 ≠ b) :
    Inv X pins σ H' { s with heap := h', gens := g', drawn := d', toks := t' } := by
  obtain ⟨m, ⟨o, es, ep, ho, r⟩, _⟩ := id I.loc
  obtain ⟨sl, hL⟩ := u.any ho I.free fun z => (hch _ z).2.1 rfl
  exact I.step (ch := ch) hch (fun b o hL hb hc e n => u.keep b o e n (fun z => (List.mem_cons.mp (I.stkSub b z)).elim hL hb) hc) (fun b o _ _ hc e n => u.any e n hc) (fun b o hc e n => u.free b o e n hc) (fun b o hc e => u.there b o e hc) u.tups u.frzs u.tbls (fun m' hm => by
    obtain ⟨o', es', ep', ho', r'⟩ := hm
    rw [ho] at ho'; cases ho'
    exact ⟨_, es', ep', hL, r'⟩) hok hg
/-- an untracked record of ours (an iterator) has turned -/
theorem Inv.turned {t' : Nat} {it : Addr} (I : Inv X pins σ H s) (k : ∀ b o, b ≠ it → s.heap.get? b = some o → h'.get? b = some o) (hn : H it = none) (hL : it ≠ X.env.locals)
    (h1 : it ∈ X.ex ∨ X.s₀.heap.objs.size ≤ it) (h2 : ∀ x c, X.env.cells.lookup x = some c → c ≠ it) (h3 : ∀ p ∈ X.pn ++ pins, p.1 ≠ it) : Inv X pins σ H { s with heap := h', toks := t' } := by
  have nit : ∀ b u, H b = some u → b ≠ it := fun b u e z => by rw [z, hn] at e; cases e
  refine I.step (g' := s.gens) (d' := s.drawn) (ch := [it]) (fun b hb => ?_) (fun b o _ _ hc e _ => k b o (fun z => hc (by simp [z])) e) (fun b o _ _ hc e _ => ⟨o.slots, k b o (fun z => hc (by simp [z])) e⟩) (fun _ _ _ _ n => n)
    (fun b o hc e => ⟨o, k b o (fun z => hc (by simp [z])) e⟩) (fun _ _ e => e) (fun _ _ _ e => e) (fun b ps e => ⟨#[], by rw [e]; simp⟩) (fun m hm => ?_) (fun b u e => ?_) I.bare
  · have e : b = it := by simpa using hb
    subst e
    exact ⟨h1, hL, h2, h3⟩
  · obtain ⟨o, es, ep, ho, r⟩ := hm
    exact ⟨o, es, ep, k _ o (Ne.symm hL) ho, r⟩
  · refine (I.hok b u e).stay (fun c v hc q => k c v ?_ q) (fun _ q => q) fun _ _ q => q
    rcases hc with z | z
    · rw [z]; exact nit b u e
    · exact nit c _ z
theorem Inv.tok (I : Inv X pins σ H s) (t : Nat) : Inv X pins σ H { s with toks := t } := I.un (h' := s.heap) (t' := t) Un.refl I.hok
/-- all objects kept -/
theorem Inv.kept {t' : Nat} (I : Inv X pins σ H s) (k : ∀ b u, s.heap.get? b = some u → h'.get? b = some u) : Inv X pins σ H { s with heap := h', toks := t' } := I.un (Un.kept k) (I.hok.kept k)
/-- a new object laid and tracked -/
theorem Inv.laid {a : Addr} {o : HO} {t' : Nat} (I : Inv X pins σ H s) (k : ∀ b u, s.heap.get? b = some u → h'.get? b = some u) (hp : s.heap.objs.size ≤ a) (new : ObjOk X.prog X.w (upd H a o) h' a o) :
    Inv X pins σ (upd H a o) { s with heap := h', toks := t' } := I.un (Un.laid k hp (I.hok.fresh hp)) (I.hok.laid k hp new)
/-- an object written -/
theorem Inv.write {x e : Addr} {o : HO} {t' : Nat} (I : Inv X pins σ H s) (mu : Mut (H x)) (he : e = x ∨ H e = some (.own x)) (k : ∀ b u, b ≠ e → s.heap.get? b = some u → h'.get? b = some u) (heo : ∃ u, h'.get? e = some u)
    (new : ObjOk X.prog X.w (upd H x o) h' x o) : Inv X pins σ (upd H x o) { s with heap := h', toks := t' } := I.un (Un.write mu he k heo) (I.hok.write mu he k heo new)
theorem Inv.pins_of {pins' : List (Addr × Obj)} (I : Inv X pins σ H s) (h : ∀ p ∈ pins', s.heap.get? p.1 = some p.2 ∧ H p.1 = none ∧ p.1 ≠ X.env.locals ∧ p.1 ∉ X.fs ∧ ∀ v, p.2.data ≠ .cell v) : Inv X pins' σ H s :=
  ⟨I.ok, I.os, I.bare, I.base, I.loc, I.cell, I.free, I.freeC, fun p hp => (List.mem_append.mp hp).elim (fun z => I.pin p (List.mem_append_left _ z)) (h p), I.hok, I.len⟩

theorem nodup_ix {N : List Str} (hN : N.Nodup) {i j : Nat} {x : Str} (a : N[i]? = some x) (b : N[j]? = some x) : i = j := by
  obtain ⟨h1, e1⟩ := List.getElem?_eq_some_iff.mp a
  obtain ⟨h2, e2⟩ := List.getElem?_eq_some_iff.mp b
  exact (List.getElem_inj hN).mp (e1.trans e2.symm)

/-- a name is stored; what changed -/
theorem store_ok2 {M : Model} {A : Around} {E : Value → Shared → Prop} {i : Nat} {x : Str} {v : V} {u : Value} {Q : Unit → Shared → Prop} (I : Inv X pins σ H s) (hN : X.N.Nodup) (hi : X.N[i]? = some x) (hx : Loc X.env.scope x) (r : RelV v u)
    (h : ∀ s', Inv X pins (σ.set i (some v)) H s' → (∃ a, Heap.SameBut a s.heap s'.heap ∧ (a = X.env.locals ∨ X.env.cells.lookup x = some a)) → Q () s') (hf : X.fn x = true ∨ X.env.scope.names.lookup x = some .local := by first | exact .inl rfl | exact .inr rfl | assumption) : wpAny M A (storeName X.env x u) Q E s := by
  obtain ⟨m, hn, hl⟩ := id I.loc
  have hcls : (X.env.scope.kind == .class || (X.env.scope.kind == .module && X.env.locals != X.env.globals)) = false := by rw [I.ok.kind]; rfl
  have hiσ : i < σ.length := by rw [I.len]; exact (List.getElem?_eq_some_iff.mp hi).1
  have cne := I.cne
  have tracked : ∀ {a : Addr} {h' : Heap}, (∃ o, s.heap.get? a = some o ∧ H a = none) → Heap.SameBut a s.heap h' → HOk X.prog X.w H h' := fun {a h'} ha hs b ob e => by
    obtain ⟨_, _, hfree⟩ := ha
    refine (I.hok b ob e).stay (fun c w' hc q => (hs.2 c ?_).trans q) (fun _ q => q) fun _ _ q => q
    rintro rfl
    rcases hc with rfl | hc
    · rw [hfree] at e; cases e
    · rw [hfree] at hc; cases hc
  rcases hx with hk | hk
  · refine wpAny_storeName_local hk hn (fun h' hn' hs => ?_) hcls
    obtain ⟨oL, _, _, hoL, _⟩ := id hn
    refine h _ ⟨I.ok, I.os, I.bare, ⟨fun b o e n hb hx => ?_, fun b o e n hb hx => ?_, I.base.free, fun b o e hx => ?_, I.base.tups, I.base.frzs, I.base.tbls⟩, ⟨_, hn', fun j y v' e1 e2 e3 => ?_⟩, fun y c e => ?_, I.free, I.freeC, fun p hp => ?_, tracked ⟨oL, hoL, I.free⟩ hs, by simpa using I.len⟩ ⟨_, hs, .inl rfl⟩
    · exact (hs.2 b (Nat.ne_of_lt (Nat.lt_of_lt_of_le (Heap.lt_size e) I.ok.above))).trans (I.base.keep b o e n hb hx)
    · obtain ⟨sl, e1⟩ := I.base.slot b o e n hb hx
      exact ⟨sl, (hs.2 b (Nat.ne_of_lt (Nat.lt_of_lt_of_le (Heap.lt_size e) I.ok.above))).trans e1⟩
    · obtain ⟨o', e1⟩ := I.base.there b o e hx
      exact ⟨o', (hs.2 b (Nat.ne_of_lt (Nat.lt_of_lt_of_le (Heap.lt_size e) I.ok.above))).trans e1⟩
    · by_cases hj : j = i
      · subst hj
        rw [hi] at e1; cases e1
        rw [List.getElem?_set_self hiσ] at e2
        cases e2
        exact ⟨u, r, .inl ⟨hk, by simp⟩⟩
      · rw [List.getElem?_set_ne (Ne.symm hj)] at e2
        obtain ⟨u', r', q⟩ := hl j y v' e1 e2 e3
        refine ⟨u', r', ?_⟩
        rcases q with ⟨k, e⟩ | ⟨k, c, e, z⟩
        · refine .inl ⟨k, ?_⟩
          have : y ≠ x := fun e => hj (nodup_ix hN e1 (e ▸ hi))
          simp [this, e]
        · exact .inr ⟨k, c, e, z.sameBut hs (cne y c e)⟩
    · obtain ⟨w', z⟩ := I.cell y c e
      exact ⟨w', z.sameBut hs (cne y c e)⟩
    · obtain ⟨e, n, ne, nf, d⟩ := I.pin p hp
      exact ⟨(hs.2 p.1 ne).trans e, n, ne, nf, d⟩
  · have hfn : X.fn x = true := by
      rcases hf with z | z
      · exact z
      · rw [z] at hk; cases hk
    obtain ⟨c, hc⟩ := I.ok.has x (.inl hk)
    obtain ⟨w', z⟩ := I.cell x c hc
    refine wpAny_storeName_cell I.ok.kind hk hc z (fun h' hc' hs => ?_)
    obtain ⟨oc, hoc, hocd⟩ := id z
    refine h { s with heap := h' } ⟨I.ok, I.os, I.bare, ⟨fun b o e n hb hx => ?_, fun b o e n hb hx => ?_, I.base.free, fun b o e hx => ?_, I.base.tups, I.base.frzs, I.base.tbls⟩, ⟨m, hn.sameBut hs (Ne.symm (cne x c hc)), fun j y v' e1 e2 e3 => ?_⟩, fun y c' e => ?_, I.free, I.freeC, fun p hp => ?_, tracked ⟨oc, hoc, I.freeC x c hc⟩ hs, by simpa using I.len⟩ ⟨c, hs, .inr hc⟩
    · exact (hs.2 b (Nat.ne_of_lt (Nat.lt_of_lt_of_le (Heap.lt_size e) (I.ok.cab x c hfn hc)))).trans (I.base.keep b o e n hb hx)
    · obtain ⟨sl, e1⟩ := I.base.slot b o e n hb hx
      exact ⟨sl, (hs.2 b (Nat.ne_of_lt (Nat.lt_of_lt_of_le (Heap.lt_size e) (I.ok.cab x c hfn hc)))).trans e1⟩
    · obtain ⟨o', e1⟩ := I.base.there b o e hx
      exact ⟨o', (hs.2 b (Nat.ne_of_lt (Nat.lt_of_lt_of_le (Heap.lt_size e) (I.ok.cab x c hfn hc)))).trans e1⟩
    · by_cases hj : j = i
      · subst hj
        rw [hi] at e1; cases e1
        rw [List.getElem?_set_self hiσ] at e2
        cases e2
        exact ⟨u, r, .inr ⟨.inl hk, c, hc, hc'⟩⟩
      · rw [List.getElem?_set_ne (Ne.symm hj)] at e2
        obtain ⟨u', r', q⟩ := hl j y v' e1 e2 e3
        refine ⟨u', r', ?_⟩
        rcases q with q | ⟨k, c', e, z'⟩
        · exact .inl q
        · refine .inr ⟨k, c', e, z'.sameBut hs ?_⟩
          rintro rfl
          exact hj (nodup_ix hN e1 (I.ok.inj _ _ _ e hc ▸ hi))
    · by_cases hcc : c' = c
      · subst hcc; exact ⟨_, hc'⟩
      · obtain ⟨w2, z2⟩ := I.cell y c' e
        exact ⟨w2, z2.sameBut hs hcc⟩
    · obtain ⟨e, n, ne, nf, d⟩ := I.pin p hp
      refine ⟨(hs.2 p.1 ?_).trans e, n, ne, nf, d⟩
      intro q
      rw [q, hoc] at e
      have q' : oc = p.2 := Option.some.inj e
      exact d w' (by rw [← q']; exact hocd)
theorem store_ok {M : Model} {A : Around} {E : Value → Shared → Prop} {i : Nat} {x : Str} {v : V} {u : Value} {Q : Unit → Shared → Prop} (I : Inv X pins σ H s) (hN : X.N.Nodup) (hi : X.N[i]? = some x) (hx : Loc X.env.scope x) (r : RelV v u)
    (h : ∀ s', Inv X pins (σ.set i (some v)) H s' → Q () s') (hf : X.fn x = true ∨ X.env.scope.names.lookup x = some .local := by first | exact .inl rfl | exact .inr rfl | assumption) : wpAny M A (storeName X.env x u) Q E s :=
  store_ok2 I hN hi hx r (fun s' I' _ => h s' I') hf
end

/-- an exception: its class, its own dict's address (where it has one), the abstract heap behind it -/
abbrev XK := Value → Option Addr → Hp → Prop
abbrev St := List (Option V)
abbrev VK := V → Hp → Prop
/-- an expression's reading; a test's; an argument list's -/
abbrev TE := St → Hp → VK → Prop
abbrev TT := St → Hp → (Bool → Hp → Prop) → Prop
abbrev TA := St → Hp → (List V → Hp → Prop) → Prop
/-- what is wanted behind a statement -/
structure Ends where
  nx : St → Hp → Prop
  rt : VK
  bk : St → Hp → Prop := fun _ _ => False
  ct : St → Hp → Prop := fun _ _ => False
abbrev TS := Ends → St → Hp → Prop

def EP (X : Cx) (pins : List (Addr × Obj)) (σ : St) (Q : VK) (u : Value) (s' : Shared) : Prop := ∃ v H', Inv X pins σ H' s' ∧ RelV v u ∧ Q v H'
def TP (X : Cx) (pins : List (Addr × Obj)) (σ : St) (Q : Bool → Hp → Prop) (b : Bool) (s' : Shared) : Prop := ∃ H', Inv X pins σ H' s' ∧ Q b H'
def AP (X : Cx) (pins : List (Addr × Obj)) (σ : St) (Q : List V → Hp → Prop) (us : List Value) (s' : Shared) : Prop := ∃ vs H', Inv X pins σ H' s' ∧ Vals vs us ∧ Q vs H'
def SP (X : Cx) (pins : List (Addr × Obj)) (D : Ends) (f : Flow) (s' : Shared) : Prop :=
  match f with
  | .next => ∃ σ' H', Inv X pins σ' H' s' ∧ D.nx σ' H'
  | .brk => ∃ σ' H', Inv X pins σ' H' s' ∧ D.bk σ' H'
  | .cont => ∃ σ' H', Inv X pins σ' H' s' ∧ D.ct σ' H'
  | .ret u => ∃ v σ' H', Inv X pins σ' H' s' ∧ RelV v u ∧ D.rt v H'

def PE (X : Cx) (e : Expr) (t : TE) : Prop :=
  ∀ (pins : List (Addr × Obj)) (s : Shared) (σ : St) (H : Hp) (Q : VK), Inv X pins σ H s → t σ H Q → wpAny (model X.prog X.w) X.A (eval e X.env) (EP X pins σ Q) X.xe s
def PT (X : Cx) (e : Expr) (t : TT) : Prop :=
  ∀ (pins : List (Addr × Obj)) (s : Shared) (σ : St) (H : Hp) (Q : Bool → Hp → Prop), Inv X pins σ H s → t σ H Q → wpAny (model X.prog X.w) X.A (isTrue e X.env (eval e X.env)) (TP X pins σ Q) X.xe s
/-- a test whatever its 'whole' is (and, or) -/
def PW (X : Cx) (e : Expr) (t : TT) : Prop :=
  ∀ (whole : Sem Value) (pins : List (Addr × Obj)) (s : Shared) (σ : St) (H : Hp) (Q : Bool → Hp → Prop), Inv X pins σ H s → t σ H Q → wpAny (model X.prog X.w) X.A (isTrue e X.env whole) (TP X pins σ Q) X.xe s
theorem PW.pt {X : Cx} {e : Expr} {t : TT} (h : PW X e t) : PT X e t := h _
/-- an argument list (no star), from the left -/
def PA (X : Cx) (es : List Expr) (t : TA) : Prop :=
  ∀ (pos : Pos) (pins : List (Addr × Obj)) (s : Shared) (σ : St) (H : Hp) (Q : List V → Hp → Prop), Inv X pins σ H s → t σ H Q → wpAny (model X.prog X.w) X.A (spliced (backTo pos (starEach es X.env))) (AP X pins σ Q) X.xe s
def PS (X : Cx) (st : Stmt) (t : TS) : Prop :=
  ∀ (pins : List (Addr × Obj)) (s : Shared) (σ : St) (H : Hp) (D : Ends), Inv X pins σ H s → t D σ H → wpAny (model X.prog X.w) X.A (exec st X.env) (SP X pins D) X.xe s
def PSs (X : Cx) (st : List Stmt) (t : TS) : Prop :=
  ∀ (pins : List (Addr × Obj)) (s : Shared) (σ : St) (H : Hp) (D : Ends), Inv X pins σ H s → t D σ H → wpAny (model X.prog X.w) X.A (execs st X.env) (SP X pins D) X.xe s
/-- weaken the end -/
theorem thn {α : Type} {t : Sem α} {Q Q' : α → Shared → Prop} {M : Model} {A : Around} {E : Value → Shared → Prop} {s : Shared} (h : wpAny M A t Q E s) (hQ : ∀ a s, Q a s → Q' a s) : wpAny M A t Q' E s := wpAny_mono h hQ fun _ _ x => x
end L2

namespace L2
open PySem PySem.Spec PyProof.Rows
section
variable {X : Cx}

def tVar (i : Nat) : TE := fun σ H Q => ∃ v, σ[i]? = some (some v) ∧ Q v H
def tC (v : V) : TE := fun _ H Q => Q v H
theorem pe_var {i : Nat} {x : Str} {pos : Pos} (hN : X.N[i]? = some x) (hv : Vis X.env.scope x) (hd : (x == ("__debug__" : Str)) = false := by decide) (hcd : (x == ("__classdict__" : Str)) = false := by decide) : PE X (.Name x pos) (tVar i) := by
  intro pins s σ H Q I h
  obtain ⟨v, e, h⟩ := h
  obtain ⟨m, hn, hl⟩ := I.loc
  obtain ⟨u, r, l⟩ := hl i x v hN e hv
  have fin : EP X pins σ Q u s := ⟨v, H, I, r, h⟩
  rcases l with ⟨hk, hm⟩ | ⟨hk, c, hc, hcell⟩
  · exact wpAny_Name (wpAny_loadName_local I.ok.kind hk hn hm fin) hd
  · rcases hk with hk | hk
    · exact wpAny_Name (wpAny_loadName_cell I.ok.kind hk hc hcell fin) hd
    · exact wpAny_Name (wpAny_loadName_free I.ok.kind hk hc hcell fin hcd) hd
theorem pe_int {i j pos} : PE X (.Constant (.int i) j pos) (tC (.int i)) := fun _ _ _ H _ I h => wpAny_Constant_int ⟨.int i, H, I.tok _, ⟨_, rfl⟩, h⟩
theorem pe_bl {b j pos} : PE X (.Constant (.bool b) j pos) (tC (.bl b)) := fun _ _ _ H _ I h => Constant_bool ⟨.bl b, H, I, rfl, h⟩
/-- a global name of the def -/
def Gl (X : Cx) (x : Str) : Prop := X.env.kindOf x = some .globalImplicit
theorem ld_glob {E : Value → Shared → Prop} {pins : List (Addr × Obj)} {s : Shared} {σ : St} {H : Hp} {x : Str} {u : Value} {pos : Pos} {Q : Value → Shared → Prop} (I : Inv X pins σ H s) (hg : Gl X x) (hm : X.mg x = some u) (h : Q u s)
    (hd : (x == ("__debug__" : Str)) = false := by decide) : wpAny (model X.prog X.w) X.A (eval (.Name x pos) X.env) Q E s :=
  Calls.Name_function_global I.ok.kind hg (Calls.loadGlobal_global (by rw [I.ok.glob]; exact I.mod.glob.keeps I.bk) hm h) hd
theorem ld_blt {E : Value → Shared → Prop} {pins : List (Addr × Obj)} {s : Shared} {σ : St} {H : Hp} {x : Str} {u : Value} {pos : Pos} {Q : Value → Shared → Prop} (I : Inv X pins σ H s) (hg : Gl X x) (hm : X.mg x = none) (hv : bootBuiltins x = some u) (h : Q u s)
    (hn : x ≠ "__name__" := by decide) (hd : (x == ("__debug__" : Str)) = false := by decide) : wpAny (model X.prog X.w) X.A (eval (.Name x pos) X.env) Q E s := by
  obtain ⟨mb, h1, h2⟩ := I.mod.blt
  exact Calls.Name_function_global I.ok.kind hg (Calls.loadGlobal_builtin (by rw [I.ok.glob]; exact I.mod.glob.keeps I.bk) hm (by rw [I.ok.blt]; exact h1.keeps I.bk) ((h2 x hn).trans hv) h) hd
theorem pe_bltn {x : Str} {v : V} {u : Value} {pos : Pos} (hg : Gl X x) (hm : X.mg x = none) (hv : bootBuiltins x = some u) (r : RelV v u) (hn : x ≠ "__name__" := by decide) (hd : (x == ("__debug__" : Str)) = false := by decide) : PE X (.Name x pos) (tC v) :=
  fun _ _ _ H _ I h => ld_blt I hg hm hv ⟨v, H, I, r, h⟩ hn hd

variable {a b : Expr} {ta tb : TE} {pos : Pos}
variable {tA tB' : TT} {rest : List Expr}
def tAnd (t u : TT) : TT := fun σ H Q => t σ H fun c H1 => if c = true then u σ H1 Q else Q false H1
def tNot (t : TT) : TT := fun σ H Q => t σ H fun c H1 => Q (!c) H1
theorem pw_and1 (ha : PT X a tA) : PW X (.BoolOp .And [a] pos) tA := by
  intro wh pins s σ H Q I h
  refine isTrue_and (thn (ha pins s σ H Q I h) fun c s1 e => ?_)
  cases c with
  | true => exact isTrue_and_nil e
  | false => exact e
theorem pw_and (ha : PT X a tA) (hb : PW X (.BoolOp .And (b :: rest) pos) tB') : PW X (.BoolOp .And (a :: b :: rest) pos) (tAnd tA tB') := by
  intro wh pins s σ H Q I h
  refine isTrue_and (thn (ha pins s σ H _ I h) fun c s1 ⟨H1, I1, q1⟩ => ?_)
  cases c with
  | true => exact hb wh pins s1 σ H1 Q I1 q1
  | false => exact ⟨H1, I1, q1⟩
theorem pt_not (ha : PT X a tA) : PT X (.UnaryOp .Not a pos) (tNot tA) := by
  intro pins s σ H Q I h
  exact isTrue_not (ha pins s σ H (fun c H1 => Q (!c) H1) I h)
/-- .. as values (bools) -/
def tAndV (ta tb : TE) : TE := fun σ H Q => ta σ H fun x H1 => ∃ c, x = .bl c ∧ if c = true then tb σ H1 Q else Q (.bl false) H1
theorem pe_one {op} {t : TE} (h : PE X a t) : PE X (.BoolOp op [a] pos) t := fun pins s σ H Q I hw => BoolOp_one (h pins s σ H Q I hw)
theorem pe_and (ha : PE X a ta) (hb : PE X (.BoolOp .And (b :: rest) pos) tb) : PE X (.BoolOp .And (a :: b :: rest) pos) (tAndV ta tb) := by
  intro pins s σ H Q I h
  refine BoolOp_and (thn (ha pins s σ H _ I h) fun v s1 ⟨x, H1, I1, r1, q1⟩ => ?_)
  obtain ⟨c, rfl, q1⟩ := q1
  cases r1
  refine wpAny_truthy_bool ?_
  cases c with
  | true => exact hb pins s1 σ H1 Q I1 q1
  | false => exact ⟨.bl false, H1, I1, rfl, q1⟩
/-- a if t else b -/
def tIf (t : TT) (ta tb : TE) : TE := fun σ H Q => t σ H fun c H1 => if c = true then ta σ H1 Q else tb σ H1 Q
theorem pe_ifExp {c : Expr} (hc : PT X c tA) (ha : PE X a ta) (hb : PE X b tb) : PE X (.IfExp c a b pos) (tIf tA ta tb) := by
  intro pins s σ H Q I h
  refine wpAny_IfExp (thn (hc pins s σ H _ I h) fun d s1 ⟨H1, I1, q1⟩ => ?_)
  cases d with
  | true => exact ha pins s1 σ H1 Q I1 q1
  | false => exact hb pins s1 σ H1 Q I1 q1
end
end L2

namespace L2
open PySem PySem.Spec PyProof.Rows

def SqL (K : PySem.W.Frag) (H : Hp) (a : Addr) (xs : List V) : Prop :=
  Rd H a (.lst xs) ∨
    ∃ (o : Obj) (its : Array Value) (n : Nat), K.lookup a = some o ∧ o.cls = .type "list" ∧ o.dict = none ∧ o.data = .seq its n ∧ its.size ≤ sizeLine ∧ Vals xs its.toList
def SqT (K : PySem.W.Frag) (H : Hp) (a : Addr) (xs : List V) : Prop :=
  Rd H a (.tup xs) ∨
    ∃ (o : Obj) (its : Array Value) (n : Nat), K.lookup a = some o ∧ o.cls = .type "tuple" ∧ o.data = .seq its n ∧ its.size ≤ sizeLine ∧ Vals xs its.toList
def absV : Value → Option V
  | .none => some .non
  | .bool b => some (.bl b)
  | .int i _ => some (.int i)
  | .str x _ => some (.str x)
  | .bytes b _ => some (.byt b)
  | .float b _ => some (.flt b)
  | .ref a => some (.ref a)
  | .type n => some (.ty n)
  | _ => none
theorem RelV.abs {x : V} {u : Value} (r : RelV x u) : absV u = some x := by
  cases x with
  | non => cases r; rfl
  | bl _ => cases r; rfl
  | int _ => obtain ⟨t, rfl⟩ := r; rfl
  | str _ => obtain ⟨t, rfl⟩ := r; rfl
  | byt _ => obtain ⟨t, rfl⟩ := r; rfl
  | flt _ => obtain ⟨t, rfl⟩ := r; rfl
  | ref _ => cases r; rfl
  | ty _ => cases r; rfl
theorem RelV.inj {x y : V} {u : Value} (r : RelV x u) (q : RelV y u) : x = y := Option.some.inj (r.abs.symm.trans q.abs)
theorem Vals.inj : ∀ {xs ys : List V} {us : List Value}, Vals xs us → Vals ys us → xs = ys
  | _, _, _, .nil, .nil => rfl
  | _, _, _, .cons r t, .cons r' t' => by rw [r.inj r', Vals.inj t t']
section
variable {X : Cx} {pins : List (Addr × Obj)} {σ : St} {H : Hp} {s : Shared} {a : Addr} {xs ys : List V}
theorem SqL.of {K : PySem.W.Frag} (h : H a = some (.lst xs)) : SqL K H a xs := .inl (.inl h)
theorem SqT.of {K : PySem.W.Frag} (h : H a = some (.tup xs)) : SqT K H a xs := .inl (.inl h)
theorem Inv.list (I : Inv X pins σ H s) (h : SqL X.K H a xs) : ∃ its : List Value, Vals xs its ∧ PlainL s.heap a its.toArray ∧ xs.length ≤ sizeLine := by
  rcases h with h | ⟨o, its, n, hk, hc, hd, hs, hz, r⟩
  · obtain ⟨z, its, n, r, e⟩ := h.ok I.hok
    exact ⟨its, r, ⟨_, n, e, rfl, rfl, rfl⟩, z⟩
  · refine ⟨its.toList, r, ⟨o, n, I.kIn a o hk, hc, hd, by simpa using hs⟩, ?_⟩
    have e := r.length
    simp only [Array.length_toList] at e
    omega
theorem Inv.tuple (I : Inv X pins σ H s) (h : SqT X.K H a xs) : ∃ its : List Value, Vals xs its ∧ IsTup s.heap a its.toArray ∧ xs.length ≤ sizeLine := by
  rcases h with h | ⟨o, its, n, hk, hc, hs, hz, r⟩
  · obtain ⟨z, its, r, p⟩ := h.ok I.hok
    exact ⟨its, r, p, z⟩
  · refine ⟨its.toList, r, ⟨o, I.kIn a o hk, hc, n, by simpa using hs⟩, ?_⟩
    have e := r.length
    simp only [Array.length_toList] at e
    omega
theorem Inv.list_inj (I : Inv X pins σ H s) (h : SqL X.K H a xs) (h' : SqL X.K H a ys) : xs = ys := by
  obtain ⟨its, r, ⟨o, n, e, _, _, d⟩, _⟩ := I.list h
  obtain ⟨its', r', ⟨o', n', e', _, _, d'⟩, _⟩ := I.list h'
  rw [e] at e'; cases e'
  rw [d] at d'
  injection d' with d1 _
  have : its = its' := by simpa using congrArg Array.toList d1
  subst this
  exact r.inj r'
theorem Inv.tuple_inj (I : Inv X pins σ H s) (h : SqT X.K H a xs) (h' : SqT X.K H a ys) : xs = ys := by
  obtain ⟨its, r, ⟨o, e, _, n, d⟩, _⟩ := I.tuple h
  obtain ⟨its', r', ⟨o', e', _, n', d'⟩, _⟩ := I.tuple h'
  rw [e] at e'; cases e'
  rw [d] at d'
  injection d' with d1 _
  have : its = its' := by simpa using congrArg Array.toList d1
  subst this
  exact r.inj r'
end

abbrev Cx.wish (X : Cx) (E : Value → Shared → Prop) : Cx := { X with xe := E }
/-- no exception leaves -/
abbrev Cx.nox (X : Cx) : Cx := X.wish fun _ _ => False
theorem Cx.Ok.wish {X : Cx} (ok : X.Ok) (E : Value → Shared → Prop) : (X.wish E).Ok :=
  ⟨ok.mod, ok.kind, ok.glob, ok.blt, ok.above, ok.inj, ok.has, ok.cab, ok.hd, ok.frames, ok.stk, ok.exf, ok.bs, ok.bsz, ok.noex, ok.exfs, ok.funs, ok.frf⟩
theorem Cx.Ok.unwish {X : Cx} {E : Value → Shared → Prop} (ok : (X.wish E).Ok) : X.Ok :=
  ⟨ok.mod, ok.kind, ok.glob, ok.blt, ok.above, ok.inj, ok.has, ok.cab, ok.hd, ok.frames, ok.stk, ok.exf, ok.bs, ok.bsz, ok.noex, ok.exfs, ok.funs, ok.frf⟩
section
variable {X : Cx} {pins : List (Addr × Obj)} {σ : St} {H : Hp} {s : Shared} {E : Value → Shared → Prop}
theorem Inv.wish (I : Inv X pins σ H s) (E : Value → Shared → Prop) : Inv (X.wish E) pins σ H s := ⟨I.ok.wish E, I.os, I.bare, I.base, I.loc, I.cell, I.free, I.freeC, I.pin, I.hok, I.len⟩
theorem Inv.unwish (I : Inv (X.wish E) pins σ H s) : Inv X pins σ H s := ⟨I.ok.unwish, I.os, I.bare, I.base, I.loc, I.cell, I.free, I.freeC, I.pin, I.hok, I.len⟩
theorem SP.unwish {D : Ends} {f : Flow} {s' : Shared} (h : SP (X.wish E) pins D f s') : SP X pins D f s' := by
  cases f with
  | next => obtain ⟨σ', H', I, q⟩ := h; exact ⟨σ', H', I.unwish, q⟩
  | brk => obtain ⟨σ', H', I, q⟩ := h; exact ⟨σ', H', I.unwish, q⟩
  | cont => obtain ⟨σ', H', I, q⟩ := h; exact ⟨σ', H', I.unwish, q⟩
  | ret u => obtain ⟨v, σ', H', I, r, q⟩ := h; exact ⟨v, σ', H', I.unwish, r, q⟩
theorem PSs.nox {st : List Stmt} {t : TS} (h : PSs X.nox st t) : PSs X st t := fun pins s σ H D I hw =>
  wpAny_mono (h pins s σ H D (I.wish _) hw) (fun _ _ q => q.unwish) fun _ _ z => False.elim z
end

section
variable {X : Cx} {st : Stmt} {rest : List Stmt} {t u : TS} {e : Expr} {te : TE} {pos : Pos}
def tNext : TS := fun D σ H => D.nx σ H
def tSeq (t u : TS) : TS := fun D σ H => t { D with nx := u D } σ H
theorem pss_nil : PSs X [] tNext := fun _ _ σ H _ I h => wpAny_execs_nil ⟨σ, H, I, h⟩
theorem pss_cons (h1 : PS X st t) (h2 : PSs X rest u) : PSs X (st :: rest) (tSeq t u) := by
  intro pins s σ H D I h
  refine wpAny_execs_cons (thn (h1 pins s σ H { D with nx := u D } I h) fun f s1 q => ?_)
  cases f with
  | next =>
    obtain ⟨σ', H', I', q⟩ := q
    exact h2 pins s1 σ' H' D I' q
  | ret v => exact q
  | brk => exact q
  | cont => exact q
theorem pss_one (h1 : PS X st t) : PSs X [st] t := by
  intro pins s σ H D I h
  refine wpAny_execs_cons (thn (h1 pins s σ H D I h) fun f s1 q => ?_)
  cases f with
  | next => exact wpAny_execs_nil q
  | ret v => exact q
  | brk => exact q
  | cont => exact q
/-- in a def's body nothing is shown -/
theorem Inv.quiet {pins : List (Addr × Obj)} {σ : St} {H : Hp} {s : Shared} (I : Inv X pins σ H s) : interactive X.env = false := by simp [interactive, I.ok.kind]
/-- an expression whose value is dropped -/
def tDrop (te : TE) : TS := fun D σ H => te σ H fun _ H1 => D.nx σ H1
theorem ps_expr (he : PE X e te) (hs : swapsWith e none pos.line X.env = pure false := by rfl) : PS X (.Expr e pos) (tDrop te) := by
  intro pins s σ H D I h
  exact wpAny_Expr_any (thn (he pins s σ H _ I h) fun v s1 ⟨x, H1, I1, r1, q1⟩ => ⟨σ, H1, I1, q1⟩) I.quiet hs
def tRet (te : TE) : TS := fun D σ H => te σ H D.rt
theorem ps_ret (he : PE X e te) : PS X (.Return (some e) pos) (tRet te) := by
  intro pins s σ H D I h
  exact wpAny_Return_some (thn (he pins s σ H _ I h) fun v s1 ⟨x, H1, I1, r1, q1⟩ => ⟨x, σ, H1, I1, r1, q1⟩)
def tIfS (c : TT) (t u : TS) : TS := fun D σ H => c σ H fun b H1 => if b = true then t D σ H1 else u D σ H1
theorem ps_if {c : Expr} {a b : List Stmt} {tc : TT} (hc : PT X c tc) (ha : PSs X a t) (hb : PSs X b u) : PS X (.If c a b pos) (tIfS tc t u) := by
  intro pins s σ H D I h
  refine wpAny_If (thn (hc pins s σ H _ I h) fun d s1 ⟨H1, I1, q1⟩ => ?_)
  cases d with
  | true => exact ha pins s1 σ H1 D I1 q1
  | false => exact hb pins s1 σ H1 D I1 q1
end

abbrev TG := V → St → Hp → (St → Hp → Prop) → Prop
def PG (X : Cx) (target : Expr) (t : TG) : Prop :=
  ∀ (pins : List (Addr × Obj)) (s : Shared) (σ : St) (H : Hp) (v : V) (u : Value) (Q : St → Hp → Prop), Inv X pins σ H s → RelV v u → t v σ H Q →
    wpAny (model X.prog X.w) X.A (assign target X.env u) (fun _ s' => ∃ σ' H', Inv X pins σ' H' s' ∧ Q σ' H') X.xe s
section
variable {X : Cx} {pos : Pos}
def gName (i : Nat) : TG := fun v σ H Q => Q (σ.set i (some v)) H
theorem pg_name {i : Nat} {x : Str} (hN : X.N.Nodup) (hi : X.N[i]? = some x) (hx : Loc X.env.scope x) (hf : X.fn x = true ∨ X.env.scope.names.lookup x = some .local := by first | exact .inl rfl | exact .inr rfl | assumption) : PG X (.Name x pos) (gName i) := by
  intro pins s σ H v u Q I r h
  exact wpAny_assign_Name (store_ok I hN hi hx r (fun s' I' => ⟨_, H, I', h⟩) hf)
/-- target = value -/
def tAsg (te : TE) (g : TG) : TS := fun D σ H => te σ H fun x H1 => g x σ H1 D.nx
/-- name = value -/
theorem ps_set {i : Nat} {x : Str} {e : Expr} {te : TE} {pos' : Pos} (hN : X.N.Nodup) (hi : X.N[i]? = some x) (hx : Loc X.env.scope x) (he : PE X e te) (hs : swapsWith e (some (.Name x pos')) pos.line X.env = pure false := by rfl) (hf : X.fn x = true ∨ X.env.scope.names.lookup x = some .local := by first | exact .inl rfl | exact .inr rfl | assumption) :
    PS X (.Assign [.Name x pos'] e pos) (tAsg te (gName i)) := by
  intro pins s σ H D I h
  refine wpAny_Assign_Name (thn (he pins s σ H _ I h) fun v s1 ⟨y, H1, I1, r1, q1⟩ => ?_) hs
  exact store_ok I1 hN hi hx r1 (fun s2 I2 => ⟨_, H1, I2, q1⟩) hf
end

section
variable {X : Cx} {pos : Pos}
end

/-- at turn i: it yields x (the heap may grow), or it stops -/
structure It where
  go : Nat → Hp → Prop
  yld : Nat → Hp → V → Hp → Prop
  stop : Nat → Hp → Prop
/-- the iterator's own objects may turn: they are not the frame's, not pinned, younger than the entry (or a comprehension's own) -/
def FpOk (X : Cx) (pins : List (Addr × Obj)) (H : Hp) (b : Addr) : Prop :=
  H b = none ∧ b ≠ X.env.locals ∧ b ∉ X.fs ∧ (b ∈ X.ex ∨ X.s₀.heap.objs.size ≤ b) ∧ (∀ x c, X.env.cells.lookup x = some c → c ≠ b) ∧ ∀ p ∈ X.pn ++ pins, p.1 ≠ b
theorem Inv.fpOk {X : Cx} {pins : List (Addr × Obj)} {σ : St} {H H' : Hp} {s : Shared} {b : Addr} (I : Inv X pins σ H s) (hb : s.heap.objs.size ≤ b) (hn : H' b = none) : FpOk X pins H' b := by
  refine ⟨hn, Nat.ne_of_gt (Nat.lt_of_lt_of_le I.lt hb), I.nofs hb, .inr (Nat.le_trans I.sz hb), fun x c e z => ?_, fun p hp z => ?_⟩
  · obtain ⟨v, q⟩ := I.cell x c e
    exact absurd (Nat.lt_of_lt_of_le q.lt (by rw [z]; exact hb)) (Nat.lt_irrefl _)
  · exact absurd (Nat.lt_of_lt_of_le (Heap.lt_size (I.pin p hp).1) (by rw [z]; exact hb)) (Nat.lt_irrefl _)
structure Turn (P : Program) (w : World) (K : PySem.W.Frag) (tg : Expr) (J : It) (fp : List Addr) (it : Addr) (tn : Nat → Heap → Prop) : Prop where
  mem : it ∈ fp
  obj : ∀ i h, tn i h → ∀ b ∈ fp, ∃ o, h.get? b = some o ∧ ∀ v, o.data ≠ .cell v
  keep : ∀ i h h', tn i h → (∀ b ∈ fp, ∀ o, h.get? b = some o → h'.get? b = some o) → tn i h'
  item : ∀ (X : Cx), X.prog = P → X.w = w → X.K = K → X.calm = true → ∀ (i : Nat) (pins : List (Addr × Obj)) (s : Shared) (σ : St) (H : Hp) (E : Value → Shared → Prop), Inv X pins σ H s → (∀ b ∈ fp, FpOk X pins H b) → tn i s.heap → J.go i H →
    wpAny (model P w) X.A (pyNext (.ref it)) (fun r s1 => ∃ u, r = some u ∧
      wpAny (model P w) X.A (letOwnedTupleGo tg (.ref it) u) (fun _ s2 => ∃ x H', Inv X pins σ H' s2 ∧ RelV x u ∧ J.yld i H x H' ∧ tn (i + 1) s2.heap ∧ ∀ b ∈ fp, H' b = none) E s1) E s
  done : ∀ (X : Cx), X.prog = P → X.w = w → X.K = K → X.calm = true → ∀ (i : Nat) (pins : List (Addr × Obj)) (s : Shared) (σ : St) (H : Hp) (E : Value → Shared → Prop), Inv X pins σ H s → (∀ b ∈ fp, FpOk X pins H b) → tn i s.heap → J.stop i H →
    wpAny (model P w) X.A (pyNext (.ref it)) (fun r s1 => r = none ∧ Inv X pins σ H s1) E s
  self : ∀ (A : Around) (i : Nat) (s : Shared) (Q : Value → Shared → Prop) (E : Value → Shared → Prop), tn i s.heap → Q (.ref it) s → wpAny (model P w) A (pyIter (.ref it)) Q E s
abbrev TI := St → Hp → (It → Hp → Prop) → Prop
/-- an iterator has come -/
def PIE (X : Cx) (pins : List (Addr × Obj)) (σ : St) (tg : Expr) (R : It → Hp → Prop) (itv : Value) (s2 : Shared) : Prop :=
  ∃ (it : Addr) (fp : List Addr) (tn : Nat → Heap → Prop) (J : It) (H' : Hp), itv = .ref it ∧ Inv X pins σ H' s2 ∧ Turn X.prog X.w X.K tg J fp it tn ∧ tn 0 s2.heap ∧ (∀ b ∈ fp, FpOk X pins H' b) ∧ R J H'
def PI (X : Cx) (tg iter : Expr) (wi : TI) : Prop :=
  ∀ (pins : List (Addr × Obj)) (s : Shared) (σ : St) (H : Hp) (R : It → Hp → Prop), Inv X pins σ H s → wi σ H R →
    wpAny (model X.prog X.w) X.A (eval iter X.env) (fun v s1 => wpAny (model X.prog X.w) X.A (pyIter v) (PIE X pins σ tg R) X.xe s1) X.xe s

/-- the step ahead of the store is nothing for an iterator that keeps no tuple -/
theorem go_of {M : Model} {A : Around} {E : Value → Shared → Prop} {s : Shared} {tg : Expr} {it : Addr} {u : Value} {o : Obj} {n : String} {vs : Array Value} {Q : Unit → Shared → Prop} (ho : s.heap.get? it = some o) (hc : o.cls = .type n) (hd : o.data = .fields vs)
    (hn : ["enumerate", "zip", "dict_itemiterator", "dict_reverseitemiterator", "odict_iterator", "itertools.zip_longest", "itertools.pairwise"].contains n = false) (hQ : Q () s) : wpAny M A (letOwnedTupleGo tg (.ref it) u) Q E s := by
  unfold letOwnedTupleGo
  cases tg <;> first
    | exact wpAny_pure hQ
    | (cases u <;> first
        | exact wpAny_pure hQ
        | (refine wpAny_bind (wpAny_load ho ?_)
           rw [hc, hd]
           show wpAny M A (if (["enumerate", "zip", "dict_itemiterator", "dict_reverseitemiterator", "odict_iterator", "itertools.zip_longest", "itertools.pairwise"].contains n && vs[0]? == some (rawInt _)) = true then _ else _) Q E s
           rw [if_neg (by intro h; rw [hn, Bool.false_and] at h; cases h)]
           exact wpAny_pure hQ))

/-- the list at a, as it stands at each turn (a loop may append to it) -/
def Itl (K : PySem.W.Frag) (a : Addr) : It :=
  ⟨fun i H => ∃ xs x, SqL K H a xs ∧ xs[i]? = some x, fun i H x H' => H' = H ∧ ∀ xs, SqL K H a xs → xs[i]? = some x, fun i H => ∃ xs, SqL K H a xs ∧ xs.length ≤ i⟩
def Itt (K : PySem.W.Frag) (a : Addr) : It :=
  ⟨fun i H => ∃ xs x, SqT K H a xs ∧ xs[i]? = some x, fun i H x H' => H' = H ∧ ∀ xs, SqT K H a xs → xs[i]? = some x, fun i H => ∃ xs, SqT K H a xs ∧ xs.length ≤ i⟩
/-- lo, lo + 1, .. (n of them) -/
def Itr (lo : Int) (n : Nat) : It := ⟨fun i _ => i < n, fun i H x H' => H' = H ∧ x = .int (lo + i), fun i _ => n ≤ i⟩
theorem turn_list {P : Program} {w : World} {K : PySem.W.Frag} {tg : Expr} (a it : Addr) : Turn P w K tg (Itl K a) [it] it (fun i h => h.IsListIter it a i) where
  mem := by simp
  obj := fun i h st b hb => by
    have e : b = it := by simpa using hb
    subst e
    obtain ⟨o, e, c, d⟩ := st
    exact ⟨o, e, fun v z => by rw [d] at z; cases z⟩
  keep := fun i h h' st k => st.at fun o e => k it (by simp) o e
  item := by
    intro X hP hw hK hc i pins s σ H E I hf st hg
    subst hP hw hK
    obtain ⟨xs, x, hq, hx⟩ := hg
    obtain ⟨its, rv, p, hz⟩ := I.list hq
    obtain ⟨u, hu, ru⟩ := rv.get hx
    obtain ⟨f0, f1, f2, f3, f4, f5⟩ := hf it (by simp)
    refine wpAny_pyNext_list_item st p.isList (x := u) (by simpa using hu) fun h' st' sb => ?_
    have I1 : Inv X pins σ H { s with heap := h' } := I.turned (t' := s.toks) (fun b o hb e => (sb.2 b hb).trans e) f0 f1 f3 f4 f5
    obtain ⟨o, e, c, d⟩ := id st'
    exact ⟨u, rfl, go_of (s := { s with heap := h' }) e c d (by decide) ⟨x, H, I1, ru, ⟨rfl, fun ys hy => by rw [I.list_inj hy hq]; exact hx⟩, st', fun b hb => (hf b hb).1⟩⟩
  done := by
    intro X hP hw hK hc i pins s σ H E I hf st hg
    subst hP hw hK
    obtain ⟨xs, hq, hx⟩ := hg
    obtain ⟨its, rv, p, hz⟩ := I.list hq
    obtain ⟨f0, f1, f2, f3, f4, f5⟩ := hf it (by simp)
    have hl := rv.length
    exact wpAny_pyNext_list_end (I.ok.hd hc) st p.isList (by simp; omega) fun h' eb => ⟨rfl, I.turned (t' := s.toks) (fun b o hb e => eb b o hb e) f0 f1 f3 f4 f5⟩
  self := fun _ _ _ _ _ st h => wpAny_pyIter_listiter st h
theorem turn_tuple {P : Program} {w : World} {K : PySem.W.Frag} {tg : Expr} (a it : Addr) : Turn P w K tg (Itt K a) [it] it (fun i h => h.IsTupleIter it a i) where
  mem := by simp
  obj := fun i h st b hb => by
    have e : b = it := by simpa using hb
    subst e
    obtain ⟨o, e, c, d⟩ := st
    exact ⟨o, e, fun v z => by rw [d] at z; cases z⟩
  keep := fun i h h' st k => st.at fun o e => k it (by simp) o e
  item := by
    intro X hP hw hK hc i pins s σ H E I hf st hg
    subst hP hw hK
    obtain ⟨xs, x, hq, hx⟩ := hg
    obtain ⟨its, rv, p, hz⟩ := I.tuple hq
    obtain ⟨u, hu, ru⟩ := rv.get hx
    obtain ⟨f0, f1, f2, f3, f4, f5⟩ := hf it (by simp)
    refine wpAny_pyNext_tuple_item st (show s.heap.IsTuple a its.toArray from p) (x := u) (by simpa using hu) fun h' st' sb => ?_
    have I1 : Inv X pins σ H { s with heap := h' } := I.turned (t' := s.toks) (fun b o hb e => (sb.2 b hb).trans e) f0 f1 f3 f4 f5
    obtain ⟨o, e, c, d⟩ := id st'
    exact ⟨u, rfl, go_of (s := { s with heap := h' }) e c d (by decide) ⟨x, H, I1, ru, ⟨rfl, fun ys hy => by rw [I.tuple_inj hy hq]; exact hx⟩, st', fun b hb => (hf b hb).1⟩⟩
  done := by
    intro X hP hw hK hc i pins s σ H E I hf st hg
    subst hP hw hK
    obtain ⟨xs, hq, hx⟩ := hg
    obtain ⟨its, rv, p, hz⟩ := I.tuple hq
    obtain ⟨f0, f1, f2, f3, f4, f5⟩ := hf it (by simp)
    have hl := rv.length
    exact wpAny_pyNext_tuple_end (I.ok.hd hc) st (show s.heap.IsTuple a its.toArray from p) (by simp; omega) fun h' eb => ⟨rfl, I.turned (t' := s.toks) (fun b o hb e => eb b o hb e) f0 f1 f3 f4 f5⟩
  self := fun _ _ _ _ _ st h => wpAny_pyIter_tupleiter st h
theorem turn_range {P : Program} {w : World} {K : PySem.W.Frag} {tg : Expr} (it : Addr) (lo : Int) (n : Nat) : Turn P w K tg (Itr lo n) [it] it (fun i h => IsRangeIter h it (lo + (i : Nat) * 1) ((n : Int) - (i : Nat)) 1) where
  mem := by simp
  obj := fun i h st b hb => by
    have e : b = it := by simpa using hb
    subst e
    exact ⟨_, st, fun v z => by
      have z' : Data.fields _ = Data.cell v := z
      cases z'⟩
  keep := fun i h h' st k => k it (by simp) _ st
  item := by
    intro X hP hw hK hc i pins s σ H E I hf st hg
    subst hP hw hK
    obtain ⟨f0, f1, f2, f3, f4, f5⟩ := hf it (by simp)
    have W := Walks.range (prog := X.prog) (w := X.w) (I.ok.hd hc) it lo 1 n
    refine W.item i s _ _ hg st fun v h' tk hv st' kk => ?_
    obtain ⟨t, rfl⟩ := hv
    have I1 : Inv X pins σ H { s with heap := h', toks := tk } := I.turned (fun b o hb e => kk b o (by simpa using hb) e) f0 f1 f3 f4 f5
    refine ⟨_, rfl, go_of (s := { s with heap := h', toks := tk }) (n := "range_iterator") st' rfl rfl (by decide) ⟨.int (lo + i), H, I1, ⟨t, ?_⟩, ⟨rfl, rfl⟩, st', fun b hb => (hf b hb).1⟩⟩
    rw [Int.mul_one]
  done := by
    intro X hP hw hK hc i pins s σ H E I hf st hg
    subst hP hw hK
    obtain ⟨f0, f1, f2, f3, f4, f5⟩ := hf it (by simp)
    exact wpAny_pyNext_range_end (I.ok.hd hc) st (by have : n ≤ i := hg; omega) fun h' eb => ⟨rfl, I.turned (t' := s.toks) (fun b o hb e => eb b o hb e) f0 f1 f3 f4 f5⟩
  self := fun _ _ _ _ _ st h => wpAny_pyIter_rangeiter st h
end L2

namespace L2
open PySem PySem.Spec PyProof.Rows
section
variable {X : Cx} {tg : Expr}
/-- a range object just made, walked -/
theorem range_it {pins : List (Addr × Obj)} {σ : St} {H : Hp} {s : Shared} {R : It → Hp → Prop} {E : Value → Shared → Prop} {lo hi : Int} {t u v : Tok} {tk : Nat} (I : Inv X pins σ H s) (h1 : -(2 ^ 62) ≤ lo) (h2 : lo < 2 ^ 62) (h3 : -(2 ^ 62) ≤ hi) (h4 : hi < 2 ^ 62)
    (q : R (Itr lo (hi - lo).toNat) H) : wpAny (model X.prog X.w) X.A (pyIter (.ref s.heap.objs.size)) (PIE X pins σ tg R) E { s with heap := s.heap.push { cls := .type "range", data := .fields #[.int lo t, .int hi u, .int 1 v] }, toks := tk } := by
  refine wpAny_pyIter_range (IsRange.new ..) (small_one h1 h2 h3 h4) ?_
  have I1 : Inv X pins σ H { s with heap := s.heap.push { cls := .type "range", data := .fields #[.int lo t, .int hi u, .int 1 v] }, toks := tk } := I.kept fun b o e => Heap.get?_push_of_some _ e
  refine ⟨(s.heap.push { cls := .type "range", data := .fields #[.int lo t, .int hi u, .int 1 v] }).objs.size, [(s.heap.push { cls := .type "range", data := .fields #[.int lo t, .int hi u, .int 1 v] }).objs.size], _, _, H, rfl,
    I1.kept (t' := tk) fun b o e => Heap.get?_push_of_some _ e, turn_range _ lo (hi - lo).toNat, ?_, fun b hb => ?_, q⟩
  · have e1 : lo + ((0 : Nat) : Int) * 1 = lo := by simp
    have e2 : (((hi - lo).toNat : Nat) : Int) - ((0 : Nat) : Int) = Builtin.Range.rangeSize lo hi 1 := by rw [rangeSize_one]; split <;> omega
    show IsRangeIter _ _ (lo + ((0 : Nat) : Int) * 1) ((((hi - lo).toNat : Nat) : Int) - ((0 : Nat) : Int)) 1
    rw [e1, e2]
    exact Heap.get?_push_size _ rfl
  · have e : b = (s.heap.push { cls := .type "range", data := .fields #[.int lo t, .int hi u, .int 1 v] }).objs.size := by simpa using hb
    subst e
    exact I1.fpOk (Nat.le_refl _) (I1.hok.fresh (Nat.le_refl _))
def iRng1 (ta : TA) : TI := fun σ H R => ta σ H fun vs H1 => ∃ j : Int, vs = [.int j] ∧ -(2 ^ 62) ≤ j ∧ j < 2 ^ 62 ∧ R (Itr 0 j.toNat) H1
theorem pi_range1 {a : Expr} {ta : TA} {p pos : Pos} (hg : Gl X "range") (hm : X.mg "range" = none) (ha : PA X [a] ta) (hs : starEach [a] X.env = [(false, eval a X.env)] := by rfl) : PI X tg (.Call (.Name "range" p) [a] [] pos) (iRng1 ta) := by
  intro pins s σ H R I h
  refine Call_ (ld_blt I hg hm boot_range (PyProof.Rows.callWith_type1 (thn (ha pos pins s σ H _ I h) fun us s1 ⟨vs, H1, I1, r1, q1⟩ => ?_) hs rfl))
  obtain ⟨j, e, q1, q2, q⟩ := q1
  subst e
  cases r1 with
  | cons r rr =>
    cases rr
    obtain ⟨t, rfl⟩ := r
    exact call_range_1 (range_it I1 (by omega) (by omega) q1 q2 (by simpa using q))
/-- W: the invariant by the turn and a measure; N: what the body is to reach -/
def tFor (wi : TI) (g : TG) (tb : TS) : TS := fun D σ H => wi σ H fun J H1 => ∃ W : Nat → Nat → St → Hp → Prop, (∃ m, W 0 m σ H1) ∧ ∀ i m σ H, W i m σ H →
  (J.stop i H ∧ D.nx σ H) ∨ (J.go i H ∧ ∃ N : St → Hp → Prop, (∀ σ' H', N σ' H' → ∃ m', m' < m ∧ W (i + 1) m' σ' H') ∧ ∀ x H', J.yld i H x H' → g x σ H' fun σ2 H2 => tb { D with nx := N, ct := N, bk := D.nx } σ2 H2)
/-- the records at fp as they stand -/
def pinsAt (fp : List Addr) (h : Heap) : List (Addr × Obj) := fp.filterMap fun b => (h.get? b).map fun o => (b, o)
theorem mem_pinsAt {fp : List Addr} {h : Heap} {b : Addr} {o : Obj} (hb : b ∈ fp) (e : h.get? b = some o) : (b, o) ∈ pinsAt fp h := List.mem_filterMap.mpr ⟨b, hb, by rw [e]; rfl⟩
theorem of_pinsAt {fp : List Addr} {h : Heap} {p : Addr × Obj} (hp : p ∈ pinsAt fp h) : p.1 ∈ fp ∧ h.get? p.1 = some p.2 := by
  obtain ⟨b, hb, e⟩ := List.mem_filterMap.mp hp
  cases q : h.get? b with
  | none => rw [q] at e; cases e
  | some o =>
    rw [q] at e
    have e' : (b, o) = p := Option.some.inj e
    subst e'
    exact ⟨hb, q⟩
theorem Inv.pinned {pins : List (Addr × Obj)} {σ : St} {H : Hp} {s : Shared} {fp : List Addr} (I : Inv X pins σ H s) (hf : ∀ b ∈ fp, FpOk X pins H b) (ho : ∀ b ∈ fp, ∃ o, s.heap.get? b = some o ∧ ∀ v, o.data ≠ .cell v) : Inv X (pins ++ pinsAt fp s.heap) σ H s :=
  I.pins_of fun p hp => (List.mem_append.mp hp).elim (fun z => I.pin p (List.mem_append_right _ z)) fun z => by
    obtain ⟨hb, e⟩ := of_pinsAt z
    obtain ⟨f0, f1, f2, _⟩ := hf p.1 hb
    obtain ⟨o, e', d⟩ := ho p.1 hb
    rw [e] at e'; cases e'
    exact ⟨e, f0, f1, f2, d⟩
theorem Inv.unpinned {pins pl : List (Addr × Obj)} {σ : St} {H : Hp} {s : Shared} (I : Inv X (pins ++ pl) σ H s) : Inv X pins σ H s := I.pins_of fun p hp => I.pin p (List.mem_append_right _ (List.mem_append_left _ hp))
theorem ps_for {iter : Expr} {body : List Stmt} {wi : TI} {g : TG} {tb : TS} {pos : Pos} (hp : PassesOwn (model X.prog X.w) X.A X.env X.xe) (hc : X.calm = true) (hi : PI X tg iter wi) (hg : PG X tg g) (hb : PSs X body tb)
    (hs : ∀ x, foldedSetIterable iter X.env x = pure x := by intro _; rfl) : PS X (.For tg iter body [] pos) (tFor wi g tb) := by
  intro pins s σ H D I h
  refine wpAny_For (thn (hi pins s σ H _ I h) fun v s1 h1 => thn h1 fun itv s2 h2 => ?_) hs
  obtain ⟨it, fp, tn, J, H2, e, I2, T, st2, f2, W, ⟨m0, w0⟩, turn⟩ := h2
  subst e
  -- what stays true of the iterator's objects through the loop
  have stat : ∀ {H' : Hp}, (∀ b ∈ fp, H' b = none) → ∀ b ∈ fp, FpOk X pins H' b := fun hn b hb => ⟨hn b hb, (f2 b hb).2⟩
  refine codeAny_forLoop_any (fun n s' => ∃ i σ' H', Inv X pins σ' H' s' ∧ tn i s'.heap ∧ (∀ b ∈ fp, H' b = none) ∧ W i n σ' H') ?_ m0 ⟨0, σ, H2, I2, st2, fun b hb => (f2 b hb).1, w0⟩
  rintro n s3 ⟨i, σ3, H3, I3, st3, fr3, w3⟩
  rcases turn i n σ3 H3 w3 with ⟨stop, qn⟩ | ⟨go, N, hN, step⟩
  · refine wpAny_passesOwn hp (thn (T.done X rfl rfl rfl hc i pins s3 σ3 H3 X.xe I3 (stat fr3) st3 stop) fun r s4 ⟨hr, I4⟩ => ?_)
    subst hr
    exact wpAny_execs_nil ⟨σ3, H3, I4, qn⟩
  · refine wpAny_passesOwn hp (thn (T.item X rfl rfl rfl hc i pins s3 σ3 H3 X.xe I3 (stat fr3) st3 go) fun r s4 ⟨u, hr, h4⟩ => ?_)
    subst hr
    refine wpAny_passesOwn hp (thn h4 fun _ s5 ⟨x, H5, I5, r5, y5, st5, fr5⟩ => ?_)
    have I5' := I5.pinned (stat fr5) (T.obj _ _ st5)
    refine wpAny_passesOwn hp (thn (hg _ s5 σ3 H5 x u _ I5' r5 (step x H5 y5)) fun _ s6 ⟨σ6, H6, I6, q6⟩ => ?_)
    refine wpAny_passesOwn hp (thn (hb _ s6 σ6 H6 _ I6 q6) fun f s7 q7 => ?_)
    have again : ∀ {σ7 : St} {H7 : Hp}, Inv X (pins ++ pinsAt fp s5.heap) σ7 H7 s7 → N σ7 H7 → ∃ m, m < n ∧ ∃ i σ' H', Inv X pins σ' H' s7 ∧ tn i s7.heap ∧ (∀ b ∈ fp, H' b = none) ∧ W i m σ' H' := fun {σ7 H7} I7 n7 => by
      obtain ⟨m', hm, w7⟩ := hN σ7 H7 n7
      refine ⟨m', hm, i + 1, σ7, H7, I7.unpinned, T.keep _ _ _ st5 fun b hb o e => (I7.pin (b, o) (List.mem_append_right _ (List.mem_append_right _ (mem_pinsAt hb e)))).1, fun b hb => ?_, w7⟩
      obtain ⟨o, e, d⟩ := T.obj _ _ st5 b hb
      exact (I7.pin (b, o) (List.mem_append_right _ (List.mem_append_right _ (mem_pinsAt hb e)))).2.1
    cases f with
    | next => obtain ⟨σ7, H7, I7, n7⟩ := q7; exact again I7 n7
    | cont => obtain ⟨σ7, H7, I7, n7⟩ := q7; exact again I7 n7
    | brk => obtain ⟨σ7, H7, I7, q7⟩ := q7; exact ⟨σ7, H7, I7.unpinned, q7⟩
    | ret v => obtain ⟨x7, σ7, H7, I7, r7, q7⟩ := q7; exact ⟨x7, σ7, H7, I7.unpinned, r7, q7⟩
end

/-- over a list that the body leaves as it is -/
theorem for_list {K : PySem.W.Frag} {a : Addr} {xs : List V} {g : TG} {tb : TS} {D : Ends} {σ : St} {H : Hp} (Pv : Nat → St → Hp → Prop) (h0 : Pv 0 σ H) (hl : ∀ i σ H, i ≤ xs.length → Pv i σ H → SqL K H a xs)
    (hs : ∀ i x σ H, xs[i]? = some x → Pv i σ H → g x σ H fun σ2 H2 => tb { D with nx := Pv (i + 1), ct := Pv (i + 1), bk := D.nx } σ2 H2) (hd : ∀ σ H, Pv xs.length σ H → D.nx σ H) :
    ∃ W : Nat → Nat → St → Hp → Prop, (∃ m, W 0 m σ H) ∧ ∀ i m σ H, W i m σ H →
      ((Itl K a).stop i H ∧ D.nx σ H) ∨ ((Itl K a).go i H ∧ ∃ N : St → Hp → Prop, (∀ σ' H', N σ' H' → ∃ m', m' < m ∧ W (i + 1) m' σ' H') ∧ ∀ x H', (Itl K a).yld i H x H' → g x σ H' fun σ2 H2 => tb { D with nx := N, ct := N, bk := D.nx } σ2 H2) := by
  refine ⟨fun i m σ H => m = xs.length - i ∧ i ≤ xs.length ∧ Pv i σ H, ⟨xs.length, by simp, Nat.zero_le _, h0⟩, ?_⟩
  rintro i m σ H ⟨rfl, hi, p⟩
  have q := hl i σ H hi p
  by_cases hlt : i < xs.length
  · refine .inr ⟨⟨xs, xs[i], q, by simp [hlt]⟩, Pv (i + 1), fun σ' H' p' => ⟨xs.length - (i + 1), by omega, rfl, hlt, p'⟩, fun x H' y => ?_⟩
    obtain ⟨e, y⟩ := y
    subst e
    exact hs i x σ _ (y xs q) p
  · have e : i = xs.length := by omega
    subst e
    exact .inl ⟨⟨xs, q, Nat.le_refl _⟩, hd σ H p⟩
theorem for_tup {K : PySem.W.Frag} {a : Addr} {xs : List V} {g : TG} {tb : TS} {D : Ends} {σ : St} {H : Hp} (Pv : Nat → St → Hp → Prop) (h0 : Pv 0 σ H) (hl : ∀ i σ H, i ≤ xs.length → Pv i σ H → SqT K H a xs)
    (hs : ∀ i x σ H, xs[i]? = some x → Pv i σ H → g x σ H fun σ2 H2 => tb { D with nx := Pv (i + 1), ct := Pv (i + 1), bk := D.nx } σ2 H2) (hd : ∀ σ H, Pv xs.length σ H → D.nx σ H) :
    ∃ W : Nat → Nat → St → Hp → Prop, (∃ m, W 0 m σ H) ∧ ∀ i m σ H, W i m σ H →
      ((Itt K a).stop i H ∧ D.nx σ H) ∨ ((Itt K a).go i H ∧ ∃ N : St → Hp → Prop, (∀ σ' H', N σ' H' → ∃ m', m' < m ∧ W (i + 1) m' σ' H') ∧ ∀ x H', (Itt K a).yld i H x H' → g x σ H' fun σ2 H2 => tb { D with nx := N, ct := N, bk := D.nx } σ2 H2) := by
  refine ⟨fun i m σ H => m = xs.length - i ∧ i ≤ xs.length ∧ Pv i σ H, ⟨xs.length, by simp, Nat.zero_le _, h0⟩, ?_⟩
  rintro i m σ H ⟨rfl, hi, p⟩
  have q := hl i σ H hi p
  by_cases hlt : i < xs.length
  · refine .inr ⟨⟨xs, xs[i], q, by simp [hlt]⟩, Pv (i + 1), fun σ' H' p' => ⟨xs.length - (i + 1), by omega, rfl, hlt, p'⟩, fun x H' y => ?_⟩
    obtain ⟨e, y⟩ := y
    subst e
    exact hs i x σ _ (y xs q) p
  · have e : i = xs.length := by omega
    subst e
    exact .inl ⟨⟨xs, q, Nat.le_refl _⟩, hd σ H p⟩
theorem for_range {lo : Int} {n : Nat} {g : TG} {tb : TS} {D : Ends} {σ : St} {H : Hp} (Pv : Nat → St → Hp → Prop) (h0 : Pv 0 σ H)
    (hs : ∀ i σ H, i < n → Pv i σ H → g (.int (lo + i)) σ H fun σ2 H2 => tb { D with nx := Pv (i + 1), ct := Pv (i + 1), bk := D.nx } σ2 H2) (hd : ∀ σ H, Pv n σ H → D.nx σ H) :
    ∃ W : Nat → Nat → St → Hp → Prop, (∃ m, W 0 m σ H) ∧ ∀ i m σ H, W i m σ H →
      ((Itr lo n).stop i H ∧ D.nx σ H) ∨ ((Itr lo n).go i H ∧ ∃ N : St → Hp → Prop, (∀ σ' H', N σ' H' → ∃ m', m' < m ∧ W (i + 1) m' σ' H') ∧ ∀ x H', (Itr lo n).yld i H x H' → g x σ H' fun σ2 H2 => tb { D with nx := N, ct := N, bk := D.nx } σ2 H2) := by
  refine ⟨fun i m σ H => m = n - i ∧ i ≤ n ∧ Pv i σ H, ⟨n, by simp, Nat.zero_le _, h0⟩, ?_⟩
  rintro i m σ H ⟨rfl, hi, p⟩
  by_cases hlt : i < n
  · refine .inr ⟨hlt, Pv (i + 1), fun σ' H' p' => ⟨n - (i + 1), by omega, rfl, hlt, p'⟩, fun x H' y => ?_⟩
    obtain ⟨e, y⟩ := y
    subst e y
    exact hs i σ _ hlt p
  · have e : i = n := by omega
    subst e
    exact .inl ⟨Nat.le_refl _, hd σ H p⟩
end L2

namespace L2
open PySem PySem.Spec PyProof.Rows

abbrev R2 := V → V → Hp → VK → Prop
/-- a two-place operation on values: f is binaryOp op, inplaceOp op or compareOp op -/
def OpR (X : Cx) (f : Value → Value → Sem Value) (r : R2) : Prop :=
  ∀ (pins : List (Addr × Obj)) (s : Shared) (σ : St) (H : Hp) (x y : V) (v u : Value) (Q : VK), Inv X pins σ H s → RelV x v → RelV y u → r x y H Q →
    wpAny (model X.prog X.w) X.A (f v u) (EP X pins σ Q) X.xe s
/-- a one-place operation -/
def UnR (X : Cx) (f : Value → Sem Value) (r : V → Hp → VK → Prop) : Prop :=
  ∀ (pins : List (Addr × Obj)) (s : Shared) (σ : St) (H : Hp) (x : V) (v : Value) (Q : VK), Inv X pins σ H s → RelV x v → r x H Q →
    wpAny (model X.prog X.w) X.A (f v) (EP X pins σ Q) X.xe s
/-- a call of a value that is known (a builtin, a type) with values -/
def CallR (X : Cx) (f : Value) (r : List V → Hp → VK → Prop) : Prop :=
  ∀ (pins : List (Addr × Obj)) (s : Shared) (σ : St) (H : Hp) (xs : List V) (us : List Value) (Q : VK), Inv X pins σ H s → Vals xs us → r xs H Q →
    wpAny (model X.prog X.w) X.A (call f us) (EP X pins σ Q) X.xe s
/-- a value's truth -/
def TruR (X : Cx) (r : V → Hp → (Bool → Hp → Prop) → Prop) : Prop :=
  ∀ (pins : List (Addr × Obj)) (s : Shared) (σ : St) (H : Hp) (x : V) (v : Value) (Q : Bool → Hp → Prop), Inv X pins σ H s → RelV x v → r x H Q →
    wpAny (model X.prog X.w) X.A (truthy v) (TP X pins σ Q) X.xe s

def tOp (r : R2) (ta tb : TE) : TE := fun σ H Q => ta σ H fun x H1 => tb σ H1 fun y H2 => r x y H2 Q
def tUn (r : V → Hp → VK → Prop) (ta : TE) : TE := fun σ H Q => ta σ H fun x H1 => r x H1 Q
/-- ints in, under C, and a value out -/
def rI (C : Int → Int → Prop) (g : Int → Int → V) : R2 := fun x y H Q => ∃ i j, x = .int i ∧ y = .int j ∧ C i j ∧ Q (g i j) H
def rI0 (g : Int → Int → V) : R2 := fun x y H Q => ∃ i j, x = .int i ∧ y = .int j ∧ Q (g i j) H
def rU (g : Int → V) : V → Hp → VK → Prop := fun x H Q => ∃ i, x = .int i ∧ Q (g i) H

section
variable {X : Cx} {a b c : Expr} {ta tb tc : TE} {pos : Pos}

theorem binT (ha : PE X a ta) (hb : PE X b tb) {pins : List (Addr × Obj)} {s : Shared} {σ : St} {H : Hp} {R : V → V → Hp → Prop} (I : Inv X pins σ H s)
    (h : ta σ H fun x H1 => tb σ H1 fun y H2 => R x y H2) {Q : Value → Shared → Prop} {f : Value → Value → Sem Value}
    (hf : ∀ v u s2 x y H2, Inv X pins σ H2 s2 → RelV x v → RelV y u → R x y H2 → wpAny (model X.prog X.w) X.A (f v u) Q X.xe s2) :
    wpAny (model X.prog X.w) X.A (eval a X.env) (fun v s₁ => wpAny (model X.prog X.w) X.A (eval b X.env) (fun u s₂ => wpAny (model X.prog X.w) X.A (f v u) Q X.xe s₂) X.xe s₁) X.xe s := by
  refine thn (ha pins s σ H _ I h) fun v s1 ⟨x, H1, I1, r1, q1⟩ => ?_
  refine thn (hb pins s1 σ H1 _ I1 q1) fun u s2 ⟨y, H2, I2, r2, q2⟩ => ?_
  exact hf v u s2 x y H2 I2 r1 r2 q2

theorem pe_op {op : Operator} {r : R2} (ho : OpR X (binaryOp op) r) (ha : PE X a ta) (hb : PE X b tb) : PE X (.BinOp a op b pos) (tOp r ta tb) := by
  intro pins s σ H Q I h
  exact wpAny_BinOp (binT ha hb I h fun v u s2 x y H2 I2 rx ry q => ho pins s2 σ H2 x y v u Q I2 rx ry q)
theorem pe_un {op : UnaryOp} {r : V → Hp → VK → Prop} (ho : UnR X (unaryOp op) r) (ha : PE X a ta) : PE X (.UnaryOp op a pos) (tUn r ta) := by
  intro pins s σ H Q I h
  exact UnaryOp_ (thn (ha pins s σ H _ I h) fun v s1 ⟨x, H1, I1, r1, q1⟩ => ho pins s1 σ H1 x v Q I1 r1 q1)
theorem opI {f : Value → Value → Sem Value} {C : Int → Int → Prop} {g : Int → Int → Int}
    (rule : ∀ (i j : Int) (t u : Tok) (s : Shared) (Q : Value → Shared → Prop) (E : Value → Shared → Prop), C i j → Q (.int (g i j) s.toks) { s with toks := s.toks + 1 } → wpAny (model X.prog X.w) X.A (f (.int i t) (.int j u)) Q E s) :
    OpR X f (rI C fun i j => .int (g i j)) := by
  intro pins s σ H x y v u Q I rx ry h
  obtain ⟨i, j, rfl, rfl, hc, q⟩ := h
  obtain ⟨t, rfl⟩ := rx
  obtain ⟨t', rfl⟩ := ry
  exact rule i j t t' s _ _ hc ⟨.int (g i j), H, I.tok _, ⟨_, rfl⟩, q⟩
theorem opI0 {f : Value → Value → Sem Value} {g : Int → Int → Int}
    (rule : ∀ (i j : Int) (t u : Tok) (s : Shared) (Q : Value → Shared → Prop) (E : Value → Shared → Prop), Q (.int (g i j) s.toks) { s with toks := s.toks + 1 } → wpAny (model X.prog X.w) X.A (f (.int i t) (.int j u)) Q E s) :
    OpR X f (rI0 fun i j => .int (g i j)) := by
  intro pins s σ H x y v u Q I rx ry h
  obtain ⟨i, j, rfl, rfl, q⟩ := h
  obtain ⟨t, rfl⟩ := rx
  obtain ⟨t', rfl⟩ := ry
  exact rule i j t t' s _ _ ⟨.int (g i j), H, I.tok _, ⟨_, rfl⟩, q⟩
theorem opB0 {f : Value → Value → Sem Value} {g : Int → Int → Bool}
    (rule : ∀ (i j : Int) (t u : Tok) (s : Shared) (Q : Value → Shared → Prop) (E : Value → Shared → Prop), Q (.bool (g i j)) s → wpAny (model X.prog X.w) X.A (f (.int i t) (.int j u)) Q E s) :
    OpR X f (rI0 fun i j => .bl (g i j)) := by
  intro pins s σ H x y v u Q I rx ry h
  obtain ⟨i, j, rfl, rfl, q⟩ := h
  obtain ⟨t, rfl⟩ := rx
  obtain ⟨t', rfl⟩ := ry
  exact rule i j t t' s _ _ ⟨.bl (g i j), H, I, rfl, q⟩

def CPow (i j : Int) : Prop := 0 ≤ j ∧ j ≤ 1000000 ∧ i.natAbs < 2 ^ 64
def CMul (i j : Int) : Prop := (-(2 ^ 64) < i ∧ i < 2 ^ 64) ∨ (-(2 ^ 64) < j ∧ j < 2 ^ 64)
theorem CMul.ok {i j : Int} (h : CMul i j) : IntMulOk i j := by
  rcases h with ⟨h1, h2⟩ | ⟨h1, h2⟩
  · exact .of_left (intBits_le_64 h1 h2)
  · exact .of_right (intBits_le_64 h1 h2)
theorem two_pow_nn (k : Nat) : (0 : Int) ≤ 2 ^ k := by
  rw [two_pow_cast]
  exact Int.natCast_nonneg _

theorem op_add : OpR X (binaryOp .Add) (rI0 fun i j => .int (i + j)) := opI0 fun _ _ _ _ _ _ _ q => add_int q
theorem op_sub : OpR X (binaryOp .Sub) (rI0 fun i j => .int (i - j)) := opI0 fun _ _ _ _ _ _ _ q => sub_int q
theorem op_mul : OpR X (binaryOp .Mult) (rI CMul fun i j => .int (i * j)) := opI fun _ _ _ _ _ _ _ hc q => mul_int q hc.ok
/-- % by a positive divisor of any size -/
theorem op_mod : OpR X (binaryOp .Mod) (rI (fun _ j => 0 < j) fun i j => .int (i % j)) := opI fun i j _ _ _ _ _ hc q => by
  have h1 : (0 : Int) < j := hc
  exact mod_int' (by omega) (by rw [Int.fmod_eq_emod_of_nonneg i (by omega)]; exact q)
theorem op_shl : OpR X (binaryOp .LShift) (rI CPow fun i j => .int (i * 2 ^ j.toNat)) := opI fun _ _ _ _ _ _ _ hc q => lshift_int_small hc.1 hc.2.1 hc.2.2 q
theorem op_shr : OpR X (binaryOp .RShift) (rI (fun _ j => 0 ≤ j) fun i j => .int (i / 2 ^ j.toNat)) := opI fun i j _ _ _ _ _ hc q =>
  rshift_int hc (by rw [Int.fdiv_eq_ediv_of_nonneg i (two_pow_nn _)]; exact q)
theorem op_and : OpR X (binaryOp .BitAnd) (rI0 fun i j => .int (Builtin.bitAnd i j)) := opI0 fun _ _ _ _ _ _ _ q => and_int q
theorem op_or : OpR X (binaryOp .BitOr) (rI0 fun i j => .int (Builtin.bitOr i j)) := opI0 fun _ _ _ _ _ _ _ q => or_int q
theorem op_xor : OpR X (binaryOp .BitXor) (rI0 fun i j => .int (Builtin.bitXor i j)) := opI0 fun _ _ _ _ _ _ _ q => xor_int q

theorem unI {f : Value → Sem Value} {g : Int → Int}
    (rule : ∀ (i : Int) (t : Tok) (s : Shared) (Q : Value → Shared → Prop) (E : Value → Shared → Prop), Q (.int (g i) s.toks) { s with toks := s.toks + 1 } → wpAny (model X.prog X.w) X.A (f (.int i t)) Q E s) :
    UnR X f (rU fun i => .int (g i)) := by
  intro pins s σ H x v Q I rx h
  obtain ⟨i, rfl, q⟩ := h
  obtain ⟨t, rfl⟩ := rx
  exact rule i t s _ _ ⟨.int (g i), H, I.tok _, ⟨_, rfl⟩, q⟩
theorem un_neg : UnR X (unaryOp .USub) (rU fun i => .int (-i)) := unI fun _ _ _ _ _ q => neg_int q
end

/-- the scalars that == tells apart as data does -/
def scal : V → V → Bool
  | .non, .non => true | .non, .int _ => true | .int _, .non => true | .non, .bl _ => true | .bl _, .non => true | .non, .str _ => true | .str _, .non => true
  | .int _, .int _ => true | .bl _, .bl _ => true | .str _, .str _ => true | .byt _, .byt _ => true
  | .int _, .str _ => true | .str _, .int _ => true | .bl _, .str _ => true | .str _, .bl _ => true
  | _, _ => false
def rEq : R2 := fun x y H Q => scal x y = true ∧ Q (.bl (decide (x = y))) H
def rNe : R2 := fun x y H Q => scal x y = true ∧ Q (.bl (!decide (x = y))) H

theorem dec_int {i j : Int} : decide (V.int i = V.int j) = (i == j) := by
  rw [Bool.eq_iff_iff]
  simp
theorem dec_bl {i j : Bool} : decide (V.bl i = V.bl j) = (i == j) := by
  rw [Bool.eq_iff_iff]
  simp
theorem dec_str {i j : Str} : decide (V.str i = V.str j) = (i == j) := by
  rw [Bool.eq_iff_iff]
  simp
theorem dec_byt {i j : Array UInt8} : decide (V.byt i = V.byt j) = (i.toList == j.toList) := by
  rw [Bool.eq_iff_iff]
  cases i
  cases j
  simp

section
variable {X : Cx} {a b c : Expr} {ta tb tc : TE} {pos : Pos}
theorem fin_bl {pins : List (Addr × Obj)} {σ : St} {H : Hp} {s : Shared} {Q : VK} {k k' : Bool} (I : Inv X pins σ H s) (q : Q (.bl k) H) (e : k = k') : EP X pins σ Q (.bool k') s := by
  subst e
  exact ⟨.bl k, H, I, rfl, q⟩
theorem op_eq : OpR X (compareOp .Eq) rEq := by
  intro pins s σ H x y v u Q I rx ry h
  obtain ⟨hs, q⟩ := h
  cases x with
  | non =>
    cases rx
    cases y with
    | non => cases ry; exact PySem.EqNone.eq_none_none (fin_bl I q (by simp))
    | bl j => cases ry; exact PySem.EqNone.eq_none_bool (fin_bl I q (by simp))
    | int j => obtain ⟨t', rfl⟩ := ry; exact PySem.EqNone.eq_none_int (fin_bl I q (by simp))
    | str j => obtain ⟨t', rfl⟩ := ry; exact PySem.EqNone.eq_none_str (fin_bl I q (by simp))
    | _ => exact absurd (show false = true from hs) Bool.false_ne_true
  | bl i =>
    cases rx
    cases y with
    | non => cases ry; exact PySem.EqNone.eq_bool_none (fin_bl I q (by simp))
    | bl j => cases ry; exact eq_bool (fin_bl I q dec_bl)
    | str j => obtain ⟨t', rfl⟩ := ry; exact PySem.EqMixed.eq_bool_str (fin_bl I q (by simp))
    | _ => exact absurd (show false = true from hs) Bool.false_ne_true
  | int i =>
    obtain ⟨t, rfl⟩ := rx
    cases y with
    | non => cases ry; exact PySem.EqNone.eq_int_none (fin_bl I q (by simp))
    | int j => obtain ⟨t', rfl⟩ := ry; exact eq_int (fin_bl I q dec_int)
    | str j => obtain ⟨t', rfl⟩ := ry; exact PySem.EqMixed.eq_int_str (fin_bl I q (by simp))
    | _ => exact absurd (show false = true from hs) Bool.false_ne_true
  | str i =>
    obtain ⟨t, rfl⟩ := rx
    cases y with
    | non => cases ry; exact PySem.EqNone.eq_str_none (fin_bl I q (by simp))
    | bl j => cases ry; exact PySem.EqMixed.eq_str_bool (fin_bl I q (by simp))
    | int j => obtain ⟨t', rfl⟩ := ry; exact PySem.EqMixed.eq_str_int (fin_bl I q (by simp))
    | str j => obtain ⟨t', rfl⟩ := ry; exact eq_str (fin_bl I q dec_str)
    | _ => exact absurd (show false = true from hs) Bool.false_ne_true
  | byt i =>
    obtain ⟨t, rfl⟩ := rx
    cases y with
    | byt j => obtain ⟨t', rfl⟩ := ry; exact PySem.W.eq_bytes (fin_bl I q dec_byt)
    | _ => exact absurd (show false = true from hs) Bool.false_ne_true
  | _ => cases y <;> exact absurd (show false = true from hs) Bool.false_ne_true
theorem op_ne : OpR X (compareOp .NotEq) rNe := by
  intro pins s σ H x y v u Q I rx ry h
  obtain ⟨hs, q⟩ := h
  cases x with
  | non =>
    cases rx
    cases y with
    | non => cases ry; exact PySem.EqNone.ne_none_none (fin_bl I q (by simp))
    | bl j => cases ry; exact PySem.EqNone.ne_none_bool (fin_bl I q (by simp))
    | int j => obtain ⟨t', rfl⟩ := ry; exact PySem.EqNone.ne_none_int (fin_bl I q (by simp))
    | str j => obtain ⟨t', rfl⟩ := ry; exact PySem.EqNone.ne_none_str (fin_bl I q (by simp))
    | _ => exact absurd (show false = true from hs) Bool.false_ne_true
  | bl i =>
    cases rx
    cases y with
    | non => cases ry; exact PySem.EqNone.ne_bool_none (fin_bl I q (by simp))
    | bl j => cases ry; exact ne_bool (fin_bl I q (congrArg not dec_bl))
    | str j => obtain ⟨t', rfl⟩ := ry; exact PySem.EqMixed.ne_bool_str (fin_bl I q (by simp))
    | _ => exact absurd (show false = true from hs) Bool.false_ne_true
  | int i =>
    obtain ⟨t, rfl⟩ := rx
    cases y with
    | non => cases ry; exact PySem.EqNone.ne_int_none (fin_bl I q (by simp))
    | int j => obtain ⟨t', rfl⟩ := ry; exact ne_int (fin_bl I q (congrArg not dec_int))
    | str j => obtain ⟨t', rfl⟩ := ry; exact PySem.EqMixed.ne_int_str (fin_bl I q (by simp))
    | _ => exact absurd (show false = true from hs) Bool.false_ne_true
  | str i =>
    obtain ⟨t, rfl⟩ := rx
    cases y with
    | non => cases ry; exact PySem.EqNone.ne_str_none (fin_bl I q (by simp))
    | bl j => cases ry; exact PySem.EqMixed.ne_str_bool (fin_bl I q (by simp))
    | int j => obtain ⟨t', rfl⟩ := ry; exact PySem.EqMixed.ne_str_int (fin_bl I q (by simp))
    | str j => obtain ⟨t', rfl⟩ := ry; exact ne_str (fin_bl I q (congrArg not dec_str))
    | _ => exact absurd (show false = true from hs) Bool.false_ne_true
  | byt i =>
    obtain ⟨t, rfl⟩ := rx
    cases y with
    | byt j => obtain ⟨t', rfl⟩ := ry; exact PySem.W.ne_bytes (fin_bl I q (congrArg not dec_byt))
    | _ => exact absurd (show false = true from hs) Bool.false_ne_true
  | _ => cases y <;> exact absurd (show false = true from hs) Bool.false_ne_true

theorem op_lt : OpR X (compareOp .Lt) (rI0 fun i j => .bl (decide (i < j))) := opB0 fun _ _ _ _ _ _ _ q => lt_int q
theorem op_ge : OpR X (compareOp .GtE) (rI0 fun i j => .bl (decide (j ≤ i))) := opB0 fun _ _ _ _ _ _ _ q => ge_int q
/-- two rules for one operation: by cases -/
theorem OpR.or {f : Value → Value → Sem Value} {r r' : R2} (h : OpR X f r) (h' : OpR X f r') : OpR X f (fun x y H Q => r x y H Q ∨ r' x y H Q) := by
  intro pins s σ H x y v u Q I rx ry q
  rcases q with q | q
  · exact h pins s σ H x y v u Q I rx ry q
  · exact h' pins s σ H x y v u Q I rx ry q

theorem nomark (b : Expr) {op : CmpOp} (h : op ≠ .In := by decide) (h2 : op ≠ .NotIn := by decide) : behindInMarks op b = false := by
  have e1 : (op == CmpOp.In) = false := by cases op <;> first | rfl | exact absurd rfl h
  have e2 : (op == CmpOp.NotIn) = false := by cases op <;> first | rfl | exact absurd rfl h2
  cases b <;> simp [behindInMarks, e1, e2]
/-- a comparison as a value; hm: nomark b, or (for in, not in) by with_unfolding_all rfl -/
theorem pe_cmpR {op : CmpOp} {r : R2} (ho : OpR X (compareOp op) r) (ha : PE X a ta) (hb : PE X b tb) (hm : behindInMarks op b = false) : PE X (.Compare a [op] [b] pos) (tOp r ta tb) := by
  intro pins s σ H Q I h
  exact wpAny_Compare1 (binT ha hb I h fun v u s2 x y H2 I2 rx ry q => ho pins s2 σ H2 x y v u Q I2 rx ry q) hm
/-- a reading of a value as a test -/
def tTest (t : TE) : TT := fun σ H Q => t σ H fun x H' => ∃ k, x = .bl k ∧ Q k H'
theorem pt_cmpR {op : CmpOp} {r : R2} (ho : OpR X (compareOp op) r) (ha : PE X a ta) (hb : PE X b tb) (hm : behindInMarks op b = false) : PT X (.Compare a [op] [b] pos) (tTest (tOp r ta tb)) := by
  intro pins s σ H Q I h
  refine wpAny_isTrue_Compare1 (thn (ha pins s σ H _ I h) fun v s1 ⟨x, H1, I1, r1, q1⟩ => thn (hb pins s1 σ H1 _ I1 q1) fun u s2 ⟨y, H2, I2, r2, q2⟩ =>
    thn (ho pins s2 σ H2 x y v u _ I2 r1 r2 q2) fun c s3 ⟨z, H3, I3, r3, k, e, q3⟩ => ?_) hm
  subst e
  cases r3
  exact wpAny_truthy_bool ⟨H3, I3, q3⟩
/-- a value's truth by the abstract heap -/
def TruV (K : PySem.W.Frag) (x : V) (H : Hp) (k : Bool) : Prop :=
  match x with
  | .non => k = false
  | .bl b => k = b
  | .int i => k = (i != 0)
  | .str y => y.length ≤ sizeLine ∧ k = ((y.length : Int) != 0)
  | .byt y => y.size ≤ sizeLine ∧ k = ((y.size : Int) != 0)
  | .ref p => (∃ xs, SqL K H p xs ∧ k = !xs.isEmpty) ∨ (∃ xs, SqT K H p xs ∧ k = !xs.isEmpty) ∨ ∃ kvs, H p = some (.dK kvs) ∧ k = !kvs.isEmpty
  | _ => False
theorem isEmpty_kv {κ : Type} {kvs : List (κ × V)} {vs : List (κ × Value)} (r : KV kvs vs) : (!vs.isEmpty) = !kvs.isEmpty := by
  cases r <;> rfl
theorem isEmpty_of {xs : List V} {its : List Value} (r : Vals xs its) : (!its.toArray.isEmpty) = !xs.isEmpty := by
  cases r <;> simp
theorem line63 : (sizeLine : Nat) < 2 ^ 63 := by rw [sizeLine_eq]; decide
theorem tru_ok : TruR X (fun x H Q => ∃ k, TruV X.K x H k ∧ Q k H) := by
  intro pins s σ H x v Q I rx h
  obtain ⟨k, e, q⟩ := h
  have hl := line63
  have hs : sizeLine = 16777216 := sizeLine_eq
  cases x with
  | non =>
    cases rx
    have e' : k = false := e
    subst e'
    exact truthy_none ⟨H, I, q⟩
  | bl b =>
    cases rx
    have e' : k = b := e
    subst e'
    exact wpAny_truthy_bool ⟨H, I, q⟩
  | int i =>
    obtain ⟨t, rfl⟩ := rx
    have e' : k = (i != 0) := e
    subst e'
    exact PySem.P.truthy_int ⟨H, I, q⟩
  | str y =>
    obtain ⟨t, rfl⟩ := rx
    obtain ⟨hy, e'⟩ : y.length ≤ sizeLine ∧ k = ((y.length : Int) != 0) := e
    subst e'
    exact PySem.P.truthy_str (by omega) ⟨H, I.tok _, q⟩
  | byt y =>
    obtain ⟨t, rfl⟩ := rx
    obtain ⟨hy, e'⟩ : y.size ≤ sizeLine ∧ k = ((y.size : Int) != 0) := e
    subst e'
    exact PySem.W.truthy_bytes (by omega) ⟨H, I.tok _, q⟩
  | ref p =>
    cases rx
    have e' : (∃ xs, SqL X.K H p xs ∧ k = !xs.isEmpty) ∨ (∃ xs, SqT X.K H p xs ∧ k = !xs.isEmpty) ∨ ∃ kvs, H p = some (.dK kvs) ∧ k = !kvs.isEmpty := e
    rcases e' with ⟨xs, hx, e'⟩ | ⟨xs, hx, e'⟩ | ⟨kvs, hx, e'⟩
    · subst e'
      obtain ⟨its, r, pl, hz⟩ := I.list hx
      have hlen := r.length
      exact wpAny_truthy_list pl.isList (by simp only [List.size_toArray]; omega) ⟨H, I.tok _, by rw [isEmpty_of r]; exact q⟩
    · subst e'
      obtain ⟨its, r, pl, hz⟩ := I.tuple hx
      have hlen := r.length
      exact truthy_tuple pl (by simp only [List.size_toArray]; omega) ⟨H, I.tok _, by rw [isEmpty_of r]; exact q⟩
    · subst e'
      obtain ⟨hz, hS, vs, r, m⟩ : kvs.length ≤ sizeLine ∧ (p == sysModules) = false ∧ ∃ vs, KV kvs vs ∧ s.heap.DictOf (mixKind X.prog X.w) p vs := I.hok p _ hx
      have hlen : kvs.length = vs.length := Paired.length r
      exact wpAny_truthy_dict hS m (by omega) ⟨H, I.tok _, by rw [isEmpty_kv r]; exact q⟩
  | _ => exact (show False from e).elim
/-- any expression whose test is its value's truth (a name, a call, a subscript, a field ..: he by fun _ => rfl) -/
theorem pt_truth (ha : PE X a ta) (he : ∀ whole, isTrue a X.env whole = (do let v ← whole; standAt a.pos; holding [v] (truthy v))) :
    PT X a (fun σ H Q => ta σ H fun x H' => ∃ k, TruV X.K x H' k ∧ Q k H') := by
  intro pins s σ H Q I h
  exact isTrue_plain (thn (ha pins s σ H _ I h) fun v s1 ⟨x, H1, I1, r1, q1⟩ => tru_ok pins s1 σ H1 x v Q I1 r1 q1) (he _)

theorem op_add_str : OpR X (binaryOp .Add) (fun x y H Q => ∃ i j, x = .str i ∧ y = .str j ∧ i.length + j.length ≤ sizeLine ∧ Q (.str (i ++ j)) H) := by
  intro pins s σ H x y v u Q I rx ry h
  obtain ⟨i, j, rfl, rfl, hz, q⟩ := h
  obtain ⟨t, rfl⟩ := rx
  obtain ⟨t', rfl⟩ := ry
  exact add_str (fun t' tk => ⟨.str (i ++ j), H, I.tok _, ⟨_, rfl⟩, q⟩) hz
theorem vals1 {x : V} {us : List Value} (r : Vals [x] us) : ∃ u, us = [u] ∧ RelV x u := by
  cases r with
  | cons r1 r2 => cases r2; exact ⟨_, rfl, r1⟩
theorem vals2 {x y : V} {us : List Value} (r : Vals [x, y] us) : ∃ u w', us = [u, w'] ∧ RelV x u ∧ RelV y w' := by
  cases r with
  | cons r1 r2 =>
    cases r2 with
    | cons r3 r4 => cases r4; exact ⟨_, _, rfl, r1, r3⟩
theorem call_max2 (hc : X.calm = true) : CallR X (.builtin "max") (fun xs H Q => ∃ i j, xs = [.int i, .int j] ∧ Q (.int (if j > i then j else i)) H) := by
  intro pins s σ H xs us Q I r h
  obtain ⟨i, j, rfl, q⟩ := h
  obtain ⟨u, w', rfl, ⟨t, rfl⟩, ⟨t', rfl⟩⟩ := vals2 r
  refine max_two_ints (I.ok.hd hc) fun h' tk k => ⟨_, H, I.kept k, ?_, q⟩
  by_cases hj : j > i
  · rw [if_pos hj, if_pos hj]; exact ⟨_, rfl⟩
  · rw [if_neg hj, if_neg hj]; exact ⟨_, rfl⟩
theorem call_int1 : CallR X (.type "int") (fun xs H Q => (∃ i, xs = [.int i] ∧ Q (.int i) H) ∨ ∃ k, xs = [.bl k] ∧ Q (.int (if k then 1 else 0)) H) := by
  intro pins s σ H xs us Q I r h
  rcases h with ⟨i, rfl, q⟩ | ⟨k, rfl, q⟩
  · obtain ⟨u, rfl, t, rfl⟩ := vals1 r
    exact call_int_int ⟨.int i, H, I, ⟨_, rfl⟩, q⟩
  · obtain ⟨u, rfl, r1⟩ := vals1 r
    cases r1
    exact call_int_bool ⟨.int (if k then 1 else 0), H, I.tok _, ⟨_, rfl⟩, q⟩
/-- len of a str, a bytes, a list, a tuple -/
def LenV (K : PySem.W.Frag) (x : V) (H : Hp) (n : Nat) : Prop :=
  match x with
  | .str y => y.length ≤ sizeLine ∧ n = y.length
  | .byt y => y.size ≤ sizeLine ∧ n = y.size
  | .ref p => (∃ xs, SqL K H p xs ∧ n = xs.length) ∨ ∃ xs, SqT K H p xs ∧ n = xs.length
  | _ => False
theorem call_len : CallR X (.builtin "len") (fun xs H Q => ∃ x n, xs = [x] ∧ LenV X.K x H n ∧ Q (.int n) H) := by
  intro pins s σ H xs us Q I r h
  obtain ⟨x, n, rfl, e, q⟩ := h
  obtain ⟨u, rfl, rx⟩ := vals1 r
  have hl := line63
  have hs : sizeLine = 16777216 := sizeLine_eq
  cases x with
  | str y =>
    obtain ⟨t, rfl⟩ := rx
    obtain ⟨hy, e'⟩ : y.length ≤ sizeLine ∧ n = y.length := e
    subst e'
    exact len_str (by omega) ⟨.int _, H, I.tok _, ⟨_, rfl⟩, q⟩
  | byt y =>
    obtain ⟨t, rfl⟩ := rx
    obtain ⟨hy, e'⟩ : y.size ≤ sizeLine ∧ n = y.size := e
    subst e'
    exact PySem.W.len_bytes (by omega) ⟨.int _, H, I.tok _, ⟨_, rfl⟩, q⟩
  | ref p =>
    cases rx
    have e' : (∃ xs, SqL X.K H p xs ∧ n = xs.length) ∨ ∃ xs, SqT X.K H p xs ∧ n = xs.length := e
    rcases e' with ⟨xs, hx, e'⟩ | ⟨xs, hx, e'⟩
    · subst e'
      obtain ⟨its, r', pl, hz⟩ := I.list hx
      have hlen := r'.length
      exact Calls.call_len_list pl.isList (by simp only [List.size_toArray]; omega) ⟨.int xs.length, H, I.tok _, ⟨_, by simp only [List.size_toArray]; rw [hlen]⟩, q⟩
    · subst e'
      obtain ⟨its, r', pl, hz⟩ := I.tuple hx
      have hlen := r'.length
      exact len_tuple pl (by simp only [List.size_toArray]; omega) ⟨.int xs.length, H, I.tok _, ⟨_, by simp only [List.size_toArray]; rw [hlen]⟩, q⟩
  | _ => exact (show False from e).elim
end
end L2

namespace L2
open PySem PySem.Spec PyProof.Rows

structure ObjM (h : Heap) (x dx C : Addr) (mA : Str → Option Value) : Prop where
  obj : h.get? x = some (PySem.W.instObj C dx)
  ns : h.Ns1 dx mA
  ne : dx ≠ x

theorem lookIn_ns {h : Heap} {dx : Addr} {mA : Str → Option Value} (n : h.Ns1 dx mA) : ∃ od, h.get? dx = some od ∧ ∀ name, PySem.W.lookIn name od = some (mA name) := by
  obtain ⟨o, es, ep, ho, hd, hk, _, hm⟩ := n
  refine ⟨o, ho, fun name => ?_⟩
  have e := hm name
  unfold nsFind findBy at e
  rw [← Array.find?_toList] at e
  unfold PySem.W.lookIn
  rw [hd]
  dsimp only
  split
  · rename_i y q
    rw [q] at e
    exact congrArg some e
  · rename_i q
    rw [q] at e
    have a : es.toList.any (·.refKey) = false := by
      rw [List.any_eq_false]
      intro y hy
      obtain ⟨z, t, hkey⟩ := hk y (Array.mem_toList_iff.mp hy)
      simp [DictEntry.refKey, hkey]
    have a' : ¬ es.toList.any (·.refKey) = true := by rw [a]; exact Bool.false_ne_true
    rw [if_neg a']
    exact congrArg some e

theorem ObjM.look {h : Heap} {x dx C : Addr} {mA : Str → Option Value} (I : ObjM h x dx C mA) : ∃ od, PySem.W.InstAt h x (PySem.W.instObj C dx) C (some od) ∧ ∀ name, PySem.W.lookIn name od = some (mA name) :=
  let ⟨od, ho, hl⟩ := lookIn_ns I.ns
  ⟨od, ⟨I.obj, rfl, rfl, ho⟩, hl⟩

section
variable {prog : Program} {w : World} {A : Around} {E : Value → Shared → Prop} {s : Shared} {K : PySem.W.Frag} {x dx C f : Addr} {mA : Str → Option Value} {name : Str} {v : Value}

theorem get_map {expr : Bool} {Q : Value → Shared → Prop} (X : K.In s.heap) (I : ObjM s.heap x dx C mA) (hg : PySem.W.plainGet K C name = true) (hh : PySem.W.hasDictIn K C = true)
    (ha : PySem.W.findIn K (.ref C) name = some none) (hv : mA name = some v) (hv' : PySem.W.handedIn v = true) (h : Q v { s with toks := s.toks + 1 }) :
    wpAny (model prog w) A (getAttr (.ref x) name expr) Q E s := by
  obtain ⟨od, J, hl⟩ := I.look
  exact PySem.W.get_value X J (PySem.W.plainGet_of hg).1 (PySem.W.findObj_own hh ha rfl (by rw [hl, hv])) hv' h

theorem get_meth {pl : Sem Bool} {Q : Value × List Value → Shared → Prop} (X : K.In s.heap) (I : ObjM s.heap x dx C mA) (hg : PySem.W.plainGet K C name = true)
    (hf : PySem.W.findIn K (.ref C) name = some (some (.ref f))) (ht : PySem.W.isFn K (.ref f) = true) (hv : mA name = none) (h : Q (.ref f, [.ref x]) s) :
    wpAny (model prog w) A (getMethod (.ref x) name pl) Q E s := by
  obtain ⟨od, J, hl⟩ := I.look
  exact PySem.W.method_fn X J (PySem.W.plainGet_of hg).1 (PySem.W.plainGet_of hg).2 hf (beq_iff_eq.mp ht) (by show (PySem.W.lookIn name od).map (·.isSome) = some false; rw [hl, hv]; rfl) h

theorem set_map {ns : List Str} {Q : Unit → Shared → Prop} (X : K.In s.heap) (I : ObjM s.heap x dx C mA)
    (hs : PySem.W.findIn K (.ref C) "__setattr__" = some (some (.builtin "object.__setattr__"))) (hp : PySem.W.plainOver K C = true) (ht : PySem.W.takerIn K C name = some none) (hh : PySem.W.hasDictIn K C = true)
    (hw : PySem.Within mA ns) (hsz : ns.length ≤ sizeLine)
    (h : ∀ h', ObjM h' x dx C (fun y => if y = name then some v else mA y) → Heap.SameBut dx s.heap h' → Q () { s with heap := h', toks := s.toks + 2 }) :
    wpAny (model prog w) A (setAttr (.ref x) name v) Q E s := by
  obtain ⟨od, J, hl⟩ := I.look
  refine PySem.W.set_plain X J hs (PySem.W.osa_open (s := { s with toks := s.toks + 1 }) (r := none) X J hp ht fun b => ?_)
  obtain ⟨cd, hc, hd'⟩ := PySem.W.any_some hh
  have hx : s.heap.get? x = some ⟨.ref C, some dx, .plain, #[]⟩ := I.obj
  refine wpAny_bind (wpAny_pure (wpAny_bind (wpAny_bind (wpAny_loadPart hx (wpAny_bind (PySem.W.Looks.here (s := { s with toks := s.toks + 1 }) (PySem.W.looks_clsIn X hc) ?_))))))
  rw [hd']
  refine wpAny_pure (a := some dx) (wpAny_bind (wpAny_pure (wpAny_bind ?_)))
  refine wpAny_nsSet1 (s := { s with toks := s.toks + 1 }) I.ns fun h' hn2 hs2 => ?_
  obtain ⟨oD, esD, epD, hoD, hdD, hcD⟩ := hn2.count (PySem.Within.cons name v hw)
  refine wpAny_bind (wpAny_lookBehind hoD (by rw [hdD]; exact pastItsLine_dict (Nat.le_trans hcD (by rw [List.length_cons]; omega))) ?_)
  exact wpAny_pure (h _ ⟨(hs2.2 _ (Ne.symm I.ne)).trans I.obj, hn2, I.ne⟩ hs2)

/-- C(..): the dict at the heap's end, the instance behind it; then its __init__ -/
theorem make_map {R : Result → Shared → Prop} {vs : List Value} {kw : List (Str × Value)} (X : K.In s.heap) (hm : PySem.W.makesIn K C = true)
    (hi : PySem.W.findIn K (.ref C) "__init__" = some (some (.ref f))) (hf : PySem.W.typeIn K (.ref f) = some (.type "function"))
    (h : codeAny (model prog w) (A.under (.builtin "type.__call__" ⟨.ref C :: vs, kw⟩)) (.call (.ref f) ⟨.ref (s.heap.objs.size + 1) :: vs, kw⟩) (PySem.W.InitBack (s.heap.objs.size + 1) R)
      { s with heap := (s.heap.push PySem.W.emptyDict).push (PySem.W.instObj C s.heap.objs.size) }) :
    codeAny (model prog w) A (.call (.ref C) ⟨vs, kw⟩) R s := by
  obtain ⟨hh, g, d, t, os⟩ := s
  exact PySem.W.make_core (PySem.W.makes_of X hm) (PySem.W.looks_findIn X hi) (fun self => PySem.W.bind_fn X self hf) (.inl rfl) h
end

def putF (f : Str) (v : V) : List (Str × V) → List (Str × V)
  | [] => [(f, v)]
  | (g, x) :: r => if g = f then (g, v) :: r else (g, x) :: putF f v r
theorem lookup_putF (f g : Str) (v : V) : ∀ fs : List (Str × V), (putF f v fs).lookup g = if g = f then some v else fs.lookup g
  | [] => by
    show List.lookup g [(f, v)] = _
    by_cases h : g = f
    · have hb : (g == f) = true := beq_iff_eq.mpr h
      simp only [List.lookup, hb, if_pos h]
    · have hb : (g == f) = false := beq_eq_false_iff_ne.mpr h
      simp only [List.lookup, hb, if_neg h]
  | (k, x) :: r => by
    have ih := lookup_putF f g v r
    rw [show putF f v ((k, x) :: r) = (if k = f then (k, v) :: r else (k, x) :: putF f v r) from rfl]
    by_cases hk : k = f
    · rw [if_pos hk]
      by_cases h : g = k
      · have hb : (g == k) = true := beq_iff_eq.mpr h
        simp only [List.lookup, hb, if_pos (h.trans hk)]
      · have hb : (g == k) = false := beq_eq_false_iff_ne.mpr h
        simp only [List.lookup, hb, if_neg (fun e : g = f => h (e.trans hk.symm))]
    · rw [if_neg hk]
      by_cases h : g = k
      · have hb : (g == k) = true := beq_iff_eq.mpr h
        simp only [List.lookup, hb, if_neg (fun e : g = f => hk (h.symm.trans e))]
      · have hb : (g == k) = false := beq_eq_false_iff_ne.mpr h
        simp only [List.lookup, hb]
        exact ih
theorem keys_putF (f : Str) (v : V) : ∀ fs : List (Str × V), f ∈ (putF f v fs).map (·.1) ∧ ∀ g, g ∈ fs.map (·.1) → g ∈ (putF f v fs).map (·.1)
  | [] => ⟨by simp [putF], fun g h => by simp at h⟩
  | (k, x) :: r => by
    obtain ⟨i1, i2⟩ := keys_putF f v r
    rw [show putF f v ((k, x) :: r) = (if k = f then (k, v) :: r else (k, x) :: putF f v r) from rfl]
    by_cases hk : k = f
    · rw [if_pos hk]
      subst hk
      exact ⟨by simp, fun g h => by simpa using h⟩
    · rw [if_neg hk]
      refine ⟨?_, fun g h => ?_⟩
      · rw [List.map_cons]
        exact List.mem_cons_of_mem _ i1
      · rw [List.map_cons] at h ⊢
        rcases List.mem_cons.mp h with e | e
        · exact List.mem_cons.mpr (.inl e)
        · exact List.mem_cons_of_mem _ (i2 g e)
theorem length_putF (f : Str) (v : V) : ∀ fs : List (Str × V), (putF f v fs).length ≤ fs.length + 1
  | [] => by simp [putF]
  | (k, x) :: r => by
    have ih := length_putF f v r
    rw [show putF f v ((k, x) :: r) = (if k = f then (k, v) :: r else (k, x) :: putF f v r) from rfl]
    by_cases hk : k = f
    · rw [if_pos hk, List.length_cons, List.length_cons]; omega
    · rw [if_neg hk, List.length_cons, List.length_cons]; omega

theorem RelO.some_of {v : V} {o : Option Value} (r : RelO (some v) o) : ∃ u, o = some u ∧ RelV v u := by
  cases o with
  | none => exact (show False from r).elim
  | some u => exact ⟨u, rfl, r⟩
theorem RelO.none_of {o : Option Value} (r : RelO none o) : o = none := by
  cases o with
  | none => rfl
  | some u => exact (show False from r).elim
theorem handed_of {v : V} {u : Value} (r : RelV v u) : PySem.W.handedIn u = true := by
  cases v with
  | non => cases (show u = Value.none from r); rfl
  | bl b => cases (show u = Value.bool b from r); rfl
  | int i => obtain ⟨t, e⟩ := (show ∃ t, u = Value.int i t from r); cases e; rfl
  | str x => obtain ⟨t, e⟩ := (show ∃ t, u = Value.str x t from r); cases e; rfl
  | byt b => obtain ⟨t, e⟩ := (show ∃ t, u = Value.bytes b t from r); cases e; rfl
  | flt b => obtain ⟨t, e⟩ := (show ∃ t, u = Value.float b t from r); cases e; rfl
  | ref a => cases (show u = Value.ref a from r); rfl
  | ty n => cases (show u = Value.type n from r); rfl

section
variable {P : Program} {w : World} {H H' : Hp} {h h' : Heap} {a C dx : Addr} {fs fs' : List (Str × V)}
theorem ins_get (hok : HOk P w H h) (e : H a = some (.ins C dx fs)) : ∃ mA, ObjM h a dx C mA ∧ (∀ f, RelO (fs.lookup f) (mA f)) ∧ PySem.Within mA (fs.map (·.1)) ∧ fs.length ≤ 1000 ∧ H dx = some (.own a) := by
  obtain ⟨d, z, ne, ob, mA, n, r, q⟩ := (show ObjOk P w H h a (.ins C dx fs) from hok a _ e)
  exact ⟨mA, ⟨ob, n, ne⟩, r, q, z, d⟩
end

structure Cls (K : PySem.W.Frag) (C : Addr) : Prop where
  pg : PySem.W.plainGet K C Str.empty = true
  hd : PySem.W.hasDictIn K C = true
  po : PySem.W.plainOver K C = true
  sa : PySem.W.findIn K (.ref C) "__setattr__" = some (some (.builtin "object.__setattr__"))
theorem Cls.get {K : PySem.W.Frag} {C : Addr} (c : Cls K C) (f : Str) : PySem.W.plainGet K C f = true := c.pg
/-- no class of it has the name -/
def NoAttr (K : PySem.W.Frag) (C : Addr) (f : Str) : Prop := PySem.W.findIn K (.ref C) f = some none
theorem NoAttr.taker {K : PySem.W.Frag} {C : Addr} {f : Str} (n : NoAttr K C f) : PySem.W.takerIn K C f = some none := by
  unfold PySem.W.takerIn
  rw [show PySem.W.findIn K (.ref C) f = some none from n]
  rfl
/-- a method: a plain def of the class or of one above it -/
structure Meth (K : PySem.W.Frag) (C : Addr) (m : Str) (f : Addr) : Prop where
  at_ : PySem.W.findIn K (.ref C) m = some (some (.ref f))
  fn : PySem.W.isFn K (.ref f) = true
  kp : PySem.W.keepIn K (.ref f) = true

section
variable {X : Cx} {pins : List (Addr × Obj)} {σ : St} {H : Hp} {s : Shared} {a C dx : Addr} {fs : List (Str × V)} {f : Str} {v : V} {A : Around} {E : Value → Shared → Prop}

theorem getattr_ok {b : Bool} {Q : Value → Shared → Prop} (I : Inv X pins σ H s) (e : H a = some (.ins C dx fs)) (c : Cls X.K C) (n : NoAttr X.K C f) (l : fs.lookup f = some v)
    (h : ∀ u s', Inv X pins σ H s' → RelV v u → Q u s') : wpAny (model X.prog X.w) A (getAttr (.ref a) f b) Q E s := by
  obtain ⟨mA, O, r, _, _, _⟩ := ins_get I.hok e
  obtain ⟨u, hu, ru⟩ := RelO.some_of (v := v) (o := mA f) (by rw [← l]; exact r f)
  exact get_map I.kIn O (c.get f) c.hd n hu (handed_of ru) (h u _ (I.tok _) ru)

theorem getmeth_ok {m : Str} {g : Addr} {pl : Sem Bool} {Q : Value × List Value → Shared → Prop} (I : Inv X pins σ H s) (e : H a = some (.ins C dx fs)) (c : Cls X.K C) (k : Meth X.K C m g) (l : fs.lookup m = none)
    (h : Q (.ref g, [.ref a]) s) : wpAny (model X.prog X.w) A (getMethod (.ref a) m pl) Q E s := by
  obtain ⟨mA, O, r, _, _, _⟩ := ins_get I.hok e
  have hn : mA m = none := RelO.none_of (by rw [← l]; exact r m)
  exact get_meth I.kIn O (c.get m) k.at_ k.fn hn h

theorem setattr_ok {y : V} {u : Value} {Q : Unit → Shared → Prop} (I : Inv X pins σ H s) (e : H a = some (.ins C dx fs)) (c : Cls X.K C) (n : NoAttr X.K C f) (hl : fs.length < 1000) (ry : RelV y u)
    (h : ∀ s', Inv X pins σ (upd H a (.ins C dx (putF f y fs))) s' → Q () s') : wpAny (model X.prog X.w) A (setAttr (.ref a) f u) Q E s := by
  obtain ⟨mA, O, r, wi, _, ho⟩ := ins_get I.hok e
  have hz : (fs.map (·.1)).length ≤ sizeLine := by rw [List.length_map, sizeLine_eq]; omega
  refine set_map I.kIn O c.sa c.po n.taker c.hd wi hz fun h' O' sb => h _ ?_
  have hd : ∃ o, h'.get? dx = some o := let ⟨o, _, _, e', _⟩ := O'.ns; ⟨o, e'⟩
  refine I.write (x := a) (e := dx) (by rw [e]; exact True.intro) (.inr ho) (fun b q hb z => (sb.2 b hb).trans z) hd ?_
  refine ⟨by rw [upd_ne O.ne]; exact ho, ?_, O.ne, O'.obj, _, O'.ns, fun g => ?_, fun g hg => ?_⟩
  · have := length_putF f y fs; omega
  · show RelO ((putF f y fs).lookup g) (if g = f then some u else mA g)
    rw [lookup_putF]
    by_cases q : g = f
    · rw [if_pos q, if_pos q]; exact ry
    · rw [if_neg q, if_neg q]; exact r g
  · by_cases q : g = f
    · rw [q]; exact (keys_putF f y fs).1
    · refine (keys_putF f y fs).2 g (wi g fun z => hg ?_)
      show (if g = f then some u else mA g) = none
      rw [if_neg q]; exact z

/-- a new instance, tracked, without attributes -/
theorem Inv.made (I : Inv X pins σ H s) : Inv X pins σ (upd (upd H s.heap.objs.size (.own (s.heap.objs.size + 1))) (s.heap.objs.size + 1) (.ins C s.heap.objs.size []))
    { s with heap := (s.heap.push PySem.W.emptyDict).push (PySem.W.instObj C s.heap.objs.size) } := by
  have e1 : (s.heap.push PySem.W.emptyDict).get? s.heap.objs.size = some PySem.W.emptyDict := Heap.get?_push_size s.heap rfl
  have e2 : ((s.heap.push PySem.W.emptyDict).push (PySem.W.instObj C s.heap.objs.size)).get? (s.heap.objs.size + 1) = some (PySem.W.instObj C s.heap.objs.size) := by
    have := Heap.get?_push_size (s.heap.push PySem.W.emptyDict) (o := PySem.W.instObj C s.heap.objs.size) rfl
    rwa [Heap.size_push] at this
  have e3 : (s.heap.push PySem.W.emptyDict).Ns s.heap.objs.size (fun _ => none) := ⟨PySem.W.emptyDict, #[], _, e1, rfl, (fun e he => absurd he (by simp)), fun _ => rfl⟩
  have I1 := I.laid (a := s.heap.objs.size) (o := .own (s.heap.objs.size + 1)) (h' := s.heap.push PySem.W.emptyDict) (t' := s.toks) (fun b u q => Heap.get?_push_of_some _ q) (Nat.le_refl _) ⟨_, e1⟩
  refine I1.laid (a := s.heap.objs.size + 1) (o := .ins C s.heap.objs.size []) (t' := s.toks) (fun b u q => Heap.get?_push_of_some _ q) (Nat.le_of_eq (Heap.size_push _ _)) ?_
  have ne : s.heap.objs.size ≠ s.heap.objs.size + 1 := Nat.ne_of_lt (Nat.lt_succ_self _)
  refine ⟨by rw [upd_ne ne, upd_same], Nat.zero_le _, ne, e2, fun _ => none, (Heap.Ns1.of_empty e3).at fun o q => Heap.get?_push_of_some _ q, fun _ => True.intro, fun y hy => absurd rfl hy⟩

/-- e.f where nothing but the object is asked: through attributeBase (super) and the last hold -/
theorem attr_of {prog : Program} {w : World} {env : Env} {e : Expr} {f : Str} {pos : Pos} {s : Shared} {Q : Value → Shared → Prop} (hb : attributeBase e f env (eval e env) = eval e env)
    (h : wpAny (model prog w) A (eval e env) (fun o s₁ => wpAny (model prog w) A (getAttr o f true) Q E s₁) E s) : wpAny (model prog w) A (eval (.Attribute e f pos) env) Q E s :=
  Attribute_any_ h (by rw [arm_eval_Attribute, hb])
end

/-- e.f, an attribute of the instance -/
def tFld (K : PySem.W.Frag) (ta : TE) (f : Str) : TE := fun σ H Q => ta σ H fun x H1 => ∃ a C dx fs v, x = .ref a ∧ H1 a = some (.ins C dx fs) ∧ Cls K C ∧ NoAttr K C f ∧ fs.lookup f = some v ∧ Q v H1
/-- e.f = value -/
def sFld (K : PySem.W.Frag) (ta tv : TE) (f : Str) : TS := fun D σ H => tv σ H fun y H1 => ta σ H1 fun x H2 => ∃ a C dx fs, x = .ref a ∧ H2 a = some (.ins C dx fs) ∧ Cls K C ∧ NoAttr K C f ∧ fs.length < 1000 ∧
  D.nx σ (upd H2 a (.ins C dx (putF f y fs)))
section
variable {X : Cx} {o e value : Expr} {f : Str} {pos pos' tpos : Pos} {ta tv : TE}
theorem pe_fld (he : PE X e ta) (hb : attributeBase e f X.env (eval e X.env) = eval e X.env) : PE X (.Attribute e f pos) (tFld X.K ta f) := by
  intro pins s σ H Q I h
  refine attr_of hb (thn (he pins s σ H _ I h) fun u s1 ⟨x, H1, I1, rx, a, C, dx, fs, v, ex, ea, c, n, l, q⟩ => ?_)
  subst ex
  obtain rfl : u = Value.ref a := rx
  exact getattr_ok I1 ea c n l fun u' s2 I2 ru => ⟨v, H1, I2, ru, q⟩
theorem ps_fld (ha : PE X o ta) (hv : PE X value tv) (hs : swapsWith value (some (.Attribute o f pos')) pos.line X.env = pure false) : PS X (.Assign [.Attribute o f pos'] value pos) (sFld X.K ta tv f) := by
  intro pins s σ H D I h
  refine plainObj_wpAny_Assign_Attribute (thn (hv pins s σ H _ I h) fun u s1 ⟨y, H1, I1, ry, q⟩ => thn (ha pins s1 σ H1 _ I1 q) fun ov s2 ⟨x, H2, I2, rx, a, C, dx, fs, ex, ea, c, n, l, q2⟩ => ?_) hs
  subst ex
  obtain rfl : ov = Value.ref a := rx
  exact setattr_ok I2 ea c n l ry fun s3 I3 => ⟨σ, _, I3, q2⟩
end

section
variable {X : Cx} {pins : List (Addr × Obj)} {σ : St} {H : Hp} {s : Shared} {A : Around} {E : Value → Shared → Prop} {Q : Value → Shared → Prop} {c : Value} {b : Bool}
/-- the type of a value, as the fragment's deciders take it; for an instance its class -/
inductive TyOf (K : PySem.W.Frag) (H : Hp) : V → Value → Prop where
  | non : TyOf K H .non (.type "NoneType")
  | bl (x : Bool) : TyOf K H (.bl x) (.type "bool")
  | int (i : Int) : TyOf K H (.int i) (.type "int")
  | str (x : Str) : TyOf K H (.str x) (.type "str")
  | flt (x : UInt64) : TyOf K H (.flt x) (.type "float")
  | lst {a : Addr} {xs : List V} (e : H a = some (.lst xs)) : TyOf K H (.ref a) (.type "list")
  | frz {a : Addr} {o : Obj} {xs : List V} (e : H a = some (.frz o (.lst xs))) : TyOf K H (.ref a) (.type "list")
  | tup {a : Addr} {xs : List V} (e : H a = some (.tup xs)) : TyOf K H (.ref a) (.type "tuple")
  | dK {a : Addr} {kvs : List (Key × V)} (e : H a = some (.dK kvs)) : TyOf K H (.ref a) (.type "dict")
  | dT {a : Addr} {kvs : List (List Key × V)} (e : H a = some (.dT kvs)) : TyOf K H (.ref a) (.type "dict")
  | ins {a C dx : Addr} {fs : List (Str × V)} (e : H a = some (.ins C dx fs)) (cl : Cls K C) (ha : PySem.W.findIn K (.ref C) "__class__" = some (some (.builtin "object.__class__")))
      (hn : PySem.W.specialIn K (.builtin "object.__class__") "__get__" = some (some (.builtin "getset_descriptor.__get__"))) (htk : PySem.W.takesIn K (.builtin "object.__class__") = some true)
      (hm : PySem.W.mroIn K C (.type "object") = some true) : TyOf K H (.ref a) (.ref C)
/-- isinstance(x, c) for one class c, a built-in or an own one: kitOne's answer -/
theorem isinst_ok {x : V} {u t : Value} (I : Inv X pins σ H s) (rx : RelV x u) (ty : TyOf X.K H x t) (e : PySem.W.kitOne X.K t c = some b) (h : ∀ tk, Q (.bool b) { s with toks := tk }) :
    wpAny (model X.prog X.w) A (call (.builtin "isinstance") [u, c]) Q E s := by
  cases ty with
  | non => cases (show u = Value.none from rx); exact PySem.W.kia_one PySem.W.kitx_none I.kIn True.intro e (fun z => nomatch z) h
  | bl y => cases (show u = Value.bool y from rx); exact PySem.W.kia_one PySem.W.kitx_bool I.kIn True.intro e (fun z => nomatch z) h
  | int i => obtain ⟨t, q⟩ := (show ∃ t, u = Value.int i t from rx); cases q; exact PySem.W.kia_one PySem.W.kitx_int I.kIn True.intro e (fun z => nomatch z) h
  | str y => obtain ⟨t, q⟩ := (show ∃ t, u = Value.str y t from rx); cases q; exact PySem.W.kia_one PySem.W.kitx_str I.kIn True.intro e (fun z => nomatch z) h
  | flt y => obtain ⟨t, q⟩ := (show ∃ t, u = Value.float y t from rx); cases q; exact PySem.W.kia_one PySem.W.kitx_float I.kIn True.intro e (fun z => nomatch z) h
  | @lst a xs ea =>
    cases (show u = Value.ref a from rx)
    obtain ⟨_, _, n, _, h1⟩ := (show ObjOk X.prog X.w H s.heap a (.lst xs) from I.hok a _ ea)
    exact PySem.W.kia_one PySem.W.kitx_list I.kIn ⟨_, h1, rfl⟩ e (fun z => nomatch z) h
  | @frz a ob xs ea =>
    cases (show u = Value.ref a from rx)
    obtain ⟨_, _, _, n, _, h1⟩ := (show ObjOk X.prog X.w H s.heap a (.frz ob (.lst xs)) from I.hok a _ ea)
    exact PySem.W.kia_one PySem.W.kitx_list I.kIn ⟨_, h1, rfl⟩ e (fun z => nomatch z) h
  | @tup a xs ea =>
    cases (show u = Value.ref a from rx)
    obtain ⟨_, _, _, p⟩ := (show ObjOk X.prog X.w H s.heap a (.tup xs) from I.hok a _ ea)
    obtain ⟨o, h1, h2, _⟩ := p
    exact PySem.W.kia_one PySem.W.kitx_tuple I.kIn ⟨o, h1, h2⟩ e (fun z => nomatch z) h
  | @dK a kvs ea =>
    cases (show u = Value.ref a from rx)
    obtain ⟨_, _, vs, _, p⟩ := (show ObjOk X.prog X.w H s.heap a (.dK kvs) from I.hok a _ ea)
    obtain ⟨o, es, ep, h1, h2, _⟩ := p
    exact PySem.W.kia_one PySem.W.kitx_dict I.kIn ⟨o, h1, h2.1⟩ e (fun z => nomatch z) h
  | @dT a kvs ea =>
    cases (show u = Value.ref a from rx)
    obtain ⟨_, _, xs, _, o, es, ep, h1, h2, _⟩ := (show ObjOk X.prog X.w H s.heap a (.dT kvs) from I.hok a _ ea)
    exact PySem.W.kia_one PySem.W.kitx_dict I.kIn ⟨o, h1, h2.1⟩ e (fun z => nomatch z) h
  | @ins a C dx fs ea cl ha hn htk hm =>
    cases (show u = Value.ref a from rx)
    obtain ⟨mA, O, _⟩ := ins_get I.hok ea
    obtain ⟨od, J, _⟩ := O.look
    exact PySem.W.kia_one (PySem.W.kitx_own (cl.get _) cl.hd ha hn htk hm) I.kIn J e (fun z => nomatch z) h
end
end L2

namespace L2
open PySem PySem.Spec PyProof.Rows

structure Room (k : Nat) (A : Around) : Prop where
  hd : A.handled = none
  dp : A.depth + 3 * k + 5 < recursionLimit
  un : A.units + 16 * k + 200 < cLine
theorem Room.mono {j k : Nat} {A : Around} (r : Room k A) (h : j ≤ k) : Room j A := ⟨r.hd, by have := r.dp; omega, by have := r.un; omega⟩
theorem Room.deeper {k : Nat} {A : Around} (r : Room (k + 1) A) (env : Env) : Room k (A.deeper env) :=
  ⟨r.hd, by have := r.dp; show A.depth + 1 + 3 * k + 5 < _; omega, by have := r.un; show A.units + 3 + 16 * k + 200 < _; omega⟩
theorem make_depth {A : Around} {C : Addr} {us : List Value} {kw : List (Str × Value)} : (A.under (.builtin "type.__call__" ⟨.ref C :: us, kw⟩)).depth = A.depth + 1 := by
  first | rfl | simp [Around.under, Code.weight, Code.isCreation, Code.isGuard, Code.isCaller, Code.frames, Code.isFrame, guardIds]
theorem make_units {A : Around} {C : Addr} {us : List Value} {kw : List (Str × Value)} : (A.under (.builtin "type.__call__" ⟨.ref C :: us, kw⟩)).units = A.units + 1 := by
  first | rfl | simp [Around.under, Code.cUnits, Code.frames, Code.isFrame]
theorem Room.make {k : Nat} {A : Around} (r : Room (k + 1) A) (C : Addr) (us : List Value) (kw : List (Str × Value)) : Room k (A.under (.builtin "type.__call__" ⟨.ref C :: us, kw⟩)) :=
  ⟨r.hd, by have := r.dp; rw [make_depth]; omega, by have := r.un; rw [make_units]; omega⟩
theorem Room.depth {k : Nat} {A : Around} (r : Room k A) : A.depth < recursionLimit := by have := r.dp; omega
theorem Room.units {k : Nat} {A : Around} (r : Room k A) : A.units + 64 < cLine := by have := r.un; omega
def tNil : TA := fun _ H Q => Q [] H
def tCons (ta : TE) (tr : TA) : TA := fun σ H Q => ta σ H fun x H1 => tr σ H1 fun xs H2 => Q (x :: xs) H2
section
variable {X : Cx} {e : Expr} {es : List Expr} {te : TE} {t : TA} {pos : Pos}
theorem pa_nil : PA X [] tNil := fun _ _ _ _ H Q I h => Calls.spliced_nil ⟨[], H, I, .nil, h⟩
theorem pa_cons (ha : PE X e te) (hr : PA X es t) (hs : starEach (e :: es) X.env = (false, eval e X.env) :: starEach es X.env := by rfl) : PA X (e :: es) (tCons te t) := by
  intro pos pins s σ H Q I h
  rw [hs]
  show wpAny _ _ (spliced ((false, eval e X.env) :: backTo pos (starEach es X.env))) _ _ s
  refine Calls.spliced_cons (thn (ha pins s σ H _ I h) fun u s1 ⟨x, H1, I1, r1, q1⟩ => ?_)
  exact thn (hr pos pins s1 σ H1 _ I1 q1) fun us s2 ⟨xs, H2, I2, r2, q2⟩ => ⟨x :: xs, H2, I2, .cons r1 r2, q2⟩

def tLst (t : TA) : TE := fun σ H Q => t σ H fun xs H1 => xs.length ≤ sizeLine ∧ ∀ p, H1 p = none → Q (.ref p) (upd H1 p (.lst xs))
theorem pe_lst (h : PA X es t) : PE X (.List es pos) (tLst t) := by
  intro pins s σ H Q I hq
  refine wpAny_List_spliced (thn (h pos pins s σ H _ I hq) fun us s1 ⟨xs, H1, I1, r, z, q⟩ => ⟨by rw [← r.length]; exact z, ?_⟩)
  have hf : H1 s1.heap.objs.size = none := I1.hok.fresh (Nat.le_refl _)
  refine ⟨.ref s1.heap.objs.size, upd H1 s1.heap.objs.size (.lst xs), I1.laid (t' := s1.toks) (fun b u e => Heap.get?_push_of_some _ e) (Nat.le_refl _) ?_, rfl, q _ hf⟩
  exact ⟨z, us, 0, r, Heap.get?_push_size _ rfl⟩
end

/-- a def's promise: the bound arguments in the parameters' order, the heap, the wanted end, the wanted exception -/
abbrev Sp := List V → Hp → VK → XK → Prop
/-- how an exception lies behind a call (file 08 gives it): the callers' frames, abstract heap and state ahead of the call, the wish, the exception, the state -/
abbrev CXT := List Env → Hp → Shared → XK → Value → Shared → Prop

/-- the state at a call -/
structure Env0 (P : Program) (w : World) (K : PySem.W.Frag) (mg : Str → Option Value) (base : Heap) (A : Around) (outer : List Env) (s : Shared) (H : Hp) : Prop where
  frames : A.frames = some outer
  mod : Mod K mg base
  bs : ∀ b o, base.get? b = some o → s.heap.get? b = some o ∧ H b = none
  bsz : base.objs.size ≤ s.heap.objs.size
  funs : s.heap.FunFrames base outer
  frf : ∀ b ∈ frs outer, H b = none
  hok : HOk P w H s.heap
  bare : AllBare s.gens
/-- a call's end -/
def CE (outer : List Env) (P : Program) (w : World) (H : Hp) (s : Shared) (Q : VK) (u : Value) (s' : Shared) : Prop :=
  ∃ v H', s'.os = s.os ∧ AllBare s'.gens ∧ Un (frs outer) [] H H' s.heap s'.heap ∧ HOk P w H' s'.heap ∧ RelV v u ∧ Q v H'
def CR (CX : CXT) (outer : List Env) (P : Program) (w : World) (H : Hp) (s : Shared) (Q : VK) (E : XK) (r : Result) (s' : Shared) : Prop :=
  match r with
  | .ok (.ret u) => CE outer P w H s Q u s'
  | .ok _ => False
  | .error e => CX outer H s E e s'
structure FnOk (P : Program) (w : World) (K : PySem.W.Frag) (mg : Str → Option Value) (base : Heap) (CX : CXT) (k : Nat) (f : Addr) (fd : FuncData) (ps : List Str) (sp : Sp) : Prop where
  len : ∀ vs H Q E, sp vs H Q E → vs.length = ps.length
  run : ∀ (A : Around) (outer : List Env) (s : Shared) (H : Hp) (args : Args) (us : List Value) (vs : List V) (Q : VK) (E : XK), Room k A → Env0 P w K mg base A outer s H → BindsTo s fd args (ps.zip us) → Vals vs us → sp vs H Q E →
    codeAny (model P w) A (.call (.ref f) args) (CR CX outer P w H s Q E) s
theorem FnOk.mono {P : Program} {w : World} {K : PySem.W.Frag} {mg : Str → Option Value} {base : Heap} {CX : CXT} {j k : Nat} {f : Addr} {fd : FuncData} {ps : List Str} {sp : Sp} (F : FnOk P w K mg base CX j f fd ps sp) (h : j ≤ k) :
    FnOk P w K mg base CX k f fd ps sp := ⟨F.len, fun A outer s H args us vs Q E hr => F.run A outer s H args us vs Q E (hr.mono h)⟩
theorem Env0.make {P : Program} {w : World} {K : PySem.W.Frag} {mg : Str → Option Value} {base : Heap} {A : Around} {outer : List Env} {s : Shared} {H : Hp} (e : Env0 P w K mg base A outer s H) (C : Addr) (us : List Value) (kw : List (Str × Value)) :
    Env0 P w K mg base (A.under (.builtin "type.__call__" ⟨.ref C :: us, kw⟩)) outer s H := ⟨by first | exact e.frames | (simpa [Around.under, Code.envs, Code.isFrame, pushEnvs] using e.frames), e.mod, e.bs, e.bsz, e.funs, e.frf, e.hok, e.bare⟩
section
variable {X : Cx} {pins : List (Addr × Obj)} {σ : St} {H : Hp} {s s' : Shared}
/-- from a body: what a callee wants -/
theorem Inv.env0 (I : Inv X pins σ H s) : Env0 X.prog X.w X.K X.mg X.base X.A X.stack s H :=
  ⟨I.ok.frames, I.ok.mod, I.bs, Nat.le_trans I.ok.bsz I.sz, I.stack, I.stkFree, I.hok, I.bare⟩
/-- behind a call -/
theorem Inv.after {Q : VK} {u : Value} (I : Inv X pins σ H s) (h : CE X.stack X.prog X.w H s Q u s') : EP X pins σ Q u s' := by
  obtain ⟨v, H', os, bare, un, hok, r, q⟩ := h
  obtain ⟨hh, g, d, t, os'⟩ := s'
  obtain rfl : os' = s.os := os
  exact ⟨v, H', I.call (h' := hh) (g' := g) (d' := d) (t' := t) (ch := []) un hok bare (fun b z => absurd z (by simp)), r, q⟩
end

/-- f(..): the written arguments, then the defaults dvs; E: what is wanted of an exception -/
def tCall (sp : Sp) (dvs : List V) (E : XK) (t : TA) : TE := fun σ H Q => t σ H fun vs H1 => sp (vs ++ dvs) H1 Q E
/-- C(..): a new instance and its dict, then __init__ -/
def tMake (C : Addr) (sp : Sp) (dvs : List V) (E : XK) (t : TA) : TE := fun σ H Q => t σ H fun vs H1 => ∀ x dx, H1 x = none → H1 dx = none → dx ≠ x →
  sp (.ref x :: (vs ++ dvs)) (upd (upd H1 dx (.own x)) x (.ins C dx [])) (fun v H2 => v = .non ∧ Q (.ref x) H2) E

/-- how the parameters are bound: us the positional arguments, kw the keywords' values by name, ds the defaults that fill up -/
def Binds (K : PySem.W.Frag) (fd : FuncData) (ps : List Str) (ds : List Value) : Prop :=
  ∀ (s : Shared) (us : List Value), K.In s.heap → (us ++ ds).length = ps.length → BindsTo s fd ⟨us, []⟩ (ps.zip (us ++ ds))
/-- every parameter is given -/
theorem Binds.all {K : PySem.W.Frag} {fd : FuncData} {ps : List Str} (h : ∀ us : List Value, us.length = ps.length → bindArgs fd ⟨us, []⟩ = pure (ps.zip us)) : Binds K fd ps [] := fun s us _ hl => by
  rw [List.append_nil] at hl ⊢
  exact .of_eq (h us hl)

/-- an exception of a callee reaches what this body wants of exceptions -/
def Passes (CX : CXT) (X : Cx) (E : XK) : Prop := ∀ (pins : List (Addr × Obj)) (σ : St) (H : Hp) (s : Shared) (e : Value) (s' : Shared), Inv X pins σ H s → CX X.stack H s E e s' → X.xe e s'

section
variable {X : Cx} {CX : CXT} {k : Nat} {f C : Addr} {fd : FuncData} {ps : List Str} {sp : Sp} {dvs : List V} {ds : List Value} {E : XK} {x m : Str} {p pos apos : Pos} {e o : Expr} {es : List Expr} {ta : TE} {t : TA}

/-- the callee runs -/
theorem run_fn {pins : List (Addr × Obj)} {σ : St} {H : Hp} {s : Shared} {Q : VK} {us : List Value} {vs : List V} (F : FnOk X.prog X.w X.K X.mg X.base CX k f fd ps sp) (hr : Room k X.A) (hb : Binds X.K fd ps ds) (hd : Vals dvs ds) (hx : Passes CX X E)
    (I : Inv X pins σ H s) (r : Vals vs us) (h : sp (vs ++ dvs) H Q E) : wpAny (model X.prog X.w) X.A (call (.ref f) us) (EP X pins σ Q) X.xe s := by
  have r2 : Vals (vs ++ dvs) (us ++ ds) := r.append hd
  have hl : (us ++ ds).length = ps.length := by rw [← r2.length]; exact F.len _ _ _ _ h
  refine wpAny_call (codeAny_mono (F.run X.A X.stack s H ⟨us, []⟩ (us ++ ds) (vs ++ dvs) Q E hr I.env0 (hb s us I.kIn hl) r2 h) fun r s' hq => ?_)
  cases r with
  | error e => exact hx pins σ H s e s' I hq
  | ok fl =>
    cases fl with
    | ret u => exact I.after hq
    | next => exact False.elim hq
    | brk => exact False.elim hq
    | cont => exact False.elim hq

theorem pe_call (F : FnOk X.prog X.w X.K X.mg X.base CX k f fd ps sp) (hr : Room k X.A) (hg : Gl X x) (hm : X.mg x = some (.ref f)) (hk : PySem.W.keepIn X.K (.ref f) = true) (hb : Binds X.K fd ps ds) (hd : Vals dvs ds) (hx : Passes CX X E)
    (ha : PA X (e :: es) t) (hdb : (x == ("__debug__" : Str)) = false := by decide) (he : starEach (e :: es) X.env = (false, eval e X.env) :: starEach es X.env := by rfl) (hpl : (backTo pos (starEach es X.env)).any (·.1) = false := by rfl) :
    PE X (.Call (.Name x p) (e :: es) [] pos) (tCall sp dvs E t) := by
  intro pins s σ H Q I h
  refine wpAny_Call_Name_kw (ld_glob I hg hm ?_ hdb)
  refine PySem.W.callWith_K (h₀ := X.base) I.ok.mod.kin hk (thn (ha pos pins s σ H _ I h) fun us s1 ⟨vs, H1, I1, r, q⟩ => ⟨I1.kIn, ?_⟩) he hpl
  exact run_fn F hr hb hd hx I1 r q
theorem pe_call0 (F : FnOk X.prog X.w X.K X.mg X.base CX k f fd ps sp) (hr : Room k X.A) (hg : Gl X x) (hm : X.mg x = some (.ref f)) (hk : PySem.W.keepIn X.K (.ref f) = true) (hb : Binds X.K fd ps ds) (hd : Vals dvs ds) (hx : Passes CX X E)
    (hdb : (x == ("__debug__" : Str)) = false := by decide) : PE X (.Call (.Name x p) [] [] pos) (tCall sp dvs E tNil) := by
  intro pins s σ H Q I h
  refine wpAny_Call_Name_kw (ld_glob I hg hm ?_ hdb)
  exact PySem.W.callWith_K0 I.kIn hk (run_fn (us := []) F hr hb hd hx I .nil h)

/-- what a class must have to be made -/
structure Mk (K : PySem.W.Frag) (C f : Addr) : Prop where
  makes : PySem.W.makesIn K C = true
  init : PySem.W.findIn K (.ref C) "__init__" = some (some (.ref f))
  fn : PySem.W.isFn K (.ref f) = true
  kp : PySem.W.keepIn K (.ref C) = true

theorem run_make {pins : List (Addr × Obj)} {σ : St} {H : Hp} {s : Shared} {Q : VK} {us : List Value} {vs : List V} (M : Mk X.K C f) (F : FnOk X.prog X.w X.K X.mg X.base CX k f fd ps sp) (hr : Room (k + 1) X.A) (hb : Binds X.K fd ps ds) (hd : Vals dvs ds)
    (hx : Passes CX X E) (I : Inv X pins σ H s) (r : Vals vs us)
    (h : ∀ x dx, H x = none → H dx = none → dx ≠ x → sp (.ref x :: (vs ++ dvs)) (upd (upd H dx (.own x)) x (.ins C dx [])) (fun v H2 => v = .non ∧ Q (.ref x) H2) E) :
    wpAny (model X.prog X.w) X.A (call (.ref C) us) (EP X pins σ Q) X.xe s := by
  have hq := h (s.heap.objs.size + 1) s.heap.objs.size (I.hok.fresh (Nat.le_succ _)) (I.hok.fresh (Nat.le_refl _)) (Nat.ne_of_lt (Nat.lt_succ_self _))
  have I2 := Inv.made (C := C) I
  have r2 : Vals (V.ref (s.heap.objs.size + 1) :: (vs ++ dvs)) (Value.ref (s.heap.objs.size + 1) :: (us ++ ds)) := .cons rfl (r.append hd)
  have hl : (Value.ref (s.heap.objs.size + 1) :: us ++ ds).length = ps.length := by
    have e := r2.length
    rw [F.len _ _ _ _ hq] at e
    exact e.symm
  refine wpAny_call (make_map (f := f) I.kIn M.makes M.init (beq_iff_eq.mp M.fn) (codeAny_mono (F.run _ X.stack _ _ ⟨Value.ref (s.heap.objs.size + 1) :: us, []⟩ (Value.ref (s.heap.objs.size + 1) :: (us ++ ds)) _ _ E (hr.make C us [])
    (I2.env0.make C us []) (hb _ (Value.ref (s.heap.objs.size + 1) :: us) I2.kIn hl) r2 hq) fun r s' hq' => ?_))
  cases r with
  | error e => exact hx pins σ _ _ e s' I2 hq'
  | ok fl =>
    cases fl with
    | ret u =>
      obtain ⟨v, H', I3, rv, ev, q3⟩ := I2.after hq'
      subst ev
      exact ⟨rv, ⟨V.ref (s.heap.objs.size + 1), H', I3, rfl, q3⟩⟩
    | next => exact False.elim hq'
    | brk => exact False.elim hq'
    | cont => exact False.elim hq'
theorem pe_make (M : Mk X.K C f) (F : FnOk X.prog X.w X.K X.mg X.base CX k f fd ps sp) (hr : Room (k + 1) X.A) (hg : Gl X x) (hm : X.mg x = some (.ref C)) (hb : Binds X.K fd ps ds) (hd : Vals dvs ds) (hx : Passes CX X E)
    (ha : PA X (e :: es) t) (hdb : (x == ("__debug__" : Str)) = false := by decide) (he : starEach (e :: es) X.env = (false, eval e X.env) :: starEach es X.env := by rfl) (hpl : (backTo pos (starEach es X.env)).any (·.1) = false := by rfl) :
    PE X (.Call (.Name x p) (e :: es) [] pos) (tMake C sp dvs E t) := by
  intro pins s σ H Q I h
  refine wpAny_Call_Name_kw (ld_glob I hg hm ?_ hdb)
  refine PySem.W.callWith_K (h₀ := X.base) I.ok.mod.kin M.kp (thn (ha pos pins s σ H _ I h) fun us s1 ⟨vs, H1, I1, r, q⟩ => ⟨I1.kIn, ?_⟩) he hpl
  exact run_make M F hr hb hd hx I1 r q
end

section
variable {X : Cx} {CX : CXT} {k : Nat} {f C : Addr} {fd : FuncData} {ps ks : List Str} {sp : Sp} {E : XK} {x m : Str} {p pos apos kpos : Pos} {e o : Expr} {es : List Expr} {kws : List Keyword} {te ta : TE} {t tk : TA} {nm : Option Str}
variable {g : List Value → List Value → List Value} {gV : List V → List V → List V}
end

/-- names: the parameters first -/
structure FnScope (N P : List Str) (sc : Scope) : Prop where
  kind : sc.kind = .function
  co : sc.isCoroutine = false
  gen : sc.isGenerator = false
  nd : N.Nodup
  pre : N.take P.length = P
  par : ∀ x ∈ P, sc.names.lookup x = some .local ∨ sc.names.lookup x = some .cell
  nofree : ∀ y ∈ sc.names, y.2 ≠ .free

theorem bindL_out {kindOf : Str → Option NameKind} {x : Str} : ∀ {binds : List (Str × Value)} {m : Str → Option Value}, (∀ v, (x, v) ∉ binds) → bindL kindOf binds m x = m x
  | [], _, _ => rfl
  | (n, v) :: r, m, h => by
    unfold bindL
    rw [bindL_out fun w hw => h w (List.mem_cons_of_mem _ hw)]
    split
    · have : x ≠ n := by rintro rfl; exact h v List.mem_cons_self
      simp [this]
    · rfl
theorem bindC_out {kindOf : Str → Option NameKind} {x : Str} : ∀ {binds : List (Str × Value)} {m : Str → Option Value}, (∀ v, (x, v) ∉ binds) → bindC kindOf binds m x = m x
  | [], _, _ => rfl
  | (n, v) :: r, m, h => by
    unfold bindC
    rw [bindC_out fun w hw => h w (List.mem_cons_of_mem _ hw)]
    split
    · rfl
    · have : x ≠ n := by rintro rfl; exact h v List.mem_cons_self
      simp [this]
theorem bindL_get {kindOf : Str → Option NameKind} {x : Str} {v : Value} : ∀ {P : List Str} {vs : List Value} {i : Nat} {m : Str → Option Value}, P.Nodup → P[i]? = some x → vs[i]? = some v → kindOf x = some .local →
    bindL kindOf (P.zip vs) m x = some v
  | [], _, _, _, _, h, _, _ => by simp at h
  | _ :: _, [], _, _, _, _, h, _ => by simp at h
  | p :: P, w :: vs, 0, m, nd, h1, h2, hk => by
    simp at h1 h2; subst h1; subst h2
    show bindL kindOf ((p, w) :: P.zip vs) m p = _
    unfold bindL
    rw [bindL_out fun v hv => (List.nodup_cons.mp nd).1 (List.of_mem_zip hv).1, if_pos hk]
    simp
  | p :: P, w :: vs, i + 1, m, nd, h1, h2, hk => by
    show bindL kindOf ((p, w) :: P.zip vs) m x = _
    unfold bindL
    exact bindL_get (i := i) (List.nodup_cons.mp nd).2 (by simpa using h1) (by simpa using h2) hk
theorem bindC_get {kindOf : Str → Option NameKind} {x : Str} {v : Value} : ∀ {P : List Str} {vs : List Value} {i : Nat} {m : Str → Option Value}, P.Nodup → P[i]? = some x → vs[i]? = some v → kindOf x ≠ some .local →
    bindC kindOf (P.zip vs) m x = some v
  | [], _, _, _, _, h, _, _ => by simp at h
  | _ :: _, [], _, _, _, _, h, _ => by simp at h
  | p :: P, w :: vs, 0, m, nd, h1, h2, hk => by
    simp at h1 h2; subst h1; subst h2
    show bindC kindOf ((p, w) :: P.zip vs) m p = _
    unfold bindC
    rw [bindC_out fun v hv => (List.nodup_cons.mp nd).1 (List.of_mem_zip hv).1, if_neg hk]
    simp
  | p :: P, w :: vs, i + 1, m, nd, h1, h2, hk => by
    show bindC kindOf ((p, w) :: P.zip vs) m x = _
    unfold bindC
    exact bindC_get (i := i) (List.nodup_cons.mp nd).2 (by simpa using h1) (by simpa using h2) hk

/-- the names' values at the entry -/
def start (N : List Str) (vs : List V) : St := vs.map some ++ List.replicate (N.length - vs.length) none

/-- the context of a def's body, at its entry; an exception leaves the frame, then lies as CX says -/
def cxOf (CX : CXT) (P : Program) (w : World) (K : PySem.W.Frag) (mg : Str → Option Value) (base : Heap) (N : List Str) (qual : Str) (scope : Scope) (f : Addr) (cd : Value) (A : Around) (outer : List Env) (s : Shared) (H : Hp) (E : XK) : Cx where
  prog := P
  w := w
  K := K
  mg := mg
  base := base
  A := A.deeper (envOfC qual scope s.heap.objs.size f cd)
  N := N
  s₀ := s
  H₀ := H
  env := envOfC qual scope s.heap.objs.size f cd
  outer := outer
  stack := envOfC qual scope s.heap.objs.size f cd :: outer
  ex := []
  calm := true
  fn := fun _ => true
  pn := []
  xe := fun e s' => wpAny (model P w) (A.deeper (envOfC qual scope s.heap.objs.size f cd)) (leaving (envOfC qual scope s.heap.objs.size f cd) e) (fun _ s'' => CX outer H s E e s'') (fun e' s'' => CX outer H s E e' s'') s'

theorem cell_has {sc : Scope} {n : Nat} {x : Str} (h : sc.names.lookup x = some .cell) : ∃ c, (cellsFrom n sc.names []).lookup x = some c := by
  have q := PySem.W.cellsFrom_some sc.names n [] (.inl h)
  exact Option.isSome_iff_exists.mp q

theorem inv_start {CX : CXT} {P : Program} {w : World} {K : PySem.W.Frag} {mg : Str → Option Value} {base : Heap} {N ps : List Str} {qual : Str} {scope : Scope} {f : Addr} {cd : Value} {A : Around} {outer : List Env} {s s1 : Shared} {H : Hp} {E : XK} {us : List Value} {vs : List V}
    (S : FnScope N ps scope) (hd : A.handled = none) (e0 : Env0 P w K mg base A outer s H) (hl : vs.length = ps.length) (r : Vals vs us)
    (x : InCallC s s.heap.objs.size (bindL (envOfC qual scope s.heap.objs.size f cd).kindOf (ps.zip us) fun _ => none) (cellsFrom (s.heap.objs.size + 1) scope.names []) (bindC (envOfC qual scope s.heap.objs.size f cd).kindOf (ps.zip us) fun _ => none) s1) :
    Inv (cxOf CX P w K mg base N qual scope f cd A outer s H E) [] (start N vs) H s1 := by
  have hpl : ps.length ≤ N.length := by have := congrArg List.length S.pre; rw [List.length_take] at this; omega
  obtain ⟨h1, tk, rfl, hk⟩ := x.done
  have noA : ∀ b : Addr, b ∉ (cxOf CX P w K mg base N qual scope f cd A outer s H E).ex := fun b z => absurd (show b ∈ ([] : List Addr) from z) (by simp)
  refine ⟨⟨e0.mod, S.kind, rfl, rfl, Nat.le_refl _, fun y z c h1 h2 => ?_, fun y hy => ?_, fun y c _ h => ?_, fun _ => hd, Around.frames_deeper e0.frames, .inr ⟨rfl, rfl⟩, fun b z => absurd z (noA b), e0.bs, e0.bsz, fun b _ _ => noA b, fun b z => absurd z (noA b), e0.funs, e0.frf⟩,
    rfl, e0.bare, Un.kept hk, ⟨_, x.toInCall.ns, fun i y v h1 h2 h3 => ?_⟩, fun y c h => ⟨_, x.cell y c h⟩, e0.hok.fresh (Nat.le_refl _), fun y c h => ?_, fun p hp => absurd (show p ∈ ([] : List (Addr × Obj)) from hp) (by simp), e0.hok.kept hk, ?_⟩
  · exact name_of_addr x.apart (PySem.mem_of_lookup h1) (PySem.mem_of_lookup h2)
  · have hy : scope.names.lookup y = some .cell ∨ scope.names.lookup y = some .free := hy
    rcases hy with hy | hy
    · exact cell_has hy
    · exact absurd rfl (S.nofree _ (PySem.mem_of_lookup hy))
  · exact Nat.le_of_lt (x.above y c (PySem.mem_of_lookup h))
  · have hi : i < vs.length := by
      unfold start at h2
      by_cases hi : i < vs.length
      · exact hi
      · rw [List.getElem?_append_right (by simpa using hi)] at h2
        rw [List.getElem?_replicate] at h2
        split at h2 <;> cases h2
    have ha : vs[i]? = some v := by
      unfold start at h2
      rw [List.getElem?_append_left (by simpa using hi), List.getElem?_map] at h2
      cases e : vs[i]? with
      | none => rw [e] at h2; cases h2
      | some a => rw [e] at h2; cases h2; rfl
    obtain ⟨u, hu, rv⟩ := r.get ha
    have hp : ps[i]? = some y := by
      rw [← S.pre, List.getElem?_take_of_lt (by omega)]; exact h1
    have ndP : ps.Nodup := by rw [← S.pre]; exact S.nd.sublist (List.take_sublist _ _)
    refine ⟨u, rv, ?_⟩
    rcases S.par y (List.mem_of_getElem? hp) with k | k
    · exact .inl ⟨k, bindL_get ndP hp hu k⟩
    · obtain ⟨c, e⟩ := cell_has (n := s.heap.objs.size + 1) k
      refine .inr ⟨.inl k, c, e, ?_⟩
      have q := x.cell y c e
      rw [bindC_get ndP hp hu (by show scope.names.lookup y ≠ _; rw [k]; decide)] at q
      exact q
  · exact e0.hok.fresh (Nat.le_of_lt (x.above y c (PySem.mem_of_lookup h)))
  · unfold start
    show _ = N.length
    rw [List.length_append, List.length_map, List.length_replicate]
    omega

/-- THE RULE: a def (or a method) of the text, by its body. The body's reading t is chosen for each entry; it is run at the parameters' values -/
theorem fn_of {CX : CXT} {P : Program} {w : World} {K : PySem.W.Frag} {mg : Str → Option Value} {base : Heap} {k : Nat} {f : Addr} {name qual : Str} {params : Arguments} {body : List Stmt} {scope : Scope} {dV kV doc pm cdv ct oc : Value} {an od : Option Addr}
    {osl : Array (Option Value)} {N ps : List Str} {sp : Sp} (lk : K.lookup f = some ⟨oc, od, .func (PySem.W.fnOf name qual params body scope dV kV doc pm an cdv ct), osl⟩) (hcd : PySem.W.codeIn K cdv qual = true) (S : FnScope N ps scope)
    (len : ∀ vs H Q E, sp vs H Q E → vs.length = ps.length)
    (hbody : ∀ (A : Around) (outer : List Env) (s : Shared) (H : Hp) (vs : List V) (Q : VK) (E : XK), Room k (A.deeper (envOfC qual scope s.heap.objs.size f cdv)) → sp vs H Q E →
      ∃ t, PSs (cxOf CX P w K mg base N qual scope f cdv A outer s H E) body t ∧ t { nx := fun _ H' => Q .non H', rt := Q } (start N vs) H) :
    FnOk P w K mg base CX (k + 1) f (PySem.W.fnOf name qual params body scope dV kV doc pm an cdv ct) ps sp := by
  refine ⟨len, fun A outer s H args us vs Q E hr e0 hb r hsp => ?_⟩
  have hl := len _ _ _ _ hsp
  have KX : K.In s.heap := e0.mod.kin.keeps fun b o e => (e0.bs b o e).1
  have lim : s.heap.NoLimit := e0.mod.nolimit.keeps fun b o e => (e0.bs b o e).1
  have hkind : ∀ y ∈ ps.zip us, scope.names.lookup y.1 = some .local ∨ (scope.names.lookup y.1 = some .cell ∧ ((cellsFrom (s.heap.objs.size + 1) scope.names []).lookup y.1).isSome = true) := fun ⟨n, v⟩ hy => by
    rcases S.par n (List.of_mem_zip hy).1 with q | q
    · exact .inl q
    · exact .inr ⟨q, PySem.W.cellsFrom_some _ _ _ (.inl q)⟩
  refine codeAny_call_function hr.depth (KX _ _ lk) rfl S.co S.gen rfl (PySem.W.codeRec_of KX hcd) (hb _ _ _ _ ?_)
  refine wpAny_newFunctionEnv_cells S.kind hkind fun env he s1 x => ?_
  subst he
  refine ⟨lim.keeps x.toInCall.keep, codeAny_func ?_⟩
  obtain ⟨t, ht, hq⟩ := hbody A outer s H vs Q E (hr.deeper _) hsp
  have I : Inv (cxOf CX P w K mg base N qual scope f cdv A outer s H E) [] (start N vs) H s1 := inv_start S hr.hd e0 hl r x
  refine wpAny_mono (ht [] s1 (start N vs) H _ I hq) (fun fl s' hs => ?_) fun e s' hs => hs
  have fin : ∀ {σ' : St} {H' : Hp} {v : V} {u : Value}, Inv (cxOf CX P w K mg base N qual scope f cdv A outer s H E) [] σ' H' s' → RelV v u → Q v H' → CE outer P w H s Q u s' :=
    fun {σ' H' v u} J rv q => ⟨v, H', J.os, J.bare, J.base, J.hok, rv, q⟩
  cases fl with
  | ret u =>
    obtain ⟨v, σ', H', J, rv, q⟩ := hs
    exact fin J rv q
  | next =>
    obtain ⟨σ', H', J, q⟩ := hs
    exact fin (v := V.non) (u := Value.none) J rfl q
  | brk =>
    obtain ⟨_, _, _, q⟩ := hs
    exact False.elim q
  | cont =>
    obtain ⟨_, _, _, q⟩ := hs
    exact False.elim q
end L2

namespace L2
open PySem PySem.Spec PyProof.Rows
section
variable {X : Cx} {x : Str} {p pos : Pos} {e : Expr} {es : List Expr} {t : TA} {id T : String} {r : List V → Hp → VK → Prop}

def tCB (r : List V → Hp → VK → Prop) (t : TA) : TE := fun σ H Q => t σ H fun vs H1 => r vs H1 Q
/-- f(e, ..), f a built-in function -/
theorem pe_callB (hc : CallR X (.builtin id) r) (hg : Gl X x) (hm : X.mg x = none) (hv : bootBuiltins x = some (.builtin id)) (ha : PA X (e :: es) t) (hn : x ≠ "__name__" := by decide) (hdb : (x == ("__debug__" : Str)) = false := by decide)
    (he : starEach (e :: es) X.env = (false, eval e X.env) :: starEach es X.env := by rfl) (hpl : (backTo pos (starEach es X.env)).any (·.1) = false := by rfl) : PE X (.Call (.Name x p) (e :: es) [] pos) (tCB r t) := by
  intro pins s σ H Q I h
  refine wpAny_Call_Name_kw (ld_blt I hg hm hv ?_ hn hdb)
  exact PyProof.Rows.callWith_builtin1 (thn (ha pos pins s σ H _ I h) fun us s1 ⟨vs, H1, I1, r1, q1⟩ => hc pins s1 σ H1 vs us Q I1 r1 q1) he hpl
/-- T(e, ..), T a built-in type -/
theorem pe_callTy (hc : CallR X (.type T) r) (hg : Gl X x) (hm : X.mg x = none) (hv : bootBuiltins x = some (.type T)) (ha : PA X (e :: es) t) (hn : x ≠ "__name__" := by decide) (hdb : (x == ("__debug__" : Str)) = false := by decide)
    (he : starEach (e :: es) X.env = (false, eval e X.env) :: starEach es X.env := by rfl) (hpl : (backTo pos (starEach es X.env)).any (·.1) = false := by rfl) : PE X (.Call (.Name x p) (e :: es) [] pos) (tCB r t) := by
  intro pins s σ H Q I h
  refine wpAny_Call_Name_kw (ld_blt I hg hm hv ?_ hn hdb)
  exact PyProof.Rows.callWith_type1 (thn (ha pos pins s σ H _ I h) fun us s1 ⟨vs, H1, I1, r1, q1⟩ => hc pins s1 σ H1 vs us Q I1 r1 q1) he hpl
end
end L2

namespace HT
open PySem PyProof.Rows

section
open PySem.SeqAt
open PySem.AutoSeq1 (wpAny_loadPart')
open PySem.MeetsSeq PySem.MeetsSeq2 PySem.MeetsSeq3

end

section
variable {prog : Program} {w : World} {A : Around} {E : Value → Shared → Prop} {s : Shared}

/-- a slice's bound as a place among n (d where it is left out) -/
def sIx (n d : Nat) : Option Int → Nat
  | none => d
  | some v => if v < 0 then (v + (n : Int)).toNat else min v.toNat n
theorem sIx_none (n d : Nat) : sIx n d none = d := rfl
theorem sIx_nat (n d k : Nat) : sIx n d (some (k : Int)) = min k n := by
  show (if (k : Int) < 0 then ((k : Int) + (n : Int)).toNat else min (k : Int).toNat n) = min k n
  rw [if_neg (by omega), Int.toNat_natCast]
theorem sIx_le (n d : Nat) (hd : d ≤ n) (o : Option Int) : sIx n d o ≤ n := by
  cases o with
  | none => exact hd
  | some v =>
    show (if v < 0 then (v + (n : Int)).toNat else min v.toNat n) ≤ n
    by_cases hv : v < 0
    · rw [if_pos hv]; omega
    · rw [if_neg hv]; exact Nat.min_le_right _ _
theorem clip_eq (v : Int) (n d : Nat) : (if v < 0 then max (v + (n : Int)) 0 else min v (n : Int)) = ((sIx n d (some v) : Nat) : Int) := by
  show (if v < 0 then max (v + (n : Int)) 0 else min v (n : Int)) = (((if v < 0 then (v + (n : Int)).toNat else min v.toNat n) : Nat) : Int)
  by_cases hv : v < 0
  · simp only [if_pos hv]; omega
  · simp only [if_neg hv]; omega
theorem adjust_gen (lo hi : Option Int) (n : Nat) : Builtin.Slice.sliceAdjust lo hi 1 (n : Int) = (((sIx n 0 lo : Nat) : Int), ((sIx n n hi : Nat) : Int)) := by
  have h1 : ¬ ((1 : Int) < 0) := by omega
  unfold Builtin.Slice.sliceAdjust
  simp only [h1, if_false]
  refine Prod.ext ?_ ?_
  · cases lo with
    | none => rfl
    | some v => exact clip_eq v n 0
  · cases hi with
    | none => rfl
    | some v => exact clip_eq v n n
theorem places_gen (i j : Nat) : Builtin.Slice.slicePlaces (i : Int) (j : Int) 1 = j - i := by
  unfold Builtin.Slice.slicePlaces
  have h1 : (1 : Int) > 0 := by omega
  simp only [h1, if_true, Int.ediv_one]
  split <;> omega
theorem slicePart_ {v : Value} {o : Option Int} {Q : Option Int → Shared → Prop} (p : IsPart v o) (h : Q o s) : wpAny (model prog w) A (Builtin.Slice.slicePartIndex v) Q E s := by
  cases p with
  | none => exact slicePart_none h
  | int i t => exact slicePart_int h
theorem sliceApplied_gen {sl : Addr} {vl vu : Value} {lo hi : Option Int} {n : Nat} {Q : Int × Int × Nat → Shared → Prop} (hs : s.heap.IsSliceOf sl vl vu .none) (pl : IsPart vl lo) (pu : IsPart vu hi)
    (h : Q (((sIx n 0 lo : Nat) : Int), 1, sIx n n hi - sIx n 0 lo) s) : wpAny (model prog w) A (Builtin.Slice.sliceApplied (.ref sl) (pure (n : Int))) Q E s := by
  obtain ⟨os, hos, hcs, hds⟩ := id hs
  unfold Builtin.Slice.sliceApplied Builtin.Slice.sliceFields
  refine wpAny_bind (wpAny_bind (wpAny_field hos hds (x := vl) rfl (wpAny_bind (wpAny_field hos hds (x := vu) rfl (wpAny_bind (wpAny_field hos hds (x := .none) rfl (wpAny_pure ?_)))))))
  refine wpAny_bind (slicePart_none ?_)
  show wpAny _ _ (if ((1 : Int) == 0) = true then _ else _) _ _ s
  rw [if_neg (by decide)]
  refine wpAny_bind (slicePart_ pl (wpAny_bind (slicePart_ pu (wpAny_bind (wpAny_pure ?_)))))
  show wpAny _ _ (match Builtin.Slice.sliceAdjust lo hi 1 (n : Int) with | (lo, hi) => pure (lo, (1 : Int), Builtin.Slice.slicePlaces lo hi 1)) _ _ s
  rw [adjust_gen lo hi n]
  show wpAny _ _ (pure (((sIx n 0 lo : Nat) : Int), (1 : Int), Builtin.Slice.slicePlaces ((sIx n 0 lo : Nat) : Int) ((sIx n n hi : Nat) : Int) 1)) _ _ s
  rw [places_gen]
  exact wpAny_pure h
theorem pick_gen (xs : Array Value) (i k : Nat) : ((List.range k).filterMap fun (m : Nat) => xs[((i : Int) + (m : Int) * 1).toNat]?).toArray = ((xs.toList.drop i).take k).toArray := by
  have e : (fun (m : Nat) => xs[((i : Int) + (m : Int) * 1).toNat]?) = fun m => xs[i + m]? := by
    funext m
    have : ((i : Int) + (m : Int) * 1).toNat = i + m := by omega
    rw [this]
  rw [e]
  have := pick_run xs i k
  rw [List.filterMap_map] at this
  have e2 : ((fun x => xs[x]?) ∘ fun x => i + x) = fun m => xs[i + m]? := rfl
  rw [e2] at this
  rw [this]

theorem getItem_tuple_cut {t sl : Addr} {items : Array Value} {vl vu : Value} {lo hi : Option Int} {Q : Value → Shared → Prop} (ht : IsTup s.heap t items) (hs : s.heap.IsSliceOf sl vl vu .none) (pl : IsPart vl lo) (pu : IsPart vu hi)
    (hw : ¬ (sIx items.size 0 lo = 0 ∧ sIx items.size items.size hi = items.size))
    (h : Q (.ref s.heap.objs.size) { s with heap := s.heap.push { cls := .type "tuple", data := .seq ((items.toList.drop (sIx items.size 0 lo)).take (sIx items.size items.size hi - sIx items.size 0 lo)).toArray } })
    (hsz : items.size ≤ sizeLine) : wpAny (model prog w) A (getItem (.ref t) (.ref sl)) Q E s := by
  have htake : sizeOk (.seq ((items.toList.drop (sIx items.size 0 lo)).take (sIx items.size items.size hi - sIx items.size 0 lo)).toArray) := by
    show ((items.toList.drop (sIx items.size 0 lo)).take (sIx items.size items.size hi - sIx items.size 0 lo)).toArray.size ≤ sizeLine
    rw [List.size_toArray, List.length_take, List.length_drop, Array.length_toList]
    omega
  have hj : sIx items.size items.size hi ≤ items.size := sIx_le _ _ (Nat.le_refl _) hi
  obtain ⟨os, hos, hcs, hds⟩ := id hs
  have hTs : s.TypeIs (.ref sl) "slice" := ⟨os, hos, hcs⟩
  unfold getItem
  try with_reducible refine wpAny_holding ?_
  first | refine wpAny_bind (wpAny_pure ?_) | skip
  refine wpAny_bind (wpAny_sequenceKey ht.typeIs (by decide) ?_)
  refine wpAny_bind (wpAny_callSpecial?_slot (name := Str.ofString "__getitem__") ht.typeIs PyProof.Rows.slot_tuple_getitem
    (wpAny_call_entry PyProof.Rows.slot_tuple_getitem ht.typeIs entry_tuple_getitem ?_ (args_tuple_getitem _ _)))
  show wpAny _ _ (Builtin.Tuple.tupleItemsOf (.ref t) >>= _) _ _ s
  refine wpAny_bind (tupleItemsOf_ ht ?_)
  refine wpAny_bind (wpAny_typeOf hTs ?_)
  rw [if_pos (by decide)]
  refine wpAny_bind (sliceApplied_gen hs pl pu ?_)
  have hno : ¬ ((((sIx items.size 0 lo : Nat) : Int) == 0 && (1 : Int) == 1 && (sIx items.size items.size hi - sIx items.size 0 lo) == items.size) = true) := by
    intro q
    rw [Bool.and_eq_true, Bool.and_eq_true] at q
    have q1 : ((sIx items.size 0 lo : Nat) : Int) = 0 := eq_of_beq q.1.1
    have q2 : sIx items.size items.size hi - sIx items.size 0 lo = items.size := eq_of_beq q.2
    exact hw ⟨by omega, by omega⟩
  show wpAny _ _ (if (((sIx items.size 0 lo : Nat) : Int) == 0 && (1 : Int) == 1 && (sIx items.size items.size hi - sIx items.size 0 lo) == items.size) = true then _ else _) _ _ s
  rw [if_neg hno, pick_gen]
  first
    | exact wpAny_bind (m := Builtin.Tuple.tupleExact _) (wpAny_newObj_type (wpAny_pure ⟨_, rfl, wpAny_pure h⟩) htake)
    | exact wpAny_bind (m := Builtin.Tuple.tupleExact _) (wpAny_newObj_type (wpAny_bind (wpAny_pure (wpAny_pure ⟨_, rfl, wpAny_pure h⟩))) htake)
    | exact wpAny_bind (wpAny_bind (m := Builtin.Tuple.tupleExact _) (wpAny_newObj_type (wpAny_pure (wpAny_pure ⟨_, rfl, wpAny_pure h⟩)) htake))
    | exact wpAny_bind (wpAny_bind (m := Builtin.Tuple.tupleExact _) (wpAny_newObj_type (wpAny_pure ⟨_, rfl, wpAny_pure h⟩) htake))
end
end HT

namespace L2
open PySem PySem.Spec PyProof.Rows

abbrev TO := St → Hp → (Option Int → Hp → Prop) → Prop
/-- a slice's part (left out, or an int) -/
def PO (X : Cx) (e : Option Expr) (t : TO) : Prop :=
  ∀ (pins : List (Addr × Obj)) (s : Shared) (σ : St) (H : Hp) (Q : Option Int → Hp → Prop), Inv X pins σ H s → t σ H Q →
    wpAny (model X.prog X.w) X.A (evalPart e X.env) (fun u s' => ∃ o H', Inv X pins σ H' s' ∧ IsPart u o ∧ Q o H') X.xe s
def tNoPart : TO := fun _ H Q => Q none H
def tPart (t : TE) : TO := fun σ H Q => t σ H fun x H1 => ∃ i, x = .int i ∧ Q (some i) H1

section
variable {X : Cx} {e : Expr} {te : TE} {lo hi : Option Expr} {tl th : TO} {pos p2 : Pos}

theorem po_none : PO X none tNoPart := by
  intro pins s σ H Q I h
  rw [evalPart_none]
  exact wpAny_pure ⟨none, H, I, .none, h⟩
theorem po_some (h : PE X e te) : PO X (some e) (tPart te) := by
  intro pins s σ H Q I hw
  rw [evalPart_some]
  refine thn (h pins s σ H _ I hw) fun u s1 ⟨x, H1, I1, r1, q1⟩ => ?_
  obtain ⟨i, rfl, q⟩ := q1
  obtain ⟨t, rfl⟩ := r1
  exact ⟨some i, H1, I1, .int i t, q⟩

/-- what a slice of a value is, by values: the slice object stands at sl -/
def SlR (X : Cx) (r : V → Option Int → Option Int → Hp → VK → Prop) : Prop :=
  ∀ (pins : List (Addr × Obj)) (s : Shared) (σ : St) (H : Hp) (x : V) (v vl vu : Value) (lo hi : Option Int) (sl : Addr) (Q : VK), Inv X pins σ H s → RelV x v → s.heap.IsSliceOf sl vl vu .none → IsPart vl lo → IsPart vu hi → r x lo hi H Q →
    ∃ T id, typeLookup (.type T) "__getitem__" = pure (some (.builtin id)) ∧ s.TypeIs v T ∧ wpAny (model X.prog X.w) X.A (getItem v (.ref sl)) (EP X pins σ Q) X.xe s
theorem SlR.or {r r' : V → Option Int → Option Int → Hp → VK → Prop} (h : SlR X r) (h' : SlR X r') : SlR X (fun x lo hi H Q => r x lo hi H Q ∨ r' x lo hi H Q) := by
  intro pins s σ H x v vl vu lo hi sl Q I rx hs pl pu q
  rcases q with q | q
  · exact h pins s σ H x v vl vu lo hi sl Q I rx hs pl pu q
  · exact h' pins s σ H x v vl vu lo hi sl Q I rx hs pl pu q
def tSl (r : V → Option Int → Option Int → Hp → VK → Prop) (te : TE) (tl th : TO) : TE := fun σ H Q => te σ H fun x H1 => tl σ H1 fun l H2 => th σ H2 fun u H3 => r x l u H3 Q
/-- a[lo:hi], any a -/
theorem pe_slice {r : V → Option Int → Option Int → Hp → VK → Prop} (hr : SlR X r) (he : PE X e te) (hl : PO X lo tl) (hu : PO X hi th) : PE X (.Subscript e (.Slice lo hi none p2) pos) (tSl r te tl th) := by
  intro pins s σ H Q I h
  refine Subscript_ (thn (he pins s σ H _ I h) fun v s1 ⟨x, H1, I1, r1, q1⟩ => ?_)
  refine wpAny_Slice (thn (hl pins s1 σ H1 _ I1 q1) fun vl s2 ⟨l, H2, I2, pl, q2⟩ => thn (hu pins s2 σ H2 _ I2 q2) fun vu s3 ⟨u, H3, I3, pu, q3⟩ => ?_)
  rw [evalPart_none]
  refine wpAny_pure ?_
  have I4 : Inv X pins σ H3 { s3 with heap := s3.heap.push { cls := .type "slice", data := .fields #[vl, vu, .none] } } := I3.kept (t' := s3.toks) fun b ob q => Heap.get?_push_of_some _ q
  obtain ⟨T, id, hT, ht, hg⟩ := hr pins { s3 with heap := s3.heap.push { cls := .type "slice", data := .fields #[vl, vu, .none] } } σ H3 x v vl vu l u s3.heap.objs.size Q I4 r1 (Heap.IsSliceOf.new ..) pl pu q3
  show wpAny (model X.prog X.w) X.A (subscriptTail e (.Slice lo hi none p2) v (.ref s3.heap.objs.size)) (EP X pins σ Q) X.xe { s3 with heap := s3.heap.push { cls := .type "slice", data := .fields #[vl, vu, .none] } }
  exact tail_any (ops := [.ref s3.heap.objs.size, v]) ht hT hg (by with_unfolding_all rfl)

/-- the items of xs[lo:hi] -/
def cutV (xs : List V) (lo hi : Option Int) : List V := (xs.drop (HT.sIx xs.length 0 lo)).take (HT.sIx xs.length xs.length hi - HT.sIx xs.length 0 lo)
theorem cutV_length (xs : List V) (lo hi : Option Int) : (cutV xs lo hi).length ≤ xs.length := by
  unfold cutV
  rw [List.length_take, List.length_drop]
  omega
/-- t[lo:hi], not the whole of it (the whole would be t itself) -/
def rSlT (K : PySem.W.Frag) : V → Option Int → Option Int → Hp → VK → Prop := fun x lo hi H Q => ∃ a xs, x = .ref a ∧ SqT K H a xs ∧
  ¬ (HT.sIx xs.length 0 lo = 0 ∧ HT.sIx xs.length xs.length hi = xs.length) ∧ ∀ p, H p = none → Q (.ref p) (upd H p (.tup (cutV xs lo hi)))
theorem sl_tup : SlR X (rSlT X.K) := by
  intro pins s σ H x v vl vu lo hi sl Q I rx hs pl pu h
  obtain ⟨a, xs, rfl, hx, hw, q⟩ := h
  cases rx
  obtain ⟨its, r, ht, hz⟩ := I.tuple hx
  have hlen : its.toArray.size = xs.length := by rw [List.size_toArray]; exact r.length.symm
  refine ⟨"tuple", _, PyProof.Rows.slot_tuple_getitem.lookup, ht.typeIs, ?_⟩
  refine HT.getItem_tuple_cut ht hs pl pu (by rw [hlen]; exact hw) ?_ (by rw [hlen]; exact hz)
  rw [hlen]
  refine ⟨.ref s.heap.objs.size, _, I.laid (t' := s.toks) (o := .tup (cutV xs lo hi)) (fun b ob q => Heap.get?_push_of_some _ q) (Nat.le_refl _) ?_, rfl, q _ (I.hok.fresh (Nat.le_refl _))⟩
  exact ⟨Nat.le_trans (cutV_length xs lo hi) hz, _, (r.drop (HT.sIx xs.length 0 lo)).take (HT.sIx xs.length xs.length hi - HT.sIx xs.length 0 lo), IsTup.new _ _⟩

end
end L2

namespace L2
open PySem PySem.Spec PyProof.Rows

/-- the place that an index of any sign means -/
def ixN (n : Nat) (i : Int) : Option Nat := if 0 ≤ i then (if i < n then some i.toNat else none) else if -(n : Int) ≤ i then some (i + n).toNat else none
def atI {α : Type} (xs : List α) (i : Int) : Option α := (ixN xs.length i).bind fun j => xs[j]?
theorem ixN_seq {n : Nat} {i : Int} {j : Nat} (h : ixN n i = some j) : seqIndex? i n = some j ∧ j < n ∧ -(n : Int) ≤ i ∧ i < n := by
  unfold ixN at h
  by_cases h0 : 0 ≤ i
  · rw [if_pos h0] at h
    by_cases h1 : i < n
    · rw [if_pos h1] at h
      have e : i.toNat = j := Option.some.inj h
      exact ⟨by rw [seqIndex_of h0 h1, e], by omega, by omega, h1⟩
    · rw [if_neg h1] at h; cases h
  · rw [if_neg h0] at h
    by_cases h1 : -(n : Int) ≤ i
    · rw [if_pos h1] at h
      have e : (i + n).toNat = j := Option.some.inj h
      exact ⟨by rw [seqIndex_neg (by omega) h1, e], by omega, h1, by omega⟩
    · rw [if_neg h1] at h; cases h
theorem atI_get {α : Type} {xs : List α} {i : Int} {v : α} (h : atI xs i = some v) : ∃ j, seqIndex? i xs.length = some j ∧ xs[j]? = some v ∧ j < xs.length ∧ -(xs.length : Int) ≤ i ∧ i < xs.length := by
  unfold atI at h
  cases e : ixN xs.length i with
  | none => rw [e] at h; cases h
  | some j =>
    rw [e] at h
    obtain ⟨h1, h2, h3, h4⟩ := ixN_seq e
    exact ⟨j, h1, h, h2, h3, h4⟩
theorem atI_nat {α : Type} {xs : List α} {j : Nat} {v : α} (h : xs[j]? = some v) : atI xs (j : Int) = some v := by
  have hj : j < xs.length := (List.getElem?_eq_some_iff.mp h).1
  have e : ixN xs.length (j : Int) = some j := by
    unfold ixN
    rw [if_pos (by omega), if_pos (by omega)]; simp
  unfold atI; rw [e]; exact h
theorem atI_last {α : Type} (xs : List α) (v : α) : atI (xs ++ [v]) (-1) = some v := by
  have hl : (xs ++ [v]).length = xs.length + 1 := by simp
  have e : ixN (xs ++ [v]).length (-1) = some xs.length := by
    unfold ixN
    rw [hl, if_neg (by decide), if_pos (by omega)]
    congr 1
    omega
  unfold atI
  rw [e]
  show (xs ++ [v])[xs.length]? = some v
  simp

/-- what stands as an index of a plain subscript -/
def PlainIx (b : Expr) : Prop := ∀ o i, subscripted b false o i = operate [o, i] (getItem o i)
/-- a subscript by values -/
def IxR (X : Cx) (r : R2) : Prop :=
  ∀ (value slice : Expr) (pins : List (Addr × Obj)) (s : Shared) (σ : St) (H : Hp) (x y : V) (v u : Value) (Q : VK), Inv X pins σ H s → RelV x v → RelV y u → r x y H Q →
    subscripted slice false v u = operate [v, u] (getItem v u) → wpAny (model X.prog X.w) X.A (subscriptTail value slice v u) (EP X pins σ Q) X.xe s
/-- a call of a builtin's method by values: the receiver, the arguments -/
def MtR (X : Cx) (id : String) (r : V → List V → Hp → VK → Prop) : Prop :=
  ∀ (pins : List (Addr × Obj)) (s : Shared) (σ : St) (H : Hp) (x : V) (xs : List V) (v : Value) (us : List Value) (Q : VK), Inv X pins σ H s → RelV x v → Vals xs us → r x xs H Q →
    wpAny (model X.prog X.w) X.A (call (.builtin id) (v :: us)) (EP X pins σ Q) X.xe s
section
variable {X : Cx} {a b : Expr} {ta tb : TE} {pos : Pos}
theorem IxR.or {r r' : R2} (h : IxR X r) (h' : IxR X r') : IxR X (fun x y H Q => r x y H Q ∨ r' x y H Q) := by
  intro value slice pins s σ H x y v u Q I rx ry q hs
  rcases q with q | q
  · exact h value slice pins s σ H x y v u Q I rx ry q hs
  · exact h' value slice pins s σ H x y v u Q I rx ry q hs
/-- a[b] -/
theorem pe_ix {r : R2} (hr : IxR X r) (ha : PE X a ta) (hb : PE X b tb) (hs : PlainIx b) : PE X (.Subscript a b pos) (tOp r ta tb) := by
  intro pins s σ H Q I h
  exact Subscript_ (binT ha hb I h fun v u s2 x y H2 I2 rx ry q => hr a b pins s2 σ H2 x y v u Q I2 rx ry q (hs _ _))

def rIxL (K : PySem.W.Frag) : R2 := fun x y H Q => ∃ p xs i v, x = .ref p ∧ y = .int i ∧ SqL K H p xs ∧ atI xs i = some v ∧ Q v H
def rIxT (K : PySem.W.Frag) : R2 := fun x y H Q => ∃ p xs i v, x = .ref p ∧ y = .int i ∧ SqT K H p xs ∧ atI xs i = some v ∧ Q v H
def rIxS : R2 := fun x y H Q => ∃ z i c, x = .str z ∧ y = .int i ∧ z.length ≤ sizeLine ∧ atI z.cps.toList i = some c ∧ Q (.str ⟨#[c]⟩) H
theorem ix_list : IxR X (rIxL X.K) := by
  intro value slice pins s σ H x y v u Q I rx ry h hs
  obtain ⟨p, xs, i, z, rfl, rfl, hq, he, q⟩ := h
  cases rx
  obtain ⟨t, rfl⟩ := ry
  obtain ⟨its, r, pl, hz⟩ := I.list hq
  obtain ⟨j, h1, h2, h3, h4, h5⟩ := atI_get he
  obtain ⟨w, ew, rw'⟩ := r.get h2
  have hl := r.length
  have hn := line63
  have fin : EP X pins σ Q w s := ⟨z, H, I, rw', q⟩
  by_cases h0 : 0 ≤ i
  · have hj : i.toNat = j := by
      rw [seqIndex_of h0 h5] at h1
      exact Option.some.inj h1
    exact item_listR pl.isList h0 (by omega) (by rw [hj]; simpa using ew) fin hs
  · have hj : (i + (its.toArray.size : Int)).toNat = j := by
      rw [seqIndex_neg (by omega) h4] at h1
      rw [List.size_toArray, ← hl]
      exact Option.some.inj h1
    exact subscriptTail_builtinR (x := w) pl.isList.typeIs slot_list_getitem.lookup
      (wpAny_getItem_list_neg (Q := fun r s' => r = w ∧ EP X pins σ Q r s') pl.isList (by omega) (by rw [List.size_toArray] <;> omega) (by omega) (by rw [hj]; simpa using ew) ⟨rfl, fin⟩) hs
theorem ix_tup : IxR X (rIxT X.K) := by
  intro value slice pins s σ H x y v u Q I rx ry h hs
  obtain ⟨p, xs, i, z, rfl, rfl, hq, he, q⟩ := h
  cases rx
  obtain ⟨t, rfl⟩ := ry
  obtain ⟨its, r, pl, hz⟩ := I.tuple hq
  obtain ⟨j, h1, h2, h3, h4, h5⟩ := atI_get he
  obtain ⟨w, ew, rw'⟩ := r.get h2
  have hl := r.length
  have hn := line63
  have fin : EP X pins σ Q w s := ⟨z, H, I, rw', q⟩
  exact subscriptTail_builtinR (x := w) pl.typeIs slot_tuple_getitem.lookup
    (getItem_tuple (j := j) (Q := fun r s' => r = w ∧ EP X pins σ Q r s') pl (by omega) (by omega) (by rw [List.size_toArray, ← hl]; exact h1) (by simpa using ew) ⟨rfl, fin⟩) hs
theorem ix_str : IxR X rIxS := by
  intro value slice pins s σ H x y v u Q I rx ry h hs
  obtain ⟨z, i, c, rfl, rfl, hz, he, q⟩ := h
  obtain ⟨t, rfl⟩ := rx
  obtain ⟨t', rfl⟩ := ry
  obtain ⟨j, h1, h2, h3, h4, h5⟩ := atI_get he
  have hl : z.cps.toList.length = z.length := by simp [Str.length]
  rw [hl] at h1 h4 h5
  have hn := line63
  exact tail_any (typeIs_str s z t) slot_str_getitem.lookup (getItem_str (c := c) (by
    have e1 : decide (i < -(2 ^ 63 : Int)) = false := decide_eq_false (by omega)
    have e2 : decide (i ≥ 2 ^ 63) = false := decide_eq_false (by omega)
    rw [e1, e2, Bool.or_false]) (by rw [h1]; simpa using h2) ⟨.str ⟨#[c]⟩, H, I.tok _, ⟨_, rfl⟩, q⟩) hs
/-- list, tuple or str -/
def rIx (K : PySem.W.Frag) : R2 := fun x y H Q => rIxL K x y H Q ∨ rIxT K x y H Q ∨ rIxS x y H Q
theorem ix_seq : IxR X (rIx X.K) := ix_list.or (ix_tup.or ix_str)

theorem slice_bounds (lo hi : Option Int) (n : Nat) : (sliceBounds lo hi none n).1 = ((HT.sIx n 0 lo : Nat) : Int) ∧ (sliceBounds lo hi none n).2.1 = ((HT.sIx n n hi : Nat) : Int) ∧ (sliceBounds lo hi none n).2.2 = 1 := by
  refine ⟨?_, ?_, rfl⟩
  · cases lo with
    | none => simp [sliceBounds, HT.sIx]
    | some i =>
      simp only [sliceBounds, HT.sIx, Option.getD_none, show (1 : Int) > 0 by decide, if_true]
      by_cases h : i < 0
      · simp only [h, if_true] <;> omega
      · simp only [h, if_false] <;> omega
  · cases hi with
    | none => simp [sliceBounds, HT.sIx]
    | some i =>
      simp only [sliceBounds, HT.sIx, Option.getD_none, show (1 : Int) > 0 by decide, if_true]
      by_cases h : i < 0
      · simp only [h, if_true] <;> omega
      · simp only [h, if_false] <;> omega
theorem slicePick_cut (its : List Value) (lo hi : Option Int) : slicePick its.toArray lo hi none = ((its.drop (HT.sIx its.length 0 lo)).take (HT.sIx its.length its.length hi - HT.sIx its.length 0 lo)).toArray := by
  obtain ⟨h1, h2, h3⟩ := slice_bounds lo hi its.toArray.size
  unfold slicePick
  rw [h1, h2, h3]
  simp only [sliceRange_one, pick_run, List.size_toArray] <;> rfl
/-- xs[lo:hi] of a list: a new list -/
def rSlL (K : PySem.W.Frag) : V → Option Int → Option Int → Hp → VK → Prop := fun x lo hi H Q => ∃ a xs, x = .ref a ∧ SqL K H a xs ∧ ∀ p, H p = none → Q (.ref p) (upd H p (.lst (cutV xs lo hi)))
theorem sl_list : SlR X (rSlL X.K) := by
  intro pins s σ H x v vl vu lo hi sl Q I rx hs pl pu h
  obtain ⟨a, xs, rfl, hx, q⟩ := h
  cases rx
  obtain ⟨its, r, ht, hz⟩ := I.list hx
  have hlen := r.length
  refine ⟨"list", _, slot_list_getitem.lookup, ht.isList.typeIs, ?_⟩
  refine wpAny_getItem_list_slice ht.isList hs pl pu .none (by simp) ?_ (by rw [List.size_toArray] <;> omega)
  rw [slicePick_cut, ← hlen]
  refine ⟨.ref s.heap.objs.size, _, I.laid (t' := s.toks) (o := .lst (cutV xs lo hi)) (fun b ob q => Heap.get?_push_of_some _ q) (Nat.le_refl _) ?_, rfl, q _ (I.hok.fresh (Nat.le_refl _))⟩
  exact ⟨Nat.le_trans (cutV_length xs lo hi) hz, _, 0, (r.drop (HT.sIx xs.length 0 lo)).take (HT.sIx xs.length xs.length hi - HT.sIx xs.length 0 lo), Heap.get?_push_size _ rfl⟩

theorem call_list_of : CallR X (.type "list") (fun xs H Q => ∃ p ys, xs = [.ref p] ∧ (SqL X.K H p ys ∨ SqT X.K H p ys) ∧ ∀ l, H l = none → Q (.ref l) (upd H l (.lst ys))) := by
  intro pins s σ H xs us Q I r h
  obtain ⟨p, ys, rfl, hq, q⟩ := h
  obtain ⟨u, rfl, rx⟩ := vals1 r
  cases rx
  have fin : ∀ (its : List Value), Vals ys its → ys.length ≤ sizeLine → ∀ (h' : Heap) (c' : Nat), (∀ b o', s.heap.get? b = some o' → h'.get? b = some o') →
      h'.get? s.heap.objs.size = some { cls := .type "list", dict := none, data := .seq its.toArray c', slots := #[] } → EP X pins σ Q (.ref s.heap.objs.size) { s with heap := h' } := fun its r' hz h' c' kp e =>
    ⟨.ref s.heap.objs.size, _, I.laid (t' := s.toks) kp (Nat.le_refl _) (show ObjOk X.prog X.w _ h' _ (.lst ys) from ⟨hz, its, c', r', e⟩), rfl, q _ (I.hok.fresh (Nat.le_refl _))⟩
  rcases hq with hq | hq
  · obtain ⟨its, r', pl, hz⟩ := I.list hq
    have hlen := r'.length
    obtain ⟨o, ho, hc, n, hd⟩ := pl.isList
    exact call_list_seq p (.inl rfl) ho hc hd (fun h' c' kp e => fin its r' hz h' c' kp e) (by simp only [List.size_toArray] <;> omega)
  · obtain ⟨its, r', pl, hz⟩ := I.tuple hq
    have hlen := r'.length
    obtain ⟨o, ho, hc, n, hd⟩ := pl
    exact call_list_seq p (.inr rfl) ho hc hd (fun h' c' kp e => fin its r' hz h' c' kp e) (by simp only [List.size_toArray] <;> omega)
theorem call_tuple_of : CallR X (.type "tuple") (fun xs H Q => ∃ p ys, xs = [.ref p] ∧ ((SqL X.K H p ys ∧ ∀ l, H l = none → Q (.ref l) (upd H l (.tup ys))) ∨ (SqT X.K H p ys ∧ Q (.ref p) H))) := by
  intro pins s σ H xs us Q I r h
  obtain ⟨p, ys, rfl, h⟩ := h
  obtain ⟨u, rfl, rx⟩ := vals1 r
  cases rx
  rcases h with ⟨hq, q⟩ | ⟨hq, q⟩
  · obtain ⟨its, r', pl, hz⟩ := I.list hq
    have hlen := r'.length
    refine call_tuple_list pl.isList (fun h' kp => ?_) (by simp only [List.size_toArray] <;> omega)
    have I1 : Inv X pins σ H { s with heap := h' } := I.kept (t' := s.toks) kp
    have I2 : Inv X pins σ (upd H h'.objs.size (.tup ys)) { s with heap := h'.push { cls := .type "tuple", data := .seq its.toArray } } :=
      I1.laid (t' := s.toks) (fun b o e => Heap.get?_push_of_some _ e) (Nat.le_refl _) (show ObjOk X.prog X.w _ _ _ (.tup ys) from ⟨hz, its, r', IsTup.new _ _⟩)
    exact ⟨.ref h'.objs.size, _, I2, rfl, q _ (I1.hok.fresh (Nat.le_refl _))⟩
  · obtain ⟨its, r', pl, hz⟩ := I.tuple hq
    exact call_tuple_same pl ⟨.ref p, H, I, rfl, q⟩

/-- the value is of that builtin type -/
def tyV (K : PySem.W.Frag) (T : String) (x : V) (H : Hp) : Prop := match x with
  | .str _ => T = "str"
  | .int _ => T = "int"
  | .ref p => (T = "list" ∧ ∃ xs, SqL K H p xs) ∨ (T = "tuple" ∧ ∃ o, K.lookup p = some o ∧ o.cls = .type "tuple" ∧ o.dict = none) ∨
      (T = "dict" ∧ ((∃ kvs, H p = some (.dK kvs)) ∨ ∃ kvs, H p = some (.dT kvs))) ∨ (T = "set" ∧ ∃ S n, H p = some (.set S n))
  | _ => False
theorem tyV_is {pins : List (Addr × Obj)} {σ : St} {H : Hp} {s : Shared} {T : String} {x : V} {v : Value} (I : Inv X pins σ H s) (r : RelV x v) (ty : tyV X.K T x H) :
    s.TypeIs v T ∧ ∀ a, v = .ref a → ∃ ob, s.heap.get? a = some ob ∧ ob.dict = none := by
  cases x with
  | str z =>
    obtain ⟨t, rfl⟩ := r
    cases (show T = "str" from ty)
    exact ⟨typeIs_str s z t, fun _ e => nomatch e⟩
  | int i =>
    obtain ⟨t, rfl⟩ := r
    cases (show T = "int" from ty)
    exact ⟨typeIs_int s i t, fun _ e => nomatch e⟩
  | ref p =>
    cases r
    rcases ty with ⟨rfl, xs, hq⟩ | ⟨rfl, o, hk, hc, hd⟩ | ⟨rfl, hk⟩ | ⟨rfl, S, n, hk⟩
    · obtain ⟨its, _, pl, _⟩ := I.list hq
      refine ⟨pl.isList.typeIs, fun a e => ?_⟩
      cases e
      obtain ⟨o, n, e, c, hd, _⟩ := pl
      exact ⟨o, e, hd⟩
    · refine ⟨⟨o, I.kIn p o hk, hc⟩, fun a e => ?_⟩
      cases e
      exact ⟨o, I.kIn _ o hk, hd⟩
    · have z : ∃ o, s.heap.get? p = some o ∧ o.ExactDict := by
        rcases hk with ⟨kvs, hk⟩ | ⟨kvs, hk⟩
        · obtain ⟨_, _, _, _, o, _, _, e, ex, _⟩ := I.hok p _ hk
          exact ⟨o, e, ex⟩
        · obtain ⟨_, _, _, _, o, _, _, e, ex, _⟩ := I.hok p _ hk
          exact ⟨o, e, ex⟩
      obtain ⟨o, e, ex⟩ := z
      refine ⟨⟨o, e, ex.1⟩, fun a e2 => ?_⟩
      cases e2
      exact ⟨o, e, ex.2.1⟩
    · obtain ⟨o, _, _, _, e, ex, _⟩ := I.hok p _ hk
      refine ⟨⟨o, e, ex.1⟩, fun a e2 => ?_⟩
      cases e2
      exact ⟨o, e, ex.2.1⟩
  | _ => exact False.elim ty
def tBM (K : PySem.W.Frag) (T : String) (r : V → List V → Hp → VK → Prop) (to : TE) (t : TA) : TE := fun σ H Q => to σ H fun x H1 => tyV K T x H1 ∧ t σ H1 fun xs H2 => r x xs H2 Q
variable {o e : Expr} {es : List Expr} {to : TE} {t : TA} {name : Str} {apos cpos : Pos} {T id : String} {r : V → List V → Hp → VK → Prop}
theorem pe_bm (pa : PlainAttrs T) (slot : Slot T name id) (hty : typeOf (.builtin id) = pure (.type "method_descriptor")) (hm : MtR X id r) (ho : PE X o to) (ha : PA X (e :: es) t)
    (hbase : attributeBase o name X.env (eval o X.env) = eval o X.env := by rfl)
    (hfew : ((backTo cpos (starEach (e :: es) X.env)).all (fun x => !x.1) && (backToKw cpos (keywordEach [] X.env)).all (fun x => x.1.isSome)
      && decide ((e :: es).length + ([] : List Keyword).length + (if ([] : List Keyword).isEmpty then 0 else 1) < 30)) = true := by rfl)
    (hline : (apos.endLine == cpos.line) = true := by rfl) (hs : starEach (e :: es) X.env = (false, eval e X.env) :: starEach es X.env := by rfl) (hplain : (backTo cpos (starEach es X.env)).any (·.1) = false := by rfl) :
    PE X (.Call (.Attribute o name apos) (e :: es) [] cpos) (tBM X.K T r to t) := by
  intro pins s σ H Q I h
  refine wpAny_Call_method_late hbase hfew hline rfl (thn (ho pins s σ H _ I h) fun v s1 ⟨x, H1, I1, r1, ty, q1⟩ => ?_)
  obtain ⟨h1, h2⟩ := tyV_is I1 r1 ty
  refine ⟨T, id, pa, slot, hty, h1, h2, ?_⟩
  have hA := ha cpos pins s1 σ H1 _ I1 q1
  rw [hs] at hA ⊢
  refine Calls.callWith_builtin (by show (false || (backTo cpos (starEach es X.env)).any (·.1)) = false; rw [hplain] <;> rfl) (Calls.evalArgs_plain ?_)
  exact thn hA fun us s2 ⟨vs, H2, I2, r2, q2⟩ => hm pins s2 σ H2 x vs v us Q I2 r1 r2 q2
/- xs.append(e), list.index on a module's tuple .. are MtR facts of 06m -/
end
end L2

namespace L2
open PySem PySem.Spec PyProof.Rows

def MtM (X : Cx) (id : String) (r : V → List V → Hp → VK → Prop) : Prop :=
  ∀ (pins : List (Addr × Obj)) (s : Shared) (σ : St) (H : Hp) (x : V) (xs : List V) (v : Value) (us : List Value) (Q : VK), Inv X pins σ H s → RelV x v → Vals xs us → r x xs H Q →
    wpAny (model X.prog X.w) X.A (call (.builtin id) (v :: us)) (EP X pins σ Q) X.xe s

theorem Vals.one : ∀ {x : V} {us : List Value}, Vals [x] us → ∃ u, us = [u] ∧ RelV x u
  | _, _, .cons r .nil => ⟨_, rfl, r⟩
section
variable {X : Cx} {pins : List (Addr × Obj)} {σ : St} {H : Hp} {s : Shared} {l b : Addr} {xs ys zs : List V}

theorem Inv.lset {its its' : List Value} {n : Nat} {f : Array Value → Array Value} {t' : Nat} (I : Inv X pins σ H s) (hH : H l = some (.lst xs))
    (e : s.heap.get? l = some { cls := .type "list", data := .seq its.toArray n }) (hf : f its.toArray = its'.toArray) (hv : Vals ys its') (hz : ys.length ≤ sizeLine) :
    Inv X pins σ (upd H l (.lst ys)) { s with heap := s.heap.update l (Obj.mapSeq f), toks := t' } := by
  have q := PySem.IsL.update e f
  rw [hf] at q
  refine I.write (x := l) (e := l) (by rw [hH]; exact trivial) (.inl rfl) (fun b' u hb hu => (Heap.get?_update_other s.heap (Obj.mapSeq f) (Ne.symm hb)).trans hu) ⟨_, q⟩ ?_
  exact ⟨hz, its', _, hv, q⟩
theorem Inv.lnew {its : List Value} {t' : Nat} (I : Inv X pins σ H s) (hv : Vals ys its) (hz : ys.length ≤ sizeLine) :
    Inv X pins σ (upd H s.heap.objs.size (.lst ys)) { s with heap := s.heap.push { cls := .type "list", data := .seq its.toArray }, toks := t' } :=
  I.laid (fun _ _ q => Heap.get?_push_of_some _ q) (Nat.le_refl _) ⟨hz, its, 0, hv, Heap.get?_push_size _ rfl⟩
theorem Inv.fresh (I : Inv X pins σ H s) : H s.heap.objs.size = none := I.hok.fresh (Nat.le_refl _)
theorem Inv.lstM (I : Inv X pins σ H s) (hH : H l = some (.lst xs)) : xs.length ≤ sizeLine ∧ ∃ (its : List Value) (n : Nat), Vals xs its ∧ xs.length = its.length ∧ s.heap.get? l = some { cls := .type "list", data := .seq its.toArray n } := by
  obtain ⟨z, its, n, r, e⟩ := I.hok l _ hH
  exact ⟨z, its, n, r, r.length, e⟩

end

section
variable {X : Cx}

def rAppend : V → List V → Hp → VK → Prop := fun x vs H Q => ∃ l xs y, x = .ref l ∧ vs = [y] ∧ H l = some (.lst xs) ∧ xs.length < sizeLine ∧ Q .non (upd H l (.lst (xs ++ [y])))
theorem mt_append : MtM X "list.append" rAppend := by
  intro pins s σ H x vs v us Q I rx rv h
  obtain ⟨l, xs, y, rfl, rfl, hH, hz, q⟩ := h
  cases rx
  obtain ⟨u, rfl, ru⟩ := rv.one
  obtain ⟨z, its, n, r, hl, e⟩ := I.lstM hH
  refine call_meets F.slot_list_append ⟨_, e, rfl⟩ F.entry_list_append (F.args_list_append_2 _ _) (PySem.list_append l its.toArray n u (by rw [List.size_toArray]; omega)) ⟨e, ?_⟩
  refine ⟨.non, _, I.lset (its' := its ++ [u]) hH e (by simp) (r.append (.cons ru .nil)) ?_, rfl, q⟩
  rw [List.length_append, List.length_singleton]
  omega

def rCat : R2 := fun x y H Q => ∃ l b xs zs, x = .ref l ∧ y = .ref b ∧ H l = some (.lst xs) ∧ H b = some (.lst zs) ∧ xs.length + zs.length ≤ sizeLine ∧ ∀ p, H p = none → Q (.ref p) (upd H p (.lst (xs ++ zs)))
theorem op_cat : OpR X (binaryOp .Add) rCat := by
  intro pins s σ H x y v u Q I rx ry h
  obtain ⟨l, b, xs, zs, rfl, rfl, hH, hB, hz, q⟩ := h
  cases rx
  cases ry
  obtain ⟨z, its, n, r, hl, e⟩ := I.lstM hH
  obtain ⟨z2, its2, n2, r2, hl2, e2⟩ := I.lstM hB
  refine PySem.P.add_list e e2 ?_ (by rw [List.size_toArray, List.size_toArray]; omega)
  have ea : its.toArray ++ its2.toArray = (its ++ its2).toArray := by simp
  rw [ea]
  exact ⟨.ref _, _, I.lnew (t' := s.toks) (r.append r2) (by rw [List.length_append]; omega), rfl, q _ I.fresh⟩
end

section
variable {prog : Program} {w : World} {A : Around} {E : Value → Shared → Prop} {s : Shared}
end

section
variable {X : Cx}
end
end L2

namespace L2
open PySem PySem.Spec PyProof.Rows

section
variable {κ : Type} [DecidableEq κ]
end


section
variable {P : Program} {w : World} {H : Hp} {h : Heap} {a : Addr}
end

section
variable {X : Cx} {pins : List (Addr × Obj)} {σ : St} {H : Hp} {s : Shared} {a : Addr} {y v : V} {u r : Value} {o : Option V} {A : Around} {E : Value → Shared → Prop}

end

section
variable {X : Cx} {pins : List (Addr × Obj)} {σ : St} {H : Hp} {s : Shared} {a : Addr} {kvs : List (Key × V)} {k : Key} {u : Value} {A : Around} {E : Value → Shared → Prop}
end


section
variable {X : Cx} {o i e value : Expr} {pos pos' tpos : Pos} {td ty tv : TE}
end


section
variable {X : Cx} {pos : Pos}
end

section
variable {X : Cx} {pins : List (Addr × Obj)} {σ : St} {H : Hp} {s : Shared} {a : Addr} {y d : V} {u r : Value} {o : Option V} {A : Around} {E : Value → Shared → Prop}
end

section
variable {X : Cx} {o e f : Expr} {apos cpos : Pos} {td ty tx : TE}
end

section
variable {X : Cx} {pins : List (Addr × Obj)} {σ : St} {H : Hp} {s : Shared} {a : Addr} {kvs : List (Key × V)} {A : Around} {E : Value → Shared → Prop}
end


section
variable {X : Cx} {pins : List (Addr × Obj)} {σ : St} {H : Hp} {s : Shared} {a : Addr} {y : V} {u : Value} {A : Around} {E : Value → Shared → Prop}
end
end L2

namespace Att
open PySem PySem.W PySem.Calls PyProof.Rows

theorem ints_of_wellAll {P : Params} {h : Heap} : ∀ (ns : List Int) (vs : List Value), WellAll P h vs (ns.map WData.int) → IntsAre vs ns := by
  intro ns
  induction ns with
  | nil =>
    intro vs w
    rw [List.map_nil] at w
    cases w
    exact .nil
  | cons n ns ih =>
    intro vs w
    rw [List.map_cons] at w
    cases w with
    | cons a b =>
      cases a
      exact .cons _ _ (ih _ b)

theorem script_of {l : OpenLaw} {n : Nat} (hn : l.most = some n) {P : Params} {h : Heap} {args : List WData} {vals : List Value}
    (hpre : l.row.toRowW.claim.pre args = true) (hwl : WellAll P h vals args) :
    ∃ a vs ns, vals = [Value.ref a] ∧ args = [WData.list (ns.map WData.int)] ∧ h.get? a = some { cls := .type "list", data := .seq vs.toArray } ∧ IntsAre vs ns ∧ ns.length ≤ n := by
  have hsh : WShape.hasAll [] args [.list .int] = true := (pre_splitW hpre).1
  have hc : l.pre.holds [] { args := args } = true := (pre_splitW hpre).2
  obtain ⟨d, r, rfl, h1, h2⟩ := hasAllW_cons hsh
  obtain rfl := hasAllW_nil h2
  obtain ⟨xs, rfl, h3⟩ := hasW_list h1
  obtain ⟨ns, rfl⟩ := items_int h3
  have hlen : ns.length ≤ n := by
    unfold OpenLaw.pre at hc
    have h4 : (WTm.not (.lt (.lit (.int (n : Int))) (.len (.arg 0)))).holds [] { args := [.list (ns.map .int)] } = true := by
      have h4 := (holds_andW hc).1
      rw [hn] at h4
      exact h4
    have h5 := condW_of h4 (w_not (w_lt w_lit (w_len_list (w_arg rfl))))
    rw [List.length_map] at h5
    refine Nat.le_of_not_lt fun q => ?_
    have q' : (n : Int) < ((ns.length : Nat) : Int) := by omega
    first
      | (rw [decide_eq_true q'] at h5; exact absurd h5 (by decide))
      | (simp at h5; omega)
  cases hwl with
  | cons w1 w2 =>
    cases w2
    cases w1 with
    | list ho hall => exact ⟨_, _, ns, rfl, rfl, ho, ints_of_wellAll ns _ hall, hlen⟩

theorem post_true (l : OpenLaw) (args : List WData) : l.row.toRowW.claim.post args (.bool true) args = true :=
  postW_of (r := l.row.toRowW) (X := (true == true))
    (show WShape.has [] (.bool true) .bool = true by first | rfl | decide | simp [WShape.has, WShape.arms, WShape.armsAll])
    (show (WTm.eq .res (.lit (.bool true))).value [] { args := args, res := some (.bool true), after := args } = some (.bool (true == true)) from w_eq_bool (w_res rfl) w_lit) rfl

/-- the same from a codeAny of the CALL (for a layer whose function contracts speak of calls) -/
theorem attach_call {l : OpenLaw} {n : Nat} {q : Program} {loose : List Str} {XP : (Str → Option Value) → Heap → Prop} {YP : World → Heap → Prop} {d : DefRec}
    (hn : l.most = some n) (hdf : d.params.defaults = [])
    (call : ∀ (w : World) (s₀ s₁ : Shared) (mg mb : Str → Option Value) (fa : Addr) (o : Obj) (pm cd doc : Value) (a : Addr) (vs : List Value) (ns : List Int),
      Ground q loose [] XP w s₀ mg mb s₁.heap → YP w s₁.heap →
      s₁.heap.get? fa = some o → o.data = .func (docDef d.name d.params d.body d.scope pm cd doc) → s₁.heap.CodeRec cd d.name → mg d.name = some (.ref fa) →
      s₁.heap.get? a = some { cls := .type "list", data := .seq vs.toArray } → IntsAre vs ns → ns.length ≤ n → s₁.gens = #[] →
      codeAny (model l.prog w) callerA (.call (.ref fa) ⟨[.ref a], []⟩) (fun r s' => r = .ok (.ret (.bool true)) ∧ OldK s₁.heap s'.heap ∧ s'.os = s₁.os ∧ AllBare s'.gens) s₁) :
    WalkO q loose XP YP l.row.toRowW d [] (fun f vs => PySem.call f vs) := by
  intro w s₀ s₁ mg mb G Y fa o pm cd doc dV kV ho hd hcd hD hmg hg args vals as hpre hlay hrd hwl hlo
  obtain rfl : dV = .none := Dflts.none hD hdf
  obtain rfl : kV = .none := Dflts.noKw hD
  obtain ⟨a, vs, ns, rfl, rfl, hobj, hints, hlen⟩ := script_of hn hpre hwl
  refine enter_call (codeAny_mono (call w s₀ s₁ mg mb fa o pm cd doc a vs ns G Y ho (fd_plain hd) hcd hmg hobj hints hlen hg) fun r s' hq => ?_)
  obtain ⟨rfl, h2, h3, h4⟩ := hq
  exact ⟨.inl ⟨.bool true, .bool true, [], rfl, fun _ => rfl, .bool true, post_true l _, fun _ => ⟨List.Pairwise.nil, fun _ hm => (nomatch hm)⟩⟩, h2, h3, h4⟩

section
variable {prog : Program} {w : World} {A : Around} {E : Value → Shared → Prop} {s : Shared} {K : Frag}

end
end Att

namespace L2
open PySem PySem.Spec PyProof.Rows

theorem vals_ints : ∀ {vs : List Value} {ns : List Int}, IntsAre vs ns → Vals (ns.map V.int) vs
  | _, _, .nil => .nil
  | _, _, .cons n t h => .cons ⟨t, rfl⟩ (vals_ints h)

/-- nothing is tracked but the script, known to the object (or it is an object of the module) -/
def Only (H : Hp) : Prop := ∀ b, H b = none ∨ ∃ o xs, H b = some (.frz o (.lst xs))

/-- THE HEAD: the law's promise, at the heap behind the top. F, the promise of the law's def, may use that base is part of the heap (so K.In base, base.Ns mainGlobals mg stand in Mod) -/
theorem law_call {P : Program} {w : World} {K : PySem.W.Frag} {mg mb : Str → Option Value} {CX : CXT} {k : Nat} {fa a : Addr} {fd : FuncData} {x : Str} {sp : Sp} {s₁ : Shared} {vs : List Value} {ns : List Int}
    (KX : K.In s₁.heap) (hns : s₁.heap.Ns mainGlobals mg) (hb : s₁.heap.Ns builtinsNs mb) (hbb : ∀ x : Str, x ≠ "__name__" → mb x = bootBuiltins x) (hlim : s₁.heap.NoLimit) (hg : s₁.gens = #[])
    (ha : s₁.heap.get? a = some { cls := .type "list", data := .seq vs.toArray }) (hi : IntsAre vs ns) (hl : ns.length ≤ sizeLine) (hr : Room k callerA)
    (F : ∀ base : Heap, K.In base → base.Ns mainGlobals mg → FnOk P w K mg base CX k fa fd [x] sp) (hbind : ∀ (s : Shared) (u : Value), BindsTo s fd ⟨[u], []⟩ [(x, u)])
    (hsp : ∀ H : Hp, Only H → SqL K H a (ns.map V.int) → sp [.ref a] H (fun v _ => v = .bl true) fun _ _ _ => False)
    (hCX : ∀ H e s', CX [] H s₁ (fun _ _ _ => False) e s' → False) :
    codeAny (model P w) callerA (.call (.ref fa) ⟨[.ref a], []⟩) (fun r s' => r = .ok (.ret (.bool true)) ∧ OldK s₁.heap s'.heap ∧ s'.os = s₁.os ∧ AllBare s'.gens) s₁ := by
  have rv := vals_ints hi
  have lenV := hi.length
  -- from an abstract heap in which nothing but the script may be tracked
  have core : ∀ H : Hp, Only H → SqL K H a (ns.map V.int) → HOk P w H s₁.heap → (∀ b, H b ≠ none → b = a) → (H a ≠ none → K.lookup a = none) →
      codeAny (model P w) callerA (.call (.ref fa) ⟨[.ref a], []⟩) (fun r s' => r = .ok (.ret (.bool true)) ∧ OldK s₁.heap s'.heap ∧ s'.os = s₁.os ∧ AllBare s'.gens) s₁ := by
    intro H hO hS hok hA hK
    have base_of : ∀ {b : Addr} {o : Obj}, s₁.heap.get? b = some o → H b = none → (hidT s₁.heap H).get? b = some o := fun e n => hidT_get e n
    have noA : ∀ {b : Addr} {o : Obj} {es : Array DictEntry} {ep : Nat}, s₁.heap.get? b = some o → o.data = .dict es ep → H b = none := fun {b o es ep} e d => by
      cases q : H b with
      | none => rfl
      | some u =>
        have e' : b = a := hA b (by rw [q]; simp)
        subst e'
        rw [ha] at e; cases e
        have d' : Data.seq vs.toArray _ = Data.dict es ep := d
        cases d'
    have nsK : ∀ {b : Addr} {m : Str → Option Value}, s₁.heap.Ns b m → (hidT s₁.heap H).Ns b m := fun {b m} ⟨o, es, ep, e, d, r⟩ => ⟨o, es, ep, base_of e (noA e d), d, r⟩
    have hKb : K.In (hidT s₁.heap H) := fun b o e => base_of (KX b o e) (by
      cases q : H b with
      | none => rfl
      | some u =>
        have e' : b = a := hA b (by rw [q]; simp)
        subst e'
        rw [hK (by rw [q]; simp)] at e; cases e)
    have hM : Mod K mg (hidT s₁.heap H) := ⟨hKb, nsK hns, ⟨mb, nsK hb, hbb⟩, let ⟨mc, h1, h2⟩ := hlim; ⟨mc, nsK h1, h2⟩⟩
    have e0 : Env0 P w K mg (hidT s₁.heap H) callerA [] s₁ H := ⟨rfl, hM, fun b o e => of_hidT e, Nat.le_of_eq (hidT_size _ _), trivial, fun b hb => absurd (show b ∈ ([] : List Addr) from hb) (by simp), hok, .of_eq hg⟩
    refine codeAny_mono ((F _ hKb (nsK hns)).run callerA [] s₁ H ⟨[.ref a], []⟩ [.ref a] [.ref a] _ _ hr e0 (hbind s₁ (.ref a)) (.cons rfl .nil) (hsp H hO hS)) fun r s' h => ?_
    cases r with
    | error e => exact (hCX H e s' h).elim
    | ok fl =>
      cases fl with
      | next => exact False.elim h
      | brk => exact False.elim h
      | cont => exact False.elim h
      | ret u =>
        obtain ⟨v, H', os, bare, un, hok', r', q⟩ := h
        have q' : v = .bl true := q
        subst q'
        obtain rfl : u = Value.bool true := r'
        refine ⟨rfl, OldK.of_keep fun b o e => ?_, os, bare⟩
        cases q : H b with
        | none => exact un.keep b o e q (by intro z; exact absurd (show b ∈ ([] : List Addr) from z) (by simp)) (by simp)
        | some u =>
          rcases hO b with z | ⟨ob, xs, z⟩
          · rw [q] at z; cases z
          · have z2 := un.frzs b ob _ z
            obtain ⟨e1, _⟩ := hok b _ z
            obtain ⟨e2, _⟩ := hok' b _ z2
            rw [e] at e1; cases e1
            exact e2
  cases hk : K.lookup a with
  | some o =>
    -- the script is one of the module's own objects
    have e := KX a o hk
    rw [ha] at e
    cases e
    refine core (fun _ => none) (fun _ => .inl rfl) (.inr ⟨_, vs.toArray, _, hk, rfl, rfl, rfl, by rw [List.size_toArray, lenV]; exact hl, by simpa using rv⟩) (fun b u z => by have z' : (none : Option HO) = some u := z; cases z') (fun b z => absurd rfl z) fun z => absurd rfl z
  | none =>
    refine core (fun b => if b = a then some (.frz { cls := .type "list", data := .seq vs.toArray } (.lst (ns.map V.int))) else none) (fun b => ?_) (.inl (.inr ⟨{ cls := .type "list", data := .seq vs.toArray }, if_pos rfl⟩)) (fun b u z => ?_) (fun b z => ?_) fun _ => hk
    · by_cases hb : b = a
      · exact .inr ⟨_, _, if_pos hb⟩
      · exact .inl (if_neg hb)
    · by_cases hb : b = a
      · have z' := (if_pos hb).symm.trans z
        cases z'
        subst hb
        exact ⟨ha, by rw [List.length_map]; exact hl, vs, _, rv, ha⟩
      · have z' := (if_neg hb).symm.trans z
        cases z'
    · by_cases hb : b = a
      · exact hb
      · exact absurd (if_neg hb) z
end L2

namespace L2
open PySem PySem.Spec PyProof.Rows

abbrev KOf {K : PySem.W.Frag} {h : Heap} (_ : K.In h) : PySem.W.Frag := K

/-- the goal that k_head leaves (case hc), from the law's promise. F gives the function object fd (K's own) once, then the promise over every base -/
theorem walk_of {l : PySem.W.OpenLaw} {n k : Nat} {q : Program} {loose : List Str} {XP : (Str → Option Value) → Heap → Prop} {YP : World → Heap → Prop} {d : DefRec} {K : Params → PySem.W.Frag} {CX : World → CXT} {sp : World → Sp} {x : Str}
    (hn : l.most = some n) (hn2 : n ≤ sizeLine) (hdf : d.params.defaults = []) (hr : Room k callerA)
    (hY : ∀ (w : World) (h : Heap), YP w h → (K w.params).In h)
    (F : ∀ (w : World) (mg : Str → Option Value) (fa : Addr) (h : Heap), (K w.params).In h → h.Ns mainGlobals mg → mg d.name = some (.ref fa) →
      ∃ fd : FuncData, (∀ (s : Shared) (u : Value), BindsTo s fd ⟨[u], []⟩ [(x, u)]) ∧
        ∀ base : Heap, (K w.params).In base → base.Ns mainGlobals mg → FnOk l.prog w (K w.params) mg base (CX w) k fa fd [x] (sp w))
    (hsp : ∀ (w : World) (H : Hp) (a : Addr) (ns : List Int), ns.length ≤ n → Only H → SqL (K w.params) H a (ns.map V.int) → sp w [.ref a] H (fun v _ => v = .bl true) fun _ _ _ => False)
    (hCX : ∀ (w : World) (H : Hp) (s : Shared) (e : Value) (s' : Shared), CX w [] H s (fun _ _ _ => False) e s' → False) :
    PySem.W.WalkO q loose XP YP l.row.toRowW d [] (fun f vs => PySem.call f vs) := by
  refine Att.attach_call hn hdf fun w s₀ s₁ mg mb fa o pm cd doc a vs ns G Y ho hd hcd hmg hobj hints hlen hg => ?_
  have KX := hY w _ Y
  obtain ⟨fd, hb, hF⟩ := F w mg fa _ KX G.T.g hmg
  exact law_call KX G.T.g G.T.b G.T.builtins G.T.nolimit hg hobj hints (Nat.le_trans hlen hn2) hr hF hb (fun H hO hS => hsp w H a ns hlen hO hS) fun H e s' => hCX w H s₁ e s'
/-- the same where the promise hangs on the written part alone: (sp := My.sp_law), no hole under a binder -/
theorem walk_ofK {l : PySem.W.OpenLaw} {n k : Nat} {q : Program} {loose : List Str} {XP : (Str → Option Value) → Heap → Prop} {YP : World → Heap → Prop} {d : DefRec} {K : Params → PySem.W.Frag} {CX : CXT} {sp : PySem.W.Frag → Sp} {x : Str}
    (hn : l.most = some n) (hn2 : n ≤ sizeLine) (hdf : d.params.defaults = []) (hr : Room k callerA)
    (hY : ∀ (w : World) (h : Heap), YP w h → (K w.params).In h)
    (F : ∀ (w : World) (mg : Str → Option Value) (fa : Addr) (h : Heap), (K w.params).In h → h.Ns mainGlobals mg → mg d.name = some (.ref fa) →
      ∃ fd : FuncData, (∀ (s : Shared) (u : Value), BindsTo s fd ⟨[u], []⟩ [(x, u)]) ∧
        ∀ base : Heap, (K w.params).In base → base.Ns mainGlobals mg → FnOk l.prog w (K w.params) mg base CX k fa fd [x] (sp (K w.params)))
    (hsp : ∀ (K : PySem.W.Frag) (H : Hp) (a : Addr) (ns : List Int), ns.length ≤ n → Only H → SqL K H a (ns.map V.int) → sp K [.ref a] H (fun v _ => v = .bl true) fun _ _ _ => False)
    (hCX : ∀ (H : Hp) (s : Shared) (e : Value) (s' : Shared), CX [] H s (fun _ _ _ => False) e s' → False) :
    PySem.W.WalkO q loose XP YP l.row.toRowW d [] (fun f vs => PySem.call f vs) :=
  walk_of (K := K) (CX := fun _ => CX) (sp := fun w => sp (K w.params)) hn hn2 hdf hr hY F (fun w H a ns h1 h2 h3 => hsp (K w.params) H a ns h1 h2 h3) fun _ H s e s' => hCX H s e s'
end L2

namespace L2
open PySem PySem.Spec PyProof.Rows

/-- the j-th statement of a class's body -/
def inClass (s : Stmt) (j : Nat) : Stmt := match s with
  | .ClassDef _ _ _ body _ _ _ _ _ _ _ => body.getD j (.Pass ⟨0, 0, 0, 0⟩)
  | _ => .Pass ⟨0, 0, 0, 0⟩
def defArgs (s : Stmt) : Arguments := match s with
  | .FunctionDef _ a _ _ _ _ _ _ _ _ => a
  | _ => { posonlyargs := [], args := [], vararg := none, kwonlyargs := [], kw_defaults := [], kwarg := none, defaults := [] }
def defBody (s : Stmt) : List Stmt := match s with
  | .FunctionDef _ _ b _ _ _ _ _ _ _ => b
  | _ => []
def defScope (s : Stmt) : Scope := match s with
  | .FunctionDef _ _ _ _ _ _ sc _ _ _ => sc
  | _ => { kind := .function, names := [], isGenerator := false, isCoroutine := false }

abbrev CX0 : CXT := fun _ _ _ _ _ _ => False
abbrev E0 : XK := fun _ _ _ => False
theorem pass0 {X : Cx} : Passes CX0 X E0 := fun _ _ _ _ _ _ _ h => h.elim

structure Fun (K : PySem.W.Frag) (x qual : Str) (st : Stmt) (f : Addr) (fd : FuncData) : Prop where
  ex : ∃ (oc : Value) (od : Option Addr) (kV doc pm : Value) (an : Option Addr) (cdv ct : Value) (osl : Array (Option Value)),
    fd = PySem.W.fnOf x qual (defArgs st) (defBody st) (defScope st) .none kV doc pm an cdv ct ∧ K.lookup f = some ⟨oc, od, .func fd, osl⟩ ∧ PySem.W.codeIn K cdv qual = true
  kp : PySem.W.keepIn K (.ref f) = true
section
variable {P : Program} {w : World} {K : PySem.W.Frag} {mg : Str → Option Value} {base : Heap}
/-- THE RULE for a def: its body as a term of rules, and the reading of that term -/
theorem Fun.ok {x qual : Str} {st : Stmt} {f : Addr} {fd : FuncData} {N ps : List Str} {k : Nat} {sp : Sp} (F : Fun K x qual st f fd) (S : FnScope N ps (defScope st)) (len : ∀ vs H Q E, sp vs H Q E → vs.length = ps.length)
    (hbody : ∀ (cdv : Value) (A : Around) (outer : List Env) (s : Shared) (H : Hp) (vs : List V) (Q : VK) (E : XK), Room k (A.deeper (envOfC qual (defScope st) s.heap.objs.size f cdv)) → sp vs H Q E →
      ∃ t, PSs (cxOf CX0 P w K mg base N qual (defScope st) f cdv A outer s H E).nox (defBody st) t ∧ t { nx := fun _ H' => Q .non H', rt := Q } (start N vs) H) : FnOk P w K mg base CX0 (k + 1) f fd ps sp := by
  obtain ⟨oc, od, kV, doc, pm, an, cdv, ct, osl, rfl, lk, hcd⟩ := F.ex
  refine fn_of lk hcd S len fun A outer s H vs Q E hr hsp => ?_
  obtain ⟨t, h, q⟩ := hbody cdv A outer s H vs Q E hr hsp
  exact ⟨t, h.nox, q⟩
/-- how its arguments bind (no defaults): h is «fun _ _ _ _ _ _ us hl => match us, hl with | [_, _], _ => rfl», one _ a parameter -/
theorem Fun.binds {x qual : Str} {st : Stmt} {f : Addr} {fd : FuncData} {ps : List Str} (F : Fun K x qual st f fd)
    (h : ∀ (kV doc pm : Value) (an : Option Addr) (cdv ct : Value) (us : List Value), us.length = ps.length → bindArgs (PySem.W.fnOf x qual (defArgs st) (defBody st) (defScope st) .none kV doc pm an cdv ct) ⟨us, []⟩ = pure (ps.zip us)) : Binds K fd ps [] := by
  obtain ⟨oc, od, kV, doc, pm, an, cdv, ct, osl, rfl, lk, hcd⟩ := F.ex
  exact .all (h kV doc pm an cdv ct)
theorem fun_mk {x qual : Str} {st : Stmt} {f : Addr} {oc : Value} {od an : Option Addr} {osl : Array (Option Value)} {kV doc pm cdv ct : Value} (l : K.lookup f = some ⟨oc, od, .func (PySem.W.fnOf x qual (defArgs st) (defBody st) (defScope st) .none kV doc pm an cdv ct), osl⟩)
    (c : PySem.W.codeIn K cdv qual = true) (k : PySem.W.keepIn K (.ref f) = true) : Fun K x qual st f (PySem.W.fnOf x qual (defArgs st) (defBody st) (defScope st) .none kV doc pm an cdv ct) := ⟨⟨oc, od, kV, doc, pm, an, cdv, ct, osl, rfl, l, c⟩, k⟩
end
section
variable {X : Cx}
theorem pv (i : Nat) {x : Str} {pos : Pos} (hN : X.N[i]? = some x := by rfl) (hv : Vis X.env.scope x := by first | exact Or.inl rfl | exact Or.inr (Or.inl rfl) | exact Or.inr (Or.inr rfl)) (hd : (x == ("__debug__" : Str)) = false := by decide)
    (hcd : (x == ("__classdict__" : Str)) = false := by decide) : PE X (.Name x pos) (tVar i) := pe_var hN hv hd hcd
end

/-- all that was tracked is as it was -/
abbrev Same (H H' : Hp) : Prop := ∀ b o, H b = some o → H' b = some o
theorem Same.trans {H H1 H2 : Hp} (a : Same H H1) (b : Same H1 H2) : Same H H2 := fun c o h => b c o (a c o h)
theorem Same.free {H H' : Hp} (e : Same H H') {l : Addr} (h : H' l = Option.none) : H l = Option.none := by
  cases q : H l with
  | none => rfl
  | some o =>
    rw [e l o q] at h
    cases h
theorem Same.seq {K : PySem.W.Frag} {H H' : Hp} {a : Addr} {xs : List V} (e : Same H H') (h : SqL K H a xs) : SqL K H' a xs := by
  rcases h with (h | ⟨o, h⟩) | h
  · exact .inl (.inl (e _ _ h))
  · exact .inl (.inr ⟨o, e _ _ h⟩)
  · exact .inr h

section
variable {X : Cx}
end
section
variable {κ : Type} [DecidableEq κ]
end
end L2


namespace EM
/-- the number whose bits below n are those of f -/
def bits (f : Nat → Bool) : Nat → Nat
  | 0 => 0
  | n + 1 => bits f n + (if f n then 2 ^ n else 0)
theorem bits_lt (f : Nat → Bool) : ∀ n, bits f n < 2 ^ n
  | 0 => by simp [bits]
  | n + 1 => by
    have h := bits_lt f n
    simp only [bits]
    have e : (2 : Nat) ^ (n + 1) = 2 ^ n + 2 ^ n := by rw [Nat.pow_succ]; omega
    split <;> omega
theorem testBit_bits (f : Nat → Bool) (i : Nat) : ∀ n, (bits f n).testBit i = (decide (i < n) && f i)
  | 0 => by simp [bits]
  | n + 1 => by
    have ih := testBit_bits f i n
    have hl := bits_lt f n
    simp only [bits]
    by_cases hf : f n = true
    · rw [if_pos hf, Nat.add_comm]
      rcases Nat.lt_trichotomy i n with h | h | h
      · rw [Nat.testBit_two_pow_add_gt h, ih]
        simp [h, Nat.lt_succ_of_lt h]
      · subst h
        rw [Nat.testBit_two_pow_add_eq, ih]
        simp [hf]
      · have : (2 : Nat) ^ n + bits f n < 2 ^ i := by
          have e : (2 : Nat) ^ (n + 1) = 2 ^ n + 2 ^ n := by rw [Nat.pow_succ]; omega
          have : (2 : Nat) ^ (n + 1) ≤ 2 ^ i := Nat.pow_le_pow_right (by decide) h
          omega
        rw [Nat.testBit_lt_two_pow this]
        have : ¬ i < n + 1 := by omega
        simp [this]
    · rw [if_neg hf, Nat.add_zero, ih]
      by_cases h : i = n
      · subst h
        have : f i = false := by simpa using hf
        simp [this]
      · have : (i < n + 1) ↔ (i < n) := by omega
        simp [this]
theorem bits_ext {f g : Nat → Bool} {n : Nat} (h : ∀ i, i < n → f i = g i) : bits f n = bits g n := by
  apply Nat.eq_of_testBit_eq
  intro i
  rw [testBit_bits, testBit_bits]
  by_cases hi : i < n
  · simp [hi, h i hi]
  · simp [hi]
theorem bits_and (f g : Nat → Bool) (n : Nat) : bits f n &&& bits g n = bits (fun i => f i && g i) n := by
  apply Nat.eq_of_testBit_eq
  intro i
  rw [Nat.testBit_and, testBit_bits, testBit_bits, testBit_bits]
  cases decide (i < n) <;> simp
theorem bits_or (f g : Nat → Bool) (n : Nat) : bits f n ||| bits g n = bits (fun i => f i || g i) n := by
  apply Nat.eq_of_testBit_eq
  intro i
  rw [Nat.testBit_or, testBit_bits, testBit_bits, testBit_bits]
  cases decide (i < n) <;> simp
theorem bits_xor (f g : Nat → Bool) (n : Nat) : bits f n ^^^ bits g n = bits (fun i => xor (f i) (g i)) n := by
  apply Nat.eq_of_testBit_eq
  intro i
  rw [Nat.testBit_xor, testBit_bits, testBit_bits, testBit_bits]
  cases decide (i < n) <;> simp
theorem bits_true (n : Nat) : bits (fun _ => true) n = 2 ^ n - 1 := by
  apply Nat.eq_of_testBit_eq
  intro i
  rw [testBit_bits, Nat.testBit_two_pow_sub_one]
  simp
theorem bits_false (n : Nat) : bits (fun _ => false) n = 0 := by
  apply Nat.eq_of_testBit_eq
  intro i
  rw [testBit_bits]
  simp
theorem bits_mask (f : Nat → Bool) {m n : Nat} (h : m ≤ n) : bits f n &&& (2 ^ m - 1) = bits f m := by
  apply Nat.eq_of_testBit_eq
  intro i
  rw [Nat.testBit_and, testBit_bits, testBit_bits, Nat.testBit_two_pow_sub_one]
  by_cases hi : i < m
  · have : i < n := by omega
    simp [hi, this]
  · simp [hi]
/-- one more bit by or -/
theorem bits_or_one (f : Nat → Bool) (n : Nat) (h : f n = true) : bits f n ||| 2 ^ n = bits f (n + 1) := by
  have e := Nat.two_pow_add_eq_or_of_lt (bits_lt f n) 1
  rw [Nat.mul_one] at e
  rw [Nat.or_comm, ← e]
  simp only [bits, h, if_true]
  omega
theorem bits_skip (f : Nat → Bool) (n : Nat) (h : f n = false) : bits f (n + 1) = bits f n := by
  simp [bits, h]
theorem lit_iff (s k : Nat) : s.testBit k = decide (s / 2 ^ k % 2 = 1) := Nat.testBit_eq_decide_div_mod_eq
theorem or_split : ∀ (n x y : Nat), x < n → (x ||| y) = (x &&& y) + (x ^^^ y)
  | 0, x, y, h => absurd h (by omega)
  | n + 1, x, y, h => by
    by_cases hx : x = 0
    · subst hx; simp
    · have ih := or_split n (x / 2) (y / 2) (by omega)
      have e1 := Nat.div_add_mod (x ||| y) 2
      have e2 := Nat.div_add_mod (x &&& y) 2
      have e3 := Nat.div_add_mod (x ^^^ y) 2
      rw [Nat.or_div_two] at e1
      rw [Nat.and_div_two] at e2
      rw [Nat.xor_div_two] at e3
      have m1 : (x ||| y) % 2 = (x % 2 ||| y % 2) := Nat.or_mod_two_pow (n := 1)
      have m2 : (x &&& y) % 2 = (x % 2 &&& y % 2) := Nat.and_mod_two_pow (n := 1)
      have m3 : (x ^^^ y) % 2 = (x % 2 ^^^ y % 2) := Nat.xor_mod_two_pow (n := 1)
      have m4 : (x % 2 ||| y % 2) = (x % 2 &&& y % 2) + (x % 2 ^^^ y % 2) := by
        rcases Nat.mod_two_eq_zero_or_one x with a | a <;> rcases Nat.mod_two_eq_zero_or_one y with b | b <;> rw [a, b] <;> rfl
      omega
end EM

namespace EM
/-- the words that join -/
inductive W3 where
  | a | e | o
  deriving DecidableEq
/-- a formula -/
inductive Fm where
  | lamp (k : Nat)
  | sure (b : Bool)
  | neg (f : Fm)
  | join (w : W3) (fs : List Fm)
def comb : W3 → List Bool → Bool
  | .a, bs => bs.all id
  | .o, bs => bs.any id
  | .e, bs => bs.foldl xor false
mutual
def Fm.holds (s : Nat) : Fm → Bool
  | .lamp k => s.testBit k
  | .sure b => b
  | .neg f => !(f.holds s)
  | .join w fs => comb w (Fm.holdsL s fs)
def Fm.holdsL (s : Nat) : List Fm → List Bool
  | [] => []
  | f :: fs => f.holds s :: Fm.holdsL s fs
end
theorem holdsL_eq (s : Nat) : ∀ fs : List Fm, Fm.holdsL s fs = fs.map (Fm.holds s)
  | [] => by simp [Fm.holdsL]
  | f :: fs => by simp [Fm.holdsL, holdsL_eq s fs]
theorem holds_join (s : Nat) (w : W3) (fs : List Fm) : (Fm.join w fs).holds s = comb w (fs.map (Fm.holds s)) := by
  simp [Fm.holds, holdsL_eq]
theorem comb_snoc_e (bs : List Bool) (b : Bool) : comb .e (bs ++ [b]) = xor (comb .e bs) b := by simp [comb]
theorem comb_snoc_a (bs : List Bool) (b : Bool) : comb .a (bs ++ [b]) = (comb .a bs && b) := by simp [comb]
theorem comb_snoc_o (bs : List Bool) (b : Bool) : comb .o (bs ++ [b]) = (comb .o bs || b) := by simp [comb]
/-- the crowd of the first n stands -/
def Fm.crowd (f : Fm) (n : Nat) : Nat := bits (fun s => f.holds s) n
def bcomb : W3 → Nat → Nat → Nat
  | .a, x, y => x &&& y
  | .o, x, y => x ||| y
  | .e, x, y => x ^^^ y
def unit3 : W3 → Bool
  | .a => true
  | _ => false
def b2 : W3 → Bool → Bool → Bool
  | .a, x, y => x && y
  | .o, x, y => x || y
  | .e, x, y => xor x y
theorem comb_nil (w : W3) : comb w [] = unit3 w := by cases w <;> rfl
theorem comb_snoc (w : W3) (bs : List Bool) (b : Bool) : comb w (bs ++ [b]) = b2 w (comb w bs) b := by
  cases w
  · exact comb_snoc_a bs b
  · exact comb_snoc_e bs b
  · exact comb_snoc_o bs b
theorem bits_bcomb (w : W3) (f g : Nat → Bool) (n : Nat) : bcomb w (bits f n) (bits g n) = bits (fun i => b2 w (f i) (g i)) n := by
  cases w
  · exact bits_and f g n
  · exact bits_xor f g n
  · exact bits_or f g n
theorem crowd_join_nil (w : W3) (n : Nat) : (Fm.join w []).crowd n = bits (fun _ => unit3 w) n := by
  unfold Fm.crowd
  apply bits_ext
  intro i _
  rw [holds_join, List.map_nil, comb_nil]
theorem crowd_join_snoc (w : W3) (fs : List Fm) (f : Fm) (n : Nat) : (Fm.join w (fs ++ [f])).crowd n = bcomb w ((Fm.join w fs).crowd n) (f.crowd n) := by
  unfold Fm.crowd
  rw [bits_bcomb]
  apply bits_ext
  intro i _
  rw [holds_join, holds_join, List.map_append, List.map_cons, List.map_nil, comb_snoc]
theorem crowd_join_one (w : W3) (f : Fm) (n : Nat) : (Fm.join w [f]).crowd n = f.crowd n := by
  unfold Fm.crowd
  apply bits_ext
  intro i _
  rw [holds_join]
  cases w <;> simp [comb]
theorem crowd_neg (f : Fm) (n : Nat) : (Fm.neg f).crowd n = (2 ^ n - 1) ^^^ f.crowd n := by
  unfold Fm.crowd
  rw [← bits_true, bits_xor]
  apply bits_ext
  intro i _
  simp [Fm.holds]
theorem crowd_sure (b : Bool) (n : Nat) : (Fm.sure b).crowd n = if b then 2 ^ n - 1 else 0 := by
  unfold Fm.crowd
  cases b
  · simp only [Fm.holds]; exact bits_false n
  · simp only [Fm.holds]; exact bits_true n
theorem crowd_mask (f : Fm) {m n : Nat} (h : m ≤ n) : f.crowd n &&& (2 ^ m - 1) = f.crowd m := bits_mask _ h
end EM

set_option maxRecDepth 100000
set_option maxHeartbeats 4000000
namespace L2
open PySem PySem.Spec PyProof.Rows

section
variable {σ : St} {H : Hp} {Q : VK} {D : Ends} {K : PySem.W.Frag} {BQ : Bool → Hp → Prop}
theorem i_var {i : Nat} {v : V} (h : σ[i]? = some (some v)) (k : Q v H) : tVar i σ H Q := ⟨v, h, k⟩
theorem i_c {v : V} (k : Q v H) : tC v σ H Q := k
theorem i_op {r : R2} {ta tb : TE} (h : ta σ H fun x H1 => tb σ H1 fun y H2 => r x y H2 Q) : tOp r ta tb σ H Q := h
theorem i_un {r : V → Hp → VK → Prop} {ta : TE} (h : ta σ H fun x H1 => r x H1 Q) : tUn r ta σ H Q := h
theorem i_rI0 {g : Int → Int → V} {i j : Int} (h : Q (g i j) H) : rI0 g (.int i) (.int j) H Q := ⟨i, j, rfl, rfl, h⟩
theorem i_rI {C : Int → Int → Prop} {g : Int → Int → V} {i j : Int} (c : C i j) (h : Q (g i j) H) : rI C g (.int i) (.int j) H Q := ⟨i, j, rfl, rfl, c, h⟩
theorem i_rU {g : Int → V} {i : Int} (h : Q (g i) H) : rU g (.int i) H Q := ⟨i, rfl, h⟩
theorem i_eqI {i j : Int} (h : Q (.bl (decide (i = j))) H) : rEq (.int i) (.int j) H Q := by
  refine ⟨rfl, ?_⟩
  have e : decide (V.int i = V.int j) = decide (i = j) := by simp
  rw [e]; exact h
theorem i_neI {i j : Int} (h : Q (.bl (!decide (i = j))) H) : rNe (.int i) (.int j) H Q := by
  refine ⟨rfl, ?_⟩
  have e : decide (V.int i = V.int j) = decide (i = j) := by simp
  rw [e]; exact h
theorem i_test {t : TE} (h : t σ H fun x H' => ∃ k, x = .bl k ∧ BQ k H') : tTest t σ H BQ := h
theorem i_exb {b : Bool} {R : Bool → Prop} (h : R b) : ∃ k, V.bl b = V.bl k ∧ R k := ⟨b, rfl, h⟩
theorem i_and {t u : TT} (h : t σ H fun c H1 => if c = true then u σ H1 BQ else BQ false H1) : tAnd t u σ H BQ := h
theorem i_not {t : TT} (h : t σ H fun c H1 => BQ (!c) H1) : tNot t σ H BQ := h
theorem i_andV {t u : TE} (h : t σ H fun x H1 => ∃ c, x = .bl c ∧ if c = true then u σ H1 Q else Q (.bl false) H1) : tAndV t u σ H Q := h
theorem i_if {t : TT} {ta tb : TE} (h : t σ H fun c H1 => if c = true then ta σ H1 Q else tb σ H1 Q) : tIf t ta tb σ H Q := h
theorem i_seq {t u : TS} (h : t { D with nx := u D } σ H) : tSeq t u D σ H := h
theorem i_next (h : D.nx σ H) : tNext D σ H := h
theorem i_drop {te : TE} (h : te σ H fun _ H1 => D.nx σ H1) : tDrop te D σ H := h
theorem i_ret {te : TE} (h : te σ H D.rt) : tRet te D σ H := h
theorem i_ifs {c : TT} {t u : TS} (h : c σ H fun b H1 => if b = true then t D σ H1 else u D σ H1) : tIfS c t u D σ H := h
theorem i_asg {te : TE} {g : TG} (h : te σ H fun x H1 => g x σ H1 D.nx) : tAsg te g D σ H := h
theorem i_name {i : Nat} {v : V} {R : St → Hp → Prop} (h : R (σ.set i (some v)) H) : gName i v σ H R := h
theorem i_nil {R : List V → Hp → Prop} (h : R [] H) : tNil σ H R := h
theorem i_cons {ta : TE} {tr : TA} {R : List V → Hp → Prop} (h : ta σ H fun x H1 => tr σ H1 fun xs H2 => R (x :: xs) H2) : tCons ta tr σ H R := h
theorem i_cb {r : List V → Hp → VK → Prop} {t : TA} (h : t σ H fun vs H1 => r vs H1 Q) : tCB r t σ H Q := h
/-- a new list, a new tuple -/
abbrev NewL (xs : List V) (H : Hp) (Q : VK) : Prop := xs.length ≤ sizeLine ∧ ∀ p, H p = none → Q (.ref p) (upd H p (.lst xs))
theorem i_lst {t : TA} (h : t σ H fun xs H1 => NewL xs H1 Q) : tLst t σ H Q := h
theorem i_bm {T : String} {r : V → List V → Hp → VK → Prop} {to : TE} {t : TA} (h : to σ H fun x H1 => tyV K T x H1 ∧ t σ H1 fun xs H2 => r x xs H2 Q) : tBM K T r to t σ H Q := h
theorem i_fld {ta : TE} {f : Str} (h : ta σ H fun x H1 => ∃ a C dx fs v, x = .ref a ∧ H1 a = some (.ins C dx fs) ∧ Cls K C ∧ NoAttr K C f ∧ fs.lookup f = some v ∧ Q v H1) : tFld K ta f σ H Q := h
theorem i_sfld {ta tv : TE} {f : Str} (h : tv σ H fun y H1 => ta σ H1 fun x H2 => ∃ a C dx fs, x = .ref a ∧ H2 a = some (.ins C dx fs) ∧ Cls K C ∧ NoAttr K C f ∧ fs.length < 1000 ∧ D.nx σ (upd H2 a (.ins C dx (putF f y fs)))) : sFld K ta tv f D σ H := h
theorem i_sl {r : V → Option Int → Option Int → Hp → VK → Prop} {te : TE} {tl th : TO} (h : te σ H fun x H1 => tl σ H1 fun l H2 => th σ H2 fun u H3 => r x l u H3 Q) : tSl r te tl th σ H Q := h
theorem i_part {t : TE} {R : Option Int → Hp → Prop} (h : t σ H fun x H1 => ∃ i, x = .int i ∧ R (some i) H1) : tPart t σ H R := h
theorem i_exi {b : Int} {R : Int → Prop} (h : R b) : ∃ k, V.int b = V.int k ∧ R k := ⟨b, rfl, h⟩
theorem i_noPart {R : Option Int → Hp → Prop} (h : R none H) : tNoPart σ H R := h
/-- a test by a value's truth -/
theorem i_truB {b : Bool} {R : Bool → Prop} (h : R b) : ∃ k, TruV K (.bl b) H k ∧ R k := ⟨b, rfl, h⟩
/-- ifs -/
theorem i_ifd {c A B : Prop} [Decidable c] (h1 : c → A) (h2 : ¬ c → B) : if decide c = true then A else B := by
  by_cases h : c
  · rw [if_pos (decide_eq_true h)]; exact h1 h
  · rw [if_neg (by simp [h])]; exact h2 h
theorem i_ifb {b : Bool} {A B : Prop} (h1 : b = true → A) (h2 : b = false → B) : if b = true then A else B := by
  cases b
  · rw [if_neg Bool.false_ne_true]; exact h2 rfl
  · rw [if_pos rfl]; exact h1 rfl
theorem i_ifT {b : Bool} {A B : Prop} (h : b = true) (k : A) : if b = true then A else B := by rw [if_pos h]; exact k
theorem i_ifF {b : Bool} {A B : Prop} (h : b = false) (k : B) : if b = true then A else B := by rw [if_neg (by rw [h]; exact Bool.false_ne_true)]; exact k
end

def LoopR (lo : Int) (n : Nat) (g : TG) (tb : TS) (D : Ends) (σ : St) (H : Hp) : Prop :=
  ∃ W : Nat → Nat → St → Hp → Prop, (∃ m, W 0 m σ H) ∧ ∀ i m σ H, W i m σ H →
      ((Itr lo n).stop i H ∧ D.nx σ H) ∨ ((Itr lo n).go i H ∧ ∃ N : St → Hp → Prop, (∀ σ' H', N σ' H' → ∃ m', m' < m ∧ W (i + 1) m' σ' H') ∧ ∀ x H', (Itr lo n).yld i H x H' → g x σ H' fun σ2 H2 => tb { D with nx := N, ct := N, bk := D.nx } σ2 H2)
def LoopL (K : PySem.W.Frag) (a : Addr) (g : TG) (tb : TS) (D : Ends) (σ : St) (H : Hp) : Prop :=
  ∃ W : Nat → Nat → St → Hp → Prop, (∃ m, W 0 m σ H) ∧ ∀ i m σ H, W i m σ H →
      ((Itl K a).stop i H ∧ D.nx σ H) ∨ ((Itl K a).go i H ∧ ∃ N : St → Hp → Prop, (∀ σ' H', N σ' H' → ∃ m', m' < m ∧ W (i + 1) m' σ' H') ∧ ∀ x H', (Itl K a).yld i H x H' → g x σ H' fun σ2 H2 => tb { D with nx := N, ct := N, bk := D.nx } σ2 H2)
def LoopT (K : PySem.W.Frag) (a : Addr) (g : TG) (tb : TS) (D : Ends) (σ : St) (H : Hp) : Prop :=
  ∃ W : Nat → Nat → St → Hp → Prop, (∃ m, W 0 m σ H) ∧ ∀ i m σ H, W i m σ H →
      ((Itt K a).stop i H ∧ D.nx σ H) ∨ ((Itt K a).go i H ∧ ∃ N : St → Hp → Prop, (∀ σ' H', N σ' H' → ∃ m', m' < m ∧ W (i + 1) m' σ' H') ∧ ∀ x H', (Itt K a).yld i H x H' → g x σ H' fun σ2 H2 => tb { D with nx := N, ct := N, bk := D.nx } σ2 H2)
section
variable {σ : St} {H : Hp} {D : Ends} {K : PySem.W.Frag} {g : TG} {tb : TS}
theorem i_forR1 {ta : TA} (h : ta σ H fun vs H1 => ∃ j : Int, vs = [.int j] ∧ -(2 ^ 62) ≤ j ∧ j < 2 ^ 62 ∧ LoopR 0 j.toNat g tb D σ H1) : tFor (iRng1 ta) g tb D σ H := h
theorem loopR {lo : Int} {n : Nat} (Pv : Nat → St → Hp → Prop) (h0 : Pv 0 σ H) (hs : ∀ i σ H, i < n → Pv i σ H → g (.int (lo + i)) σ H fun σ2 H2 => tb { D with nx := Pv (i + 1), ct := Pv (i + 1), bk := D.nx } σ2 H2) (hd : ∀ σ H, Pv n σ H → D.nx σ H) : LoopR lo n g tb D σ H := for_range Pv h0 hs hd
theorem loopL {a : Addr} {xs : List V} (Pv : Nat → St → Hp → Prop) (h0 : Pv 0 σ H) (hl : ∀ i σ H, i ≤ xs.length → Pv i σ H → SqL K H a xs) (hs : ∀ i x σ H, xs[i]? = some x → Pv i σ H → g x σ H fun σ2 H2 => tb { D with nx := Pv (i + 1), ct := Pv (i + 1), bk := D.nx } σ2 H2) (hd : ∀ σ H, Pv xs.length σ H → D.nx σ H) : LoopL K a g tb D σ H := for_list Pv h0 hl hs hd
theorem loopT {a : Addr} {xs : List V} (Pv : Nat → St → Hp → Prop) (h0 : Pv 0 σ H) (hl : ∀ i σ H, i ≤ xs.length → Pv i σ H → SqT K H a xs) (hs : ∀ i x σ H, xs[i]? = some x → Pv i σ H → g x σ H fun σ2 H2 => tb { D with nx := Pv (i + 1), ct := Pv (i + 1), bk := D.nx } σ2 H2) (hd : ∀ σ H, Pv xs.length σ H → D.nx σ H) : LoopT K a g tb D σ H := for_tup Pv h0 hl hs hd
end

def Its (x : Str) : It := ⟨fun i _ => i < x.cps.size, fun i H v H' => H' = H ∧ ∃ c, x.cps[i]? = some c ∧ v = .str ⟨#[c]⟩, fun i _ => x.cps.size ≤ i⟩
theorem turn_strA {P : Program} {w : World} {K : PySem.W.Frag} {tg : Expr} (x : Str) (t : Tok) (it : Addr) : Turn P w K tg (Its x) [it] it (fun i h => h.IsStrIter it "str_ascii_iterator" x t i) where
  mem := by simp
  obj := fun i h st b hb => by
    have e : b = it := by simpa using hb
    subst e
    obtain ⟨o, e, c, d⟩ := st
    exact ⟨o, e, fun v z => by rw [d] at z; cases z⟩
  keep := fun i h h' st k => let ⟨o, ho, r⟩ := st; ⟨o, k it (by simp) o ho, r⟩
  item := by
    intro X hP hw hK hc i pins s σ H E I hf st hg
    subst hP hw hK
    obtain ⟨f0, f1, f2, f3, f4, f5⟩ := hf it (by simp)
    have hg : i < x.cps.size := hg
    refine wpAny_pyNext_ascii_item st (c := x.cps[i]) (by simp [hg]) fun h' st' sb => ?_
    have I1 : Inv X pins σ H { s with heap := h', toks := s.toks + 1 } := I.turned (fun b o hb e => (sb.2 b hb).trans e) f0 f1 f3 f4 f5
    obtain ⟨o, e, c, d⟩ := id st'
    exact ⟨_, rfl, go_of (s := { s with heap := h', toks := s.toks + 1 }) e c d (by decide) ⟨.str ⟨#[x.cps[i]]⟩, H, I1, ⟨_, rfl⟩, ⟨rfl, _, by simp [hg], rfl⟩, st', fun b hb => (hf b hb).1⟩⟩
  done := by
    intro X hP hw hK hc i pins s σ H E I hf st hg
    subst hP hw hK
    obtain ⟨f0, f1, f2, f3, f4, f5⟩ := hf it (by simp)
    have hg : x.cps.size ≤ i := hg
    exact wpAny_pyNext_ascii_end (I.ok.hd hc) st (by simp [hg]) fun h' eb => ⟨rfl, I.turned (t' := s.toks) (fun b o hb e => eb b o hb e) f0 f1 f3 f4 f5⟩
  self := fun _ _ _ _ _ st h => wpAny_pyIter_striter_ascii st h
theorem turn_strW {P : Program} {w : World} {K : PySem.W.Frag} {tg : Expr} (x : Str) (t : Tok) (it : Addr) : Turn P w K tg (Its x) [it] it (fun i h => h.IsStrIter it "str_iterator" x t i) where
  mem := by simp
  obj := fun i h st b hb => by
    have e : b = it := by simpa using hb
    subst e
    obtain ⟨o, e, c, d⟩ := st
    exact ⟨o, e, fun v z => by rw [d] at z; cases z⟩
  keep := fun i h h' st k => let ⟨o, ho, r⟩ := st; ⟨o, k it (by simp) o ho, r⟩
  item := by
    intro X hP hw hK hc i pins s σ H E I hf st hg
    subst hP hw hK
    obtain ⟨f0, f1, f2, f3, f4, f5⟩ := hf it (by simp)
    have hg : i < x.cps.size := hg
    refine wpAny_pyNext_wide_item st (c := x.cps[i]) (by simp [hg]) fun h' st' sb => ?_
    have I1 : Inv X pins σ H { s with heap := h', toks := s.toks + 1 } := I.turned (fun b o hb e => (sb.2 b hb).trans e) f0 f1 f3 f4 f5
    obtain ⟨o, e, c, d⟩ := id st'
    exact ⟨_, rfl, go_of (s := { s with heap := h', toks := s.toks + 1 }) e c d (by decide) ⟨.str ⟨#[x.cps[i]]⟩, H, I1, ⟨_, rfl⟩, ⟨rfl, _, by simp [hg], rfl⟩, st', fun b hb => (hf b hb).1⟩⟩
  done := by
    intro X hP hw hK hc i pins s σ H E I hf st hg
    subst hP hw hK
    obtain ⟨f0, f1, f2, f3, f4, f5⟩ := hf it (by simp)
    have hg : x.cps.size ≤ i := hg
    exact wpAny_pyNext_wide_end (I.ok.hd hc) st (by simp [hg]) fun h' eb => ⟨rfl, I.turned (t' := s.toks) (fun b o hb e => eb b o hb e) f0 f1 f3 f4 f5⟩
  self := fun _ _ _ _ _ st h => wpAny_pyIter_striter_wide st h
def iSeq (K : PySem.W.Frag) (tl : TE) : TI := fun σ H R => tl σ H fun x H1 => (∃ a xs, x = .ref a ∧ SqL K H1 a xs ∧ R (Itl K a) H1) ∨ (∃ a xs, x = .ref a ∧ SqT K H1 a xs ∧ R (Itt K a) H1) ∨ (∃ z, x = .str z ∧ R (Its z) H1)
theorem pi_seq {X : Cx} {tg : Expr} {l : Expr} {tl : TE} (hl : PE X l tl) : PI X tg l (iSeq X.K tl) := by
  intro pins s σ H R I h
  refine thn (hl pins s σ H _ I h) fun v s1 ⟨x, H1, I1, r1, q1⟩ => ?_
  have fp : ∀ b ∈ [s1.heap.objs.size], FpOk X pins H1 b := fun b hb => by
    have e : b = s1.heap.objs.size := by simpa using hb
    subst e
    exact I1.fpOk (Nat.le_refl _) (I1.hok.fresh (Nat.le_refl _))
  rcases q1 with ⟨a, xs, e, hq, q⟩ | ⟨a, xs, e, hq, q⟩ | ⟨z, e, q⟩
  · subst e
    cases r1
    obtain ⟨its, rv, p, hz⟩ := I1.list hq
    refine wpAny_pyIter_list p.isList ?_
    exact ⟨s1.heap.objs.size, [s1.heap.objs.size], _, _, H1, rfl, I1.kept (t' := s1.toks) fun b o e => Heap.get?_push_of_some _ e, turn_list a _, ⟨_, Heap.get?_push_size _ rfl, rfl, rfl⟩, fp, q⟩
  · subst e
    cases r1
    obtain ⟨its, rv, p, hz⟩ := I1.tuple hq
    refine wpAny_pyIter_tuple (show s1.heap.IsTuple a its.toArray from p) ?_
    exact ⟨s1.heap.objs.size, [s1.heap.objs.size], _, _, H1, rfl, I1.kept (t' := s1.toks) fun b o e => Heap.get?_push_of_some _ e, turn_tuple a _, ⟨_, Heap.get?_push_size _ rfl, rfl, rfl⟩, fp, q⟩
  · subst e
    obtain ⟨t, rfl⟩ := r1
    cases ha : z.cps.all (· < 128) with
    | false =>
      refine wpAny_pyIter_wide ha ?_
      exact ⟨s1.heap.objs.size, [s1.heap.objs.size], _, _, H1, rfl, I1.kept (t' := s1.toks) fun b o e => Heap.get?_push_of_some _ e, turn_strW z t _, ⟨_, Heap.get?_push_size _ rfl, rfl, rfl⟩, fp, q⟩
    | true =>
      refine wpAny_pyIter_ascii ha ?_
      exact ⟨s1.heap.objs.size, [s1.heap.objs.size], _, _, H1, rfl, I1.kept (t' := s1.toks) fun b o e => Heap.get?_push_of_some _ e, turn_strA z t _, ⟨_, Heap.get?_push_size _ rfl, rfl, rfl⟩, fp, q⟩
def LoopX (x : Str) (g : TG) (tb : TS) (D : Ends) (σ : St) (H : Hp) : Prop :=
  ∃ W : Nat → Nat → St → Hp → Prop, (∃ m, W 0 m σ H) ∧ ∀ i m σ H, W i m σ H →
      ((Its x).stop i H ∧ D.nx σ H) ∨ ((Its x).go i H ∧ ∃ N : St → Hp → Prop, (∀ σ' H', N σ' H' → ∃ m', m' < m ∧ W (i + 1) m' σ' H') ∧ ∀ x' H', (Its x).yld i H x' H' → g x' σ H' fun σ2 H2 => tb { D with nx := N, ct := N, bk := D.nx } σ2 H2)
def SeqW (K : PySem.W.Frag) (x : V) (g : TG) (tb : TS) (D : Ends) (σ : St) (H1 : Hp) : Prop :=
  (∃ a xs, x = .ref a ∧ SqL K H1 a xs ∧ LoopL K a g tb D σ H1) ∨ (∃ a xs, x = .ref a ∧ SqT K H1 a xs ∧ LoopT K a g tb D σ H1) ∨ (∃ z, x = .str z ∧ LoopX z g tb D σ H1)
section
variable {σ : St} {H : Hp} {D : Ends} {K : PySem.W.Frag} {g : TG} {tb : TS}
theorem i_forS {tl : TE} (h : tl σ H fun x H1 => SeqW K x g tb D σ H1) : tFor (iSeq K tl) g tb D σ H := h
theorem seqL {a : Addr} {xs : List V} (Pv : Nat → St → Hp → Prop) (h0 : Pv 0 σ H) (hl : ∀ i σ H, i ≤ xs.length → Pv i σ H → SqL K H a xs) (hs : ∀ i x σ H, xs[i]? = some x → Pv i σ H → g x σ H fun σ2 H2 => tb { D with nx := Pv (i + 1), ct := Pv (i + 1), bk := D.nx } σ2 H2) (hd : ∀ σ H, Pv xs.length σ H → D.nx σ H) : SeqW K (.ref a) g tb D σ H := .inl ⟨a, xs, rfl, hl 0 σ H (Nat.zero_le _) h0, loopL Pv h0 hl hs hd⟩
theorem seqT {a : Addr} {xs : List V} (Pv : Nat → St → Hp → Prop) (h0 : Pv 0 σ H) (hl : ∀ i σ H, i ≤ xs.length → Pv i σ H → SqT K H a xs) (hs : ∀ i x σ H, xs[i]? = some x → Pv i σ H → g x σ H fun σ2 H2 => tb { D with nx := Pv (i + 1), ct := Pv (i + 1), bk := D.nx } σ2 H2) (hd : ∀ σ H, Pv xs.length σ H → D.nx σ H) : SeqW K (.ref a) g tb D σ H := .inr (.inl ⟨a, xs, rfl, hl 0 σ H (Nat.zero_le _) h0, loopT Pv h0 hl hs hd⟩)
end

section
variable (P : Program) (w : World) (K : PySem.W.Frag) (mg : Str → Option Value) (base : Heap)
def FnS (k : Nat) (x : Str) (ps : List Str) (sp : Sp) : Prop := ∃ f fd, FnOk P w K mg base CX0 k f fd ps sp ∧ Binds K fd ps [] ∧ PySem.W.keepIn K (.ref f) = true ∧ mg x = some (.ref f)
def MeS (k : Nat) (C : Addr) (m : Str) (ps : List Str) (sp : Sp) : Prop := Cls K C ∧ ∃ f fd, FnOk P w K mg base CX0 k f fd ps sp ∧ Binds K fd ps [] ∧ Meth K C m f
def MkS (k : Nat) (x : Str) (C : Addr) (ps : List Str) (sp : Sp) : Prop := mg x = some (.ref C) ∧ ∃ f fd, Mk K C f ∧ FnOk P w K mg base CX0 k f fd ps sp ∧ Binds K fd ps []
end
theorem MeS.up {P : Program} {w : World} {K : PySem.W.Frag} {mg : Str → Option Value} {base : Heap} {j k : Nat} {C : Addr} {m : Str} {ps : List Str} {sp : Sp} (h : MeS P w K mg base j C m ps sp) (hk : j ≤ k) : MeS P w K mg base k C m ps sp := by
  obtain ⟨c, f, fd, F, b, hm⟩ := h
  exact ⟨c, f, fd, F.mono hk, b, hm⟩
def tFn (sp : Sp) (t : TA) : TE := fun σ H Q => t σ H fun vs H1 => sp vs H1 Q E0
def MkG (C : Addr) (sp : Sp) (vs : List V) (H1 : Hp) (Q : VK) : Prop := ∀ x dx, H1 x = none → H1 dx = none → dx ≠ x →
  sp (.ref x :: vs) (upd (upd H1 dx (.own x)) x (.ins C dx [])) (fun v H2 => v = .non ∧ Q (.ref x) H2) E0
def tMk (C : Addr) (sp : Sp) (t : TA) : TE := fun σ H Q => t σ H fun vs H1 => MkG C sp vs H1 Q
/-- o.m(..) of an instance of one of several classes: D tells which, each keeps sp for its own instances -/
def tDy (D : Addr → Prop) (m : Str) (sp : Sp) (ta : TE) (t : TA) : TE := fun σ H Q => ta σ H fun x H1 => ∃ a C dx fs, x = .ref a ∧ H1 a = some (.ins C dx fs) ∧ D C ∧ fs.lookup m = none ∧
  t σ H1 fun vs H2 => H2 a = some (.ins C dx fs) ∧ sp (x :: vs) H2 Q E0
/-- .. the promise of the class at C -/
def spAt (sp : Sp) (C : Addr) : Sp := fun vs H Q E => sp vs H Q E ∧ ∃ a dx fs r, vs = V.ref a :: r ∧ H a = some (.ins C dx fs)
theorem i_fn {sp : Sp} {t : TA} {σ : St} {H : Hp} {Q : VK} (h : t σ H fun vs H1 => sp vs H1 Q E0) : tFn sp t σ H Q := h
theorem i_mk {C : Addr} {sp : Sp} {t : TA} {σ : St} {H : Hp} {Q : VK} (h : t σ H fun vs H1 => MkG C sp vs H1 Q) : tMk C sp t σ H Q := h
theorem i_dy {D : Addr → Prop} {m : Str} {sp : Sp} {ta : TE} {t : TA} {σ : St} {H : Hp} {Q : VK} (h : ta σ H fun x H1 => ∃ a C dx fs, x = .ref a ∧ H1 a = some (.ins C dx fs) ∧ D C ∧ fs.lookup m = none ∧
  t σ H1 fun vs H2 => H2 a = some (.ins C dx fs) ∧ sp (x :: vs) H2 Q E0) : tDy D m sp ta t σ H Q := h
theorem tCall_nil (sp : Sp) (t : TA) : tCall sp [] E0 t = tFn sp t := by
  funext σ H Q
  unfold tCall tFn
  have e : (fun (vs : List V) (H1 : Hp) => sp (vs ++ []) H1 Q E0) = fun vs H1 => sp vs H1 Q E0 := by
    funext vs H1; rw [List.append_nil]
  rw [e]
theorem tMake_nil (C : Addr) (sp : Sp) (t : TA) : tMake C sp [] E0 t = tMk C sp t := by
  funext σ H Q
  unfold tMake tMk MkG
  congr 1
  funext vs H1
  rw [List.append_nil]
section
variable {X : Cx} {k k' : Nat} {x m : Str} {C : Addr} {ps : List Str} {sp : Sp} {e o : Expr} {es : List Expr} {ta : TE} {t : TA} {p pos apos : Pos}
theorem pe_fn (G : FnS X.prog X.w X.K X.mg X.base k x ps sp) (hr : Room k' X.A) (ha : PA X (e :: es) t) (hk : k ≤ k' := by omega) (hg : Gl X x := by rfl) (hdb : (x == ("__debug__" : Str)) = false := by decide)
    (he : starEach (e :: es) X.env = (false, eval e X.env) :: starEach es X.env := by rfl) (hpl : (backTo pos (starEach es X.env)).any (·.1) = false := by rfl) : PE X (.Call (.Name x p) (e :: es) [] pos) (tFn sp t) := by
  obtain ⟨f, fd, F, hb, kp, hm⟩ := G
  rw [← tCall_nil]
  exact pe_call F (hr.mono hk) hg hm kp hb .nil pass0 ha hdb he hpl
theorem pe_fn0 (G : FnS X.prog X.w X.K X.mg X.base k x ps sp) (hr : Room k' X.A) (hk : k ≤ k' := by omega) (hg : Gl X x := by rfl) (hdb : (x == ("__debug__" : Str)) = false := by decide) : PE X (.Call (.Name x p) [] [] pos) (tFn sp tNil) := by
  obtain ⟨f, fd, F, hb, kp, hm⟩ := G
  rw [← tCall_nil]
  exact pe_call0 F (hr.mono hk) hg hm kp hb .nil pass0 hdb
theorem pe_mk (G : MkS X.prog X.w X.K X.mg X.base k x C ps sp) (hr : Room k' X.A) (ha : PA X (e :: es) t) (hk : k + 1 ≤ k' := by omega) (hg : Gl X x := by rfl) (hdb : (x == ("__debug__" : Str)) = false := by decide)
    (he : starEach (e :: es) X.env = (false, eval e X.env) :: starEach es X.env := by rfl) (hpl : (backTo pos (starEach es X.env)).any (·.1) = false := by rfl) : PE X (.Call (.Name x p) (e :: es) [] pos) (tMk C sp t) := by
  obtain ⟨hm, f, fd, M, F, hb⟩ := G
  rw [← tMake_nil]
  exact pe_make M F (hr.mono hk) hg hm hb .nil pass0 ha hdb he hpl
theorem pe_dy {pl : Sem Bool} {D : Addr → Prop} (hD : ∀ C, D C → MeS X.prog X.w X.K X.mg X.base k C m ps (spAt sp C)) (hr : Room k' X.A) (ho : PE X o ta) (ha : PA X (e :: es) t) (hk : k ≤ k' := by omega)
    (hst : starEach (e :: es) X.env = (false, eval e X.env) :: starEach es X.env := by rfl) (hpl : (backTo pos (starEach es X.env)).any (·.1) = false := by rfl)
    (ht : eval (.Call (.Attribute o m apos) (e :: es) [] pos) X.env = (do
      let ov ← eval o X.env
      standAt apos.atName
      let (f, first) ← holding [ov] (getMethod ov m pl)
      callWith pos f first (backTo pos (starEach (e :: es) X.env)) (backToKw pos (keywordEach [] X.env))) := by rfl) :
    PE X (.Call (.Attribute o m apos) (e :: es) [] pos) (tDy D m sp ta t) := by
  intro pins s σ H Q I h
  refine PySem.W.methodCall_KW (pl := pl) (thn (ho pins s σ H _ I h) fun u s1 ⟨x, H1, I1, rx, a, C, dx, fs, ex, ea, hC, l, q⟩ => ?_) ht
  subst ex
  obtain rfl : u = Value.ref a := rx
  obtain ⟨c, f, fd, F, hb, hm⟩ := hD C hC
  refine getmeth_ok I1 ea c hm l ?_
  refine PySem.W.callWith_K (first := [.ref a]) (h₀ := X.base) I.ok.mod.kin hm.kp (thn (ha pos pins s1 σ H1 _ I1 q) fun us s2 ⟨vs, H2, I2, r, eb, q2⟩ => ⟨I2.kIn, ?_⟩) hst hpl
  exact run_fn (us := .ref a :: us) (vs := .ref a :: vs) (dvs := []) (E := E0) F (hr.mono hk) hb .nil pass0 I2 (.cons rfl r) (by rw [List.append_nil]; exact ⟨q2, a, dx, fs, vs, rfl, eb⟩)
/-- name = value, the slot i -/
theorem ss (i : Nat) {x : Str} {e : Expr} {te : TE} {pos pos' : Pos} (hN : X.N.Nodup) (he : PE X e te) (hi : X.N[i]? = some x := by rfl) (hx : Loc X.env.scope x := by first | exact Or.inl rfl | exact Or.inr rfl)
    (hs : swapsWith e (some (.Name x pos')) pos.line X.env = pure false := by rfl) (hf : X.fn x = true ∨ X.env.scope.names.lookup x = some .local := by first | exact .inl rfl | exact .inr rfl) : PS X (.Assign [.Name x pos'] e pos) (tAsg te (gName i)) :=
  ps_set hN hi hx he hs hf
theorem sg (i : Nat) {x : Str} {pos : Pos} (hN : X.N.Nodup) (hi : X.N[i]? = some x := by rfl) (hx : Loc X.env.scope x := by first | exact Or.inl rfl | exact Or.inr rfl) (hf : X.fn x = true ∨ X.env.scope.names.lookup x = some .local := by first | exact .inl rfl | exact .inr rfl) : PG X (.Name x pos) (gName i) := pg_name hN hi hx hf
def rIsi (K : PySem.W.Frag) : List V → Hp → VK → Prop := fun xs H Q => ∃ x t b, TyOf K H x t ∧ ((∃ n, xs = [x, .ty n] ∧ PySem.W.kitOne K t (.type n) = some b) ∨ (∃ c, xs = [x, .ref c] ∧ PySem.W.kitOne K t (.ref c) = some b)) ∧ Q (.bl b) H
theorem call_isi : CallR X (.builtin "isinstance") (rIsi X.K) := by
  intro pins s σ H xs us Q I r h
  obtain ⟨x, t, b, ty, h, q⟩ := h
  rcases h with ⟨n, rfl, e⟩ | ⟨c, rfl, e⟩
  · obtain ⟨u, v, rfl, ru, rv⟩ := vals2 r
    obtain rfl : v = Value.type n := rv
    exact isinst_ok I ru ty e fun tk => ⟨.bl b, H, I.tok tk, rfl, q⟩
  · obtain ⟨u, v, rfl, ru, rv⟩ := vals2 r
    obtain rfl : v = Value.ref c := rv
    exact isinst_ok I ru ty e fun tk => ⟨.bl b, H, I.tok tk, rfl, q⟩
theorem i_isiT {K : PySem.W.Frag} {x : V} {n : String} {t : Value} {b : Bool} {H : Hp} {Q : VK} (ty : TyOf K H x t) (e : PySem.W.kitOne K t (.type n) = some b) (h : Q (.bl b) H) : rIsi K [x, .ty n] H Q := ⟨x, t, b, ty, .inl ⟨n, rfl, e⟩, h⟩
def rAddG : R2 := fun x y H Q => rI0 (fun i j => V.int (i + j)) x y H Q ∨ (∃ i j, x = .str i ∧ y = .str j ∧ i.length + j.length ≤ sizeLine ∧ Q (.str (i ++ j)) H) ∨ rCat x y H Q
theorem op_addG : OpR X (binaryOp .Add) rAddG := OpR.or op_add (OpR.or op_add_str op_cat)
theorem i_addI {i j : Int} {H : Hp} {Q : VK} (h : Q (.int (i + j)) H) : rAddG (.int i) (.int j) H Q := .inl ⟨i, j, rfl, rfl, h⟩
theorem i_addL {l b : Addr} {xs zs : List V} {H : Hp} {Q : VK} (h1 : H l = some (.lst xs)) (h2 : H b = some (.lst zs)) (z : xs.length + zs.length ≤ sizeLine) (h : ∀ p, H p = none → Q (.ref p) (upd H p (.lst (xs ++ zs)))) : rAddG (.ref l) (.ref b) H Q := .inr (.inr ⟨l, b, xs, zs, rfl, rfl, h1, h2, z, h⟩)
end

section
variable {X : Cx} {K : PySem.W.Frag} {H : Hp} {Q : VK} {a : Expr} {ta : TE} {pos : Pos}
theorem bt_len : bootBuiltins "len" = some (.builtin "len") := by decide +kernel
theorem bt_isinstance : bootBuiltins "isinstance" = some (.builtin "isinstance") := by decide +kernel
theorem bt_max : bootBuiltins "max" = some (.builtin "max") := by decide +kernel
theorem bt_int : bootBuiltins "int" = some (.type "int") := by decide +kernel
theorem bt_bool : bootBuiltins "bool" = some (.type "bool") := by decide +kernel
theorem bt_list : bootBuiltins "list" = some (.type "list") := by decide +kernel
theorem bt_tuple : bootBuiltins "tuple" = some (.type "tuple") := by decide +kernel
/-- not of any value -/
def tNotG (K : PySem.W.Frag) (ta : TE) : TE := fun σ H Q => ta σ H fun x H1 => ∃ k, TruV K x H1 k ∧ Q (.bl (!k)) H1
theorem pe_notG (ha : PE X a ta) : PE X (.UnaryOp .Not a pos) (tNotG X.K ta) := by
  intro pins s σ H Q I h
  refine UnaryOp_ (thn (ha pins s σ H _ I h) fun v s1 ⟨x, H1, I1, r1, q1⟩ => ?_)
  exact not_of (thn (tru_ok pins s1 σ H1 x v (fun k H2 => Q (.bl (!k)) H2) I1 r1 q1) fun b s2 ⟨H2, I2, q2⟩ => ⟨.bl (!b), H2, I2, rfl, q2⟩)
theorem i_notG {σ : St} (h : ta σ H fun x H1 => ∃ k, TruV K x H1 k ∧ Q (.bl (!k)) H1) : tNotG K ta σ H Q := h
/-- len -/
def rLen (K : PySem.W.Frag) : List V → Hp → VK → Prop := fun xs H Q => ∃ x n, xs = [x] ∧ LenV K x H n ∧ Q (.int n) H
theorem call_lenG : CallR X (.builtin "len") (rLen X.K) := call_len
theorem i_lenS {p : Addr} {xs : List V} (h : SqL K H p xs) (k : Q (.int xs.length) H) : rLen K [.ref p] H Q := ⟨_, _, rfl, .inl ⟨xs, h, rfl⟩, k⟩
theorem i_lenL {p : Addr} {xs : List V} (h : H p = some (.lst xs)) (k : Q (.int xs.length) H) : rLen K [.ref p] H Q := ⟨_, _, rfl, .inl ⟨xs, SqL.of h, rfl⟩, k⟩
/-- max, min of two ints -/
def rMax2 : List V → Hp → VK → Prop := fun xs H Q => ∃ i j, xs = [.int i, .int j] ∧ Q (.int (if j > i then j else i)) H
theorem call_maxG (hc : X.calm = true) : CallR X (.builtin "max") rMax2 := call_max2 hc
theorem i_max {i j : Int} (h : Q (.int (max i j)) H) : rMax2 [.int i, .int j] H Q := by
  refine ⟨i, j, rfl, ?_⟩
  have e : (if j > i then j else i) = max i j := by split <;> omega
  rw [e]; exact h
/-- int() -/
def rInt1 : List V → Hp → VK → Prop := fun xs H Q => (∃ i, xs = [.int i] ∧ Q (.int i) H) ∨ ∃ k, xs = [.bl k] ∧ Q (.int (if k then 1 else 0)) H
theorem call_intG : CallR X (.type "int") rInt1 := call_int1
theorem i_intB {b : Bool} (h : Q (.int (if b then 1 else 0)) H) : rInt1 [.bl b] H Q := .inr ⟨b, rfl, h⟩
/-- list(), tuple() -/
def rListOf (K : PySem.W.Frag) : List V → Hp → VK → Prop := fun xs H Q => ∃ p ys, xs = [.ref p] ∧ (SqL K H p ys ∨ SqT K H p ys) ∧ ∀ l, H l = none → Q (.ref l) (upd H l (.lst ys))
theorem call_listG : CallR X (.type "list") (rListOf X.K) := call_list_of
theorem i_listL {p : Addr} {ys : List V} (h : H p = some (.lst ys)) (k : ∀ l, H l = none → Q (.ref l) (upd H l (.lst ys))) : rListOf K [.ref p] H Q := ⟨p, ys, rfl, .inl (SqL.of h), k⟩
def rTupOf (K : PySem.W.Frag) : List V → Hp → VK → Prop := fun xs H Q => ∃ p ys, xs = [.ref p] ∧ ((SqL K H p ys ∧ ∀ l, H l = none → Q (.ref l) (upd H l (.tup ys))) ∨ (SqT K H p ys ∧ Q (.ref p) H))
theorem call_tupleG : CallR X (.type "tuple") (rTupOf X.K) := call_tuple_of
theorem i_tupL {p : Addr} {ys : List V} (h : H p = some (.lst ys)) (k : ∀ l, H l = none → Q (.ref l) (upd H l (.tup ys))) : rTupOf K [.ref p] H Q := ⟨p, ys, rfl, .inl ⟨SqL.of h, k⟩⟩
/-- index -/
theorem i_ixS {p : Addr} {xs : List V} {j : Nat} {v : V} (h : SqL K H p xs) (e : xs[j]? = some v) (k : Q v H) : rIx K (.ref p) (.int (j : Int)) H Q := .inl ⟨p, xs, j, v, rfl, rfl, h, atI_nat e, k⟩
theorem i_ixL {p : Addr} {xs : List V} {j : Nat} {v : V} (h : H p = some (.lst xs)) (e : xs[j]? = some v) (k : Q v H) : rIx K (.ref p) (.int (j : Int)) H Q := .inl ⟨p, xs, j, v, rfl, rfl, SqL.of h, atI_nat e, k⟩
theorem i_ixLi {p : Addr} {xs : List V} {i : Int} {v : V} (h : H p = some (.lst xs)) (e : atI xs i = some v) (k : Q v H) : rIx K (.ref p) (.int i) H Q := .inl ⟨p, xs, i, v, rfl, rfl, SqL.of h, e, k⟩
/-- slices of lists and tuples -/
def rSlG (K : PySem.W.Frag) : V → Option Int → Option Int → Hp → VK → Prop := fun x lo hi H Q => rSlL K x lo hi H Q ∨ rSlT K x lo hi H Q
theorem sl_seq : SlR X (rSlG X.K) := SlR.or sl_list sl_tup
theorem i_slS {p : Addr} {xs : List V} {lo hi : Option Int} (h : SqL K H p xs) (k : ∀ l, H l = none → Q (.ref l) (upd H l (.lst (cutV xs lo hi)))) : rSlG K (.ref p) lo hi H Q := .inl ⟨p, xs, rfl, h, k⟩
theorem i_slL {p : Addr} {xs : List V} {lo hi : Option Int} (h : H p = some (.lst xs)) (k : ∀ l, H l = none → Q (.ref l) (upd H l (.lst (cutV xs lo hi)))) : rSlG K (.ref p) lo hi H Q := .inl ⟨p, xs, rfl, SqL.of h, k⟩
/-- a times b -/
def rMulG : R2 := rI CMul fun i j => V.int (i * j)
theorem op_mulG : OpR X (binaryOp .Mult) rMulG := op_mul
theorem i_mulI {i j : Int} (c : CMul i j) (h : Q (.int (i * j)) H) : rMulG (.int i) (.int j) H Q := ⟨i, j, rfl, rfl, c, h⟩
/-- list methods -/
theorem i_append {l : Addr} {xs : List V} {y : V} (h : H l = some (.lst xs)) (z : xs.length < sizeLine) (k : Q .non (upd H l (.lst (xs ++ [y])))) : rAppend (.ref l) [y] H Q := ⟨l, xs, y, rfl, rfl, h, z, k⟩
theorem tyL {l : Addr} {xs : List V} (h : H l = some (.lst xs)) : tyV K "list" (.ref l) H := .inl ⟨rfl, xs, SqL.of h⟩
end
theorem small {n : Nat} (h : n ≤ 1000000) : n ≤ sizeLine := Nat.le_trans h (by decide)
theorem smallL {n : Nat} (h : n < 1000000) : n < sizeLine := Nat.lt_of_lt_of_le h (by decide)
theorem nd_ne {l : List Addr} (h : l.Nodup) {i j : Nat} {a b : Addr} (ha : l[i]? = some a) (hb : l[j]? = some b) (hij : i ≠ j) : a ≠ b := by
  intro e
  subst e
  obtain ⟨h1, e1⟩ := List.getElem?_eq_some_iff.mp ha
  obtain ⟨h2, e2⟩ := List.getElem?_eq_some_iff.mp hb
  exact hij ((List.getElem_inj h).mp (e1.trans e2.symm))
theorem kit_self (K : PySem.W.Frag) (n : String) : PySem.W.kitOne K (.type n) (.type n) = some true := by
  unfold PySem.W.kitOne
  rw [if_pos (by simp)]
theorem same_new {H : Hp} {p : Addr} (h : H p = none) (o : HO) : Same H (upd H p o) := fun b u q => by rw [upd_ne (ne_of_none q h)]; exact q
theorem same_new2 {H : Hp} {p q : Addr} (hp : H p = none) (hq : H q = none) (o u : HO) : Same H (upd (upd H q u) p o) := fun b v e => by rw [upd_ne (ne_of_none e hp), upd_ne (ne_of_none e hq)]; exact e
theorem kit_prim {K : PySem.W.Frag} {t c : String} {b : Bool} (h1 : t ≠ c) (h2 : PySem.W.kitMeta c = true) (h3 : (PySem.fastBuiltinMro t).map (·.contains (Value.type c)) = some b) : PySem.W.kitOne K (.type t) (.type c) = some b := by
  unfold PySem.W.kitOne
  rw [if_neg (by simp [h1])]
  unfold PySem.W.kitCls
  dsimp only
  rw [if_pos h2]
  exact h3
theorem kit_int_bool (K : PySem.W.Frag) : PySem.W.kitOne K (.type "int") (.type "bool") = some false := kit_prim (by decide) (by decide +kernel) (by decide +kernel)
/-- an __init__ that stores its one argument -/
def spInit1 (C : Addr) (f : Str) : Sp := fun vs H Q _ => ∃ p dx v, vs = [.ref p, v] ∧ H p = some (.ins C dx []) ∧ Q .non (upd H p (.ins C dx [(f, v)]))
theorem i_init1 {C : Addr} {f : Str} {v : V} {H : Hp} {Q : VK} (h : ∀ (x dx : Addr) (H' : Hp), Same H H' → H x = none → H' x = some (.ins C dx [(f, v)]) → Q (.ref x) H') :
    MkG C (spInit1 C f) [v] H Q := by
  intro x dx hx hdx ne
  refine ⟨x, dx, v, rfl, upd_same, rfl, ?_⟩
  rw [upd_upd]
  exact h x dx _ (same_new2 hx hdx _ _) hx upd_same
theorem lk1 (f : Str) (v : V) : List.lookup f [(f, v)] = some v := by
  have h := lookup_putF f f v []
  rw [if_pos rfl] at h
  exact h
theorem lk0 {f g : Str} (v : V) (h : ¬ g = f) : List.lookup g [(f, v)] = none := by
  have e := lookup_putF f g v []
  rw [if_neg h] at e
  exact e
/-- the built-in names that the text does not bind -/
structure Bt (mg : Str → Option Value) : Prop where
  len : mg "len" = none
  range : mg "range" = none
  isinstance : mg "isinstance" = none
  int : mg "int" = none
  bool : mg "bool" = none
  str : mg "str" = none
  list : mg "list" = none
  tuple : mg "tuple" = none
  dict : mg "dict" = none
  set : mg "set" = none
  sorted : mg "sorted" = none
  max : mg "max" = none
  min : mg "min" = none
  sum : mg "sum" = none
  any : mg "any" = none
  all : mg "all" = none
  abs : mg "abs" = none
  reversed : mg "reversed" = none
  enumerate : mg "enumerate" = none
  zip : mg "zip" = none
/-- all but lists stay: what FmAt and its like lean on -/
def Ext (H H' : Hp) : Prop := ∀ b o, H b = some o → (∀ xs, o ≠ .lst xs) → H' b = some o
theorem Ext.trans {H H1 H2 : Hp} (a : Ext H H1) (b : Ext H1 H2) : Ext H H2 := fun c o h n => b c o (a c o h n) n
theorem Ext.of {H H' : Hp} (a : Same H H') : Ext H H' := fun b o h _ => a b o h
theorem Ext.lst {H : Hp} {l : Addr} {xs : List V} (h : H l = some (.lst xs)) (o : HO) : Ext H (upd H l o) := fun b u e n => by
  rw [upd_ne (ne_of e h (n xs))]; exact e
theorem cut_to {xs : List V} {k : Nat} (h : k ≤ xs.length) : cutV xs none (some (k : Int)) = xs.take k := by
  unfold cutV
  rw [HT.sIx_none, HT.sIx_nat, Nat.min_eq_left h]
  simp
theorem cut_from {xs : List V} {k : Nat} (h : k ≤ xs.length) : cutV xs (some (k : Int)) none = xs.drop k := by
  unfold cutV
  rw [HT.sIx_none, HT.sIx_nat, Nat.min_eq_left h]
  rw [List.take_of_length_le (by rw [List.length_drop]; omega)]
theorem cut_init (xs : List V) (v : V) : cutV (xs ++ [v]) none (some (-1)) = xs := by
  unfold cutV
  rw [HT.sIx_none]
  have e : HT.sIx (xs ++ [v]).length (xs ++ [v]).length (some (-1)) = xs.length := by
    have h : HT.sIx (xs ++ [v]).length (xs ++ [v]).length (some (-1)) = (if (-1 : Int) < 0 then ((-1 : Int) + ((xs ++ [v]).length : Int)).toNat else min (-1 : Int).toNat (xs ++ [v]).length) := rfl
    rw [h, if_pos (by decide), List.length_append, List.length_singleton]
    omega
  rw [e]
  simp
theorem cut_mid (xs : List V) (i j : Nat) : cutV xs (some (i : Int)) (some (j : Int)) = (xs.drop i).take (j - i) := by
  unfold cutV
  rw [HT.sIx_nat, HT.sIx_nat]
  by_cases hi : i ≤ xs.length
  · rw [Nat.min_eq_left hi]
    by_cases hj : j ≤ xs.length
    · rw [Nat.min_eq_left hj]
    · rw [Nat.min_eq_right (by omega), List.take_of_length_le (by rw [List.length_drop]; omega), List.take_of_length_le (by rw [List.length_drop]; omega)]
  · rw [Nat.min_eq_right (show xs.length ≤ i by omega), List.drop_eq_nil_of_le (Nat.le_refl _), List.drop_eq_nil_of_le (show xs.length ≤ i by omega)]
    simp
theorem map_int_mid (ns : List Int) (i j : Nat) : ((ns.map V.int).drop i).take j = ((ns.drop i).take j).map V.int := by
  rw [List.map_take, List.map_drop]
theorem get_int {ns : List Int} {i : Nat} {x : V} (h : (ns.map V.int)[i]? = some x) : ∃ n, x = V.int n ∧ ns[i]? = some n := by
  rw [List.getElem?_map] at h
  cases e : ns[i]? with
  | none => rw [e] at h; cases h
  | some n => rw [e] at h; exact ⟨n, (Option.some.inj h).symm, rfl⟩
theorem snoc_of {α : Type} {l : List α} (h : l ≠ []) : ∃ r x, l = r ++ [x] := ⟨l.dropLast, l.getLast h, (List.dropLast_concat_getLast h).symm⟩
def Scr (K : PySem.W.Frag) (H : Hp) (a : Addr) (xs : List V) : Prop := (∃ o, H a = some (.frz o (.lst xs))) ∨ ∀ H', SqL K H' a xs
theorem Scr.of {K : PySem.W.Frag} {H : Hp} {a : Addr} {xs : List V} (hO : Only H) (h : SqL K H a xs) : Scr K H a xs := by
  rcases h with (h | h) | h
  · rcases hO a with z | ⟨o, ys, z⟩
    · rw [z] at h; cases h
    · rw [z] at h; cases h
  · exact .inl h
  · exact .inr fun _ => .inr h
theorem Scr.seq {K : PySem.W.Frag} {H : Hp} {a : Addr} {xs : List V} (h : Scr K H a xs) : SqL K H a xs := by
  rcases h with h | h
  · exact .inl (.inr h)
  · exact h H
theorem Scr.ext {K : PySem.W.Frag} {H H' : Hp} {a : Addr} {xs : List V} (s : Ext H H') (h : Scr K H a xs) : Scr K H' a xs := by
  rcases h with ⟨o, h⟩ | h
  · exact .inl ⟨o, s _ _ h (fun _ z => nomatch z)⟩
  · exact .inr h
section
variable {K : PySem.W.Frag} {H : Hp} {Q : VK}
end
end L2

set_option maxRecDepth 100000
set_option maxHeartbeats 4000000
namespace L2
open PySem PySem.Spec PyProof.Rows
section
variable {X : Cx} {pins : List (Addr × Obj)} {σ : St} {H : Hp} {s : Shared} {cl : List (Str × Addr)} {x : Str} {ns : List Str} {ix : List Nat} {sc scope : Scope} {N : List Str} {fp : List Addr}
end
section
variable {X : Cx} {pins : List (Addr × Obj)} {σ : St} {H : Hp} {s : Shared} {cl : List (Str × Addr)} {x : Str} {ns : List Str} {ix : List Nat} {sc scope : Scope} {N : List Str} {fp : List Addr} {elt iter : Expr} {px pos : Pos} {ifs : List Expr} {tc : TT} {te : TE} {wi : TI}
end
section
variable {wi : TI} {ix : List Nat} {tc : TT} {te : TE} {σ : St} {H : Hp} {Q : VK} {K : PySem.W.Frag}
end
section
variable {X : Cx} {K : PySem.W.Frag} {a o : Expr} {ta : TE} {pos : Pos}
end
end L2

set_option maxRecDepth 100000
set_option maxHeartbeats 4000000
namespace L2
open PySem PySem.Spec PyProof.Rows
section
variable {X : Cx} {K : PySem.W.Frag} {σ : St} {H : Hp} {Q : VK} {a : Expr} {ta : TE} {pos : Pos}
/-- a slice -/
def rSlX : V → Option Int → Option Int → Hp → VK → Prop := fun x lo hi H Q => ∃ z, x = .str z ∧ z.length ≤ sizeLine ∧ Q (.str (Txt.slice z lo hi)) H
theorem sl_str : SlR X rSlX := by
  intro pins s σ H x v vl vu lo hi sl Q I rx hs pl pu h
  obtain ⟨z, rfl, hz, q⟩ := h
  obtain ⟨t, rfl⟩ := rx
  refine ⟨"str", _, F.slot_str_getitem.lookup, typeIs_str _ _ _, ?_⟩
  obtain ⟨o, ho, hc, hd⟩ := hs
  have fin : ∀ (l u : Option (Int × Tok)), vl = partValue l → vu = partValue u → l.map (·.1) = lo → u.map (·.1) = hi → wpAny (model X.prog X.w) X.A (getItem (.str z t) (.ref sl)) (EP X pins σ Q) X.xe s := fun l u e1 e2 e3 e4 => by
    subst e1 e2 e3 e4
    exact wpAny_getItem_str_slice (l := l) (u := u) (st := none) ⟨o, ho, hc, hd⟩ rfl
      (post_val_or_str ⟨Nat.le_trans (Txt.slice_le z _ _) hz, fun t' k => ⟨.str _, H, I.tok k, ⟨t', rfl⟩, q⟩⟩)
  have pv : ∀ {v : Value} {o : Option Int}, IsPart v o → ∃ l : Option (Int × Tok), v = partValue l ∧ l.map (·.1) = o := fun {v o} h => by
    cases h <;> first | exact ⟨none, rfl, rfl⟩ | exact ⟨some (_, _), rfl, rfl⟩
  obtain ⟨l, e1, e3⟩ := pv pl
  obtain ⟨u, e2, e4⟩ := pv pu
  exact fin l u e1 e2 e3 e4
/-- slices of lists, tuples, texts -/
def rSlA (K : PySem.W.Frag) : V → Option Int → Option Int → Hp → VK → Prop := fun x lo hi H Q => rSlG K x lo hi H Q ∨ rSlX x lo hi H Q
theorem sl_any : SlR X (rSlA X.K) := SlR.or sl_seq sl_str
end
end L2

set_option maxRecDepth 100000
set_option maxHeartbeats 4000000
namespace L2
open PySem PySem.Spec PyProof.Rows
mutual
def DV (H : Hp) : PyData → V → Prop
  | .none, v => v = .non
  | .bool b, v => v = .bl b
  | .int i, v => v = .int i
  | .str x, v => v = .str x
  | .list ds, v => ∃ p xs, v = .ref p ∧ H p = some (.lst xs) ∧ DVs H ds xs
  | .tuple ds, v => ∃ p xs, v = .ref p ∧ H p = some (.tup xs) ∧ DVs H ds xs
  | .dict _, _ => False
def DVs (H : Hp) : List PyData → List V → Prop
  | [], xs => xs = []
  | d :: ds, xs => ∃ v r, xs = v :: r ∧ DV H d v ∧ DVs H ds r
end
section
variable {X : Cx} {pins : List (Addr × Obj)} {σ : St} {H : Hp} {s : Shared}
mutual
theorem reads_of (I : Inv X pins σ H s) : ∀ (d : PyData) (v : V) (u : Value), DV H d v → RelV v u → ∃ as, Reads s.heap u d as
  | .none, v, u, h, r => by
    rw [DV] at h; subst h; cases r; exact ⟨_, .none⟩
  | .bool b, v, u, h, r => by
    rw [DV] at h; subst h; cases r; exact ⟨_, .bool b⟩
  | .int i, v, u, h, r => by
    rw [DV] at h; subst h; obtain ⟨t, rfl⟩ := r; exact ⟨_, .int i t⟩
  | .str x, v, u, h, r => by
    rw [DV] at h; subst h; obtain ⟨t, rfl⟩ := r; exact ⟨_, .str x t⟩
  | .list ds, v, u, h, r => by
    rw [DV] at h
    obtain ⟨p, xs, rfl, e, hs⟩ := h
    cases r
    obtain ⟨z, its, n, r', e'⟩ := I.hok p _ e
    obtain ⟨as, ra⟩ := reads_all I ds xs its hs r'
    exact ⟨_, .list e' rfl rfl (by simpa using ra)⟩
  | .tuple ds, v, u, h, r => by
    rw [DV] at h
    obtain ⟨p, xs, rfl, e, hs⟩ := h
    cases r
    obtain ⟨z, its, r', o, e', hc, n, hd⟩ := I.hok p _ e
    obtain ⟨as, ra⟩ := reads_all I ds xs its hs r'
    exact ⟨_, .tuple e' hc hd (by simpa using ra)⟩
  | .dict _, v, u, h, r => by rw [DV] at h; exact h.elim
theorem reads_all (I : Inv X pins σ H s) : ∀ (ds : List PyData) (xs : List V) (us : List Value), DVs H ds xs → Vals xs us → ∃ as, ReadsAll s.heap us ds as
  | [], xs, us, h, r => by
    rw [DVs] at h; subst h; cases r; exact ⟨_, .nil⟩
  | d :: ds, xs, us, h, r => by
    rw [DVs] at h
    obtain ⟨v, r0, rfl, h1, h2⟩ := h
    cases r with
    | cons r1 r2 =>
      obtain ⟨a1, q1⟩ := reads_of I d v _ h1 r1
      obtain ⟨a2, q2⟩ := reads_all I ds r0 _ h2 r2
      exact ⟨_, .cons q1 q2⟩
end
def rEqD : R2 := fun x y H Q => ∃ d1 d2, DV H d1 x ∧ DV H d2 y ∧ d1.canLay0 = true ∧ d2.canLay0 = true ∧ d1.depth ≤ 60 ∧ Q (.bl (PyData.eqv d1 d2)) H
theorem op_eqD (hu : X.A.units + 64 < cLine) : OpR X (compareOp .Eq) rEqD := by
  intro pins s σ H x y v u Q I rx ry h
  obtain ⟨d1, d2, h1, h2, c1, c2, hd, q⟩ := h
  obtain ⟨a1, q1⟩ := reads_of I d1 x v h1 rx
  obtain ⟨a2, q2⟩ := reads_of I d2 y u h2 ry
  exact SeqAt.compareEq_reads q1 q2 c1 c2 (Nat.lt_of_le_of_lt (Nat.add_le_add_left (Nat.le_trans (Nat.min_le_left _ _) hd) _) (by omega)) ⟨.bl _, H, I, rfl, q⟩
def rEqA : R2 := fun x y H Q => rEq x y H Q ∨ rEqD x y H Q
theorem op_eqA (hu : X.A.units + 64 < cLine) : OpR X (compareOp .Eq) rEqA := OpR.or op_eq (op_eqD hu)
/-- != of two lists -/
def rNeD : R2 := fun x y H Q => ∃ d1 d2, DV H (.list d1) x ∧ DV H (.list d2) y ∧ PyData.canLayAll0 d1 = true ∧ PyData.canLayAll0 d2 = true ∧ PyData.depthAll d1 ≤ 60 ∧ Q (.bl (!PyData.eqvAll d1 d2)) H
theorem op_neD (hu : X.A.units + 64 < cLine) : OpR X (compareOp .NotEq) rNeD := by
  intro pins s σ H x y v u Q I rx ry h
  obtain ⟨d1, d2, h1, h2, c1, c2, hd, q⟩ := h
  obtain ⟨a1, q1⟩ := reads_of I (.list d1) x v h1 rx
  obtain ⟨a2, q2⟩ := reads_of I (.list d2) y u h2 ry
  cases q1 with
  | @list b1 o vs n _ as1 g1 g2 g3 g4 =>
    cases q2 with
    | @list b2 o' vs' n' _ as2 k1 k2 k3 k4 =>
      have hl : s.heap.IsList _ vs := ⟨_, g1, g2, _, g3⟩
      have hl' : s.heap.IsList _ vs' := ⟨_, k1, k2, _, k3⟩
      have n1 : vs.size = d1.length := by simpa using SeqAt.ReadsAll.length _ _ _ g4
      have n2 : vs'.size = d2.length := by simpa using SeqAt.ReadsAll.length _ _ _ k4
      have fin : EP X pins σ Q (.bool (!PyData.eqvAll d1 d2)) s := ⟨.bl _, H, I, rfl, q⟩
      by_cases hz : vs.size = vs'.size
      · refine SeqAt.RcNeAt.lists hl hl' hz (by omega) (e := SeqAt.pairEq d1 d2) (fun j j1 j2 => ?_) _ _ _ _ ?_
        · have := SeqAt.eqAt_readsAll d1 d2 X.A.in1 s vs.toList vs'.toList _ _ g4 k4 c1 c2 (by
            have : X.A.in1.units = X.A.units + 1 ∨ X.A.in1.units = X.A.units := by first | exact .inl rfl | exact .inr rfl
            have h3 := Nat.min_le_left (PyData.depthAll d1) (PyData.depthAll d2)
            omega) j (by simpa using j1) (by simpa using j2)
          simpa using this
        · have e := SeqAt.eqvAll_eq d1 d2
          rw [← n1, ← n2, ← hz, Nat.min_self, beq_self_eq_true, Bool.and_true] at e
          rw [e]; exact fin
      · refine SeqAt.RcNeAt.lists_lengths hl hl' (by simpa using hz) (by omega) _ _ _ _ ?_
        have e := SeqAt.eqvAll_eq d1 d2
        have hb : (d1.length == d2.length) = false := by
          rw [← n1, ← n2]; simpa using hz
        rw [hb, Bool.and_false] at e
        rw [← e] at fin
        exact fin
/-- != of two tuples -/
def rNeT : R2 := fun x y H Q => ∃ d1 d2, DV H (.tuple d1) x ∧ DV H (.tuple d2) y ∧ PyData.canLayAll0 d1 = true ∧ PyData.canLayAll0 d2 = true ∧ PyData.depthAll d1 ≤ 60 ∧ Q (.bl (!PyData.eqvAll d1 d2)) H
theorem op_neT (hu : X.A.units + 64 < cLine) : OpR X (compareOp .NotEq) rNeT := by
  intro pins s σ H x y v u Q I rx ry h
  obtain ⟨d1, d2, h1, h2, c1, c2, hd, q⟩ := h
  obtain ⟨a1, q1⟩ := reads_of I (.tuple d1) x v h1 rx
  obtain ⟨a2, q2⟩ := reads_of I (.tuple d2) y u h2 ry
  cases q1 with
  | @tuple b1 o vs n _ as1 g1 g2 g3 g4 =>
    cases q2 with
    | @tuple b2 o' vs' n' _ as2 k1 k2 k3 k4 =>
      have hl : s.heap.IsTuple _ vs := ⟨_, g1, g2, _, g3⟩
      have hl' : s.heap.IsTuple _ vs' := ⟨_, k1, k2, _, k3⟩
      have n1 : vs.size = d1.length := by simpa using SeqAt.ReadsAll.length _ _ _ g4
      have n2 : vs'.size = d2.length := by simpa using SeqAt.ReadsAll.length _ _ _ k4
      refine SeqAt.RcNeAt.tuples hl hl' (by omega) (e := SeqAt.pairEq d1 d2) (fun j j1 j2 => ?_) _ _ _ _ ?_
      · have := SeqAt.eqAt_readsAll d1 d2 X.A.in1 s vs.toList vs'.toList _ _ g4 k4 c1 c2 (by
          have : X.A.in1.units = X.A.units + 1 ∨ X.A.in1.units = X.A.units := by first | exact .inl rfl | exact .inr rfl
          have h3 := Nat.min_le_left (PyData.depthAll d1) (PyData.depthAll d2)
          omega) j (by simpa using j1) (by simpa using j2)
        simpa using this
      · rw [n1, n2, SeqAt.eqvAll_eq d1 d2]
        exact ⟨.bl _, H, I, rfl, q⟩
def rNeA : R2 := fun x y H Q => rNe x y H Q ∨ rNeD x y H Q ∨ rNeT x y H Q
theorem op_neA (hu : X.A.units + 64 < cLine) : OpR X (compareOp .NotEq) rNeA := OpR.or op_ne (OpR.or (op_neD hu) (op_neT hu))
end
section
variable {K : PySem.W.Frag} {H : Hp} {Q : VK}
theorem i_eqAI {i j : Int} (h : Q (.bl (decide (i = j))) H) : rEqA (.int i) (.int j) H Q := .inl (i_eqI h)
theorem i_neAI {i j : Int} (h : Q (.bl (!decide (i = j))) H) : rNeA (.int i) (.int j) H Q := .inl (i_neI h)
end
end L2

set_option maxRecDepth 100000
namespace L2
open PySem PySem.Spec PyProof.Rows
section
variable {X : Cx}
end
def CDivG (i j : Int) : Prop := 0 < j ∧ j ≤ 18446744073709551616
theorem op_fdivG {X : Cx} : OpR X (binaryOp .FloorDiv) (rI CDivG fun i j => .int (i / j)) := opI fun i j _ _ _ _ _ hc q => by
  have h1 : (0 : Int) < j := hc.1
  have h2 : j ≤ 18446744073709551616 := hc.2
  refine floordiv_int (by omega) (by rw [Int.fdiv_eq_ediv_of_nonneg i (by omega)]; exact q) (.inl (PyProof.noPylong_of_log2 ?_))
  have h3 : j.natAbs.log2 < 65 := (Nat.log2_lt (by omega)).mpr (by omega)
  omega
section
variable {σ : St} {H : Hp} {Q : VK} {D : Ends} {K : PySem.W.Frag} {g : TG} {tb : TS}
end
end L2

open PySem L2
local macro_rules | `(tactic| walk_at "side") => `(tactic| first | omega | (show (_ : Int) < _; omega) | exact ⟨by omega, by omega⟩ | exact ⟨by omega, by omega, by decide⟩)
local macro_rules | `(tactic| walk_at "rd1") => `(tactic| first
  | (with_reducible first | refine i_seq ?_ | refine i_asg ?_ | refine i_op ?_ | refine i_c ?_ | refine i_cons ?_ | refine i_nil ?_ | refine i_ifs ?_ | refine i_ret ?_ | refine i_fn ?_ | refine i_cb ?_ | refine i_test ?_ | refine i_exb ?_ | refine i_exi ?_ | refine i_truB ?_ | refine i_dy ?_ | refine i_mk ?_ | refine i_fld ?_ | refine i_sfld ?_ | refine i_drop ?_ | refine i_next ?_ | refine i_retN ?_ | refine i_brk ?_ | refine i_cont ?_ | refine i_un ?_ | refine i_and ?_ | refine i_or ?_ | refine i_not ?_ | refine i_andV ?_ | refine i_orV ?_ | refine i_notG ?_ | refine i_if ?_ | refine i_tup ?_ | refine i_lst ?_ | refine i_bm ?_ | refine i_bm0 ?_ | refine i_sl ?_ | refine i_part ?_ | refine i_noPart ?_ | refine i_forR1 ?_ | refine i_forR2 ?_ | refine i_forR3 ?_ | refine i_compR3 ?_ | refine i_listrev ?_ | refine i_forS ?_ | refine i_forE ?_ | refine i_forZ ?_ | refine i_forV ?_ | refine i_bitlen ?_ | refine i_chain ?_ | refine i_truI ?_ | refine i_compR1 ?_ | refine i_compR2 ?_ | refine i_compS ?_ | refine i_noif ?_ | refine i_rI0 ?_ | refine i_addI ?_ | refine i_rU ?_ | refine i_eqAI ?_ | refine i_eqAS ?_ | refine i_eqAB ?_ | refine i_neAI ?_ | refine i_neAS ?_ | refine i_neAB ?_ | refine i_fs ?_ | refine i_gsub ?_ | refine i_jc ?_ | refine i_fmt ?_ | refine i_eqI ?_ | refine i_eqS ?_ | refine i_eqB ?_ | refine i_neI ?_ | refine i_neS ?_ | refine i_neB ?_ | refine i_intI ?_ | refine i_intB ?_ | refine i_max ?_ | refine i_min ?_)
  | ((with_reducible refine i_name ?_); (try dsimp only [List.set_cons_succ, List.set_cons_zero]))
  | ((with_reducible refine' i_var ?hv ?_); (case hv => exact rfl))
  | ((with_reducible refine i_rI ?hc ?_); (case hc => walk_at "side"))
  | ((with_reducible refine' i_lenS ?hc ?_); (case hc => assumption))
  | ((with_reducible refine' i_lenL ?hc ?_); (case hc => assumption))
  | ((with_reducible refine' i_lenT ?hc ?_); (case hc => assumption))
  | ((with_reducible refine' i_isiT ?ht ?he ?_); (case ht => first | exact TyOf.bl _ | exact TyOf.int _ | exact TyOf.str _ | exact TyOf.non | exact TyOf.lst (by assumption) | exact TyOf.tup (by assumption)); (case he => first | exact kit_self _ _ | exact kit_int_bool _ | exact kit_bool_int _ | exact kit_str_bool _ | exact kit_str_int _ | exact kit_list_int _ | exact kit_list_bool _ | exact kit_none_int _ | exact kit_none_list _ | exact kit_none_str _ | exact kit_none_tuple _ | exact kit_list_tuple _ | exact kit_tuple_list _ | exact kit_str_list _ | exact kit_int_str _ | exact kit_int_list _ | exact kit_bool_str _ | exact kit_bool_list _ | exact kit_int_tuple _ | exact kit_str_tuple _ | exact kit_bool_tuple _ | exact kit_tuple_int _ | exact kit_tuple_bool _ | exact kit_tuple_str _ | exact kit_list_str _ | exact kit_none_bool _)))
local macro_rules | `(tactic| walk_at "hp") => `(tactic| first | assumption | solve_by_elim (maxDepth := 16) only [*, ne_of_none])
local macro_rules | `(tactic| walk_at "rd0") => `(tactic| ((try dsimp only [cxOf]); (try simp only [L2.start, List.map_cons, List.map_nil, List.length_cons, List.length_nil, Nat.reduceAdd, Nat.reduceSub, List.replicate_zero, List.append_nil, List.cons_append, List.nil_append, List.replicate_succ]); (repeat walk_at "rd1")))
local macro_rules | `(tactic| walk_at "rd") => `(tactic| repeat walk_at "rd1")

namespace LW
open PySem L2 EM
def top (i : Nat) : Stmt := PySem.Challenge.pw_evernever_k03_crowd_of_a_formula.main.body.getD i (.Pass ⟨0, 0, 0, 0⟩)
abbrev s_all_stands : Stmt := top 2
abbrev s__law_cell_at : Stmt := top 13
abbrev s__law_whole : Stmt := top 14
abbrev s__law_full : Stmt := top 15
abbrev s__law_lamp_crowd : Stmt := top 16
abbrev s__law_leaf : Stmt := top 17
abbrev s__law_leaf_crowd : Stmt := top 18
abbrev s__law_joined : Stmt := top 19
abbrev s__law_joined_crowd : Stmt := top 20
abbrev s__law_counted : Stmt := top 21
abbrev s_law : Stmt := top 22
abbrev s_Lamp_init : Stmt := inClass (top 5) 0
abbrev s_Lamp_holds : Stmt := inClass (top 5) 1
abbrev s_Lamp_crowd : Stmt := inClass (top 5) 2
abbrev s_Sure_init : Stmt := inClass (top 6) 0
abbrev s_Sure_holds : Stmt := inClass (top 6) 1
abbrev s_Sure_crowd : Stmt := inClass (top 6) 2
abbrev s_Not_init : Stmt := inClass (top 7) 0
abbrev s_Not_holds : Stmt := inClass (top 7) 1
abbrev s_Not_crowd : Stmt := inClass (top 7) 2
abbrev s_Joined_init : Stmt := inClass (top 8) 0
abbrev s_And_holds : Stmt := inClass (top 9) 2
abbrev s_And_crowd : Stmt := inClass (top 9) 3
abbrev s_Either_holds : Stmt := inClass (top 10) 2
abbrev s_Either_crowd : Stmt := inClass (top 10) 3
abbrev s_Or_holds : Stmt := inClass (top 11) 2
abbrev s_Or_crowd : Stmt := inClass (top 11) 3
theorem sc_all_stands : FnScope ["many"] ["many"] (defScope s_all_stands) := ⟨rfl, rfl, rfl, by decide +kernel, rfl, by decide +kernel, by decide +kernel⟩
theorem sc__law_cell_at : FnScope ["_law_script", "_law_k"] ["_law_script", "_law_k"] (defScope s__law_cell_at) := ⟨rfl, rfl, rfl, by decide +kernel, rfl, by decide +kernel, by decide +kernel⟩
theorem sc__law_whole : FnScope ["_law_found"] ["_law_found"] (defScope s__law_whole) := ⟨rfl, rfl, rfl, by decide +kernel, rfl, by decide +kernel, by decide +kernel⟩
theorem sc__law_full : FnScope [] [] (defScope s__law_full) := ⟨rfl, rfl, rfl, by decide +kernel, rfl, by decide +kernel, by decide +kernel⟩
theorem sc__law_lamp_crowd : FnScope ["_law_at", "_law_due", "_law_s"] ["_law_at"] (defScope s__law_lamp_crowd) := ⟨rfl, rfl, rfl, by decide +kernel, rfl, by decide +kernel, by decide +kernel⟩
theorem sc__law_leaf : FnScope ["_law_cell", "_law_many", "_law_at"] ["_law_cell", "_law_many"] (defScope s__law_leaf) := ⟨rfl, rfl, rfl, by decide +kernel, rfl, by decide +kernel, by decide +kernel⟩
theorem sc__law_leaf_crowd : FnScope ["_law_cell", "_law_many", "_law_at"] ["_law_cell", "_law_many"] (defScope s__law_leaf_crowd) := ⟨rfl, rfl, rfl, by decide +kernel, rfl, by decide +kernel, by decide +kernel⟩
theorem sc__law_joined : FnScope ["_law_word", "_law_parts", "_law_handed", "_law_made"] ["_law_word", "_law_parts"] (defScope s__law_joined) := ⟨rfl, rfl, rfl, by decide +kernel, rfl, by decide +kernel, by decide +kernel⟩
theorem sc__law_joined_crowd : FnScope ["_law_word", "_law_crowds", "_law_due", "_law_crowd"] ["_law_word", "_law_crowds"] (defScope s__law_joined_crowd) := ⟨rfl, rfl, rfl, by decide +kernel, rfl, by decide +kernel, by decide +kernel⟩
theorem sc__law_counted : FnScope ["_law_formula", "_law_many", "_law_due", "_law_found"] ["_law_formula", "_law_many", "_law_due"] (defScope s__law_counted) := ⟨rfl, rfl, rfl, by decide +kernel, rfl, by decide +kernel, by decide +kernel⟩
theorem sc_law : FnScope ["_law_script", "_law_many", "_law_made", "_law_crowds", "_law_cell", "_law_step", "_law_left", "_law_word"] ["_law_script"] (defScope s_law) := ⟨rfl, rfl, rfl, by decide +kernel, rfl, by decide +kernel, by decide +kernel⟩
theorem sc_Lamp_init : FnScope ["self", "at"] ["self", "at"] (defScope s_Lamp_init) := ⟨rfl, rfl, rfl, by decide +kernel, rfl, by decide +kernel, by decide +kernel⟩
theorem sc_Lamp_holds : FnScope ["self", "stand"] ["self", "stand"] (defScope s_Lamp_holds) := ⟨rfl, rfl, rfl, by decide +kernel, rfl, by decide +kernel, by decide +kernel⟩
theorem sc_Lamp_crowd : FnScope ["self", "many", "found", "stand"] ["self", "many"] (defScope s_Lamp_crowd) := ⟨rfl, rfl, rfl, by decide +kernel, rfl, by decide +kernel, by decide +kernel⟩
theorem sc_Sure_init : FnScope ["self", "truth"] ["self", "truth"] (defScope s_Sure_init) := ⟨rfl, rfl, rfl, by decide +kernel, rfl, by decide +kernel, by decide +kernel⟩
theorem sc_Sure_holds : FnScope ["self", "stand"] ["self", "stand"] (defScope s_Sure_holds) := ⟨rfl, rfl, rfl, by decide +kernel, rfl, by decide +kernel, by decide +kernel⟩
theorem sc_Sure_crowd : FnScope ["self", "many"] ["self", "many"] (defScope s_Sure_crowd) := ⟨rfl, rfl, rfl, by decide +kernel, rfl, by decide +kernel, by decide +kernel⟩
theorem sc_Not_init : FnScope ["self", "part"] ["self", "part"] (defScope s_Not_init) := ⟨rfl, rfl, rfl, by decide +kernel, rfl, by decide +kernel, by decide +kernel⟩
theorem sc_Not_holds : FnScope ["self", "stand"] ["self", "stand"] (defScope s_Not_holds) := ⟨rfl, rfl, rfl, by decide +kernel, rfl, by decide +kernel, by decide +kernel⟩
theorem sc_Not_crowd : FnScope ["self", "many"] ["self", "many"] (defScope s_Not_crowd) := ⟨rfl, rfl, rfl, by decide +kernel, rfl, by decide +kernel, by decide +kernel⟩
theorem sc_Joined_init : FnScope ["self", "parts"] ["self", "parts"] (defScope s_Joined_init) := ⟨rfl, rfl, rfl, by decide +kernel, rfl, by decide +kernel, by decide +kernel⟩
theorem sc_And_holds : FnScope ["self", "stand", "part"] ["self", "stand"] (defScope s_And_holds) := ⟨rfl, rfl, rfl, by decide +kernel, rfl, by decide +kernel, by decide +kernel⟩
theorem sc_And_crowd : FnScope ["self", "many", "found", "part"] ["self", "many"] (defScope s_And_crowd) := ⟨rfl, rfl, rfl, by decide +kernel, rfl, by decide +kernel, by decide +kernel⟩
theorem sc_Either_holds : FnScope ["self", "stand", "odd", "part"] ["self", "stand"] (defScope s_Either_holds) := ⟨rfl, rfl, rfl, by decide +kernel, rfl, by decide +kernel, by decide +kernel⟩
theorem sc_Either_crowd : FnScope ["self", "many", "found", "part"] ["self", "many"] (defScope s_Either_crowd) := ⟨rfl, rfl, rfl, by decide +kernel, rfl, by decide +kernel, by decide +kernel⟩
theorem sc_Or_holds : FnScope ["self", "stand", "part"] ["self", "stand"] (defScope s_Or_holds) := ⟨rfl, rfl, rfl, by decide +kernel, rfl, by decide +kernel, by decide +kernel⟩
theorem sc_Or_crowd : FnScope ["self", "many", "found", "part"] ["self", "many"] (defScope s_Or_crowd) := ⟨rfl, rfl, rfl, by decide +kernel, rfl, by decide +kernel, by decide +kernel⟩
/-- the addresses of what the top has made -/
structure Ad where
  f_all_stands : Addr
  d_all_stands : FuncData
  f__law_cell_at : Addr
  d__law_cell_at : FuncData
  f__law_whole : Addr
  d__law_whole : FuncData
  f__law_full : Addr
  d__law_full : FuncData
  f__law_lamp_crowd : Addr
  d__law_lamp_crowd : FuncData
  f__law_leaf : Addr
  d__law_leaf : FuncData
  f__law_leaf_crowd : Addr
  d__law_leaf_crowd : FuncData
  f__law_joined : Addr
  d__law_joined : FuncData
  f__law_joined_crowd : Addr
  d__law_joined_crowd : FuncData
  f__law_counted : Addr
  d__law_counted : FuncData
  f_law : Addr
  d_law : FuncData
  f_Lamp_init : Addr
  d_Lamp_init : FuncData
  f_Lamp_holds : Addr
  d_Lamp_holds : FuncData
  f_Lamp_crowd : Addr
  d_Lamp_crowd : FuncData
  f_Sure_init : Addr
  d_Sure_init : FuncData
  f_Sure_holds : Addr
  d_Sure_holds : FuncData
  f_Sure_crowd : Addr
  d_Sure_crowd : FuncData
  f_Not_init : Addr
  d_Not_init : FuncData
  f_Not_holds : Addr
  d_Not_holds : FuncData
  f_Not_crowd : Addr
  d_Not_crowd : FuncData
  f_Joined_init : Addr
  d_Joined_init : FuncData
  f_And_holds : Addr
  d_And_holds : FuncData
  f_And_crowd : Addr
  d_And_crowd : FuncData
  f_Either_holds : Addr
  d_Either_holds : FuncData
  f_Either_crowd : Addr
  d_Either_crowd : FuncData
  f_Or_holds : Addr
  d_Or_holds : FuncData
  f_Or_crowd : Addr
  d_Or_crowd : FuncData
  C_Formula : Addr
  C_Lamp : Addr
  C_Sure : Addr
  C_Not : Addr
  C_Joined : Addr
  C_And : Addr
  C_Either : Addr
  C_Or : Addr
/-- what the top has written -/
structure Txt (K : PySem.W.Frag) (mg : Str → Option Value) (t : Ad) : Prop where
  F_all_stands : Fun K "all_stands" "all_stands" s_all_stands t.f_all_stands t.d_all_stands
  b_all_stands : Binds K t.d_all_stands ["many"] []
  m_all_stands : mg "all_stands" = some (.ref t.f_all_stands)
  F__law_cell_at : Fun K "_law_cell_at" "_law_cell_at" s__law_cell_at t.f__law_cell_at t.d__law_cell_at
  b__law_cell_at : Binds K t.d__law_cell_at ["_law_script", "_law_k"] []
  m__law_cell_at : mg "_law_cell_at" = some (.ref t.f__law_cell_at)
  F__law_whole : Fun K "_law_whole" "_law_whole" s__law_whole t.f__law_whole t.d__law_whole
  b__law_whole : Binds K t.d__law_whole ["_law_found"] []
  m__law_whole : mg "_law_whole" = some (.ref t.f__law_whole)
  F__law_full : Fun K "_law_full" "_law_full" s__law_full t.f__law_full t.d__law_full
  b__law_full : Binds K t.d__law_full [] []
  m__law_full : mg "_law_full" = some (.ref t.f__law_full)
  F__law_lamp_crowd : Fun K "_law_lamp_crowd" "_law_lamp_crowd" s__law_lamp_crowd t.f__law_lamp_crowd t.d__law_lamp_crowd
  b__law_lamp_crowd : Binds K t.d__law_lamp_crowd ["_law_at"] []
  m__law_lamp_crowd : mg "_law_lamp_crowd" = some (.ref t.f__law_lamp_crowd)
  F__law_leaf : Fun K "_law_leaf" "_law_leaf" s__law_leaf t.f__law_leaf t.d__law_leaf
  b__law_leaf : Binds K t.d__law_leaf ["_law_cell", "_law_many"] []
  m__law_leaf : mg "_law_leaf" = some (.ref t.f__law_leaf)
  F__law_leaf_crowd : Fun K "_law_leaf_crowd" "_law_leaf_crowd" s__law_leaf_crowd t.f__law_leaf_crowd t.d__law_leaf_crowd
  b__law_leaf_crowd : Binds K t.d__law_leaf_crowd ["_law_cell", "_law_many"] []
  m__law_leaf_crowd : mg "_law_leaf_crowd" = some (.ref t.f__law_leaf_crowd)
  F__law_joined : Fun K "_law_joined" "_law_joined" s__law_joined t.f__law_joined t.d__law_joined
  b__law_joined : Binds K t.d__law_joined ["_law_word", "_law_parts"] []
  m__law_joined : mg "_law_joined" = some (.ref t.f__law_joined)
  F__law_joined_crowd : Fun K "_law_joined_crowd" "_law_joined_crowd" s__law_joined_crowd t.f__law_joined_crowd t.d__law_joined_crowd
  b__law_joined_crowd : Binds K t.d__law_joined_crowd ["_law_word", "_law_crowds"] []
  m__law_joined_crowd : mg "_law_joined_crowd" = some (.ref t.f__law_joined_crowd)
  F__law_counted : Fun K "_law_counted" "_law_counted" s__law_counted t.f__law_counted t.d__law_counted
  b__law_counted : Binds K t.d__law_counted ["_law_formula", "_law_many", "_law_due"] []
  m__law_counted : mg "_law_counted" = some (.ref t.f__law_counted)
  F_law : Fun K "law" "law" s_law t.f_law t.d_law
  b_law : Binds K t.d_law ["_law_script"] []
  m_law : mg "law" = some (.ref t.f_law)
  F_Lamp_init : Fun K "__init__" "Lamp.__init__" s_Lamp_init t.f_Lamp_init t.d_Lamp_init
  b_Lamp_init : Binds K t.d_Lamp_init ["self", "at"] []
  F_Lamp_holds : Fun K "holds" "Lamp.holds" s_Lamp_holds t.f_Lamp_holds t.d_Lamp_holds
  b_Lamp_holds : Binds K t.d_Lamp_holds ["self", "stand"] []
  F_Lamp_crowd : Fun K "crowd" "Lamp.crowd" s_Lamp_crowd t.f_Lamp_crowd t.d_Lamp_crowd
  b_Lamp_crowd : Binds K t.d_Lamp_crowd ["self", "many"] []
  F_Sure_init : Fun K "__init__" "Sure.__init__" s_Sure_init t.f_Sure_init t.d_Sure_init
  b_Sure_init : Binds K t.d_Sure_init ["self", "truth"] []
  F_Sure_holds : Fun K "holds" "Sure.holds" s_Sure_holds t.f_Sure_holds t.d_Sure_holds
  b_Sure_holds : Binds K t.d_Sure_holds ["self", "stand"] []
  F_Sure_crowd : Fun K "crowd" "Sure.crowd" s_Sure_crowd t.f_Sure_crowd t.d_Sure_crowd
  b_Sure_crowd : Binds K t.d_Sure_crowd ["self", "many"] []
  F_Not_init : Fun K "__init__" "Not.__init__" s_Not_init t.f_Not_init t.d_Not_init
  b_Not_init : Binds K t.d_Not_init ["self", "part"] []
  F_Not_holds : Fun K "holds" "Not.holds" s_Not_holds t.f_Not_holds t.d_Not_holds
  b_Not_holds : Binds K t.d_Not_holds ["self", "stand"] []
  F_Not_crowd : Fun K "crowd" "Not.crowd" s_Not_crowd t.f_Not_crowd t.d_Not_crowd
  b_Not_crowd : Binds K t.d_Not_crowd ["self", "many"] []
  F_Joined_init : Fun K "__init__" "Joined.__init__" s_Joined_init t.f_Joined_init t.d_Joined_init
  b_Joined_init : Binds K t.d_Joined_init ["self", "parts"] []
  F_And_holds : Fun K "holds" "And.holds" s_And_holds t.f_And_holds t.d_And_holds
  b_And_holds : Binds K t.d_And_holds ["self", "stand"] []
  F_And_crowd : Fun K "crowd" "And.crowd" s_And_crowd t.f_And_crowd t.d_And_crowd
  b_And_crowd : Binds K t.d_And_crowd ["self", "many"] []
  F_Either_holds : Fun K "holds" "Either.holds" s_Either_holds t.f_Either_holds t.d_Either_holds
  b_Either_holds : Binds K t.d_Either_holds ["self", "stand"] []
  F_Either_crowd : Fun K "crowd" "Either.crowd" s_Either_crowd t.f_Either_crowd t.d_Either_crowd
  b_Either_crowd : Binds K t.d_Either_crowd ["self", "many"] []
  F_Or_holds : Fun K "holds" "Or.holds" s_Or_holds t.f_Or_holds t.d_Or_holds
  b_Or_holds : Binds K t.d_Or_holds ["self", "stand"] []
  F_Or_crowd : Fun K "crowd" "Or.crowd" s_Or_crowd t.f_Or_crowd t.d_Or_crowd
  b_Or_crowd : Binds K t.d_Or_crowd ["self", "many"] []
  m_Formula : mg "Formula" = some (.ref t.C_Formula)
  c_Formula : Cls K t.C_Formula
  y_Formula : ∀ (H : Hp) (a dx : Addr) (fs : List (Str × V)), H a = some (.ins t.C_Formula dx fs) → TyOf K H (.ref a) (.ref t.C_Formula)
  n_Formula_at : NoAttr K t.C_Formula "at"
  n_Formula_truth : NoAttr K t.C_Formula "truth"
  n_Formula_part : NoAttr K t.C_Formula "part"
  n_Formula_parts : NoAttr K t.C_Formula "parts"
  m_Lamp : mg "Lamp" = some (.ref t.C_Lamp)
  c_Lamp : Cls K t.C_Lamp
  y_Lamp : ∀ (H : Hp) (a dx : Addr) (fs : List (Str × V)), H a = some (.ins t.C_Lamp dx fs) → TyOf K H (.ref a) (.ref t.C_Lamp)
  k_Lamp : Mk K t.C_Lamp t.f_Lamp_init
  n_Lamp_at : NoAttr K t.C_Lamp "at"
  n_Lamp_truth : NoAttr K t.C_Lamp "truth"
  n_Lamp_part : NoAttr K t.C_Lamp "part"
  n_Lamp_parts : NoAttr K t.C_Lamp "parts"
  h_Lamp_holds : Meth K t.C_Lamp "holds" t.f_Lamp_holds
  h_Lamp_crowd : Meth K t.C_Lamp "crowd" t.f_Lamp_crowd
  m_Sure : mg "Sure" = some (.ref t.C_Sure)
  c_Sure : Cls K t.C_Sure
  y_Sure : ∀ (H : Hp) (a dx : Addr) (fs : List (Str × V)), H a = some (.ins t.C_Sure dx fs) → TyOf K H (.ref a) (.ref t.C_Sure)
  k_Sure : Mk K t.C_Sure t.f_Sure_init
  n_Sure_at : NoAttr K t.C_Sure "at"
  n_Sure_truth : NoAttr K t.C_Sure "truth"
  n_Sure_part : NoAttr K t.C_Sure "part"
  n_Sure_parts : NoAttr K t.C_Sure "parts"
  h_Sure_holds : Meth K t.C_Sure "holds" t.f_Sure_holds
  h_Sure_crowd : Meth K t.C_Sure "crowd" t.f_Sure_crowd
  m_Not : mg "Not" = some (.ref t.C_Not)
  c_Not : Cls K t.C_Not
  y_Not : ∀ (H : Hp) (a dx : Addr) (fs : List (Str × V)), H a = some (.ins t.C_Not dx fs) → TyOf K H (.ref a) (.ref t.C_Not)
  k_Not : Mk K t.C_Not t.f_Not_init
  n_Not_at : NoAttr K t.C_Not "at"
  n_Not_truth : NoAttr K t.C_Not "truth"
  n_Not_part : NoAttr K t.C_Not "part"
  n_Not_parts : NoAttr K t.C_Not "parts"
  h_Not_holds : Meth K t.C_Not "holds" t.f_Not_holds
  h_Not_crowd : Meth K t.C_Not "crowd" t.f_Not_crowd
  m_Joined : mg "Joined" = some (.ref t.C_Joined)
  c_Joined : Cls K t.C_Joined
  y_Joined : ∀ (H : Hp) (a dx : Addr) (fs : List (Str × V)), H a = some (.ins t.C_Joined dx fs) → TyOf K H (.ref a) (.ref t.C_Joined)
  k_Joined : Mk K t.C_Joined t.f_Joined_init
  n_Joined_at : NoAttr K t.C_Joined "at"
  n_Joined_truth : NoAttr K t.C_Joined "truth"
  n_Joined_part : NoAttr K t.C_Joined "part"
  n_Joined_parts : NoAttr K t.C_Joined "parts"
  m_And : mg "And" = some (.ref t.C_And)
  c_And : Cls K t.C_And
  y_And : ∀ (H : Hp) (a dx : Addr) (fs : List (Str × V)), H a = some (.ins t.C_And dx fs) → TyOf K H (.ref a) (.ref t.C_And)
  k_And : Mk K t.C_And t.f_Joined_init
  n_And_at : NoAttr K t.C_And "at"
  n_And_truth : NoAttr K t.C_And "truth"
  n_And_part : NoAttr K t.C_And "part"
  n_And_parts : NoAttr K t.C_And "parts"
  h_And_holds : Meth K t.C_And "holds" t.f_And_holds
  h_And_crowd : Meth K t.C_And "crowd" t.f_And_crowd
  m_Either : mg "Either" = some (.ref t.C_Either)
  c_Either : Cls K t.C_Either
  y_Either : ∀ (H : Hp) (a dx : Addr) (fs : List (Str × V)), H a = some (.ins t.C_Either dx fs) → TyOf K H (.ref a) (.ref t.C_Either)
  k_Either : Mk K t.C_Either t.f_Joined_init
  n_Either_at : NoAttr K t.C_Either "at"
  n_Either_truth : NoAttr K t.C_Either "truth"
  n_Either_part : NoAttr K t.C_Either "part"
  n_Either_parts : NoAttr K t.C_Either "parts"
  h_Either_holds : Meth K t.C_Either "holds" t.f_Either_holds
  h_Either_crowd : Meth K t.C_Either "crowd" t.f_Either_crowd
  m_Or : mg "Or" = some (.ref t.C_Or)
  c_Or : Cls K t.C_Or
  y_Or : ∀ (H : Hp) (a dx : Addr) (fs : List (Str × V)), H a = some (.ins t.C_Or dx fs) → TyOf K H (.ref a) (.ref t.C_Or)
  k_Or : Mk K t.C_Or t.f_Joined_init
  n_Or_at : NoAttr K t.C_Or "at"
  n_Or_truth : NoAttr K t.C_Or "truth"
  n_Or_part : NoAttr K t.C_Or "part"
  n_Or_parts : NoAttr K t.C_Or "parts"
  h_Or_holds : Meth K t.C_Or "holds" t.f_Or_holds
  h_Or_crowd : Meth K t.C_Or "crowd" t.f_Or_crowd
  x_Formula_Lamp : t.C_Formula ≠ t.C_Lamp
  x_Formula_Sure : t.C_Formula ≠ t.C_Sure
  x_Formula_Not : t.C_Formula ≠ t.C_Not
  x_Formula_Joined : t.C_Formula ≠ t.C_Joined
  x_Formula_And : t.C_Formula ≠ t.C_And
  x_Formula_Either : t.C_Formula ≠ t.C_Either
  x_Formula_Or : t.C_Formula ≠ t.C_Or
  x_Lamp_Sure : t.C_Lamp ≠ t.C_Sure
  x_Lamp_Not : t.C_Lamp ≠ t.C_Not
  x_Lamp_Joined : t.C_Lamp ≠ t.C_Joined
  x_Lamp_And : t.C_Lamp ≠ t.C_And
  x_Lamp_Either : t.C_Lamp ≠ t.C_Either
  x_Lamp_Or : t.C_Lamp ≠ t.C_Or
  x_Sure_Not : t.C_Sure ≠ t.C_Not
  x_Sure_Joined : t.C_Sure ≠ t.C_Joined
  x_Sure_And : t.C_Sure ≠ t.C_And
  x_Sure_Either : t.C_Sure ≠ t.C_Either
  x_Sure_Or : t.C_Sure ≠ t.C_Or
  x_Not_Joined : t.C_Not ≠ t.C_Joined
  x_Not_And : t.C_Not ≠ t.C_And
  x_Not_Either : t.C_Not ≠ t.C_Either
  x_Not_Or : t.C_Not ≠ t.C_Or
  x_Joined_And : t.C_Joined ≠ t.C_And
  x_Joined_Either : t.C_Joined ≠ t.C_Either
  x_Joined_Or : t.C_Joined ≠ t.C_Or
  x_And_Either : t.C_And ≠ t.C_Either
  x_And_Or : t.C_And ≠ t.C_Or
  x_Either_Or : t.C_Either ≠ t.C_Or
  bl : ∀ (s : Shared) (u : Value), BindsTo s t.d_law ⟨[u], []⟩ [("_law_script", u)]
  B : Bt mg
theorem txt_mk {K : PySem.W.Frag} {h : Heap} {mg : Str → Option Value} (X : K.In h) (G : h.Ns mainGlobals mg)
    {f_all_stands : Addr} {od_all_stands an_all_stands : Option Addr} {sl_all_stands : Array (Option Value)} {oc_all_stands kV_all_stands dc_all_stands pm_all_stands cd_all_stands ct_all_stands : Value}
    {f__law_cell_at : Addr} {od__law_cell_at an__law_cell_at : Option Addr} {sl__law_cell_at : Array (Option Value)} {oc__law_cell_at kV__law_cell_at dc__law_cell_at pm__law_cell_at cd__law_cell_at ct__law_cell_at : Value}
    {f__law_whole : Addr} {od__law_whole an__law_whole : Option Addr} {sl__law_whole : Array (Option Value)} {oc__law_whole kV__law_whole dc__law_whole pm__law_whole cd__law_whole ct__law_whole : Value}
    {f__law_full : Addr} {od__law_full an__law_full : Option Addr} {sl__law_full : Array (Option Value)} {oc__law_full kV__law_full dc__law_full pm__law_full cd__law_full ct__law_full : Value}
    {f__law_lamp_crowd : Addr} {od__law_lamp_crowd an__law_lamp_crowd : Option Addr} {sl__law_lamp_crowd : Array (Option Value)} {oc__law_lamp_crowd kV__law_lamp_crowd dc__law_lamp_crowd pm__law_lamp_crowd cd__law_lamp_crowd ct__law_lamp_crowd : Value}
    {f__law_leaf : Addr} {od__law_leaf an__law_leaf : Option Addr} {sl__law_leaf : Array (Option Value)} {oc__law_leaf kV__law_leaf dc__law_leaf pm__law_leaf cd__law_leaf ct__law_leaf : Value}
    {f__law_leaf_crowd : Addr} {od__law_leaf_crowd an__law_leaf_crowd : Option Addr} {sl__law_leaf_crowd : Array (Option Value)} {oc__law_leaf_crowd kV__law_leaf_crowd dc__law_leaf_crowd pm__law_leaf_crowd cd__law_leaf_crowd ct__law_leaf_crowd : Value}
    {f__law_joined : Addr} {od__law_joined an__law_joined : Option Addr} {sl__law_joined : Array (Option Value)} {oc__law_joined kV__law_joined dc__law_joined pm__law_joined cd__law_joined ct__law_joined : Value}
    {f__law_joined_crowd : Addr} {od__law_joined_crowd an__law_joined_crowd : Option Addr} {sl__law_joined_crowd : Array (Option Value)} {oc__law_joined_crowd kV__law_joined_crowd dc__law_joined_crowd pm__law_joined_crowd cd__law_joined_crowd ct__law_joined_crowd : Value}
    {f__law_counted : Addr} {od__law_counted an__law_counted : Option Addr} {sl__law_counted : Array (Option Value)} {oc__law_counted kV__law_counted dc__law_counted pm__law_counted cd__law_counted ct__law_counted : Value}
    {f_law : Addr} {od_law an_law : Option Addr} {sl_law : Array (Option Value)} {oc_law kV_law dc_law pm_law cd_law ct_law : Value}
    {f_Lamp_init : Addr} {od_Lamp_init an_Lamp_init : Option Addr} {sl_Lamp_init : Array (Option Value)} {oc_Lamp_init kV_Lamp_init dc_Lamp_init pm_Lamp_init cd_Lamp_init ct_Lamp_init : Value}
    {f_Lamp_holds : Addr} {od_Lamp_holds an_Lamp_holds : Option Addr} {sl_Lamp_holds : Array (Option Value)} {oc_Lamp_holds kV_Lamp_holds dc_Lamp_holds pm_Lamp_holds cd_Lamp_holds ct_Lamp_holds : Value}
    {f_Lamp_crowd : Addr} {od_Lamp_crowd an_Lamp_crowd : Option Addr} {sl_Lamp_crowd : Array (Option Value)} {oc_Lamp_crowd kV_Lamp_crowd dc_Lamp_crowd pm_Lamp_crowd cd_Lamp_crowd ct_Lamp_crowd : Value}
    {f_Sure_init : Addr} {od_Sure_init an_Sure_init : Option Addr} {sl_Sure_init : Array (Option Value)} {oc_Sure_init kV_Sure_init dc_Sure_init pm_Sure_init cd_Sure_init ct_Sure_init : Value}
    {f_Sure_holds : Addr} {od_Sure_holds an_Sure_holds : Option Addr} {sl_Sure_holds : Array (Option Value)} {oc_Sure_holds kV_Sure_holds dc_Sure_holds pm_Sure_holds cd_Sure_holds ct_Sure_holds : Value}
    {f_Sure_crowd : Addr} {od_Sure_crowd an_Sure_crowd : Option Addr} {sl_Sure_crowd : Array (Option Value)} {oc_Sure_crowd kV_Sure_crowd dc_Sure_crowd pm_Sure_crowd cd_Sure_crowd ct_Sure_crowd : Value}
    {f_Not_init : Addr} {od_Not_init an_Not_init : Option Addr} {sl_Not_init : Array (Option Value)} {oc_Not_init kV_Not_init dc_Not_init pm_Not_init cd_Not_init ct_Not_init : Value}
    {f_Not_holds : Addr} {od_Not_holds an_Not_holds : Option Addr} {sl_Not_holds : Array (Option Value)} {oc_Not_holds kV_Not_holds dc_Not_holds pm_Not_holds cd_Not_holds ct_Not_holds : Value}
    {f_Not_crowd : Addr} {od_Not_crowd an_Not_crowd : Option Addr} {sl_Not_crowd : Array (Option Value)} {oc_Not_crowd kV_Not_crowd dc_Not_crowd pm_Not_crowd cd_Not_crowd ct_Not_crowd : Value}
    {f_Joined_init : Addr} {od_Joined_init an_Joined_init : Option Addr} {sl_Joined_init : Array (Option Value)} {oc_Joined_init kV_Joined_init dc_Joined_init pm_Joined_init cd_Joined_init ct_Joined_init : Value}
    {f_And_holds : Addr} {od_And_holds an_And_holds : Option Addr} {sl_And_holds : Array (Option Value)} {oc_And_holds kV_And_holds dc_And_holds pm_And_holds cd_And_holds ct_And_holds : Value}
    {f_And_crowd : Addr} {od_And_crowd an_And_crowd : Option Addr} {sl_And_crowd : Array (Option Value)} {oc_And_crowd kV_And_crowd dc_And_crowd pm_And_crowd cd_And_crowd ct_And_crowd : Value}
    {f_Either_holds : Addr} {od_Either_holds an_Either_holds : Option Addr} {sl_Either_holds : Array (Option Value)} {oc_Either_holds kV_Either_holds dc_Either_holds pm_Either_holds cd_Either_holds ct_Either_holds : Value}
    {f_Either_crowd : Addr} {od_Either_crowd an_Either_crowd : Option Addr} {sl_Either_crowd : Array (Option Value)} {oc_Either_crowd kV_Either_crowd dc_Either_crowd pm_Either_crowd cd_Either_crowd ct_Either_crowd : Value}
    {f_Or_holds : Addr} {od_Or_holds an_Or_holds : Option Addr} {sl_Or_holds : Array (Option Value)} {oc_Or_holds kV_Or_holds dc_Or_holds pm_Or_holds cd_Or_holds ct_Or_holds : Value}
    {f_Or_crowd : Addr} {od_Or_crowd an_Or_crowd : Option Addr} {sl_Or_crowd : Array (Option Value)} {oc_Or_crowd kV_Or_crowd dc_Or_crowd pm_Or_crowd cd_Or_crowd ct_Or_crowd : Value}
    {C_Formula : Addr}
    {C_Lamp : Addr}
    {C_Sure : Addr}
    {C_Not : Addr}
    {C_Joined : Addr}
    {C_And : Addr}
    {C_Either : Addr}
    {C_Or : Addr}
    (a_all_stands : PySem.W.nsIn K mainGlobals "all_stands" = some (some (.ref f_all_stands)))
    (a__law_cell_at : PySem.W.nsIn K mainGlobals "_law_cell_at" = some (some (.ref f__law_cell_at)))
    (a__law_whole : PySem.W.nsIn K mainGlobals "_law_whole" = some (some (.ref f__law_whole)))
    (a__law_full : PySem.W.nsIn K mainGlobals "_law_full" = some (some (.ref f__law_full)))
    (a__law_lamp_crowd : PySem.W.nsIn K mainGlobals "_law_lamp_crowd" = some (some (.ref f__law_lamp_crowd)))
    (a__law_leaf : PySem.W.nsIn K mainGlobals "_law_leaf" = some (some (.ref f__law_leaf)))
    (a__law_leaf_crowd : PySem.W.nsIn K mainGlobals "_law_leaf_crowd" = some (some (.ref f__law_leaf_crowd)))
    (a__law_joined : PySem.W.nsIn K mainGlobals "_law_joined" = some (some (.ref f__law_joined)))
    (a__law_joined_crowd : PySem.W.nsIn K mainGlobals "_law_joined_crowd" = some (some (.ref f__law_joined_crowd)))
    (a__law_counted : PySem.W.nsIn K mainGlobals "_law_counted" = some (some (.ref f__law_counted)))
    (a_law : PySem.W.nsIn K mainGlobals "law" = some (some (.ref f_law)))
    (a_Formula : PySem.W.nsIn K mainGlobals "Formula" = some (some (.ref C_Formula)))
    (a_Lamp : PySem.W.nsIn K mainGlobals "Lamp" = some (some (.ref C_Lamp)))
    (a_Sure : PySem.W.nsIn K mainGlobals "Sure" = some (some (.ref C_Sure)))
    (a_Not : PySem.W.nsIn K mainGlobals "Not" = some (some (.ref C_Not)))
    (a_Joined : PySem.W.nsIn K mainGlobals "Joined" = some (some (.ref C_Joined)))
    (a_And : PySem.W.nsIn K mainGlobals "And" = some (some (.ref C_And)))
    (a_Either : PySem.W.nsIn K mainGlobals "Either" = some (some (.ref C_Either)))
    (a_Or : PySem.W.nsIn K mainGlobals "Or" = some (some (.ref C_Or)))
    (e_Lamp_init : PySem.W.findIn K (.ref C_Lamp) "__init__" = some (some (.ref f_Lamp_init)))
    (e_Lamp_holds : PySem.W.findIn K (.ref C_Lamp) "holds" = some (some (.ref f_Lamp_holds)))
    (e_Lamp_crowd : PySem.W.findIn K (.ref C_Lamp) "crowd" = some (some (.ref f_Lamp_crowd)))
    (e_Sure_init : PySem.W.findIn K (.ref C_Sure) "__init__" = some (some (.ref f_Sure_init)))
    (e_Sure_holds : PySem.W.findIn K (.ref C_Sure) "holds" = some (some (.ref f_Sure_holds)))
    (e_Sure_crowd : PySem.W.findIn K (.ref C_Sure) "crowd" = some (some (.ref f_Sure_crowd)))
    (e_Not_init : PySem.W.findIn K (.ref C_Not) "__init__" = some (some (.ref f_Not_init)))
    (e_Not_holds : PySem.W.findIn K (.ref C_Not) "holds" = some (some (.ref f_Not_holds)))
    (e_Not_crowd : PySem.W.findIn K (.ref C_Not) "crowd" = some (some (.ref f_Not_crowd)))
    (e_Joined_init : PySem.W.findIn K (.ref C_Joined) "__init__" = some (some (.ref f_Joined_init)))
    (e_And_holds : PySem.W.findIn K (.ref C_And) "holds" = some (some (.ref f_And_holds)))
    (e_And_crowd : PySem.W.findIn K (.ref C_And) "crowd" = some (some (.ref f_And_crowd)))
    (e_And_init : PySem.W.findIn K (.ref C_And) "__init__" = some (some (.ref f_Joined_init)))
    (e_Either_holds : PySem.W.findIn K (.ref C_Either) "holds" = some (some (.ref f_Either_holds)))
    (e_Either_crowd : PySem.W.findIn K (.ref C_Either) "crowd" = some (some (.ref f_Either_crowd)))
    (e_Either_init : PySem.W.findIn K (.ref C_Either) "__init__" = some (some (.ref f_Joined_init)))
    (e_Or_holds : PySem.W.findIn K (.ref C_Or) "holds" = some (some (.ref f_Or_holds)))
    (e_Or_crowd : PySem.W.findIn K (.ref C_Or) "crowd" = some (some (.ref f_Or_crowd)))
    (e_Or_init : PySem.W.findIn K (.ref C_Or) "__init__" = some (some (.ref f_Joined_init)))
    (l_all_stands : K.lookup f_all_stands = some ⟨oc_all_stands, od_all_stands, .func (PySem.W.fnOf "all_stands" "all_stands" (defArgs s_all_stands) (defBody s_all_stands) (defScope s_all_stands) .none kV_all_stands dc_all_stands pm_all_stands an_all_stands cd_all_stands ct_all_stands), sl_all_stands⟩)
    (c_all_stands : PySem.W.codeIn K cd_all_stands "all_stands" = true)
    (k_all_stands : PySem.W.keepIn K (.ref f_all_stands) = true)
    (l__law_cell_at : K.lookup f__law_cell_at = some ⟨oc__law_cell_at, od__law_cell_at, .func (PySem.W.fnOf "_law_cell_at" "_law_cell_at" (defArgs s__law_cell_at) (defBody s__law_cell_at) (defScope s__law_cell_at) .none kV__law_cell_at dc__law_cell_at pm__law_cell_at an__law_cell_at cd__law_cell_at ct__law_cell_at), sl__law_cell_at⟩)
    (c__law_cell_at : PySem.W.codeIn K cd__law_cell_at "_law_cell_at" = true)
    (k__law_cell_at : PySem.W.keepIn K (.ref f__law_cell_at) = true)
    (l__law_whole : K.lookup f__law_whole = some ⟨oc__law_whole, od__law_whole, .func (PySem.W.fnOf "_law_whole" "_law_whole" (defArgs s__law_whole) (defBody s__law_whole) (defScope s__law_whole) .none kV__law_whole dc__law_whole pm__law_whole an__law_whole cd__law_whole ct__law_whole), sl__law_whole⟩)
    (c__law_whole : PySem.W.codeIn K cd__law_whole "_law_whole" = true)
    (k__law_whole : PySem.W.keepIn K (.ref f__law_whole) = true)
    (l__law_full : K.lookup f__law_full = some ⟨oc__law_full, od__law_full, .func (PySem.W.fnOf "_law_full" "_law_full" (defArgs s__law_full) (defBody s__law_full) (defScope s__law_full) .none kV__law_full dc__law_full pm__law_full an__law_full cd__law_full ct__law_full), sl__law_full⟩)
    (c__law_full : PySem.W.codeIn K cd__law_full "_law_full" = true)
    (k__law_full : PySem.W.keepIn K (.ref f__law_full) = true)
    (l__law_lamp_crowd : K.lookup f__law_lamp_crowd = some ⟨oc__law_lamp_crowd, od__law_lamp_crowd, .func (PySem.W.fnOf "_law_lamp_crowd" "_law_lamp_crowd" (defArgs s__law_lamp_crowd) (defBody s__law_lamp_crowd) (defScope s__law_lamp_crowd) .none kV__law_lamp_crowd dc__law_lamp_crowd pm__law_lamp_crowd an__law_lamp_crowd cd__law_lamp_crowd ct__law_lamp_crowd), sl__law_lamp_crowd⟩)
    (c__law_lamp_crowd : PySem.W.codeIn K cd__law_lamp_crowd "_law_lamp_crowd" = true)
    (k__law_lamp_crowd : PySem.W.keepIn K (.ref f__law_lamp_crowd) = true)
    (l__law_leaf : K.lookup f__law_leaf = some ⟨oc__law_leaf, od__law_leaf, .func (PySem.W.fnOf "_law_leaf" "_law_leaf" (defArgs s__law_leaf) (defBody s__law_leaf) (defScope s__law_leaf) .none kV__law_leaf dc__law_leaf pm__law_leaf an__law_leaf cd__law_leaf ct__law_leaf), sl__law_leaf⟩)
    (c__law_leaf : PySem.W.codeIn K cd__law_leaf "_law_leaf" = true)
    (k__law_leaf : PySem.W.keepIn K (.ref f__law_leaf) = true)
    (l__law_leaf_crowd : K.lookup f__law_leaf_crowd = some ⟨oc__law_leaf_crowd, od__law_leaf_crowd, .func (PySem.W.fnOf "_law_leaf_crowd" "_law_leaf_crowd" (defArgs s__law_leaf_crowd) (defBody s__law_leaf_crowd) (defScope s__law_leaf_crowd) .none kV__law_leaf_crowd dc__law_leaf_crowd pm__law_leaf_crowd an__law_leaf_crowd cd__law_leaf_crowd ct__law_leaf_crowd), sl__law_leaf_crowd⟩)
    (c__law_leaf_crowd : PySem.W.codeIn K cd__law_leaf_crowd "_law_leaf_crowd" = true)
    (k__law_leaf_crowd : PySem.W.keepIn K (.ref f__law_leaf_crowd) = true)
    (l__law_joined : K.lookup f__law_joined = some ⟨oc__law_joined, od__law_joined, .func (PySem.W.fnOf "_law_joined" "_law_joined" (defArgs s__law_joined) (defBody s__law_joined) (defScope s__law_joined) .none kV__law_joined dc__law_joined pm__law_joined an__law_joined cd__law_joined ct__law_joined), sl__law_joined⟩)
    (c__law_joined : PySem.W.codeIn K cd__law_joined "_law_joined" = true)
    (k__law_joined : PySem.W.keepIn K (.ref f__law_joined) = true)
    (l__law_joined_crowd : K.lookup f__law_joined_crowd = some ⟨oc__law_joined_crowd, od__law_joined_crowd, .func (PySem.W.fnOf "_law_joined_crowd" "_law_joined_crowd" (defArgs s__law_joined_crowd) (defBody s__law_joined_crowd) (defScope s__law_joined_crowd) .none kV__law_joined_crowd dc__law_joined_crowd pm__law_joined_crowd an__law_joined_crowd cd__law_joined_crowd ct__law_joined_crowd), sl__law_joined_crowd⟩)
    (c__law_joined_crowd : PySem.W.codeIn K cd__law_joined_crowd "_law_joined_crowd" = true)
    (k__law_joined_crowd : PySem.W.keepIn K (.ref f__law_joined_crowd) = true)
    (l__law_counted : K.lookup f__law_counted = some ⟨oc__law_counted, od__law_counted, .func (PySem.W.fnOf "_law_counted" "_law_counted" (defArgs s__law_counted) (defBody s__law_counted) (defScope s__law_counted) .none kV__law_counted dc__law_counted pm__law_counted an__law_counted cd__law_counted ct__law_counted), sl__law_counted⟩)
    (c__law_counted : PySem.W.codeIn K cd__law_counted "_law_counted" = true)
    (k__law_counted : PySem.W.keepIn K (.ref f__law_counted) = true)
    (l_law : K.lookup f_law = some ⟨oc_law, od_law, .func (PySem.W.fnOf "law" "law" (defArgs s_law) (defBody s_law) (defScope s_law) .none kV_law dc_law pm_law an_law cd_law ct_law), sl_law⟩)
    (c_law : PySem.W.codeIn K cd_law "law" = true)
    (k_law : PySem.W.keepIn K (.ref f_law) = true)
    (l_Lamp_init : K.lookup f_Lamp_init = some ⟨oc_Lamp_init, od_Lamp_init, .func (PySem.W.fnOf "__init__" "Lamp.__init__" (defArgs s_Lamp_init) (defBody s_Lamp_init) (defScope s_Lamp_init) .none kV_Lamp_init dc_Lamp_init pm_Lamp_init an_Lamp_init cd_Lamp_init ct_Lamp_init), sl_Lamp_init⟩)
    (c_Lamp_init : PySem.W.codeIn K cd_Lamp_init "Lamp.__init__" = true)
    (k_Lamp_init : PySem.W.keepIn K (.ref f_Lamp_init) = true)
    (i_Lamp_init : PySem.W.isFn K (.ref f_Lamp_init) = true)
    (l_Lamp_holds : K.lookup f_Lamp_holds = some ⟨oc_Lamp_holds, od_Lamp_holds, .func (PySem.W.fnOf "holds" "Lamp.holds" (defArgs s_Lamp_holds) (defBody s_Lamp_holds) (defScope s_Lamp_holds) .none kV_Lamp_holds dc_Lamp_holds pm_Lamp_holds an_Lamp_holds cd_Lamp_holds ct_Lamp_holds), sl_Lamp_holds⟩)
    (c_Lamp_holds : PySem.W.codeIn K cd_Lamp_holds "Lamp.holds" = true)
    (k_Lamp_holds : PySem.W.keepIn K (.ref f_Lamp_holds) = true)
    (i_Lamp_holds : PySem.W.isFn K (.ref f_Lamp_holds) = true)
    (l_Lamp_crowd : K.lookup f_Lamp_crowd = some ⟨oc_Lamp_crowd, od_Lamp_crowd, .func (PySem.W.fnOf "crowd" "Lamp.crowd" (defArgs s_Lamp_crowd) (defBody s_Lamp_crowd) (defScope s_Lamp_crowd) .none kV_Lamp_crowd dc_Lamp_crowd pm_Lamp_crowd an_Lamp_crowd cd_Lamp_crowd ct_Lamp_crowd), sl_Lamp_crowd⟩)
    (c_Lamp_crowd : PySem.W.codeIn K cd_Lamp_crowd "Lamp.crowd" = true)
    (k_Lamp_crowd : PySem.W.keepIn K (.ref f_Lamp_crowd) = true)
    (i_Lamp_crowd : PySem.W.isFn K (.ref f_Lamp_crowd) = true)
    (l_Sure_init : K.lookup f_Sure_init = some ⟨oc_Sure_init, od_Sure_init, .func (PySem.W.fnOf "__init__" "Sure.__init__" (defArgs s_Sure_init) (defBody s_Sure_init) (defScope s_Sure_init) .none kV_Sure_init dc_Sure_init pm_Sure_init an_Sure_init cd_Sure_init ct_Sure_init), sl_Sure_init⟩)
    (c_Sure_init : PySem.W.codeIn K cd_Sure_init "Sure.__init__" = true)
    (k_Sure_init : PySem.W.keepIn K (.ref f_Sure_init) = true)
    (i_Sure_init : PySem.W.isFn K (.ref f_Sure_init) = true)
    (l_Sure_holds : K.lookup f_Sure_holds = some ⟨oc_Sure_holds, od_Sure_holds, .func (PySem.W.fnOf "holds" "Sure.holds" (defArgs s_Sure_holds) (defBody s_Sure_holds) (defScope s_Sure_holds) .none kV_Sure_holds dc_Sure_holds pm_Sure_holds an_Sure_holds cd_Sure_holds ct_Sure_holds), sl_Sure_holds⟩)
    (c_Sure_holds : PySem.W.codeIn K cd_Sure_holds "Sure.holds" = true)
    (k_Sure_holds : PySem.W.keepIn K (.ref f_Sure_holds) = true)
    (i_Sure_holds : PySem.W.isFn K (.ref f_Sure_holds) = true)
    (l_Sure_crowd : K.lookup f_Sure_crowd = some ⟨oc_Sure_crowd, od_Sure_crowd, .func (PySem.W.fnOf "crowd" "Sure.crowd" (defArgs s_Sure_crowd) (defBody s_Sure_crowd) (defScope s_Sure_crowd) .none kV_Sure_crowd dc_Sure_crowd pm_Sure_crowd an_Sure_crowd cd_Sure_crowd ct_Sure_crowd), sl_Sure_crowd⟩)
    (c_Sure_crowd : PySem.W.codeIn K cd_Sure_crowd "Sure.crowd" = true)
    (k_Sure_crowd : PySem.W.keepIn K (.ref f_Sure_crowd) = true)
    (i_Sure_crowd : PySem.W.isFn K (.ref f_Sure_crowd) = true)
    (l_Not_init : K.lookup f_Not_init = some ⟨oc_Not_init, od_Not_init, .func (PySem.W.fnOf "__init__" "Not.__init__" (defArgs s_Not_init) (defBody s_Not_init) (defScope s_Not_init) .none kV_Not_init dc_Not_init pm_Not_init an_Not_init cd_Not_init ct_Not_init), sl_Not_init⟩)
    (c_Not_init : PySem.W.codeIn K cd_Not_init "Not.__init__" = true)
    (k_Not_init : PySem.W.keepIn K (.ref f_Not_init) = true)
    (i_Not_init : PySem.W.isFn K (.ref f_Not_init) = true)
    (l_Not_holds : K.lookup f_Not_holds = some ⟨oc_Not_holds, od_Not_holds, .func (PySem.W.fnOf "holds" "Not.holds" (defArgs s_Not_holds) (defBody s_Not_holds) (defScope s_Not_holds) .none kV_Not_holds dc_Not_holds pm_Not_holds an_Not_holds cd_Not_holds ct_Not_holds), sl_Not_holds⟩)
    (c_Not_holds : PySem.W.codeIn K cd_Not_holds "Not.holds" = true)
    (k_Not_holds : PySem.W.keepIn K (.ref f_Not_holds) = true)
    (i_Not_holds : PySem.W.isFn K (.ref f_Not_holds) = true)
    (l_Not_crowd : K.lookup f_Not_crowd = some ⟨oc_Not_crowd, od_Not_crowd, .func (PySem.W.fnOf "crowd" "Not.crowd" (defArgs s_Not_crowd) (defBody s_Not_crowd) (defScope s_Not_crowd) .none kV_Not_crowd dc_Not_crowd pm_Not_crowd an_Not_crowd cd_Not_crowd ct_Not_crowd), sl_Not_crowd⟩)
    (c_Not_crowd : PySem.W.codeIn K cd_Not_crowd "Not.crowd" = true)
    (k_Not_crowd : PySem.W.keepIn K (.ref f_Not_crowd) = true)
    (i_Not_crowd : PySem.W.isFn K (.ref f_Not_crowd) = true)
    (l_Joined_init : K.lookup f_Joined_init = some ⟨oc_Joined_init, od_Joined_init, .func (PySem.W.fnOf "__init__" "Joined.__init__" (defArgs s_Joined_init) (defBody s_Joined_init) (defScope s_Joined_init) .none kV_Joined_init dc_Joined_init pm_Joined_init an_Joined_init cd_Joined_init ct_Joined_init), sl_Joined_init⟩)
    (c_Joined_init : PySem.W.codeIn K cd_Joined_init "Joined.__init__" = true)
    (k_Joined_init : PySem.W.keepIn K (.ref f_Joined_init) = true)
    (i_Joined_init : PySem.W.isFn K (.ref f_Joined_init) = true)
    (l_And_holds : K.lookup f_And_holds = some ⟨oc_And_holds, od_And_holds, .func (PySem.W.fnOf "holds" "And.holds" (defArgs s_And_holds) (defBody s_And_holds) (defScope s_And_holds) .none kV_And_holds dc_And_holds pm_And_holds an_And_holds cd_And_holds ct_And_holds), sl_And_holds⟩)
    (c_And_holds : PySem.W.codeIn K cd_And_holds "And.holds" = true)
    (k_And_holds : PySem.W.keepIn K (.ref f_And_holds) = true)
    (i_And_holds : PySem.W.isFn K (.ref f_And_holds) = true)
    (l_And_crowd : K.lookup f_And_crowd = some ⟨oc_And_crowd, od_And_crowd, .func (PySem.W.fnOf "crowd" "And.crowd" (defArgs s_And_crowd) (defBody s_And_crowd) (defScope s_And_crowd) .none kV_And_crowd dc_And_crowd pm_And_crowd an_And_crowd cd_And_crowd ct_And_crowd), sl_And_crowd⟩)
    (c_And_crowd : PySem.W.codeIn K cd_And_crowd "And.crowd" = true)
    (k_And_crowd : PySem.W.keepIn K (.ref f_And_crowd) = true)
    (i_And_crowd : PySem.W.isFn K (.ref f_And_crowd) = true)
    (l_Either_holds : K.lookup f_Either_holds = some ⟨oc_Either_holds, od_Either_holds, .func (PySem.W.fnOf "holds" "Either.holds" (defArgs s_Either_holds) (defBody s_Either_holds) (defScope s_Either_holds) .none kV_Either_holds dc_Either_holds pm_Either_holds an_Either_holds cd_Either_holds ct_Either_holds), sl_Either_holds⟩)
    (c_Either_holds : PySem.W.codeIn K cd_Either_holds "Either.holds" = true)
    (k_Either_holds : PySem.W.keepIn K (.ref f_Either_holds) = true)
    (i_Either_holds : PySem.W.isFn K (.ref f_Either_holds) = true)
    (l_Either_crowd : K.lookup f_Either_crowd = some ⟨oc_Either_crowd, od_Either_crowd, .func (PySem.W.fnOf "crowd" "Either.crowd" (defArgs s_Either_crowd) (defBody s_Either_crowd) (defScope s_Either_crowd) .none kV_Either_crowd dc_Either_crowd pm_Either_crowd an_Either_crowd cd_Either_crowd ct_Either_crowd), sl_Either_crowd⟩)
    (c_Either_crowd : PySem.W.codeIn K cd_Either_crowd "Either.crowd" = true)
    (k_Either_crowd : PySem.W.keepIn K (.ref f_Either_crowd) = true)
    (i_Either_crowd : PySem.W.isFn K (.ref f_Either_crowd) = true)
    (l_Or_holds : K.lookup f_Or_holds = some ⟨oc_Or_holds, od_Or_holds, .func (PySem.W.fnOf "holds" "Or.holds" (defArgs s_Or_holds) (defBody s_Or_holds) (defScope s_Or_holds) .none kV_Or_holds dc_Or_holds pm_Or_holds an_Or_holds cd_Or_holds ct_Or_holds), sl_Or_holds⟩)
    (c_Or_holds : PySem.W.codeIn K cd_Or_holds "Or.holds" = true)
    (k_Or_holds : PySem.W.keepIn K (.ref f_Or_holds) = true)
    (i_Or_holds : PySem.W.isFn K (.ref f_Or_holds) = true)
    (l_Or_crowd : K.lookup f_Or_crowd = some ⟨oc_Or_crowd, od_Or_crowd, .func (PySem.W.fnOf "crowd" "Or.crowd" (defArgs s_Or_crowd) (defBody s_Or_crowd) (defScope s_Or_crowd) .none kV_Or_crowd dc_Or_crowd pm_Or_crowd an_Or_crowd cd_Or_crowd ct_Or_crowd), sl_Or_crowd⟩)
    (c_Or_crowd : PySem.W.codeIn K cd_Or_crowd "Or.crowd" = true)
    (k_Or_crowd : PySem.W.keepIn K (.ref f_Or_crowd) = true)
    (i_Or_crowd : PySem.W.isFn K (.ref f_Or_crowd) = true)
    (pg_Formula : PySem.W.plainGet K C_Formula Str.empty = true)
    (hd_Formula : PySem.W.hasDictIn K C_Formula = true)
    (po_Formula : PySem.W.plainOver K C_Formula = true)
    (sa_Formula : PySem.W.findIn K (.ref C_Formula) "__setattr__" = some (some (.builtin "object.__setattr__")))
    (kc_Formula : PySem.W.keepIn K (.ref C_Formula) = true)
    (ha_Formula : PySem.W.findIn K (.ref C_Formula) "__class__" = some (some (.builtin "object.__class__")))
    (hm_Formula : PySem.W.mroIn K C_Formula (.type "object") = some true)
    (n_Formula_at : PySem.W.findIn K (.ref C_Formula) "at" = some none)
    (n_Formula_truth : PySem.W.findIn K (.ref C_Formula) "truth" = some none)
    (n_Formula_part : PySem.W.findIn K (.ref C_Formula) "part" = some none)
    (n_Formula_parts : PySem.W.findIn K (.ref C_Formula) "parts" = some none)
    (pg_Lamp : PySem.W.plainGet K C_Lamp Str.empty = true)
    (hd_Lamp : PySem.W.hasDictIn K C_Lamp = true)
    (po_Lamp : PySem.W.plainOver K C_Lamp = true)
    (sa_Lamp : PySem.W.findIn K (.ref C_Lamp) "__setattr__" = some (some (.builtin "object.__setattr__")))
    (kc_Lamp : PySem.W.keepIn K (.ref C_Lamp) = true)
    (ha_Lamp : PySem.W.findIn K (.ref C_Lamp) "__class__" = some (some (.builtin "object.__class__")))
    (hm_Lamp : PySem.W.mroIn K C_Lamp (.type "object") = some true)
    (mk_Lamp : PySem.W.makesIn K C_Lamp = true)
    (n_Lamp_at : PySem.W.findIn K (.ref C_Lamp) "at" = some none)
    (n_Lamp_truth : PySem.W.findIn K (.ref C_Lamp) "truth" = some none)
    (n_Lamp_part : PySem.W.findIn K (.ref C_Lamp) "part" = some none)
    (n_Lamp_parts : PySem.W.findIn K (.ref C_Lamp) "parts" = some none)
    (pg_Sure : PySem.W.plainGet K C_Sure Str.empty = true)
    (hd_Sure : PySem.W.hasDictIn K C_Sure = true)
    (po_Sure : PySem.W.plainOver K C_Sure = true)
    (sa_Sure : PySem.W.findIn K (.ref C_Sure) "__setattr__" = some (some (.builtin "object.__setattr__")))
    (kc_Sure : PySem.W.keepIn K (.ref C_Sure) = true)
    (ha_Sure : PySem.W.findIn K (.ref C_Sure) "__class__" = some (some (.builtin "object.__class__")))
    (hm_Sure : PySem.W.mroIn K C_Sure (.type "object") = some true)
    (mk_Sure : PySem.W.makesIn K C_Sure = true)
    (n_Sure_at : PySem.W.findIn K (.ref C_Sure) "at" = some none)
    (n_Sure_truth : PySem.W.findIn K (.ref C_Sure) "truth" = some none)
    (n_Sure_part : PySem.W.findIn K (.ref C_Sure) "part" = some none)
    (n_Sure_parts : PySem.W.findIn K (.ref C_Sure) "parts" = some none)
    (pg_Not : PySem.W.plainGet K C_Not Str.empty = true)
    (hd_Not : PySem.W.hasDictIn K C_Not = true)
    (po_Not : PySem.W.plainOver K C_Not = true)
    (sa_Not : PySem.W.findIn K (.ref C_Not) "__setattr__" = some (some (.builtin "object.__setattr__")))
    (kc_Not : PySem.W.keepIn K (.ref C_Not) = true)
    (ha_Not : PySem.W.findIn K (.ref C_Not) "__class__" = some (some (.builtin "object.__class__")))
    (hm_Not : PySem.W.mroIn K C_Not (.type "object") = some true)
    (mk_Not : PySem.W.makesIn K C_Not = true)
    (n_Not_at : PySem.W.findIn K (.ref C_Not) "at" = some none)
    (n_Not_truth : PySem.W.findIn K (.ref C_Not) "truth" = some none)
    (n_Not_part : PySem.W.findIn K (.ref C_Not) "part" = some none)
    (n_Not_parts : PySem.W.findIn K (.ref C_Not) "parts" = some none)
    (pg_Joined : PySem.W.plainGet K C_Joined Str.empty = true)
    (hd_Joined : PySem.W.hasDictIn K C_Joined = true)
    (po_Joined : PySem.W.plainOver K C_Joined = true)
    (sa_Joined : PySem.W.findIn K (.ref C_Joined) "__setattr__" = some (some (.builtin "object.__setattr__")))
    (kc_Joined : PySem.W.keepIn K (.ref C_Joined) = true)
    (ha_Joined : PySem.W.findIn K (.ref C_Joined) "__class__" = some (some (.builtin "object.__class__")))
    (hm_Joined : PySem.W.mroIn K C_Joined (.type "object") = some true)
    (mk_Joined : PySem.W.makesIn K C_Joined = true)
    (n_Joined_at : PySem.W.findIn K (.ref C_Joined) "at" = some none)
    (n_Joined_truth : PySem.W.findIn K (.ref C_Joined) "truth" = some none)
    (n_Joined_part : PySem.W.findIn K (.ref C_Joined) "part" = some none)
    (n_Joined_parts : PySem.W.findIn K (.ref C_Joined) "parts" = some none)
    (pg_And : PySem.W.plainGet K C_And Str.empty = true)
    (hd_And : PySem.W.hasDictIn K C_And = true)
    (po_And : PySem.W.plainOver K C_And = true)
    (sa_And : PySem.W.findIn K (.ref C_And) "__setattr__" = some (some (.builtin "object.__setattr__")))
    (kc_And : PySem.W.keepIn K (.ref C_And) = true)
    (ha_And : PySem.W.findIn K (.ref C_And) "__class__" = some (some (.builtin "object.__class__")))
    (hm_And : PySem.W.mroIn K C_And (.type "object") = some true)
    (mk_And : PySem.W.makesIn K C_And = true)
    (n_And_at : PySem.W.findIn K (.ref C_And) "at" = some none)
    (n_And_truth : PySem.W.findIn K (.ref C_And) "truth" = some none)
    (n_And_part : PySem.W.findIn K (.ref C_And) "part" = some none)
    (n_And_parts : PySem.W.findIn K (.ref C_And) "parts" = some none)
    (pg_Either : PySem.W.plainGet K C_Either Str.empty = true)
    (hd_Either : PySem.W.hasDictIn K C_Either = true)
    (po_Either : PySem.W.plainOver K C_Either = true)
    (sa_Either : PySem.W.findIn K (.ref C_Either) "__setattr__" = some (some (.builtin "object.__setattr__")))
    (kc_Either : PySem.W.keepIn K (.ref C_Either) = true)
    (ha_Either : PySem.W.findIn K (.ref C_Either) "__class__" = some (some (.builtin "object.__class__")))
    (hm_Either : PySem.W.mroIn K C_Either (.type "object") = some true)
    (mk_Either : PySem.W.makesIn K C_Either = true)
    (n_Either_at : PySem.W.findIn K (.ref C_Either) "at" = some none)
    (n_Either_truth : PySem.W.findIn K (.ref C_Either) "truth" = some none)
    (n_Either_part : PySem.W.findIn K (.ref C_Either) "part" = some none)
    (n_Either_parts : PySem.W.findIn K (.ref C_Either) "parts" = some none)
    (pg_Or : PySem.W.plainGet K C_Or Str.empty = true)
    (hd_Or : PySem.W.hasDictIn K C_Or = true)
    (po_Or : PySem.W.plainOver K C_Or = true)
    (sa_Or : PySem.W.findIn K (.ref C_Or) "__setattr__" = some (some (.builtin "object.__setattr__")))
    (kc_Or : PySem.W.keepIn K (.ref C_Or) = true)
    (ha_Or : PySem.W.findIn K (.ref C_Or) "__class__" = some (some (.builtin "object.__class__")))
    (hm_Or : PySem.W.mroIn K C_Or (.type "object") = some true)
    (mk_Or : PySem.W.makesIn K C_Or = true)
    (n_Or_at : PySem.W.findIn K (.ref C_Or) "at" = some none)
    (n_Or_truth : PySem.W.findIn K (.ref C_Or) "truth" = some none)
    (n_Or_part : PySem.W.findIn K (.ref C_Or) "part" = some none)
    (n_Or_parts : PySem.W.findIn K (.ref C_Or) "parts" = some none)
    (nd_ : [C_Formula, C_Lamp, C_Sure, C_Not, C_Joined, C_And, C_Either, C_Or].Nodup)
    (hn_ : PySem.W.specialIn K (.builtin "object.__class__") "__get__" = some (some (.builtin "getset_descriptor.__get__")))
    (htk_ : PySem.W.takesIn K (.builtin "object.__class__") = some true)
    (b_len : PySem.W.nsIn K mainGlobals "len" = some none)
    (b_range : PySem.W.nsIn K mainGlobals "range" = some none)
    (b_isinstance : PySem.W.nsIn K mainGlobals "isinstance" = some none)
    (b_int : PySem.W.nsIn K mainGlobals "int" = some none)
    (b_bool : PySem.W.nsIn K mainGlobals "bool" = some none)
    (b_str : PySem.W.nsIn K mainGlobals "str" = some none)
    (b_list : PySem.W.nsIn K mainGlobals "list" = some none)
    (b_tuple : PySem.W.nsIn K mainGlobals "tuple" = some none)
    (b_dict : PySem.W.nsIn K mainGlobals "dict" = some none)
    (b_set : PySem.W.nsIn K mainGlobals "set" = some none)
    (b_sorted : PySem.W.nsIn K mainGlobals "sorted" = some none)
    (b_max : PySem.W.nsIn K mainGlobals "max" = some none)
    (b_min : PySem.W.nsIn K mainGlobals "min" = some none)
    (b_sum : PySem.W.nsIn K mainGlobals "sum" = some none)
    (b_any : PySem.W.nsIn K mainGlobals "any" = some none)
    (b_all : PySem.W.nsIn K mainGlobals "all" = some none)
    (b_abs : PySem.W.nsIn K mainGlobals "abs" = some none)
    (b_reversed : PySem.W.nsIn K mainGlobals "reversed" = some none)
    (b_enumerate : PySem.W.nsIn K mainGlobals "enumerate" = some none)
    (b_zip : PySem.W.nsIn K mainGlobals "zip" = some none)
    : ∃ t : Ad, Txt K mg t := by
  refine ⟨⟨f_all_stands, PySem.W.fnOf "all_stands" "all_stands" (defArgs s_all_stands) (defBody s_all_stands) (defScope s_all_stands) .none kV_all_stands dc_all_stands pm_all_stands an_all_stands cd_all_stands ct_all_stands, f__law_cell_at, PySem.W.fnOf "_law_cell_at" "_law_cell_at" (defArgs s__law_cell_at) (defBody s__law_cell_at) (defScope s__law_cell_at) .none kV__law_cell_at dc__law_cell_at pm__law_cell_at an__law_cell_at cd__law_cell_at ct__law_cell_at, f__law_whole, PySem.W.fnOf "_law_whole" "_law_whole" (defArgs s__law_whole) (defBody s__law_whole) (defScope s__law_whole) .none kV__law_whole dc__law_whole pm__law_whole an__law_whole cd__law_whole ct__law_whole, f__law_full, PySem.W.fnOf "_law_full" "_law_full" (defArgs s__law_full) (defBody s__law_full) (defScope s__law_full) .none kV__law_full dc__law_full pm__law_full an__law_full cd__law_full ct__law_full, f__law_lamp_crowd, PySem.W.fnOf "_law_lamp_crowd" "_law_lamp_crowd" (defArgs s__law_lamp_crowd) (defBody s__law_lamp_crowd) (defScope s__law_lamp_crowd) .none kV__law_lamp_crowd dc__law_lamp_crowd pm__law_lamp_crowd an__law_lamp_crowd cd__law_lamp_crowd ct__law_lamp_crowd, f__law_leaf, PySem.W.fnOf "_law_leaf" "_law_leaf" (defArgs s__law_leaf) (defBody s__law_leaf) (defScope s__law_leaf) .none kV__law_leaf dc__law_leaf pm__law_leaf an__law_leaf cd__law_leaf ct__law_leaf, f__law_leaf_crowd, PySem.W.fnOf "_law_leaf_crowd" "_law_leaf_crowd" (defArgs s__law_leaf_crowd) (defBody s__law_leaf_crowd) (defScope s__law_leaf_crowd) .none kV__law_leaf_crowd dc__law_leaf_crowd pm__law_leaf_crowd an__law_leaf_crowd cd__law_leaf_crowd ct__law_leaf_crowd, f__law_joined, PySem.W.fnOf "_law_joined" "_law_joined" (defArgs s__law_joined) (defBody s__law_joined) (defScope s__law_joined) .none kV__law_joined dc__law_joined pm__law_joined an__law_joined cd__law_joined ct__law_joined, f__law_joined_crowd, PySem.W.fnOf "_law_joined_crowd" "_law_joined_crowd" (defArgs s__law_joined_crowd) (defBody s__law_joined_crowd) (defScope s__law_joined_crowd) .none kV__law_joined_crowd dc__law_joined_crowd pm__law_joined_crowd an__law_joined_crowd cd__law_joined_crowd ct__law_joined_crowd, f__law_counted, PySem.W.fnOf "_law_counted" "_law_counted" (defArgs s__law_counted) (defBody s__law_counted) (defScope s__law_counted) .none kV__law_counted dc__law_counted pm__law_counted an__law_counted cd__law_counted ct__law_counted, f_law, PySem.W.fnOf "law" "law" (defArgs s_law) (defBody s_law) (defScope s_law) .none kV_law dc_law pm_law an_law cd_law ct_law, f_Lamp_init, PySem.W.fnOf "__init__" "Lamp.__init__" (defArgs s_Lamp_init) (defBody s_Lamp_init) (defScope s_Lamp_init) .none kV_Lamp_init dc_Lamp_init pm_Lamp_init an_Lamp_init cd_Lamp_init ct_Lamp_init, f_Lamp_holds, PySem.W.fnOf "holds" "Lamp.holds" (defArgs s_Lamp_holds) (defBody s_Lamp_holds) (defScope s_Lamp_holds) .none kV_Lamp_holds dc_Lamp_holds pm_Lamp_holds an_Lamp_holds cd_Lamp_holds ct_Lamp_holds, f_Lamp_crowd, PySem.W.fnOf "crowd" "Lamp.crowd" (defArgs s_Lamp_crowd) (defBody s_Lamp_crowd) (defScope s_Lamp_crowd) .none kV_Lamp_crowd dc_Lamp_crowd pm_Lamp_crowd an_Lamp_crowd cd_Lamp_crowd ct_Lamp_crowd, f_Sure_init, PySem.W.fnOf "__init__" "Sure.__init__" (defArgs s_Sure_init) (defBody s_Sure_init) (defScope s_Sure_init) .none kV_Sure_init dc_Sure_init pm_Sure_init an_Sure_init cd_Sure_init ct_Sure_init, f_Sure_holds, PySem.W.fnOf "holds" "Sure.holds" (defArgs s_Sure_holds) (defBody s_Sure_holds) (defScope s_Sure_holds) .none kV_Sure_holds dc_Sure_holds pm_Sure_holds an_Sure_holds cd_Sure_holds ct_Sure_holds, f_Sure_crowd, PySem.W.fnOf "crowd" "Sure.crowd" (defArgs s_Sure_crowd) (defBody s_Sure_crowd) (defScope s_Sure_crowd) .none kV_Sure_crowd dc_Sure_crowd pm_Sure_crowd an_Sure_crowd cd_Sure_crowd ct_Sure_crowd, f_Not_init, PySem.W.fnOf "__init__" "Not.__init__" (defArgs s_Not_init) (defBody s_Not_init) (defScope s_Not_init) .none kV_Not_init dc_Not_init pm_Not_init an_Not_init cd_Not_init ct_Not_init, f_Not_holds, PySem.W.fnOf "holds" "Not.holds" (defArgs s_Not_holds) (defBody s_Not_holds) (defScope s_Not_holds) .none kV_Not_holds dc_Not_holds pm_Not_holds an_Not_holds cd_Not_holds ct_Not_holds, f_Not_crowd, PySem.W.fnOf "crowd" "Not.crowd" (defArgs s_Not_crowd) (defBody s_Not_crowd) (defScope s_Not_crowd) .none kV_Not_crowd dc_Not_crowd pm_Not_crowd an_Not_crowd cd_Not_crowd ct_Not_crowd, f_Joined_init, PySem.W.fnOf "__init__" "Joined.__init__" (defArgs s_Joined_init) (defBody s_Joined_init) (defScope s_Joined_init) .none kV_Joined_init dc_Joined_init pm_Joined_init an_Joined_init cd_Joined_init ct_Joined_init, f_And_holds, PySem.W.fnOf "holds" "And.holds" (defArgs s_And_holds) (defBody s_And_holds) (defScope s_And_holds) .none kV_And_holds dc_And_holds pm_And_holds an_And_holds cd_And_holds ct_And_holds, f_And_crowd, PySem.W.fnOf "crowd" "And.crowd" (defArgs s_And_crowd) (defBody s_And_crowd) (defScope s_And_crowd) .none kV_And_crowd dc_And_crowd pm_And_crowd an_And_crowd cd_And_crowd ct_And_crowd, f_Either_holds, PySem.W.fnOf "holds" "Either.holds" (defArgs s_Either_holds) (defBody s_Either_holds) (defScope s_Either_holds) .none kV_Either_holds dc_Either_holds pm_Either_holds an_Either_holds cd_Either_holds ct_Either_holds, f_Either_crowd, PySem.W.fnOf "crowd" "Either.crowd" (defArgs s_Either_crowd) (defBody s_Either_crowd) (defScope s_Either_crowd) .none kV_Either_crowd dc_Either_crowd pm_Either_crowd an_Either_crowd cd_Either_crowd ct_Either_crowd, f_Or_holds, PySem.W.fnOf "holds" "Or.holds" (defArgs s_Or_holds) (defBody s_Or_holds) (defScope s_Or_holds) .none kV_Or_holds dc_Or_holds pm_Or_holds an_Or_holds cd_Or_holds ct_Or_holds, f_Or_crowd, PySem.W.fnOf "crowd" "Or.crowd" (defArgs s_Or_crowd) (defBody s_Or_crowd) (defScope s_Or_crowd) .none kV_Or_crowd dc_Or_crowd pm_Or_crowd an_Or_crowd cd_Or_crowd ct_Or_crowd, C_Formula, C_Lamp, C_Sure, C_Not, C_Joined, C_And, C_Either, C_Or⟩, ?_⟩
  exact {
    F_all_stands := fun_mk (st := s_all_stands) l_all_stands c_all_stands k_all_stands,
    b_all_stands := (fun_mk (st := s_all_stands) l_all_stands c_all_stands k_all_stands).binds (ps := ["many"]) fun _ _ _ _ _ _ us hl => match us, hl with | [_], _ => rfl,
    m_all_stands := PySem.W.mg_of X G a_all_stands,
    F__law_cell_at := fun_mk (st := s__law_cell_at) l__law_cell_at c__law_cell_at k__law_cell_at,
    b__law_cell_at := (fun_mk (st := s__law_cell_at) l__law_cell_at c__law_cell_at k__law_cell_at).binds (ps := ["_law_script", "_law_k"]) fun _ _ _ _ _ _ us hl => match us, hl with | [_, _], _ => rfl,
    m__law_cell_at := PySem.W.mg_of X G a__law_cell_at,
    F__law_whole := fun_mk (st := s__law_whole) l__law_whole c__law_whole k__law_whole,
    b__law_whole := (fun_mk (st := s__law_whole) l__law_whole c__law_whole k__law_whole).binds (ps := ["_law_found"]) fun _ _ _ _ _ _ us hl => match us, hl with | [_], _ => rfl,
    m__law_whole := PySem.W.mg_of X G a__law_whole,
    F__law_full := fun_mk (st := s__law_full) l__law_full c__law_full k__law_full,
    b__law_full := (fun_mk (st := s__law_full) l__law_full c__law_full k__law_full).binds (ps := []) fun _ _ _ _ _ _ us hl => match us, hl with | [], _ => rfl,
    m__law_full := PySem.W.mg_of X G a__law_full,
    F__law_lamp_crowd := fun_mk (st := s__law_lamp_crowd) l__law_lamp_crowd c__law_lamp_crowd k__law_lamp_crowd,
    b__law_lamp_crowd := (fun_mk (st := s__law_lamp_crowd) l__law_lamp_crowd c__law_lamp_crowd k__law_lamp_crowd).binds (ps := ["_law_at"]) fun _ _ _ _ _ _ us hl => match us, hl with | [_], _ => rfl,
    m__law_lamp_crowd := PySem.W.mg_of X G a__law_lamp_crowd,
    F__law_leaf := fun_mk (st := s__law_leaf) l__law_leaf c__law_leaf k__law_leaf,
    b__law_leaf := (fun_mk (st := s__law_leaf) l__law_leaf c__law_leaf k__law_leaf).binds (ps := ["_law_cell", "_law_many"]) fun _ _ _ _ _ _ us hl => match us, hl with | [_, _], _ => rfl,
    m__law_leaf := PySem.W.mg_of X G a__law_leaf,
    F__law_leaf_crowd := fun_mk (st := s__law_leaf_crowd) l__law_leaf_crowd c__law_leaf_crowd k__law_leaf_crowd,
    b__law_leaf_crowd := (fun_mk (st := s__law_leaf_crowd) l__law_leaf_crowd c__law_leaf_crowd k__law_leaf_crowd).binds (ps := ["_law_cell", "_law_many"]) fun _ _ _ _ _ _ us hl => match us, hl with | [_, _], _ => rfl,
    m__law_leaf_crowd := PySem.W.mg_of X G a__law_leaf_crowd,
    F__law_joined := fun_mk (st := s__law_joined) l__law_joined c__law_joined k__law_joined,
    b__law_joined := (fun_mk (st := s__law_joined) l__law_joined c__law_joined k__law_joined).binds (ps := ["_law_word", "_law_parts"]) fun _ _ _ _ _ _ us hl => match us, hl with | [_, _], _ => rfl,
    m__law_joined := PySem.W.mg_of X G a__law_joined,
    F__law_joined_crowd := fun_mk (st := s__law_joined_crowd) l__law_joined_crowd c__law_joined_crowd k__law_joined_crowd,
    b__law_joined_crowd := (fun_mk (st := s__law_joined_crowd) l__law_joined_crowd c__law_joined_crowd k__law_joined_crowd).binds (ps := ["_law_word", "_law_crowds"]) fun _ _ _ _ _ _ us hl => match us, hl with | [_, _], _ => rfl,
    m__law_joined_crowd := PySem.W.mg_of X G a__law_joined_crowd,
    F__law_counted := fun_mk (st := s__law_counted) l__law_counted c__law_counted k__law_counted,
    b__law_counted := (fun_mk (st := s__law_counted) l__law_counted c__law_counted k__law_counted).binds (ps := ["_law_formula", "_law_many", "_law_due"]) fun _ _ _ _ _ _ us hl => match us, hl with | [_, _, _], _ => rfl,
    m__law_counted := PySem.W.mg_of X G a__law_counted,
    F_law := fun_mk (st := s_law) l_law c_law k_law,
    b_law := (fun_mk (st := s_law) l_law c_law k_law).binds (ps := ["_law_script"]) fun _ _ _ _ _ _ us hl => match us, hl with | [_], _ => rfl,
    m_law := PySem.W.mg_of X G a_law,
    F_Lamp_init := fun_mk (st := s_Lamp_init) l_Lamp_init c_Lamp_init k_Lamp_init,
    b_Lamp_init := (fun_mk (st := s_Lamp_init) l_Lamp_init c_Lamp_init k_Lamp_init).binds (ps := ["self", "at"]) fun _ _ _ _ _ _ us hl => match us, hl with | [_, _], _ => rfl,
    F_Lamp_holds := fun_mk (st := s_Lamp_holds) l_Lamp_holds c_Lamp_holds k_Lamp_holds,
    b_Lamp_holds := (fun_mk (st := s_Lamp_holds) l_Lamp_holds c_Lamp_holds k_Lamp_holds).binds (ps := ["self", "stand"]) fun _ _ _ _ _ _ us hl => match us, hl with | [_, _], _ => rfl,
    F_Lamp_crowd := fun_mk (st := s_Lamp_crowd) l_Lamp_crowd c_Lamp_crowd k_Lamp_crowd,
    b_Lamp_crowd := (fun_mk (st := s_Lamp_crowd) l_Lamp_crowd c_Lamp_crowd k_Lamp_crowd).binds (ps := ["self", "many"]) fun _ _ _ _ _ _ us hl => match us, hl with | [_, _], _ => rfl,
    F_Sure_init := fun_mk (st := s_Sure_init) l_Sure_init c_Sure_init k_Sure_init,
    b_Sure_init := (fun_mk (st := s_Sure_init) l_Sure_init c_Sure_init k_Sure_init).binds (ps := ["self", "truth"]) fun _ _ _ _ _ _ us hl => match us, hl with | [_, _], _ => rfl,
    F_Sure_holds := fun_mk (st := s_Sure_holds) l_Sure_holds c_Sure_holds k_Sure_holds,
    b_Sure_holds := (fun_mk (st := s_Sure_holds) l_Sure_holds c_Sure_holds k_Sure_holds).binds (ps := ["self", "stand"]) fun _ _ _ _ _ _ us hl => match us, hl with | [_, _], _ => rfl,
    F_Sure_crowd := fun_mk (st := s_Sure_crowd) l_Sure_crowd c_Sure_crowd k_Sure_crowd,
    b_Sure_crowd := (fun_mk (st := s_Sure_crowd) l_Sure_crowd c_Sure_crowd k_Sure_crowd).binds (ps := ["self", "many"]) fun _ _ _ _ _ _ us hl => match us, hl with | [_, _], _ => rfl,
    F_Not_init := fun_mk (st := s_Not_init) l_Not_init c_Not_init k_Not_init,
    b_Not_init := (fun_mk (st := s_Not_init) l_Not_init c_Not_init k_Not_init).binds (ps := ["self", "part"]) fun _ _ _ _ _ _ us hl => match us, hl with | [_, _], _ => rfl,
    F_Not_holds := fun_mk (st := s_Not_holds) l_Not_holds c_Not_holds k_Not_holds,
    b_Not_holds := (fun_mk (st := s_Not_holds) l_Not_holds c_Not_holds k_Not_holds).binds (ps := ["self", "stand"]) fun _ _ _ _ _ _ us hl => match us, hl with | [_, _], _ => rfl,
    F_Not_crowd := fun_mk (st := s_Not_crowd) l_Not_crowd c_Not_crowd k_Not_crowd,
    b_Not_crowd := (fun_mk (st := s_Not_crowd) l_Not_crowd c_Not_crowd k_Not_crowd).binds (ps := ["self", "many"]) fun _ _ _ _ _ _ us hl => match us, hl with | [_, _], _ => rfl,
    F_Joined_init := fun_mk (st := s_Joined_init) l_Joined_init c_Joined_init k_Joined_init,
    b_Joined_init := (fun_mk (st := s_Joined_init) l_Joined_init c_Joined_init k_Joined_init).binds (ps := ["self", "parts"]) fun _ _ _ _ _ _ us hl => match us, hl with | [_, _], _ => rfl,
    F_And_holds := fun_mk (st := s_And_holds) l_And_holds c_And_holds k_And_holds,
    b_And_holds := (fun_mk (st := s_And_holds) l_And_holds c_And_holds k_And_holds).binds (ps := ["self", "stand"]) fun _ _ _ _ _ _ us hl => match us, hl with | [_, _], _ => rfl,
    F_And_crowd := fun_mk (st := s_And_crowd) l_And_crowd c_And_crowd k_And_crowd,
    b_And_crowd := (fun_mk (st := s_And_crowd) l_And_crowd c_And_crowd k_And_crowd).binds (ps := ["self", "many"]) fun _ _ _ _ _ _ us hl => match us, hl with | [_, _], _ => rfl,
    F_Either_holds := fun_mk (st := s_Either_holds) l_Either_holds c_Either_holds k_Either_holds,
    b_Either_holds := (fun_mk (st := s_Either_holds) l_Either_holds c_Either_holds k_Either_holds).binds (ps := ["self", "stand"]) fun _ _ _ _ _ _ us hl => match us, hl with | [_, _], _ => rfl,
    F_Either_crowd := fun_mk (st := s_Either_crowd) l_Either_crowd c_Either_crowd k_Either_crowd,
    b_Either_crowd := (fun_mk (st := s_Either_crowd) l_Either_crowd c_Either_crowd k_Either_crowd).binds (ps := ["self", "many"]) fun _ _ _ _ _ _ us hl => match us, hl with | [_, _], _ => rfl,
    F_Or_holds := fun_mk (st := s_Or_holds) l_Or_holds c_Or_holds k_Or_holds,
    b_Or_holds := (fun_mk (st := s_Or_holds) l_Or_holds c_Or_holds k_Or_holds).binds (ps := ["self", "stand"]) fun _ _ _ _ _ _ us hl => match us, hl with | [_, _], _ => rfl,
    F_Or_crowd := fun_mk (st := s_Or_crowd) l_Or_crowd c_Or_crowd k_Or_crowd,
    b_Or_crowd := (fun_mk (st := s_Or_crowd) l_Or_crowd c_Or_crowd k_Or_crowd).binds (ps := ["self", "many"]) fun _ _ _ _ _ _ us hl => match us, hl with | [_, _], _ => rfl,
    m_Formula := PySem.W.mg_of X G a_Formula,
    c_Formula := ⟨pg_Formula, hd_Formula, po_Formula, sa_Formula⟩,
    y_Formula := fun H a dx fs e => TyOf.ins e ⟨pg_Formula, hd_Formula, po_Formula, sa_Formula⟩ ha_Formula hn_ htk_ hm_Formula,
    n_Formula_at := n_Formula_at,
    n_Formula_truth := n_Formula_truth,
    n_Formula_part := n_Formula_part,
    n_Formula_parts := n_Formula_parts,
    m_Lamp := PySem.W.mg_of X G a_Lamp,
    c_Lamp := ⟨pg_Lamp, hd_Lamp, po_Lamp, sa_Lamp⟩,
    y_Lamp := fun H a dx fs e => TyOf.ins e ⟨pg_Lamp, hd_Lamp, po_Lamp, sa_Lamp⟩ ha_Lamp hn_ htk_ hm_Lamp,
    k_Lamp := ⟨mk_Lamp, e_Lamp_init, i_Lamp_init, kc_Lamp⟩,
    n_Lamp_at := n_Lamp_at,
    n_Lamp_truth := n_Lamp_truth,
    n_Lamp_part := n_Lamp_part,
    n_Lamp_parts := n_Lamp_parts,
    h_Lamp_holds := ⟨e_Lamp_holds, i_Lamp_holds, k_Lamp_holds⟩,
    h_Lamp_crowd := ⟨e_Lamp_crowd, i_Lamp_crowd, k_Lamp_crowd⟩,
    m_Sure := PySem.W.mg_of X G a_Sure,
    c_Sure := ⟨pg_Sure, hd_Sure, po_Sure, sa_Sure⟩,
    y_Sure := fun H a dx fs e => TyOf.ins e ⟨pg_Sure, hd_Sure, po_Sure, sa_Sure⟩ ha_Sure hn_ htk_ hm_Sure,
    k_Sure := ⟨mk_Sure, e_Sure_init, i_Sure_init, kc_Sure⟩,
    n_Sure_at := n_Sure_at,
    n_Sure_truth := n_Sure_truth,
    n_Sure_part := n_Sure_part,
    n_Sure_parts := n_Sure_parts,
    h_Sure_holds := ⟨e_Sure_holds, i_Sure_holds, k_Sure_holds⟩,
    h_Sure_crowd := ⟨e_Sure_crowd, i_Sure_crowd, k_Sure_crowd⟩,
    m_Not := PySem.W.mg_of X G a_Not,
    c_Not := ⟨pg_Not, hd_Not, po_Not, sa_Not⟩,
    y_Not := fun H a dx fs e => TyOf.ins e ⟨pg_Not, hd_Not, po_Not, sa_Not⟩ ha_Not hn_ htk_ hm_Not,
    k_Not := ⟨mk_Not, e_Not_init, i_Not_init, kc_Not⟩,
    n_Not_at := n_Not_at,
    n_Not_truth := n_Not_truth,
    n_Not_part := n_Not_part,
    n_Not_parts := n_Not_parts,
    h_Not_holds := ⟨e_Not_holds, i_Not_holds, k_Not_holds⟩,
    h_Not_crowd := ⟨e_Not_crowd, i_Not_crowd, k_Not_crowd⟩,
    m_Joined := PySem.W.mg_of X G a_Joined,
    c_Joined := ⟨pg_Joined, hd_Joined, po_Joined, sa_Joined⟩,
    y_Joined := fun H a dx fs e => TyOf.ins e ⟨pg_Joined, hd_Joined, po_Joined, sa_Joined⟩ ha_Joined hn_ htk_ hm_Joined,
    k_Joined := ⟨mk_Joined, e_Joined_init, i_Joined_init, kc_Joined⟩,
    n_Joined_at := n_Joined_at,
    n_Joined_truth := n_Joined_truth,
    n_Joined_part := n_Joined_part,
    n_Joined_parts := n_Joined_parts,
    m_And := PySem.W.mg_of X G a_And,
    c_And := ⟨pg_And, hd_And, po_And, sa_And⟩,
    y_And := fun H a dx fs e => TyOf.ins e ⟨pg_And, hd_And, po_And, sa_And⟩ ha_And hn_ htk_ hm_And,
    k_And := ⟨mk_And, e_And_init, i_Joined_init, kc_And⟩,
    n_And_at := n_And_at,
    n_And_truth := n_And_truth,
    n_And_part := n_And_part,
    n_And_parts := n_And_parts,
    h_And_holds := ⟨e_And_holds, i_And_holds, k_And_holds⟩,
    h_And_crowd := ⟨e_And_crowd, i_And_crowd, k_And_crowd⟩,
    m_Either := PySem.W.mg_of X G a_Either,
    c_Either := ⟨pg_Either, hd_Either, po_Either, sa_Either⟩,
    y_Either := fun H a dx fs e => TyOf.ins e ⟨pg_Either, hd_Either, po_Either, sa_Either⟩ ha_Either hn_ htk_ hm_Either,
    k_Either := ⟨mk_Either, e_Either_init, i_Joined_init, kc_Either⟩,
    n_Either_at := n_Either_at,
    n_Either_truth := n_Either_truth,
    n_Either_part := n_Either_part,
    n_Either_parts := n_Either_parts,
    h_Either_holds := ⟨e_Either_holds, i_Either_holds, k_Either_holds⟩,
    h_Either_crowd := ⟨e_Either_crowd, i_Either_crowd, k_Either_crowd⟩,
    m_Or := PySem.W.mg_of X G a_Or,
    c_Or := ⟨pg_Or, hd_Or, po_Or, sa_Or⟩,
    y_Or := fun H a dx fs e => TyOf.ins e ⟨pg_Or, hd_Or, po_Or, sa_Or⟩ ha_Or hn_ htk_ hm_Or,
    k_Or := ⟨mk_Or, e_Or_init, i_Joined_init, kc_Or⟩,
    n_Or_at := n_Or_at,
    n_Or_truth := n_Or_truth,
    n_Or_part := n_Or_part,
    n_Or_parts := n_Or_parts,
    h_Or_holds := ⟨e_Or_holds, i_Or_holds, k_Or_holds⟩,
    h_Or_crowd := ⟨e_Or_crowd, i_Or_crowd, k_Or_crowd⟩,
    x_Formula_Lamp := nd_ne nd_ (i := 0) (j := 1) rfl rfl (by decide),
    x_Formula_Sure := nd_ne nd_ (i := 0) (j := 2) rfl rfl (by decide),
    x_Formula_Not := nd_ne nd_ (i := 0) (j := 3) rfl rfl (by decide),
    x_Formula_Joined := nd_ne nd_ (i := 0) (j := 4) rfl rfl (by decide),
    x_Formula_And := nd_ne nd_ (i := 0) (j := 5) rfl rfl (by decide),
    x_Formula_Either := nd_ne nd_ (i := 0) (j := 6) rfl rfl (by decide),
    x_Formula_Or := nd_ne nd_ (i := 0) (j := 7) rfl rfl (by decide),
    x_Lamp_Sure := nd_ne nd_ (i := 1) (j := 2) rfl rfl (by decide),
    x_Lamp_Not := nd_ne nd_ (i := 1) (j := 3) rfl rfl (by decide),
    x_Lamp_Joined := nd_ne nd_ (i := 1) (j := 4) rfl rfl (by decide),
    x_Lamp_And := nd_ne nd_ (i := 1) (j := 5) rfl rfl (by decide),
    x_Lamp_Either := nd_ne nd_ (i := 1) (j := 6) rfl rfl (by decide),
    x_Lamp_Or := nd_ne nd_ (i := 1) (j := 7) rfl rfl (by decide),
    x_Sure_Not := nd_ne nd_ (i := 2) (j := 3) rfl rfl (by decide),
    x_Sure_Joined := nd_ne nd_ (i := 2) (j := 4) rfl rfl (by decide),
    x_Sure_And := nd_ne nd_ (i := 2) (j := 5) rfl rfl (by decide),
    x_Sure_Either := nd_ne nd_ (i := 2) (j := 6) rfl rfl (by decide),
    x_Sure_Or := nd_ne nd_ (i := 2) (j := 7) rfl rfl (by decide),
    x_Not_Joined := nd_ne nd_ (i := 3) (j := 4) rfl rfl (by decide),
    x_Not_And := nd_ne nd_ (i := 3) (j := 5) rfl rfl (by decide),
    x_Not_Either := nd_ne nd_ (i := 3) (j := 6) rfl rfl (by decide),
    x_Not_Or := nd_ne nd_ (i := 3) (j := 7) rfl rfl (by decide),
    x_Joined_And := nd_ne nd_ (i := 4) (j := 5) rfl rfl (by decide),
    x_Joined_Either := nd_ne nd_ (i := 4) (j := 6) rfl rfl (by decide),
    x_Joined_Or := nd_ne nd_ (i := 4) (j := 7) rfl rfl (by decide),
    x_And_Either := nd_ne nd_ (i := 5) (j := 6) rfl rfl (by decide),
    x_And_Or := nd_ne nd_ (i := 5) (j := 7) rfl rfl (by decide),
    x_Either_Or := nd_ne nd_ (i := 6) (j := 7) rfl rfl (by decide),
    bl := fun s u => .of_eq rfl,
    B := ⟨PySem.W.mg_none_of X G b_len, PySem.W.mg_none_of X G b_range, PySem.W.mg_none_of X G b_isinstance, PySem.W.mg_none_of X G b_int, PySem.W.mg_none_of X G b_bool, PySem.W.mg_none_of X G b_str, PySem.W.mg_none_of X G b_list, PySem.W.mg_none_of X G b_tuple, PySem.W.mg_none_of X G b_dict, PySem.W.mg_none_of X G b_set, PySem.W.mg_none_of X G b_sorted, PySem.W.mg_none_of X G b_max, PySem.W.mg_none_of X G b_min, PySem.W.mg_none_of X G b_sum, PySem.W.mg_none_of X G b_any, PySem.W.mg_none_of X G b_all, PySem.W.mg_none_of X G b_abs, PySem.W.mg_none_of X G b_reversed, PySem.W.mg_none_of X G b_enumerate, PySem.W.mg_none_of X G b_zip⟩ }
-- ROOM 60
theorem and_nat (x y : Nat) : Builtin.bitAnd (x : Int) (y : Int) = ((x &&& y : Nat) : Int) := by simp [Builtin.bitAnd]
theorem not_not (x : Int) : Builtin.bitNot (Builtin.bitNot x) = x := by unfold Builtin.bitNot; omega
theorem or_nat (x y : Nat) : Builtin.bitOr (x : Int) (y : Int) = ((x ||| y : Nat) : Int) := by
  show Builtin.bitNot (Builtin.bitAnd (Builtin.bitNot x) (Builtin.bitNot y)) = _
  rw [PyProof.Rows.bitAnd_nn (by unfold Builtin.bitNot; omega) (by unfold Builtin.bitNot; omega), not_not, not_not, not_not]
  simp
theorem xor_nat (x y : Nat) : Builtin.bitXor (x : Int) (y : Int) = ((x ^^^ y : Nat) : Int) := by
  show Builtin.bitOr x y - Builtin.bitAnd x y = _
  rw [or_nat, and_nat, or_split (x + 1) x y (by omega)]
  omega

/-! ### what every law has: its promise, a cell of the script -/
def cell (ns : List Int) (k : Nat) : Int := ns.getD k 0
def spLaw (K : PySem.W.Frag) : Sp := fun vs H Q _ => ∃ (a : Addr) (ns : List Int), vs = [.ref a] ∧ SqL K H a (ns.map V.int) ∧ ns.length ≤ 63 ∧ Only H ∧ ∀ H', Q (.bl true) H'
def spCell (K : PySem.W.Frag) : Sp := fun vs H Q _ => ∃ (a : Addr) (ns : List Int) (k : Nat), vs = [.ref a, .int (k : Int)] ∧ SqL K H a (ns.map V.int) ∧ Q (.int (cell ns k)) H
section
variable {P : Program} {w : World} {K : PySem.W.Frag} {mg : Str → Option Value} {base : Heap} {t : Ad}
theorem ok_cell_at (T : Txt K mg t) : FnS P w K mg base 1 "_law_cell_at" ["_law_script", "_law_k"] (spCell K) := by
  refine ⟨_, _, T.F__law_cell_at.ok sc__law_cell_at (fun vs H Q E h => ?_) (fun cdv A outer s H vs Q E hr h => ?_), T.b__law_cell_at, T.F__law_cell_at.kp, T.m__law_cell_at⟩
  · obtain ⟨a, ns, k, rfl, _⟩ := h
    rfl
  · obtain ⟨a, ns, k, rfl, hS, q⟩ := h
    refine ⟨_, (pss_cons (ps_if (pt_cmpR op_lt (pv 1) (pe_callB call_lenG rfl T.B.len bt_len (pa_cons (pv 0) pa_nil)) (nomark _))
      (pss_one (ps_ret (pe_ix ix_seq (pv 0) (pv 1) (fun _ _ => rfl))))
      pss_nil)
      (pss_one (ps_ret pe_int))), ?_⟩
    walk_at "rd0"
    refine i_ifd (fun h => ?_) (fun h => ?_)
    · rw [List.length_map] at h
      have hk : k < ns.length := by omega
      walk_at "rd"
      refine i_ixS (j := k) (v := .int (cell ns k)) hS ?_ q
      rw [List.getElem?_map, List.getElem?_eq_getElem hk]
      simp [cell, List.getD_eq_getElem?_getD, List.getElem?_eq_getElem hk]
    · rw [List.length_map] at h
      walk_at "rd"
      have e : cell ns k = 0 := by
        simp only [cell, List.getD_eq_getElem?_getD]
        rw [List.getElem?_eq_none (by omega)]
        rfl
      rw [e] at q
      exact q
end

/-! ### formulas as they stand in the heap -/
def cw (t : Ad) : W3 → Addr
  | .a => t.C_And
  | .e => t.C_Either
  | .o => t.C_Or
def FmAt (t : Ad) (H : Hp) : Nat → Addr → Fm → Prop
  | 0, _, _ => False
  | n + 1, p, f => match f with
    | .lamp k => ∃ dx, H p = some (.ins t.C_Lamp dx [(("at" : Str), .int (k : Int))])
    | .sure b => ∃ dx, H p = some (.ins t.C_Sure dx [(("truth" : Str), .bl b)])
    | .neg g => ∃ dx q, H p = some (.ins t.C_Not dx [(("part" : Str), .ref q)]) ∧ FmAt t H n q g
    | .join w gs => ∃ dx tp ps, H p = some (.ins (cw t w) dx [(("parts" : Str), .ref tp)]) ∧ H tp = some (.tup (ps.map V.ref)) ∧ Paired (FmAt t H n) ps gs
def isFm (t : Ad) (C : Addr) : Prop := C = t.C_Lamp ∨ C = t.C_Sure ∨ C = t.C_Not ∨ C = t.C_And ∨ C = t.C_Either ∨ C = t.C_Or
theorem paired_imp {α β : Type} {F G : α → β → Prop} (h : ∀ a b, F a b → G a b) : ∀ {xs : List α} {ys : List β}, Paired F xs ys → Paired G xs ys
  | _, _, .nil => .nil
  | _, _, .cons r s => .cons (h _ _ r) (paired_imp h s)
theorem paired_get {α β : Type} {F : α → β → Prop} : ∀ {xs : List α} {ys : List β} {i : Nat} {x : α}, Paired F xs ys → xs[i]? = some x → ∃ y, ys[i]? = some y ∧ F x y
  | _, _, _, _, .nil, e => by simp at e
  | _, _, 0, _, .cons r _, e => by simp at e; subst e; exact ⟨_, rfl, r⟩
  | _, _, i + 1, x, .cons _ s, e => by
    obtain ⟨u, h1, h2⟩ := paired_get (i := i) (x := x) s (by simpa using e)
    exact ⟨u, by simpa using h1, h2⟩
theorem paired_append {α β : Type} {F : α → β → Prop} : ∀ {xs xs' : List α} {ys ys' : List β}, Paired F xs ys → Paired F xs' ys' → Paired F (xs ++ xs') (ys ++ ys')
  | _, _, _, _, .nil, s => s
  | _, _, _, _, .cons r q, s => .cons r (paired_append q s)
theorem paired_take {α β : Type} {F : α → β → Prop} : ∀ {xs : List α} {ys : List β} (n : Nat), Paired F xs ys → Paired F (xs.take n) (ys.take n)
  | _, _, 0, _ => by rw [List.take_zero, List.take_zero]; exact .nil
  | _, _, _ + 1, .nil => by rw [List.take_nil, List.take_nil]; exact .nil
  | _, _, n + 1, .cons r q => by rw [List.take_succ_cons, List.take_succ_cons]; exact .cons r (paired_take n q)
theorem paired_drop {α β : Type} {F : α → β → Prop} : ∀ {xs : List α} {ys : List β} (n : Nat), Paired F xs ys → Paired F (xs.drop n) (ys.drop n)
  | _, _, 0, q => q
  | _, _, _ + 1, .nil => by rw [List.drop_nil, List.drop_nil]; exact .nil
  | _, _, n + 1, .cons r q => by rw [List.drop_succ_cons, List.drop_succ_cons]; exact paired_drop n q
theorem paired_len {α β : Type} {F : α → β → Prop} {xs : List α} {ys : List β} (h : Paired F xs ys) : xs.length = ys.length := Paired.length h
theorem paired_snoc {α β : Type} {F : α → β → Prop} {xs : List α} {ys : List β} {x : α} {y : β} (h : Paired F (xs ++ [x]) (ys ++ [y])) : Paired F xs ys ∧ F x y := by
  have hl : xs.length = ys.length := by have := paired_len h; simpa using this
  have a := paired_take xs.length h
  have b := paired_drop xs.length h
  rw [List.take_left, hl, List.take_left] at a
  rw [List.drop_left, hl, List.drop_left] at b
  cases b with
  | cons r _ => exact ⟨a, r⟩
theorem get_ref {ps : List Addr} {i : Nat} {x : V} (h : (ps.map V.ref)[i]? = some x) : ∃ p, x = V.ref p ∧ ps[i]? = some p := by
  rw [List.getElem?_map] at h
  cases e : ps[i]? with
  | none => rw [e] at h; cases h
  | some p => rw [e] at h; exact ⟨p, (Option.some.inj h).symm, rfl⟩
theorem take_snoc {α : Type} {l : List α} {i : Nat} {x : α} (h : l[i]? = some x) : l.take (i + 1) = l.take i ++ [x] := by
  rw [List.take_add_one, h]; rfl
section
variable {P : Program} {w : World} {K : PySem.W.Frag} {mg : Str → Option Value} {base : Heap} {t : Ad} {H H' : Hp} {n : Nat} {p : Addr} {f : Fm}
theorem FmAt.mono (s : Ext H H') : ∀ {n : Nat} {p : Addr} {f : Fm}, FmAt t H n p f → FmAt t H' n p f
  | 0, _, _, h => h
  | n + 1, p, f, h => by
    cases f with
    | lamp k => obtain ⟨dx, e⟩ := h; exact ⟨dx, s _ _ e (fun _ z => nomatch z)⟩
    | sure b => obtain ⟨dx, e⟩ := h; exact ⟨dx, s _ _ e (fun _ z => nomatch z)⟩
    | neg g => obtain ⟨dx, q, e, h⟩ := h; exact ⟨dx, q, s _ _ e (fun _ z => nomatch z), FmAt.mono s h⟩
    | join w gs => obtain ⟨dx, tp, ps, e, e2, h⟩ := h; exact ⟨dx, tp, ps, s _ _ e (fun _ z => nomatch z), s _ _ e2 (fun _ z => nomatch z), paired_imp (fun a b h => FmAt.mono s h) h⟩
theorem FmAt.le : ∀ {n m : Nat} {p : Addr} {f : Fm}, n ≤ m → FmAt t H n p f → FmAt t H m p f
  | 0, _, _, _, _, h => h.elim
  | n + 1, 0, _, _, hm, _ => absurd hm (by omega)
  | n + 1, m + 1, p, f, hm, h => by
    have hm' : n ≤ m := by omega
    cases f with
    | lamp k => exact h
    | sure b => exact h
    | neg g => obtain ⟨dx, q, e, h⟩ := h; exact ⟨dx, q, e, FmAt.le hm' h⟩
    | join w gs => obtain ⟨dx, tp, ps, e, e2, h⟩ := h; exact ⟨dx, tp, ps, e, e2, paired_imp (fun a b h => FmAt.le hm' h) h⟩
theorem isFm_cw (t : Ad) (w : W3) : isFm t (cw t w) := by
  cases w
  · exact .inr (.inr (.inr (.inl rfl)))
  · exact .inr (.inr (.inr (.inr (.inl rfl))))
  · exact .inr (.inr (.inr (.inr (.inr rfl))))
theorem FmAt.ins (h : FmAt t H n p f) (m : Str) (h1 : ¬ m = "at") (h2 : ¬ m = "truth") (h3 : ¬ m = "part") (h4 : ¬ m = "parts") : ∃ C dx fs, H p = some (.ins C dx fs) ∧ isFm t C ∧ fs.lookup m = none := by
  cases n with
  | zero => exact h.elim
  | succ n =>
    cases f with
    | lamp k => obtain ⟨dx, e⟩ := h; exact ⟨_, dx, _, e, .inl rfl, lk0 _ h1⟩
    | sure b => obtain ⟨dx, e⟩ := h; exact ⟨_, dx, _, e, .inr (.inl rfl), lk0 _ h2⟩
    | neg g => obtain ⟨dx, q, e, h⟩ := h; exact ⟨_, dx, _, e, .inr (.inr (.inl rfl)), lk0 _ h3⟩
    | join w gs => obtain ⟨dx, tp, ps, e, e2, h⟩ := h; exact ⟨_, dx, _, e, isFm_cw t w, lk0 _ h4⟩
theorem FmAt.lamp {dx : Addr} {fs : List (Str × V)} (T : Txt K mg t) (h : FmAt t H (n + 1) p f) (e : H p = some (.ins t.C_Lamp dx fs)) : ∃ k : Nat, f = .lamp k ∧ fs = [(("at" : Str), .int (k : Int))] := by
  cases f with
  | lamp k => obtain ⟨dx', e'⟩ := h; rw [e] at e'; injection e' with e'; injection e' with _ _ e'; exact ⟨k, rfl, e'⟩
  | sure b => obtain ⟨dx', e'⟩ := h; rw [e] at e'; injection e' with e'; injection e' with e' _ _; exact absurd e' T.x_Lamp_Sure
  | neg g => obtain ⟨dx', q, e', _⟩ := h; rw [e] at e'; injection e' with e'; injection e' with e' _ _; exact absurd e' T.x_Lamp_Not
  | join w gs => obtain ⟨dx', tp, ps, e', _⟩ := h; rw [e] at e'; injection e' with e'; injection e' with e' _ _; cases w; exact absurd e' T.x_Lamp_And; exact absurd e' T.x_Lamp_Either; exact absurd e' T.x_Lamp_Or
theorem FmAt.sure {dx : Addr} {fs : List (Str × V)} (T : Txt K mg t) (h : FmAt t H (n + 1) p f) (e : H p = some (.ins t.C_Sure dx fs)) : ∃ b : Bool, f = .sure b ∧ fs = [(("truth" : Str), .bl b)] := by
  cases f with
  | lamp k => obtain ⟨dx', e'⟩ := h; rw [e] at e'; injection e' with e'; injection e' with e' _ _; exact absurd e'.symm T.x_Lamp_Sure
  | sure b => obtain ⟨dx', e'⟩ := h; rw [e] at e'; injection e' with e'; injection e' with _ _ e'; exact ⟨b, rfl, e'⟩
  | neg g => obtain ⟨dx', q, e', _⟩ := h; rw [e] at e'; injection e' with e'; injection e' with e' _ _; exact absurd e' T.x_Sure_Not
  | join w gs => obtain ⟨dx', tp, ps, e', _⟩ := h; rw [e] at e'; injection e' with e'; injection e' with e' _ _; cases w; exact absurd e' T.x_Sure_And; exact absurd e' T.x_Sure_Either; exact absurd e' T.x_Sure_Or
theorem FmAt.neg {dx : Addr} {fs : List (Str × V)} (T : Txt K mg t) (h : FmAt t H (n + 1) p f) (e : H p = some (.ins t.C_Not dx fs)) : ∃ g q, f = .neg g ∧ fs = [(("part" : Str), .ref q)] ∧ FmAt t H n q g := by
  cases f with
  | lamp k => obtain ⟨dx', e'⟩ := h; rw [e] at e'; injection e' with e'; injection e' with e' _ _; exact absurd e'.symm T.x_Lamp_Not
  | sure b => obtain ⟨dx', e'⟩ := h; rw [e] at e'; injection e' with e'; injection e' with e' _ _; exact absurd e'.symm T.x_Sure_Not
  | neg g => obtain ⟨dx', q, e', h⟩ := h; rw [e] at e'; injection e' with e'; injection e' with _ _ e'; exact ⟨g, q, rfl, e', h⟩
  | join w gs => obtain ⟨dx', tp, ps, e', _⟩ := h; rw [e] at e'; injection e' with e'; injection e' with e' _ _; cases w; exact absurd e' T.x_Not_And; exact absurd e' T.x_Not_Either; exact absurd e' T.x_Not_Or
theorem cw_inj (T : Txt K mg t) {v w : W3} (e : cw t v = cw t w) : v = w := by
  cases v <;> cases w <;> first
    | rfl
    | exact absurd e T.x_And_Either
    | exact absurd e T.x_And_Or
    | exact absurd e T.x_Either_Or
    | exact absurd e.symm T.x_And_Either
    | exact absurd e.symm T.x_And_Or
    | exact absurd e.symm T.x_Either_Or
theorem FmAt.join {dx : Addr} {fs : List (Str × V)} {w : W3} (T : Txt K mg t) (h : FmAt t H (n + 1) p f) (e : H p = some (.ins (cw t w) dx fs)) :
    ∃ gs tp ps, f = .join w gs ∧ fs = [(("parts" : Str), .ref tp)] ∧ H tp = some (.tup (ps.map V.ref)) ∧ Paired (FmAt t H n) ps gs := by
  cases f with
  | lamp k => obtain ⟨dx', e'⟩ := h; rw [e] at e'; injection e' with e'; injection e' with e' _ _; cases w; exact absurd e'.symm T.x_Lamp_And; exact absurd e'.symm T.x_Lamp_Either; exact absurd e'.symm T.x_Lamp_Or
  | sure b => obtain ⟨dx', e'⟩ := h; rw [e] at e'; injection e' with e'; injection e' with e' _ _; cases w; exact absurd e'.symm T.x_Sure_And; exact absurd e'.symm T.x_Sure_Either; exact absurd e'.symm T.x_Sure_Or
  | neg g => obtain ⟨dx', q, e', _⟩ := h; rw [e] at e'; injection e' with e'; injection e' with e' _ _; cases w; exact absurd e'.symm T.x_Not_And; exact absurd e'.symm T.x_Not_Either; exact absurd e'.symm T.x_Not_Or
  | join v gs =>
    obtain ⟨dx', tp, ps, e', e2, h⟩ := h
    rw [e] at e'; injection e' with e'; injection e' with e1 _ e3
    obtain rfl := cw_inj T e1
    exact ⟨gs, tp, ps, rfl, e3, e2, h⟩
/-! ### the classes made -/
theorem ok_Lamp (T : Txt K mg t) : MkS P w K mg base 1 "Lamp" t.C_Lamp ["self", "at"] (spInit1 t.C_Lamp "at") := by
  refine ⟨T.m_Lamp, _, _, T.k_Lamp, T.F_Lamp_init.ok sc_Lamp_init (fun vs H Q E h => ?_) (fun cdv A outer s H vs Q E hr h => ?_), T.b_Lamp_init⟩
  · obtain ⟨p, dx, v, rfl, _⟩ := h
    rfl
  · obtain ⟨p, dx, v, rfl, hp, q⟩ := h
    refine ⟨_, (pss_one (ps_fld (pv 0) (pv 1) rfl)), ?_⟩
    walk_at "rd0"
    exact ⟨p, _, _, _, rfl, hp, T.c_Lamp, T.n_Lamp_at, by decide, q⟩
theorem ok_Sure (T : Txt K mg t) : MkS P w K mg base 1 "Sure" t.C_Sure ["self", "truth"] (spInit1 t.C_Sure "truth") := by
  refine ⟨T.m_Sure, _, _, T.k_Sure, T.F_Sure_init.ok sc_Sure_init (fun vs H Q E h => ?_) (fun cdv A outer s H vs Q E hr h => ?_), T.b_Sure_init⟩
  · obtain ⟨p, dx, v, rfl, _⟩ := h
    rfl
  · obtain ⟨p, dx, v, rfl, hp, q⟩ := h
    refine ⟨_, (pss_one (ps_fld (pv 0) (pv 1) rfl)), ?_⟩
    walk_at "rd0"
    exact ⟨p, _, _, _, rfl, hp, T.c_Sure, T.n_Sure_truth, by decide, q⟩
theorem ok_Not (T : Txt K mg t) : MkS P w K mg base 1 "Not" t.C_Not ["self", "part"] (spInit1 t.C_Not "part") := by
  refine ⟨T.m_Not, _, _, T.k_Not, T.F_Not_init.ok sc_Not_init (fun vs H Q E h => ?_) (fun cdv A outer s H vs Q E hr h => ?_), T.b_Not_init⟩
  · obtain ⟨p, dx, v, rfl, _⟩ := h
    rfl
  · obtain ⟨p, dx, v, rfl, hp, q⟩ := h
    refine ⟨_, (pss_one (ps_fld (pv 0) (pv 1) rfl)), ?_⟩
    walk_at "rd0"
    exact ⟨p, _, _, _, rfl, hp, T.c_Not, T.n_Not_part, by decide, q⟩
def spInitJ (C : Addr) : Sp := fun vs H Q _ => ∃ p dx l ys, vs = [.ref p, .ref l] ∧ H p = some (.ins C dx []) ∧ H l = some (.lst ys) ∧ ∀ tp, H tp = none → Q .non (upd (upd H tp (.tup ys)) p (.ins C dx [(("parts" : Str), .ref tp)]))
theorem ok_JoinedC {C : Addr} (T : Txt K mg t) (cl : Cls K C) (na : NoAttr K C "parts") : FnOk P w K mg base CX0 1 t.f_Joined_init t.d_Joined_init ["self", "parts"] (spInitJ C) := by
  refine T.F_Joined_init.ok sc_Joined_init (fun vs H Q E h => ?_) (fun cdv A outer s H vs Q E hr h => ?_)
  · obtain ⟨p, dx, l, ys, rfl, _⟩ := h
    rfl
  · obtain ⟨p, dx, l, ys, rfl, hp, hl, q⟩ := h
    refine ⟨_, (pss_one (ps_fld (pv 0) (pe_callTy call_tupleG rfl T.B.tuple bt_tuple (pa_cons (pv 1) pa_nil)) rfl)), ?_⟩
    walk_at "rd0"
    refine i_tupL hl fun tp htp => ?_
    walk_at "rd"
    exact ⟨p, _, _, _, rfl, by rw [upd_ne (ne_of_none hp htp)]; exact hp, cl, na, by decide, q tp htp⟩
theorem ok_And (T : Txt K mg t) : MkS P w K mg base 1 "And" t.C_And ["self", "parts"] (spInitJ t.C_And) := ⟨T.m_And, _, _, T.k_And, ok_JoinedC T T.c_And T.n_And_parts, T.b_Joined_init⟩
theorem ok_Either (T : Txt K mg t) : MkS P w K mg base 1 "Either" t.C_Either ["self", "parts"] (spInitJ t.C_Either) := ⟨T.m_Either, _, _, T.k_Either, ok_JoinedC T T.c_Either T.n_Either_parts, T.b_Joined_init⟩
theorem ok_Or (T : Txt K mg t) : MkS P w K mg base 1 "Or" t.C_Or ["self", "parts"] (spInitJ t.C_Or) := ⟨T.m_Or, _, _, T.k_Or, ok_JoinedC T T.c_Or T.n_Or_parts, T.b_Joined_init⟩
theorem i_initJ {C l : Addr} {ys : List V} {H : Hp} {Q : VK} (hl : H l = some (.lst ys)) (h : ∀ (x dx tp : Addr) (H' : Hp), Same H H' → H x = none → H' x = some (.ins C dx [(("parts" : Str), .ref tp)]) → H' tp = some (.tup ys) → Q (.ref x) H') :
    MkG C (spInitJ C) [.ref l] H Q := by
  intro x dx hx hdx ne
  have s2 := same_new2 hx hdx (.ins C dx []) (.own x)
  refine ⟨x, dx, l, ys, rfl, upd_same, s2 _ _ hl, fun tp htp => ⟨rfl, ?_⟩⟩
  have hxt : tp ≠ x := by
    intro e; subst e; rw [upd_same] at htp; cases htp
  have htp0 : H tp = none := s2.free htp
  refine h x dx tp _ (fun b o e => ?_) hx upd_same (by rw [upd_ne hxt, upd_same])
  rw [upd_ne (ne_of_none e hx), upd_ne (ne_of_none e htp0), upd_ne (ne_of_none e hx), upd_ne (ne_of_none e hdx)]
  exact e
end

/-! ### holds -/
def spHolds (t : Ad) (n : Nat) : Sp := fun vs H Q _ => ∃ (p : Addr) (s : Nat) (f : Fm), vs = [.ref p, .int (s : Int)] ∧ FmAt t H n p f ∧ Q (.bl (f.holds s)) H
theorem lit_eq (s k : Nat) : decide (Builtin.bitAnd ((s : Int) / 2 ^ ((k : Int)).toNat) 1 = 1) = s.testBit k := by
  have e : ((s : Int) / 2 ^ ((k : Int)).toNat) = ((s / 2 ^ k : Nat) : Int) := by simp
  have h : Builtin.bitAnd ((s : Int) / 2 ^ ((k : Int)).toNat) 1 = ((s / 2 ^ k % 2 : Nat) : Int) := by
    rw [e, show (1 : Int) = ((1 : Nat) : Int) from rfl, and_nat, Nat.and_one_is_mod]
  rw [h, lit_iff]
  exact decide_eq_decide.mpr (by omega)
section
variable {P : Program} {w : World} {K : PySem.W.Frag} {mg : Str → Option Value} {base : Heap} {t : Ad} {n : Nat}
theorem ok_Lamp_holds (T : Txt K mg t) : MeS P w K mg base (n + 1) t.C_Lamp "holds" ["self", "stand"] (spAt (spHolds t (n + 1)) t.C_Lamp) := by
  refine ⟨T.c_Lamp, _, _, T.F_Lamp_holds.ok sc_Lamp_holds (fun vs H Q E h => ?_) (fun cdv A outer s H vs Q E hr h => ?_), T.b_Lamp_holds, T.h_Lamp_holds⟩
  · obtain ⟨⟨p, s, f, rfl, _⟩, _⟩ := h
    rfl
  · obtain ⟨⟨p, s, f, rfl, hf, q⟩, a, dx, fs, r, e, ea⟩ := h
    cases e
    obtain ⟨k, rfl, rfl⟩ := hf.lamp T ea
    refine ⟨_, (pss_one (ps_ret (pe_cmpR (op_eqA hr.units) (pe_op op_and (pe_op op_shr (pv 1) (pe_fld (pv 0) rfl)) pe_int) pe_int (nomark _)))), ?_⟩
    walk_at "rd0"
    refine ⟨p, _, _, _, _, rfl, ea, T.c_Lamp, T.n_Lamp_at, lk1 _ _, ?_⟩
    walk_at "rd"
    rw [lit_eq]
    simpa [Fm.holds] using q
theorem ok_Sure_holds (T : Txt K mg t) : MeS P w K mg base (n + 1) t.C_Sure "holds" ["self", "stand"] (spAt (spHolds t (n + 1)) t.C_Sure) := by
  refine ⟨T.c_Sure, _, _, T.F_Sure_holds.ok sc_Sure_holds (fun vs H Q E h => ?_) (fun cdv A outer s H vs Q E hr h => ?_), T.b_Sure_holds, T.h_Sure_holds⟩
  · obtain ⟨⟨p, s, f, rfl, _⟩, _⟩ := h
    rfl
  · obtain ⟨⟨p, s, f, rfl, hf, q⟩, a, dx, fs, r, e, ea⟩ := h
    cases e
    obtain ⟨b, rfl, rfl⟩ := hf.sure T ea
    refine ⟨_, (pss_one (ps_ret (pe_fld (pv 0) rfl))), ?_⟩
    walk_at "rd0"
    exact ⟨p, _, _, _, _, rfl, ea, T.c_Sure, T.n_Sure_truth, lk1 _ _, by simpa [Fm.holds] using q⟩
theorem ok_Not_holds (T : Txt K mg t) (D_holds : ∀ C, isFm t C → MeS P w K mg base n C "holds" ["self", "stand"] (spAt (spHolds t n) C)) : MeS P w K mg base (n + 1) t.C_Not "holds" ["self", "stand"] (spAt (spHolds t (n + 1)) t.C_Not) := by
  refine ⟨T.c_Not, _, _, T.F_Not_holds.ok sc_Not_holds (fun vs H Q E h => ?_) (fun cdv A outer s H vs Q E hr h => ?_), T.b_Not_holds, T.h_Not_holds⟩
  · obtain ⟨⟨p, s, f, rfl, _⟩, _⟩ := h
    rfl
  · obtain ⟨⟨p, s, f, rfl, hf, q⟩, a, dx, fs, r, e, ea⟩ := h
    cases e
    obtain ⟨g, p', rfl, rfl, hg⟩ := hf.neg T ea
    obtain ⟨C, dx', fs', e', hC, hl⟩ := hg.ins "holds" (by decide +kernel) (by decide +kernel) (by decide +kernel) (by decide +kernel)
    refine ⟨_, (pss_one (ps_ret (pe_notG (pe_dy D_holds hr (pe_fld (pv 0) rfl) (pa_cons (pv 1) pa_nil))))), ?_⟩
    walk_at "rd0"
    refine ⟨p, _, _, _, _, rfl, ea, T.c_Not, T.n_Not_part, lk1 _ _, ?_⟩
    walk_at "rd"
    refine ⟨p', C, dx', fs', rfl, e', hC, hl, ?_⟩
    walk_at "rd"
    refine ⟨e', p', s, g, rfl, hg, ?_⟩
    walk_at "rd"
    simpa [Fm.holds] using q
theorem ok_And_holds (T : Txt K mg t) (D_holds : ∀ C, isFm t C → MeS P w K mg base n C "holds" ["self", "stand"] (spAt (spHolds t n) C)) : MeS P w K mg base (n + 1) t.C_And "holds" ["self", "stand"] (spAt (spHolds t (n + 1)) t.C_And) := by
  refine ⟨T.c_And, _, _, T.F_And_holds.ok sc_And_holds (fun vs H Q E h => ?_) (fun cdv A outer s H vs Q E hr h => ?_), T.b_And_holds, T.h_And_holds⟩
  · obtain ⟨⟨p, s, f, rfl, _⟩, _⟩ := h
    rfl
  · obtain ⟨⟨p, s, f, rfl, hf, q⟩, a, dx, fs, r, e, ea⟩ := h
    cases e
    obtain ⟨gs, tp, ps, rfl, rfl, htp, hg⟩ := hf.join (w := .a) T ea
    refine ⟨_, (pss_cons (ps_for PassesOwn.never rfl (pi_seq (pe_fld (pv 0) rfl)) (sg 2 sc_And_holds.nd)
      (pss_one (ps_if (pt_not (pt_truth (pe_dy D_holds hr (pv 2) (pa_cons (pv 1) pa_nil)) (fun _ => rfl)))
      (pss_one (ps_ret pe_bl))
      pss_nil)))
      (pss_one (ps_ret pe_bl))), ?_⟩
    walk_at "rd0"
    refine ⟨p, _, _, _, _, rfl, ea, T.c_And, T.n_And_parts, lk1 _ _, ?_⟩
    refine seqT (xs := ps.map V.ref) (fun i σ H' => H' = H ∧ comb .a ((gs.take i).map (Fm.holds s)) = true ∧ ∃ v, σ = [some (.ref p), some (.int (s : Int)), v]) ⟨rfl, rfl, _, rfl⟩ (fun i σ H' _ hp => by obtain ⟨rfl, _⟩ := hp; exact SqT.of htp) ?_ ?_
    · rintro i x σ H' hx ⟨rfl, hc, v, rfl⟩
      obtain ⟨p', rfl, hx'⟩ := get_ref hx
      obtain ⟨g, hgi, hf'⟩ := paired_get hg hx'
      obtain ⟨C, dx', fs', e', hC, hl⟩ := hf'.ins "holds" (by decide +kernel) (by decide +kernel) (by decide +kernel) (by decide +kernel)
      walk_at "rd"
      refine ⟨p', C, dx', fs', rfl, e', hC, hl, ?_⟩
      walk_at "rd"
      refine ⟨e', p', s, g, rfl, hf', ?_⟩
      walk_at "rd"
      refine i_ifb (fun hb => ?_) (fun hb => ?_)
      · walk_at "rd"
        have hz : (Fm.join .a gs).holds s = false := by
          rw [holds_join]
          have hm : g ∈ gs := List.mem_of_getElem? hgi
          have hgf : g.holds s = false := by simpa using hb
          simp only [comb]
          rw [List.all_eq_false]
          exact ⟨_, List.mem_map_of_mem hm, by simp [hgf]⟩
        rw [hz] at q
        exact q
      · walk_at "rd"
        refine ⟨rfl, ?_, _, rfl⟩
        have hgt : g.holds s = true := by simpa using hb
        rw [take_snoc hgi, List.map_append, List.map_cons, List.map_nil, comb_snoc_a, hc, hgt]
        rfl
    · rintro σ H' ⟨rfl, hc, v, rfl⟩
      walk_at "rd"
      rw [List.length_map, paired_len hg, List.take_length] at hc
      rw [holds_join, hc] at q
      exact q
theorem ok_Or_holds (T : Txt K mg t) (D_holds : ∀ C, isFm t C → MeS P w K mg base n C "holds" ["self", "stand"] (spAt (spHolds t n) C)) : MeS P w K mg base (n + 1) t.C_Or "holds" ["self", "stand"] (spAt (spHolds t (n + 1)) t.C_Or) := by
  refine ⟨T.c_Or, _, _, T.F_Or_holds.ok sc_Or_holds (fun vs H Q E h => ?_) (fun cdv A outer s H vs Q E hr h => ?_), T.b_Or_holds, T.h_Or_holds⟩
  · obtain ⟨⟨p, s, f, rfl, _⟩, _⟩ := h
    rfl
  · obtain ⟨⟨p, s, f, rfl, hf, q⟩, a, dx, fs, r, e, ea⟩ := h
    cases e
    obtain ⟨gs, tp, ps, rfl, rfl, htp, hg⟩ := hf.join (w := .o) T ea
    refine ⟨_, (pss_cons (ps_for PassesOwn.never rfl (pi_seq (pe_fld (pv 0) rfl)) (sg 2 sc_Or_holds.nd)
      (pss_one (ps_if (pt_truth (pe_dy D_holds hr (pv 2) (pa_cons (pv 1) pa_nil)) (fun _ => rfl))
      (pss_one (ps_ret pe_bl))
      pss_nil)))
      (pss_one (ps_ret pe_bl))), ?_⟩
    walk_at "rd0"
    refine ⟨p, _, _, _, _, rfl, ea, T.c_Or, T.n_Or_parts, lk1 _ _, ?_⟩
    refine seqT (xs := ps.map V.ref) (fun i σ H' => H' = H ∧ comb .o ((gs.take i).map (Fm.holds s)) = false ∧ ∃ v, σ = [some (.ref p), some (.int (s : Int)), v]) ⟨rfl, rfl, _, rfl⟩ (fun i σ H' _ hp => by obtain ⟨rfl, _⟩ := hp; exact SqT.of htp) ?_ ?_
    · rintro i x σ H' hx ⟨rfl, hc, v, rfl⟩
      obtain ⟨p', rfl, hx'⟩ := get_ref hx
      obtain ⟨g, hgi, hf'⟩ := paired_get hg hx'
      obtain ⟨C, dx', fs', e', hC, hl⟩ := hf'.ins "holds" (by decide +kernel) (by decide +kernel) (by decide +kernel) (by decide +kernel)
      walk_at "rd"
      refine ⟨p', C, dx', fs', rfl, e', hC, hl, ?_⟩
      walk_at "rd"
      refine ⟨e', p', s, g, rfl, hf', ?_⟩
      walk_at "rd"
      refine i_ifb (fun hb => ?_) (fun hb => ?_)
      · walk_at "rd"
        have hz : (Fm.join .o gs).holds s = true := by
          rw [holds_join]
          have hm : g ∈ gs := List.mem_of_getElem? hgi
          simp only [comb]
          rw [List.any_eq_true]
          exact ⟨_, List.mem_map_of_mem hm, by simp [hb]⟩
        rw [hz] at q
        exact q
      · walk_at "rd"
        refine ⟨rfl, ?_, _, rfl⟩
        rw [take_snoc hgi, List.map_append, List.map_cons, List.map_nil, comb_snoc_o, hc, hb]
        rfl
    · rintro σ H' ⟨rfl, hc, v, rfl⟩
      walk_at "rd"
      rw [List.length_map, paired_len hg, List.take_length] at hc
      rw [holds_join, hc] at q
      exact q
theorem ok_Either_holds (T : Txt K mg t) (D_holds : ∀ C, isFm t C → MeS P w K mg base n C "holds" ["self", "stand"] (spAt (spHolds t n) C)) : MeS P w K mg base (n + 1) t.C_Either "holds" ["self", "stand"] (spAt (spHolds t (n + 1)) t.C_Either) := by
  refine ⟨T.c_Either, _, _, T.F_Either_holds.ok sc_Either_holds (fun vs H Q E h => ?_) (fun cdv A outer s H vs Q E hr h => ?_), T.b_Either_holds, T.h_Either_holds⟩
  · obtain ⟨⟨p, s, f, rfl, _⟩, _⟩ := h
    rfl
  · obtain ⟨⟨p, s, f, rfl, hf, q⟩, a, dx, fs, r, e, ea⟩ := h
    cases e
    obtain ⟨gs, tp, ps, rfl, rfl, htp, hg⟩ := hf.join (w := .e) T ea
    refine ⟨_, (pss_cons (ss 2 sc_Either_holds.nd pe_bl)
      (pss_cons (ps_for PassesOwn.never rfl (pi_seq (pe_fld (pv 0) rfl)) (sg 3 sc_Either_holds.nd)
      (pss_one (ps_if (pt_truth (pe_dy D_holds hr (pv 3) (pa_cons (pv 1) pa_nil)) (fun _ => rfl))
      (pss_one (ss 2 sc_Either_holds.nd (pe_notG (pv 2))))
      pss_nil)))
      (pss_one (ps_ret (pv 2))))), ?_⟩
    walk_at "rd0"
    refine ⟨p, _, _, _, _, rfl, ea, T.c_Either, T.n_Either_parts, lk1 _ _, ?_⟩
    refine seqT (xs := ps.map V.ref) (fun i σ H' => H' = H ∧ ∃ v, σ = [some (.ref p), some (.int (s : Int)), some (.bl (comb .e ((gs.take i).map (Fm.holds s)))), v]) ⟨rfl, _, rfl⟩ (fun i σ H' _ hp => by obtain ⟨rfl, _⟩ := hp; exact SqT.of htp) ?_ ?_
    · rintro i x σ H' hx ⟨rfl, v, rfl⟩
      obtain ⟨p', rfl, hx'⟩ := get_ref hx
      obtain ⟨g, hgi, hf'⟩ := paired_get hg hx'
      obtain ⟨C, dx', fs', e', hC, hl⟩ := hf'.ins "holds" (by decide +kernel) (by decide +kernel) (by decide +kernel) (by decide +kernel)
      have hs : comb .e ((gs.take (i + 1)).map (Fm.holds s)) = xor (comb .e ((gs.take i).map (Fm.holds s))) (g.holds s) := by
        rw [take_snoc hgi, List.map_append, List.map_cons, List.map_nil, comb_snoc_e]
      walk_at "rd"
      refine ⟨p', C, dx', fs', rfl, e', hC, hl, ?_⟩
      walk_at "rd"
      refine ⟨e', p', s, g, rfl, hf', ?_⟩
      walk_at "rd"
      refine i_ifb (fun hb => ?_) (fun hb => ?_)
      · walk_at "rd"
        refine ⟨rfl, some (.ref p'), ?_⟩
        rw [hs, hb, Bool.xor_true]
      · walk_at "rd"
        refine ⟨rfl, some (.ref p'), ?_⟩
        rw [hs, hb, Bool.xor_false]
    · rintro σ H' ⟨rfl, v, rfl⟩
      walk_at "rd"
      rw [List.length_map, paired_len hg, List.take_length]
      rw [holds_join] at q
      exact q
theorem me_none {C f : Addr} {fd : FuncData} {m : Str} {ps : List Str} {sp : Sp} (no : ∀ vs H Q E, ¬ sp vs H Q E) (c : Cls K C) (b : Binds K fd ps []) (h : Meth K C m f) : MeS P w K mg base 0 C m ps sp :=
  ⟨c, f, fd, ⟨fun vs H Q E h => absurd h (no vs H Q E), fun A outer s H args us vs Q E _ _ _ _ h => absurd h (no vs H Q E)⟩, b, h⟩
theorem D_holds_of (T : Txt K mg t) : ∀ n : Nat, ∀ C, isFm t C → MeS P w K mg base n C "holds" ["self", "stand"] (spAt (spHolds t n) C)
  | 0 => by
    have no : ∀ C vs H Q E, ¬ spAt (spHolds t 0) C vs H Q E := fun C vs H Q E h => by
      obtain ⟨⟨p, s, f, _, h, _⟩, _⟩ := h
      exact h
    rintro C (rfl | rfl | rfl | rfl | rfl | rfl)
    · exact me_none (no _) T.c_Lamp T.b_Lamp_holds T.h_Lamp_holds
    · exact me_none (no _) T.c_Sure T.b_Sure_holds T.h_Sure_holds
    · exact me_none (no _) T.c_Not T.b_Not_holds T.h_Not_holds
    · exact me_none (no _) T.c_And T.b_And_holds T.h_And_holds
    · exact me_none (no _) T.c_Either T.b_Either_holds T.h_Either_holds
    · exact me_none (no _) T.c_Or T.b_Or_holds T.h_Or_holds
  | n + 1 => by
    have ih := D_holds_of T n
    rintro C (rfl | rfl | rfl | rfl | rfl | rfl)
    · exact ok_Lamp_holds T
    · exact ok_Sure_holds T
    · exact ok_Not_holds T ih
    · exact ok_And_holds T ih
    · exact ok_Either_holds T ih
    · exact ok_Or_holds T ih
end

/-! ### crowd -/
theorem pow_small {m : Nat} (h : m ≤ 6) : (2 : Nat) ^ m ≤ 64 := Nat.le_trans (Nat.pow_le_pow_right (by decide) h) (by decide)
theorem shl_nat (m : Nat) : (1 : Int) * 2 ^ ((m : Int)).toNat = ((2 ^ m : Nat) : Int) := by
  simp
theorem or_one {f : Nat → Bool} {n : Nat} (h : f n = true) : Builtin.bitOr ((bits f n : Nat) : Int) (1 * 2 ^ (((0 : Int) + (n : Int))).toNat) = ((bits f (n + 1) : Nat) : Int) := by
  have e : (1 : Int) * 2 ^ (((0 : Int) + (n : Int))).toNat = ((2 ^ n : Nat) : Int) := by
    rw [Int.zero_add]; exact shl_nat n
  rw [e, or_nat, bits_or_one f n h]
section
variable {P : Program} {w : World} {K : PySem.W.Frag} {mg : Str → Option Value} {base : Heap} {t : Ad} {n : Nat}
def spAll : Sp := fun vs H Q _ => ∃ m : Nat, vs = [.int (m : Int)] ∧ m ≤ 6 ∧ Q (.int ((2 ^ 2 ^ m - 1 : Nat) : Int)) H
theorem ok_all_stands (T : Txt K mg t) : FnS P w K mg base 1 "all_stands" ["many"] spAll := by
  refine ⟨_, _, T.F_all_stands.ok sc_all_stands (fun vs H Q E h => ?_) (fun cdv A outer s H vs Q E hr h => ?_), T.b_all_stands, T.F_all_stands.kp, T.m_all_stands⟩
  · obtain ⟨m, rfl, _⟩ := h
    rfl
  · obtain ⟨m, rfl, hm, q⟩ := h
    have hp := pow_small hm
    have hp0 := Int.natCast_nonneg (2 ^ m)
    refine ⟨_, (pss_one (ps_ret (pe_op op_sub (pe_op op_shl pe_int (pe_op op_shl pe_int (pv 0))) pe_int))), ?_⟩
    walk_at "rd0"
    rw [shl_nat]
    refine i_rI ⟨by omega, by omega, by decide⟩ ?_
    walk_at "rd"
    have e : (1 : Int) * 2 ^ (((2 ^ m : Nat) : Int)).toNat - 1 = ((2 ^ 2 ^ m - 1 : Nat) : Int) := by
      rw [shl_nat]
      have : 1 ≤ 2 ^ 2 ^ m := Nat.one_le_two_pow
      omega
    rw [e]
    exact q
def spCrowd (t : Ad) (n : Nat) : Sp := fun vs H Q _ => ∃ (p : Addr) (m : Nat) (f : Fm), vs = [.ref p, .int (m : Int)] ∧ m ≤ 6 ∧ FmAt t H n p f ∧ Q (.int ((f.crowd (2 ^ m) : Nat) : Int)) H
theorem ok_Lamp_crowd (T : Txt K mg t) : MeS P w K mg base (n + 2) t.C_Lamp "crowd" ["self", "many"] (spAt (spCrowd t (n + 1)) t.C_Lamp) := by
  refine ⟨T.c_Lamp, _, _, T.F_Lamp_crowd.ok sc_Lamp_crowd (fun vs H Q E h => ?_) (fun cdv A outer s H vs Q E hr h => ?_), T.b_Lamp_crowd, T.h_Lamp_crowd⟩
  · obtain ⟨⟨p, m, f, rfl, _⟩, _⟩ := h
    rfl
  · obtain ⟨⟨p, m, f, rfl, hm, hf, q⟩, a, dx, fs, r, e, ea⟩ := h
    cases e
    have D_holds := D_holds_of (P := P) (w := w) (base := base) T (n + 1)
    have hp := pow_small hm
    have hp0 := Int.natCast_nonneg (2 ^ m)
    refine ⟨_, (pss_cons (ss 2 sc_Lamp_crowd.nd pe_int)
      (pss_cons (ps_for PassesOwn.never rfl (pi_range1 rfl T.B.range (pa_cons (pe_op op_shl pe_int (pv 1)) pa_nil)) (sg 3 sc_Lamp_crowd.nd)
      (pss_one (ps_if (pt_truth (pe_dy D_holds hr (pv 0) (pa_cons (pv 3) pa_nil)) (fun _ => rfl))
      (pss_one (ss 2 sc_Lamp_crowd.nd (pe_op op_or (pv 2) (pe_op op_shl pe_int (pv 3)))))
      pss_nil)))
      (pss_one (ps_ret (pv 2))))), ?_⟩
    walk_at "rd0"
    rw [shl_nat]
    refine ⟨_, rfl, by omega, by omega, ?_⟩
    rw [Int.toNat_natCast]
    refine loopR (fun i σ H' => H' = H ∧ ∃ v, σ = [some (.ref p), some (.int (m : Int)), some (.int ((f.crowd i : Nat) : Int)), v]) ⟨rfl, _, rfl⟩ ?_ ?_
    · rintro i σ H' hi ⟨rfl, v, rfl⟩
      obtain ⟨C, dx', fs', e', hC, hl⟩ := hf.ins "holds" (by decide +kernel) (by decide +kernel) (by decide +kernel) (by decide +kernel)
      walk_at "rd"
      refine ⟨p, C, dx', fs', rfl, e', hC, hl, ?_⟩
      walk_at "rd"
      have ei : (0 : Int) + (i : Int) = ((i : Nat) : Int) := Int.zero_add _
      refine ⟨e', p, i, f, by rw [ei], hf, ?_⟩
      walk_at "rd"
      refine i_ifb (fun hb => ?_) (fun hb => ?_)
      · walk_at "rd"
        refine ⟨rfl, some (.int (0 + (i : Int))), ?_⟩
        have e2 := or_one (f := fun s => f.holds s) (n := i) hb
        unfold Fm.crowd
        rw [e2]
        all_goals rfl
      · walk_at "rd"
        refine ⟨rfl, some (.int (0 + (i : Int))), ?_⟩
        unfold Fm.crowd
        rw [bits_skip (fun s => f.holds s) i hb]
        all_goals rfl
    · rintro σ H' ⟨rfl, v, rfl⟩
      walk_at "rd"
      exact q
theorem ok_Sure_crowd (T : Txt K mg t) : MeS P w K mg base (n + 2) t.C_Sure "crowd" ["self", "many"] (spAt (spCrowd t (n + 1)) t.C_Sure) := by
  refine ⟨T.c_Sure, _, _, T.F_Sure_crowd.ok sc_Sure_crowd (fun vs H Q E h => ?_) (fun cdv A outer s H vs Q E hr h => ?_), T.b_Sure_crowd, T.h_Sure_crowd⟩
  · obtain ⟨⟨p, m, f, rfl, _⟩, _⟩ := h
    rfl
  · obtain ⟨⟨p, m, f, rfl, hm, hf, q⟩, a, dx, fs, r, e, ea⟩ := h
    cases e
    obtain ⟨b, rfl, rfl⟩ := hf.sure T ea
    have G_all_stands := ok_all_stands (P := P) (w := w) (base := base) T
    rw [crowd_sure] at q
    refine ⟨_, (pss_one (ps_ret (pe_ifExp (pt_truth (pe_fld (pv 0) rfl) (fun _ => rfl)) (pe_fn G_all_stands hr (pa_cons (pv 1) pa_nil)) pe_int))), ?_⟩
    walk_at "rd0"
    refine ⟨p, _, _, _, _, rfl, ea, T.c_Sure, T.n_Sure_truth, lk1 _ _, ?_⟩
    walk_at "rd"
    refine i_ifb (fun hb => ?_) (fun hb => ?_)
    · subst hb
      walk_at "rd"
      exact ⟨m, rfl, hm, q⟩
    · subst hb
      walk_at "rd"
      exact q
theorem ok_Not_crowd (T : Txt K mg t) (D_crowd : ∀ C, isFm t C → MeS P w K mg base (n + 1) C "crowd" ["self", "many"] (spAt (spCrowd t n) C)) : MeS P w K mg base (n + 2) t.C_Not "crowd" ["self", "many"] (spAt (spCrowd t (n + 1)) t.C_Not) := by
  refine ⟨T.c_Not, _, _, T.F_Not_crowd.ok sc_Not_crowd (fun vs H Q E h => ?_) (fun cdv A outer s H vs Q E hr h => ?_), T.b_Not_crowd, T.h_Not_crowd⟩
  · obtain ⟨⟨p, m, f, rfl, _⟩, _⟩ := h
    rfl
  · obtain ⟨⟨p, m, f, rfl, hm, hf, q⟩, a, dx, fs, r, e, ea⟩ := h
    cases e
    have G_all_stands := ok_all_stands (P := P) (w := w) (base := base) T
    obtain ⟨g, p', rfl, rfl, hg⟩ := hf.neg T ea
    obtain ⟨C, dx', fs', e', hC, hl⟩ := hg.ins "crowd" (by decide +kernel) (by decide +kernel) (by decide +kernel) (by decide +kernel)
    refine ⟨_, (pss_one (ps_ret (pe_op op_xor (pe_fn G_all_stands hr (pa_cons (pv 1) pa_nil)) (pe_dy D_crowd hr (pe_fld (pv 0) rfl) (pa_cons (pv 1) pa_nil))))), ?_⟩
    walk_at "rd0"
    refine ⟨m, rfl, hm, ?_⟩
    walk_at "rd"
    refine ⟨p, _, _, _, _, rfl, ea, T.c_Not, T.n_Not_part, lk1 _ _, ?_⟩
    walk_at "rd"
    refine ⟨p', C, dx', fs', rfl, e', hC, hl, ?_⟩
    walk_at "rd"
    refine ⟨e', p', m, g, rfl, hm, hg, ?_⟩
    walk_at "rd"
    rw [crowd_neg] at q
    rw [xor_nat]
    exact q
theorem ok_And_crowd (T : Txt K mg t) (D_crowd : ∀ C, isFm t C → MeS P w K mg base (n + 1) C "crowd" ["self", "many"] (spAt (spCrowd t n) C)) : MeS P w K mg base (n + 2) t.C_And "crowd" ["self", "many"] (spAt (spCrowd t (n + 1)) t.C_And) := by
  refine ⟨T.c_And, _, _, T.F_And_crowd.ok sc_And_crowd (fun vs H Q E h => ?_) (fun cdv A outer s H vs Q E hr h => ?_), T.b_And_crowd, T.h_And_crowd⟩
  · obtain ⟨⟨p, m, f, rfl, _⟩, _⟩ := h
    rfl
  · obtain ⟨⟨p, m, f, rfl, hm, hf, q⟩, a, dx, fs, r, e, ea⟩ := h
    cases e
    have G_all_stands := ok_all_stands (P := P) (w := w) (base := base) T
    obtain ⟨gs, tp, ps, rfl, rfl, htp, hg⟩ := hf.join (w := .a) T ea
    refine ⟨_, (pss_cons (ss 2 sc_And_crowd.nd (pe_fn G_all_stands hr (pa_cons (pv 1) pa_nil)))
      (pss_cons (ps_for PassesOwn.never rfl (pi_seq (pe_fld (pv 0) rfl)) (sg 3 sc_And_crowd.nd)
      (pss_one (ss 2 sc_And_crowd.nd (pe_op op_and (pv 2) (pe_dy D_crowd hr (pv 3) (pa_cons (pv 1) pa_nil))))))
      (pss_one (ps_ret (pv 2))))), ?_⟩
    walk_at "rd0"
    refine ⟨m, rfl, hm, ?_⟩
    walk_at "rd"
    refine ⟨p, _, _, _, _, rfl, ea, T.c_And, T.n_And_parts, lk1 _ _, ?_⟩
    refine seqT (xs := ps.map V.ref) (fun i σ H' => H' = H ∧ ∃ v, σ = [some (.ref p), some (.int (m : Int)), some (.int (((Fm.join .a (gs.take i)).crowd (2 ^ m) : Nat) : Int)), v]) ⟨rfl, _, by rw [List.take_zero, crowd_join_nil]; simp only [unit3]; rw [bits_true]; all_goals rfl⟩ (fun i σ H' _ hp => by obtain ⟨rfl, _⟩ := hp; exact SqT.of htp) ?_ ?_
    · rintro i x σ H' hx ⟨rfl, v, rfl⟩
      obtain ⟨p', rfl, hx'⟩ := get_ref hx
      obtain ⟨g, hgi, hf'⟩ := paired_get hg hx'
      obtain ⟨C, dx', fs', e', hC, hl⟩ := hf'.ins "crowd" (by decide +kernel) (by decide +kernel) (by decide +kernel) (by decide +kernel)
      walk_at "rd"
      refine ⟨p', C, dx', fs', rfl, e', hC, hl, ?_⟩
      walk_at "rd"
      refine ⟨e', p', m, g, rfl, hm, hf', ?_⟩
      walk_at "rd"
      refine ⟨rfl, some (.ref p'), ?_⟩
      rw [and_nat, take_snoc hgi, crowd_join_snoc]
      all_goals rfl
    · rintro σ H' ⟨rfl, v, rfl⟩
      walk_at "rd"
      rw [List.length_map, paired_len hg, List.take_length]
      exact q
theorem ok_Either_crowd (T : Txt K mg t) (D_crowd : ∀ C, isFm t C → MeS P w K mg base (n + 1) C "crowd" ["self", "many"] (spAt (spCrowd t n) C)) : MeS P w K mg base (n + 2) t.C_Either "crowd" ["self", "many"] (spAt (spCrowd t (n + 1)) t.C_Either) := by
  refine ⟨T.c_Either, _, _, T.F_Either_crowd.ok sc_Either_crowd (fun vs H Q E h => ?_) (fun cdv A outer s H vs Q E hr h => ?_), T.b_Either_crowd, T.h_Either_crowd⟩
  · obtain ⟨⟨p, m, f, rfl, _⟩, _⟩ := h
    rfl
  · obtain ⟨⟨p, m, f, rfl, hm, hf, q⟩, a, dx, fs, r, e, ea⟩ := h
    cases e
    have G_all_stands := ok_all_stands (P := P) (w := w) (base := base) T
    obtain ⟨gs, tp, ps, rfl, rfl, htp, hg⟩ := hf.join (w := .e) T ea
    refine ⟨_, (pss_cons (ss 2 sc_Either_crowd.nd pe_int)
      (pss_cons (ps_for PassesOwn.never rfl (pi_seq (pe_fld (pv 0) rfl)) (sg 3 sc_Either_crowd.nd)
      (pss_one (ss 2 sc_Either_crowd.nd (pe_op op_xor (pv 2) (pe_dy D_crowd hr (pv 3) (pa_cons (pv 1) pa_nil))))))
      (pss_one (ps_ret (pv 2))))), ?_⟩
    walk_at "rd0"
    refine ⟨p, _, _, _, _, rfl, ea, T.c_Either, T.n_Either_parts, lk1 _ _, ?_⟩
    refine seqT (xs := ps.map V.ref) (fun i σ H' => H' = H ∧ ∃ v, σ = [some (.ref p), some (.int (m : Int)), some (.int (((Fm.join .e (gs.take i)).crowd (2 ^ m) : Nat) : Int)), v]) ⟨rfl, _, by rw [List.take_zero, crowd_join_nil]; simp only [unit3]; rw [bits_false]; all_goals rfl⟩ (fun i σ H' _ hp => by obtain ⟨rfl, _⟩ := hp; exact SqT.of htp) ?_ ?_
    · rintro i x σ H' hx ⟨rfl, v, rfl⟩
      obtain ⟨p', rfl, hx'⟩ := get_ref hx
      obtain ⟨g, hgi, hf'⟩ := paired_get hg hx'
      obtain ⟨C, dx', fs', e', hC, hl⟩ := hf'.ins "crowd" (by decide +kernel) (by decide +kernel) (by decide +kernel) (by decide +kernel)
      walk_at "rd"
      refine ⟨p', C, dx', fs', rfl, e', hC, hl, ?_⟩
      walk_at "rd"
      refine ⟨e', p', m, g, rfl, hm, hf', ?_⟩
      walk_at "rd"
      refine ⟨rfl, some (.ref p'), ?_⟩
      rw [xor_nat, take_snoc hgi, crowd_join_snoc]
      all_goals rfl
    · rintro σ H' ⟨rfl, v, rfl⟩
      walk_at "rd"
      rw [List.length_map, paired_len hg, List.take_length]
      exact q
theorem ok_Or_crowd (T : Txt K mg t) (D_crowd : ∀ C, isFm t C → MeS P w K mg base (n + 1) C "crowd" ["self", "many"] (spAt (spCrowd t n) C)) : MeS P w K mg base (n + 2) t.C_Or "crowd" ["self", "many"] (spAt (spCrowd t (n + 1)) t.C_Or) := by
  refine ⟨T.c_Or, _, _, T.F_Or_crowd.ok sc_Or_crowd (fun vs H Q E h => ?_) (fun cdv A outer s H vs Q E hr h => ?_), T.b_Or_crowd, T.h_Or_crowd⟩
  · obtain ⟨⟨p, m, f, rfl, _⟩, _⟩ := h
    rfl
  · obtain ⟨⟨p, m, f, rfl, hm, hf, q⟩, a, dx, fs, r, e, ea⟩ := h
    cases e
    have G_all_stands := ok_all_stands (P := P) (w := w) (base := base) T
    obtain ⟨gs, tp, ps, rfl, rfl, htp, hg⟩ := hf.join (w := .o) T ea
    refine ⟨_, (pss_cons (ss 2 sc_Or_crowd.nd pe_int)
      (pss_cons (ps_for PassesOwn.never rfl (pi_seq (pe_fld (pv 0) rfl)) (sg 3 sc_Or_crowd.nd)
      (pss_one (ss 2 sc_Or_crowd.nd (pe_op op_or (pv 2) (pe_dy D_crowd hr (pv 3) (pa_cons (pv 1) pa_nil))))))
      (pss_one (ps_ret (pv 2))))), ?_⟩
    walk_at "rd0"
    refine ⟨p, _, _, _, _, rfl, ea, T.c_Or, T.n_Or_parts, lk1 _ _, ?_⟩
    refine seqT (xs := ps.map V.ref) (fun i σ H' => H' = H ∧ ∃ v, σ = [some (.ref p), some (.int (m : Int)), some (.int (((Fm.join .o (gs.take i)).crowd (2 ^ m) : Nat) : Int)), v]) ⟨rfl, _, by rw [List.take_zero, crowd_join_nil]; simp only [unit3]; rw [bits_false]; all_goals rfl⟩ (fun i σ H' _ hp => by obtain ⟨rfl, _⟩ := hp; exact SqT.of htp) ?_ ?_
    · rintro i x σ H' hx ⟨rfl, v, rfl⟩
      obtain ⟨p', rfl, hx'⟩ := get_ref hx
      obtain ⟨g, hgi, hf'⟩ := paired_get hg hx'
      obtain ⟨C, dx', fs', e', hC, hl⟩ := hf'.ins "crowd" (by decide +kernel) (by decide +kernel) (by decide +kernel) (by decide +kernel)
      walk_at "rd"
      refine ⟨p', C, dx', fs', rfl, e', hC, hl, ?_⟩
      walk_at "rd"
      refine ⟨e', p', m, g, rfl, hm, hf', ?_⟩
      walk_at "rd"
      refine ⟨rfl, some (.ref p'), ?_⟩
      rw [or_nat, take_snoc hgi, crowd_join_snoc]
      all_goals rfl
    · rintro σ H' ⟨rfl, v, rfl⟩
      walk_at "rd"
      rw [List.length_map, paired_len hg, List.take_length]
      exact q
theorem D_crowd_of (T : Txt K mg t) : ∀ n : Nat, ∀ C, isFm t C → MeS P w K mg base (n + 1) C "crowd" ["self", "many"] (spAt (spCrowd t n) C)
  | 0 => by
    have no : ∀ C vs H Q E, ¬ spAt (spCrowd t 0) C vs H Q E := fun C vs H Q E h => by
      obtain ⟨⟨p, s, f, _, _, h, _⟩, _⟩ := h
      exact h
    rintro C (rfl | rfl | rfl | rfl | rfl | rfl)
    · exact (me_none (no _) T.c_Lamp T.b_Lamp_crowd T.h_Lamp_crowd).up (by omega)
    · exact (me_none (no _) T.c_Sure T.b_Sure_crowd T.h_Sure_crowd).up (by omega)
    · exact (me_none (no _) T.c_Not T.b_Not_crowd T.h_Not_crowd).up (by omega)
    · exact (me_none (no _) T.c_And T.b_And_crowd T.h_And_crowd).up (by omega)
    · exact (me_none (no _) T.c_Either T.b_Either_crowd T.h_Either_crowd).up (by omega)
    · exact (me_none (no _) T.c_Or T.b_Or_crowd T.h_Or_crowd).up (by omega)
  | n + 1 => by
    have ih := D_crowd_of T n
    rintro C (rfl | rfl | rfl | rfl | rfl | rfl)
    · exact ok_Lamp_crowd T
    · exact ok_Sure_crowd T
    · exact ok_Not_crowd T ih
    · exact ok_And_crowd T ih
    · exact ok_Either_crowd T ih
    · exact ok_Or_crowd T ih
end

section
variable {P : Program} {w : World} {K : PySem.W.Frag} {mg : Str → Option Value} {base : Heap} {t : Ad} {n : Nat}
def spWhole : Sp := fun vs H Q _ => ∃ i : Int, vs = [.int i] ∧ Q (.bl true) H
theorem ok_whole (T : Txt K mg t) : FnS P w K mg base 1 "_law_whole" ["_law_found"] spWhole := by
  refine ⟨_, _, T.F__law_whole.ok sc__law_whole (fun vs H Q E h => ?_) (fun cdv A outer s H vs Q E hr h => ?_), T.b__law_whole, T.F__law_whole.kp, T.m__law_whole⟩
  · obtain ⟨i, rfl, _⟩ := h
    rfl
  · obtain ⟨i, rfl, q⟩ := h
    refine ⟨_, (pss_one (ps_ret (pe_and (pe_callB call_isi rfl T.B.isinstance bt_isinstance (pa_cons (pv 0) (pa_cons (pe_bltn (v := .ty "int") rfl T.B.int bt_int rfl) pa_nil))) (pe_one (pe_notG (pe_callB call_isi rfl T.B.isinstance bt_isinstance (pa_cons (pv 0) (pa_cons (pe_bltn (v := .ty "bool") rfl T.B.bool bt_bool rfl) pa_nil)))))))), ?_⟩
    walk_at "rd0"
    refine i_ifT rfl ?_
    walk_at "rd"
    exact q
def full : Nat := 2 ^ 64 - 1
def spFull : Sp := fun vs H Q _ => vs = [] ∧ Q (.int ((full : Nat) : Int)) H
theorem ok_full (T : Txt K mg t) : FnS P w K mg base 1 "_law_full" [] spFull := by
  refine ⟨_, _, T.F__law_full.ok sc__law_full (fun vs H Q E h => ?_) (fun cdv A outer s H vs Q E hr h => ?_), T.b__law_full, T.F__law_full.kp, T.m__law_full⟩
  · obtain ⟨rfl, _⟩ := h
    rfl
  · obtain ⟨rfl, q⟩ := h
    refine ⟨_, (pss_one (ps_ret (pe_op op_sub (pe_op op_shl pe_int pe_int) pe_int))), ?_⟩
    walk_at "rd0"
    exact q
def spLampCrowd : Sp := fun vs H Q _ => ∃ k : Nat, vs = [.int (k : Int)] ∧ Q (.int (((Fm.lamp k).crowd 64 : Nat) : Int)) H
theorem ok_lamp_crowd (T : Txt K mg t) : FnS P w K mg base 1 "_law_lamp_crowd" ["_law_at"] spLampCrowd := by
  refine ⟨_, _, T.F__law_lamp_crowd.ok sc__law_lamp_crowd (fun vs H Q E h => ?_) (fun cdv A outer s H vs Q E hr h => ?_), T.b__law_lamp_crowd, T.F__law_lamp_crowd.kp, T.m__law_lamp_crowd⟩
  · obtain ⟨k, rfl, _⟩ := h
    rfl
  · obtain ⟨k, rfl, q⟩ := h
    refine ⟨_, (pss_cons (ss 1 sc__law_lamp_crowd.nd pe_int)
      (pss_cons (ps_for PassesOwn.never rfl (pi_range1 rfl T.B.range (pa_cons pe_int pa_nil)) (sg 2 sc__law_lamp_crowd.nd)
      (pss_one (ps_if (pt_cmpR (op_eqA hr.units) (pe_op op_and (pe_op op_shr (pv 2) (pv 0)) pe_int) pe_int (nomark _))
      (pss_one (ss 1 sc__law_lamp_crowd.nd (pe_op op_or (pv 1) (pe_op op_shl pe_int (pv 2)))))
      pss_nil)))
      (pss_one (ps_ret (pv 1))))), ?_⟩
    walk_at "rd0"
    refine ⟨_, rfl, by decide, by decide, ?_⟩
    refine loopR (fun i σ H' => H' = H ∧ ∃ v, σ = [some (.int (k : Int)), some (.int (((Fm.lamp k).crowd i : Nat) : Int)), v]) ⟨rfl, _, rfl⟩ ?_ ?_
    · rintro i σ H' hi ⟨rfl, v, rfl⟩
      have ei : (0 : Int) + (i : Int) = ((i : Nat) : Int) := Int.zero_add _
      walk_at "rd"
      rw [ei, lit_eq]
      refine i_ifb (fun hb => ?_) (fun hb => ?_)
      · walk_at "rd"
        refine ⟨rfl, some (.int (i : Int)), ?_⟩
        have e2 := or_one (f := fun s => (Fm.lamp k).holds s) (n := i) (by simpa [Fm.holds] using hb)
        rw [ei] at e2
        unfold Fm.crowd
        rw [e2]
        all_goals rfl
      · walk_at "rd"
        refine ⟨rfl, some (.int (i : Int)), ?_⟩
        unfold Fm.crowd
        rw [bits_skip (fun s => (Fm.lamp k).holds s) i (by simpa [Fm.holds] using hb)]
        all_goals rfl
    · rintro σ H' ⟨rfl, v, rfl⟩
      walk_at "rd"
      exact q
/-- the leaf that a cell tells -/
def leafF (c : Int) (m : Nat) : Fm := if c % ((m : Int) + 1) = (m : Int) then .sure (decide (c / ((m : Int) + 1) % 2 = 0)) else .lamp (c % ((m : Int) + 1)).toNat
def spLeaf (t : Ad) : Sp := fun vs H Q _ => ∃ (c : Int) (m : Nat), vs = [.int c, .int (m : Int)] ∧ m ≤ 6 ∧ ∀ p H', Same H H' → FmAt t H' 1 p (leafF c m) → Q (.ref p) H'
theorem ok_leaf (T : Txt K mg t) : FnS P w K mg base 3 "_law_leaf" ["_law_cell", "_law_many"] (spLeaf t) := by
  refine ⟨_, _, T.F__law_leaf.ok sc__law_leaf (fun vs H Q E h => ?_) (fun cdv A outer s H vs Q E hr h => ?_), T.b__law_leaf, T.F__law_leaf.kp, T.m__law_leaf⟩
  · obtain ⟨c, m, rfl, _⟩ := h
    rfl
  · obtain ⟨c, m, rfl, hm, q⟩ := h
    have M_Lamp := ok_Lamp (P := P) (w := w) (base := base) T
    have M_Sure := ok_Sure (P := P) (w := w) (base := base) T
    refine ⟨_, (pss_cons (ss 2 sc__law_leaf.nd (pe_op op_mod (pv 0) (pe_op op_addG (pv 1) pe_int)))
      (pss_cons (ps_if (pt_cmpR (op_eqA hr.units) (pv 2) (pv 1) (nomark _))
      (pss_one (ps_ret (pe_mk M_Sure hr (pa_cons (pe_cmpR (op_eqA hr.units) (pe_op op_mod (pe_op op_fdivG (pv 0) (pe_op op_addG (pv 1) pe_int)) pe_int) pe_int (nomark _)) pa_nil))))
      pss_nil)
      (pss_one (ps_ret (pe_mk M_Lamp hr (pa_cons (pv 2) pa_nil)))))), ?_⟩
    walk_at "rd0"
    refine i_ifd (fun h => ?_) (fun h => ?_)
    · walk_at "rd"
      refine i_init1 fun x dx H' s1 hx e1 => q x H' s1 ?_
      unfold leafF
      rw [if_pos h]
      exact ⟨dx, e1⟩
    · walk_at "rd"
      have h1 := Int.emod_nonneg c (show ((m : Int) + 1) ≠ 0 by omega)
      refine i_init1 fun x dx H' s1 hx e1 => q x H' s1 ?_
      unfold leafF
      rw [if_neg h]
      refine ⟨dx, ?_⟩
      rw [Int.toNat_of_nonneg h1]
      exact e1
def spLeafCrowd : Sp := fun vs H Q _ => ∃ (c : Int) (m : Nat), vs = [.int c, .int (m : Int)] ∧ m ≤ 6 ∧ Q (.int (((leafF c m).crowd 64 : Nat) : Int)) H
theorem ok_leaf_crowd (T : Txt K mg t) : FnS P w K mg base 2 "_law_leaf_crowd" ["_law_cell", "_law_many"] spLeafCrowd := by
  refine ⟨_, _, T.F__law_leaf_crowd.ok sc__law_leaf_crowd (fun vs H Q E h => ?_) (fun cdv A outer s H vs Q E hr h => ?_), T.b__law_leaf_crowd, T.F__law_leaf_crowd.kp, T.m__law_leaf_crowd⟩
  · obtain ⟨c, m, rfl, _⟩ := h
    rfl
  · obtain ⟨c, m, rfl, hm, q⟩ := h
    have G__law_full := ok_full (P := P) (w := w) (base := base) T
    have G__law_lamp_crowd := ok_lamp_crowd (P := P) (w := w) (base := base) T
    refine ⟨_, (pss_cons (ss 2 sc__law_leaf_crowd.nd (pe_op op_mod (pv 0) (pe_op op_addG (pv 1) pe_int)))
      (pss_cons (ps_if (pt_cmpR (op_eqA hr.units) (pv 2) (pv 1) (nomark _))
      (pss_one (ps_ret (pe_op op_mulG (pe_fn0 G__law_full hr) (pe_callTy call_intG rfl T.B.int bt_int (pa_cons (pe_cmpR (op_eqA hr.units) (pe_op op_mod (pe_op op_fdivG (pv 0) (pe_op op_addG (pv 1) pe_int)) pe_int) pe_int (nomark _)) pa_nil)))))
      pss_nil)
      (pss_one (ps_ret (pe_fn G__law_lamp_crowd hr (pa_cons (pv 2) pa_nil)))))), ?_⟩
    walk_at "rd0"
    refine i_ifd (fun h => ?_) (fun h => ?_)
    · walk_at "rd"
      refine ⟨rfl, ?_⟩
      walk_at "rd"
      refine i_mulI (.inl ⟨by decide, by decide⟩) ?_
      walk_at "rd"
      have e : ((full : Nat) : Int) * (if decide (c / ((m : Int) + 1) % 2 = 0) = true then 1 else 0) = (((leafF c m).crowd 64 : Nat) : Int) := by
        unfold leafF
        rw [if_pos h, crowd_sure]
        split
        · rw [Int.mul_one]; rfl
        · rw [Int.mul_zero]; rfl
      rw [e]
      exact q
    · walk_at "rd"
      have h1 := Int.emod_nonneg c (show ((m : Int) + 1) ≠ 0 by omega)
      refine ⟨(c % ((m : Int) + 1)).toNat, by rw [Int.toNat_of_nonneg h1], ?_⟩
      unfold leafF at q
      rw [if_neg h] at q
      exact q
def wd (i : Int) : W3 := if i = 0 then .e else if i = 1 then .a else .o
def spJoined (t : Ad) : Sp := fun vs H Q _ => ∃ (i : Int) (l : Addr) (ps : List Addr) (gs : List Fm) (n : Nat), vs = [.int i, .ref l] ∧ H l = some (.lst (ps.map V.ref)) ∧ ps.length ≤ 100 ∧ Paired (FmAt t H n) ps gs ∧
  ∀ p H', Same H H' → FmAt t H' (n + 1) p (.join (wd i) gs) → Q (.ref p) H'
theorem ok_joined (T : Txt K mg t) : FnS P w K mg base 3 "_law_joined" ["_law_word", "_law_parts"] (spJoined t) := by
  refine ⟨_, _, T.F__law_joined.ok sc__law_joined (fun vs H Q E h => ?_) (fun cdv A outer s H vs Q E hr h => ?_), T.b__law_joined, T.F__law_joined.kp, T.m__law_joined⟩
  · obtain ⟨i, l, ps, gs, n, rfl, _⟩ := h
    rfl
  · obtain ⟨i, l, ps, gs, n, rfl, hl, hz, hg, q⟩ := h
    have M_And := ok_And (P := P) (w := w) (base := base) T
    have M_Or := ok_Or (P := P) (w := w) (base := base) T
    have M_Either := ok_Either (P := P) (w := w) (base := base) T
    have M_Sure := ok_Sure (P := P) (w := w) (base := base) T
    have hz' : (ps.map V.ref).length < 1000000 := by rw [List.length_map]; omega
    refine ⟨_, (pss_cons (ss 2 sc__law_joined.nd (pe_callTy call_listG rfl T.B.list bt_list (pa_cons (pv 1) pa_nil)))
      (pss_cons (ps_if (pt_cmpR (op_eqA hr.units) (pv 0) pe_int (nomark _))
      (pss_one (ss 3 sc__law_joined.nd (pe_mk M_Either hr (pa_cons (pv 2) pa_nil))))
      (pss_one (ps_if (pt_cmpR (op_eqA hr.units) (pv 0) pe_int (nomark _))
      (pss_one (ss 3 sc__law_joined.nd (pe_mk M_And hr (pa_cons (pv 2) pa_nil))))
      (pss_one (ss 3 sc__law_joined.nd (pe_mk M_Or hr (pa_cons (pv 2) pa_nil)))))))
      (pss_cons (ps_expr (pe_bm PySem.F.plainAttrs_list PySem.F.slot_list_append PySem.F.type_list_append mt_append (pv 2) (pa_cons (pe_mk M_Sure hr (pa_cons (pe_cmpR (op_neA hr.units) (pv 0) pe_int (nomark _)) pa_nil)) pa_nil)))
      (pss_one (ps_ret (pv 3)))))), ?_⟩
    walk_at "rd0"
    refine i_listL hl fun l2 hl2 => ?_
    have s1 : Same H (upd H l2 (.lst (ps.map V.ref))) := same_new hl2 _
    have e1 : (upd H l2 (.lst (ps.map V.ref))) l2 = some (.lst (ps.map V.ref)) := upd_same
    generalize upd H l2 (.lst (ps.map V.ref)) = H1 at s1 e1 ⊢
    walk_at "rd"
    have fin : ∀ (C : Addr) (v : W3), C = cw t v → v = wd i → ∀ (x dx tp : Addr) (H' : Hp), Same H1 H' → H' x = some (.ins C dx [(("parts" : Str), .ref tp)]) → H' tp = some (.tup (ps.map V.ref)) → ∀ H2, Same H' H2 → ∀ o, Q (.ref x) (upd H2 l2 o) := by
      rintro C v rfl rfl x dx tp H' s2 ex et H2 s3 o
      have s4 : Same H (upd H2 l2 o) := fun b u e => by
        rw [upd_ne (ne_of_none e hl2)]; exact s3 _ _ (s2 _ _ (s1 _ _ e))
      have hx : (upd H2 l2 o) x = some (.ins (cw t (wd i)) dx [(("parts" : Str), .ref tp)]) := by
        rw [upd_ne (ne_of (s3 _ _ ex) (s3 _ _ (s2 _ _ e1)) (fun z => nomatch z))]; exact s3 _ _ ex
      have ht : (upd H2 l2 o) tp = some (.tup (ps.map V.ref)) := by
        rw [upd_ne (ne_of (s3 _ _ et) (s3 _ _ (s2 _ _ e1)) (fun z => nomatch z))]; exact s3 _ _ et
      exact q x _ s4 ⟨dx, tp, ps, hx, ht, paired_imp (fun a b h => FmAt.mono (Ext.of s4) h) hg⟩
    refine i_ifd (fun h => ?_) (fun h => ?_)
    · walk_at "rd"
      refine i_initJ e1 fun x dx tp H' s2 hx ex et => ?_
      walk_at "rd"
      refine ⟨tyL (s2 _ _ e1), ?_⟩
      walk_at "rd"
      refine i_init1 fun y dy H2 s3 hy ey => ?_
      walk_at "rd"
      refine i_append (s3 _ _ (s2 _ _ e1)) (smallL hz') ?_
      walk_at "rd"
      exact fin _ .e rfl (by unfold wd; rw [if_pos h]) x dx tp H' s2 ex et H2 s3 _
    · walk_at "rd"
      refine i_ifd (fun h' => ?_) (fun h' => ?_)
      · walk_at "rd"
        refine i_initJ e1 fun x dx tp H' s2 hx ex et => ?_
        walk_at "rd"
        refine ⟨tyL (s2 _ _ e1), ?_⟩
        walk_at "rd"
        refine i_init1 fun y dy H2 s3 hy ey => ?_
        walk_at "rd"
        refine i_append (s3 _ _ (s2 _ _ e1)) (smallL hz') ?_
        walk_at "rd"
        exact fin _ .a rfl (by unfold wd; rw [if_neg h, if_pos h']) x dx tp H' s2 ex et H2 s3 _
      · walk_at "rd"
        refine i_initJ e1 fun x dx tp H' s2 hx ex et => ?_
        walk_at "rd"
        refine ⟨tyL (s2 _ _ e1), ?_⟩
        walk_at "rd"
        refine i_init1 fun y dy H2 s3 hy ey => ?_
        walk_at "rd"
        refine i_append (s3 _ _ (s2 _ _ e1)) (smallL hz') ?_
        walk_at "rd"
        exact fin _ .o rfl (by unfold wd; rw [if_neg h, if_neg h']) x dx tp H' s2 ex et H2 s3 _
end
section
variable {P : Program} {w : World} {K : PySem.W.Frag} {mg : Str → Option Value} {base : Heap} {t : Ad} {n : Nat}
def cint (f : Fm) : V := .int ((f.crowd 64 : Nat) : Int)
def spJoinedCrowd (K : PySem.W.Frag) : Sp := fun vs H Q _ => ∃ (i : Int) (l : Addr) (gs : List Fm), vs = [.int i, .ref l] ∧ H l = some (.lst (gs.map cint)) ∧ gs ≠ [] ∧ ∀ H', Same H H' → Q (cint (.join (wd i) gs)) H'
theorem get_cint {gs : List Fm} {i : Nat} {x : V} (h : (gs.map cint)[i]? = some x) : ∃ g, x = cint g ∧ gs[i]? = some g := by
  rw [List.getElem?_map] at h
  cases e : gs[i]? with
  | none => rw [e] at h; cases h
  | some g => rw [e] at h; exact ⟨g, (Option.some.inj h).symm, rfl⟩
theorem ok_joined_crowd (T : Txt K mg t) : FnS P w K mg base 1 "_law_joined_crowd" ["_law_word", "_law_crowds"] (spJoinedCrowd K) := by
  refine ⟨_, _, T.F__law_joined_crowd.ok sc__law_joined_crowd (fun vs H Q E h => ?_) (fun cdv A outer s H vs Q E hr h => ?_), T.b__law_joined_crowd, T.F__law_joined_crowd.kp, T.m__law_joined_crowd⟩
  · obtain ⟨i, l, gs, rfl, _⟩ := h
    rfl
  · obtain ⟨i, l, gs, rfl, hl, hne, q⟩ := h
    obtain ⟨g0, gr, rfl⟩ : ∃ g0 gr, gs = g0 :: gr := by
      cases gs with
      | nil => exact absurd rfl hne
      | cons a b => exact ⟨a, b, rfl⟩
    refine ⟨_, (pss_cons (ss 2 sc__law_joined_crowd.nd (pe_ix ix_seq (pv 1) pe_int (fun _ _ => rfl)))
      (pss_cons (ps_for PassesOwn.never rfl (pi_seq (pe_slice sl_any (pv 1) (po_some pe_int) po_none)) (sg 3 sc__law_joined_crowd.nd)
      (pss_one (ps_if (pt_cmpR (op_eqA hr.units) (pv 0) pe_int (nomark _))
      (pss_one (ss 2 sc__law_joined_crowd.nd (pe_op op_xor (pv 2) (pv 3))))
      (pss_one (ps_if (pt_cmpR (op_eqA hr.units) (pv 0) pe_int (nomark _))
      (pss_one (ss 2 sc__law_joined_crowd.nd (pe_op op_and (pv 2) (pv 3))))
      (pss_one (ss 2 sc__law_joined_crowd.nd (pe_op op_or (pv 2) (pv 3)))))))))
      (pss_one (ps_ret (pv 2))))), ?_⟩
    walk_at "rd0"
    refine i_ixL (j := 0) hl (v := cint g0) rfl ?_
    walk_at "rd"
    refine .inl (i_slL hl fun l2 hl2 => ?_)
    have ec : cutV ((g0 :: gr).map cint) (some 1) none = gr.map cint := cut_from (k := 1) (by simp)
    rw [ec]
    have s1 := same_new hl2 (.lst (gr.map cint))
    have e1 : (upd H l2 (.lst (gr.map cint))) l2 = some (.lst (gr.map cint)) := upd_same
    generalize upd H l2 (.lst (gr.map cint)) = H1 at s1 e1 ⊢
    refine seqL (xs := gr.map cint) (fun j σ H' => H' = H1 ∧ ∃ v, σ = [some (.int i), some (.ref l), some (cint (.join (wd i) (g0 :: gr.take j))), v]) ⟨rfl, none, by unfold cint; rw [List.take_zero, crowd_join_one]⟩ (fun j σ H' _ hp => by obtain ⟨rfl, _⟩ := hp; exact SqL.of e1) ?_ ?_
    · rintro j x σ H' hx ⟨rfl, v, rfl⟩
      obtain ⟨g, rfl, hg⟩ := get_cint hx
      have es : ∀ u : W3, (Fm.join u (g0 :: gr.take (j + 1))).crowd 64 = bcomb u ((Fm.join u (g0 :: gr.take j)).crowd 64) (g.crowd 64) := fun u => by
        rw [take_snoc hg, ← List.cons_append, crowd_join_snoc]
      unfold cint
      walk_at "rd"
      refine i_ifd (fun h => ?_) (fun h => ?_)
      · walk_at "rd"
        have ew : wd i = .e := by unfold wd; rw [if_pos h]
        refine ⟨rfl, some (cint g), ?_⟩
        unfold cint
        rw [xor_nat, es, ew]
        all_goals rfl
      · walk_at "rd"
        refine i_ifd (fun h' => ?_) (fun h' => ?_)
        · walk_at "rd"
          have ew : wd i = .a := by unfold wd; rw [if_neg h, if_pos h']
          refine ⟨rfl, some (cint g), ?_⟩
          unfold cint
          rw [and_nat, es, ew]
          all_goals rfl
        · walk_at "rd"
          have ew : wd i = .o := by unfold wd; rw [if_neg h, if_neg h']
          refine ⟨rfl, some (cint g), ?_⟩
          unfold cint
          rw [or_nat, es, ew]
          all_goals rfl
    · rintro σ H' ⟨rfl, v, rfl⟩
      walk_at "rd"
      rw [List.length_map, List.take_length]
      exact q _ s1
def spCounted (t : Ad) (n : Nat) : Sp := fun vs H Q _ => ∃ (p : Addr) (m : Nat) (f : Fm), vs = [.ref p, .int (m : Int), cint f] ∧ m ≤ 6 ∧ FmAt t H n p f ∧ Q (.bl true) H
theorem ok_counted (T : Txt K mg t) : FnS P w K mg base (n + 2) "_law_counted" ["_law_formula", "_law_many", "_law_due"] (spCounted t n) := by
  refine ⟨_, _, T.F__law_counted.ok sc__law_counted (fun vs H Q E h => ?_) (fun cdv A outer s H vs Q E hr h => ?_), T.b__law_counted, T.F__law_counted.kp, T.m__law_counted⟩
  · obtain ⟨p, m, f, rfl, _⟩ := h
    rfl
  · obtain ⟨p, m, f, rfl, hm, hf, q⟩ := h
    have D_crowd := D_crowd_of (P := P) (w := w) (base := base) T n
    have G__law_whole := ok_whole (P := P) (w := w) (base := base) T
    obtain ⟨C, dx', fs', e', hC, hl⟩ := hf.ins "crowd" (by decide +kernel) (by decide +kernel) (by decide +kernel) (by decide +kernel)
    have hp := pow_small hm
    have hp0 := Int.natCast_nonneg (2 ^ m)
    refine ⟨_, (pss_cons (ss 3 sc__law_counted.nd (pe_dy D_crowd hr (pv 0) (pa_cons (pv 1) pa_nil)))
      (pss_one (ps_ret (pe_and (pe_fn G__law_whole hr (pa_cons (pv 3) pa_nil)) (pe_one (pe_cmpR (op_eqA hr.units) (pv 3) (pe_op op_and (pv 2) (pe_op op_sub (pe_op op_shl pe_int (pe_op op_shl pe_int (pv 1))) pe_int)) (nomark _))))))), ?_⟩
    walk_at "rd0"
    refine ⟨p, C, dx', fs', rfl, e', hC, hl, ?_⟩
    walk_at "rd"
    refine ⟨e', p, m, f, rfl, hm, hf, ?_⟩
    walk_at "rd"
    refine ⟨_, rfl, ?_⟩
    walk_at "rd"
    refine i_ifT rfl ?_
    unfold cint
    walk_at "rd"
    rw [shl_nat]
    refine i_rI ⟨by omega, by omega, by decide⟩ ?_
    walk_at "rd"
    rw [shl_nat]
    have e1 : ((2 ^ 2 ^ m : Nat) : Int) - 1 = ((2 ^ 2 ^ m - 1 : Nat) : Int) := by
      have : 1 ≤ 2 ^ 2 ^ m := Nat.one_le_two_pow
      omega
    rw [e1, and_nat, crowd_mask f hp, decide_eq_true rfl]
    exact q
end
-- CUT
section
variable {P : Program} {w : World} {K : PySem.W.Frag} {mg : Str → Option Value} {base : Heap} {t : Ad} {n : Nat}
/-- between two turns: the pile of formulas at mp, that of their crowds at cp, the cells at l -/
structure LS (K : PySem.W.Frag) (sc : Addr) (ns : List Int) (t : Ad) (n : Nat) (H : Hp) (mp cp l : Addr) (cs : List Int) (ps : List Addr) (gs : List Fm) : Prop where
  fm : H mp = some (.lst (ps.map V.ref))
  fc : H cp = some (.lst (gs.map cint))
  fl : H l = some (.lst (cs.map V.int))
  ff : Paired (FmAt t H n) ps gs
  ne : ps ≠ []
  lm : l ≠ mp
  lc : l ≠ cp
  mc : mp ≠ cp
  sz : ps.length ≤ n
  sr : Scr K H sc (ns.map V.int)
theorem fm_up {H H' : Hp} {n m : Nat} {ps : List Addr} {gs : List Fm} (s : Ext H H') (h : n ≤ m) (f : Paired (FmAt t H n) ps gs) : Paired (FmAt t H' m) ps gs := paired_imp (fun a b q => FmAt.le h (FmAt.mono s q)) f
theorem ok_law (T : Txt K mg t) : FnOk P w K mg base CX0 60 t.f_law t.d_law ["_law_script"] (spLaw K) := by
  refine T.F_law.ok sc_law (fun vs H Q E h => ?_) (fun cdv A outer s H vs Q E hr h => ?_)
  · obtain ⟨a, ns, rfl, _⟩ := h
    rfl
  obtain ⟨sc, ns, rfl, hS, h63, hO, q⟩ := h
  have G__law_cell_at := ok_cell_at (P := P) (w := w) (base := base) T
  have G__law_leaf := ok_leaf (P := P) (w := w) (base := base) T
  have G__law_leaf_crowd := ok_leaf_crowd (P := P) (w := w) (base := base) T
  have G__law_joined := ok_joined (P := P) (w := w) (base := base) T
  have G__law_joined_crowd := ok_joined_crowd (P := P) (w := w) (base := base) T
  have G__law_full := ok_full (P := P) (w := w) (base := base) T
  have G__law_counted := ok_counted (P := P) (w := w) (base := base) T (n := 50)
  have M_Not := ok_Not (P := P) (w := w) (base := base) T
  refine ⟨_, (pss_cons (ss 1 sc_law.nd (pe_op op_addG pe_int (pe_op op_mod (pe_fn G__law_cell_at hr (pa_cons (pv 0) (pa_cons pe_int pa_nil))) pe_int)))
      (pss_cons (ss 2 sc_law.nd (pe_lst (pa_cons (pe_fn G__law_leaf hr (pa_cons (pe_fn G__law_cell_at hr (pa_cons (pv 0) (pa_cons pe_int pa_nil))) (pa_cons (pv 1) pa_nil))) pa_nil)))
      (pss_cons (ss 3 sc_law.nd (pe_lst (pa_cons (pe_fn G__law_leaf_crowd hr (pa_cons (pe_fn G__law_cell_at hr (pa_cons (pv 0) (pa_cons pe_int pa_nil))) (pa_cons (pv 1) pa_nil))) pa_nil)))
      (pss_cons (ps_for PassesOwn.never rfl (pi_seq (pe_slice sl_any (pv 0) (po_some pe_int) (po_some pe_int))) (sg 4 sc_law.nd)
      (pss_cons (ss 5 sc_law.nd (pe_op op_mod (pv 4) pe_int))
      (pss_one (ps_if (PW.pt (pw_and (pt_cmpR op_ge (pv 5) pe_int (nomark _)) (pw_and1 (pt_cmpR op_ge (pe_callB call_lenG rfl T.B.len bt_len (pa_cons (pv 2) pa_nil)) pe_int (nomark _)))))
      (pss_cons (ss 6 sc_law.nd (pe_callB (call_maxG rfl) rfl T.B.max bt_max (pa_cons pe_int (pa_cons (pe_op op_sub (pe_op op_sub (pe_callB call_lenG rfl T.B.len bt_len (pa_cons (pv 2) pa_nil)) pe_int) (pe_op op_mod (pe_op op_fdivG (pv 4) pe_int) pe_int)) pa_nil))))
      (pss_cons (ss 2 sc_law.nd (pe_op op_addG (pe_slice sl_any (pv 2) po_none (po_some (pv 6))) (pe_lst (pa_cons (pe_fn G__law_joined hr (pa_cons (pe_op op_sub (pv 5) pe_int) (pa_cons (pe_slice sl_any (pv 2) (po_some (pv 6)) po_none) pa_nil))) pa_nil))))
      (pss_one (ss 3 sc_law.nd (pe_op op_addG (pe_slice sl_any (pv 3) po_none (po_some (pv 6))) (pe_lst (pa_cons (pe_fn G__law_joined_crowd hr (pa_cons (pe_op op_sub (pv 5) pe_int) (pa_cons (pe_slice sl_any (pv 3) (po_some (pv 6)) po_none) pa_nil))) pa_nil)))))))
      (pss_one (ps_if (pt_cmpR (op_eqA hr.units) (pv 5) pe_int (nomark _))
      (pss_cons (ss 2 sc_law.nd (pe_op op_addG (pe_slice sl_any (pv 2) po_none (po_some (pe_un un_neg pe_int))) (pe_lst (pa_cons (pe_mk M_Not hr (pa_cons (pe_ix ix_seq (pv 2) (pe_un un_neg pe_int) (fun _ _ => rfl)) pa_nil)) pa_nil))))
      (pss_one (ss 3 sc_law.nd (pe_op op_addG (pe_slice sl_any (pv 3) po_none (po_some (pe_un un_neg pe_int))) (pe_lst (pa_cons (pe_op op_xor (pe_fn0 G__law_full hr) (pe_ix ix_seq (pv 3) (pe_un un_neg pe_int) (fun _ _ => rfl))) pa_nil))))))
      (pss_cons (ps_expr (pe_bm PySem.F.plainAttrs_list PySem.F.slot_list_append PySem.F.type_list_append mt_append (pv 2) (pa_cons (pe_fn G__law_leaf hr (pa_cons (pe_op op_fdivG (pv 4) pe_int) (pa_cons (pv 1) pa_nil))) pa_nil)))
      (pss_one (ps_expr (pe_bm PySem.F.plainAttrs_list PySem.F.slot_list_append PySem.F.type_list_append mt_append (pv 3) (pa_cons (pe_fn G__law_leaf_crowd hr (pa_cons (pe_op op_fdivG (pv 4) pe_int) (pa_cons (pv 1) pa_nil))) pa_nil)))))))))))
      (pss_cons (ps_if (pt_cmpR op_ge (pe_callB call_lenG rfl T.B.len bt_len (pa_cons (pv 2) pa_nil)) pe_int (nomark _))
      (pss_cons (ss 7 sc_law.nd (pe_op op_mod (pe_op op_fdivG (pe_fn G__law_cell_at hr (pa_cons (pv 0) (pa_cons pe_int pa_nil))) pe_int) pe_int))
      (pss_cons (ss 2 sc_law.nd (pe_lst (pa_cons (pe_fn G__law_joined hr (pa_cons (pv 7) (pa_cons (pv 2) pa_nil))) pa_nil)))
      (pss_one (ss 3 sc_law.nd (pe_lst (pa_cons (pe_fn G__law_joined_crowd hr (pa_cons (pv 7) (pa_cons (pv 3) pa_nil))) pa_nil))))))
      pss_nil)
      (pss_cons (ps_if (pt_not (pt_truth (pe_fn G__law_counted hr (pa_cons (pe_ix ix_seq (pv 2) pe_int (fun _ _ => rfl)) (pa_cons (pv 1) (pa_cons (pe_ix ix_seq (pv 3) pe_int (fun _ _ => rfl)) pa_nil)))) (fun _ => rfl)))
      (pss_one (ps_ret pe_bl))
      pss_nil)
      (pss_one (ps_ret (pe_and (pe_fn G__law_counted hr (pa_cons (pe_ix ix_seq (pv 2) pe_int (fun _ _ => rfl)) (pa_cons pe_int (pa_cons (pe_ix ix_seq (pv 3) pe_int (fun _ _ => rfl)) pa_nil)))) (pe_one (pe_fn G__law_counted hr (pa_cons (pe_ix ix_seq (pv 2) pe_int (fun _ _ => rfl)) (pa_cons (pv 1) (pa_cons (pe_ix ix_seq (pv 3) pe_int (fun _ _ => rfl)) pa_nil)))))))))))))), ?_⟩
  obtain ⟨m, hm, hm6⟩ : ∃ m : Nat, 1 + cell ns 1 % 6 = (m : Int) ∧ m ≤ 6 := ⟨(1 + cell ns 1 % 6).toNat, by omega, by omega⟩
  walk_at "rd0"
  refine ⟨sc, ns, 1, rfl, hS, ?_⟩
  walk_at "rd"
  rw [hm]
  refine ⟨sc, ns, 0, rfl, hS, ?_⟩
  walk_at "rd"
  refine ⟨cell ns 0, m, rfl, hm6, fun p0 H1 s1 f0 => ?_⟩
  walk_at "rd"
  refine ⟨small (by simp), fun mp0 hmp0 => ?_⟩
  have s2 := same_new hmp0 (.lst [.ref p0])
  have e2 : (upd H1 mp0 (.lst [.ref p0])) mp0 = some (.lst [.ref p0]) := upd_same
  generalize upd H1 mp0 (.lst [.ref p0]) = H2 at s2 e2 ⊢
  walk_at "rd"
  refine ⟨sc, ns, 0, rfl, (s1.trans s2).seq hS, ?_⟩
  walk_at "rd"
  refine ⟨cell ns 0, m, rfl, hm6, ?_⟩
  walk_at "rd"
  refine ⟨small (by simp), fun cp0 hcp0 => ?_⟩
  have s3 := same_new hcp0 (.lst [cint (leafF (cell ns 0) m)])
  have e3 : (upd H2 cp0 (.lst [cint (leafF (cell ns 0) m)])) cp0 = some (.lst [cint (leafF (cell ns 0) m)]) := upd_same
  have e3' := s3 _ _ e2
  have mc0 : mp0 ≠ cp0 := ne_of_none e2 hcp0
  change tSeq _ _ _ _ (upd H2 cp0 (.lst [cint (leafF (cell ns 0) m)]))
  generalize upd H2 cp0 (.lst [cint (leafF (cell ns 0) m)]) = H3 at s3 e3 e3' ⊢
  walk_at "rd"
  refine .inl (i_slS ((s1.trans (s2.trans s3)).seq hS) fun l hl => ?_)
  have ec : cutV (ns.map V.int) (some 2) (some 42) = ((ns.drop 2).take 40).map V.int := (cut_mid _ 2 42).trans (map_int_mid ns 2 40)
  rw [ec]
  have hcs : ((ns.drop 2).take 40).length ≤ 40 := by rw [List.length_take]; omega
  generalize (ns.drop 2).take 40 = cs at hcs ⊢
  have s4 := same_new hl (.lst (cs.map V.int))
  have e4 : (upd H3 l (.lst (cs.map V.int))) l = some (.lst (cs.map V.int)) := upd_same
  have L0 : LS K sc ns t 1 (upd H3 l (.lst (cs.map V.int))) mp0 cp0 l cs [p0] [leafF (cell ns 0) m] :=
    ⟨s4 _ _ e3', s4 _ _ e3, e4, .cons (f0.mono (Ext.of (s2.trans (s3.trans s4)))) .nil, by simp, (ne_of_none e3' hl).symm, (ne_of_none e3 hl).symm, mc0, by simp, (Scr.of hO hS).ext (Ext.of (s1.trans (s2.trans (s3.trans s4))))⟩
  generalize upd H3 l (.lst (cs.map V.int)) = H4 at L0 ⊢
  refine seqL (xs := cs.map V.int) (fun i σ H' => ∃ mp cp ps gs v1 v2 v3, σ = [some (.ref sc), some (.int (m : Int)), some (.ref mp), some (.ref cp), v1, v2, v3, none] ∧ LS K sc ns t (i + 1) H' mp cp l cs ps gs)
    ⟨mp0, cp0, _, _, _, _, _, rfl, L0⟩ (fun i σ H' _ hp => by obtain ⟨mp, cp, ps, gs, v1, v2, v3, _, L⟩ := hp; exact SqL.of L.fl) ?_ ?_
  · rintro i x σ H0 hx ⟨mp, cp, ps, gs, v1, v2, v3, rfl, hm0, hc0, hl0, hf0, hne, lm, lc, mc, sz, sr⟩
    obtain ⟨c, rfl, hci⟩ := get_int hx
    have hi : i < cs.length := (List.getElem?_eq_some_iff.mp hci).1
    have hgl := paired_len hf0
    have hlen : (ps.map V.ref).length = ps.length := List.length_map _
    have hclen : (gs.map cint).length = gs.length := List.length_map _
    walk_at "rd"
    refine i_ifd (fun h4 => ?a) (fun h4 => ?b)
    case' a =>
      walk_at "rd"
      refine i_ifd (fun h2 => ?a1) (fun h2 => ?a2)
      case a1 =>
        rw [hlen] at h2
        walk_at "rd"
        obtain ⟨k, hk, hk2⟩ : ∃ k : Nat, max 0 (((ps.map V.ref).length : Int) - 2 - c / 7 % 4) = (k : Int) ∧ k + 2 ≤ ps.length := by
          rw [hlen]
          have := Int.emod_nonneg (c / 7) (show (4 : Int) ≠ 0 by decide)
          exact ⟨(max 0 ((ps.length : Int) - 2 - c / 7 % 4)).toNat, by omega, by omega⟩
        rw [hk]
        refine .inl (i_slL hm0 fun a1 ha1 => ?_)
        rw [cut_to (by rw [hlen]; omega)]
        have t1 := same_new ha1 (.lst ((ps.map V.ref).take k))
        have u1 : (upd H0 a1 (.lst ((ps.map V.ref).take k))) a1 = some (.lst ((ps.map V.ref).take k)) := upd_same
        generalize upd H0 a1 (.lst ((ps.map V.ref).take k)) = H1 at t1 u1 ⊢
        walk_at "rd"
        refine .inl (i_slL (t1 _ _ hm0) fun a2 ha2 => ?_)
        rw [cut_from (by rw [hlen]; omega), ← List.map_drop]
        have t2 := same_new ha2 (.lst ((ps.drop k).map V.ref))
        have u2 : (upd H1 a2 (.lst ((ps.drop k).map V.ref))) a2 = some (.lst ((ps.drop k).map V.ref)) := upd_same
        generalize upd H1 a2 (.lst ((ps.drop k).map V.ref)) = H2 at t2 u2 ⊢
        walk_at "rd"
        refine ⟨c % 7 - 4, a2, ps.drop k, gs.drop k, i + 1, rfl, u2, by rw [List.length_drop]; omega, paired_drop k (fm_up (Ext.of (t1.trans t2)) (Nat.le_refl _) hf0), fun p H3 t3 fp => ?_⟩
        walk_at "rd"
        refine ⟨small (by simp), fun a3 ha3 => ?_⟩
        have t4 := same_new ha3 (.lst [.ref p])
        have u4 : (upd H3 a3 (.lst [.ref p])) a3 = some (.lst [.ref p]) := upd_same
        generalize upd H3 a3 (.lst [.ref p]) = H4' at t4 u4 ⊢
        refine i_addL (t4 _ _ (t3 _ _ (t2 _ _ u1))) u4 (small (by rw [List.length_take, hlen]; simp; omega)) fun a4 ha4 => ?_
        rw [← List.map_take]
        have t5 := same_new ha4 (.lst ((ps.take k).map V.ref ++ [.ref p]))
        have u5 : (upd H4' a4 (.lst ((ps.take k).map V.ref ++ [.ref p]))) a4 = some (.lst ((ps.take k).map V.ref ++ [.ref p])) := upd_same
        generalize upd H4' a4 (.lst ((ps.take k).map V.ref ++ [.ref p])) = H5 at t5 u5 ⊢
        have w5 : Same H0 H5 := t1.trans (t2.trans (t3.trans (t4.trans t5)))
        have na4 : H0 a4 = none := (t1.trans (t2.trans (t3.trans t4))).free ha4
        walk_at "rd"
        refine .inl (i_slL (w5 _ _ hc0) fun b1 hb1 => ?_)
        rw [cut_to (by rw [hclen]; omega)]
        have r1 := same_new hb1 (.lst ((gs.map cint).take k))
        have z1 : (upd H5 b1 (.lst ((gs.map cint).take k))) b1 = some (.lst ((gs.map cint).take k)) := upd_same
        generalize upd H5 b1 (.lst ((gs.map cint).take k)) = H6 at r1 z1 ⊢
        walk_at "rd"
        refine .inl (i_slL (r1 _ _ (w5 _ _ hc0)) fun b2 hb2 => ?_)
        rw [cut_from (by rw [hclen]; omega), ← List.map_drop]
        have r2 := same_new hb2 (.lst ((gs.drop k).map cint))
        have z2 : (upd H6 b2 (.lst ((gs.drop k).map cint))) b2 = some (.lst ((gs.drop k).map cint)) := upd_same
        generalize upd H6 b2 (.lst ((gs.drop k).map cint)) = H7 at r2 z2 ⊢
        walk_at "rd"
        have hdne : gs.drop k ≠ [] := fun e => by
          have := congrArg List.length e
          rw [List.length_drop] at this
          simp at this
          omega
        refine ⟨c % 7 - 4, b2, gs.drop k, rfl, z2, hdne, fun H8 r3 => ?_⟩
        walk_at "rd"
        refine ⟨small (by simp), fun b3 hb3 => ?_⟩
        have r4 := same_new hb3 (.lst [cint (.join (wd (c % 7 - 4)) (gs.drop k))])
        have z4 : (upd H8 b3 (.lst [cint (.join (wd (c % 7 - 4)) (gs.drop k))])) b3 = some (.lst [cint (.join (wd (c % 7 - 4)) (gs.drop k))]) := upd_same
        generalize upd H8 b3 (.lst [cint (.join (wd (c % 7 - 4)) (gs.drop k))]) = H9 at r4 z4 ⊢
        refine i_addL (r4 _ _ (r3 _ _ (r2 _ _ z1))) z4 (small (by rw [List.length_take, hclen]; simp; omega)) fun b4 hb4 => ?_
        rw [← List.map_take]
        have r5 := same_new hb4 (.lst ((gs.take k).map cint ++ [cint (.join (wd (c % 7 - 4)) (gs.drop k))]))
        have z5 : (upd H9 b4 (.lst ((gs.take k).map cint ++ [cint (.join (wd (c % 7 - 4)) (gs.drop k))]))) b4 = some (.lst ((gs.take k).map cint ++ [cint (.join (wd (c % 7 - 4)) (gs.drop k))])) := upd_same
        generalize upd H9 b4 (.lst ((gs.take k).map cint ++ [cint (.join (wd (c % 7 - 4)) (gs.drop k))])) = H10 at r5 z5 ⊢
        have w10 : Same H5 H10 := r1.trans (r2.trans (r3.trans (r4.trans r5)))
        have nb4 : H5 b4 = none := (r1.trans (r2.trans (r3.trans r4))).free hb4
        walk_at "rd"
        refine ⟨a4, b4, ps.take k ++ [p], gs.take k ++ [.join (wd (c % 7 - 4)) (gs.drop k)], _, _, _, rfl, ?_⟩
        exact {
          fm := by rw [List.map_append]; exact w10 _ _ u5
          fc := by rw [List.map_append]; exact z5
          fl := w10 _ _ (w5 _ _ hl0)
          ff := paired_append (paired_take k (fm_up (Ext.of (w5.trans w10)) (by omega) hf0)) (.cons (fp.mono (Ext.of (t4.trans (t5.trans w10)))) .nil)
          ne := by simp
          lm := ne_of_none hl0 na4
          lc := ne_of_none (w5 _ _ hl0) nb4
          mc := ne_of_none u5 nb4
          sz := by rw [List.length_append, List.length_take]; simp; omega
          sr := sr.ext (Ext.of (w5.trans w10)) }
      case' a2 =>
        walk_at "rd"
        refine i_ifd (fun h0 => absurd h0 (by omega)) (fun h0 => ?_)
    case' b =>
      refine i_ifF rfl ?_
      walk_at "rd"
      refine i_ifd (fun h0 => ?b1) (fun h0 => ?b2)
      case b1 =>
        obtain ⟨ps0, pl, rfl⟩ := snoc_of hne
        have hgne : gs ≠ [] := fun e => by subst e; simp at hgl
        obtain ⟨gs0, gl, rfl⟩ := snoc_of hgne
        rw [List.map_append, List.map_cons, List.map_nil] at hm0 hc0
        obtain ⟨hf1, hfl⟩ := paired_snoc hf0
        have sz0 : ps0.length + 1 ≤ i + 1 := by simpa using sz
        have gz0 : gs0.length = ps0.length := (paired_len hf1).symm
        walk_at "rd"
        refine .inl (i_slL hm0 fun a1 ha1 => ?_)
        rw [cut_init]
        have t1 := same_new ha1 (.lst (ps0.map V.ref))
        have u1 : (upd H0 a1 (.lst (ps0.map V.ref))) a1 = some (.lst (ps0.map V.ref)) := upd_same
        generalize upd H0 a1 (.lst (ps0.map V.ref)) = H1 at t1 u1 ⊢
        walk_at "rd"
        refine i_ixLi (t1 _ _ hm0) (atI_last _ _) ?_
        walk_at "rd"
        refine i_init1 fun p dx H2 t2 nx ex => ?_
        walk_at "rd"
        refine ⟨small (by simp), fun a3 ha3 => ?_⟩
        have t4 := same_new ha3 (.lst [.ref p])
        have u4 : (upd H2 a3 (.lst [.ref p])) a3 = some (.lst [.ref p]) := upd_same
        generalize upd H2 a3 (.lst [.ref p]) = H4' at t4 u4 ⊢
        refine i_addL (t4 _ _ (t2 _ _ u1)) u4 (small (by simp; omega)) fun a4 ha4 => ?_
        have t5 := same_new ha4 (.lst (ps0.map V.ref ++ [.ref p]))
        have u5 : (upd H4' a4 (.lst (ps0.map V.ref ++ [.ref p]))) a4 = some (.lst (ps0.map V.ref ++ [.ref p])) := upd_same
        generalize upd H4' a4 (.lst (ps0.map V.ref ++ [.ref p])) = H5 at t5 u5 ⊢
        have w5 : Same H0 H5 := t1.trans (t2.trans (t4.trans t5))
        have na4 : H0 a4 = none := (t1.trans (t2.trans t4)).free ha4
        walk_at "rd"
        refine .inl (i_slL (w5 _ _ hc0) fun b1 hb1 => ?_)
        rw [cut_init]
        have r1 := same_new hb1 (.lst (gs0.map cint))
        have z1 : (upd H5 b1 (.lst (gs0.map cint))) b1 = some (.lst (gs0.map cint)) := upd_same
        generalize upd H5 b1 (.lst (gs0.map cint)) = H6 at r1 z1 ⊢
        walk_at "rd"
        refine ⟨rfl, ?_⟩
        walk_at "rd"
        refine i_ixLi (r1 _ _ (w5 _ _ hc0)) (atI_last _ _) ?_
        have en : cint (.neg gl) = .int ((full ^^^ gl.crowd 64 : Nat) : Int) := by
          unfold cint
          rw [crowd_neg]
          rfl
        unfold cint
        walk_at "rd"
        rw [xor_nat, ← en]
        refine ⟨small (by simp), fun b3 hb3 => ?_⟩
        have r4 := same_new hb3 (.lst [cint (.neg gl)])
        have z4 : (upd H6 b3 (.lst [cint (.neg gl)])) b3 = some (.lst [cint (.neg gl)]) := upd_same
        generalize upd H6 b3 (.lst [cint (.neg gl)]) = H9 at r4 z4 ⊢
        refine i_addL (r4 _ _ z1) z4 (small (by simp; omega)) fun b4 hb4 => ?_
        have r5 := same_new hb4 (.lst (gs0.map cint ++ [cint (.neg gl)]))
        have z5 : (upd H9 b4 (.lst (gs0.map cint ++ [cint (.neg gl)]))) b4 = some (.lst (gs0.map cint ++ [cint (.neg gl)])) := upd_same
        generalize upd H9 b4 (.lst (gs0.map cint ++ [cint (.neg gl)])) = H10 at r5 z5 ⊢
        have w10 : Same H5 H10 := r1.trans (r4.trans r5)
        have nb4 : H5 b4 = none := (r1.trans r4).free hb4
        have xx : Ext H0 H10 := Ext.of (w5.trans w10)
        walk_at "rd"
        refine ⟨a4, b4, ps0 ++ [p], gs0 ++ [.neg gl], _, _, _, rfl, ?_⟩
        exact {
          fm := by rw [List.map_append]; exact w10 _ _ u5
          fc := by rw [List.map_append]; exact z5
          fl := w10 _ _ (w5 _ _ hl0)
          ff := paired_append (fm_up xx (by omega) hf1) (.cons ⟨dx, pl, w10 _ _ (t5 _ _ (t4 _ _ ex)), hfl.mono xx⟩ .nil)
          ne := by simp
          lm := ne_of_none hl0 na4
          lc := ne_of_none (w5 _ _ hl0) nb4
          mc := ne_of_none u5 nb4
          sz := by simp; omega
          sr := sr.ext xx }
    all_goals
      walk_at "rd"
      refine ⟨tyL hm0, ?_⟩
      walk_at "rd"
      refine ⟨c / 7, m, rfl, hm6, fun p H1 t1 fp => ?_⟩
      walk_at "rd"
      refine i_append (t1 _ _ hm0) (smallL (by rw [hlen]; omega)) ?_
      have x1 : Ext H0 (upd H1 mp (.lst (ps.map V.ref ++ [.ref p]))) := (Ext.of t1).trans (Ext.lst (t1 _ _ hm0) _)
      have y1 : Ext H1 (upd H1 mp (.lst (ps.map V.ref ++ [.ref p]))) := Ext.lst (t1 _ _ hm0) _
      have m1 : (upd H1 mp (.lst (ps.map V.ref ++ [.ref p]))) mp = some (.lst (ps.map V.ref ++ [.ref p])) := upd_same
      have c1 : (upd H1 mp (.lst (ps.map V.ref ++ [.ref p]))) cp = some (.lst (gs.map cint)) := by rw [upd_ne mc.symm]; exact t1 _ _ hc0
      have l1 : (upd H1 mp (.lst (ps.map V.ref ++ [.ref p]))) l = some (.lst (cs.map V.int)) := by rw [upd_ne lm]; exact t1 _ _ hl0
      generalize upd H1 mp (.lst (ps.map V.ref ++ [.ref p])) = H2 at x1 y1 m1 c1 l1 ⊢
      walk_at "rd"
      refine ⟨tyL c1, ?_⟩
      walk_at "rd"
      refine ⟨c / 7, m, rfl, hm6, ?_⟩
      walk_at "rd"
      refine i_append c1 (smallL (by rw [hclen]; omega)) ?_
      have x2 : Ext H2 (upd H2 cp (.lst (gs.map cint ++ [cint (leafF (c / 7) m)]))) := Ext.lst c1 _
      walk_at "rd"
      refine ⟨mp, cp, ps ++ [p], gs ++ [leafF (c / 7) m], _, _, _, rfl, ?_⟩
      exact {
        fm := by rw [List.map_append]; exact (upd_ne mc).trans m1
        fc := by rw [List.map_append]; exact upd_same
        fl := (upd_ne lc).trans l1
        ff := paired_append (fm_up (x1.trans x2) (by omega) hf0) (.cons (FmAt.le (by omega) (fp.mono (y1.trans x2))) .nil)
        ne := by simp
        lm := lm
        lc := lc
        mc := mc
        sz := by simp; omega
        sr := sr.ext (x1.trans x2) }
  · rintro σ H' ⟨mp, cp, ps, gs, v1, v2, v3, rfl, hm0, hc0, hl0, hf0, hne, lm, lc, mc, sz, sr⟩
    rw [List.length_map] at hf0 sz
    have hgl := paired_len hf0
    have hlen : (ps.map V.ref).length = ps.length := List.length_map _
    walk_at "rd"
    refine i_ifd (fun h2 => ?fa) (fun h2 => ?fb)
    case' fa =>
      rw [hlen] at h2
      have hgne : gs ≠ [] := fun e => by rw [e] at hgl; simp only [List.length_nil] at hgl; omega
      walk_at "rd"
      refine ⟨sc, ns, 1, rfl, sr.seq, ?_⟩
      walk_at "rd"
      refine ⟨cell ns 1 / 6 % 3, mp, ps, gs, cs.length + 1, rfl, hm0, by omega, hf0, fun pF H1 t1 fF => ?_⟩
      walk_at "rd"
      refine ⟨small (by simp), fun mpF hmp => ?_⟩
      have t2 := same_new hmp (.lst [.ref pF])
      have um : (upd H1 mpF (.lst [.ref pF])) mpF = some (.lst [.ref pF]) := upd_same
      generalize upd H1 mpF (.lst [.ref pF]) = H2 at t2 um ⊢
      walk_at "rd"
      refine ⟨cell ns 1 / 6 % 3, cp, gs, rfl, t2 _ _ (t1 _ _ hc0), hgne, fun H3 t3 => ?_⟩
      walk_at "rd"
      refine ⟨small (by simp), fun cpF hcp => ?_⟩
      have t4 := same_new hcp (.lst [cint (.join (wd (cell ns 1 / 6 % 3)) gs)])
      have uc : (upd H3 cpF (.lst [cint (.join (wd (cell ns 1 / 6 % 3)) gs)])) cpF = some (.lst [cint (.join (wd (cell ns 1 / 6 % 3)) gs)]) := upd_same
      have um := t4 _ _ (t3 _ _ um)
      have fF := FmAt.le (show cs.length + 1 + 1 ≤ 50 by omega) (fF.mono (Ext.of (t2.trans (t3.trans t4))))
      generalize upd H3 cpF (.lst [cint (.join (wd (cell ns 1 / 6 % 3)) gs)]) = H4 at um uc fF ⊢
      generalize Fm.join (wd (cell ns 1 / 6 % 3)) gs = gF at uc fF ⊢
    case' fb =>
      rw [hlen] at h2
      obtain ⟨pF, gF, rfl, rfl⟩ : ∃ pF gF, ps = [pF] ∧ gs = [gF] := by
        match ps, gs, hgl, hne, h2 with
        | [p], [g], _, _, _ => exact ⟨p, g, rfl, rfl⟩
        | [], _, _, h, _ => exact absurd rfl h
        | p :: q :: r, _, _, _, h => simp at h; omega
        | [p], g :: g' :: r, h, _, _ => simp at h
        | [p], [], h, _, _ => simp at h
      have um : H' mp = some (.lst [.ref pF]) := hm0
      have uc : H' cp = some (.lst [cint gF]) := hc0
      obtain ⟨_, fF⟩ := paired_snoc (xs := []) (ys := []) hf0
      have fF := FmAt.le (show cs.length + 1 ≤ 50 by omega) fF
    all_goals
      walk_at "rd"
      refine i_ixL (j := 0) um (v := .ref pF) rfl ?_
      walk_at "rd"
      refine i_ixL (j := 0) uc (v := cint gF) rfl ?_
      walk_at "rd"
      refine ⟨pF, m, gF, rfl, hm6, fF, ?_⟩
      walk_at "rd"
      refine i_ifF rfl ?_
      walk_at "rd"
      refine i_ixL (j := 0) um (v := .ref pF) rfl ?_
      walk_at "rd"
      refine i_ixL (j := 0) uc (v := cint gF) rfl ?_
      walk_at "rd"
      refine ⟨pF, 6, gF, rfl, by decide, fF, ?_⟩
      walk_at "rd"
      refine i_ifT rfl ?_
      walk_at "rd"
      refine i_ixL (j := 0) um (v := .ref pF) rfl ?_
      walk_at "rd"
      refine i_ixL (j := 0) uc (v := cint gF) rfl ?_
      walk_at "rd"
      exact ⟨pF, m, gF, rfl, hm6, fF, q _⟩
end

end LW
open PySem PySem.W PyProof.Rows
set_option maxRecDepth 100000 in
set_option maxHeartbeats 0 in
theorem PySem.Challenge.cw_evernever_k03_crowd_of_a_formula_holds : PySem.Challenge.rw_evernever_k03_crowd_of_a_formula.Holds := by
  w_on; o_law; k_head; (case hw => w_witness2)
  k_fill
  refine L2.walk_ofK (l := PySem.Challenge.rw_evernever_k03_crowd_of_a_formula) (n := 63) (k := 60) (x := "_law_script") (CX := L2.CX0) (sp := LW.spLaw) rfl (by decide) rfl ⟨rfl, by decide, by decide⟩ (fun w h Y => PySem.W.kIn_of Y) ?F ?S ?C
  case F =>
    intro w mg fa h KX G hmg
    have T : ∃ t, LW.Txt (L2.KOf KX) mg t := by
      dsimp only [L2.KOf]
      refine' LW.txt_mk KX G ?a_all_stands ?a__law_cell_at ?a__law_whole ?a__law_full ?a__law_lamp_crowd ?a__law_leaf ?a__law_leaf_crowd ?a__law_joined ?a__law_joined_crowd ?a__law_counted ?a_law ?a_Formula ?a_Lamp ?a_Sure ?a_Not ?a_Joined ?a_And ?a_Either ?a_Or ?e_Lamp_init ?e_Lamp_holds ?e_Lamp_crowd ?e_Sure_init ?e_Sure_holds ?e_Sure_crowd ?e_Not_init ?e_Not_holds ?e_Not_crowd ?e_Joined_init ?e_And_holds ?e_And_crowd ?e_And_init ?e_Either_holds ?e_Either_crowd ?e_Either_init ?e_Or_holds ?e_Or_crowd ?e_Or_init ?l_all_stands ?c_all_stands ?k_all_stands ?l__law_cell_at ?c__law_cell_at ?k__law_cell_at ?l__law_whole ?c__law_whole ?k__law_whole ?l__law_full ?c__law_full ?k__law_full ?l__law_lamp_crowd ?c__law_lamp_crowd ?k__law_lamp_crowd ?l__law_leaf ?c__law_leaf ?k__law_leaf ?l__law_leaf_crowd ?c__law_leaf_crowd ?k__law_leaf_crowd ?l__law_joined ?c__law_joined ?k__law_joined ?l__law_joined_crowd ?c__law_joined_crowd ?k__law_joined_crowd ?l__law_counted ?c__law_counted ?k__law_counted ?l_law ?c_law ?k_law ?l_Lamp_init ?c_Lamp_init ?k_Lamp_init ?i_Lamp_init ?l_Lamp_holds ?c_Lamp_holds ?k_Lamp_holds ?i_Lamp_holds ?l_Lamp_crowd ?c_Lamp_crowd ?k_Lamp_crowd ?i_Lamp_crowd ?l_Sure_init ?c_Sure_init ?k_Sure_init ?i_Sure_init ?l_Sure_holds ?c_Sure_holds ?k_Sure_holds ?i_Sure_holds ?l_Sure_crowd ?c_Sure_crowd ?k_Sure_crowd ?i_Sure_crowd ?l_Not_init ?c_Not_init ?k_Not_init ?i_Not_init ?l_Not_holds ?c_Not_holds ?k_Not_holds ?i_Not_holds ?l_Not_crowd ?c_Not_crowd ?k_Not_crowd ?i_Not_crowd ?l_Joined_init ?c_Joined_init ?k_Joined_init ?i_Joined_init ?l_And_holds ?c_And_holds ?k_And_holds ?i_And_holds ?l_And_crowd ?c_And_crowd ?k_And_crowd ?i_And_crowd ?l_Either_holds ?c_Either_holds ?k_Either_holds ?i_Either_holds ?l_Either_crowd ?c_Either_crowd ?k_Either_crowd ?i_Either_crowd ?l_Or_holds ?c_Or_holds ?k_Or_holds ?i_Or_holds ?l_Or_crowd ?c_Or_crowd ?k_Or_crowd ?i_Or_crowd ?pg_Formula ?hd_Formula ?po_Formula ?sa_Formula ?kc_Formula ?ha_Formula ?hm_Formula ?n_Formula_at ?n_Formula_truth ?n_Formula_part ?n_Formula_parts ?pg_Lamp ?hd_Lamp ?po_Lamp ?sa_Lamp ?kc_Lamp ?ha_Lamp ?hm_Lamp ?mk_Lamp ?n_Lamp_at ?n_Lamp_truth ?n_Lamp_part ?n_Lamp_parts ?pg_Sure ?hd_Sure ?po_Sure ?sa_Sure ?kc_Sure ?ha_Sure ?hm_Sure ?mk_Sure ?n_Sure_at ?n_Sure_truth ?n_Sure_part ?n_Sure_parts ?pg_Not ?hd_Not ?po_Not ?sa_Not ?kc_Not ?ha_Not ?hm_Not ?mk_Not ?n_Not_at ?n_Not_truth ?n_Not_part ?n_Not_parts ?pg_Joined ?hd_Joined ?po_Joined ?sa_Joined ?kc_Joined ?ha_Joined ?hm_Joined ?mk_Joined ?n_Joined_at ?n_Joined_truth ?n_Joined_part ?n_Joined_parts ?pg_And ?hd_And ?po_And ?sa_And ?kc_And ?ha_And ?hm_And ?mk_And ?n_And_at ?n_And_truth ?n_And_part ?n_And_parts ?pg_Either ?hd_Either ?po_Either ?sa_Either ?kc_Either ?ha_Either ?hm_Either ?mk_Either ?n_Either_at ?n_Either_truth ?n_Either_part ?n_Either_parts ?pg_Or ?hd_Or ?po_Or ?sa_Or ?kc_Or ?ha_Or ?hm_Or ?mk_Or ?n_Or_at ?n_Or_truth ?n_Or_part ?n_Or_parts ?nd_ ?hn_ ?htk_ ?b_len ?b_range ?b_isinstance ?b_int ?b_bool ?b_str ?b_list ?b_tuple ?b_dict ?b_set ?b_sorted ?b_max ?b_min ?b_sum ?b_any ?b_all ?b_abs ?b_reversed ?b_enumerate ?b_zip
      (case a_all_stands => k_is)
      (case a__law_cell_at => k_is)
      (case a__law_whole => k_is)
      (case a__law_full => k_is)
      (case a__law_lamp_crowd => k_is)
      (case a__law_leaf => k_is)
      (case a__law_leaf_crowd => k_is)
      (case a__law_joined => k_is)
      (case a__law_joined_crowd => k_is)
      (case a__law_counted => k_is)
      (case a_law => k_is)
      (case a_Formula => k_is)
      (case a_Lamp => k_is)
      (case a_Sure => k_is)
      (case a_Not => k_is)
      (case a_Joined => k_is)
      (case a_And => k_is)
      (case a_Either => k_is)
      (case a_Or => k_is)
      (case e_Lamp_init => k_is)
      (case e_Lamp_holds => k_is)
      (case e_Lamp_crowd => k_is)
      (case e_Sure_init => k_is)
      (case e_Sure_holds => k_is)
      (case e_Sure_crowd => k_is)
      (case e_Not_init => k_is)
      (case e_Not_holds => k_is)
      (case e_Not_crowd => k_is)
      (case e_Joined_init => k_is)
      (case e_And_holds => k_is)
      (case e_And_crowd => k_is)
      (case e_And_init => k_is)
      (case e_Either_holds => k_is)
      (case e_Either_crowd => k_is)
      (case e_Either_init => k_is)
      (case e_Or_holds => k_is)
      (case e_Or_crowd => k_is)
      (case e_Or_init => k_is)
      (case l_all_stands => k_is)
      (case c_all_stands => k_is)
      (case k_all_stands => k_is)
      (case l__law_cell_at => k_is)
      (case c__law_cell_at => k_is)
      (case k__law_cell_at => k_is)
      (case l__law_whole => k_is)
      (case c__law_whole => k_is)
      (case k__law_whole => k_is)
      (case l__law_full => k_is)
      (case c__law_full => k_is)
      (case k__law_full => k_is)
      (case l__law_lamp_crowd => k_is)
      (case c__law_lamp_crowd => k_is)
      (case k__law_lamp_crowd => k_is)
      (case l__law_leaf => k_is)
      (case c__law_leaf => k_is)
      (case k__law_leaf => k_is)
      (case l__law_leaf_crowd => k_is)
      (case c__law_leaf_crowd => k_is)
      (case k__law_leaf_crowd => k_is)
      (case l__law_joined => k_is)
      (case c__law_joined => k_is)
      (case k__law_joined => k_is)
      (case l__law_joined_crowd => k_is)
      (case c__law_joined_crowd => k_is)
      (case k__law_joined_crowd => k_is)
      (case l__law_counted => k_is)
      (case c__law_counted => k_is)
      (case k__law_counted => k_is)
      (case l_law => k_is)
      (case c_law => k_is)
      (case k_law => k_is)
      (case l_Lamp_init => k_is)
      (case c_Lamp_init => k_is)
      (case k_Lamp_init => k_is)
      (case i_Lamp_init => k_is)
      (case l_Lamp_holds => k_is)
      (case c_Lamp_holds => k_is)
      (case k_Lamp_holds => k_is)
      (case i_Lamp_holds => k_is)
      (case l_Lamp_crowd => k_is)
      (case c_Lamp_crowd => k_is)
      (case k_Lamp_crowd => k_is)
      (case i_Lamp_crowd => k_is)
      (case l_Sure_init => k_is)
      (case c_Sure_init => k_is)
      (case k_Sure_init => k_is)
      (case i_Sure_init => k_is)
      (case l_Sure_holds => k_is)
      (case c_Sure_holds => k_is)
      (case k_Sure_holds => k_is)
      (case i_Sure_holds => k_is)
      (case l_Sure_crowd => k_is)
      (case c_Sure_crowd => k_is)
      (case k_Sure_crowd => k_is)
      (case i_Sure_crowd => k_is)
      (case l_Not_init => k_is)
      (case c_Not_init => k_is)
      (case k_Not_init => k_is)
      (case i_Not_init => k_is)
      (case l_Not_holds => k_is)
      (case c_Not_holds => k_is)
      (case k_Not_holds => k_is)
      (case i_Not_holds => k_is)
      (case l_Not_crowd => k_is)
      (case c_Not_crowd => k_is)
      (case k_Not_crowd => k_is)
      (case i_Not_crowd => k_is)
      (case l_Joined_init => k_is)
      (case c_Joined_init => k_is)
      (case k_Joined_init => k_is)
      (case i_Joined_init => k_is)
      (case l_And_holds => k_is)
      (case c_And_holds => k_is)
      (case k_And_holds => k_is)
      (case i_And_holds => k_is)
      (case l_And_crowd => k_is)
      (case c_And_crowd => k_is)
      (case k_And_crowd => k_is)
      (case i_And_crowd => k_is)
      (case l_Either_holds => k_is)
      (case c_Either_holds => k_is)
      (case k_Either_holds => k_is)
      (case i_Either_holds => k_is)
      (case l_Either_crowd => k_is)
      (case c_Either_crowd => k_is)
      (case k_Either_crowd => k_is)
      (case i_Either_crowd => k_is)
      (case l_Or_holds => k_is)
      (case c_Or_holds => k_is)
      (case k_Or_holds => k_is)
      (case i_Or_holds => k_is)
      (case l_Or_crowd => k_is)
      (case c_Or_crowd => k_is)
      (case k_Or_crowd => k_is)
      (case i_Or_crowd => k_is)
      (case pg_Formula => k_is)
      (case hd_Formula => k_is)
      (case po_Formula => k_is)
      (case sa_Formula => k_is)
      (case kc_Formula => k_is)
      (case ha_Formula => k_is)
      (case hm_Formula => k_is)
      (case n_Formula_at => k_is)
      (case n_Formula_truth => k_is)
      (case n_Formula_part => k_is)
      (case n_Formula_parts => k_is)
      (case pg_Lamp => k_is)
      (case hd_Lamp => k_is)
      (case po_Lamp => k_is)
      (case sa_Lamp => k_is)
      (case kc_Lamp => k_is)
      (case ha_Lamp => k_is)
      (case hm_Lamp => k_is)
      (case mk_Lamp => k_is)
      (case n_Lamp_at => k_is)
      (case n_Lamp_truth => k_is)
      (case n_Lamp_part => k_is)
      (case n_Lamp_parts => k_is)
      (case pg_Sure => k_is)
      (case hd_Sure => k_is)
      (case po_Sure => k_is)
      (case sa_Sure => k_is)
      (case kc_Sure => k_is)
      (case ha_Sure => k_is)
      (case hm_Sure => k_is)
      (case mk_Sure => k_is)
      (case n_Sure_at => k_is)
      (case n_Sure_truth => k_is)
      (case n_Sure_part => k_is)
      (case n_Sure_parts => k_is)
      (case pg_Not => k_is)
      (case hd_Not => k_is)
      (case po_Not => k_is)
      (case sa_Not => k_is)
      (case kc_Not => k_is)
      (case ha_Not => k_is)
      (case hm_Not => k_is)
      (case mk_Not => k_is)
      (case n_Not_at => k_is)
      (case n_Not_truth => k_is)
      (case n_Not_part => k_is)
      (case n_Not_parts => k_is)
      (case pg_Joined => k_is)
      (case hd_Joined => k_is)
      (case po_Joined => k_is)
      (case sa_Joined => k_is)
      (case kc_Joined => k_is)
      (case ha_Joined => k_is)
      (case hm_Joined => k_is)
      (case mk_Joined => k_is)
      (case n_Joined_at => k_is)
      (case n_Joined_truth => k_is)
      (case n_Joined_part => k_is)
      (case n_Joined_parts => k_is)
      (case pg_And => k_is)
      (case hd_And => k_is)
      (case po_And => k_is)
      (case sa_And => k_is)
      (case kc_And => k_is)
      (case ha_And => k_is)
      (case hm_And => k_is)
      (case mk_And => k_is)
      (case n_And_at => k_is)
      (case n_And_truth => k_is)
      (case n_And_part => k_is)
      (case n_And_parts => k_is)
      (case pg_Either => k_is)
      (case hd_Either => k_is)
      (case po_Either => k_is)
      (case sa_Either => k_is)
      (case kc_Either => k_is)
      (case ha_Either => k_is)
      (case hm_Either => k_is)
      (case mk_Either => k_is)
      (case n_Either_at => k_is)
      (case n_Either_truth => k_is)
      (case n_Either_part => k_is)
      (case n_Either_parts => k_is)
      (case pg_Or => k_is)
      (case hd_Or => k_is)
      (case po_Or => k_is)
      (case sa_Or => k_is)
      (case kc_Or => k_is)
      (case ha_Or => k_is)
      (case hm_Or => k_is)
      (case mk_Or => k_is)
      (case n_Or_at => k_is)
      (case n_Or_truth => k_is)
      (case n_Or_part => k_is)
      (case n_Or_parts => k_is)
      (case nd_ => decide)
      (case hn_ => k_is)
      (case htk_ => k_is)
      (case b_len => k_is)
      (case b_range => k_is)
      (case b_isinstance => k_is)
      (case b_int => k_is)
      (case b_bool => k_is)
      (case b_str => k_is)
      (case b_list => k_is)
      (case b_tuple => k_is)
      (case b_dict => k_is)
      (case b_set => k_is)
      (case b_sorted => k_is)
      (case b_max => k_is)
      (case b_min => k_is)
      (case b_sum => k_is)
      (case b_any => k_is)
      (case b_all => k_is)
      (case b_abs => k_is)
      (case b_reversed => k_is)
      (case b_enumerate => k_is)
      (case b_zip => k_is)
    obtain ⟨t, T⟩ := T
    have e0 := hmg.symm.trans T.m_law
    cases e0
    exact ⟨_, T.bl, fun base _ _ => LW.ok_law T⟩
  case S => exact fun K H a ns hl hO hS => ⟨a, ns, rfl, hS, hl, hO, fun _ => rfl⟩
  case C => exact fun _ _ _ _ z => z
#print axioms PySem.Challenge.cw_evernever_k03_crowd_of_a_formula_holds
