import PyProof.Rows.All
import Wide.All
import OpenK.AllK
import Wide.FinOn
import Lean
import PyProof.EqAt
import PyProof.EqKinds
import PyProof.TupleCall
import PyProof.P3Eq
import PyProof.NeKinds
import KE.KRevIter
import PyProof.EnumMake
import PyProof.EnumFor
import PyProof.Draws
import PyProof.ZipIter
import PyProof.ConsumeWalk
import PyProof.RaisesMany
import PyProof.ExcClass3
import PyProof.ExcBaseAll.ValueError
import PyProof.RulesAs
import PyProof.ExcAttrAll.ValueError
import PyProof.ReprStr
import PyProof.PassesOwn
import PyProof.ToksMono
import PyProof.DictItems
import PyProof.MeetsIn
import PyProof.StrCalls6
import PyProof.StrCalls2
import PyProof.StrBlock2
import PyProof.StrLawsWords
import PyProof.StrLawsTight
import PyProof.StrLawsChain
import PySem.Challenge.RW_evernever_k28_widened
set_option Elab.async false
set_option linter.all false
set_option maxRecDepth 100000
set_option maxHeartbeats 4000000
set_option maxRecDepth 100000
namespace L2
open PySem PySem.Spec PyProof.Rows

/-- a key: an int or a str -/
abbrev Key := Sum Int Str
def keyIs : Key → Value → Bool
  | .inl k, v => Value.isInt k v
  | .inr x, v => Value.isStrOf x v
def keyH (w : World) : Key → Int
  | .inl k => hashInt k
  | .inr x => hashStr w x
theorem keyIs_shape : ∀ {k : Key} {v : Value}, keyIs k v = true → (∃ i t, k = Sum.inl i ∧ v = Value.int i t) ∨ (∃ x t, k = Sum.inr x ∧ v = Value.str x t)
  | .inl i, v, h => by
    obtain ⟨t, e⟩ := Value.isInt_shape (k := i) (v := v) h
    exact .inl ⟨i, t, rfl, e⟩
  | .inr x, v, h => by
    obtain ⟨t, e⟩ := Value.isStrOf_shape (x := x) (v := v) h
    exact .inr ⟨x, t, rfl, e⟩
theorem key_ll (a b : Int) : decide ((Sum.inl a : Key) = Sum.inl b) = (a == b) := by
  by_cases e : a = b
  · subst e; simp
  · have h : ¬ (Sum.inl a : Key) = Sum.inl b := fun q => e (Sum.inl.inj q)
    rw [decide_eq_false h]
    exact (beq_eq_false_iff_ne.mpr e).symm
theorem key_rr (a b : Str) : decide ((Sum.inr a : Key) = Sum.inr b) = decide (a = b) := by
  by_cases e : a = b
  · subst e; simp
  · have h : ¬ (Sum.inr a : Key) = Sum.inr b := fun q => e (Sum.inr.inj q)
    rw [decide_eq_false h, decide_eq_false e]
theorem key_lr (a : Int) (b : Str) : decide ((Sum.inl a : Key) = Sum.inr b) = false := decide_eq_false (fun q => nomatch q)
theorem key_rl (a : Str) (b : Int) : decide ((Sum.inr a : Key) = Sum.inl b) = false := decide_eq_false (fun q => nomatch q)

def mixKind (prog : Program) (w : World) : PySem.KeyKind prog w Key where
  is := keyIs
  hash := keyH w
  inj := fun v a b ha hb => by
    rcases keyIs_shape ha with ⟨i, t, rfl, rfl⟩ | ⟨x, t, rfl, rfl⟩
    · rcases keyIs_shape hb with ⟨j, u, rfl, e⟩ | ⟨y, u, rfl, e⟩
      · injection e with e1 _; rw [e1]
      · exact nomatch e
    · rcases keyIs_shape hb with ⟨j, u, rfl, e⟩ | ⟨y, u, rfl, e⟩
      · exact nomatch e
      · injection e with e1 _; rw [e1]
  byValue := fun k v h => by
    rcases keyIs_shape h with ⟨i, t, rfl, rfl⟩ | ⟨x, t, rfl, rfl⟩ <;> rfl
  pyHash := fun hv h => by
    rcases keyIs_shape hv with ⟨i, t, rfl, rfl⟩ | ⟨x, t, rfl, rfl⟩
    · exact wpAny_pyHash_int h
    · exact wpAny_pyHash_str h
  eqBool := fun hu hv h => by
    rcases keyIs_shape hu with ⟨i, t, rfl, rfl⟩ | ⟨x, t, rfl, rfl⟩
    · rcases keyIs_shape hv with ⟨j, u, rfl, rfl⟩ | ⟨y, u, rfl, rfl⟩
      · rw [key_ll] at h; exact wpAny_eqBool_int h
      · rw [key_lr] at h; exact SeqAt.EqAt.int_str i t y u _ _ _ _ h
    · rcases keyIs_shape hv with ⟨j, u, rfl, rfl⟩ | ⟨y, u, rfl, rfl⟩
      · rw [key_rl] at h; exact SeqAt.EqAt.str_int x t j u _ _ _ _ h
      · rw [key_rr] at h; exact wpAny_eqBool_str h
  «strs» := fun k x t v h => by
    rcases keyIs_shape h with ⟨i, u, rfl, e⟩ | ⟨y, u, rfl, e⟩
    · exact nomatch e
    · injection e with e1 _
      subst e1
      cases v <;> rfl

end L2

namespace L2
open PySem PySem.Spec PyProof.Rows

/-- a value, without the heap -/
inductive V where
  | non | bl (b : Bool) | int (i : Int) | str (x : Str) | byt (b : Array UInt8) | flt (b : UInt64) | ref (a : Addr) | ty (n : String)
  deriving DecidableEq

def RelV : V → Value → Prop
  | .non, u => u = Value.none
  | .bl b, u => u = Value.bool b
  | .int i, u => ∃ t, u = Value.int i t
  | .str x, u => ∃ t, u = Value.str x t
  | .byt b, u => ∃ t, u = Value.bytes b t
  | .flt b, u => ∃ t, u = Value.float b t
  | .ref a, u => u = Value.ref a
  | .ty n, u => u = Value.type n

abbrev Vals : List V → List Value → Prop := Paired RelV
theorem Vals.length {xs : List V} {us : List Value} (r : Vals xs us) : xs.length = us.length := Paired.length r
theorem Vals.get : ∀ {xs : List V} {us : List Value} {i : Nat} {x : V}, Vals xs us → xs[i]? = some x → ∃ u, us[i]? = some u ∧ RelV x u
  | _, _, _, _, .nil, e => by simp at e
  | _, _, 0, _, .cons r _, e => by simp at e; subst e; exact ⟨_, rfl, r⟩
  | _, _, i + 1, x, .cons _ t, e => by
    obtain ⟨u, h1, h2⟩ := Vals.get (i := i) (x := x) t (by simpa using e)
    exact ⟨u, by simpa using h1, h2⟩
theorem Vals.set {x : V} {u : Value} (r : RelV x u) : ∀ {xs : List V} {us : List Value} (i : Nat), Vals xs us → Vals (xs.set i x) (us.set i u)
  | _, _, _, .nil => .nil
  | _, _, 0, .cons _ t => .cons r t
  | _, _, i + 1, .cons q t => .cons q (Vals.set r i t)
theorem Vals.append : ∀ {xs ys : List V} {us ws : List Value}, Vals xs us → Vals ys ws → Vals (xs ++ ys) (us ++ ws)
  | _, _, _, _, .nil, s => s
  | _, _, _, _, .cons r t, s => .cons r (Vals.append t s)
def RelO : Option V → Option Value → Prop
  | some v, some u => RelV v u
  | none, none => True
  | _, _ => False
def KV {κ : Type} : List (κ × V) → List (κ × Value) → Prop := Paired fun (p : κ × V) (q : κ × Value) => p.1 = q.1 ∧ RelV p.2 q.2

/-- a key of a dict (00_mix): an int or a text -/
def kV : Key → V
  | .inl i => .int i
  | .inr x => .str x

/-- what stands at a tracked address -/
inductive HO where
  /-- a list -/
  | lst (xs : List V)
  /-- a tuple (never changes) -/
  | tup (xs : List V)
  /-- a dict whose keys are ints and texts; one whose keys are tuples of ints and texts (the empty one is both) -/
  | dK (kvs : List (Key × V)) | dT (kvs : List (List Key × V))
  /-- a set of ints: its members, its size -/
  | set (S : Int → Bool) (n : Nat)
  /-- an instance of the class at C, its dict at dx, its attributes -/
  | ins (C dx : Addr) (fs : List (Str × V))
  /-- the dict of the instance at x -/
  | own (x : Addr)
  /-- the dict of an exception -/
  | xd (fs : List (Str × V))
  /-- a bound method, f of x -/
  | met (f x : Addr)
  /-- a range object lo, lo + 1, .. below hi -/
  | rng (lo hi : Int)
  /-- a thing that is known to the object (the script; a dict while a loop walks it): read, never written while it is so -/
  | frz (o : Obj) (u : HO)
  /-- a code object's table -/
  | tbl (ps : Array Value)
  /-- any other thing, by what is true of its one object (a def of one's own: SetO a S n := HO.ext fun h => ..) -/
  | ext (φ : Heap → Prop)

abbrev Hp := Addr → Option HO
def upd (H : Hp) (a : Addr) (o : HO) : Hp := fun b => if b = a then some o else H b
theorem upd_same {H : Hp} {a : Addr} {o : HO} : upd H a o a = some o := by unfold upd; rw [if_pos rfl]
theorem upd_ne {H : Hp} {a b : Addr} {o : HO} (h : b ≠ a) : upd H a o b = H b := by unfold upd; rw [if_neg h]
theorem upd_upd {H : Hp} {a : Addr} {o u : HO} : upd (upd H a o) a u = upd H a u := by
  funext b; unfold upd; split <;> rfl
theorem ne_of_none {H : Hp} {a b : Addr} {o : HO} (h : H a = some o) (h' : H b = none) : a ≠ b := by
  intro e; subst e; rw [h] at h'; cases h'

section
variable (P : Program) (w : World)
def ObjOk (H : Hp) (h : Heap) (a : Addr) : HO → Prop
  | .lst xs => xs.length ≤ sizeLine ∧ ∃ (its : List Value) (n : Nat), Vals xs its ∧ h.get? a = some { cls := .type "list", data := .seq its.toArray n }
  | .tup xs => xs.length ≤ sizeLine ∧ ∃ its : List Value, Vals xs its ∧ IsTup h a its.toArray
  | .dK kvs => kvs.length ≤ sizeLine ∧ (a == sysModules) = false ∧ ∃ vs, KV kvs vs ∧ h.DictOf (mixKind P w) a vs
  | .dT kvs => kvs.length ≤ sizeLine ∧ (a == sysModules) = false ∧ ∃ xs : List (List Key × Addr × Value),
      Paired (fun (p : List Key × V) (q : List Key × Addr × Value) => p.1 = q.1 ∧ H q.2.1 = some (.tup (p.1.map kV)) ∧ RelV p.2 q.2.2) kvs xs ∧
      ∃ o es ep, h.get? a = some o ∧ o.ExactDict ∧ o.data = .dict es ep ∧ es.toList = xs.map (entryOfKey (tupleKind (mixKind P w))) ∧ (xs.map (·.1)).Nodup
  | .set S n => h.SetOf (intKind P w) a S n
  | .ins C dx fs => H dx = some (.own a) ∧ fs.length ≤ 1000 ∧ dx ≠ a ∧ h.get? a = some (PySem.W.instObj C dx) ∧
      ∃ mA, h.Ns1 dx mA ∧ (∀ f, RelO (fs.lookup f) (mA f)) ∧ PySem.Within mA (fs.map (·.1))
  | .own _ => ∃ o, h.get? a = some o
  | .xd fs => ∃ mA, h.Ns1 a mA ∧ ∀ f, RelO (fs.lookup f) (mA f)
  | .rng lo hi => ∃ t u v, h.get? a = some { cls := .type "range", data := .fields #[.int lo t, .int hi u, .int 1 v] }
  | .frz o u => h.get? a = some o ∧ ObjOk H h a u
  | .tbl ps => h.get? a = some { cls := .none, data := .fields ps }
  | .met f x => h.get? a = some (PySem.W.methodObj (.ref f) (.ref x))
  | .ext φ => φ h ∧ (∃ o, h.get? a = some o) ∧ ∀ h1 h2 : Heap, φ h1 → (∀ o, h1.get? a = some o → h2.get? a = some o) → φ h2
/-- the abstract heap is held -/
def HOk (H : Hp) (h : Heap) : Prop := ∀ a o, H a = some o → ObjOk P w H h a o
end

section
variable {P : Program} {w : World} {H H' : Hp} {h h' : Heap} {a : Addr} {o : HO}
theorem ObjOk.lt (x : ObjOk P w H h a o) : a < h.objs.size := by
  cases o with
  | lst xs => obtain ⟨_, _, _, _, e⟩ := x; exact Heap.lt_size e
  | tup xs => obtain ⟨_, _, _, p⟩ := x; exact p.lt
  | dK kvs => obtain ⟨_, _, _, _, o, _, _, e, _⟩ := x; exact Heap.lt_size e
  | dT kvs => obtain ⟨_, _, _, _, o, _, _, e, _⟩ := x; exact Heap.lt_size e
  | set S n => obtain ⟨o, _, _, _, e, _⟩ := x; exact Heap.lt_size e
  | ins C dx fs => obtain ⟨_, _, _, e, _⟩ := x; exact Heap.lt_size e
  | own y => obtain ⟨_, e⟩ := x; exact Heap.lt_size e
  | xd fs => obtain ⟨_, ⟨_, _, _, e, _⟩, _⟩ := x; exact Heap.lt_size e
  | rng lo hi => obtain ⟨_, _, _, e⟩ := x; exact Heap.lt_size e
  | frz ob u => obtain ⟨e, _⟩ := x; exact Heap.lt_size e
  | tbl ps => exact Heap.lt_size (show h.get? a = some _ from x)
  | met f y => exact Heap.lt_size (show h.get? a = some _ from x)
  | ext φ => obtain ⟨_, ⟨_, e⟩, _⟩ := x; exact Heap.lt_size e
theorem Paired.mapP {α β : Type} {F G : α → β → Prop} : ∀ {l₁ : List α} {l₂ : List β}, Paired F l₁ l₂ → (∀ a b, F a b → G a b) → Paired G l₁ l₂
  | _, _, .nil, _ => .nil
  | _, _, .cons r t, f => .cons (f _ _ r) (Paired.mapP t f)
/-- what an object's description leans on: its own object, its own dict, the tuples -/
theorem ObjOk.stay (x : ObjOk P w H h a o) (k : ∀ b u, (b = a ∨ H b = some (.own a)) → h.get? b = some u → h'.get? b = some u)
    (ho : ∀ b, H b = some (.own a) → H' b = some (.own a)) (ht : ∀ b xs, H b = some (.tup xs) → H' b = some (.tup xs)) : ObjOk P w H' h' a o := by
  induction o with
  | lst xs => obtain ⟨z, its, n, r, e⟩ := x; exact ⟨z, its, n, r, k _ _ (.inl rfl) e⟩
  | tup xs => obtain ⟨z, its, r, ob, e, c⟩ := x; exact ⟨z, its, r, ob, k _ _ (.inl rfl) e, c⟩
  | dK kvs => obtain ⟨z, y, vs, r, ob, es, ep, e, c⟩ := x; exact ⟨z, y, vs, r, ob, es, ep, k _ _ (.inl rfl) e, c⟩
  | dT kvs =>
    obtain ⟨z, y, xs, r, ob, es, ep, e, c⟩ := x
    exact ⟨z, y, xs, Paired.mapP r fun p q z => ⟨z.1, ht _ _ z.2.1, z.2.2⟩, ob, es, ep, k _ _ (.inl rfl) e, c⟩
  | set S n => obtain ⟨ob, es, ep, t, e, c⟩ := x; exact ⟨ob, es, ep, t, k _ _ (.inl rfl) e, c⟩
  | ins C dx fs =>
    obtain ⟨d, z, ne, e, mA, ⟨od, es, ep, e2, c⟩, r⟩ := x
    exact ⟨ho _ d, z, ne, k _ _ (.inl rfl) e, mA, ⟨od, es, ep, k _ _ (.inr d) e2, c⟩, r⟩
  | own y => obtain ⟨ob, e⟩ := x; exact ⟨ob, k _ _ (.inl rfl) e⟩
  | xd fs => obtain ⟨mA, ⟨od, es, ep, e, c⟩, r⟩ := x; exact ⟨mA, ⟨od, es, ep, k _ _ (.inl rfl) e, c⟩, r⟩
  | rng lo hi => obtain ⟨t, u, v, e⟩ := x; exact ⟨t, u, v, k _ _ (.inl rfl) e⟩
  | frz ob u ih => obtain ⟨e, q⟩ := x; exact ⟨k _ _ (.inl rfl) e, ih q⟩
  | tbl ps =>
    have e : h.get? a = some { cls := .none, data := .fields ps } := x
    show h'.get? a = some { cls := .none, data := .fields ps }
    exact k a _ (.inl rfl) e
  | met f y =>
    have e : h.get? a = some (PySem.W.methodObj (.ref f) (.ref y)) := x
    show h'.get? a = some (PySem.W.methodObj (.ref f) (.ref y))
    exact k a _ (.inl rfl) e
  | ext φ => obtain ⟨p, ⟨o, e⟩, st⟩ := x; exact ⟨st _ _ p fun o q => k _ _ (.inl rfl) q, ⟨o, k _ _ (.inl rfl) e⟩, st⟩
theorem HOk.lt (x : HOk P w H h) (e : H a = some o) : a < h.objs.size := (x a o e).lt
theorem HOk.fresh (x : HOk P w H h) (e : h.objs.size ≤ a) : H a = none := by
  cases q : H a with
  | none => rfl
  | some u => exact absurd (Nat.lt_of_lt_of_le (x.lt q) e) (Nat.lt_irrefl _)
/-- every object of the heap is kept -/
theorem HOk.kept (x : HOk P w H h) (k : ∀ b u, h.get? b = some u → h'.get? b = some u) : HOk P w H h' := fun a o e =>
  (x a o e).stay (fun b u _ q => k b u q) (fun _ q => q) fun _ _ q => q
/-- a new object is laid and tracked -/
theorem HOk.laid (x : HOk P w H h) (k : ∀ b u, h.get? b = some u → h'.get? b = some u) (hp : h.objs.size ≤ a) (new : ObjOk P w (upd H a o) h' a o) : HOk P w (upd H a o) h' := fun b u e => by
  have hn := x.fresh hp
  by_cases hb : b = a
  · subst hb; rw [upd_same] at e; cases e; exact new
  · rw [upd_ne hb] at e
    exact (x b u e).stay (fun c v _ q => k c v q) (fun c q => by rw [upd_ne (ne_of_none q hn)]; exact q) fun c xs q => by rw [upd_ne (ne_of_none q hn)]; exact q
end

/-- what may be read as u: it is u, or a known u -/
def Rd (H : Hp) (a : Addr) (u : HO) : Prop := H a = some u ∨ ∃ o, H a = some (.frz o u)
theorem Rd.ok {P : Program} {w : World} {H : Hp} {h : Heap} {a : Addr} {u : HO} (r : Rd H a u) (x : HOk P w H h) : ObjOk P w H h a u := by
  rcases r with r | ⟨o, r⟩
  · exact x a u r
  · obtain ⟨_, q⟩ := x a _ r
    exact q
/-- what may be written -/
def Mut : Option HO → Prop
  | some (.lst _) => True
  | some (.dK _) => True
  | some (.dT _) => True
  | some (.set _ _) => True
  | some (.ins _ _ _) => True
  | some (.ext _) => True
  | _ => False
section
variable {P : Program} {w : World} {H : Hp} {h h' : Heap} {x e : Addr} {o' : HO}
/-- the object at e is changed: x itself, or the dict of the instance x -/
theorem HOk.write (ok : HOk P w H h) (mu : Mut (H x)) (he : e = x ∨ H e = some (.own x)) (k : ∀ b u, b ≠ e → h.get? b = some u → h'.get? b = some u) (heo : ∃ u, h'.get? e = some u)
    (new : ObjOk P w (upd H x o') h' x o') : HOk P w (upd H x o') h' := fun b u q => by
  have nown : ∀ c y, H c = some (.own y) → c ≠ x := fun c y r z => by subst z; rw [r] at mu; exact mu
  have ntup : ∀ c xs, H c = some (.tup xs) → c ≠ x := fun c xs r z => by subst z; rw [r] at mu; exact mu
  by_cases hb : b = x
  · subst hb; rw [upd_same] at q; cases q; exact new
  · rw [upd_ne hb] at q
    by_cases hbe : b = e
    · have q' : H b = some (.own x) := by
        rcases he with z | z
        · exact absurd (hbe.trans z) hb
        · rw [hbe]; exact z
      rw [q] at q'; cases q'
      obtain ⟨v, hv⟩ := heo
      exact ⟨v, by rw [hbe]; exact hv⟩
    · refine (ok b u q).stay (fun c v hc r => k c v ?_ r) (fun c r => by rw [upd_ne (nown c b r)]; exact r) fun c xs r => by rw [upd_ne (ntup c xs r)]; exact r
      rcases hc with rfl | hc
      · exact hbe
      · rintro rfl
        rcases he with z | z
        · exact nown c b hc z
        · rw [hc] at z; cases z; exact hb rfl
end

structure Un (fs ex : List Addr) (H H' : Hp) (h h' : Heap) : Prop where
  keep : ∀ b o, h.get? b = some o → H b = none → b ∉ fs → b ∉ ex → h'.get? b = some o
  slot : ∀ b o, h.get? b = some o → H b = none → b ∈ fs → b ∉ ex → ∃ sl, h'.get? b = some { o with slots := sl }
  free : ∀ b o, h.get? b = some o → H b = none → b ∉ ex → H' b = none
  there : ∀ b o, h.get? b = some o → b ∉ ex → ∃ o', h'.get? b = some o'
  tups : ∀ b xs, H b = some (.tup xs) → H' b = some (.tup xs)
  frzs : ∀ b o u, H b = some (.frz o u) → H' b = some (.frz o u)
  tbls : ∀ b ps, H b = some (.tbl ps) → ∃ more, H' b = some (.tbl (ps ++ more))
section
variable {fs fs' ex ex' : List Addr} {H H1 H2 : Hp} {h h1 h2 h' : Heap} {a x e : Addr} {o : HO}
theorem Un.any (u : Un fs ex H H1 h h1) {b : Addr} {ob : Obj} (q : h.get? b = some ob) (n : H b = none) (hx : b ∉ ex) : ∃ sl, h1.get? b = some { ob with slots := sl } := by
  by_cases hb : b ∈ fs
  · exact u.slot b ob q n hb hx
  · exact ⟨ob.slots, u.keep b ob q n hb hx⟩
theorem Un.kept (k : ∀ b u, h.get? b = some u → h'.get? b = some u) : Un fs ex H H h h' :=
  ⟨fun b ob q _ _ _ => k b ob q, fun b ob q _ _ _ => ⟨ob.slots, k b ob q⟩, fun _ _ _ n _ => n, fun b ob q _ => ⟨ob, k b ob q⟩, fun _ _ q => q, fun _ _ _ q => q, fun _ ps q => ⟨#[], by rw [q]; simp⟩⟩
theorem Un.refl : Un fs ex H H h h := Un.kept fun _ _ q => q
theorem Un.laid (k : ∀ b u, h.get? b = some u → h'.get? b = some u) (hp : h.objs.size ≤ a) (hn : H a = none) : Un fs ex H (upd H a o) h h' where
  keep := fun b u q _ _ _ => k b u q
  slot := fun b u q _ _ _ => ⟨u.slots, k b u q⟩
  free := fun b u q n _ => by rw [upd_ne (Nat.ne_of_lt (Nat.lt_of_lt_of_le (Heap.lt_size q) hp))]; exact n
  there := fun b u q _ => ⟨u, k b u q⟩
  tups := fun b xs q => by rw [upd_ne (ne_of_none q hn)]; exact q
  frzs := fun b u xs q => by rw [upd_ne (ne_of_none q hn)]; exact q
  tbls := fun b ps q => ⟨#[], by rw [upd_ne (ne_of_none q hn), q]; simp⟩
theorem Un.write (mu : Mut (H x)) (he : e = x ∨ H e = some (.own x)) (k : ∀ b u, b ≠ e → h.get? b = some u → h'.get? b = some u) (heo : ∃ u, h'.get? e = some u) : Un fs ex H (upd H x o) h h' := by
  have hx : ∀ b, H b = none → b ≠ x := fun b n z => by subst z; rw [n] at mu; exact mu
  have hb : ∀ b, H b = none → b ≠ e := fun b n z => by
    subst z
    rcases he with r | r
    · exact hx b n r
    · rw [n] at r; cases r
  have hm : ∀ b u, H b = some u → ¬ Mut (some u) → b ≠ x := fun b u q nm z => by subst z; rw [q] at mu; exact nm mu
  refine ⟨fun b u q n _ _ => k b u (hb b n) q, fun b u q n _ _ => ⟨u.slots, k b u (hb b n) q⟩, fun b u q n _ => by rw [upd_ne (hx b n)]; exact n, fun b u q _ => ?_,
    fun b xs q => by rw [upd_ne (hm b _ q fun z => z)]; exact q, fun b u xs q => by rw [upd_ne (hm b _ q fun z => z)]; exact q, fun b ps q => ⟨#[], by rw [upd_ne (hm b _ q fun z => z), q]; simp⟩⟩
  by_cases hbe : b = e
  · subst hbe; exact heo
  · exact ⟨u, k b u hbe q⟩
end

def trk (h : Heap) (H : Hp) : List Addr := (List.range h.objs.size).filter fun a => (H a).isSome
def hidT (h : Heap) (H : Hp) : Heap := PySem.W.hideAll h (trk h H)
theorem hidT_size (h : Heap) (H : Hp) : (hidT h H).objs.size = h.objs.size := PySem.W.hideAll_size _ _
theorem hidT_get {h : Heap} {H : Hp} {b : Addr} {o : Obj} (e : h.get? b = some o) (n : H b = none) : (hidT h H).get? b = some o :=
  PySem.W.hideAll_get _ e fun hm => by
    have q : (H b).isSome = true := (List.mem_filter.mp hm).2
    rw [n] at q; simp at q
theorem of_hidT {h : Heap} {H : Hp} {b : Addr} {o : Obj} (e : (hidT h H).get? b = some o) : h.get? b = some o ∧ H b = none := by
  have e' : h.get? b = some o := PySem.W.of_hideAll (trk h H) e
  refine ⟨e', ?_⟩
  cases q : H b with
  | none => rfl
  | some x =>
    have hm : b ∈ trk h H := List.mem_filter.mpr ⟨List.mem_range.mpr (Heap.lt_size e'), by simp [q]⟩
    have z : (hidT h H).get? b = none := PySem.W.hideAll_none (trk h H) hm
    rw [z] at e; cases e

end L2

namespace L2
open PySem PySem.Spec PyProof.Rows

/-- the module's facts, over the base: the heap at the law's entry without what is tracked there -/
structure Mod (K : PySem.W.Frag) (mg : Str → Option Value) (base : Heap) : Prop where
  kin : K.In base
  glob : base.Ns mainGlobals mg
  blt : ∃ mb, base.Ns builtinsNs mb ∧ ∀ x : Str, x ≠ "__name__" → mb x = bootBuiltins x
  nolimit : base.NoLimit

/-- the context: a def's body (or a comprehension's block) running. base: fixed through the whole law; s₀, H₀: the entry; outer: the frames whose slots others may change (a def's callers); stack: all frames that run;
   ex: iterators that were made ahead of the entry and are walked here (a comprehension's); fn: the names whose cells were made at the entry (a def: all; a comprehension's block: its own); calm: not within an except suite; pn: pins that every state bears; xe: what is wanted of an exception that leaves the code -/
structure Cx where
  prog : Program
  w : World
  K : PySem.W.Frag
  mg : Str → Option Value
  base : Heap
  A : Around
  N : List Str
  s₀ : Shared
  H₀ : Hp
  env : Env
  outer : List Env
  stack : List Env
  ex : List Addr
  fn : Str → Bool
  calm : Bool
  pn : List (Addr × Obj)
  xe : Value → Shared → Prop
/-- the callers' frames -/
def frs (l : List Env) : List Addr := l.filterMap (·.frame)
abbrev Cx.fs (X : Cx) : List Addr := frs X.outer

def Vis (sc : Scope) (x : Str) : Prop := sc.names.lookup x = some .local ∨ sc.names.lookup x = some .cell ∨ sc.names.lookup x = some .free
def Loc (sc : Scope) (x : Str) : Prop := sc.names.lookup x = some .local ∨ sc.names.lookup x = some .cell
def Look (env : Env) (h : Heap) (m : Str → Option Value) (x : Str) (u : Value) : Prop :=
  (env.kindOf x = some .local ∧ m x = some u) ∨ ((env.kindOf x = some .cell ∨ env.kindOf x = some .free) ∧ ∃ c, env.cells.lookup x = some c ∧ h.IsCell c (some u))

structure Cx.Ok (X : Cx) : Prop where
  mod : Mod X.K X.mg X.base
  kind : X.env.scope.kind = .function
  glob : X.env.globals = mainGlobals
  blt : X.env.builtins = builtinsNs
  above : X.s₀.heap.objs.size ≤ X.env.locals
  inj : ∀ x y c, X.env.cells.lookup x = some c → X.env.cells.lookup y = some c → x = y
  has : ∀ x, (X.env.kindOf x = some .cell ∨ X.env.kindOf x = some .free) → ∃ c, X.env.cells.lookup x = some c
  cab : ∀ x c, X.fn x = true → X.env.cells.lookup x = some c → X.s₀.heap.objs.size ≤ c
  hd : X.calm = true → X.A.handled = none
  frames : X.A.frames = some X.stack
  stk : X.stack = X.outer ∨ (X.stack = X.env :: X.outer ∧ X.env.frame = some X.env.locals)
  exf : ∀ b ∈ X.ex, b ≠ X.env.locals ∧ ∀ x c, X.env.cells.lookup x = some c → c ≠ b
  bs : ∀ b o, X.base.get? b = some o → X.s₀.heap.get? b = some o ∧ X.H₀ b = none
  bsz : X.base.objs.size ≤ X.s₀.heap.objs.size
  noex : ∀ b o, X.base.get? b = some o → b ∉ X.ex
  exfs : ∀ b ∈ X.ex, b ∉ X.fs
  funs : X.s₀.heap.FunFrames X.base X.outer
  frf : ∀ b ∈ X.fs, X.H₀ b = none

structure Inv (X : Cx) (pins : List (Addr × Obj)) (σ : List (Option V)) (H : Hp) (s : Shared) : Prop where
  ok : X.Ok
  os : s.os = X.s₀.os
  bare : AllBare s.gens
  base : Un X.fs X.ex X.H₀ H X.s₀.heap s.heap
  loc : ∃ m, s.heap.Ns X.env.locals m ∧ ∀ (i : Nat) (x : Str) (v : V), X.N[i]? = some x → σ[i]? = some (some v) → Vis X.env.scope x → ∃ u, RelV v u ∧ Look X.env s.heap m x u
  cell : ∀ x c, X.env.cells.lookup x = some c → ∃ v, s.heap.IsCell c v
  free : H X.env.locals = none
  freeC : ∀ x c, X.env.cells.lookup x = some c → H c = none
  pin : ∀ p ∈ X.pn ++ pins, s.heap.get? p.1 = some p.2 ∧ H p.1 = none ∧ p.1 ≠ X.env.locals ∧ p.1 ∉ X.fs ∧ ∀ v, p.2.data ≠ .cell v
  hok : HOk X.prog X.w H s.heap
  len : σ.length = X.N.length

section
variable {X : Cx} {pins : List (Addr × Obj)} {σ : List (Option V)} {H H' : Hp} {s : Shared} {h' : Heap}

theorem Cx.Ok.nofr (ok : X.Ok) {b : Addr} {o : Obj} (e : X.base.get? b = some o) : b ∉ X.fs := fun hb => by
  have := (ok.funs.mem hb).1
  rw [e] at this; cases this
theorem Inv.bs (I : Inv X pins σ H s) : ∀ b o, X.base.get? b = some o → s.heap.get? b = some o ∧ H b = none := fun b o e =>
  ⟨I.base.keep b o (I.ok.bs b o e).1 (I.ok.bs b o e).2 (I.ok.nofr e) (I.ok.noex b o e), I.base.free b o (I.ok.bs b o e).1 (I.ok.bs b o e).2 (I.ok.noex b o e)⟩
theorem Inv.bk (I : Inv X pins σ H s) : ∀ b o, X.base.get? b = some o → s.heap.get? b = some o := fun b o e => (I.bs b o e).1
theorem Inv.mod (I : Inv X pins σ H s) : Mod X.K X.mg X.base := I.ok.mod
theorem Inv.kIn (I : Inv X pins σ H s) : X.K.In s.heap := I.ok.mod.kin.keeps I.bk
theorem Inv.lt (I : Inv X pins σ H s) : X.env.locals < s.heap.objs.size := let ⟨_, hn, _⟩ := I.loc; hn.lt
theorem Inv.sz (I : Inv X pins σ H s) : X.s₀.heap.objs.size ≤ s.heap.objs.size := Nat.le_trans I.ok.above (Nat.le_of_lt I.lt)
theorem Inv.nofs (I : Inv X pins σ H s) {a : Addr} (h : s.heap.objs.size ≤ a) : a ∉ X.fs := fun hb => by
  obtain ⟨_, o, ho, _⟩ := I.ok.funs.mem hb
  exact absurd (Nat.lt_of_lt_of_le (Heap.lt_size ho) (Nat.le_trans I.sz h)) (Nat.lt_irrefl _)
theorem Inv.cne (I : Inv X pins σ H s) : ∀ x c, X.env.cells.lookup x = some c → c ≠ X.env.locals := fun x c e z => by
  obtain ⟨v, o, ho, hd⟩ := I.cell x c e
  obtain ⟨m, ⟨o', es, ep, ho', hd', _⟩, _⟩ := I.loc
  rw [z, ho'] at ho; cases ho; rw [hd'] at hd; cases hd
theorem Inv.funs (I : Inv X pins σ H s) : s.heap.FunFrames X.base X.outer := by
  have all : ∀ (l : List Env), (∀ b ∈ frs l, b ∈ X.fs) → X.s₀.heap.FunFrames X.base l → s.heap.FunFrames X.base l := by
    intro l
    induction l with
    | nil => intro _ _; trivial
    | cons env r ih =>
      intro hs hl
      obtain ⟨hk, ⟨L, o, hf, hn, ho, hd⟩, hr⟩ := hl
      have hL : L ∈ X.fs := hs L (by unfold frs; rw [List.filterMap_cons, hf]; exact List.mem_cons_self)
      obtain ⟨sl, e⟩ := I.base.slot L o ho (I.ok.frf L hL) hL fun z => I.ok.exfs L z hL
      exact ⟨hk, ⟨L, _, hf, hn, e, hd⟩, ih (fun b hb => hs b (by unfold frs; rw [List.filterMap_cons, hf]; exact List.mem_cons_of_mem _ hb)) hr⟩
  exact all X.outer (fun _ hb => hb) I.ok.funs

/-- the frames that run, for a call -/
theorem Inv.stack (I : Inv X pins σ H s) : s.heap.FunFrames X.base X.stack := by
  rcases I.ok.stk with e | ⟨e, hf⟩
  · rw [e]; exact I.funs
  · rw [e]
    obtain ⟨m, hn, _⟩ := I.loc
    refine .cons (by rw [I.ok.kind]; decide) hf hn ?_ I.funs
    exact Heap.get?_none_of_le (Nat.le_trans I.ok.bsz I.ok.above)
theorem Inv.stkSub (I : Inv X pins σ H s) : ∀ b ∈ frs X.stack, b ∈ X.env.locals :: X.fs := fun b hb => by
  rcases I.ok.stk with e | ⟨e, hf⟩
  · rw [e] at hb; exact List.mem_cons_of_mem _ hb
  · rw [e] at hb
    unfold frs at hb
    rw [List.filterMap_cons, hf] at hb
    exact hb
theorem Inv.stkFree (I : Inv X pins σ H s) : ∀ b ∈ frs X.stack, H b = none := fun b hb => by
  rcases List.mem_cons.mp (I.stkSub b hb) with e | hb
  · rw [e]; exact I.free
  · obtain ⟨_, o, ho, _⟩ := I.ok.funs.mem hb
    exact I.base.free b o ho (I.ok.frf b hb) fun z => I.ok.exfs b z hb

/-- THE STEP: the untracked objects but the frame and the records at ch are kept (the callers' frames up to slots), the frame's map is kept, the new abstract heap is held -/
theorem Inv.step {g' : Array GenState} {t' : Nat} {d' : Drawn} {ch : List Addr} (I : Inv X pins σ H s)
    (hch : ∀ b ∈ ch, (b ∈ X.ex ∨ X.s₀.heap.objs.size ≤ b) ∧ b ≠ X.env.locals ∧ (∀ x c, X.env.cells.lookup x = some c → c ≠ b) ∧ ∀ p ∈ X.pn ++ pins, p.1 ≠ b)
    (keep : ∀ b o, b ≠ X.env.locals → b ∉ X.fs → b ∉ ch → s.heap.get? b = some o → H b = none → h'.get? b = some o)
    (slot : ∀ b o, b ≠ X.env.locals → b ∈ X.fs → b ∉ ch → s.heap.get? b = some o → H b = none → ∃ sl, h'.get? b = some { o with slots := sl }) (free : ∀ b o, b ∉ ch → s.heap.get? b = some o → H b = none → H' b = none)
    (there : ∀ b o, b ∉ ch → s.heap.get? b = some o → ∃ o', h'.get? b = some o')
    (tups : ∀ b xs, H b = some (.tup xs) → H' b = some (.tup xs)) (frzs : ∀ b o u, H b = some (.frz o u) → H' b = some (.frz o u)) (tbls : ∀ b ps, H b = some (.tbl ps) → ∃ more, H' b = some (.tbl (ps ++ more)))
    (ns : ∀ m, s.heap.Ns X.env.locals m → h'.Ns X.env.locals m) (hok : HOk X.prog X.w H' h') (hg : AllBare g') :
    Inv X pins σ H' { s with heap := h', gens := g', drawn := d', toks := t' } := by
  have neL : ∀ b o, X.s₀.heap.get? b = some o → b ≠ X.env.locals := fun b o e => Nat.ne_of_lt (Nat.lt_of_lt_of_le (Heap.lt_size e) I.ok.above)
  have neC : ∀ b o, X.s₀.heap.get? b = some o → b ∉ X.ex → b ∉ ch := fun b o e hx hb => by
    rcases (hch b hb).1 with z | z
    · exact hx z
    · exact absurd (Nat.lt_of_lt_of_le (Heap.lt_size e) z) (Nat.lt_irrefl _)
  have cellK : ∀ x c, X.env.cells.lookup x = some c → ∀ v, s.heap.IsCell c v → h'.IsCell c v := fun x c e v ⟨o, ho, hd⟩ => by
    have nch : c ∉ ch := fun z => (hch c z).2.2.1 x c e rfl
    by_cases hc : c ∈ X.fs
    · obtain ⟨sl, q⟩ := slot c o (I.cne x c e) hc nch ho (I.freeC x c e)
      exact ⟨_, q, hd⟩
    · exact ⟨o, keep c o (I.cne x c e) hc nch ho (I.freeC x c e), hd⟩
  refine ⟨I.ok, I.os, hg, ⟨fun b o e n hb hx => ?_, fun b o e n hb hx => ?_, fun b o e n hx => ?_, fun b o e hx => ?_, fun b xs e => tups b xs (I.base.tups b xs e), fun b o xs e => frzs b o xs (I.base.frzs b o xs e), fun b ps e => ?_⟩, ?_, fun x c e => ?_, ?_, fun x c e => ?_, fun p hp => ?_, hok, I.len⟩
  · exact keep b o (neL b o e) hb (neC b o e hx) (I.base.keep b o e n hb hx) (I.base.free b o e n hx)
  · obtain ⟨sl, e1⟩ := I.base.slot b o e n hb hx
    obtain ⟨sl', e2⟩ := slot b _ (neL b o e) hb (neC b o e hx) e1 (I.base.free b o e n hx)
    exact ⟨sl', e2⟩
  · obtain ⟨o', e1⟩ := I.base.there b o e hx
    exact free b o' (neC b o e hx) e1 (I.base.free b o e n hx)
  · obtain ⟨o', e1⟩ := I.base.there b o e hx
    exact there b o' (neC b o e hx) e1
  · obtain ⟨m1, e1⟩ := I.base.tbls b ps e
    obtain ⟨m2, e2⟩ := tbls b _ e1
    exact ⟨m1 ++ m2, by rw [e2, Array.append_assoc]⟩
  · obtain ⟨m, hn, hl⟩ := I.loc
    refine ⟨m, ns m hn, fun i x v e1 e2 e3 => ?_⟩
    obtain ⟨u, r, l⟩ := hl i x v e1 e2 e3
    refine ⟨u, r, ?_⟩
    rcases l with l | ⟨k, c, e, z⟩
    · exact .inl l
    · exact .inr ⟨k, c, e, cellK x c e _ z⟩
  · obtain ⟨v, z⟩ := I.cell x c e
    exact ⟨v, cellK x c e v z⟩
  · obtain ⟨m, ⟨o, _, _, ho, _⟩, _⟩ := I.loc
    exact free _ o (fun z => (hch _ z).2.1 rfl) ho I.free
  · obtain ⟨v, o, ho, hd⟩ := I.cell x c e
    exact free c o (fun z => (hch c z).2.2.1 x c e rfl) ho (I.freeC x c e)
  · obtain ⟨e, n, ne, nf, d⟩ := I.pin p hp
    have nch : p.1 ∉ ch := fun z => (hch p.1 z).2.2.2 p hp rfl
    exact ⟨keep p.1 p.2 ne nf nch e n, free p.1 p.2 nch e n, ne, nf, d⟩
/-- .. where the frame's own object is kept too -/
theorem Inv.un {t' : Nat} (I : Inv X pins σ H s) (u : Un X.fs [] H H' s.heap h') (hok : HOk X.prog X.w H' h') : Inv X pins σ H' { s with heap := h', toks := t' } := by
  obtain ⟨m, ⟨o, es, ep, ho, r⟩, _⟩ := id I.loc
  obtain ⟨sl, hL⟩ := u.any ho I.free (by simp)
  exact I.step (g' := s.gens) (d' := s.drawn) (ch := []) (fun _ z => nomatch z) (fun b o _ hb _ e n => u.keep b o e n hb (by simp)) (fun b o _ hb _ e n => u.slot b o e n hb (by simp)) (fun b o _ e n => u.free b o e n (by simp)) (fun b o _ e => u.there b o e (by simp)) u.tups u.frzs u.tbls (fun m' hm => by
    obtain ⟨o', es', ep', ho', r'⟩ := hm
    rw [ho] at ho'; cases ho'
    exact ⟨_, es', ep', hL, r'⟩) hok I.bare
/-- behind a call (or a comprehension's block): the slots of this frame may have changed too, the records at ch may have turned -/
theorem Inv.call {g' : Array GenState} {t' : Nat} {d' : Drawn} {ch : List Addr} (I : Inv X pins σ H s) (u : Un (frs X.stack) ch H H' s.heap h') (hok : HOk X.prog X.w H' h') (hg : AllBare g')
    (hch : ∀ b ∈ ch, (b ∈ X.ex ∨ X.s₀.heap.objs.size ≤ b) ∧ b ≠ X.env.locals ∧ (∀ x c, X.env.cells.lookup x = some c → c ≠ b) ∧ ∀ p ∈ X.pn ++ pins, p.1 ≠ b) :
    Inv X pins σ H' { s with heap := h', gens := g', drawn := d', toks := t' } := by
  obtain ⟨m, ⟨o, es, ep, ho, r⟩, _⟩ := id I.loc
  obtain ⟨sl, hL⟩ := u.any ho I.free fun z => (hch _ z).2.1 rfl
  exact I.step (ch := ch) hch (fun b o hL hb hc e n => u.keep b o e n (fun z => (List.mem_cons.mp (I.stkSub b z)).elim hL hb) hc) (fun b o _ _ hc e n => u.any e n hc) (fun b o hc e n => u.free b o e n hc) (fun b o hc e => u.there b o e hc) u.tups u.frzs u.tbls (fun m' hm => by
    obtain ⟨o', es', ep', ho', r'⟩ := hm
    rw [ho] at ho'; cases ho'
    exact ⟨_, es', ep', hL, r'⟩) hok hg
/-- an untracked record of ours (an iterator) has turned -/
theorem Inv.turned {t' : Nat} {it : Addr} (I : Inv X pins σ H s) (k : ∀ b o, b ≠ it → s.heap.get? b = some o → h'.get? b = some o) (hn : H it = none) (hL : it ≠ X.env.locals)
    (h1 : it ∈ X.ex ∨ X.s₀.heap.objs.size ≤ it) (h2 : ∀ x c, X.env.cells.lookup x = some c → c ≠ it) (h3 : ∀ p ∈ X.pn ++ pins, p.1 ≠ it) : Inv X pins σ H { s with heap := h', toks := t' } := by
  have nit : ∀ b u, H b = some u → b ≠ it := fun b u e z => by rw [z, hn] at e; cases e
  refine I.step (g' := s.gens) (d' := s.drawn) (ch := [it]) (fun b hb => ?_) (fun b o _ _ hc e _ => k b o (fun z => hc (by simp [z])) e) (fun b o _ _ hc e _ => ⟨o.slots, k b o (fun z => hc (by simp [z])) e⟩) (fun _ _ _ _ n => n)
    (fun b o hc e => ⟨o, k b o (fun z => hc (by simp [z])) e⟩) (fun _ _ e => e) (fun _ _ _ e => e) (fun b ps e => ⟨#[], by rw [e]; simp⟩) (fun m hm => ?_) (fun b u e => ?_) I.bare
  · have e : b = it := by simpa using hb
    subst e
    exact ⟨h1, hL, h2, h3⟩
  · obtain ⟨o, es, ep, ho, r⟩ := hm
    exact ⟨o, es, ep, k _ o (Ne.symm hL) ho, r⟩
  · refine (I.hok b u e).stay (fun c v hc q => k c v ?_ q) (fun _ q => q) fun _ _ q => q
    rcases hc with z | z
    · rw [z]; exact nit b u e
    · exact nit c _ z
theorem Inv.tok (I : Inv X pins σ H s) (t : Nat) : Inv X pins σ H { s with toks := t } := I.un (h' := s.heap) (t' := t) Un.refl I.hok
/-- all objects kept -/
theorem Inv.kept {t' : Nat} (I : Inv X pins σ H s) (k : ∀ b u, s.heap.get? b = some u → h'.get? b = some u) : Inv X pins σ H { s with heap := h', toks := t' } := I.un (Un.kept k) (I.hok.kept k)
/-- a new object laid and tracked -/
theorem Inv.laid {a : Addr} {o : HO} {t' : Nat} (I : Inv X pins σ H s) (k : ∀ b u, s.heap.get? b = some u → h'.get? b = some u) (hp : s.heap.objs.size ≤ a) (new : ObjOk X.prog X.w (upd H a o) h' a o) :
    Inv X pins σ (upd H a o) { s with heap := h', toks := t' } := I.un (Un.laid k hp (I.hok.fresh hp)) (I.hok.laid k hp new)
/-- an object written -/
theorem Inv.write {x e : Addr} {o : HO} {t' : Nat} (I : Inv X pins σ H s) (mu : Mut (H x)) (he : e = x ∨ H e = some (.own x)) (k : ∀ b u, b ≠ e → s.heap.get? b = some u → h'.get? b = some u) (heo : ∃ u, h'.get? e = some u)
    (new : ObjOk X.prog X.w (upd H x o) h' x o) : Inv X pins σ (upd H x o) { s with heap := h', toks := t' } := I.un (Un.write mu he k heo) (I.hok.write mu he k heo new)
theorem Inv.pins_of {pins' : List (Addr × Obj)} (I : Inv X pins σ H s) (h : ∀ p ∈ pins', s.heap.get? p.1 = some p.2 ∧ H p.1 = none ∧ p.1 ≠ X.env.locals ∧ p.1 ∉ X.fs ∧ ∀ v, p.2.data ≠ .cell v) : Inv X pins' σ H s :=
  ⟨I.ok, I.os, I.bare, I.base, I.loc, I.cell, I.free, I.freeC, fun p hp => (List.mem_append.mp hp).elim (fun z => I.pin p (List.mem_append_left _ z)) (h p), I.hok, I.len⟩

theorem nodup_ix {N : List Str} (hN : N.Nodup) {i j : Nat} {x : Str} (a : N[i]? = some x) (b : N[j]? = some x) : i = j := by
  obtain ⟨h1, e1⟩ := List.getElem?_eq_some_iff.mp a
  obtain ⟨h2, e2⟩ := List.getElem?_eq_some_iff.mp b
  exact (List.getElem_inj hN).mp (e1.trans e2.symm)

/-- a name is stored; what changed -/
theorem store_ok2 {M : Model} {A : Around} {E : Value → Shared → Prop} {i : Nat} {x : Str} {v : V} {u : Value} {Q : Unit → Shared → Prop} (I : Inv X pins σ H s) (hN : X.N.Nodup) (hi : X.N[i]? = some x) (hx : Loc X.env.scope x) (r : RelV v u)
    (h : ∀ s', Inv X pins (σ.set i (some v)) H s' → (∃ a, Heap.SameBut a s.heap s'.heap ∧ (a = X.env.locals ∨ X.env.cells.lookup x = some a)) → Q () s') (hf : X.fn x = true ∨ X.env.scope.names.lookup x = some .local := by first | exact .inl rfl | exact .inr rfl | assumption) : wpAny M A (storeName X.env x u) Q E s := by
  obtain ⟨m, hn, hl⟩ := id I.loc
  have hcls : (X.env.scope.kind == .class || (X.env.scope.kind == .module && X.env.locals != X.env.globals)) = false := by rw [I.ok.kind]; rfl
  have hiσ : i < σ.length := by rw [I.len]; exact (List.getElem?_eq_some_iff.mp hi).1
  have cne := I.cne
  have tracked : ∀ {a : Addr} {h' : Heap}, (∃ o, s.heap.get? a = some o ∧ H a = none) → Heap.SameBut a s.heap h' → HOk X.prog X.w H h' := fun {a h'} ha hs b ob e => by
    obtain ⟨_, _, hfree⟩ := ha
    refine (I.hok b ob e).stay (fun c w' hc q => (hs.2 c ?_).trans q) (fun _ q => q) fun _ _ q => q
    rintro rfl
    rcases hc with rfl | hc
    · rw [hfree] at e; cases e
    · rw [hfree] at hc; cases hc
  rcases hx with hk | hk
  · refine wpAny_storeName_local hk hn (fun h' hn' hs => ?_) hcls
    obtain ⟨oL, _, _, hoL, _⟩ := id hn
    refine h _ ⟨I.ok, I.os, I.bare, ⟨fun b o e n hb hx => ?_, fun b o e n hb hx => ?_, I.base.free, fun b o e hx => ?_, I.base.tups, I.base.frzs, I.base.tbls⟩, ⟨_, hn', fun j y v' e1 e2 e3 => ?_⟩, fun y c e => ?_, I.free, I.freeC, fun p hp => ?_, tracked ⟨oL, hoL, I.free⟩ hs, by simpa using I.len⟩ ⟨_, hs, .inl rfl⟩
    · exact (hs.2 b (Nat.ne_of_lt (Nat.lt_of_lt_of_le (Heap.lt_size e) I.ok.above))).trans (I.base.keep b o e n hb hx)
    · obtain ⟨sl, e1⟩ := I.base.slot b o e n hb hx
      exact ⟨sl, (hs.2 b (Nat.ne_of_lt (Nat.lt_of_lt_of_le (Heap.lt_size e) I.ok.above))).trans e1⟩
    · obtain ⟨o', e1⟩ := I.base.there b o e hx
      exact ⟨o', (hs.2 b (Nat.ne_of_lt (Nat.lt_of_lt_of_le (Heap.lt_size e) I.ok.above))).trans e1⟩
    · by_cases hj : j = i
      · subst hj
        rw [hi] at e1; cases e1
        rw [List.getElem?_set_self hiσ] at e2
        cases e2
        exact ⟨u, r, .inl ⟨hk, by simp⟩⟩
      · rw [List.getElem?_set_ne (Ne.symm hj)] at e2
        obtain ⟨u', r', q⟩ := hl j y v' e1 e2 e3
        refine ⟨u', r', ?_⟩
        rcases q with ⟨k, e⟩ | ⟨k, c, e, z⟩
        · refine .inl ⟨k, ?_⟩
          have : y ≠ x := fun e => hj (nodup_ix hN e1 (e ▸ hi))
          simp [this, e]
        · exact .inr ⟨k, c, e, z.sameBut hs (cne y c e)⟩
    · obtain ⟨w', z⟩ := I.cell y c e
      exact ⟨w', z.sameBut hs (cne y c e)⟩
    · obtain ⟨e, n, ne, nf, d⟩ := I.pin p hp
      exact ⟨(hs.2 p.1 ne).trans e, n, ne, nf, d⟩
  · have hfn : X.fn x = true := by
      rcases hf with z | z
      · exact z
      · rw [z] at hk; cases hk
    obtain ⟨c, hc⟩ := I.ok.has x (.inl hk)
    obtain ⟨w', z⟩ := I.cell x c hc
    refine wpAny_storeName_cell I.ok.kind hk hc z (fun h' hc' hs => ?_)
    obtain ⟨oc, hoc, hocd⟩ := id z
    refine h { s with heap := h' } ⟨I.ok, I.os, I.bare, ⟨fun b o e n hb hx => ?_, fun b o e n hb hx => ?_, I.base.free, fun b o e hx => ?_, I.base.tups, I.base.frzs, I.base.tbls⟩, ⟨m, hn.sameBut hs (Ne.symm (cne x c hc)), fun j y v' e1 e2 e3 => ?_⟩, fun y c' e => ?_, I.free, I.freeC, fun p hp => ?_, tracked ⟨oc, hoc, I.freeC x c hc⟩ hs, by simpa using I.len⟩ ⟨c, hs, .inr hc⟩
    · exact (hs.2 b (Nat.ne_of_lt (Nat.lt_of_lt_of_le (Heap.lt_size e) (I.ok.cab x c hfn hc)))).trans (I.base.keep b o e n hb hx)
    · obtain ⟨sl, e1⟩ := I.base.slot b o e n hb hx
      exact ⟨sl, (hs.2 b (Nat.ne_of_lt (Nat.lt_of_lt_of_le (Heap.lt_size e) (I.ok.cab x c hfn hc)))).trans e1⟩
    · obtain ⟨o', e1⟩ := I.base.there b o e hx
      exact ⟨o', (hs.2 b (Nat.ne_of_lt (Nat.lt_of_lt_of_le (Heap.lt_size e) (I.ok.cab x c hfn hc)))).trans e1⟩
    · by_cases hj : j = i
      · subst hj
        rw [hi] at e1; cases e1
        rw [List.getElem?_set_self hiσ] at e2
        cases e2
        exact ⟨u, r, .inr ⟨.inl hk, c, hc, hc'⟩⟩
      · rw [List.getElem?_set_ne (Ne.symm hj)] at e2
        obtain ⟨u', r', q⟩ := hl j y v' e1 e2 e3
        refine ⟨u', r', ?_⟩
        rcases q with q | ⟨k, c', e, z'⟩
        · exact .inl q
        · refine .inr ⟨k, c', e, z'.sameBut hs ?_⟩
          rintro rfl
          exact hj (nodup_ix hN e1 (I.ok.inj _ _ _ e hc ▸ hi))
    · by_cases hcc : c' = c
      · subst hcc; exact ⟨_, hc'⟩
      · obtain ⟨w2, z2⟩ := I.cell y c' e
        exact ⟨w2, z2.sameBut hs hcc⟩
    · obtain ⟨e, n, ne, nf, d⟩ := I.pin p hp
      refine ⟨(hs.2 p.1 ?_).trans e, n, ne, nf, d⟩
      intro q
      rw [q, hoc] at e
      have q' : oc = p.2 := Option.some.inj e
      exact d w' (by rw [← q']; exact hocd)
theorem store_ok {M : Model} {A : Around} {E : Value → Shared → Prop} {i : Nat} {x : Str} {v : V} {u : Value} {Q : Unit → Shared → Prop} (I : Inv X pins σ H s) (hN : X.N.Nodup) (hi : X.N[i]? = some x) (hx : Loc X.env.scope x) (r : RelV v u)
    (h : ∀ s', Inv X pins (σ.set i (some v)) H s' → Q () s') (hf : X.fn x = true ∨ X.env.scope.names.lookup x = some .local := by first | exact .inl rfl | exact .inr rfl | assumption) : wpAny M A (storeName X.env x u) Q E s :=
  store_ok2 I hN hi hx r (fun s' I' _ => h s' I') hf
/-- behind a call or a block, the state as it is -/
theorem Inv.call' {s' : Shared} {ch : List Addr} (I : Inv X pins σ H s) (ho : s'.os = s.os) (u : Un (frs X.stack) ch H H' s.heap s'.heap) (hok : HOk X.prog X.w H' s'.heap) (hg : AllBare s'.gens)
    (hch : ∀ b ∈ ch, (b ∈ X.ex ∨ X.s₀.heap.objs.size ≤ b) ∧ b ≠ X.env.locals ∧ (∀ x c, X.env.cells.lookup x = some c → c ≠ b) ∧ ∀ p ∈ X.pn ++ pins, p.1 ≠ b) : Inv X pins σ H' s' := by
  obtain ⟨h', g', d', t', o'⟩ := s'
  have e : o' = s.os := ho
  subst e
  exact I.call (g' := g') (t' := t') (d' := d') u hok hg hch
end

/-- an exception: its class, its own dict's address (where it has one), the abstract heap behind it -/
abbrev XK := Value → Option Addr → Hp → Prop
abbrev St := List (Option V)
abbrev VK := V → Hp → Prop
/-- an expression's reading; a test's; an argument list's -/
abbrev TE := St → Hp → VK → Prop
abbrev TT := St → Hp → (Bool → Hp → Prop) → Prop
abbrev TA := St → Hp → (List V → Hp → Prop) → Prop
/-- what is wanted behind a statement -/
structure Ends where
  nx : St → Hp → Prop
  rt : VK
  bk : St → Hp → Prop := fun _ _ => False
  ct : St → Hp → Prop := fun _ _ => False
abbrev TS := Ends → St → Hp → Prop

def EP (X : Cx) (pins : List (Addr × Obj)) (σ : St) (Q : VK) (u : Value) (s' : Shared) : Prop := ∃ v H', Inv X pins σ H' s' ∧ RelV v u ∧ Q v H'
def TP (X : Cx) (pins : List (Addr × Obj)) (σ : St) (Q : Bool → Hp → Prop) (b : Bool) (s' : Shared) : Prop := ∃ H', Inv X pins σ H' s' ∧ Q b H'
def AP (X : Cx) (pins : List (Addr × Obj)) (σ : St) (Q : List V → Hp → Prop) (us : List Value) (s' : Shared) : Prop := ∃ vs H', Inv X pins σ H' s' ∧ Vals vs us ∧ Q vs H'
def SP (X : Cx) (pins : List (Addr × Obj)) (D : Ends) (f : Flow) (s' : Shared) : Prop :=
  match f with
  | .next => ∃ σ' H', Inv X pins σ' H' s' ∧ D.nx σ' H'
  | .brk => ∃ σ' H', Inv X pins σ' H' s' ∧ D.bk σ' H'
  | .cont => ∃ σ' H', Inv X pins σ' H' s' ∧ D.ct σ' H'
  | .ret u => ∃ v σ' H', Inv X pins σ' H' s' ∧ RelV v u ∧ D.rt v H'

def PE (X : Cx) (e : Expr) (t : TE) : Prop :=
  ∀ (pins : List (Addr × Obj)) (s : Shared) (σ : St) (H : Hp) (Q : VK), Inv X pins σ H s → t σ H Q → wpAny (model X.prog X.w) X.A (eval e X.env) (EP X pins σ Q) X.xe s
def PT (X : Cx) (e : Expr) (t : TT) : Prop :=
  ∀ (pins : List (Addr × Obj)) (s : Shared) (σ : St) (H : Hp) (Q : Bool → Hp → Prop), Inv X pins σ H s → t σ H Q → wpAny (model X.prog X.w) X.A (isTrue e X.env (eval e X.env)) (TP X pins σ Q) X.xe s
/-- a test whatever its 'whole' is (and, or) -/
def PW (X : Cx) (e : Expr) (t : TT) : Prop :=
  ∀ (whole : Sem Value) (pins : List (Addr × Obj)) (s : Shared) (σ : St) (H : Hp) (Q : Bool → Hp → Prop), Inv X pins σ H s → t σ H Q → wpAny (model X.prog X.w) X.A (isTrue e X.env whole) (TP X pins σ Q) X.xe s
theorem PW.pt {X : Cx} {e : Expr} {t : TT} (h : PW X e t) : PT X e t := h _
/-- an argument list (no star), from the left -/
def PA (X : Cx) (es : List Expr) (t : TA) : Prop :=
  ∀ (pos : Pos) (pins : List (Addr × Obj)) (s : Shared) (σ : St) (H : Hp) (Q : List V → Hp → Prop), Inv X pins σ H s → t σ H Q → wpAny (model X.prog X.w) X.A (spliced (backTo pos (starEach es X.env))) (AP X pins σ Q) X.xe s
def PS (X : Cx) (st : Stmt) (t : TS) : Prop :=
  ∀ (pins : List (Addr × Obj)) (s : Shared) (σ : St) (H : Hp) (D : Ends), Inv X pins σ H s → t D σ H → wpAny (model X.prog X.w) X.A (exec st X.env) (SP X pins D) X.xe s
def PSs (X : Cx) (st : List Stmt) (t : TS) : Prop :=
  ∀ (pins : List (Addr × Obj)) (s : Shared) (σ : St) (H : Hp) (D : Ends), Inv X pins σ H s → t D σ H → wpAny (model X.prog X.w) X.A (execs st X.env) (SP X pins D) X.xe s
/-- weaken the end -/
theorem thn {α : Type} {t : Sem α} {Q Q' : α → Shared → Prop} {M : Model} {A : Around} {E : Value → Shared → Prop} {s : Shared} (h : wpAny M A t Q E s) (hQ : ∀ a s, Q a s → Q' a s) : wpAny M A t Q' E s := wpAny_mono h hQ fun _ _ x => x
end L2

namespace L2
open PySem PySem.Spec PyProof.Rows
section
variable {X : Cx}

def tVar (i : Nat) : TE := fun σ H Q => ∃ v, σ[i]? = some (some v) ∧ Q v H
def tC (v : V) : TE := fun _ H Q => Q v H
theorem pe_var {i : Nat} {x : Str} {pos : Pos} (hN : X.N[i]? = some x) (hv : Vis X.env.scope x) (hd : (x == ("__debug__" : Str)) = false := by decide) (hcd : (x == ("__classdict__" : Str)) = false := by decide) : PE X (.Name x pos) (tVar i) := by
  intro pins s σ H Q I h
  obtain ⟨v, e, h⟩ := h
  obtain ⟨m, hn, hl⟩ := I.loc
  obtain ⟨u, r, l⟩ := hl i x v hN e hv
  have fin : EP X pins σ Q u s := ⟨v, H, I, r, h⟩
  rcases l with ⟨hk, hm⟩ | ⟨hk, c, hc, hcell⟩
  · exact wpAny_Name (wpAny_loadName_local I.ok.kind hk hn hm fin) hd
  · rcases hk with hk | hk
    · exact wpAny_Name (wpAny_loadName_cell I.ok.kind hk hc hcell fin) hd
    · exact wpAny_Name (wpAny_loadName_free I.ok.kind hk hc hcell fin hcd) hd
theorem pe_int {i j pos} : PE X (.Constant (.int i) j pos) (tC (.int i)) := fun _ _ _ H _ I h => wpAny_Constant_int ⟨.int i, H, I.tok _, ⟨_, rfl⟩, h⟩
theorem pe_bl {b j pos} : PE X (.Constant (.bool b) j pos) (tC (.bl b)) := fun _ _ _ H _ I h => Constant_bool ⟨.bl b, H, I, rfl, h⟩
theorem pe_non {j pos} : PE X (.Constant .none j pos) (tC .non) := fun _ _ _ H _ I h => Constant_none ⟨.non, H, I, rfl, h⟩
theorem pe_str {x j pos} : PE X (.Constant (.str x) j pos) (tC (.str x)) := fun _ _ _ H _ I h => Calls.Constant_str ⟨.str x, H, I.tok _, ⟨_, rfl⟩, h⟩

/-- a global name of the def -/
def Gl (X : Cx) (x : Str) : Prop := X.env.kindOf x = some .globalImplicit
theorem ld_glob {E : Value → Shared → Prop} {pins : List (Addr × Obj)} {s : Shared} {σ : St} {H : Hp} {x : Str} {u : Value} {pos : Pos} {Q : Value → Shared → Prop} (I : Inv X pins σ H s) (hg : Gl X x) (hm : X.mg x = some u) (h : Q u s)
    (hd : (x == ("__debug__" : Str)) = false := by decide) : wpAny (model X.prog X.w) X.A (eval (.Name x pos) X.env) Q E s :=
  Calls.Name_function_global I.ok.kind hg (Calls.loadGlobal_global (by rw [I.ok.glob]; exact I.mod.glob.keeps I.bk) hm h) hd
theorem ld_blt {E : Value → Shared → Prop} {pins : List (Addr × Obj)} {s : Shared} {σ : St} {H : Hp} {x : Str} {u : Value} {pos : Pos} {Q : Value → Shared → Prop} (I : Inv X pins σ H s) (hg : Gl X x) (hm : X.mg x = none) (hv : bootBuiltins x = some u) (h : Q u s)
    (hn : x ≠ "__name__" := by decide) (hd : (x == ("__debug__" : Str)) = false := by decide) : wpAny (model X.prog X.w) X.A (eval (.Name x pos) X.env) Q E s := by
  obtain ⟨mb, h1, h2⟩ := I.mod.blt
  exact Calls.Name_function_global I.ok.kind hg (Calls.loadGlobal_builtin (by rw [I.ok.glob]; exact I.mod.glob.keeps I.bk) hm (by rw [I.ok.blt]; exact h1.keeps I.bk) ((h2 x hn).trans hv) h) hd
/-- a module's constant, a class, a function, as a value -/
theorem pe_glob {x : Str} {v : V} {u : Value} {pos : Pos} (hg : Gl X x) (hm : X.mg x = some u) (r : RelV v u) (hd : (x == ("__debug__" : Str)) = false := by decide) : PE X (.Name x pos) (tC v) :=
  fun _ _ _ H _ I h => ld_glob I hg hm ⟨v, H, I, r, h⟩ hd
theorem pe_bltn {x : Str} {v : V} {u : Value} {pos : Pos} (hg : Gl X x) (hm : X.mg x = none) (hv : bootBuiltins x = some u) (r : RelV v u) (hn : x ≠ "__name__" := by decide) (hd : (x == ("__debug__" : Str)) = false := by decide) : PE X (.Name x pos) (tC v) :=
  fun _ _ _ H _ I h => ld_blt I hg hm hv ⟨v, H, I, r, h⟩ hn hd

variable {a b : Expr} {ta tb : TE} {pos : Pos}
variable {tA tB' : TT} {rest : List Expr}
def tAnd (t u : TT) : TT := fun σ H Q => t σ H fun c H1 => if c = true then u σ H1 Q else Q false H1
def tOr (t u : TT) : TT := fun σ H Q => t σ H fun c H1 => if c = true then Q true H1 else u σ H1 Q
def tNot (t : TT) : TT := fun σ H Q => t σ H fun c H1 => Q (!c) H1
theorem pw_and1 (ha : PT X a tA) : PW X (.BoolOp .And [a] pos) tA := by
  intro wh pins s σ H Q I h
  refine isTrue_and (thn (ha pins s σ H Q I h) fun c s1 e => ?_)
  cases c with
  | true => exact isTrue_and_nil e
  | false => exact e
theorem pw_or1 (ha : PT X a tA) : PW X (.BoolOp .Or [a] pos) tA := by
  intro wh pins s σ H Q I h
  refine isTrue_or (thn (ha pins s σ H Q I h) fun c s1 e => ?_)
  cases c with
  | false => exact isTrue_or_nil e
  | true => exact e
theorem pw_and (ha : PT X a tA) (hb : PW X (.BoolOp .And (b :: rest) pos) tB') : PW X (.BoolOp .And (a :: b :: rest) pos) (tAnd tA tB') := by
  intro wh pins s σ H Q I h
  refine isTrue_and (thn (ha pins s σ H _ I h) fun c s1 ⟨H1, I1, q1⟩ => ?_)
  cases c with
  | true => exact hb wh pins s1 σ H1 Q I1 q1
  | false => exact ⟨H1, I1, q1⟩
theorem pw_or (ha : PT X a tA) (hb : PW X (.BoolOp .Or (b :: rest) pos) tB') : PW X (.BoolOp .Or (a :: b :: rest) pos) (tOr tA tB') := by
  intro wh pins s σ H Q I h
  refine isTrue_or (thn (ha pins s σ H _ I h) fun c s1 ⟨H1, I1, q1⟩ => ?_)
  cases c with
  | true => exact ⟨H1, I1, q1⟩
  | false => exact hb wh pins s1 σ H1 Q I1 q1
theorem pt_not (ha : PT X a tA) : PT X (.UnaryOp .Not a pos) (tNot tA) := by
  intro pins s σ H Q I h
  exact isTrue_not (ha pins s σ H (fun c H1 => Q (!c) H1) I h)
/-- .. as values (bools) -/
def tAndV (ta tb : TE) : TE := fun σ H Q => ta σ H fun x H1 => ∃ c, x = .bl c ∧ if c = true then tb σ H1 Q else Q (.bl false) H1
theorem pe_one {op} {t : TE} (h : PE X a t) : PE X (.BoolOp op [a] pos) t := fun pins s σ H Q I hw => BoolOp_one (h pins s σ H Q I hw)
theorem pe_and (ha : PE X a ta) (hb : PE X (.BoolOp .And (b :: rest) pos) tb) : PE X (.BoolOp .And (a :: b :: rest) pos) (tAndV ta tb) := by
  intro pins s σ H Q I h
  refine BoolOp_and (thn (ha pins s σ H _ I h) fun v s1 ⟨x, H1, I1, r1, q1⟩ => ?_)
  obtain ⟨c, rfl, q1⟩ := q1
  cases r1
  refine wpAny_truthy_bool ?_
  cases c with
  | true => exact hb pins s1 σ H1 Q I1 q1
  | false => exact ⟨.bl false, H1, I1, rfl, q1⟩
end
end L2

namespace L2
open PySem PySem.Spec PyProof.Rows

def SqL (K : PySem.W.Frag) (H : Hp) (a : Addr) (xs : List V) : Prop :=
  Rd H a (.lst xs) ∨
    ∃ (o : Obj) (its : Array Value) (n : Nat), K.lookup a = some o ∧ o.cls = .type "list" ∧ o.dict = none ∧ o.data = .seq its n ∧ its.size ≤ sizeLine ∧ Vals xs its.toList
def SqT (K : PySem.W.Frag) (H : Hp) (a : Addr) (xs : List V) : Prop :=
  Rd H a (.tup xs) ∨
    ∃ (o : Obj) (its : Array Value) (n : Nat), K.lookup a = some o ∧ o.cls = .type "tuple" ∧ o.data = .seq its n ∧ its.size ≤ sizeLine ∧ Vals xs its.toList
def absV : Value → Option V
  | .none => some .non
  | .bool b => some (.bl b)
  | .int i _ => some (.int i)
  | .str x _ => some (.str x)
  | .bytes b _ => some (.byt b)
  | .float b _ => some (.flt b)
  | .ref a => some (.ref a)
  | .type n => some (.ty n)
  | _ => none
theorem RelV.abs {x : V} {u : Value} (r : RelV x u) : absV u = some x := by
  cases x with
  | non => cases r; rfl
  | bl _ => cases r; rfl
  | int _ => obtain ⟨t, rfl⟩ := r; rfl
  | str _ => obtain ⟨t, rfl⟩ := r; rfl
  | byt _ => obtain ⟨t, rfl⟩ := r; rfl
  | flt _ => obtain ⟨t, rfl⟩ := r; rfl
  | ref _ => cases r; rfl
  | ty _ => cases r; rfl
theorem RelV.inj {x y : V} {u : Value} (r : RelV x u) (q : RelV y u) : x = y := Option.some.inj (r.abs.symm.trans q.abs)
theorem Vals.inj : ∀ {xs ys : List V} {us : List Value}, Vals xs us → Vals ys us → xs = ys
  | _, _, _, .nil, .nil => rfl
  | _, _, _, .cons r t, .cons r' t' => by rw [r.inj r', Vals.inj t t']
section
variable {X : Cx} {pins : List (Addr × Obj)} {σ : St} {H : Hp} {s : Shared} {a : Addr} {xs ys : List V}
theorem SqL.of {K : PySem.W.Frag} (h : H a = some (.lst xs)) : SqL K H a xs := .inl (.inl h)
theorem SqT.of {K : PySem.W.Frag} (h : H a = some (.tup xs)) : SqT K H a xs := .inl (.inl h)
theorem Inv.list (I : Inv X pins σ H s) (h : SqL X.K H a xs) : ∃ its : List Value, Vals xs its ∧ PlainL s.heap a its.toArray ∧ xs.length ≤ sizeLine := by
  rcases h with h | ⟨o, its, n, hk, hc, hd, hs, hz, r⟩
  · obtain ⟨z, its, n, r, e⟩ := h.ok I.hok
    exact ⟨its, r, ⟨_, n, e, rfl, rfl, rfl⟩, z⟩
  · refine ⟨its.toList, r, ⟨o, n, I.kIn a o hk, hc, hd, by simpa using hs⟩, ?_⟩
    have e := r.length
    simp only [Array.length_toList] at e
    omega
theorem Inv.tuple (I : Inv X pins σ H s) (h : SqT X.K H a xs) : ∃ its : List Value, Vals xs its ∧ IsTup s.heap a its.toArray ∧ xs.length ≤ sizeLine := by
  rcases h with h | ⟨o, its, n, hk, hc, hs, hz, r⟩
  · obtain ⟨z, its, r, p⟩ := h.ok I.hok
    exact ⟨its, r, p, z⟩
  · refine ⟨its.toList, r, ⟨o, I.kIn a o hk, hc, n, by simpa using hs⟩, ?_⟩
    have e := r.length
    simp only [Array.length_toList] at e
    omega
theorem Inv.list_inj (I : Inv X pins σ H s) (h : SqL X.K H a xs) (h' : SqL X.K H a ys) : xs = ys := by
  obtain ⟨its, r, ⟨o, n, e, _, _, d⟩, _⟩ := I.list h
  obtain ⟨its', r', ⟨o', n', e', _, _, d'⟩, _⟩ := I.list h'
  rw [e] at e'; cases e'
  rw [d] at d'
  injection d' with d1 _
  have : its = its' := by simpa using congrArg Array.toList d1
  subst this
  exact r.inj r'
theorem Inv.tuple_inj (I : Inv X pins σ H s) (h : SqT X.K H a xs) (h' : SqT X.K H a ys) : xs = ys := by
  obtain ⟨its, r, ⟨o, e, _, n, d⟩, _⟩ := I.tuple h
  obtain ⟨its', r', ⟨o', e', _, n', d'⟩, _⟩ := I.tuple h'
  rw [e] at e'; cases e'
  rw [d] at d'
  injection d' with d1 _
  have : its = its' := by simpa using congrArg Array.toList d1
  subst this
  exact r.inj r'
end

abbrev Cx.wish (X : Cx) (E : Value → Shared → Prop) : Cx := { X with xe := E }
/-- no exception leaves -/
abbrev Cx.nox (X : Cx) : Cx := X.wish fun _ _ => False
theorem Cx.Ok.wish {X : Cx} (ok : X.Ok) (E : Value → Shared → Prop) : (X.wish E).Ok :=
  ⟨ok.mod, ok.kind, ok.glob, ok.blt, ok.above, ok.inj, ok.has, ok.cab, ok.hd, ok.frames, ok.stk, ok.exf, ok.bs, ok.bsz, ok.noex, ok.exfs, ok.funs, ok.frf⟩
theorem Cx.Ok.unwish {X : Cx} {E : Value → Shared → Prop} (ok : (X.wish E).Ok) : X.Ok :=
  ⟨ok.mod, ok.kind, ok.glob, ok.blt, ok.above, ok.inj, ok.has, ok.cab, ok.hd, ok.frames, ok.stk, ok.exf, ok.bs, ok.bsz, ok.noex, ok.exfs, ok.funs, ok.frf⟩
section
variable {X : Cx} {pins : List (Addr × Obj)} {σ : St} {H : Hp} {s : Shared} {E : Value → Shared → Prop}
theorem Inv.wish (I : Inv X pins σ H s) (E : Value → Shared → Prop) : Inv (X.wish E) pins σ H s := ⟨I.ok.wish E, I.os, I.bare, I.base, I.loc, I.cell, I.free, I.freeC, I.pin, I.hok, I.len⟩
theorem Inv.unwish (I : Inv (X.wish E) pins σ H s) : Inv X pins σ H s := ⟨I.ok.unwish, I.os, I.bare, I.base, I.loc, I.cell, I.free, I.freeC, I.pin, I.hok, I.len⟩
theorem SP.unwish {D : Ends} {f : Flow} {s' : Shared} (h : SP (X.wish E) pins D f s') : SP X pins D f s' := by
  cases f with
  | next => obtain ⟨σ', H', I, q⟩ := h; exact ⟨σ', H', I.unwish, q⟩
  | brk => obtain ⟨σ', H', I, q⟩ := h; exact ⟨σ', H', I.unwish, q⟩
  | cont => obtain ⟨σ', H', I, q⟩ := h; exact ⟨σ', H', I.unwish, q⟩
  | ret u => obtain ⟨v, σ', H', I, r, q⟩ := h; exact ⟨v, σ', H', I.unwish, r, q⟩
theorem PT.nox {e : Expr} {t : TT} (h : PT X.nox e t) : PT X e t := fun pins s σ H Q I hw =>
  wpAny_mono (h pins s σ H Q (I.wish _) hw) (fun _ _ ⟨H', I', q⟩ => ⟨H', I'.unwish, q⟩) fun _ _ z => False.elim z
theorem PSs.nox {st : List Stmt} {t : TS} (h : PSs X.nox st t) : PSs X st t := fun pins s σ H D I hw =>
  wpAny_mono (h pins s σ H D (I.wish _) hw) (fun _ _ q => q.unwish) fun _ _ z => False.elim z
end

section
variable {X : Cx} {st : Stmt} {rest : List Stmt} {t u : TS} {e : Expr} {te : TE} {pos : Pos}
def tNext : TS := fun D σ H => D.nx σ H
def tSeq (t u : TS) : TS := fun D σ H => t { D with nx := u D } σ H
theorem pss_nil : PSs X [] tNext := fun _ _ σ H _ I h => wpAny_execs_nil ⟨σ, H, I, h⟩
theorem pss_cons (h1 : PS X st t) (h2 : PSs X rest u) : PSs X (st :: rest) (tSeq t u) := by
  intro pins s σ H D I h
  refine wpAny_execs_cons (thn (h1 pins s σ H { D with nx := u D } I h) fun f s1 q => ?_)
  cases f with
  | next =>
    obtain ⟨σ', H', I', q⟩ := q
    exact h2 pins s1 σ' H' D I' q
  | ret v => exact q
  | brk => exact q
  | cont => exact q
theorem pss_one (h1 : PS X st t) : PSs X [st] t := by
  intro pins s σ H D I h
  refine wpAny_execs_cons (thn (h1 pins s σ H D I h) fun f s1 q => ?_)
  cases f with
  | next => exact wpAny_execs_nil q
  | ret v => exact q
  | brk => exact q
  | cont => exact q
/-- in a def's body nothing is shown -/
theorem Inv.quiet {pins : List (Addr × Obj)} {σ : St} {H : Hp} {s : Shared} (I : Inv X pins σ H s) : interactive X.env = false := by simp [interactive, I.ok.kind]
/-- an expression whose value is dropped -/
def tDrop (te : TE) : TS := fun D σ H => te σ H fun _ H1 => D.nx σ H1
theorem ps_expr (he : PE X e te) (hs : swapsWith e none pos.line X.env = pure false := by rfl) : PS X (.Expr e pos) (tDrop te) := by
  intro pins s σ H D I h
  exact wpAny_Expr_any (thn (he pins s σ H _ I h) fun v s1 ⟨x, H1, I1, r1, q1⟩ => ⟨σ, H1, I1, q1⟩) I.quiet hs
def tRet (te : TE) : TS := fun D σ H => te σ H D.rt
theorem ps_ret (he : PE X e te) : PS X (.Return (some e) pos) (tRet te) := by
  intro pins s σ H D I h
  exact wpAny_Return_some (thn (he pins s σ H _ I h) fun v s1 ⟨x, H1, I1, r1, q1⟩ => ⟨x, σ, H1, I1, r1, q1⟩)
def tIfS (c : TT) (t u : TS) : TS := fun D σ H => c σ H fun b H1 => if b = true then t D σ H1 else u D σ H1
theorem ps_if {c : Expr} {a b : List Stmt} {tc : TT} (hc : PT X c tc) (ha : PSs X a t) (hb : PSs X b u) : PS X (.If c a b pos) (tIfS tc t u) := by
  intro pins s σ H D I h
  refine wpAny_If (thn (hc pins s σ H _ I h) fun d s1 ⟨H1, I1, q1⟩ => ?_)
  cases d with
  | true => exact ha pins s1 σ H1 D I1 q1
  | false => exact hb pins s1 σ H1 D I1 q1
/-- code that the proof never comes to -/
def tNever : TS := fun _ _ _ => False
theorem ps_never : PS X st tNever := fun _ _ _ _ _ _ h => h.elim
end

abbrev TG := V → St → Hp → (St → Hp → Prop) → Prop
abbrev TGs := List V → St → Hp → (St → Hp → Prop) → Prop
def PG (X : Cx) (target : Expr) (t : TG) : Prop :=
  ∀ (pins : List (Addr × Obj)) (s : Shared) (σ : St) (H : Hp) (v : V) (u : Value) (Q : St → Hp → Prop), Inv X pins σ H s → RelV v u → t v σ H Q →
    wpAny (model X.prog X.w) X.A (assign target X.env u) (fun _ s' => ∃ σ' H', Inv X pins σ' H' s' ∧ Q σ' H') X.xe s
/-- several targets, one after another -/
def PGs (X : Cx) (ts : List Expr) (t : TGs) : Prop :=
  ∀ (pins : List (Addr × Obj)) (s : Shared) (σ : St) (H : Hp) (vs : List V) (us : List Value) (Q : St → Hp → Prop), Inv X pins σ H s → Vals vs us → t vs σ H Q →
    wpAny (model X.prog X.w) X.A (assignInOrder ((assignEach ts X.env).map (·.2)) us) (fun _ s' => ∃ σ' H', Inv X pins σ' H' s' ∧ Q σ' H') X.xe s
/-- o[i] = v, by values -/
abbrev TSet := V → V → V → Hp → (Hp → Prop) → Prop
def PSet (X : Cx) (t : TSet) : Prop :=
  ∀ (pins : List (Addr × Obj)) (s : Shared) (σ : St) (H : Hp) (o i v : V) (ov iv u : Value) (Q : Hp → Prop), Inv X pins σ H s → RelV o ov → RelV i iv → RelV v u → t o i v H Q →
    wpAny (model X.prog X.w) X.A (setItem ov iv u) (fun _ s' => ∃ H', Inv X pins σ H' s' ∧ Q H') X.xe s
section
variable {X : Cx} {pos : Pos}
def gName (i : Nat) : TG := fun v σ H Q => Q (σ.set i (some v)) H
theorem pg_name {i : Nat} {x : Str} (hN : X.N.Nodup) (hi : X.N[i]? = some x) (hx : Loc X.env.scope x) (hf : X.fn x = true ∨ X.env.scope.names.lookup x = some .local := by first | exact .inl rfl | exact .inr rfl | assumption) : PG X (.Name x pos) (gName i) := by
  intro pins s σ H v u Q I r h
  exact wpAny_assign_Name (store_ok I hN hi hx r (fun s' I' => ⟨_, H, I', h⟩) hf)
def gNil : TGs := fun vs σ H Q => vs = [] ∧ Q σ H
def gCons (t : TG) (u : TGs) : TGs := fun vs σ H Q => ∃ v r, vs = v :: r ∧ t v σ H fun σ' H' => u r σ' H' Q
theorem pgs_nil : PGs X [] gNil := by
  intro pins s σ H vs us Q I r h
  obtain ⟨e, h⟩ := h
  subst e
  cases r
  exact assignInOrder_nil ⟨σ, H, I, h⟩
theorem pgs_cons {e : Expr} {es : List Expr} {t : TG} {u : TGs} (h1 : PG X e t) (h2 : PGs X es u)
    (hs : (assignEach (e :: es) X.env).map (·.2) = assign e X.env :: (assignEach es X.env).map (·.2) := by rfl) : PGs X (e :: es) (gCons t u) := by
  intro pins s σ H vs us Q I r h
  obtain ⟨v, vr, e1, h⟩ := h
  subst e1
  cases r with
  | cons r rr =>
    rw [hs]
    refine assignInOrder_cons (thn (h1 pins s σ H _ _ _ I r h) fun _ s1 ⟨σ1, H1, I1, q1⟩ => ?_)
    exact h2 pins s1 σ1 H1 _ _ Q I1 rr q1
/-- (a, b, ..) = a tuple of that length -/
def gTup (K : PySem.W.Frag) (n : Nat) (t : TGs) : TG := fun v σ H Q => ∃ a xs, v = .ref a ∧ SqT K H a xs ∧ xs.length = n ∧ t xs σ H Q
theorem pg_tup {es : List Expr} {k : Nat} {t : TGs} {n : Nat} (hc : X.calm = true) (h : PGs X es t)
    (hn : (assignEach es X.env).length = n := by rfl) (hst : (assignEach es X.env).findIdx? (·.1) = none := by rfl) : PG X (.Tuple es k pos) (gTup X.K n t) := by
  intro pins s σ H v u Q I r hw
  obtain ⟨a, xs, e1, hq, hl, hw⟩ := hw
  subst e1
  cases r
  obtain ⟨its, rv, ht, hz⟩ := I.tuple hq
  refine assign_Tuple_tuple (I.ok.hd hc) ht (by simp [hn, ← hl, rv.length]) hst fun h' hx => ?_
  have I1 : Inv X pins σ H { s with heap := h' } := I.kept (t' := s.toks) fun b o e => hx b o (Nat.ne_of_lt (Heap.lt_size e)) e
  exact h pins _ σ H xs _ Q I1 (by simpa using rv) hw
/-- o[i] = .. -/
def gSub (to ti : TE) (t : TSet) : TG := fun v σ H Q => to σ H fun o H1 => ti σ H1 fun i H2 => t o i v H2 fun H3 => Q σ H3
theorem pg_sub {o i : Expr} {to ti : TE} {t : TSet} (ho : PE X o to) (hi : PE X i ti) (hs : PSet X t)
    (ha : ∀ v, assign (.Subscript o i pos) X.env v = (do
      let ov ← holding [v] (eval o X.env)
      let iv ← holding [v, ov] (eval i X.env)
      standAt pos
      holding [v, ov, iv] (setItem ov iv v)
      release [v, ov, iv] []) := by intro _; rfl) : PG X (.Subscript o i pos) (gSub to ti t) := by
  intro pins s σ H v u Q I r h
  rw [ha]
  refine wpAny_bind (wpAny_holding (thn (ho pins s σ H _ I h) fun ov s1 ⟨x, H1, I1, r1, q1⟩ => ?_))
  refine wpAny_bind (wpAny_holding (thn (hi pins s1 σ H1 _ I1 q1) fun iv s2 ⟨y, H2, I2, r2, q2⟩ => ?_))
  refine wpAny_bind (wpAny_standAt (wpAny_bind (wpAny_holding (thn (hs pins s2 σ H2 x y v ov iv u _ I2 r1 r2 r q2) fun _ s3 ⟨H3, I3, q3⟩ => ?_))))
  exact wpAny_release ⟨σ, H3, I3, q3⟩
/-- target = value -/
def tAsg (te : TE) (g : TG) : TS := fun D σ H => te σ H fun x H1 => g x σ H1 D.nx
theorem ps_asg {tg e : Expr} {te : TE} {g : TG} (he : PE X e te) (hg : PG X tg g) (hs : swapsWithSole [tg] e pos.line X.env = pure false := by rfl) (hw : swappedStores [tg] e X.env = pure none := by rfl)
    (h1 : (assignEach [tg] X.env).map (·.2) = [assign tg X.env] := by rfl) : PS X (.Assign [tg] e pos) (tAsg te g) := by
  intro pins s σ H D I h
  refine wpAny_Assign_stores (thn (he pins s σ H _ I h) fun v s1 ⟨x, H1, I1, r1, q1⟩ => ?_) hs hw
  rw [h1]
  exact thn (hg pins s1 σ H1 x v _ I1 r1 q1) fun _ s2 q => q
/-- name = value -/
theorem ps_set {i : Nat} {x : Str} {e : Expr} {te : TE} {pos' : Pos} (hN : X.N.Nodup) (hi : X.N[i]? = some x) (hx : Loc X.env.scope x) (he : PE X e te) (hs : swapsWith e (some (.Name x pos')) pos.line X.env = pure false := by rfl) (hf : X.fn x = true ∨ X.env.scope.names.lookup x = some .local := by first | exact .inl rfl | exact .inr rfl | assumption) :
    PS X (.Assign [.Name x pos'] e pos) (tAsg te (gName i)) := by
  intro pins s σ H D I h
  refine wpAny_Assign_Name (thn (he pins s σ H _ I h) fun v s1 ⟨y, H1, I1, r1, q1⟩ => ?_) hs
  exact store_ok I1 hN hi hx r1 (fun s2 I2 => ⟨_, H1, I2, q1⟩) hf
end

section
variable {X : Cx} {pos : Pos}
/-- the invariant W with its measure -/
def tWhile (c : TT) (tb : TS) : TS := fun D σ H => ∃ W : Nat → St → Hp → Prop, (∃ m, W m σ H) ∧ ∀ m σ H, W m σ H →
  c σ H fun b H1 => if b = true then ∃ N : St → Hp → Prop, (∀ σ' H', N σ' H' → ∃ m', m' < m ∧ W m' σ' H') ∧ tb { D with nx := N, ct := N, bk := D.nx } σ H1 else D.nx σ H1
theorem ps_while {c : Expr} {body : List Stmt} {tc : TT} {tb : TS} (hp : PassesOwn (model X.prog X.w) X.A X.env X.xe) (hc : PT X c tc) (hb : PSs X body tb) : PS X (.While c body [] pos) (tWhile tc tb) := by
  intro pins s σ H D I h
  obtain ⟨W, ⟨m0, w0⟩, turn⟩ := h
  refine wpAny_While (codeAny_whileLoop (fun n s' => ∃ σ' H', Inv X pins σ' H' s' ∧ W n σ' H') ?_ m0 ⟨σ, H, I, w0⟩)
  rintro n s1 ⟨σ1, H1, I1, w1⟩
  refine wpAny_passesOwn hp (thn (hc pins s1 σ1 H1 _ I1 (turn n σ1 H1 w1)) fun b s2 ⟨H2, I2, q2⟩ => ?_)
  cases b with
  | true =>
    obtain ⟨N, hN, q2⟩ := q2
    rw [if_pos rfl]
    refine wpAny_passesOwn hp (thn (hb pins s2 σ1 H2 _ I2 q2) fun f s3 q3 => ?_)
    cases f with
    | next =>
      obtain ⟨σ3, H3, I3, n3⟩ := q3
      obtain ⟨m', hm, w3⟩ := hN σ3 H3 n3
      exact ⟨m', hm, σ3, H3, I3, w3⟩
    | cont =>
      obtain ⟨σ3, H3, I3, n3⟩ := q3
      obtain ⟨m', hm, w3⟩ := hN σ3 H3 n3
      exact ⟨m', hm, σ3, H3, I3, w3⟩
    | brk => exact q3
    | ret v => exact q3
  | false =>
    rw [if_neg Bool.false_ne_true]
    exact wpAny_execs_nil ⟨σ1, H2, I2, q2⟩
end

/-- at turn i: it yields x (the heap may grow), or it stops -/
structure It where
  go : Nat → Hp → Prop
  yld : Nat → Hp → V → Hp → Prop
  stop : Nat → Hp → Prop
/-- the iterator's own objects may turn: they are not the frame's, not pinned, younger than the entry (or a comprehension's own) -/
def FpOk (X : Cx) (pins : List (Addr × Obj)) (H : Hp) (b : Addr) : Prop :=
  H b = none ∧ b ≠ X.env.locals ∧ b ∉ X.fs ∧ (b ∈ X.ex ∨ X.s₀.heap.objs.size ≤ b) ∧ (∀ x c, X.env.cells.lookup x = some c → c ≠ b) ∧ ∀ p ∈ X.pn ++ pins, p.1 ≠ b
theorem Inv.fpOk {X : Cx} {pins : List (Addr × Obj)} {σ : St} {H H' : Hp} {s : Shared} {b : Addr} (I : Inv X pins σ H s) (hb : s.heap.objs.size ≤ b) (hn : H' b = none) : FpOk X pins H' b := by
  refine ⟨hn, Nat.ne_of_gt (Nat.lt_of_lt_of_le I.lt hb), I.nofs hb, .inr (Nat.le_trans I.sz hb), fun x c e z => ?_, fun p hp z => ?_⟩
  · obtain ⟨v, q⟩ := I.cell x c e
    exact absurd (Nat.lt_of_lt_of_le q.lt (by rw [z]; exact hb)) (Nat.lt_irrefl _)
  · exact absurd (Nat.lt_of_lt_of_le (Heap.lt_size (I.pin p hp).1) (by rw [z]; exact hb)) (Nat.lt_irrefl _)
structure Turn (P : Program) (w : World) (K : PySem.W.Frag) (tg : Expr) (J : It) (fp : List Addr) (it : Addr) (tn : Nat → Heap → Prop) : Prop where
  mem : it ∈ fp
  obj : ∀ i h, tn i h → ∀ b ∈ fp, ∃ o, h.get? b = some o ∧ ∀ v, o.data ≠ .cell v
  keep : ∀ i h h', tn i h → (∀ b ∈ fp, ∀ o, h.get? b = some o → h'.get? b = some o) → tn i h'
  item : ∀ (X : Cx), X.prog = P → X.w = w → X.K = K → X.calm = true → ∀ (i : Nat) (pins : List (Addr × Obj)) (s : Shared) (σ : St) (H : Hp) (E : Value → Shared → Prop), Inv X pins σ H s → (∀ b ∈ fp, FpOk X pins H b) → tn i s.heap → J.go i H →
    wpAny (model P w) X.A (pyNext (.ref it)) (fun r s1 => ∃ u, r = some u ∧
      wpAny (model P w) X.A (letOwnedTupleGo tg (.ref it) u) (fun _ s2 => ∃ x H', Inv X pins σ H' s2 ∧ RelV x u ∧ J.yld i H x H' ∧ tn (i + 1) s2.heap ∧ ∀ b ∈ fp, H' b = none) E s1) E s
  done : ∀ (X : Cx), X.prog = P → X.w = w → X.K = K → X.calm = true → ∀ (i : Nat) (pins : List (Addr × Obj)) (s : Shared) (σ : St) (H : Hp) (E : Value → Shared → Prop), Inv X pins σ H s → (∀ b ∈ fp, FpOk X pins H b) → tn i s.heap → J.stop i H →
    wpAny (model P w) X.A (pyNext (.ref it)) (fun r s1 => r = none ∧ Inv X pins σ H s1) E s
  self : ∀ (A : Around) (i : Nat) (s : Shared) (Q : Value → Shared → Prop) (E : Value → Shared → Prop), tn i s.heap → Q (.ref it) s → wpAny (model P w) A (pyIter (.ref it)) Q E s
abbrev TI := St → Hp → (It → Hp → Prop) → Prop
/-- an iterator has come -/
def PIE (X : Cx) (pins : List (Addr × Obj)) (σ : St) (tg : Expr) (R : It → Hp → Prop) (itv : Value) (s2 : Shared) : Prop :=
  ∃ (it : Addr) (fp : List Addr) (tn : Nat → Heap → Prop) (J : It) (H' : Hp), itv = .ref it ∧ Inv X pins σ H' s2 ∧ Turn X.prog X.w X.K tg J fp it tn ∧ tn 0 s2.heap ∧ (∀ b ∈ fp, FpOk X pins H' b) ∧ R J H'
def PI (X : Cx) (tg iter : Expr) (wi : TI) : Prop :=
  ∀ (pins : List (Addr × Obj)) (s : Shared) (σ : St) (H : Hp) (R : It → Hp → Prop), Inv X pins σ H s → wi σ H R →
    wpAny (model X.prog X.w) X.A (eval iter X.env) (fun v s1 => wpAny (model X.prog X.w) X.A (pyIter v) (PIE X pins σ tg R) X.xe s1) X.xe s

/-- the step ahead of the store is nothing for an iterator that keeps no tuple -/
theorem go_of {M : Model} {A : Around} {E : Value → Shared → Prop} {s : Shared} {tg : Expr} {it : Addr} {u : Value} {o : Obj} {n : String} {vs : Array Value} {Q : Unit → Shared → Prop} (ho : s.heap.get? it = some o) (hc : o.cls = .type n) (hd : o.data = .fields vs)
    (hn : ["enumerate", "zip", "dict_itemiterator", "dict_reverseitemiterator", "odict_iterator", "itertools.zip_longest", "itertools.pairwise"].contains n = false) (hQ : Q () s) : wpAny M A (letOwnedTupleGo tg (.ref it) u) Q E s := by
  unfold letOwnedTupleGo
  cases tg <;> first
    | exact wpAny_pure hQ
    | (cases u <;> first
        | exact wpAny_pure hQ
        | (refine wpAny_bind (wpAny_load ho ?_)
           rw [hc, hd]
           show wpAny M A (if (["enumerate", "zip", "dict_itemiterator", "dict_reverseitemiterator", "odict_iterator", "itertools.zip_longest", "itertools.pairwise"].contains n && vs[0]? == some (rawInt _)) = true then _ else _) Q E s
           rw [if_neg (by intro h; rw [hn, Bool.false_and] at h; cases h)]
           exact wpAny_pure hQ))

/-- the list at a, as it stands at each turn (a loop may append to it) -/
def Itl (K : PySem.W.Frag) (a : Addr) : It :=
  ⟨fun i H => ∃ xs x, SqL K H a xs ∧ xs[i]? = some x, fun i H x H' => H' = H ∧ ∀ xs, SqL K H a xs → xs[i]? = some x, fun i H => ∃ xs, SqL K H a xs ∧ xs.length ≤ i⟩
def Itt (K : PySem.W.Frag) (a : Addr) : It :=
  ⟨fun i H => ∃ xs x, SqT K H a xs ∧ xs[i]? = some x, fun i H x H' => H' = H ∧ ∀ xs, SqT K H a xs → xs[i]? = some x, fun i H => ∃ xs, SqT K H a xs ∧ xs.length ≤ i⟩
/-- lo, lo + 1, .. (n of them) -/
def Itr (lo : Int) (n : Nat) : It := ⟨fun i _ => i < n, fun i H x H' => H' = H ∧ x = .int (lo + i), fun i _ => n ≤ i⟩
theorem turn_list {P : Program} {w : World} {K : PySem.W.Frag} {tg : Expr} (a it : Addr) : Turn P w K tg (Itl K a) [it] it (fun i h => h.IsListIter it a i) where
  mem := by simp
  obj := fun i h st b hb => by
    have e : b = it := by simpa using hb
    subst e
    obtain ⟨o, e, c, d⟩ := st
    exact ⟨o, e, fun v z => by rw [d] at z; cases z⟩
  keep := fun i h h' st k => st.at fun o e => k it (by simp) o e
  item := by
    intro X hP hw hK hc i pins s σ H E I hf st hg
    subst hP hw hK
    obtain ⟨xs, x, hq, hx⟩ := hg
    obtain ⟨its, rv, p, hz⟩ := I.list hq
    obtain ⟨u, hu, ru⟩ := rv.get hx
    obtain ⟨f0, f1, f2, f3, f4, f5⟩ := hf it (by simp)
    refine wpAny_pyNext_list_item st p.isList (x := u) (by simpa using hu) fun h' st' sb => ?_
    have I1 : Inv X pins σ H { s with heap := h' } := I.turned (t' := s.toks) (fun b o hb e => (sb.2 b hb).trans e) f0 f1 f3 f4 f5
    obtain ⟨o, e, c, d⟩ := id st'
    exact ⟨u, rfl, go_of (s := { s with heap := h' }) e c d (by decide) ⟨x, H, I1, ru, ⟨rfl, fun ys hy => by rw [I.list_inj hy hq]; exact hx⟩, st', fun b hb => (hf b hb).1⟩⟩
  done := by
    intro X hP hw hK hc i pins s σ H E I hf st hg
    subst hP hw hK
    obtain ⟨xs, hq, hx⟩ := hg
    obtain ⟨its, rv, p, hz⟩ := I.list hq
    obtain ⟨f0, f1, f2, f3, f4, f5⟩ := hf it (by simp)
    have hl := rv.length
    exact wpAny_pyNext_list_end (I.ok.hd hc) st p.isList (by simp; omega) fun h' eb => ⟨rfl, I.turned (t' := s.toks) (fun b o hb e => eb b o hb e) f0 f1 f3 f4 f5⟩
  self := fun _ _ _ _ _ st h => wpAny_pyIter_listiter st h
theorem turn_tuple {P : Program} {w : World} {K : PySem.W.Frag} {tg : Expr} (a it : Addr) : Turn P w K tg (Itt K a) [it] it (fun i h => h.IsTupleIter it a i) where
  mem := by simp
  obj := fun i h st b hb => by
    have e : b = it := by simpa using hb
    subst e
    obtain ⟨o, e, c, d⟩ := st
    exact ⟨o, e, fun v z => by rw [d] at z; cases z⟩
  keep := fun i h h' st k => st.at fun o e => k it (by simp) o e
  item := by
    intro X hP hw hK hc i pins s σ H E I hf st hg
    subst hP hw hK
    obtain ⟨xs, x, hq, hx⟩ := hg
    obtain ⟨its, rv, p, hz⟩ := I.tuple hq
    obtain ⟨u, hu, ru⟩ := rv.get hx
    obtain ⟨f0, f1, f2, f3, f4, f5⟩ := hf it (by simp)
    refine wpAny_pyNext_tuple_item st (show s.heap.IsTuple a its.toArray from p) (x := u) (by simpa using hu) fun h' st' sb => ?_
    have I1 : Inv X pins σ H { s with heap := h' } := I.turned (t' := s.toks) (fun b o hb e => (sb.2 b hb).trans e) f0 f1 f3 f4 f5
    obtain ⟨o, e, c, d⟩ := id st'
    exact ⟨u, rfl, go_of (s := { s with heap := h' }) e c d (by decide) ⟨x, H, I1, ru, ⟨rfl, fun ys hy => by rw [I.tuple_inj hy hq]; exact hx⟩, st', fun b hb => (hf b hb).1⟩⟩
  done := by
    intro X hP hw hK hc i pins s σ H E I hf st hg
    subst hP hw hK
    obtain ⟨xs, hq, hx⟩ := hg
    obtain ⟨its, rv, p, hz⟩ := I.tuple hq
    obtain ⟨f0, f1, f2, f3, f4, f5⟩ := hf it (by simp)
    have hl := rv.length
    exact wpAny_pyNext_tuple_end (I.ok.hd hc) st (show s.heap.IsTuple a its.toArray from p) (by simp; omega) fun h' eb => ⟨rfl, I.turned (t' := s.toks) (fun b o hb e => eb b o hb e) f0 f1 f3 f4 f5⟩
  self := fun _ _ _ _ _ st h => wpAny_pyIter_tupleiter st h
theorem turn_range {P : Program} {w : World} {K : PySem.W.Frag} {tg : Expr} (it : Addr) (lo : Int) (n : Nat) : Turn P w K tg (Itr lo n) [it] it (fun i h => IsRangeIter h it (lo + (i : Nat) * 1) ((n : Int) - (i : Nat)) 1) where
  mem := by simp
  obj := fun i h st b hb => by
    have e : b = it := by simpa using hb
    subst e
    exact ⟨_, st, fun v z => by
      have z' : Data.fields _ = Data.cell v := z
      cases z'⟩
  keep := fun i h h' st k => k it (by simp) _ st
  item := by
    intro X hP hw hK hc i pins s σ H E I hf st hg
    subst hP hw hK
    obtain ⟨f0, f1, f2, f3, f4, f5⟩ := hf it (by simp)
    have W := Walks.range (prog := X.prog) (w := X.w) (I.ok.hd hc) it lo 1 n
    refine W.item i s _ _ hg st fun v h' tk hv st' kk => ?_
    obtain ⟨t, rfl⟩ := hv
    have I1 : Inv X pins σ H { s with heap := h', toks := tk } := I.turned (fun b o hb e => kk b o (by simpa using hb) e) f0 f1 f3 f4 f5
    refine ⟨_, rfl, go_of (s := { s with heap := h', toks := tk }) (n := "range_iterator") st' rfl rfl (by decide) ⟨.int (lo + i), H, I1, ⟨t, ?_⟩, ⟨rfl, rfl⟩, st', fun b hb => (hf b hb).1⟩⟩
    rw [Int.mul_one]
  done := by
    intro X hP hw hK hc i pins s σ H E I hf st hg
    subst hP hw hK
    obtain ⟨f0, f1, f2, f3, f4, f5⟩ := hf it (by simp)
    exact wpAny_pyNext_range_end (I.ok.hd hc) st (by have : n ≤ i := hg; omega) fun h' eb => ⟨rfl, I.turned (t' := s.toks) (fun b o hb e => eb b o hb e) f0 f1 f3 f4 f5⟩
  self := fun _ _ _ _ _ st h => wpAny_pyIter_rangeiter st h
end L2

namespace L2
open PySem PySem.Spec PyProof.Rows
section
variable {X : Cx} {tg : Expr}
/-- a range object just made, walked -/
theorem range_it {pins : List (Addr × Obj)} {σ : St} {H : Hp} {s : Shared} {R : It → Hp → Prop} {E : Value → Shared → Prop} {lo hi : Int} {t u v : Tok} {tk : Nat} (I : Inv X pins σ H s) (h1 : -(2 ^ 62) ≤ lo) (h2 : lo < 2 ^ 62) (h3 : -(2 ^ 62) ≤ hi) (h4 : hi < 2 ^ 62)
    (q : R (Itr lo (hi - lo).toNat) H) : wpAny (model X.prog X.w) X.A (pyIter (.ref s.heap.objs.size)) (PIE X pins σ tg R) E { s with heap := s.heap.push { cls := .type "range", data := .fields #[.int lo t, .int hi u, .int 1 v] }, toks := tk } := by
  refine wpAny_pyIter_range (IsRange.new ..) (small_one h1 h2 h3 h4) ?_
  have I1 : Inv X pins σ H { s with heap := s.heap.push { cls := .type "range", data := .fields #[.int lo t, .int hi u, .int 1 v] }, toks := tk } := I.kept fun b o e => Heap.get?_push_of_some _ e
  refine ⟨(s.heap.push { cls := .type "range", data := .fields #[.int lo t, .int hi u, .int 1 v] }).objs.size, [(s.heap.push { cls := .type "range", data := .fields #[.int lo t, .int hi u, .int 1 v] }).objs.size], _, _, H, rfl,
    I1.kept (t' := tk) fun b o e => Heap.get?_push_of_some _ e, turn_range _ lo (hi - lo).toNat, ?_, fun b hb => ?_, q⟩
  · have e1 : lo + ((0 : Nat) : Int) * 1 = lo := by simp
    have e2 : (((hi - lo).toNat : Nat) : Int) - ((0 : Nat) : Int) = Builtin.Range.rangeSize lo hi 1 := by rw [rangeSize_one]; split <;> omega
    show IsRangeIter _ _ (lo + ((0 : Nat) : Int) * 1) ((((hi - lo).toNat : Nat) : Int) - ((0 : Nat) : Int)) 1
    rw [e1, e2]
    exact Heap.get?_push_size _ rfl
  · have e : b = (s.heap.push { cls := .type "range", data := .fields #[.int lo t, .int hi u, .int 1 v] }).objs.size := by simpa using hb
    subst e
    exact I1.fpOk (Nat.le_refl _) (I1.hok.fresh (Nat.le_refl _))
def iRng1 (ta : TA) : TI := fun σ H R => ta σ H fun vs H1 => ∃ j : Int, vs = [.int j] ∧ -(2 ^ 62) ≤ j ∧ j < 2 ^ 62 ∧ R (Itr 0 j.toNat) H1
def iRng2 (ta : TA) : TI := fun σ H R => ta σ H fun vs H1 => ∃ i j : Int, vs = [.int i, .int j] ∧ (-(2 ^ 62) ≤ i ∧ i < 2 ^ 62 ∧ -(2 ^ 62) ≤ j ∧ j < 2 ^ 62) ∧ R (Itr i (j - i).toNat) H1
theorem pi_range1 {a : Expr} {ta : TA} {p pos : Pos} (hg : Gl X "range") (hm : X.mg "range" = none) (ha : PA X [a] ta) (hs : starEach [a] X.env = [(false, eval a X.env)] := by rfl) : PI X tg (.Call (.Name "range" p) [a] [] pos) (iRng1 ta) := by
  intro pins s σ H R I h
  refine Call_ (ld_blt I hg hm boot_range (PyProof.Rows.callWith_type1 (thn (ha pos pins s σ H _ I h) fun us s1 ⟨vs, H1, I1, r1, q1⟩ => ?_) hs rfl))
  obtain ⟨j, e, q1, q2, q⟩ := q1
  subst e
  cases r1 with
  | cons r rr =>
    cases rr
    obtain ⟨t, rfl⟩ := r
    exact call_range_1 (range_it I1 (by omega) (by omega) q1 q2 (by simpa using q))
theorem pi_range2 {a b : Expr} {ta : TA} {p pos : Pos} (hg : Gl X "range") (hm : X.mg "range" = none) (ha : PA X [a, b] ta) (hs : starEach [a, b] X.env = [(false, eval a X.env), (false, eval b X.env)] := by rfl) (hs2 : starEach [b] X.env = [(false, eval b X.env)] := by rfl) :
    PI X tg (.Call (.Name "range" p) [a, b] [] pos) (iRng2 ta) := by
  intro pins s σ H R I h
  refine Call_ (ld_blt I hg hm boot_range (PyProof.Rows.callWith_type1 (thn (ha pos pins s σ H _ I h) fun us s1 ⟨vs, H1, I1, r1, q1⟩ => ?_) (by rw [hs, hs2]) (by rw [hs2]; rfl)))
  obtain ⟨i, j, e, ⟨q1, q2, q3, q4⟩, q⟩ := q1
  subst e
  cases r1 with
  | cons r rr =>
    cases rr with
    | cons r' rr =>
      cases rr
      obtain ⟨t, rfl⟩ := r
      obtain ⟨t', rfl⟩ := r'
      exact call_range_2 (range_it I1 q1 q2 q3 q4 q)

/-- W: the invariant by the turn and a measure; N: what the body is to reach -/
def tFor (wi : TI) (g : TG) (tb : TS) : TS := fun D σ H => wi σ H fun J H1 => ∃ W : Nat → Nat → St → Hp → Prop, (∃ m, W 0 m σ H1) ∧ ∀ i m σ H, W i m σ H →
  (J.stop i H ∧ D.nx σ H) ∨ (J.go i H ∧ ∃ N : St → Hp → Prop, (∀ σ' H', N σ' H' → ∃ m', m' < m ∧ W (i + 1) m' σ' H') ∧ ∀ x H', J.yld i H x H' → g x σ H' fun σ2 H2 => tb { D with nx := N, ct := N, bk := D.nx } σ2 H2)
/-- the records at fp as they stand -/
def pinsAt (fp : List Addr) (h : Heap) : List (Addr × Obj) := fp.filterMap fun b => (h.get? b).map fun o => (b, o)
theorem mem_pinsAt {fp : List Addr} {h : Heap} {b : Addr} {o : Obj} (hb : b ∈ fp) (e : h.get? b = some o) : (b, o) ∈ pinsAt fp h := List.mem_filterMap.mpr ⟨b, hb, by rw [e]; rfl⟩
theorem of_pinsAt {fp : List Addr} {h : Heap} {p : Addr × Obj} (hp : p ∈ pinsAt fp h) : p.1 ∈ fp ∧ h.get? p.1 = some p.2 := by
  obtain ⟨b, hb, e⟩ := List.mem_filterMap.mp hp
  cases q : h.get? b with
  | none => rw [q] at e; cases e
  | some o =>
    rw [q] at e
    have e' : (b, o) = p := Option.some.inj e
    subst e'
    exact ⟨hb, q⟩
theorem Inv.pinned {pins : List (Addr × Obj)} {σ : St} {H : Hp} {s : Shared} {fp : List Addr} (I : Inv X pins σ H s) (hf : ∀ b ∈ fp, FpOk X pins H b) (ho : ∀ b ∈ fp, ∃ o, s.heap.get? b = some o ∧ ∀ v, o.data ≠ .cell v) : Inv X (pins ++ pinsAt fp s.heap) σ H s :=
  I.pins_of fun p hp => (List.mem_append.mp hp).elim (fun z => I.pin p (List.mem_append_right _ z)) fun z => by
    obtain ⟨hb, e⟩ := of_pinsAt z
    obtain ⟨f0, f1, f2, _⟩ := hf p.1 hb
    obtain ⟨o, e', d⟩ := ho p.1 hb
    rw [e] at e'; cases e'
    exact ⟨e, f0, f1, f2, d⟩
theorem Inv.unpinned {pins pl : List (Addr × Obj)} {σ : St} {H : Hp} {s : Shared} (I : Inv X (pins ++ pl) σ H s) : Inv X pins σ H s := I.pins_of fun p hp => I.pin p (List.mem_append_right _ (List.mem_append_left _ hp))
theorem ps_for {iter : Expr} {body : List Stmt} {wi : TI} {g : TG} {tb : TS} {pos : Pos} (hp : PassesOwn (model X.prog X.w) X.A X.env X.xe) (hc : X.calm = true) (hi : PI X tg iter wi) (hg : PG X tg g) (hb : PSs X body tb)
    (hs : ∀ x, foldedSetIterable iter X.env x = pure x := by intro _; rfl) : PS X (.For tg iter body [] pos) (tFor wi g tb) := by
  intro pins s σ H D I h
  refine wpAny_For (thn (hi pins s σ H _ I h) fun v s1 h1 => thn h1 fun itv s2 h2 => ?_) hs
  obtain ⟨it, fp, tn, J, H2, e, I2, T, st2, f2, W, ⟨m0, w0⟩, turn⟩ := h2
  subst e
  -- what stays true of the iterator's objects through the loop
  have stat : ∀ {H' : Hp}, (∀ b ∈ fp, H' b = none) → ∀ b ∈ fp, FpOk X pins H' b := fun hn b hb => ⟨hn b hb, (f2 b hb).2⟩
  refine codeAny_forLoop_any (fun n s' => ∃ i σ' H', Inv X pins σ' H' s' ∧ tn i s'.heap ∧ (∀ b ∈ fp, H' b = none) ∧ W i n σ' H') ?_ m0 ⟨0, σ, H2, I2, st2, fun b hb => (f2 b hb).1, w0⟩
  rintro n s3 ⟨i, σ3, H3, I3, st3, fr3, w3⟩
  rcases turn i n σ3 H3 w3 with ⟨stop, qn⟩ | ⟨go, N, hN, step⟩
  · refine wpAny_passesOwn hp (thn (T.done X rfl rfl rfl hc i pins s3 σ3 H3 X.xe I3 (stat fr3) st3 stop) fun r s4 ⟨hr, I4⟩ => ?_)
    subst hr
    exact wpAny_execs_nil ⟨σ3, H3, I4, qn⟩
  · refine wpAny_passesOwn hp (thn (T.item X rfl rfl rfl hc i pins s3 σ3 H3 X.xe I3 (stat fr3) st3 go) fun r s4 ⟨u, hr, h4⟩ => ?_)
    subst hr
    refine wpAny_passesOwn hp (thn h4 fun _ s5 ⟨x, H5, I5, r5, y5, st5, fr5⟩ => ?_)
    have I5' := I5.pinned (stat fr5) (T.obj _ _ st5)
    refine wpAny_passesOwn hp (thn (hg _ s5 σ3 H5 x u _ I5' r5 (step x H5 y5)) fun _ s6 ⟨σ6, H6, I6, q6⟩ => ?_)
    refine wpAny_passesOwn hp (thn (hb _ s6 σ6 H6 _ I6 q6) fun f s7 q7 => ?_)
    have again : ∀ {σ7 : St} {H7 : Hp}, Inv X (pins ++ pinsAt fp s5.heap) σ7 H7 s7 → N σ7 H7 → ∃ m, m < n ∧ ∃ i σ' H', Inv X pins σ' H' s7 ∧ tn i s7.heap ∧ (∀ b ∈ fp, H' b = none) ∧ W i m σ' H' := fun {σ7 H7} I7 n7 => by
      obtain ⟨m', hm, w7⟩ := hN σ7 H7 n7
      refine ⟨m', hm, i + 1, σ7, H7, I7.unpinned, T.keep _ _ _ st5 fun b hb o e => (I7.pin (b, o) (List.mem_append_right _ (List.mem_append_right _ (mem_pinsAt hb e)))).1, fun b hb => ?_, w7⟩
      obtain ⟨o, e, d⟩ := T.obj _ _ st5 b hb
      exact (I7.pin (b, o) (List.mem_append_right _ (List.mem_append_right _ (mem_pinsAt hb e)))).2.1
    cases f with
    | next => obtain ⟨σ7, H7, I7, n7⟩ := q7; exact again I7 n7
    | cont => obtain ⟨σ7, H7, I7, n7⟩ := q7; exact again I7 n7
    | brk => obtain ⟨σ7, H7, I7, q7⟩ := q7; exact ⟨σ7, H7, I7.unpinned, q7⟩
    | ret v => obtain ⟨x7, σ7, H7, I7, r7, q7⟩ := q7; exact ⟨x7, σ7, H7, I7.unpinned, r7, q7⟩
end

/-- over a list that the body leaves as it is -/
theorem for_list {K : PySem.W.Frag} {a : Addr} {xs : List V} {g : TG} {tb : TS} {D : Ends} {σ : St} {H : Hp} (Pv : Nat → St → Hp → Prop) (h0 : Pv 0 σ H) (hl : ∀ i σ H, i ≤ xs.length → Pv i σ H → SqL K H a xs)
    (hs : ∀ i x σ H, xs[i]? = some x → Pv i σ H → g x σ H fun σ2 H2 => tb { D with nx := Pv (i + 1), ct := Pv (i + 1), bk := D.nx } σ2 H2) (hd : ∀ σ H, Pv xs.length σ H → D.nx σ H) :
    ∃ W : Nat → Nat → St → Hp → Prop, (∃ m, W 0 m σ H) ∧ ∀ i m σ H, W i m σ H →
      ((Itl K a).stop i H ∧ D.nx σ H) ∨ ((Itl K a).go i H ∧ ∃ N : St → Hp → Prop, (∀ σ' H', N σ' H' → ∃ m', m' < m ∧ W (i + 1) m' σ' H') ∧ ∀ x H', (Itl K a).yld i H x H' → g x σ H' fun σ2 H2 => tb { D with nx := N, ct := N, bk := D.nx } σ2 H2) := by
  refine ⟨fun i m σ H => m = xs.length - i ∧ i ≤ xs.length ∧ Pv i σ H, ⟨xs.length, by simp, Nat.zero_le _, h0⟩, ?_⟩
  rintro i m σ H ⟨rfl, hi, p⟩
  have q := hl i σ H hi p
  by_cases hlt : i < xs.length
  · refine .inr ⟨⟨xs, xs[i], q, by simp [hlt]⟩, Pv (i + 1), fun σ' H' p' => ⟨xs.length - (i + 1), by omega, rfl, hlt, p'⟩, fun x H' y => ?_⟩
    obtain ⟨e, y⟩ := y
    subst e
    exact hs i x σ _ (y xs q) p
  · have e : i = xs.length := by omega
    subst e
    exact .inl ⟨⟨xs, q, Nat.le_refl _⟩, hd σ H p⟩
theorem for_range {lo : Int} {n : Nat} {g : TG} {tb : TS} {D : Ends} {σ : St} {H : Hp} (Pv : Nat → St → Hp → Prop) (h0 : Pv 0 σ H)
    (hs : ∀ i σ H, i < n → Pv i σ H → g (.int (lo + i)) σ H fun σ2 H2 => tb { D with nx := Pv (i + 1), ct := Pv (i + 1), bk := D.nx } σ2 H2) (hd : ∀ σ H, Pv n σ H → D.nx σ H) :
    ∃ W : Nat → Nat → St → Hp → Prop, (∃ m, W 0 m σ H) ∧ ∀ i m σ H, W i m σ H →
      ((Itr lo n).stop i H ∧ D.nx σ H) ∨ ((Itr lo n).go i H ∧ ∃ N : St → Hp → Prop, (∀ σ' H', N σ' H' → ∃ m', m' < m ∧ W (i + 1) m' σ' H') ∧ ∀ x H', (Itr lo n).yld i H x H' → g x σ H' fun σ2 H2 => tb { D with nx := N, ct := N, bk := D.nx } σ2 H2) := by
  refine ⟨fun i m σ H => m = n - i ∧ i ≤ n ∧ Pv i σ H, ⟨n, by simp, Nat.zero_le _, h0⟩, ?_⟩
  rintro i m σ H ⟨rfl, hi, p⟩
  by_cases hlt : i < n
  · refine .inr ⟨hlt, Pv (i + 1), fun σ' H' p' => ⟨n - (i + 1), by omega, rfl, hlt, p'⟩, fun x H' y => ?_⟩
    obtain ⟨e, y⟩ := y
    subst e y
    exact hs i σ _ hlt p
  · have e : i = n := by omega
    subst e
    exact .inl ⟨Nat.le_refl _, hd σ H p⟩
end L2

namespace L2
open PySem PySem.Spec PyProof.Rows

abbrev R2 := V → V → Hp → VK → Prop
/-- a two-place operation on values: f is binaryOp op, inplaceOp op or compareOp op -/
def OpR (X : Cx) (f : Value → Value → Sem Value) (r : R2) : Prop :=
  ∀ (pins : List (Addr × Obj)) (s : Shared) (σ : St) (H : Hp) (x y : V) (v u : Value) (Q : VK), Inv X pins σ H s → RelV x v → RelV y u → r x y H Q →
    wpAny (model X.prog X.w) X.A (f v u) (EP X pins σ Q) X.xe s
/-- a one-place operation -/
def UnR (X : Cx) (f : Value → Sem Value) (r : V → Hp → VK → Prop) : Prop :=
  ∀ (pins : List (Addr × Obj)) (s : Shared) (σ : St) (H : Hp) (x : V) (v : Value) (Q : VK), Inv X pins σ H s → RelV x v → r x H Q →
    wpAny (model X.prog X.w) X.A (f v) (EP X pins σ Q) X.xe s
/-- a call of a value that is known (a builtin, a type) with values -/
def CallR (X : Cx) (f : Value) (r : List V → Hp → VK → Prop) : Prop :=
  ∀ (pins : List (Addr × Obj)) (s : Shared) (σ : St) (H : Hp) (xs : List V) (us : List Value) (Q : VK), Inv X pins σ H s → Vals xs us → r xs H Q →
    wpAny (model X.prog X.w) X.A (call f us) (EP X pins σ Q) X.xe s
/-- a value's truth -/
def TruR (X : Cx) (r : V → Hp → (Bool → Hp → Prop) → Prop) : Prop :=
  ∀ (pins : List (Addr × Obj)) (s : Shared) (σ : St) (H : Hp) (x : V) (v : Value) (Q : Bool → Hp → Prop), Inv X pins σ H s → RelV x v → r x H Q →
    wpAny (model X.prog X.w) X.A (truthy v) (TP X pins σ Q) X.xe s

def tOp (r : R2) (ta tb : TE) : TE := fun σ H Q => ta σ H fun x H1 => tb σ H1 fun y H2 => r x y H2 Q
def tUn (r : V → Hp → VK → Prop) (ta : TE) : TE := fun σ H Q => ta σ H fun x H1 => r x H1 Q
/-- ints in, under C, and a value out -/
def rI (C : Int → Int → Prop) (g : Int → Int → V) : R2 := fun x y H Q => ∃ i j, x = .int i ∧ y = .int j ∧ C i j ∧ Q (g i j) H
def rI0 (g : Int → Int → V) : R2 := fun x y H Q => ∃ i j, x = .int i ∧ y = .int j ∧ Q (g i j) H
def rU (g : Int → V) : V → Hp → VK → Prop := fun x H Q => ∃ i, x = .int i ∧ Q (g i) H

section
variable {X : Cx} {a b c : Expr} {ta tb tc : TE} {pos : Pos}

theorem binT (ha : PE X a ta) (hb : PE X b tb) {pins : List (Addr × Obj)} {s : Shared} {σ : St} {H : Hp} {R : V → V → Hp → Prop} (I : Inv X pins σ H s)
    (h : ta σ H fun x H1 => tb σ H1 fun y H2 => R x y H2) {Q : Value → Shared → Prop} {f : Value → Value → Sem Value}
    (hf : ∀ v u s2 x y H2, Inv X pins σ H2 s2 → RelV x v → RelV y u → R x y H2 → wpAny (model X.prog X.w) X.A (f v u) Q X.xe s2) :
    wpAny (model X.prog X.w) X.A (eval a X.env) (fun v s₁ => wpAny (model X.prog X.w) X.A (eval b X.env) (fun u s₂ => wpAny (model X.prog X.w) X.A (f v u) Q X.xe s₂) X.xe s₁) X.xe s := by
  refine thn (ha pins s σ H _ I h) fun v s1 ⟨x, H1, I1, r1, q1⟩ => ?_
  refine thn (hb pins s1 σ H1 _ I1 q1) fun u s2 ⟨y, H2, I2, r2, q2⟩ => ?_
  exact hf v u s2 x y H2 I2 r1 r2 q2

theorem pe_op {op : Operator} {r : R2} (ho : OpR X (binaryOp op) r) (ha : PE X a ta) (hb : PE X b tb) : PE X (.BinOp a op b pos) (tOp r ta tb) := by
  intro pins s σ H Q I h
  exact wpAny_BinOp (binT ha hb I h fun v u s2 x y H2 I2 rx ry q => ho pins s2 σ H2 x y v u Q I2 rx ry q)
theorem pe_un {op : UnaryOp} {r : V → Hp → VK → Prop} (ho : UnR X (unaryOp op) r) (ha : PE X a ta) : PE X (.UnaryOp op a pos) (tUn r ta) := by
  intro pins s σ H Q I h
  exact UnaryOp_ (thn (ha pins s σ H _ I h) fun v s1 ⟨x, H1, I1, r1, q1⟩ => ho pins s1 σ H1 x v Q I1 r1 q1)
theorem opI {f : Value → Value → Sem Value} {C : Int → Int → Prop} {g : Int → Int → Int}
    (rule : ∀ (i j : Int) (t u : Tok) (s : Shared) (Q : Value → Shared → Prop) (E : Value → Shared → Prop), C i j → Q (.int (g i j) s.toks) { s with toks := s.toks + 1 } → wpAny (model X.prog X.w) X.A (f (.int i t) (.int j u)) Q E s) :
    OpR X f (rI C fun i j => .int (g i j)) := by
  intro pins s σ H x y v u Q I rx ry h
  obtain ⟨i, j, rfl, rfl, hc, q⟩ := h
  obtain ⟨t, rfl⟩ := rx
  obtain ⟨t', rfl⟩ := ry
  exact rule i j t t' s _ _ hc ⟨.int (g i j), H, I.tok _, ⟨_, rfl⟩, q⟩
theorem opI0 {f : Value → Value → Sem Value} {g : Int → Int → Int}
    (rule : ∀ (i j : Int) (t u : Tok) (s : Shared) (Q : Value → Shared → Prop) (E : Value → Shared → Prop), Q (.int (g i j) s.toks) { s with toks := s.toks + 1 } → wpAny (model X.prog X.w) X.A (f (.int i t) (.int j u)) Q E s) :
    OpR X f (rI0 fun i j => .int (g i j)) := by
  intro pins s σ H x y v u Q I rx ry h
  obtain ⟨i, j, rfl, rfl, q⟩ := h
  obtain ⟨t, rfl⟩ := rx
  obtain ⟨t', rfl⟩ := ry
  exact rule i j t t' s _ _ ⟨.int (g i j), H, I.tok _, ⟨_, rfl⟩, q⟩
theorem opB0 {f : Value → Value → Sem Value} {g : Int → Int → Bool}
    (rule : ∀ (i j : Int) (t u : Tok) (s : Shared) (Q : Value → Shared → Prop) (E : Value → Shared → Prop), Q (.bool (g i j)) s → wpAny (model X.prog X.w) X.A (f (.int i t) (.int j u)) Q E s) :
    OpR X f (rI0 fun i j => .bl (g i j)) := by
  intro pins s σ H x y v u Q I rx ry h
  obtain ⟨i, j, rfl, rfl, q⟩ := h
  obtain ⟨t, rfl⟩ := rx
  obtain ⟨t', rfl⟩ := ry
  exact rule i j t t' s _ _ ⟨.bl (g i j), H, I, rfl, q⟩

def CPow (i j : Int) : Prop := 0 ≤ j ∧ j ≤ 1000000 ∧ i.natAbs < 2 ^ 64
def CMul (i j : Int) : Prop := (-(2 ^ 64) < i ∧ i < 2 ^ 64) ∨ (-(2 ^ 64) < j ∧ j < 2 ^ 64)
theorem CMul.ok {i j : Int} (h : CMul i j) : IntMulOk i j := by
  rcases h with ⟨h1, h2⟩ | ⟨h1, h2⟩
  · exact .of_left (intBits_le_64 h1 h2)
  · exact .of_right (intBits_le_64 h1 h2)
theorem two_pow_nn (k : Nat) : (0 : Int) ≤ 2 ^ k := by
  rw [two_pow_cast]
  exact Int.natCast_nonneg _

theorem op_add : OpR X (binaryOp .Add) (rI0 fun i j => .int (i + j)) := opI0 fun _ _ _ _ _ _ _ q => add_int q
theorem op_sub : OpR X (binaryOp .Sub) (rI0 fun i j => .int (i - j)) := opI0 fun _ _ _ _ _ _ _ q => sub_int q
theorem op_mul : OpR X (binaryOp .Mult) (rI CMul fun i j => .int (i * j)) := opI fun _ _ _ _ _ _ _ hc q => mul_int q hc.ok
/-- % by a positive divisor of any size -/
theorem op_mod : OpR X (binaryOp .Mod) (rI (fun _ j => 0 < j) fun i j => .int (i % j)) := opI fun i j _ _ _ _ _ hc q => by
  have h1 : (0 : Int) < j := hc
  exact mod_int' (by omega) (by rw [Int.fmod_eq_emod_of_nonneg i (by omega)]; exact q)
theorem op_pow : OpR X (binaryOp .Pow) (rI CPow fun i j => .int (i ^ j.toNat)) := opI fun _ _ _ _ _ _ _ hc q => pow_int_small hc.1 hc.2.1 hc.2.2 q
theorem op_shl : OpR X (binaryOp .LShift) (rI CPow fun i j => .int (i * 2 ^ j.toNat)) := opI fun _ _ _ _ _ _ _ hc q => lshift_int_small hc.1 hc.2.1 hc.2.2 q
theorem op_shr : OpR X (binaryOp .RShift) (rI (fun _ j => 0 ≤ j) fun i j => .int (i / 2 ^ j.toNat)) := opI fun i j _ _ _ _ _ hc q =>
  rshift_int hc (by rw [Int.fdiv_eq_ediv_of_nonneg i (two_pow_nn _)]; exact q)
theorem op_and : OpR X (binaryOp .BitAnd) (rI0 fun i j => .int (Builtin.bitAnd i j)) := opI0 fun _ _ _ _ _ _ _ q => and_int q
theorem op_or : OpR X (binaryOp .BitOr) (rI0 fun i j => .int (Builtin.bitOr i j)) := opI0 fun _ _ _ _ _ _ _ q => or_int q
theorem op_xor : OpR X (binaryOp .BitXor) (rI0 fun i j => .int (Builtin.bitXor i j)) := opI0 fun _ _ _ _ _ _ _ q => xor_int q

theorem unI {f : Value → Sem Value} {g : Int → Int}
    (rule : ∀ (i : Int) (t : Tok) (s : Shared) (Q : Value → Shared → Prop) (E : Value → Shared → Prop), Q (.int (g i) s.toks) { s with toks := s.toks + 1 } → wpAny (model X.prog X.w) X.A (f (.int i t)) Q E s) :
    UnR X f (rU fun i => .int (g i)) := by
  intro pins s σ H x v Q I rx h
  obtain ⟨i, rfl, q⟩ := h
  obtain ⟨t, rfl⟩ := rx
  exact rule i t s _ _ ⟨.int (g i), H, I.tok _, ⟨_, rfl⟩, q⟩
theorem un_inv : UnR X (unaryOp .Invert) (rU fun i => .int (Builtin.bitNot i)) := unI fun _ _ _ _ _ q => invert_int q

end

/-- the scalars that == tells apart as data does -/
def scal : V → V → Bool
  | .non, .non => true | .non, .int _ => true | .int _, .non => true | .non, .bl _ => true | .bl _, .non => true | .non, .str _ => true | .str _, .non => true
  | .int _, .int _ => true | .bl _, .bl _ => true | .str _, .str _ => true | .byt _, .byt _ => true
  | .int _, .str _ => true | .str _, .int _ => true | .bl _, .str _ => true | .str _, .bl _ => true
  | _, _ => false
def rEq : R2 := fun x y H Q => scal x y = true ∧ Q (.bl (decide (x = y))) H
def rNe : R2 := fun x y H Q => scal x y = true ∧ Q (.bl (!decide (x = y))) H

theorem dec_int {i j : Int} : decide (V.int i = V.int j) = (i == j) := by
  rw [Bool.eq_iff_iff]
  simp
theorem dec_bl {i j : Bool} : decide (V.bl i = V.bl j) = (i == j) := by
  rw [Bool.eq_iff_iff]
  simp
theorem dec_str {i j : Str} : decide (V.str i = V.str j) = (i == j) := by
  rw [Bool.eq_iff_iff]
  simp
theorem dec_byt {i j : Array UInt8} : decide (V.byt i = V.byt j) = (i.toList == j.toList) := by
  rw [Bool.eq_iff_iff]
  cases i
  cases j
  simp

section
variable {X : Cx} {a b c : Expr} {ta tb tc : TE} {pos : Pos}
theorem fin_bl {pins : List (Addr × Obj)} {σ : St} {H : Hp} {s : Shared} {Q : VK} {k k' : Bool} (I : Inv X pins σ H s) (q : Q (.bl k) H) (e : k = k') : EP X pins σ Q (.bool k') s := by
  subst e
  exact ⟨.bl k, H, I, rfl, q⟩
theorem op_eq : OpR X (compareOp .Eq) rEq := by
  intro pins s σ H x y v u Q I rx ry h
  obtain ⟨hs, q⟩ := h
  cases x with
  | non =>
    cases rx
    cases y with
    | non => cases ry; exact PySem.EqNone.eq_none_none (fin_bl I q (by simp))
    | bl j => cases ry; exact PySem.EqNone.eq_none_bool (fin_bl I q (by simp))
    | int j => obtain ⟨t', rfl⟩ := ry; exact PySem.EqNone.eq_none_int (fin_bl I q (by simp))
    | str j => obtain ⟨t', rfl⟩ := ry; exact PySem.EqNone.eq_none_str (fin_bl I q (by simp))
    | _ => exact absurd (show false = true from hs) Bool.false_ne_true
  | bl i =>
    cases rx
    cases y with
    | non => cases ry; exact PySem.EqNone.eq_bool_none (fin_bl I q (by simp))
    | bl j => cases ry; exact eq_bool (fin_bl I q dec_bl)
    | str j => obtain ⟨t', rfl⟩ := ry; exact PySem.EqMixed.eq_bool_str (fin_bl I q (by simp))
    | _ => exact absurd (show false = true from hs) Bool.false_ne_true
  | int i =>
    obtain ⟨t, rfl⟩ := rx
    cases y with
    | non => cases ry; exact PySem.EqNone.eq_int_none (fin_bl I q (by simp))
    | int j => obtain ⟨t', rfl⟩ := ry; exact eq_int (fin_bl I q dec_int)
    | str j => obtain ⟨t', rfl⟩ := ry; exact PySem.EqMixed.eq_int_str (fin_bl I q (by simp))
    | _ => exact absurd (show false = true from hs) Bool.false_ne_true
  | str i =>
    obtain ⟨t, rfl⟩ := rx
    cases y with
    | non => cases ry; exact PySem.EqNone.eq_str_none (fin_bl I q (by simp))
    | bl j => cases ry; exact PySem.EqMixed.eq_str_bool (fin_bl I q (by simp))
    | int j => obtain ⟨t', rfl⟩ := ry; exact PySem.EqMixed.eq_str_int (fin_bl I q (by simp))
    | str j => obtain ⟨t', rfl⟩ := ry; exact eq_str (fin_bl I q dec_str)
    | _ => exact absurd (show false = true from hs) Bool.false_ne_true
  | byt i =>
    obtain ⟨t, rfl⟩ := rx
    cases y with
    | byt j => obtain ⟨t', rfl⟩ := ry; exact PySem.W.eq_bytes (fin_bl I q dec_byt)
    | _ => exact absurd (show false = true from hs) Bool.false_ne_true
  | _ => cases y <;> exact absurd (show false = true from hs) Bool.false_ne_true
theorem op_ne : OpR X (compareOp .NotEq) rNe := by
  intro pins s σ H x y v u Q I rx ry h
  obtain ⟨hs, q⟩ := h
  cases x with
  | non =>
    cases rx
    cases y with
    | non => cases ry; exact PySem.EqNone.ne_none_none (fin_bl I q (by simp))
    | bl j => cases ry; exact PySem.EqNone.ne_none_bool (fin_bl I q (by simp))
    | int j => obtain ⟨t', rfl⟩ := ry; exact PySem.EqNone.ne_none_int (fin_bl I q (by simp))
    | str j => obtain ⟨t', rfl⟩ := ry; exact PySem.EqNone.ne_none_str (fin_bl I q (by simp))
    | _ => exact absurd (show false = true from hs) Bool.false_ne_true
  | bl i =>
    cases rx
    cases y with
    | non => cases ry; exact PySem.EqNone.ne_bool_none (fin_bl I q (by simp))
    | bl j => cases ry; exact ne_bool (fin_bl I q (congrArg not dec_bl))
    | str j => obtain ⟨t', rfl⟩ := ry; exact PySem.EqMixed.ne_bool_str (fin_bl I q (by simp))
    | _ => exact absurd (show false = true from hs) Bool.false_ne_true
  | int i =>
    obtain ⟨t, rfl⟩ := rx
    cases y with
    | non => cases ry; exact PySem.EqNone.ne_int_none (fin_bl I q (by simp))
    | int j => obtain ⟨t', rfl⟩ := ry; exact ne_int (fin_bl I q (congrArg not dec_int))
    | str j => obtain ⟨t', rfl⟩ := ry; exact PySem.EqMixed.ne_int_str (fin_bl I q (by simp))
    | _ => exact absurd (show false = true from hs) Bool.false_ne_true
  | str i =>
    obtain ⟨t, rfl⟩ := rx
    cases y with
    | non => cases ry; exact PySem.EqNone.ne_str_none (fin_bl I q (by simp))
    | bl j => cases ry; exact PySem.EqMixed.ne_str_bool (fin_bl I q (by simp))
    | int j => obtain ⟨t', rfl⟩ := ry; exact PySem.EqMixed.ne_str_int (fin_bl I q (by simp))
    | str j => obtain ⟨t', rfl⟩ := ry; exact ne_str (fin_bl I q (congrArg not dec_str))
    | _ => exact absurd (show false = true from hs) Bool.false_ne_true
  | byt i =>
    obtain ⟨t, rfl⟩ := rx
    cases y with
    | byt j => obtain ⟨t', rfl⟩ := ry; exact PySem.W.ne_bytes (fin_bl I q (congrArg not dec_byt))
    | _ => exact absurd (show false = true from hs) Bool.false_ne_true
  | _ => cases y <;> exact absurd (show false = true from hs) Bool.false_ne_true

theorem op_lt : OpR X (compareOp .Lt) (rI0 fun i j => .bl (decide (i < j))) := opB0 fun _ _ _ _ _ _ _ q => lt_int q
theorem op_le : OpR X (compareOp .LtE) (rI0 fun i j => .bl (decide (i ≤ j))) := opB0 fun _ _ _ _ _ _ _ q => le_int q
theorem op_gt : OpR X (compareOp .Gt) (rI0 fun i j => .bl (decide (j < i))) := opB0 fun _ _ _ _ _ _ _ q => gt_int q
theorem op_notN : OpR X (compareOp .IsNot) (fun x y H Q => y = .non ∧ Q (.bl (!decide (x = .non))) H) := by
  intro pins s σ H x y v u Q I rx ry h
  obtain ⟨rfl, q⟩ := h
  cases ry
  refine isnot_none_gen (fin_bl I q ?_)
  cases x <;> first
    | (cases rx; rfl)
    | (obtain ⟨t, rfl⟩ := rx; rfl)

/-- two rules for one operation: by cases -/
theorem OpR.or {f : Value → Value → Sem Value} {r r' : R2} (h : OpR X f r) (h' : OpR X f r') : OpR X f (fun x y H Q => r x y H Q ∨ r' x y H Q) := by
  intro pins s σ H x y v u Q I rx ry q
  rcases q with q | q
  · exact h pins s σ H x y v u Q I rx ry q
  · exact h' pins s σ H x y v u Q I rx ry q

theorem nomark (b : Expr) {op : CmpOp} (h : op ≠ .In := by decide) (h2 : op ≠ .NotIn := by decide) : behindInMarks op b = false := by
  have e1 : (op == CmpOp.In) = false := by cases op <;> first | rfl | exact absurd rfl h
  have e2 : (op == CmpOp.NotIn) = false := by cases op <;> first | rfl | exact absurd rfl h2
  cases b <;> simp [behindInMarks, e1, e2]
/-- a comparison as a value; hm: nomark b, or (for in, not in) by with_unfolding_all rfl -/
theorem pe_cmpR {op : CmpOp} {r : R2} (ho : OpR X (compareOp op) r) (ha : PE X a ta) (hb : PE X b tb) (hm : behindInMarks op b = false) : PE X (.Compare a [op] [b] pos) (tOp r ta tb) := by
  intro pins s σ H Q I h
  exact wpAny_Compare1 (binT ha hb I h fun v u s2 x y H2 I2 rx ry q => ho pins s2 σ H2 x y v u Q I2 rx ry q) hm
/-- a reading of a value as a test -/
def tTest (t : TE) : TT := fun σ H Q => t σ H fun x H' => ∃ k, x = .bl k ∧ Q k H'
theorem pt_cmpR {op : CmpOp} {r : R2} (ho : OpR X (compareOp op) r) (ha : PE X a ta) (hb : PE X b tb) (hm : behindInMarks op b = false) : PT X (.Compare a [op] [b] pos) (tTest (tOp r ta tb)) := by
  intro pins s σ H Q I h
  refine wpAny_isTrue_Compare1 (thn (ha pins s σ H _ I h) fun v s1 ⟨x, H1, I1, r1, q1⟩ => thn (hb pins s1 σ H1 _ I1 q1) fun u s2 ⟨y, H2, I2, r2, q2⟩ =>
    thn (ho pins s2 σ H2 x y v u _ I2 r1 r2 q2) fun c s3 ⟨z, H3, I3, r3, k, e, q3⟩ => ?_) hm
  subst e
  cases r3
  exact wpAny_truthy_bool ⟨H3, I3, q3⟩
/-- a op1 b op2 c -/
def tChain (r r' : R2) (ta tb tc : TE) : TE := fun σ H Q => ta σ H fun x H1 => tb σ H1 fun y H2 => r x y H2 fun z H3 => ∃ k, z = .bl k ∧
  (if k = true then tc σ H3 fun w' H4 => r' y w' H4 Q else Q (.bl false) H3)
theorem pe_chain {op op' : CmpOp} {r r' : R2} (ho : OpR X (compareOp op) r) (ho' : OpR X (compareOp op') r') (ha : PE X a ta) (hb : PE X b tb) (hc : PE X c tc)
    (hm : lastMarks [op, op'] [b, c] = false := by with_unfolding_all rfl) : PE X (.Compare a [op, op'] [b, c] pos) (tChain r r' ta tb tc) := by
  intro pins s σ H Q I h
  refine Compare_chain (thn (ha pins s σ H _ I h) fun v s1 ⟨x, H1, I1, r1, q1⟩ => chain_link (thn (hb pins s1 σ H1 _ I1 q1) fun u s2 ⟨y, H2, I2, r2, q2⟩ =>
    thn (ho pins s2 σ H2 x y v u _ I2 r1 r2 q2) fun d s3 ⟨z, H3, I3, r3, k, e, q3⟩ => ?_)) hm
  subst e
  cases r3
  refine wpAny_truthy_bool ?_
  cases k with
  | false => exact ite_ff ⟨.bl false, H3, I3, rfl, q3⟩
  | true => exact ite_tt (chain_last (thn (hc pins s3 σ H3 _ I3 q3) fun w' s4 ⟨z', H4, I4, r4, q4⟩ => ho' pins s4 σ H4 y z' u w' Q I4 r2 r4 q4))
/-- a value's truth by the abstract heap -/
def TruV (K : PySem.W.Frag) (x : V) (H : Hp) (k : Bool) : Prop :=
  match x with
  | .non => k = false
  | .bl b => k = b
  | .int i => k = (i != 0)
  | .str y => y.length ≤ sizeLine ∧ k = ((y.length : Int) != 0)
  | .byt y => y.size ≤ sizeLine ∧ k = ((y.size : Int) != 0)
  | .ref p => (∃ xs, SqL K H p xs ∧ k = !xs.isEmpty) ∨ (∃ xs, SqT K H p xs ∧ k = !xs.isEmpty) ∨ ∃ kvs, H p = some (.dK kvs) ∧ k = !kvs.isEmpty
  | _ => False
theorem isEmpty_kv {κ : Type} {kvs : List (κ × V)} {vs : List (κ × Value)} (r : KV kvs vs) : (!vs.isEmpty) = !kvs.isEmpty := by
  cases r <;> rfl
theorem isEmpty_of {xs : List V} {its : List Value} (r : Vals xs its) : (!its.toArray.isEmpty) = !xs.isEmpty := by
  cases r <;> simp
theorem line63 : (sizeLine : Nat) < 2 ^ 63 := by rw [sizeLine_eq]; decide
theorem tru_ok : TruR X (fun x H Q => ∃ k, TruV X.K x H k ∧ Q k H) := by
  intro pins s σ H x v Q I rx h
  obtain ⟨k, e, q⟩ := h
  have hl := line63
  have hs : sizeLine = 16777216 := sizeLine_eq
  cases x with
  | non =>
    cases rx
    have e' : k = false := e
    subst e'
    exact truthy_none ⟨H, I, q⟩
  | bl b =>
    cases rx
    have e' : k = b := e
    subst e'
    exact wpAny_truthy_bool ⟨H, I, q⟩
  | int i =>
    obtain ⟨t, rfl⟩ := rx
    have e' : k = (i != 0) := e
    subst e'
    exact PySem.P.truthy_int ⟨H, I, q⟩
  | str y =>
    obtain ⟨t, rfl⟩ := rx
    obtain ⟨hy, e'⟩ : y.length ≤ sizeLine ∧ k = ((y.length : Int) != 0) := e
    subst e'
    exact PySem.P.truthy_str (by omega) ⟨H, I.tok _, q⟩
  | byt y =>
    obtain ⟨t, rfl⟩ := rx
    obtain ⟨hy, e'⟩ : y.size ≤ sizeLine ∧ k = ((y.size : Int) != 0) := e
    subst e'
    exact PySem.W.truthy_bytes (by omega) ⟨H, I.tok _, q⟩
  | ref p =>
    cases rx
    have e' : (∃ xs, SqL X.K H p xs ∧ k = !xs.isEmpty) ∨ (∃ xs, SqT X.K H p xs ∧ k = !xs.isEmpty) ∨ ∃ kvs, H p = some (.dK kvs) ∧ k = !kvs.isEmpty := e
    rcases e' with ⟨xs, hx, e'⟩ | ⟨xs, hx, e'⟩ | ⟨kvs, hx, e'⟩
    · subst e'
      obtain ⟨its, r, pl, hz⟩ := I.list hx
      have hlen := r.length
      exact wpAny_truthy_list pl.isList (by simp only [List.size_toArray]; omega) ⟨H, I.tok _, by rw [isEmpty_of r]; exact q⟩
    · subst e'
      obtain ⟨its, r, pl, hz⟩ := I.tuple hx
      have hlen := r.length
      exact truthy_tuple pl (by simp only [List.size_toArray]; omega) ⟨H, I.tok _, by rw [isEmpty_of r]; exact q⟩
    · subst e'
      obtain ⟨hz, hS, vs, r, m⟩ : kvs.length ≤ sizeLine ∧ (p == sysModules) = false ∧ ∃ vs, KV kvs vs ∧ s.heap.DictOf (mixKind X.prog X.w) p vs := I.hok p _ hx
      have hlen : kvs.length = vs.length := Paired.length r
      exact wpAny_truthy_dict hS m (by omega) ⟨H, I.tok _, by rw [isEmpty_kv r]; exact q⟩
  | _ => exact (show False from e).elim
/-- any expression whose test is its value's truth (a name, a call, a subscript, a field ..: he by fun _ => rfl) -/
theorem pt_truth (ha : PE X a ta) (he : ∀ whole, isTrue a X.env whole = (do let v ← whole; standAt a.pos; holding [v] (truthy v))) :
    PT X a (fun σ H Q => ta σ H fun x H' => ∃ k, TruV X.K x H' k ∧ Q k H') := by
  intro pins s σ H Q I h
  exact isTrue_plain (thn (ha pins s σ H _ I h) fun v s1 ⟨x, H1, I1, r1, q1⟩ => tru_ok pins s1 σ H1 x v Q I1 r1 q1) (he _)

theorem op_add_str : OpR X (binaryOp .Add) (fun x y H Q => ∃ i j, x = .str i ∧ y = .str j ∧ i.length + j.length ≤ sizeLine ∧ Q (.str (i ++ j)) H) := by
  intro pins s σ H x y v u Q I rx ry h
  obtain ⟨i, j, rfl, rfl, hz, q⟩ := h
  obtain ⟨t, rfl⟩ := rx
  obtain ⟨t', rfl⟩ := ry
  exact add_str (fun t' tk => ⟨.str (i ++ j), H, I.tok _, ⟨_, rfl⟩, q⟩) hz
theorem vals1 {x : V} {us : List Value} (r : Vals [x] us) : ∃ u, us = [u] ∧ RelV x u := by
  cases r with
  | cons r1 r2 => cases r2; exact ⟨_, rfl, r1⟩
theorem vals2 {x y : V} {us : List Value} (r : Vals [x, y] us) : ∃ u w', us = [u, w'] ∧ RelV x u ∧ RelV y w' := by
  cases r with
  | cons r1 r2 =>
    cases r2 with
    | cons r3 r4 => cases r4; exact ⟨_, _, rfl, r1, r3⟩
theorem call_max2 (hc : X.calm = true) : CallR X (.builtin "max") (fun xs H Q => ∃ i j, xs = [.int i, .int j] ∧ Q (.int (if j > i then j else i)) H) := by
  intro pins s σ H xs us Q I r h
  obtain ⟨i, j, rfl, q⟩ := h
  obtain ⟨u, w', rfl, ⟨t, rfl⟩, ⟨t', rfl⟩⟩ := vals2 r
  refine max_two_ints (I.ok.hd hc) fun h' tk k => ⟨_, H, I.kept k, ?_, q⟩
  by_cases hj : j > i
  · rw [if_pos hj, if_pos hj]; exact ⟨_, rfl⟩
  · rw [if_neg hj, if_neg hj]; exact ⟨_, rfl⟩
theorem call_min2 (hc : X.calm = true) : CallR X (.builtin "min") (fun xs H Q => ∃ i j, xs = [.int i, .int j] ∧ Q (.int (if j < i then j else i)) H) := by
  intro pins s σ H xs us Q I r h
  obtain ⟨i, j, rfl, q⟩ := h
  obtain ⟨u, w', rfl, ⟨t, rfl⟩, ⟨t', rfl⟩⟩ := vals2 r
  refine min_two_ints (I.ok.hd hc) fun h' tk k => ⟨_, H, I.kept k, ?_, q⟩
  by_cases hj : j < i
  · rw [if_pos hj, if_pos hj]; exact ⟨_, rfl⟩
  · rw [if_neg hj, if_neg hj]; exact ⟨_, rfl⟩
/-- len of a str, a bytes, a list, a tuple -/
def LenV (K : PySem.W.Frag) (x : V) (H : Hp) (n : Nat) : Prop :=
  match x with
  | .str y => y.length ≤ sizeLine ∧ n = y.length
  | .byt y => y.size ≤ sizeLine ∧ n = y.size
  | .ref p => (∃ xs, SqL K H p xs ∧ n = xs.length) ∨ ∃ xs, SqT K H p xs ∧ n = xs.length
  | _ => False
theorem call_len : CallR X (.builtin "len") (fun xs H Q => ∃ x n, xs = [x] ∧ LenV X.K x H n ∧ Q (.int n) H) := by
  intro pins s σ H xs us Q I r h
  obtain ⟨x, n, rfl, e, q⟩ := h
  obtain ⟨u, rfl, rx⟩ := vals1 r
  have hl := line63
  have hs : sizeLine = 16777216 := sizeLine_eq
  cases x with
  | str y =>
    obtain ⟨t, rfl⟩ := rx
    obtain ⟨hy, e'⟩ : y.length ≤ sizeLine ∧ n = y.length := e
    subst e'
    exact len_str (by omega) ⟨.int _, H, I.tok _, ⟨_, rfl⟩, q⟩
  | byt y =>
    obtain ⟨t, rfl⟩ := rx
    obtain ⟨hy, e'⟩ : y.size ≤ sizeLine ∧ n = y.size := e
    subst e'
    exact PySem.W.len_bytes (by omega) ⟨.int _, H, I.tok _, ⟨_, rfl⟩, q⟩
  | ref p =>
    cases rx
    have e' : (∃ xs, SqL X.K H p xs ∧ n = xs.length) ∨ ∃ xs, SqT X.K H p xs ∧ n = xs.length := e
    rcases e' with ⟨xs, hx, e'⟩ | ⟨xs, hx, e'⟩
    · subst e'
      obtain ⟨its, r', pl, hz⟩ := I.list hx
      have hlen := r'.length
      exact Calls.call_len_list pl.isList (by simp only [List.size_toArray]; omega) ⟨.int xs.length, H, I.tok _, ⟨_, by simp only [List.size_toArray]; rw [hlen]⟩, q⟩
    · subst e'
      obtain ⟨its, r', pl, hz⟩ := I.tuple hx
      have hlen := r'.length
      exact len_tuple pl (by simp only [List.size_toArray]; omega) ⟨.int xs.length, H, I.tok _, ⟨_, by simp only [List.size_toArray]; rw [hlen]⟩, q⟩
  | _ => exact (show False from e).elim
end
end L2

namespace L2
open PySem PySem.Spec PyProof.Rows

structure ObjM (h : Heap) (x dx C : Addr) (mA : Str → Option Value) : Prop where
  obj : h.get? x = some (PySem.W.instObj C dx)
  ns : h.Ns1 dx mA
  ne : dx ≠ x

theorem lookIn_ns {h : Heap} {dx : Addr} {mA : Str → Option Value} (n : h.Ns1 dx mA) : ∃ od, h.get? dx = some od ∧ ∀ name, PySem.W.lookIn name od = some (mA name) := by
  obtain ⟨o, es, ep, ho, hd, hk, _, hm⟩ := n
  refine ⟨o, ho, fun name => ?_⟩
  have e := hm name
  unfold nsFind findBy at e
  rw [← Array.find?_toList] at e
  unfold PySem.W.lookIn
  rw [hd]
  dsimp only
  split
  · rename_i y q
    rw [q] at e
    exact congrArg some e
  · rename_i q
    rw [q] at e
    have a : es.toList.any (·.refKey) = false := by
      rw [List.any_eq_false]
      intro y hy
      obtain ⟨z, t, hkey⟩ := hk y (Array.mem_toList_iff.mp hy)
      simp [DictEntry.refKey, hkey]
    have a' : ¬ es.toList.any (·.refKey) = true := by rw [a]; exact Bool.false_ne_true
    rw [if_neg a']
    exact congrArg some e

theorem ObjM.look {h : Heap} {x dx C : Addr} {mA : Str → Option Value} (I : ObjM h x dx C mA) : ∃ od, PySem.W.InstAt h x (PySem.W.instObj C dx) C (some od) ∧ ∀ name, PySem.W.lookIn name od = some (mA name) :=
  let ⟨od, ho, hl⟩ := lookIn_ns I.ns
  ⟨od, ⟨I.obj, rfl, rfl, ho⟩, hl⟩

section
variable {prog : Program} {w : World} {A : Around} {E : Value → Shared → Prop} {s : Shared} {K : PySem.W.Frag} {x dx C f : Addr} {mA : Str → Option Value} {name : Str} {v : Value}

theorem get_map {expr : Bool} {Q : Value → Shared → Prop} (X : K.In s.heap) (I : ObjM s.heap x dx C mA) (hg : PySem.W.plainGet K C name = true) (hh : PySem.W.hasDictIn K C = true)
    (ha : PySem.W.findIn K (.ref C) name = some none) (hv : mA name = some v) (hv' : PySem.W.handedIn v = true) (h : Q v { s with toks := s.toks + 1 }) :
    wpAny (model prog w) A (getAttr (.ref x) name expr) Q E s := by
  obtain ⟨od, J, hl⟩ := I.look
  exact PySem.W.get_value X J (PySem.W.plainGet_of hg).1 (PySem.W.findObj_own hh ha rfl (by rw [hl, hv])) hv' h

theorem get_meth {pl : Sem Bool} {Q : Value × List Value → Shared → Prop} (X : K.In s.heap) (I : ObjM s.heap x dx C mA) (hg : PySem.W.plainGet K C name = true)
    (hf : PySem.W.findIn K (.ref C) name = some (some (.ref f))) (ht : PySem.W.isFn K (.ref f) = true) (hv : mA name = none) (h : Q (.ref f, [.ref x]) s) :
    wpAny (model prog w) A (getMethod (.ref x) name pl) Q E s := by
  obtain ⟨od, J, hl⟩ := I.look
  exact PySem.W.method_fn X J (PySem.W.plainGet_of hg).1 (PySem.W.plainGet_of hg).2 hf (beq_iff_eq.mp ht) (by show (PySem.W.lookIn name od).map (·.isSome) = some false; rw [hl, hv]; rfl) h

theorem set_map {ns : List Str} {Q : Unit → Shared → Prop} (X : K.In s.heap) (I : ObjM s.heap x dx C mA)
    (hs : PySem.W.findIn K (.ref C) "__setattr__" = some (some (.builtin "object.__setattr__"))) (hp : PySem.W.plainOver K C = true) (ht : PySem.W.takerIn K C name = some none) (hh : PySem.W.hasDictIn K C = true)
    (hw : PySem.Within mA ns) (hsz : ns.length ≤ sizeLine)
    (h : ∀ h', ObjM h' x dx C (fun y => if y = name then some v else mA y) → Heap.SameBut dx s.heap h' → Q () { s with heap := h', toks := s.toks + 2 }) :
    wpAny (model prog w) A (setAttr (.ref x) name v) Q E s := by
  obtain ⟨od, J, hl⟩ := I.look
  refine PySem.W.set_plain X J hs (PySem.W.osa_open (s := { s with toks := s.toks + 1 }) (r := none) X J hp ht fun b => ?_)
  obtain ⟨cd, hc, hd'⟩ := PySem.W.any_some hh
  have hx : s.heap.get? x = some ⟨.ref C, some dx, .plain, #[]⟩ := I.obj
  refine wpAny_bind (wpAny_pure (wpAny_bind (wpAny_bind (wpAny_loadPart hx (wpAny_bind (PySem.W.Looks.here (s := { s with toks := s.toks + 1 }) (PySem.W.looks_clsIn X hc) ?_))))))
  rw [hd']
  refine wpAny_pure (a := some dx) (wpAny_bind (wpAny_pure (wpAny_bind ?_)))
  refine wpAny_nsSet1 (s := { s with toks := s.toks + 1 }) I.ns fun h' hn2 hs2 => ?_
  obtain ⟨oD, esD, epD, hoD, hdD, hcD⟩ := hn2.count (PySem.Within.cons name v hw)
  refine wpAny_bind (wpAny_lookBehind hoD (by rw [hdD]; exact pastItsLine_dict (Nat.le_trans hcD (by rw [List.length_cons]; omega))) ?_)
  exact wpAny_pure (h _ ⟨(hs2.2 _ (Ne.symm I.ne)).trans I.obj, hn2, I.ne⟩ hs2)

/-- C(..): the dict at the heap's end, the instance behind it; then its __init__ -/
theorem make_map {R : Result → Shared → Prop} {vs : List Value} {kw : List (Str × Value)} (X : K.In s.heap) (hm : PySem.W.makesIn K C = true)
    (hi : PySem.W.findIn K (.ref C) "__init__" = some (some (.ref f))) (hf : PySem.W.typeIn K (.ref f) = some (.type "function"))
    (h : codeAny (model prog w) (A.under (.builtin "type.__call__" ⟨.ref C :: vs, kw⟩)) (.call (.ref f) ⟨.ref (s.heap.objs.size + 1) :: vs, kw⟩) (PySem.W.InitBack (s.heap.objs.size + 1) R)
      { s with heap := (s.heap.push PySem.W.emptyDict).push (PySem.W.instObj C s.heap.objs.size) }) :
    codeAny (model prog w) A (.call (.ref C) ⟨vs, kw⟩) R s := by
  obtain ⟨hh, g, d, t, os⟩ := s
  exact PySem.W.make_core (PySem.W.makes_of X hm) (PySem.W.looks_findIn X hi) (fun self => PySem.W.bind_fn X self hf) (.inl rfl) h
end

def putF (f : Str) (v : V) : List (Str × V) → List (Str × V)
  | [] => [(f, v)]
  | (g, x) :: r => if g = f then (g, v) :: r else (g, x) :: putF f v r
theorem lookup_putF (f g : Str) (v : V) : ∀ fs : List (Str × V), (putF f v fs).lookup g = if g = f then some v else fs.lookup g
  | [] => by
    show List.lookup g [(f, v)] = _
    by_cases h : g = f
    · have hb : (g == f) = true := beq_iff_eq.mpr h
      simp only [List.lookup, hb, if_pos h]
    · have hb : (g == f) = false := beq_eq_false_iff_ne.mpr h
      simp only [List.lookup, hb, if_neg h]
  | (k, x) :: r => by
    have ih := lookup_putF f g v r
    rw [show putF f v ((k, x) :: r) = (if k = f then (k, v) :: r else (k, x) :: putF f v r) from rfl]
    by_cases hk : k = f
    · rw [if_pos hk]
      by_cases h : g = k
      · have hb : (g == k) = true := beq_iff_eq.mpr h
        simp only [List.lookup, hb, if_pos (h.trans hk)]
      · have hb : (g == k) = false := beq_eq_false_iff_ne.mpr h
        simp only [List.lookup, hb, if_neg (fun e : g = f => h (e.trans hk.symm))]
    · rw [if_neg hk]
      by_cases h : g = k
      · have hb : (g == k) = true := beq_iff_eq.mpr h
        simp only [List.lookup, hb, if_neg (fun e : g = f => hk (h.symm.trans e))]
      · have hb : (g == k) = false := beq_eq_false_iff_ne.mpr h
        simp only [List.lookup, hb]
        exact ih
theorem keys_putF (f : Str) (v : V) : ∀ fs : List (Str × V), f ∈ (putF f v fs).map (·.1) ∧ ∀ g, g ∈ fs.map (·.1) → g ∈ (putF f v fs).map (·.1)
  | [] => ⟨by simp [putF], fun g h => by simp at h⟩
  | (k, x) :: r => by
    obtain ⟨i1, i2⟩ := keys_putF f v r
    rw [show putF f v ((k, x) :: r) = (if k = f then (k, v) :: r else (k, x) :: putF f v r) from rfl]
    by_cases hk : k = f
    · rw [if_pos hk]
      subst hk
      exact ⟨by simp, fun g h => by simpa using h⟩
    · rw [if_neg hk]
      refine ⟨?_, fun g h => ?_⟩
      · rw [List.map_cons]
        exact List.mem_cons_of_mem _ i1
      · rw [List.map_cons] at h ⊢
        rcases List.mem_cons.mp h with e | e
        · exact List.mem_cons.mpr (.inl e)
        · exact List.mem_cons_of_mem _ (i2 g e)
theorem length_putF (f : Str) (v : V) : ∀ fs : List (Str × V), (putF f v fs).length ≤ fs.length + 1
  | [] => by simp [putF]
  | (k, x) :: r => by
    have ih := length_putF f v r
    rw [show putF f v ((k, x) :: r) = (if k = f then (k, v) :: r else (k, x) :: putF f v r) from rfl]
    by_cases hk : k = f
    · rw [if_pos hk, List.length_cons, List.length_cons]; omega
    · rw [if_neg hk, List.length_cons, List.length_cons]; omega

theorem RelO.some_of {v : V} {o : Option Value} (r : RelO (some v) o) : ∃ u, o = some u ∧ RelV v u := by
  cases o with
  | none => exact (show False from r).elim
  | some u => exact ⟨u, rfl, r⟩
theorem RelO.none_of {o : Option Value} (r : RelO none o) : o = none := by
  cases o with
  | none => rfl
  | some u => exact (show False from r).elim
theorem handed_of {v : V} {u : Value} (r : RelV v u) : PySem.W.handedIn u = true := by
  cases v with
  | non => cases (show u = Value.none from r); rfl
  | bl b => cases (show u = Value.bool b from r); rfl
  | int i => obtain ⟨t, e⟩ := (show ∃ t, u = Value.int i t from r); cases e; rfl
  | str x => obtain ⟨t, e⟩ := (show ∃ t, u = Value.str x t from r); cases e; rfl
  | byt b => obtain ⟨t, e⟩ := (show ∃ t, u = Value.bytes b t from r); cases e; rfl
  | flt b => obtain ⟨t, e⟩ := (show ∃ t, u = Value.float b t from r); cases e; rfl
  | ref a => cases (show u = Value.ref a from r); rfl
  | ty n => cases (show u = Value.type n from r); rfl

section
variable {P : Program} {w : World} {H H' : Hp} {h h' : Heap} {a C dx : Addr} {fs fs' : List (Str × V)}
theorem ins_get (hok : HOk P w H h) (e : H a = some (.ins C dx fs)) : ∃ mA, ObjM h a dx C mA ∧ (∀ f, RelO (fs.lookup f) (mA f)) ∧ PySem.Within mA (fs.map (·.1)) ∧ fs.length ≤ 1000 ∧ H dx = some (.own a) := by
  obtain ⟨d, z, ne, ob, mA, n, r, q⟩ := (show ObjOk P w H h a (.ins C dx fs) from hok a _ e)
  exact ⟨mA, ⟨ob, n, ne⟩, r, q, z, d⟩
end

structure Cls (K : PySem.W.Frag) (C : Addr) : Prop where
  pg : PySem.W.plainGet K C Str.empty = true
  hd : PySem.W.hasDictIn K C = true
  po : PySem.W.plainOver K C = true
  sa : PySem.W.findIn K (.ref C) "__setattr__" = some (some (.builtin "object.__setattr__"))
theorem Cls.get {K : PySem.W.Frag} {C : Addr} (c : Cls K C) (f : Str) : PySem.W.plainGet K C f = true := c.pg
/-- no class of it has the name -/
def NoAttr (K : PySem.W.Frag) (C : Addr) (f : Str) : Prop := PySem.W.findIn K (.ref C) f = some none
theorem NoAttr.taker {K : PySem.W.Frag} {C : Addr} {f : Str} (n : NoAttr K C f) : PySem.W.takerIn K C f = some none := by
  unfold PySem.W.takerIn
  rw [show PySem.W.findIn K (.ref C) f = some none from n]
  rfl
/-- a method: a plain def of the class or of one above it -/
structure Meth (K : PySem.W.Frag) (C : Addr) (m : Str) (f : Addr) : Prop where
  at_ : PySem.W.findIn K (.ref C) m = some (some (.ref f))
  fn : PySem.W.isFn K (.ref f) = true
  kp : PySem.W.keepIn K (.ref f) = true

section
variable {X : Cx} {pins : List (Addr × Obj)} {σ : St} {H : Hp} {s : Shared} {a C dx : Addr} {fs : List (Str × V)} {f : Str} {v : V} {A : Around} {E : Value → Shared → Prop}

theorem getattr_ok {b : Bool} {Q : Value → Shared → Prop} (I : Inv X pins σ H s) (e : H a = some (.ins C dx fs)) (c : Cls X.K C) (n : NoAttr X.K C f) (l : fs.lookup f = some v)
    (h : ∀ u s', Inv X pins σ H s' → RelV v u → Q u s') : wpAny (model X.prog X.w) A (getAttr (.ref a) f b) Q E s := by
  obtain ⟨mA, O, r, _, _, _⟩ := ins_get I.hok e
  obtain ⟨u, hu, ru⟩ := RelO.some_of (v := v) (o := mA f) (by rw [← l]; exact r f)
  exact get_map I.kIn O (c.get f) c.hd n hu (handed_of ru) (h u _ (I.tok _) ru)

theorem getmeth_ok {m : Str} {g : Addr} {pl : Sem Bool} {Q : Value × List Value → Shared → Prop} (I : Inv X pins σ H s) (e : H a = some (.ins C dx fs)) (c : Cls X.K C) (k : Meth X.K C m g) (l : fs.lookup m = none)
    (h : Q (.ref g, [.ref a]) s) : wpAny (model X.prog X.w) A (getMethod (.ref a) m pl) Q E s := by
  obtain ⟨mA, O, r, _, _, _⟩ := ins_get I.hok e
  have hn : mA m = none := RelO.none_of (by rw [← l]; exact r m)
  exact get_meth I.kIn O (c.get m) k.at_ k.fn hn h

theorem setattr_ok {y : V} {u : Value} {Q : Unit → Shared → Prop} (I : Inv X pins σ H s) (e : H a = some (.ins C dx fs)) (c : Cls X.K C) (n : NoAttr X.K C f) (hl : fs.length < 1000) (ry : RelV y u)
    (h : ∀ s', Inv X pins σ (upd H a (.ins C dx (putF f y fs))) s' → Q () s') : wpAny (model X.prog X.w) A (setAttr (.ref a) f u) Q E s := by
  obtain ⟨mA, O, r, wi, _, ho⟩ := ins_get I.hok e
  have hz : (fs.map (·.1)).length ≤ sizeLine := by rw [List.length_map, sizeLine_eq]; omega
  refine set_map I.kIn O c.sa c.po n.taker c.hd wi hz fun h' O' sb => h _ ?_
  have hd : ∃ o, h'.get? dx = some o := let ⟨o, _, _, e', _⟩ := O'.ns; ⟨o, e'⟩
  refine I.write (x := a) (e := dx) (by rw [e]; exact True.intro) (.inr ho) (fun b q hb z => (sb.2 b hb).trans z) hd ?_
  refine ⟨by rw [upd_ne O.ne]; exact ho, ?_, O.ne, O'.obj, _, O'.ns, fun g => ?_, fun g hg => ?_⟩
  · have := length_putF f y fs; omega
  · show RelO ((putF f y fs).lookup g) (if g = f then some u else mA g)
    rw [lookup_putF]
    by_cases q : g = f
    · rw [if_pos q, if_pos q]; exact ry
    · rw [if_neg q, if_neg q]; exact r g
  · by_cases q : g = f
    · rw [q]; exact (keys_putF f y fs).1
    · refine (keys_putF f y fs).2 g (wi g fun z => hg ?_)
      show (if g = f then some u else mA g) = none
      rw [if_neg q]; exact z

/-- a new instance, tracked, without attributes -/
theorem Inv.made (I : Inv X pins σ H s) : Inv X pins σ (upd (upd H s.heap.objs.size (.own (s.heap.objs.size + 1))) (s.heap.objs.size + 1) (.ins C s.heap.objs.size []))
    { s with heap := (s.heap.push PySem.W.emptyDict).push (PySem.W.instObj C s.heap.objs.size) } := by
  have e1 : (s.heap.push PySem.W.emptyDict).get? s.heap.objs.size = some PySem.W.emptyDict := Heap.get?_push_size s.heap rfl
  have e2 : ((s.heap.push PySem.W.emptyDict).push (PySem.W.instObj C s.heap.objs.size)).get? (s.heap.objs.size + 1) = some (PySem.W.instObj C s.heap.objs.size) := by
    have := Heap.get?_push_size (s.heap.push PySem.W.emptyDict) (o := PySem.W.instObj C s.heap.objs.size) rfl
    rwa [Heap.size_push] at this
  have e3 : (s.heap.push PySem.W.emptyDict).Ns s.heap.objs.size (fun _ => none) := ⟨PySem.W.emptyDict, #[], _, e1, rfl, (fun e he => absurd he (by simp)), fun _ => rfl⟩
  have I1 := I.laid (a := s.heap.objs.size) (o := .own (s.heap.objs.size + 1)) (h' := s.heap.push PySem.W.emptyDict) (t' := s.toks) (fun b u q => Heap.get?_push_of_some _ q) (Nat.le_refl _) ⟨_, e1⟩
  refine I1.laid (a := s.heap.objs.size + 1) (o := .ins C s.heap.objs.size []) (t' := s.toks) (fun b u q => Heap.get?_push_of_some _ q) (Nat.le_of_eq (Heap.size_push _ _)) ?_
  have ne : s.heap.objs.size ≠ s.heap.objs.size + 1 := Nat.ne_of_lt (Nat.lt_succ_self _)
  refine ⟨by rw [upd_ne ne, upd_same], Nat.zero_le _, ne, e2, fun _ => none, (Heap.Ns1.of_empty e3).at fun o q => Heap.get?_push_of_some _ q, fun _ => True.intro, fun y hy => absurd rfl hy⟩

/-- e.f where nothing but the object is asked: through attributeBase (super) and the last hold -/
theorem attr_of {prog : Program} {w : World} {env : Env} {e : Expr} {f : Str} {pos : Pos} {s : Shared} {Q : Value → Shared → Prop} (hb : attributeBase e f env (eval e env) = eval e env)
    (h : wpAny (model prog w) A (eval e env) (fun o s₁ => wpAny (model prog w) A (getAttr o f true) Q E s₁) E s) : wpAny (model prog w) A (eval (.Attribute e f pos) env) Q E s :=
  Attribute_any_ h (by rw [arm_eval_Attribute, hb])
end

/-- e.f, an attribute of the instance -/
def tFld (K : PySem.W.Frag) (ta : TE) (f : Str) : TE := fun σ H Q => ta σ H fun x H1 => ∃ a C dx fs v, x = .ref a ∧ H1 a = some (.ins C dx fs) ∧ Cls K C ∧ NoAttr K C f ∧ fs.lookup f = some v ∧ Q v H1
/-- e.f = value -/
def sFld (K : PySem.W.Frag) (ta tv : TE) (f : Str) : TS := fun D σ H => tv σ H fun y H1 => ta σ H1 fun x H2 => ∃ a C dx fs, x = .ref a ∧ H2 a = some (.ins C dx fs) ∧ Cls K C ∧ NoAttr K C f ∧ fs.length < 1000 ∧
  D.nx σ (upd H2 a (.ins C dx (putF f y fs)))
section
variable {X : Cx} {o e value : Expr} {f : Str} {pos pos' tpos : Pos} {ta tv : TE}
theorem pe_fld (he : PE X e ta) (hb : attributeBase e f X.env (eval e X.env) = eval e X.env) : PE X (.Attribute e f pos) (tFld X.K ta f) := by
  intro pins s σ H Q I h
  refine attr_of hb (thn (he pins s σ H _ I h) fun u s1 ⟨x, H1, I1, rx, a, C, dx, fs, v, ex, ea, c, n, l, q⟩ => ?_)
  subst ex
  obtain rfl : u = Value.ref a := rx
  exact getattr_ok I1 ea c n l fun u' s2 I2 ru => ⟨v, H1, I2, ru, q⟩
theorem ps_fld (ha : PE X o ta) (hv : PE X value tv) (hs : swapsWith value (some (.Attribute o f pos')) pos.line X.env = pure false) : PS X (.Assign [.Attribute o f pos'] value pos) (sFld X.K ta tv f) := by
  intro pins s σ H D I h
  refine plainObj_wpAny_Assign_Attribute (thn (hv pins s σ H _ I h) fun u s1 ⟨y, H1, I1, ry, q⟩ => thn (ha pins s1 σ H1 _ I1 q) fun ov s2 ⟨x, H2, I2, rx, a, C, dx, fs, ex, ea, c, n, l, q2⟩ => ?_) hs
  subst ex
  obtain rfl : ov = Value.ref a := rx
  exact setattr_ok I2 ea c n l ry fun s3 I3 => ⟨σ, _, I3, q2⟩
end

section
variable {X : Cx} {pins : List (Addr × Obj)} {σ : St} {H : Hp} {s : Shared} {A : Around} {E : Value → Shared → Prop} {Q : Value → Shared → Prop} {c : Value} {b : Bool}
/-- the type of a value, as the fragment's deciders take it; for an instance its class -/
inductive TyOf (K : PySem.W.Frag) (H : Hp) : V → Value → Prop where
  | non : TyOf K H .non (.type "NoneType")
  | bl (x : Bool) : TyOf K H (.bl x) (.type "bool")
  | int (i : Int) : TyOf K H (.int i) (.type "int")
  | str (x : Str) : TyOf K H (.str x) (.type "str")
  | flt (x : UInt64) : TyOf K H (.flt x) (.type "float")
  | lst {a : Addr} {xs : List V} (e : H a = some (.lst xs)) : TyOf K H (.ref a) (.type "list")
  | frz {a : Addr} {o : Obj} {xs : List V} (e : H a = some (.frz o (.lst xs))) : TyOf K H (.ref a) (.type "list")
  | tup {a : Addr} {xs : List V} (e : H a = some (.tup xs)) : TyOf K H (.ref a) (.type "tuple")
  | dK {a : Addr} {kvs : List (Key × V)} (e : H a = some (.dK kvs)) : TyOf K H (.ref a) (.type "dict")
  | dT {a : Addr} {kvs : List (List Key × V)} (e : H a = some (.dT kvs)) : TyOf K H (.ref a) (.type "dict")
  | ins {a C dx : Addr} {fs : List (Str × V)} (e : H a = some (.ins C dx fs)) (cl : Cls K C) (ha : PySem.W.findIn K (.ref C) "__class__" = some (some (.builtin "object.__class__")))
      (hn : PySem.W.specialIn K (.builtin "object.__class__") "__get__" = some (some (.builtin "getset_descriptor.__get__"))) (htk : PySem.W.takesIn K (.builtin "object.__class__") = some true)
      (hm : PySem.W.mroIn K C (.type "object") = some true) : TyOf K H (.ref a) (.ref C)
/-- isinstance(x, c) for one class c, a built-in or an own one: kitOne's answer -/
theorem isinst_ok {x : V} {u t : Value} (I : Inv X pins σ H s) (rx : RelV x u) (ty : TyOf X.K H x t) (e : PySem.W.kitOne X.K t c = some b) (h : ∀ tk, Q (.bool b) { s with toks := tk }) :
    wpAny (model X.prog X.w) A (call (.builtin "isinstance") [u, c]) Q E s := by
  cases ty with
  | non => cases (show u = Value.none from rx); exact PySem.W.kia_one PySem.W.kitx_none I.kIn True.intro e (fun z => nomatch z) h
  | bl y => cases (show u = Value.bool y from rx); exact PySem.W.kia_one PySem.W.kitx_bool I.kIn True.intro e (fun z => nomatch z) h
  | int i => obtain ⟨t, q⟩ := (show ∃ t, u = Value.int i t from rx); cases q; exact PySem.W.kia_one PySem.W.kitx_int I.kIn True.intro e (fun z => nomatch z) h
  | str y => obtain ⟨t, q⟩ := (show ∃ t, u = Value.str y t from rx); cases q; exact PySem.W.kia_one PySem.W.kitx_str I.kIn True.intro e (fun z => nomatch z) h
  | flt y => obtain ⟨t, q⟩ := (show ∃ t, u = Value.float y t from rx); cases q; exact PySem.W.kia_one PySem.W.kitx_float I.kIn True.intro e (fun z => nomatch z) h
  | @lst a xs ea =>
    cases (show u = Value.ref a from rx)
    obtain ⟨_, _, n, _, h1⟩ := (show ObjOk X.prog X.w H s.heap a (.lst xs) from I.hok a _ ea)
    exact PySem.W.kia_one PySem.W.kitx_list I.kIn ⟨_, h1, rfl⟩ e (fun z => nomatch z) h
  | @frz a ob xs ea =>
    cases (show u = Value.ref a from rx)
    obtain ⟨_, _, _, n, _, h1⟩ := (show ObjOk X.prog X.w H s.heap a (.frz ob (.lst xs)) from I.hok a _ ea)
    exact PySem.W.kia_one PySem.W.kitx_list I.kIn ⟨_, h1, rfl⟩ e (fun z => nomatch z) h
  | @tup a xs ea =>
    cases (show u = Value.ref a from rx)
    obtain ⟨_, _, _, p⟩ := (show ObjOk X.prog X.w H s.heap a (.tup xs) from I.hok a _ ea)
    obtain ⟨o, h1, h2, _⟩ := p
    exact PySem.W.kia_one PySem.W.kitx_tuple I.kIn ⟨o, h1, h2⟩ e (fun z => nomatch z) h
  | @dK a kvs ea =>
    cases (show u = Value.ref a from rx)
    obtain ⟨_, _, vs, _, p⟩ := (show ObjOk X.prog X.w H s.heap a (.dK kvs) from I.hok a _ ea)
    obtain ⟨o, es, ep, h1, h2, _⟩ := p
    exact PySem.W.kia_one PySem.W.kitx_dict I.kIn ⟨o, h1, h2.1⟩ e (fun z => nomatch z) h
  | @dT a kvs ea =>
    cases (show u = Value.ref a from rx)
    obtain ⟨_, _, xs, _, o, es, ep, h1, h2, _⟩ := (show ObjOk X.prog X.w H s.heap a (.dT kvs) from I.hok a _ ea)
    exact PySem.W.kia_one PySem.W.kitx_dict I.kIn ⟨o, h1, h2.1⟩ e (fun z => nomatch z) h
  | @ins a C dx fs ea cl ha hn htk hm =>
    cases (show u = Value.ref a from rx)
    obtain ⟨mA, O, _⟩ := ins_get I.hok ea
    obtain ⟨od, J, _⟩ := O.look
    exact PySem.W.kia_one (PySem.W.kitx_own (cl.get _) cl.hd ha hn htk hm) I.kIn J e (fun z => nomatch z) h
end
end L2

namespace L2
open PySem PySem.Spec PyProof.Rows

structure Room (k : Nat) (A : Around) : Prop where
  hd : A.handled = none
  dp : A.depth + 3 * k + 5 < recursionLimit
  un : A.units + 16 * k + 200 < cLine
theorem Room.mono {j k : Nat} {A : Around} (r : Room k A) (h : j ≤ k) : Room j A := ⟨r.hd, by have := r.dp; omega, by have := r.un; omega⟩
theorem Room.deeper {k : Nat} {A : Around} (r : Room (k + 1) A) (env : Env) : Room k (A.deeper env) :=
  ⟨r.hd, by have := r.dp; show A.depth + 1 + 3 * k + 5 < _; omega, by have := r.un; show A.units + 3 + 16 * k + 200 < _; omega⟩
theorem make_depth {A : Around} {C : Addr} {us : List Value} {kw : List (Str × Value)} : (A.under (.builtin "type.__call__" ⟨.ref C :: us, kw⟩)).depth = A.depth + 1 := by
  first | rfl | simp [Around.under, Code.weight, Code.isCreation, Code.isGuard, Code.isCaller, Code.frames, Code.isFrame, guardIds]
theorem make_units {A : Around} {C : Addr} {us : List Value} {kw : List (Str × Value)} : (A.under (.builtin "type.__call__" ⟨.ref C :: us, kw⟩)).units = A.units + 1 := by
  first | rfl | simp [Around.under, Code.cUnits, Code.frames, Code.isFrame]
theorem Room.make {k : Nat} {A : Around} (r : Room (k + 1) A) (C : Addr) (us : List Value) (kw : List (Str × Value)) : Room k (A.under (.builtin "type.__call__" ⟨.ref C :: us, kw⟩)) :=
  ⟨r.hd, by have := r.dp; rw [make_depth]; omega, by have := r.un; rw [make_units]; omega⟩
theorem Room.depth {k : Nat} {A : Around} (r : Room k A) : A.depth < recursionLimit := by have := r.dp; omega
theorem Room.units {k : Nat} {A : Around} (r : Room k A) : A.units + 64 < cLine := by have := r.un; omega
def tNil : TA := fun _ H Q => Q [] H
def tCons (ta : TE) (tr : TA) : TA := fun σ H Q => ta σ H fun x H1 => tr σ H1 fun xs H2 => Q (x :: xs) H2
section
variable {X : Cx} {e : Expr} {es : List Expr} {te : TE} {t : TA} {pos : Pos}
theorem pa_nil : PA X [] tNil := fun _ _ _ _ H Q I h => Calls.spliced_nil ⟨[], H, I, .nil, h⟩
theorem pa_cons (ha : PE X e te) (hr : PA X es t) (hs : starEach (e :: es) X.env = (false, eval e X.env) :: starEach es X.env := by rfl) : PA X (e :: es) (tCons te t) := by
  intro pos pins s σ H Q I h
  rw [hs]
  show wpAny _ _ (spliced ((false, eval e X.env) :: backTo pos (starEach es X.env))) _ _ s
  refine Calls.spliced_cons (thn (ha pins s σ H _ I h) fun u s1 ⟨x, H1, I1, r1, q1⟩ => ?_)
  exact thn (hr pos pins s1 σ H1 _ I1 q1) fun us s2 ⟨xs, H2, I2, r2, q2⟩ => ⟨x :: xs, H2, I2, .cons r1 r2, q2⟩

/-- a tuple, a list of written items -/
def tTup (t : TA) : TE := fun σ H Q => t σ H fun xs H1 => xs.length ≤ sizeLine ∧ ∀ p, H1 p = none → Q (.ref p) (upd H1 p (.tup xs))
def tLst (t : TA) : TE := fun σ H Q => t σ H fun xs H1 => xs.length ≤ sizeLine ∧ ∀ p, H1 p = none → Q (.ref p) (upd H1 p (.lst xs))
theorem pe_tup {x1} (h : PA X es t) : PE X (.Tuple es x1 pos) (tTup t) := by
  intro pins s σ H Q I hq
  refine wpAny_Tuple_spliced (thn (h pos pins s σ H _ I hq) fun us s1 ⟨xs, H1, I1, r, z, q⟩ => ⟨by rw [← r.length]; exact z, ?_⟩)
  have hf : H1 s1.heap.objs.size = none := I1.hok.fresh (Nat.le_refl _)
  refine ⟨.ref s1.heap.objs.size, upd H1 s1.heap.objs.size (.tup xs), I1.laid (t' := s1.toks) (fun b u e => Heap.get?_push_of_some _ e) (Nat.le_refl _) ?_, rfl, q _ hf⟩
  exact ⟨z, us, r, ⟨_, Heap.get?_push_size _ rfl, rfl, _, rfl⟩⟩
theorem pe_lst (h : PA X es t) : PE X (.List es pos) (tLst t) := by
  intro pins s σ H Q I hq
  refine wpAny_List_spliced (thn (h pos pins s σ H _ I hq) fun us s1 ⟨xs, H1, I1, r, z, q⟩ => ⟨by rw [← r.length]; exact z, ?_⟩)
  have hf : H1 s1.heap.objs.size = none := I1.hok.fresh (Nat.le_refl _)
  refine ⟨.ref s1.heap.objs.size, upd H1 s1.heap.objs.size (.lst xs), I1.laid (t' := s1.toks) (fun b u e => Heap.get?_push_of_some _ e) (Nat.le_refl _) ?_, rfl, q _ hf⟩
  exact ⟨z, us, 0, r, Heap.get?_push_size _ rfl⟩
end

/-- a def's promise: the bound arguments in the parameters' order, the heap, the wanted end, the wanted exception -/
abbrev Sp := List V → Hp → VK → XK → Prop
/-- how an exception lies behind a call (file 08 gives it): the callers' frames, abstract heap and state ahead of the call, the wish, the exception, the state -/
abbrev CXT := List Env → Hp → Shared → XK → Value → Shared → Prop

/-- the state at a call -/
structure Env0 (P : Program) (w : World) (K : PySem.W.Frag) (mg : Str → Option Value) (base : Heap) (A : Around) (outer : List Env) (s : Shared) (H : Hp) : Prop where
  frames : A.frames = some outer
  mod : Mod K mg base
  bs : ∀ b o, base.get? b = some o → s.heap.get? b = some o ∧ H b = none
  bsz : base.objs.size ≤ s.heap.objs.size
  funs : s.heap.FunFrames base outer
  frf : ∀ b ∈ frs outer, H b = none
  hok : HOk P w H s.heap
  bare : AllBare s.gens
/-- a call's end -/
def CE (outer : List Env) (P : Program) (w : World) (H : Hp) (s : Shared) (Q : VK) (u : Value) (s' : Shared) : Prop :=
  ∃ v H', s'.os = s.os ∧ AllBare s'.gens ∧ Un (frs outer) [] H H' s.heap s'.heap ∧ HOk P w H' s'.heap ∧ RelV v u ∧ Q v H'
def CR (CX : CXT) (outer : List Env) (P : Program) (w : World) (H : Hp) (s : Shared) (Q : VK) (E : XK) (r : Result) (s' : Shared) : Prop :=
  match r with
  | .ok (.ret u) => CE outer P w H s Q u s'
  | .ok _ => False
  | .error e => CX outer H s E e s'
structure FnOk (P : Program) (w : World) (K : PySem.W.Frag) (mg : Str → Option Value) (base : Heap) (CX : CXT) (k : Nat) (f : Addr) (fd : FuncData) (ps : List Str) (sp : Sp) : Prop where
  len : ∀ vs H Q E, sp vs H Q E → vs.length = ps.length
  run : ∀ (A : Around) (outer : List Env) (s : Shared) (H : Hp) (args : Args) (us : List Value) (vs : List V) (Q : VK) (E : XK), Room k A → Env0 P w K mg base A outer s H → BindsTo s fd args (ps.zip us) → Vals vs us → sp vs H Q E →
    codeAny (model P w) A (.call (.ref f) args) (CR CX outer P w H s Q E) s
theorem Env0.make {P : Program} {w : World} {K : PySem.W.Frag} {mg : Str → Option Value} {base : Heap} {A : Around} {outer : List Env} {s : Shared} {H : Hp} (e : Env0 P w K mg base A outer s H) (C : Addr) (us : List Value) (kw : List (Str × Value)) :
    Env0 P w K mg base (A.under (.builtin "type.__call__" ⟨.ref C :: us, kw⟩)) outer s H := ⟨by first | exact e.frames | (simpa [Around.under, Code.envs, Code.isFrame, pushEnvs] using e.frames), e.mod, e.bs, e.bsz, e.funs, e.frf, e.hok, e.bare⟩
section
variable {X : Cx} {pins : List (Addr × Obj)} {σ : St} {H : Hp} {s s' : Shared}
/-- from a body: what a callee wants -/
theorem Inv.env0 (I : Inv X pins σ H s) : Env0 X.prog X.w X.K X.mg X.base X.A X.stack s H :=
  ⟨I.ok.frames, I.ok.mod, I.bs, Nat.le_trans I.ok.bsz I.sz, I.stack, I.stkFree, I.hok, I.bare⟩
/-- behind a call -/
theorem Inv.after {Q : VK} {u : Value} (I : Inv X pins σ H s) (h : CE X.stack X.prog X.w H s Q u s') : EP X pins σ Q u s' := by
  obtain ⟨v, H', os, bare, un, hok, r, q⟩ := h
  obtain ⟨hh, g, d, t, os'⟩ := s'
  obtain rfl : os' = s.os := os
  exact ⟨v, H', I.call (h' := hh) (g' := g) (d' := d) (t' := t) (ch := []) un hok bare (fun b z => absurd z (by simp)), r, q⟩
end

/-- f(..): the written arguments, then the defaults dvs; E: what is wanted of an exception -/
def tCall (sp : Sp) (dvs : List V) (E : XK) (t : TA) : TE := fun σ H Q => t σ H fun vs H1 => sp (vs ++ dvs) H1 Q E
/-- C(..): a new instance and its dict, then __init__ -/
def tMake (C : Addr) (sp : Sp) (dvs : List V) (E : XK) (t : TA) : TE := fun σ H Q => t σ H fun vs H1 => ∀ x dx, H1 x = none → H1 dx = none → dx ≠ x →
  sp (.ref x :: (vs ++ dvs)) (upd (upd H1 dx (.own x)) x (.ins C dx [])) (fun v H2 => v = .non ∧ Q (.ref x) H2) E

/-- how the parameters are bound: us the positional arguments, kw the keywords' values by name, ds the defaults that fill up -/
def Binds (K : PySem.W.Frag) (fd : FuncData) (ps : List Str) (ds : List Value) : Prop :=
  ∀ (s : Shared) (us : List Value), K.In s.heap → (us ++ ds).length = ps.length → BindsTo s fd ⟨us, []⟩ (ps.zip (us ++ ds))
/-- every parameter is given -/
theorem Binds.all {K : PySem.W.Frag} {fd : FuncData} {ps : List Str} (h : ∀ us : List Value, us.length = ps.length → bindArgs fd ⟨us, []⟩ = pure (ps.zip us)) : Binds K fd ps [] := fun s us _ hl => by
  rw [List.append_nil] at hl ⊢
  exact .of_eq (h us hl)

/-- an exception of a callee reaches what this body wants of exceptions -/
def Passes (CX : CXT) (X : Cx) (E : XK) : Prop := ∀ (pins : List (Addr × Obj)) (σ : St) (H : Hp) (s : Shared) (e : Value) (s' : Shared), Inv X pins σ H s → CX X.stack H s E e s' → X.xe e s'

section
variable {X : Cx} {CX : CXT} {k : Nat} {f C : Addr} {fd : FuncData} {ps : List Str} {sp : Sp} {dvs : List V} {ds : List Value} {E : XK} {x m : Str} {p pos apos : Pos} {e o : Expr} {es : List Expr} {ta : TE} {t : TA}

/-- the callee runs -/
theorem run_fn {pins : List (Addr × Obj)} {σ : St} {H : Hp} {s : Shared} {Q : VK} {us : List Value} {vs : List V} (F : FnOk X.prog X.w X.K X.mg X.base CX k f fd ps sp) (hr : Room k X.A) (hb : Binds X.K fd ps ds) (hd : Vals dvs ds) (hx : Passes CX X E)
    (I : Inv X pins σ H s) (r : Vals vs us) (h : sp (vs ++ dvs) H Q E) : wpAny (model X.prog X.w) X.A (call (.ref f) us) (EP X pins σ Q) X.xe s := by
  have r2 : Vals (vs ++ dvs) (us ++ ds) := r.append hd
  have hl : (us ++ ds).length = ps.length := by rw [← r2.length]; exact F.len _ _ _ _ h
  refine wpAny_call (codeAny_mono (F.run X.A X.stack s H ⟨us, []⟩ (us ++ ds) (vs ++ dvs) Q E hr I.env0 (hb s us I.kIn hl) r2 h) fun r s' hq => ?_)
  cases r with
  | error e => exact hx pins σ H s e s' I hq
  | ok fl =>
    cases fl with
    | ret u => exact I.after hq
    | next => exact False.elim hq
    | brk => exact False.elim hq
    | cont => exact False.elim hq

theorem pe_call (F : FnOk X.prog X.w X.K X.mg X.base CX k f fd ps sp) (hr : Room k X.A) (hg : Gl X x) (hm : X.mg x = some (.ref f)) (hk : PySem.W.keepIn X.K (.ref f) = true) (hb : Binds X.K fd ps ds) (hd : Vals dvs ds) (hx : Passes CX X E)
    (ha : PA X (e :: es) t) (hdb : (x == ("__debug__" : Str)) = false := by decide) (he : starEach (e :: es) X.env = (false, eval e X.env) :: starEach es X.env := by rfl) (hpl : (backTo pos (starEach es X.env)).any (·.1) = false := by rfl) :
    PE X (.Call (.Name x p) (e :: es) [] pos) (tCall sp dvs E t) := by
  intro pins s σ H Q I h
  refine wpAny_Call_Name_kw (ld_glob I hg hm ?_ hdb)
  refine PySem.W.callWith_K (h₀ := X.base) I.ok.mod.kin hk (thn (ha pos pins s σ H _ I h) fun us s1 ⟨vs, H1, I1, r, q⟩ => ⟨I1.kIn, ?_⟩) he hpl
  exact run_fn F hr hb hd hx I1 r q
/-- what a class must have to be made -/
structure Mk (K : PySem.W.Frag) (C f : Addr) : Prop where
  makes : PySem.W.makesIn K C = true
  init : PySem.W.findIn K (.ref C) "__init__" = some (some (.ref f))
  fn : PySem.W.isFn K (.ref f) = true
  kp : PySem.W.keepIn K (.ref C) = true

theorem run_make {pins : List (Addr × Obj)} {σ : St} {H : Hp} {s : Shared} {Q : VK} {us : List Value} {vs : List V} (M : Mk X.K C f) (F : FnOk X.prog X.w X.K X.mg X.base CX k f fd ps sp) (hr : Room (k + 1) X.A) (hb : Binds X.K fd ps ds) (hd : Vals dvs ds)
    (hx : Passes CX X E) (I : Inv X pins σ H s) (r : Vals vs us)
    (h : ∀ x dx, H x = none → H dx = none → dx ≠ x → sp (.ref x :: (vs ++ dvs)) (upd (upd H dx (.own x)) x (.ins C dx [])) (fun v H2 => v = .non ∧ Q (.ref x) H2) E) :
    wpAny (model X.prog X.w) X.A (call (.ref C) us) (EP X pins σ Q) X.xe s := by
  have hq := h (s.heap.objs.size + 1) s.heap.objs.size (I.hok.fresh (Nat.le_succ _)) (I.hok.fresh (Nat.le_refl _)) (Nat.ne_of_lt (Nat.lt_succ_self _))
  have I2 := Inv.made (C := C) I
  have r2 : Vals (V.ref (s.heap.objs.size + 1) :: (vs ++ dvs)) (Value.ref (s.heap.objs.size + 1) :: (us ++ ds)) := .cons rfl (r.append hd)
  have hl : (Value.ref (s.heap.objs.size + 1) :: us ++ ds).length = ps.length := by
    have e := r2.length
    rw [F.len _ _ _ _ hq] at e
    exact e.symm
  refine wpAny_call (make_map (f := f) I.kIn M.makes M.init (beq_iff_eq.mp M.fn) (codeAny_mono (F.run _ X.stack _ _ ⟨Value.ref (s.heap.objs.size + 1) :: us, []⟩ (Value.ref (s.heap.objs.size + 1) :: (us ++ ds)) _ _ E (hr.make C us [])
    (I2.env0.make C us []) (hb _ (Value.ref (s.heap.objs.size + 1) :: us) I2.kIn hl) r2 hq) fun r s' hq' => ?_))
  cases r with
  | error e => exact hx pins σ _ _ e s' I2 hq'
  | ok fl =>
    cases fl with
    | ret u =>
      obtain ⟨v, H', I3, rv, ev, q3⟩ := I2.after hq'
      subst ev
      exact ⟨rv, ⟨V.ref (s.heap.objs.size + 1), H', I3, rfl, q3⟩⟩
    | next => exact False.elim hq'
    | brk => exact False.elim hq'
    | cont => exact False.elim hq'
theorem pe_make (M : Mk X.K C f) (F : FnOk X.prog X.w X.K X.mg X.base CX k f fd ps sp) (hr : Room (k + 1) X.A) (hg : Gl X x) (hm : X.mg x = some (.ref C)) (hb : Binds X.K fd ps ds) (hd : Vals dvs ds) (hx : Passes CX X E)
    (ha : PA X (e :: es) t) (hdb : (x == ("__debug__" : Str)) = false := by decide) (he : starEach (e :: es) X.env = (false, eval e X.env) :: starEach es X.env := by rfl) (hpl : (backTo pos (starEach es X.env)).any (·.1) = false := by rfl) :
    PE X (.Call (.Name x p) (e :: es) [] pos) (tMake C sp dvs E t) := by
  intro pins s σ H Q I h
  refine wpAny_Call_Name_kw (ld_glob I hg hm ?_ hdb)
  refine PySem.W.callWith_K (h₀ := X.base) I.ok.mod.kin M.kp (thn (ha pos pins s σ H _ I h) fun us s1 ⟨vs, H1, I1, r, q⟩ => ⟨I1.kIn, ?_⟩) he hpl
  exact run_make M F hr hb hd hx I1 r q
end

section
variable {X : Cx} {CX : CXT} {k : Nat} {f C : Addr} {fd : FuncData} {ps ks : List Str} {sp : Sp} {E : XK} {x m : Str} {p pos apos kpos : Pos} {e o : Expr} {es : List Expr} {kws : List Keyword} {te ta : TE} {t tk : TA} {nm : Option Str}
variable {g : List Value → List Value → List Value} {gV : List V → List V → List V}
end

/-- names: the parameters first -/
structure FnScope (N P : List Str) (sc : Scope) : Prop where
  kind : sc.kind = .function
  co : sc.isCoroutine = false
  gen : sc.isGenerator = false
  nd : N.Nodup
  pre : N.take P.length = P
  par : ∀ x ∈ P, sc.names.lookup x = some .local ∨ sc.names.lookup x = some .cell
  nofree : ∀ y ∈ sc.names, y.2 ≠ .free

theorem bindL_out {kindOf : Str → Option NameKind} {x : Str} : ∀ {binds : List (Str × Value)} {m : Str → Option Value}, (∀ v, (x, v) ∉ binds) → bindL kindOf binds m x = m x
  | [], _, _ => rfl
  | (n, v) :: r, m, h => by
    unfold bindL
    rw [bindL_out fun w hw => h w (List.mem_cons_of_mem _ hw)]
    split
    · have : x ≠ n := by rintro rfl; exact h v List.mem_cons_self
      simp [this]
    · rfl
theorem bindC_out {kindOf : Str → Option NameKind} {x : Str} : ∀ {binds : List (Str × Value)} {m : Str → Option Value}, (∀ v, (x, v) ∉ binds) → bindC kindOf binds m x = m x
  | [], _, _ => rfl
  | (n, v) :: r, m, h => by
    unfold bindC
    rw [bindC_out fun w hw => h w (List.mem_cons_of_mem _ hw)]
    split
    · rfl
    · have : x ≠ n := by rintro rfl; exact h v List.mem_cons_self
      simp [this]
theorem bindL_get {kindOf : Str → Option NameKind} {x : Str} {v : Value} : ∀ {P : List Str} {vs : List Value} {i : Nat} {m : Str → Option Value}, P.Nodup → P[i]? = some x → vs[i]? = some v → kindOf x = some .local →
    bindL kindOf (P.zip vs) m x = some v
  | [], _, _, _, _, h, _, _ => by simp at h
  | _ :: _, [], _, _, _, _, h, _ => by simp at h
  | p :: P, w :: vs, 0, m, nd, h1, h2, hk => by
    simp at h1 h2; subst h1; subst h2
    show bindL kindOf ((p, w) :: P.zip vs) m p = _
    unfold bindL
    rw [bindL_out fun v hv => (List.nodup_cons.mp nd).1 (List.of_mem_zip hv).1, if_pos hk]
    simp
  | p :: P, w :: vs, i + 1, m, nd, h1, h2, hk => by
    show bindL kindOf ((p, w) :: P.zip vs) m x = _
    unfold bindL
    exact bindL_get (i := i) (List.nodup_cons.mp nd).2 (by simpa using h1) (by simpa using h2) hk
theorem bindC_get {kindOf : Str → Option NameKind} {x : Str} {v : Value} : ∀ {P : List Str} {vs : List Value} {i : Nat} {m : Str → Option Value}, P.Nodup → P[i]? = some x → vs[i]? = some v → kindOf x ≠ some .local →
    bindC kindOf (P.zip vs) m x = some v
  | [], _, _, _, _, h, _, _ => by simp at h
  | _ :: _, [], _, _, _, _, h, _ => by simp at h
  | p :: P, w :: vs, 0, m, nd, h1, h2, hk => by
    simp at h1 h2; subst h1; subst h2
    show bindC kindOf ((p, w) :: P.zip vs) m p = _
    unfold bindC
    rw [bindC_out fun v hv => (List.nodup_cons.mp nd).1 (List.of_mem_zip hv).1, if_neg hk]
    simp
  | p :: P, w :: vs, i + 1, m, nd, h1, h2, hk => by
    show bindC kindOf ((p, w) :: P.zip vs) m x = _
    unfold bindC
    exact bindC_get (i := i) (List.nodup_cons.mp nd).2 (by simpa using h1) (by simpa using h2) hk

/-- the names' values at the entry -/
def start (N : List Str) (vs : List V) : St := vs.map some ++ List.replicate (N.length - vs.length) none

/-- the context of a def's body, at its entry; an exception leaves the frame, then lies as CX says -/
def cxOf (CX : CXT) (P : Program) (w : World) (K : PySem.W.Frag) (mg : Str → Option Value) (base : Heap) (N : List Str) (qual : Str) (scope : Scope) (f : Addr) (cd : Value) (A : Around) (outer : List Env) (s : Shared) (H : Hp) (E : XK) : Cx where
  prog := P
  w := w
  K := K
  mg := mg
  base := base
  A := A.deeper (envOfC qual scope s.heap.objs.size f cd)
  N := N
  s₀ := s
  H₀ := H
  env := envOfC qual scope s.heap.objs.size f cd
  outer := outer
  stack := envOfC qual scope s.heap.objs.size f cd :: outer
  ex := []
  calm := true
  fn := fun _ => true
  pn := []
  xe := fun e s' => wpAny (model P w) (A.deeper (envOfC qual scope s.heap.objs.size f cd)) (leaving (envOfC qual scope s.heap.objs.size f cd) e) (fun _ s'' => CX outer H s E e s'') (fun e' s'' => CX outer H s E e' s'') s'

theorem cell_has {sc : Scope} {n : Nat} {x : Str} (h : sc.names.lookup x = some .cell) : ∃ c, (cellsFrom n sc.names []).lookup x = some c := by
  have q := PySem.W.cellsFrom_some sc.names n [] (.inl h)
  exact Option.isSome_iff_exists.mp q

theorem inv_start {CX : CXT} {P : Program} {w : World} {K : PySem.W.Frag} {mg : Str → Option Value} {base : Heap} {N ps : List Str} {qual : Str} {scope : Scope} {f : Addr} {cd : Value} {A : Around} {outer : List Env} {s s1 : Shared} {H : Hp} {E : XK} {us : List Value} {vs : List V}
    (S : FnScope N ps scope) (hd : A.handled = none) (e0 : Env0 P w K mg base A outer s H) (hl : vs.length = ps.length) (r : Vals vs us)
    (x : InCallC s s.heap.objs.size (bindL (envOfC qual scope s.heap.objs.size f cd).kindOf (ps.zip us) fun _ => none) (cellsFrom (s.heap.objs.size + 1) scope.names []) (bindC (envOfC qual scope s.heap.objs.size f cd).kindOf (ps.zip us) fun _ => none) s1) :
    Inv (cxOf CX P w K mg base N qual scope f cd A outer s H E) [] (start N vs) H s1 := by
  have hpl : ps.length ≤ N.length := by have := congrArg List.length S.pre; rw [List.length_take] at this; omega
  obtain ⟨h1, tk, rfl, hk⟩ := x.done
  have noA : ∀ b : Addr, b ∉ (cxOf CX P w K mg base N qual scope f cd A outer s H E).ex := fun b z => absurd (show b ∈ ([] : List Addr) from z) (by simp)
  refine ⟨⟨e0.mod, S.kind, rfl, rfl, Nat.le_refl _, fun y z c h1 h2 => ?_, fun y hy => ?_, fun y c _ h => ?_, fun _ => hd, Around.frames_deeper e0.frames, .inr ⟨rfl, rfl⟩, fun b z => absurd z (noA b), e0.bs, e0.bsz, fun b _ _ => noA b, fun b z => absurd z (noA b), e0.funs, e0.frf⟩,
    rfl, e0.bare, Un.kept hk, ⟨_, x.toInCall.ns, fun i y v h1 h2 h3 => ?_⟩, fun y c h => ⟨_, x.cell y c h⟩, e0.hok.fresh (Nat.le_refl _), fun y c h => ?_, fun p hp => absurd (show p ∈ ([] : List (Addr × Obj)) from hp) (by simp), e0.hok.kept hk, ?_⟩
  · exact name_of_addr x.apart (PySem.mem_of_lookup h1) (PySem.mem_of_lookup h2)
  · have hy : scope.names.lookup y = some .cell ∨ scope.names.lookup y = some .free := hy
    rcases hy with hy | hy
    · exact cell_has hy
    · exact absurd rfl (S.nofree _ (PySem.mem_of_lookup hy))
  · exact Nat.le_of_lt (x.above y c (PySem.mem_of_lookup h))
  · have hi : i < vs.length := by
      unfold start at h2
      by_cases hi : i < vs.length
      · exact hi
      · rw [List.getElem?_append_right (by simpa using hi)] at h2
        rw [List.getElem?_replicate] at h2
        split at h2 <;> cases h2
    have ha : vs[i]? = some v := by
      unfold start at h2
      rw [List.getElem?_append_left (by simpa using hi), List.getElem?_map] at h2
      cases e : vs[i]? with
      | none => rw [e] at h2; cases h2
      | some a => rw [e] at h2; cases h2; rfl
    obtain ⟨u, hu, rv⟩ := r.get ha
    have hp : ps[i]? = some y := by
      rw [← S.pre, List.getElem?_take_of_lt (by omega)]; exact h1
    have ndP : ps.Nodup := by rw [← S.pre]; exact S.nd.sublist (List.take_sublist _ _)
    refine ⟨u, rv, ?_⟩
    rcases S.par y (List.mem_of_getElem? hp) with k | k
    · exact .inl ⟨k, bindL_get ndP hp hu k⟩
    · obtain ⟨c, e⟩ := cell_has (n := s.heap.objs.size + 1) k
      refine .inr ⟨.inl k, c, e, ?_⟩
      have q := x.cell y c e
      rw [bindC_get ndP hp hu (by show scope.names.lookup y ≠ _; rw [k]; decide)] at q
      exact q
  · exact e0.hok.fresh (Nat.le_of_lt (x.above y c (PySem.mem_of_lookup h)))
  · unfold start
    show _ = N.length
    rw [List.length_append, List.length_map, List.length_replicate]
    omega

/-- THE RULE: a def (or a method) of the text, by its body. The body's reading t is chosen for each entry; it is run at the parameters' values -/
theorem fn_of {CX : CXT} {P : Program} {w : World} {K : PySem.W.Frag} {mg : Str → Option Value} {base : Heap} {k : Nat} {f : Addr} {name qual : Str} {params : Arguments} {body : List Stmt} {scope : Scope} {dV kV doc pm cdv ct oc : Value} {an od : Option Addr}
    {osl : Array (Option Value)} {N ps : List Str} {sp : Sp} (lk : K.lookup f = some ⟨oc, od, .func (PySem.W.fnOf name qual params body scope dV kV doc pm an cdv ct), osl⟩) (hcd : PySem.W.codeIn K cdv qual = true) (S : FnScope N ps scope)
    (len : ∀ vs H Q E, sp vs H Q E → vs.length = ps.length)
    (hbody : ∀ (A : Around) (outer : List Env) (s : Shared) (H : Hp) (vs : List V) (Q : VK) (E : XK), Room k (A.deeper (envOfC qual scope s.heap.objs.size f cdv)) → sp vs H Q E →
      ∃ t, PSs (cxOf CX P w K mg base N qual scope f cdv A outer s H E) body t ∧ t { nx := fun _ H' => Q .non H', rt := Q } (start N vs) H) :
    FnOk P w K mg base CX (k + 1) f (PySem.W.fnOf name qual params body scope dV kV doc pm an cdv ct) ps sp := by
  refine ⟨len, fun A outer s H args us vs Q E hr e0 hb r hsp => ?_⟩
  have hl := len _ _ _ _ hsp
  have KX : K.In s.heap := e0.mod.kin.keeps fun b o e => (e0.bs b o e).1
  have lim : s.heap.NoLimit := e0.mod.nolimit.keeps fun b o e => (e0.bs b o e).1
  have hkind : ∀ y ∈ ps.zip us, scope.names.lookup y.1 = some .local ∨ (scope.names.lookup y.1 = some .cell ∧ ((cellsFrom (s.heap.objs.size + 1) scope.names []).lookup y.1).isSome = true) := fun ⟨n, v⟩ hy => by
    rcases S.par n (List.of_mem_zip hy).1 with q | q
    · exact .inl q
    · exact .inr ⟨q, PySem.W.cellsFrom_some _ _ _ (.inl q)⟩
  refine codeAny_call_function hr.depth (KX _ _ lk) rfl S.co S.gen rfl (PySem.W.codeRec_of KX hcd) (hb _ _ _ _ ?_)
  refine wpAny_newFunctionEnv_cells S.kind hkind fun env he s1 x => ?_
  subst he
  refine ⟨lim.keeps x.toInCall.keep, codeAny_func ?_⟩
  obtain ⟨t, ht, hq⟩ := hbody A outer s H vs Q E (hr.deeper _) hsp
  have I : Inv (cxOf CX P w K mg base N qual scope f cdv A outer s H E) [] (start N vs) H s1 := inv_start S hr.hd e0 hl r x
  refine wpAny_mono (ht [] s1 (start N vs) H _ I hq) (fun fl s' hs => ?_) fun e s' hs => hs
  have fin : ∀ {σ' : St} {H' : Hp} {v : V} {u : Value}, Inv (cxOf CX P w K mg base N qual scope f cdv A outer s H E) [] σ' H' s' → RelV v u → Q v H' → CE outer P w H s Q u s' :=
    fun {σ' H' v u} J rv q => ⟨v, H', J.os, J.bare, J.base, J.hok, rv, q⟩
  cases fl with
  | ret u =>
    obtain ⟨v, σ', H', J, rv, q⟩ := hs
    exact fin J rv q
  | next =>
    obtain ⟨σ', H', J, q⟩ := hs
    exact fin (v := V.non) (u := Value.none) J rfl q
  | brk =>
    obtain ⟨_, _, _, q⟩ := hs
    exact False.elim q
  | cont =>
    obtain ⟨_, _, _, q⟩ := hs
    exact False.elim q
end L2

namespace L2
open PySem PySem.Spec PyProof.Rows
section
variable {X : Cx} {x : Str} {p pos : Pos} {e : Expr} {es : List Expr} {t : TA} {id T : String} {r : List V → Hp → VK → Prop}

def tCB (r : List V → Hp → VK → Prop) (t : TA) : TE := fun σ H Q => t σ H fun vs H1 => r vs H1 Q
/-- f(e, ..), f a built-in function -/
theorem pe_callB (hc : CallR X (.builtin id) r) (hg : Gl X x) (hm : X.mg x = none) (hv : bootBuiltins x = some (.builtin id)) (ha : PA X (e :: es) t) (hn : x ≠ "__name__" := by decide) (hdb : (x == ("__debug__" : Str)) = false := by decide)
    (he : starEach (e :: es) X.env = (false, eval e X.env) :: starEach es X.env := by rfl) (hpl : (backTo pos (starEach es X.env)).any (·.1) = false := by rfl) : PE X (.Call (.Name x p) (e :: es) [] pos) (tCB r t) := by
  intro pins s σ H Q I h
  refine wpAny_Call_Name_kw (ld_blt I hg hm hv ?_ hn hdb)
  exact PyProof.Rows.callWith_builtin1 (thn (ha pos pins s σ H _ I h) fun us s1 ⟨vs, H1, I1, r1, q1⟩ => hc pins s1 σ H1 vs us Q I1 r1 q1) he hpl
/-- T(e, ..), T a built-in type -/
theorem pe_callTy (hc : CallR X (.type T) r) (hg : Gl X x) (hm : X.mg x = none) (hv : bootBuiltins x = some (.type T)) (ha : PA X (e :: es) t) (hn : x ≠ "__name__" := by decide) (hdb : (x == ("__debug__" : Str)) = false := by decide)
    (he : starEach (e :: es) X.env = (false, eval e X.env) :: starEach es X.env := by rfl) (hpl : (backTo pos (starEach es X.env)).any (·.1) = false := by rfl) : PE X (.Call (.Name x p) (e :: es) [] pos) (tCB r t) := by
  intro pins s σ H Q I h
  refine wpAny_Call_Name_kw (ld_blt I hg hm hv ?_ hn hdb)
  exact PyProof.Rows.callWith_type1 (thn (ha pos pins s σ H _ I h) fun us s1 ⟨vs, H1, I1, r1, q1⟩ => hc pins s1 σ H1 vs us Q I1 r1 q1) he hpl
end
end L2

namespace HT
open PySem PyProof.Rows

section
open PySem.SeqAt
open PySem.AutoSeq1 (wpAny_loadPart')
open PySem.MeetsSeq PySem.MeetsSeq2 PySem.MeetsSeq3

end

section
variable {prog : Program} {w : World} {A : Around} {E : Value → Shared → Prop} {s : Shared}

end
end HT

namespace L2
open PySem PySem.Spec PyProof.Rows

section
variable {X : Cx} {e : Expr} {te : TE} {lo hi : Option Expr} {tl th : TO} {pos p2 : Pos}

end
end L2

namespace L2
open PySem PySem.Spec PyProof.Rows

/-- the place that an index of any sign means -/
def ixN (n : Nat) (i : Int) : Option Nat := if 0 ≤ i then (if i < n then some i.toNat else none) else if -(n : Int) ≤ i then some (i + n).toNat else none
def atI {α : Type} (xs : List α) (i : Int) : Option α := (ixN xs.length i).bind fun j => xs[j]?
theorem ixN_seq {n : Nat} {i : Int} {j : Nat} (h : ixN n i = some j) : seqIndex? i n = some j ∧ j < n ∧ -(n : Int) ≤ i ∧ i < n := by
  unfold ixN at h
  by_cases h0 : 0 ≤ i
  · rw [if_pos h0] at h
    by_cases h1 : i < n
    · rw [if_pos h1] at h
      have e : i.toNat = j := Option.some.inj h
      exact ⟨by rw [seqIndex_of h0 h1, e], by omega, by omega, h1⟩
    · rw [if_neg h1] at h; cases h
  · rw [if_neg h0] at h
    by_cases h1 : -(n : Int) ≤ i
    · rw [if_pos h1] at h
      have e : (i + n).toNat = j := Option.some.inj h
      exact ⟨by rw [seqIndex_neg (by omega) h1, e], by omega, h1, by omega⟩
    · rw [if_neg h1] at h; cases h
theorem atI_get {α : Type} {xs : List α} {i : Int} {v : α} (h : atI xs i = some v) : ∃ j, seqIndex? i xs.length = some j ∧ xs[j]? = some v ∧ j < xs.length ∧ -(xs.length : Int) ≤ i ∧ i < xs.length := by
  unfold atI at h
  cases e : ixN xs.length i with
  | none => rw [e] at h; cases h
  | some j =>
    rw [e] at h
    obtain ⟨h1, h2, h3, h4⟩ := ixN_seq e
    exact ⟨j, h1, h, h2, h3, h4⟩
theorem atI_nat {α : Type} {xs : List α} {j : Nat} {v : α} (h : xs[j]? = some v) : atI xs (j : Int) = some v := by
  have hj : j < xs.length := (List.getElem?_eq_some_iff.mp h).1
  have e : ixN xs.length (j : Int) = some j := by
    unfold ixN
    rw [if_pos (by omega), if_pos (by omega)]; simp
  unfold atI; rw [e]; exact h
/-- what stands as an index of a plain subscript -/
def PlainIx (b : Expr) : Prop := ∀ o i, subscripted b false o i = operate [o, i] (getItem o i)
/-- a subscript by values -/
def IxR (X : Cx) (r : R2) : Prop :=
  ∀ (value slice : Expr) (pins : List (Addr × Obj)) (s : Shared) (σ : St) (H : Hp) (x y : V) (v u : Value) (Q : VK), Inv X pins σ H s → RelV x v → RelV y u → r x y H Q →
    subscripted slice false v u = operate [v, u] (getItem v u) → wpAny (model X.prog X.w) X.A (subscriptTail value slice v u) (EP X pins σ Q) X.xe s
/-- a call of a builtin's method by values: the receiver, the arguments -/
def MtR (X : Cx) (id : String) (r : V → List V → Hp → VK → Prop) : Prop :=
  ∀ (pins : List (Addr × Obj)) (s : Shared) (σ : St) (H : Hp) (x : V) (xs : List V) (v : Value) (us : List Value) (Q : VK), Inv X pins σ H s → RelV x v → Vals xs us → r x xs H Q →
    wpAny (model X.prog X.w) X.A (call (.builtin id) (v :: us)) (EP X pins σ Q) X.xe s
section
variable {X : Cx} {a b : Expr} {ta tb : TE} {pos : Pos}
theorem IxR.or {r r' : R2} (h : IxR X r) (h' : IxR X r') : IxR X (fun x y H Q => r x y H Q ∨ r' x y H Q) := by
  intro value slice pins s σ H x y v u Q I rx ry q hs
  rcases q with q | q
  · exact h value slice pins s σ H x y v u Q I rx ry q hs
  · exact h' value slice pins s σ H x y v u Q I rx ry q hs
/-- a[b] -/
theorem pe_ix {r : R2} (hr : IxR X r) (ha : PE X a ta) (hb : PE X b tb) (hs : PlainIx b) : PE X (.Subscript a b pos) (tOp r ta tb) := by
  intro pins s σ H Q I h
  exact Subscript_ (binT ha hb I h fun v u s2 x y H2 I2 rx ry q => hr a b pins s2 σ H2 x y v u Q I2 rx ry q (hs _ _))

def rIxL (K : PySem.W.Frag) : R2 := fun x y H Q => ∃ p xs i v, x = .ref p ∧ y = .int i ∧ SqL K H p xs ∧ atI xs i = some v ∧ Q v H
def rIxT (K : PySem.W.Frag) : R2 := fun x y H Q => ∃ p xs i v, x = .ref p ∧ y = .int i ∧ SqT K H p xs ∧ atI xs i = some v ∧ Q v H
def rIxS : R2 := fun x y H Q => ∃ z i c, x = .str z ∧ y = .int i ∧ z.length ≤ sizeLine ∧ atI z.cps.toList i = some c ∧ Q (.str ⟨#[c]⟩) H
theorem ix_list : IxR X (rIxL X.K) := by
  intro value slice pins s σ H x y v u Q I rx ry h hs
  obtain ⟨p, xs, i, z, rfl, rfl, hq, he, q⟩ := h
  cases rx
  obtain ⟨t, rfl⟩ := ry
  obtain ⟨its, r, pl, hz⟩ := I.list hq
  obtain ⟨j, h1, h2, h3, h4, h5⟩ := atI_get he
  obtain ⟨w, ew, rw'⟩ := r.get h2
  have hl := r.length
  have hn := line63
  have fin : EP X pins σ Q w s := ⟨z, H, I, rw', q⟩
  by_cases h0 : 0 ≤ i
  · have hj : i.toNat = j := by
      rw [seqIndex_of h0 h5] at h1
      exact Option.some.inj h1
    exact item_listR pl.isList h0 (by omega) (by rw [hj]; simpa using ew) fin hs
  · have hj : (i + (its.toArray.size : Int)).toNat = j := by
      rw [seqIndex_neg (by omega) h4] at h1
      rw [List.size_toArray, ← hl]
      exact Option.some.inj h1
    exact subscriptTail_builtinR (x := w) pl.isList.typeIs slot_list_getitem.lookup
      (wpAny_getItem_list_neg (Q := fun r s' => r = w ∧ EP X pins σ Q r s') pl.isList (by omega) (by rw [List.size_toArray] <;> omega) (by omega) (by rw [hj]; simpa using ew) ⟨rfl, fin⟩) hs
theorem ix_tup : IxR X (rIxT X.K) := by
  intro value slice pins s σ H x y v u Q I rx ry h hs
  obtain ⟨p, xs, i, z, rfl, rfl, hq, he, q⟩ := h
  cases rx
  obtain ⟨t, rfl⟩ := ry
  obtain ⟨its, r, pl, hz⟩ := I.tuple hq
  obtain ⟨j, h1, h2, h3, h4, h5⟩ := atI_get he
  obtain ⟨w, ew, rw'⟩ := r.get h2
  have hl := r.length
  have hn := line63
  have fin : EP X pins σ Q w s := ⟨z, H, I, rw', q⟩
  exact subscriptTail_builtinR (x := w) pl.typeIs slot_tuple_getitem.lookup
    (getItem_tuple (j := j) (Q := fun r s' => r = w ∧ EP X pins σ Q r s') pl (by omega) (by omega) (by rw [List.size_toArray, ← hl]; exact h1) (by simpa using ew) ⟨rfl, fin⟩) hs
theorem ix_str : IxR X rIxS := by
  intro value slice pins s σ H x y v u Q I rx ry h hs
  obtain ⟨z, i, c, rfl, rfl, hz, he, q⟩ := h
  obtain ⟨t, rfl⟩ := rx
  obtain ⟨t', rfl⟩ := ry
  obtain ⟨j, h1, h2, h3, h4, h5⟩ := atI_get he
  have hl : z.cps.toList.length = z.length := by simp [Str.length]
  rw [hl] at h1 h4 h5
  have hn := line63
  exact tail_any (typeIs_str s z t) slot_str_getitem.lookup (getItem_str (c := c) (by
    have e1 : decide (i < -(2 ^ 63 : Int)) = false := decide_eq_false (by omega)
    have e2 : decide (i ≥ 2 ^ 63) = false := decide_eq_false (by omega)
    rw [e1, e2, Bool.or_false]) (by rw [h1]; simpa using h2) ⟨.str ⟨#[c]⟩, H, I.tok _, ⟨_, rfl⟩, q⟩) hs
/-- list, tuple or str -/
def rIx (K : PySem.W.Frag) : R2 := fun x y H Q => rIxL K x y H Q ∨ rIxT K x y H Q ∨ rIxS x y H Q
theorem ix_seq : IxR X (rIx X.K) := ix_list.or (ix_tup.or ix_str)

/-- the list's object behind a store -/
theorem mapSeq_set (its : List Value) (n j : Nat) (u : Value) : Obj.mapSeq (·.setIfInBounds j u) { cls := .type "list", data := .seq its.toArray n } = { cls := .type "list", data := .seq (its.set j u).toArray n } := by
  simp [Obj.mapSeq]
theorem Inv.lst {pins : List (Addr × Obj)} {σ : St} {H : Hp} {s : Shared} {p : Addr} {xs : List V} (I : Inv X pins σ H s) (h : H p = some (.lst xs)) :
    ∃ (its : List Value) (n : Nat), Vals xs its ∧ s.heap.get? p = some { cls := .type "list", data := .seq its.toArray n } ∧ xs.length ≤ sizeLine := by
  obtain ⟨z, its, n, r, e⟩ := I.hok p _ h
  exact ⟨its, n, r, e, z⟩
/-- the list at p is written by an update of its object -/
theorem Inv.lstUpd {pins : List (Addr × Obj)} {σ : St} {H : Hp} {s : Shared} {p : Addr} {xs ys : List V} {its its' : List Value} {n n' : Nat} {f : Obj → Obj} (I : Inv X pins σ H s) (h : H p = some (.lst xs))
    (ho : s.heap.get? p = some { cls := .type "list", data := .seq its.toArray n }) (hf : f { cls := .type "list", data := .seq its.toArray n } = { cls := .type "list", data := .seq its'.toArray n' }) (r : Vals ys its') (hz : ys.length ≤ sizeLine) (t : Nat) :
    Inv X pins σ (upd H p (.lst ys)) { s with heap := s.heap.update p f, toks := t } := by
  have e : (s.heap.update p f).get? p = some { cls := .type "list", data := .seq its'.toArray n' } := by
    rw [Heap.get?_update_self f ho (by rw [hf] <;> rfl), hf]
  refine I.write (x := p) (e := p) (by rw [h]; trivial) (.inl rfl) (fun b u hb q => (Heap.get?_update_other _ _ (Ne.symm hb)).trans q) ⟨_, e⟩ ?_
  exact ⟨hz, its', n', r, e⟩
def rSetL : V → V → V → Hp → (Hp → Prop) → Prop := fun o i v H Q => ∃ p xs k j, o = .ref p ∧ i = .int k ∧ H p = some (.lst xs) ∧ ixN xs.length k = some j ∧ Q (upd H p (.lst (xs.set j v)))
theorem set_list : PSet X rSetL := by
  intro pins s σ H o i v ov iv u Q I ro ri rv h
  obtain ⟨p, xs, k, j, rfl, rfl, hp, hj, q⟩ := h
  cases ro
  obtain ⟨t, rfl⟩ := ri
  obtain ⟨its, n, r, ho, hz⟩ := I.lst hp
  obtain ⟨h1, h2, h3, h4⟩ := ixN_seq hj
  have hl := r.length
  have hn := line63
  have I' : Inv X pins σ (upd H p (.lst (xs.set j v))) { s with heap := s.heap.update p (Obj.mapSeq (·.setIfInBounds j u)) } :=
    I.lstUpd hp ho (mapSeq_set its n j u) (r.set rv j) (by rw [List.length_set]; exact hz) s.toks
  by_cases h0 : 0 ≤ k
  · have hk : k.toNat = j := by
      rw [seqIndex_of h0 h4] at h1
      exact Option.some.inj h1
    exact PySem.W.ki_setAt ho h0 (by omega) (by rw [List.size_toArray, ← hl]; exact h4) (by rw [hk]; exact ⟨_, I', q⟩)
  · have hk : (k + (its.toArray.size : Int)).toNat = j := by
      rw [seqIndex_neg (by omega) h3] at h1
      rw [List.size_toArray, ← hl]
      exact Option.some.inj h1
    exact PySem.W.ki_setBack ho (by omega) (by rw [List.size_toArray, ← hl]; exact h3) (by omega) (by rw [hk]; exact ⟨_, I', q⟩)

theorem call_list_of : CallR X (.type "list") (fun xs H Q => ∃ p ys, xs = [.ref p] ∧ (SqL X.K H p ys ∨ SqT X.K H p ys) ∧ ∀ l, H l = none → Q (.ref l) (upd H l (.lst ys))) := by
  intro pins s σ H xs us Q I r h
  obtain ⟨p, ys, rfl, hq, q⟩ := h
  obtain ⟨u, rfl, rx⟩ := vals1 r
  cases rx
  have fin : ∀ (its : List Value), Vals ys its → ys.length ≤ sizeLine → ∀ (h' : Heap) (c' : Nat), (∀ b o', s.heap.get? b = some o' → h'.get? b = some o') →
      h'.get? s.heap.objs.size = some { cls := .type "list", dict := none, data := .seq its.toArray c', slots := #[] } → EP X pins σ Q (.ref s.heap.objs.size) { s with heap := h' } := fun its r' hz h' c' kp e =>
    ⟨.ref s.heap.objs.size, _, I.laid (t' := s.toks) kp (Nat.le_refl _) (show ObjOk X.prog X.w _ h' _ (.lst ys) from ⟨hz, its, c', r', e⟩), rfl, q _ (I.hok.fresh (Nat.le_refl _))⟩
  rcases hq with hq | hq
  · obtain ⟨its, r', pl, hz⟩ := I.list hq
    have hlen := r'.length
    obtain ⟨o, ho, hc, n, hd⟩ := pl.isList
    exact call_list_seq p (.inl rfl) ho hc hd (fun h' c' kp e => fin its r' hz h' c' kp e) (by simp only [List.size_toArray] <;> omega)
  · obtain ⟨its, r', pl, hz⟩ := I.tuple hq
    have hlen := r'.length
    obtain ⟨o, ho, hc, n, hd⟩ := pl
    exact call_list_seq p (.inr rfl) ho hc hd (fun h' c' kp e => fin its r' hz h' c' kp e) (by simp only [List.size_toArray] <;> omega)
theorem call_tuple_of : CallR X (.type "tuple") (fun xs H Q => ∃ p ys, xs = [.ref p] ∧ ((SqL X.K H p ys ∧ ∀ l, H l = none → Q (.ref l) (upd H l (.tup ys))) ∨ (SqT X.K H p ys ∧ Q (.ref p) H))) := by
  intro pins s σ H xs us Q I r h
  obtain ⟨p, ys, rfl, h⟩ := h
  obtain ⟨u, rfl, rx⟩ := vals1 r
  cases rx
  rcases h with ⟨hq, q⟩ | ⟨hq, q⟩
  · obtain ⟨its, r', pl, hz⟩ := I.list hq
    have hlen := r'.length
    refine call_tuple_list pl.isList (fun h' kp => ?_) (by simp only [List.size_toArray] <;> omega)
    have I1 : Inv X pins σ H { s with heap := h' } := I.kept (t' := s.toks) kp
    have I2 : Inv X pins σ (upd H h'.objs.size (.tup ys)) { s with heap := h'.push { cls := .type "tuple", data := .seq its.toArray } } :=
      I1.laid (t' := s.toks) (fun b o e => Heap.get?_push_of_some _ e) (Nat.le_refl _) (show ObjOk X.prog X.w _ _ _ (.tup ys) from ⟨hz, its, r', IsTup.new _ _⟩)
    exact ⟨.ref h'.objs.size, _, I2, rfl, q _ (I1.hok.fresh (Nat.le_refl _))⟩
  · obtain ⟨its, r', pl, hz⟩ := I.tuple hq
    exact call_tuple_same pl ⟨.ref p, H, I, rfl, q⟩

/-- the value is of that builtin type -/
def tyV (K : PySem.W.Frag) (T : String) (x : V) (H : Hp) : Prop := match x with
  | .str _ => T = "str"
  | .int _ => T = "int"
  | .ref p => (T = "list" ∧ ∃ xs, SqL K H p xs) ∨ (T = "tuple" ∧ ∃ o, K.lookup p = some o ∧ o.cls = .type "tuple" ∧ o.dict = none) ∨
      (T = "dict" ∧ ((∃ kvs, H p = some (.dK kvs)) ∨ ∃ kvs, H p = some (.dT kvs))) ∨ (T = "set" ∧ ∃ S n, H p = some (.set S n))
  | _ => False
theorem tyV_is {pins : List (Addr × Obj)} {σ : St} {H : Hp} {s : Shared} {T : String} {x : V} {v : Value} (I : Inv X pins σ H s) (r : RelV x v) (ty : tyV X.K T x H) :
    s.TypeIs v T ∧ ∀ a, v = .ref a → ∃ ob, s.heap.get? a = some ob ∧ ob.dict = none := by
  cases x with
  | str z =>
    obtain ⟨t, rfl⟩ := r
    cases (show T = "str" from ty)
    exact ⟨typeIs_str s z t, fun _ e => nomatch e⟩
  | int i =>
    obtain ⟨t, rfl⟩ := r
    cases (show T = "int" from ty)
    exact ⟨typeIs_int s i t, fun _ e => nomatch e⟩
  | ref p =>
    cases r
    rcases ty with ⟨rfl, xs, hq⟩ | ⟨rfl, o, hk, hc, hd⟩ | ⟨rfl, hk⟩ | ⟨rfl, S, n, hk⟩
    · obtain ⟨its, _, pl, _⟩ := I.list hq
      refine ⟨pl.isList.typeIs, fun a e => ?_⟩
      cases e
      obtain ⟨o, n, e, c, hd, _⟩ := pl
      exact ⟨o, e, hd⟩
    · refine ⟨⟨o, I.kIn p o hk, hc⟩, fun a e => ?_⟩
      cases e
      exact ⟨o, I.kIn _ o hk, hd⟩
    · have z : ∃ o, s.heap.get? p = some o ∧ o.ExactDict := by
        rcases hk with ⟨kvs, hk⟩ | ⟨kvs, hk⟩
        · obtain ⟨_, _, _, _, o, _, _, e, ex, _⟩ := I.hok p _ hk
          exact ⟨o, e, ex⟩
        · obtain ⟨_, _, _, _, o, _, _, e, ex, _⟩ := I.hok p _ hk
          exact ⟨o, e, ex⟩
      obtain ⟨o, e, ex⟩ := z
      refine ⟨⟨o, e, ex.1⟩, fun a e2 => ?_⟩
      cases e2
      exact ⟨o, e, ex.2.1⟩
    · obtain ⟨o, _, _, _, e, ex, _⟩ := I.hok p _ hk
      refine ⟨⟨o, e, ex.1⟩, fun a e2 => ?_⟩
      cases e2
      exact ⟨o, e, ex.2.1⟩
  | _ => exact False.elim ty
def tBM0 (K : PySem.W.Frag) (T : String) (r : V → List V → Hp → VK → Prop) (to : TE) : TE := fun σ H Q => to σ H fun x H1 => tyV K T x H1 ∧ r x [] H1 Q
variable {o e : Expr} {es : List Expr} {to : TE} {t : TA} {name : Str} {apos cpos : Pos} {T id : String} {r : V → List V → Hp → VK → Prop}
theorem pe_bm0 (pa : PlainAttrs T) (slot : Slot T name id) (hty : typeOf (.builtin id) = pure (.type "method_descriptor")) (hm : MtR X id r) (ho : PE X o to)
    (hbase : attributeBase o name X.env (eval o X.env) = eval o X.env := by rfl) (hline : (apos.endLine == cpos.line) = true := by rfl) : PE X (.Call (.Attribute o name apos) [] [] cpos) (tBM0 X.K T r to) := by
  intro pins s σ H Q I h
  refine wpAny_Call_method0_late hbase hline (thn (ho pins s σ H _ I h) fun v s1 ⟨x, H1, I1, r1, ty, q1⟩ => ?_)
  obtain ⟨h1, h2⟩ := tyV_is I1 r1 ty
  exact ⟨T, id, pa, slot, hty, h1, h2, Calls.callWith_builtin rfl (PySem.evalArgs_none (hm pins s1 σ H1 x [] v [] Q I1 r1 .nil q1))⟩
/- xs.append(e), list.index on a module's tuple .. are MtR facts of 06m -/
end
end L2

namespace L2
open PySem PySem.Spec PyProof.Rows

def MtM (X : Cx) (id : String) (r : V → List V → Hp → VK → Prop) : Prop :=
  ∀ (pins : List (Addr × Obj)) (s : Shared) (σ : St) (H : Hp) (x : V) (xs : List V) (v : Value) (us : List Value) (Q : VK), Inv X pins σ H s → RelV x v → Vals xs us → r x xs H Q →
    wpAny (model X.prog X.w) X.A (call (.builtin id) (v :: us)) (EP X pins σ Q) X.xe s

theorem Vals.one : ∀ {x : V} {us : List Value}, Vals [x] us → ∃ u, us = [u] ∧ RelV x u
  | _, _, .cons r .nil => ⟨_, rfl, r⟩
section
variable {X : Cx} {pins : List (Addr × Obj)} {σ : St} {H : Hp} {s : Shared} {l b : Addr} {xs ys zs : List V}

theorem Inv.lset {its its' : List Value} {n : Nat} {f : Array Value → Array Value} {t' : Nat} (I : Inv X pins σ H s) (hH : H l = some (.lst xs))
    (e : s.heap.get? l = some { cls := .type "list", data := .seq its.toArray n }) (hf : f its.toArray = its'.toArray) (hv : Vals ys its') (hz : ys.length ≤ sizeLine) :
    Inv X pins σ (upd H l (.lst ys)) { s with heap := s.heap.update l (Obj.mapSeq f), toks := t' } := by
  have q := PySem.IsL.update e f
  rw [hf] at q
  refine I.write (x := l) (e := l) (by rw [hH]; exact trivial) (.inl rfl) (fun b' u hb hu => (Heap.get?_update_other s.heap (Obj.mapSeq f) (Ne.symm hb)).trans hu) ⟨_, q⟩ ?_
  exact ⟨hz, its', _, hv, q⟩
theorem Inv.lnew {its : List Value} {t' : Nat} (I : Inv X pins σ H s) (hv : Vals ys its) (hz : ys.length ≤ sizeLine) :
    Inv X pins σ (upd H s.heap.objs.size (.lst ys)) { s with heap := s.heap.push { cls := .type "list", data := .seq its.toArray }, toks := t' } :=
  I.laid (fun _ _ q => Heap.get?_push_of_some _ q) (Nat.le_refl _) ⟨hz, its, 0, hv, Heap.get?_push_size _ rfl⟩
theorem Inv.fresh (I : Inv X pins σ H s) : H s.heap.objs.size = none := I.hok.fresh (Nat.le_refl _)
theorem Inv.lstM (I : Inv X pins σ H s) (hH : H l = some (.lst xs)) : xs.length ≤ sizeLine ∧ ∃ (its : List Value) (n : Nat), Vals xs its ∧ xs.length = its.length ∧ s.heap.get? l = some { cls := .type "list", data := .seq its.toArray n } := by
  obtain ⟨z, its, n, r, e⟩ := I.hok l _ hH
  exact ⟨z, its, n, r, r.length, e⟩

end

section
variable {X : Cx}

def rAppend : V → List V → Hp → VK → Prop := fun x vs H Q => ∃ l xs y, x = .ref l ∧ vs = [y] ∧ H l = some (.lst xs) ∧ xs.length < sizeLine ∧ Q .non (upd H l (.lst (xs ++ [y])))
theorem mt_append : MtM X "list.append" rAppend := by
  intro pins s σ H x vs v us Q I rx rv h
  obtain ⟨l, xs, y, rfl, rfl, hH, hz, q⟩ := h
  cases rx
  obtain ⟨u, rfl, ru⟩ := rv.one
  obtain ⟨z, its, n, r, hl, e⟩ := I.lstM hH
  refine call_meets F.slot_list_append ⟨_, e, rfl⟩ F.entry_list_append (F.args_list_append_2 _ _) (PySem.list_append l its.toArray n u (by rw [List.size_toArray]; omega)) ⟨e, ?_⟩
  refine ⟨.non, _, I.lset (its' := its ++ [u]) hH e (by simp) (r.append (.cons ru .nil)) ?_, rfl, q⟩
  rw [List.length_append, List.length_singleton]
  omega

def rCat : R2 := fun x y H Q => ∃ l b xs zs, x = .ref l ∧ y = .ref b ∧ H l = some (.lst xs) ∧ H b = some (.lst zs) ∧ xs.length + zs.length ≤ sizeLine ∧ ∀ p, H p = none → Q (.ref p) (upd H p (.lst (xs ++ zs)))
theorem op_cat : OpR X (binaryOp .Add) rCat := by
  intro pins s σ H x y v u Q I rx ry h
  obtain ⟨l, b, xs, zs, rfl, rfl, hH, hB, hz, q⟩ := h
  cases rx
  cases ry
  obtain ⟨z, its, n, r, hl, e⟩ := I.lstM hH
  obtain ⟨z2, its2, n2, r2, hl2, e2⟩ := I.lstM hB
  refine PySem.P.add_list e e2 ?_ (by rw [List.size_toArray, List.size_toArray]; omega)
  have ea : its.toArray ++ its2.toArray = (its ++ its2).toArray := by simp
  rw [ea]
  exact ⟨.ref _, _, I.lnew (t' := s.toks) (r.append r2) (by rw [List.length_append]; omega), rfl, q _ I.fresh⟩
end

section
variable {prog : Program} {w : World} {A : Around} {E : Value → Shared → Prop} {s : Shared}
end

section
variable {X : Cx}
end
end L2

namespace L2
open PySem PySem.Spec PyProof.Rows

section
variable {κ : Type} [DecidableEq κ]
end


section
variable {P : Program} {w : World} {H : Hp} {h : Heap} {a : Addr}
end

section
variable {X : Cx} {pins : List (Addr × Obj)} {σ : St} {H : Hp} {s : Shared} {a : Addr} {y v : V} {u r : Value} {o : Option V} {A : Around} {E : Value → Shared → Prop}

end

section
variable {X : Cx} {pins : List (Addr × Obj)} {σ : St} {H : Hp} {s : Shared} {a : Addr} {kvs : List (Key × V)} {k : Key} {u : Value} {A : Around} {E : Value → Shared → Prop}
end


section
variable {X : Cx} {o i e value : Expr} {pos pos' tpos : Pos} {td ty tv : TE}
end


section
variable {X : Cx} {pos : Pos}
end

section
variable {X : Cx} {pins : List (Addr × Obj)} {σ : St} {H : Hp} {s : Shared} {a : Addr} {y d : V} {u r : Value} {o : Option V} {A : Around} {E : Value → Shared → Prop}
end

section
variable {X : Cx} {o e f : Expr} {apos cpos : Pos} {td ty tx : TE}
end

section
variable {X : Cx} {pins : List (Addr × Obj)} {σ : St} {H : Hp} {s : Shared} {a : Addr} {kvs : List (Key × V)} {A : Around} {E : Value → Shared → Prop}
end


section
variable {X : Cx} {pins : List (Addr × Obj)} {σ : St} {H : Hp} {s : Shared} {a : Addr} {y : V} {u : Value} {A : Around} {E : Value → Shared → Prop}
end
end L2

namespace Att
open PySem PySem.W PySem.Calls PyProof.Rows

theorem ints_of_wellAll {P : Params} {h : Heap} : ∀ (ns : List Int) (vs : List Value), WellAll P h vs (ns.map WData.int) → IntsAre vs ns := by
  intro ns
  induction ns with
  | nil =>
    intro vs w
    rw [List.map_nil] at w
    cases w
    exact .nil
  | cons n ns ih =>
    intro vs w
    rw [List.map_cons] at w
    cases w with
    | cons a b =>
      cases a
      exact .cons _ _ (ih _ b)

theorem script_of {l : OpenLaw} {n : Nat} (hn : l.most = some n) {P : Params} {h : Heap} {args : List WData} {vals : List Value}
    (hpre : l.row.toRowW.claim.pre args = true) (hwl : WellAll P h vals args) :
    ∃ a vs ns, vals = [Value.ref a] ∧ args = [WData.list (ns.map WData.int)] ∧ h.get? a = some { cls := .type "list", data := .seq vs.toArray } ∧ IntsAre vs ns ∧ ns.length ≤ n := by
  have hsh : WShape.hasAll [] args [.list .int] = true := (pre_splitW hpre).1
  have hc : l.pre.holds [] { args := args } = true := (pre_splitW hpre).2
  obtain ⟨d, r, rfl, h1, h2⟩ := hasAllW_cons hsh
  obtain rfl := hasAllW_nil h2
  obtain ⟨xs, rfl, h3⟩ := hasW_list h1
  obtain ⟨ns, rfl⟩ := items_int h3
  have hlen : ns.length ≤ n := by
    unfold OpenLaw.pre at hc
    have h4 : (WTm.not (.lt (.lit (.int (n : Int))) (.len (.arg 0)))).holds [] { args := [.list (ns.map .int)] } = true := by
      have h4 := (holds_andW hc).1
      rw [hn] at h4
      exact h4
    have h5 := condW_of h4 (w_not (w_lt w_lit (w_len_list (w_arg rfl))))
    rw [List.length_map] at h5
    refine Nat.le_of_not_lt fun q => ?_
    have q' : (n : Int) < ((ns.length : Nat) : Int) := by omega
    first
      | (rw [decide_eq_true q'] at h5; exact absurd h5 (by decide))
      | (simp at h5; omega)
  cases hwl with
  | cons w1 w2 =>
    cases w2
    cases w1 with
    | list ho hall => exact ⟨_, _, ns, rfl, rfl, ho, ints_of_wellAll ns _ hall, hlen⟩

theorem post_true (l : OpenLaw) (args : List WData) : l.row.toRowW.claim.post args (.bool true) args = true :=
  postW_of (r := l.row.toRowW) (X := (true == true))
    (show WShape.has [] (.bool true) .bool = true by first | rfl | decide | simp [WShape.has, WShape.arms, WShape.armsAll])
    (show (WTm.eq .res (.lit (.bool true))).value [] { args := args, res := some (.bool true), after := args } = some (.bool (true == true)) from w_eq_bool (w_res rfl) w_lit) rfl

/-- the same from a codeAny of the CALL (for a layer whose function contracts speak of calls) -/
theorem attach_call {l : OpenLaw} {n : Nat} {q : Program} {loose : List Str} {XP : (Str → Option Value) → Heap → Prop} {YP : World → Heap → Prop} {d : DefRec}
    (hn : l.most = some n) (hdf : d.params.defaults = [])
    (call : ∀ (w : World) (s₀ s₁ : Shared) (mg mb : Str → Option Value) (fa : Addr) (o : Obj) (pm cd doc : Value) (a : Addr) (vs : List Value) (ns : List Int),
      Ground q loose [] XP w s₀ mg mb s₁.heap → YP w s₁.heap →
      s₁.heap.get? fa = some o → o.data = .func (docDef d.name d.params d.body d.scope pm cd doc) → s₁.heap.CodeRec cd d.name → mg d.name = some (.ref fa) →
      s₁.heap.get? a = some { cls := .type "list", data := .seq vs.toArray } → IntsAre vs ns → ns.length ≤ n → s₁.gens = #[] →
      codeAny (model l.prog w) callerA (.call (.ref fa) ⟨[.ref a], []⟩) (fun r s' => r = .ok (.ret (.bool true)) ∧ OldK s₁.heap s'.heap ∧ s'.os = s₁.os ∧ AllBare s'.gens) s₁) :
    WalkO q loose XP YP l.row.toRowW d [] (fun f vs => PySem.call f vs) := by
  intro w s₀ s₁ mg mb G Y fa o pm cd doc dV kV ho hd hcd hD hmg hg args vals as hpre hlay hrd hwl hlo
  obtain rfl : dV = .none := Dflts.none hD hdf
  obtain rfl : kV = .none := Dflts.noKw hD
  obtain ⟨a, vs, ns, rfl, rfl, hobj, hints, hlen⟩ := script_of hn hpre hwl
  refine enter_call (codeAny_mono (call w s₀ s₁ mg mb fa o pm cd doc a vs ns G Y ho (fd_plain hd) hcd hmg hobj hints hlen hg) fun r s' hq => ?_)
  obtain ⟨rfl, h2, h3, h4⟩ := hq
  exact ⟨.inl ⟨.bool true, .bool true, [], rfl, fun _ => rfl, .bool true, post_true l _, fun _ => ⟨List.Pairwise.nil, fun _ hm => (nomatch hm)⟩⟩, h2, h3, h4⟩

section
variable {prog : Program} {w : World} {A : Around} {E : Value → Shared → Prop} {s : Shared} {K : Frag}

end
end Att

namespace L2
open PySem PySem.Spec PyProof.Rows

theorem vals_ints : ∀ {vs : List Value} {ns : List Int}, IntsAre vs ns → Vals (ns.map V.int) vs
  | _, _, .nil => .nil
  | _, _, .cons n t h => .cons ⟨t, rfl⟩ (vals_ints h)

/-- nothing is tracked but the script, known to the object (or it is an object of the module) -/
def Only (H : Hp) : Prop := ∀ b, H b = none ∨ ∃ o xs, H b = some (.frz o (.lst xs))

/-- THE HEAD: the law's promise, at the heap behind the top. F, the promise of the law's def, may use that base is part of the heap (so K.In base, base.Ns mainGlobals mg stand in Mod) -/
theorem law_call {P : Program} {w : World} {K : PySem.W.Frag} {mg mb : Str → Option Value} {CX : CXT} {k : Nat} {fa a : Addr} {fd : FuncData} {x : Str} {sp : Sp} {s₁ : Shared} {vs : List Value} {ns : List Int}
    (KX : K.In s₁.heap) (hns : s₁.heap.Ns mainGlobals mg) (hb : s₁.heap.Ns builtinsNs mb) (hbb : ∀ x : Str, x ≠ "__name__" → mb x = bootBuiltins x) (hlim : s₁.heap.NoLimit) (hg : s₁.gens = #[])
    (ha : s₁.heap.get? a = some { cls := .type "list", data := .seq vs.toArray }) (hi : IntsAre vs ns) (hl : ns.length ≤ sizeLine) (hr : Room k callerA)
    (F : ∀ base : Heap, K.In base → base.Ns mainGlobals mg → FnOk P w K mg base CX k fa fd [x] sp) (hbind : ∀ (s : Shared) (u : Value), BindsTo s fd ⟨[u], []⟩ [(x, u)])
    (hsp : ∀ H : Hp, Only H → SqL K H a (ns.map V.int) → sp [.ref a] H (fun v _ => v = .bl true) fun _ _ _ => False)
    (hCX : ∀ H e s', CX [] H s₁ (fun _ _ _ => False) e s' → False) :
    codeAny (model P w) callerA (.call (.ref fa) ⟨[.ref a], []⟩) (fun r s' => r = .ok (.ret (.bool true)) ∧ OldK s₁.heap s'.heap ∧ s'.os = s₁.os ∧ AllBare s'.gens) s₁ := by
  have rv := vals_ints hi
  have lenV := hi.length
  -- from an abstract heap in which nothing but the script may be tracked
  have core : ∀ H : Hp, Only H → SqL K H a (ns.map V.int) → HOk P w H s₁.heap → (∀ b, H b ≠ none → b = a) → (H a ≠ none → K.lookup a = none) →
      codeAny (model P w) callerA (.call (.ref fa) ⟨[.ref a], []⟩) (fun r s' => r = .ok (.ret (.bool true)) ∧ OldK s₁.heap s'.heap ∧ s'.os = s₁.os ∧ AllBare s'.gens) s₁ := by
    intro H hO hS hok hA hK
    have base_of : ∀ {b : Addr} {o : Obj}, s₁.heap.get? b = some o → H b = none → (hidT s₁.heap H).get? b = some o := fun e n => hidT_get e n
    have noA : ∀ {b : Addr} {o : Obj} {es : Array DictEntry} {ep : Nat}, s₁.heap.get? b = some o → o.data = .dict es ep → H b = none := fun {b o es ep} e d => by
      cases q : H b with
      | none => rfl
      | some u =>
        have e' : b = a := hA b (by rw [q]; simp)
        subst e'
        rw [ha] at e; cases e
        have d' : Data.seq vs.toArray _ = Data.dict es ep := d
        cases d'
    have nsK : ∀ {b : Addr} {m : Str → Option Value}, s₁.heap.Ns b m → (hidT s₁.heap H).Ns b m := fun {b m} ⟨o, es, ep, e, d, r⟩ => ⟨o, es, ep, base_of e (noA e d), d, r⟩
    have hKb : K.In (hidT s₁.heap H) := fun b o e => base_of (KX b o e) (by
      cases q : H b with
      | none => rfl
      | some u =>
        have e' : b = a := hA b (by rw [q]; simp)
        subst e'
        rw [hK (by rw [q]; simp)] at e; cases e)
    have hM : Mod K mg (hidT s₁.heap H) := ⟨hKb, nsK hns, ⟨mb, nsK hb, hbb⟩, let ⟨mc, h1, h2⟩ := hlim; ⟨mc, nsK h1, h2⟩⟩
    have e0 : Env0 P w K mg (hidT s₁.heap H) callerA [] s₁ H := ⟨rfl, hM, fun b o e => of_hidT e, Nat.le_of_eq (hidT_size _ _), trivial, fun b hb => absurd (show b ∈ ([] : List Addr) from hb) (by simp), hok, .of_eq hg⟩
    refine codeAny_mono ((F _ hKb (nsK hns)).run callerA [] s₁ H ⟨[.ref a], []⟩ [.ref a] [.ref a] _ _ hr e0 (hbind s₁ (.ref a)) (.cons rfl .nil) (hsp H hO hS)) fun r s' h => ?_
    cases r with
    | error e => exact (hCX H e s' h).elim
    | ok fl =>
      cases fl with
      | next => exact False.elim h
      | brk => exact False.elim h
      | cont => exact False.elim h
      | ret u =>
        obtain ⟨v, H', os, bare, un, hok', r', q⟩ := h
        have q' : v = .bl true := q
        subst q'
        obtain rfl : u = Value.bool true := r'
        refine ⟨rfl, OldK.of_keep fun b o e => ?_, os, bare⟩
        cases q : H b with
        | none => exact un.keep b o e q (by intro z; exact absurd (show b ∈ ([] : List Addr) from z) (by simp)) (by simp)
        | some u =>
          rcases hO b with z | ⟨ob, xs, z⟩
          · rw [q] at z; cases z
          · have z2 := un.frzs b ob _ z
            obtain ⟨e1, _⟩ := hok b _ z
            obtain ⟨e2, _⟩ := hok' b _ z2
            rw [e] at e1; cases e1
            exact e2
  cases hk : K.lookup a with
  | some o =>
    -- the script is one of the module's own objects
    have e := KX a o hk
    rw [ha] at e
    cases e
    refine core (fun _ => none) (fun _ => .inl rfl) (.inr ⟨_, vs.toArray, _, hk, rfl, rfl, rfl, by rw [List.size_toArray, lenV]; exact hl, by simpa using rv⟩) (fun b u z => by have z' : (none : Option HO) = some u := z; cases z') (fun b z => absurd rfl z) fun z => absurd rfl z
  | none =>
    refine core (fun b => if b = a then some (.frz { cls := .type "list", data := .seq vs.toArray } (.lst (ns.map V.int))) else none) (fun b => ?_) (.inl (.inr ⟨{ cls := .type "list", data := .seq vs.toArray }, if_pos rfl⟩)) (fun b u z => ?_) (fun b z => ?_) fun _ => hk
    · by_cases hb : b = a
      · exact .inr ⟨_, _, if_pos hb⟩
      · exact .inl (if_neg hb)
    · by_cases hb : b = a
      · have z' := (if_pos hb).symm.trans z
        cases z'
        subst hb
        exact ⟨ha, by rw [List.length_map]; exact hl, vs, _, rv, ha⟩
      · have z' := (if_neg hb).symm.trans z
        cases z'
    · by_cases hb : b = a
      · exact hb
      · exact absurd (if_neg hb) z
end L2

namespace L2
open PySem PySem.Spec PyProof.Rows

abbrev KOf {K : PySem.W.Frag} {h : Heap} (_ : K.In h) : PySem.W.Frag := K

/-- the goal that k_head leaves (case hc), from the law's promise. F gives the function object fd (K's own) once, then the promise over every base -/
theorem walk_of {l : PySem.W.OpenLaw} {n k : Nat} {q : Program} {loose : List Str} {XP : (Str → Option Value) → Heap → Prop} {YP : World → Heap → Prop} {d : DefRec} {K : Params → PySem.W.Frag} {CX : World → CXT} {sp : World → Sp} {x : Str}
    (hn : l.most = some n) (hn2 : n ≤ sizeLine) (hdf : d.params.defaults = []) (hr : Room k callerA)
    (hY : ∀ (w : World) (h : Heap), YP w h → (K w.params).In h)
    (F : ∀ (w : World) (mg : Str → Option Value) (fa : Addr) (h : Heap), (K w.params).In h → h.Ns mainGlobals mg → mg d.name = some (.ref fa) →
      ∃ fd : FuncData, (∀ (s : Shared) (u : Value), BindsTo s fd ⟨[u], []⟩ [(x, u)]) ∧
        ∀ base : Heap, (K w.params).In base → base.Ns mainGlobals mg → FnOk l.prog w (K w.params) mg base (CX w) k fa fd [x] (sp w))
    (hsp : ∀ (w : World) (H : Hp) (a : Addr) (ns : List Int), ns.length ≤ n → Only H → SqL (K w.params) H a (ns.map V.int) → sp w [.ref a] H (fun v _ => v = .bl true) fun _ _ _ => False)
    (hCX : ∀ (w : World) (H : Hp) (s : Shared) (e : Value) (s' : Shared), CX w [] H s (fun _ _ _ => False) e s' → False) :
    PySem.W.WalkO q loose XP YP l.row.toRowW d [] (fun f vs => PySem.call f vs) := by
  refine Att.attach_call hn hdf fun w s₀ s₁ mg mb fa o pm cd doc a vs ns G Y ho hd hcd hmg hobj hints hlen hg => ?_
  have KX := hY w _ Y
  obtain ⟨fd, hb, hF⟩ := F w mg fa _ KX G.T.g hmg
  exact law_call KX G.T.g G.T.b G.T.builtins G.T.nolimit hg hobj hints (Nat.le_trans hlen hn2) hr hF hb (fun H hO hS => hsp w H a ns hlen hO hS) fun H e s' => hCX w H s₁ e s'
/-- the same where the promise hangs on the written part alone: (sp := My.sp_law), no hole under a binder -/
theorem walk_ofK {l : PySem.W.OpenLaw} {n k : Nat} {q : Program} {loose : List Str} {XP : (Str → Option Value) → Heap → Prop} {YP : World → Heap → Prop} {d : DefRec} {K : Params → PySem.W.Frag} {CX : CXT} {sp : PySem.W.Frag → Sp} {x : Str}
    (hn : l.most = some n) (hn2 : n ≤ sizeLine) (hdf : d.params.defaults = []) (hr : Room k callerA)
    (hY : ∀ (w : World) (h : Heap), YP w h → (K w.params).In h)
    (F : ∀ (w : World) (mg : Str → Option Value) (fa : Addr) (h : Heap), (K w.params).In h → h.Ns mainGlobals mg → mg d.name = some (.ref fa) →
      ∃ fd : FuncData, (∀ (s : Shared) (u : Value), BindsTo s fd ⟨[u], []⟩ [(x, u)]) ∧
        ∀ base : Heap, (K w.params).In base → base.Ns mainGlobals mg → FnOk l.prog w (K w.params) mg base CX k fa fd [x] (sp (K w.params)))
    (hsp : ∀ (K : PySem.W.Frag) (H : Hp) (a : Addr) (ns : List Int), ns.length ≤ n → Only H → SqL K H a (ns.map V.int) → sp K [.ref a] H (fun v _ => v = .bl true) fun _ _ _ => False)
    (hCX : ∀ (H : Hp) (s : Shared) (e : Value) (s' : Shared), CX [] H s (fun _ _ _ => False) e s' → False) :
    PySem.W.WalkO q loose XP YP l.row.toRowW d [] (fun f vs => PySem.call f vs) :=
  walk_of (K := K) (CX := fun _ => CX) (sp := fun w => sp (K w.params)) hn hn2 hdf hr hY F (fun w H a ns h1 h2 h3 => hsp (K w.params) H a ns h1 h2 h3) fun _ H s e s' => hCX H s e s'
end L2

namespace L2
open PySem PySem.Spec PyProof.Rows

/-- the j-th statement of a class's body -/
def inClass (s : Stmt) (j : Nat) : Stmt := match s with
  | .ClassDef _ _ _ body _ _ _ _ _ _ _ => body.getD j (.Pass ⟨0, 0, 0, 0⟩)
  | _ => .Pass ⟨0, 0, 0, 0⟩
def defArgs (s : Stmt) : Arguments := match s with
  | .FunctionDef _ a _ _ _ _ _ _ _ _ => a
  | _ => { posonlyargs := [], args := [], vararg := none, kwonlyargs := [], kw_defaults := [], kwarg := none, defaults := [] }
def defBody (s : Stmt) : List Stmt := match s with
  | .FunctionDef _ _ b _ _ _ _ _ _ _ => b
  | _ => []
def defScope (s : Stmt) : Scope := match s with
  | .FunctionDef _ _ _ _ _ _ sc _ _ _ => sc
  | _ => { kind := .function, names := [], isGenerator := false, isCoroutine := false }

abbrev CX0 : CXT := fun _ _ _ _ _ _ => False
abbrev E0 : XK := fun _ _ _ => False
theorem pass0 {X : Cx} : Passes CX0 X E0 := fun _ _ _ _ _ _ _ h => h.elim

structure Fun (K : PySem.W.Frag) (x qual : Str) (st : Stmt) (f : Addr) (fd : FuncData) : Prop where
  ex : ∃ (oc : Value) (od : Option Addr) (kV doc pm : Value) (an : Option Addr) (cdv ct : Value) (osl : Array (Option Value)),
    fd = PySem.W.fnOf x qual (defArgs st) (defBody st) (defScope st) .none kV doc pm an cdv ct ∧ K.lookup f = some ⟨oc, od, .func fd, osl⟩ ∧ PySem.W.codeIn K cdv qual = true
  kp : PySem.W.keepIn K (.ref f) = true
section
variable {P : Program} {w : World} {K : PySem.W.Frag} {mg : Str → Option Value} {base : Heap}
/-- THE RULE for a def: its body as a term of rules, and the reading of that term -/
theorem Fun.ok {x qual : Str} {st : Stmt} {f : Addr} {fd : FuncData} {N ps : List Str} {k : Nat} {sp : Sp} (F : Fun K x qual st f fd) (S : FnScope N ps (defScope st)) (len : ∀ vs H Q E, sp vs H Q E → vs.length = ps.length)
    (hbody : ∀ (cdv : Value) (A : Around) (outer : List Env) (s : Shared) (H : Hp) (vs : List V) (Q : VK) (E : XK), Room k (A.deeper (envOfC qual (defScope st) s.heap.objs.size f cdv)) → sp vs H Q E →
      ∃ t, PSs (cxOf CX0 P w K mg base N qual (defScope st) f cdv A outer s H E).nox (defBody st) t ∧ t { nx := fun _ H' => Q .non H', rt := Q } (start N vs) H) : FnOk P w K mg base CX0 (k + 1) f fd ps sp := by
  obtain ⟨oc, od, kV, doc, pm, an, cdv, ct, osl, rfl, lk, hcd⟩ := F.ex
  refine fn_of lk hcd S len fun A outer s H vs Q E hr hsp => ?_
  obtain ⟨t, h, q⟩ := hbody cdv A outer s H vs Q E hr hsp
  exact ⟨t, h.nox, q⟩
/-- how its arguments bind (no defaults): h is «fun _ _ _ _ _ _ us hl => match us, hl with | [_, _], _ => rfl», one _ a parameter -/
theorem Fun.binds {x qual : Str} {st : Stmt} {f : Addr} {fd : FuncData} {ps : List Str} (F : Fun K x qual st f fd)
    (h : ∀ (kV doc pm : Value) (an : Option Addr) (cdv ct : Value) (us : List Value), us.length = ps.length → bindArgs (PySem.W.fnOf x qual (defArgs st) (defBody st) (defScope st) .none kV doc pm an cdv ct) ⟨us, []⟩ = pure (ps.zip us)) : Binds K fd ps [] := by
  obtain ⟨oc, od, kV, doc, pm, an, cdv, ct, osl, rfl, lk, hcd⟩ := F.ex
  exact .all (h kV doc pm an cdv ct)
theorem fun_mk {x qual : Str} {st : Stmt} {f : Addr} {oc : Value} {od an : Option Addr} {osl : Array (Option Value)} {kV doc pm cdv ct : Value} (l : K.lookup f = some ⟨oc, od, .func (PySem.W.fnOf x qual (defArgs st) (defBody st) (defScope st) .none kV doc pm an cdv ct), osl⟩)
    (c : PySem.W.codeIn K cdv qual = true) (k : PySem.W.keepIn K (.ref f) = true) : Fun K x qual st f (PySem.W.fnOf x qual (defArgs st) (defBody st) (defScope st) .none kV doc pm an cdv ct) := ⟨⟨oc, od, kV, doc, pm, an, cdv, ct, osl, rfl, l, c⟩, k⟩
end
section
variable {X : Cx}
theorem pv (i : Nat) {x : Str} {pos : Pos} (hN : X.N[i]? = some x := by rfl) (hv : Vis X.env.scope x := by first | exact Or.inl rfl | exact Or.inr (Or.inl rfl) | exact Or.inr (Or.inr rfl)) (hd : (x == ("__debug__" : Str)) = false := by decide)
    (hcd : (x == ("__classdict__" : Str)) = false := by decide) : PE X (.Name x pos) (tVar i) := pe_var hN hv hd hcd
end

/-- all that was tracked is as it was -/
abbrev Same (H H' : Hp) : Prop := ∀ b o, H b = some o → H' b = some o
theorem Same.refl (H : Hp) : Same H H := fun _ _ h => h
theorem Same.trans {H H1 H2 : Hp} (a : Same H H1) (b : Same H1 H2) : Same H H2 := fun c o h => b c o (a c o h)
theorem Same.seq {K : PySem.W.Frag} {H H' : Hp} {a : Addr} {xs : List V} (e : Same H H') (h : SqL K H a xs) : SqL K H' a xs := by
  rcases h with (h | ⟨o, h⟩) | h
  · exact .inl (.inl (e _ _ h))
  · exact .inl (.inr ⟨o, e _ _ h⟩)
  · exact .inr h

section
variable {X : Cx}
end
section
variable {κ : Type} [DecidableEq κ]
end
end L2


namespace EM
/-- the number whose bits below n are those of f -/
def bits (f : Nat → Bool) : Nat → Nat
  | 0 => 0
  | n + 1 => bits f n + (if f n then 2 ^ n else 0)
theorem bits_lt (f : Nat → Bool) : ∀ n, bits f n < 2 ^ n
  | 0 => by simp [bits]
  | n + 1 => by
    have h := bits_lt f n
    simp only [bits]
    have e : (2 : Nat) ^ (n + 1) = 2 ^ n + 2 ^ n := by rw [Nat.pow_succ]; omega
    split <;> omega
theorem testBit_bits (f : Nat → Bool) (i : Nat) : ∀ n, (bits f n).testBit i = (decide (i < n) && f i)
  | 0 => by simp [bits]
  | n + 1 => by
    have ih := testBit_bits f i n
    have hl := bits_lt f n
    simp only [bits]
    by_cases hf : f n = true
    · rw [if_pos hf, Nat.add_comm]
      rcases Nat.lt_trichotomy i n with h | h | h
      · rw [Nat.testBit_two_pow_add_gt h, ih]
        simp [h, Nat.lt_succ_of_lt h]
      · subst h
        rw [Nat.testBit_two_pow_add_eq, ih]
        simp [hf]
      · have : (2 : Nat) ^ n + bits f n < 2 ^ i := by
          have e : (2 : Nat) ^ (n + 1) = 2 ^ n + 2 ^ n := by rw [Nat.pow_succ]; omega
          have : (2 : Nat) ^ (n + 1) ≤ 2 ^ i := Nat.pow_le_pow_right (by decide) h
          omega
        rw [Nat.testBit_lt_two_pow this]
        have : ¬ i < n + 1 := by omega
        simp [this]
    · rw [if_neg hf, Nat.add_zero, ih]
      by_cases h : i = n
      · subst h
        have : f i = false := by simpa using hf
        simp [this]
      · have : (i < n + 1) ↔ (i < n) := by omega
        simp [this]
theorem bits_ext {f g : Nat → Bool} {n : Nat} (h : ∀ i, i < n → f i = g i) : bits f n = bits g n := by
  apply Nat.eq_of_testBit_eq
  intro i
  rw [testBit_bits, testBit_bits]
  by_cases hi : i < n
  · simp [hi, h i hi]
  · simp [hi]
theorem bits_false (n : Nat) : bits (fun _ => false) n = 0 := by
  apply Nat.eq_of_testBit_eq
  intro i
  rw [testBit_bits]
  simp
/-- one more bit by or -/
theorem bits_or_one (f : Nat → Bool) (n : Nat) (h : f n = true) : bits f n ||| 2 ^ n = bits f (n + 1) := by
  have e := Nat.two_pow_add_eq_or_of_lt (bits_lt f n) 1
  rw [Nat.mul_one] at e
  rw [Nat.or_comm, ← e]
  simp only [bits, h, if_true]
  omega
theorem bits_skip (f : Nat → Bool) (n : Nat) (h : f n = false) : bits f (n + 1) = bits f n := by
  simp [bits, h]
theorem lit_iff (s k : Nat) : s.testBit k = decide (s / 2 ^ k % 2 = 1) := Nat.testBit_eq_decide_div_mod_eq
theorem or_split : ∀ (n x y : Nat), x < n → (x ||| y) = (x &&& y) + (x ^^^ y)
  | 0, x, y, h => absurd h (by omega)
  | n + 1, x, y, h => by
    by_cases hx : x = 0
    · subst hx; simp
    · have ih := or_split n (x / 2) (y / 2) (by omega)
      have e1 := Nat.div_add_mod (x ||| y) 2
      have e2 := Nat.div_add_mod (x &&& y) 2
      have e3 := Nat.div_add_mod (x ^^^ y) 2
      rw [Nat.or_div_two] at e1
      rw [Nat.and_div_two] at e2
      rw [Nat.xor_div_two] at e3
      have m1 : (x ||| y) % 2 = (x % 2 ||| y % 2) := Nat.or_mod_two_pow (n := 1)
      have m2 : (x &&& y) % 2 = (x % 2 &&& y % 2) := Nat.and_mod_two_pow (n := 1)
      have m3 : (x ^^^ y) % 2 = (x % 2 ^^^ y % 2) := Nat.xor_mod_two_pow (n := 1)
      have m4 : (x % 2 ||| y % 2) = (x % 2 &&& y % 2) + (x % 2 ^^^ y % 2) := by
        rcases Nat.mod_two_eq_zero_or_one x with a | a <;> rcases Nat.mod_two_eq_zero_or_one y with b | b <;> rw [a, b] <;> rfl
      omega
end EM

namespace EM
end EM

set_option maxRecDepth 100000
set_option maxHeartbeats 4000000
namespace L2
open PySem PySem.Spec PyProof.Rows

section
variable {σ : St} {H : Hp} {Q : VK} {D : Ends} {K : PySem.W.Frag} {BQ : Bool → Hp → Prop}
theorem i_var {i : Nat} {v : V} (h : σ[i]? = some (some v)) (k : Q v H) : tVar i σ H Q := ⟨v, h, k⟩
theorem i_c {v : V} (k : Q v H) : tC v σ H Q := k
theorem i_op {r : R2} {ta tb : TE} (h : ta σ H fun x H1 => tb σ H1 fun y H2 => r x y H2 Q) : tOp r ta tb σ H Q := h
theorem i_un {r : V → Hp → VK → Prop} {ta : TE} (h : ta σ H fun x H1 => r x H1 Q) : tUn r ta σ H Q := h
theorem i_rI0 {g : Int → Int → V} {i j : Int} (h : Q (g i j) H) : rI0 g (.int i) (.int j) H Q := ⟨i, j, rfl, rfl, h⟩
theorem i_rI {C : Int → Int → Prop} {g : Int → Int → V} {i j : Int} (c : C i j) (h : Q (g i j) H) : rI C g (.int i) (.int j) H Q := ⟨i, j, rfl, rfl, c, h⟩
theorem i_rU {g : Int → V} {i : Int} (h : Q (g i) H) : rU g (.int i) H Q := ⟨i, rfl, h⟩
theorem i_eqI {i j : Int} (h : Q (.bl (decide (i = j))) H) : rEq (.int i) (.int j) H Q := by
  refine ⟨rfl, ?_⟩
  have e : decide (V.int i = V.int j) = decide (i = j) := by simp
  rw [e]; exact h
theorem i_neI {i j : Int} (h : Q (.bl (!decide (i = j))) H) : rNe (.int i) (.int j) H Q := by
  refine ⟨rfl, ?_⟩
  have e : decide (V.int i = V.int j) = decide (i = j) := by simp
  rw [e]; exact h
theorem i_test {t : TE} (h : t σ H fun x H' => ∃ k, x = .bl k ∧ BQ k H') : tTest t σ H BQ := h
theorem i_exb {b : Bool} {R : Bool → Prop} (h : R b) : ∃ k, V.bl b = V.bl k ∧ R k := ⟨b, rfl, h⟩
theorem i_and {t u : TT} (h : t σ H fun c H1 => if c = true then u σ H1 BQ else BQ false H1) : tAnd t u σ H BQ := h
theorem i_or {t u : TT} (h : t σ H fun c H1 => if c = true then BQ true H1 else u σ H1 BQ) : tOr t u σ H BQ := h
theorem i_not {t : TT} (h : t σ H fun c H1 => BQ (!c) H1) : tNot t σ H BQ := h
theorem i_andV {t u : TE} (h : t σ H fun x H1 => ∃ c, x = .bl c ∧ if c = true then u σ H1 Q else Q (.bl false) H1) : tAndV t u σ H Q := h
theorem i_seq {t u : TS} (h : t { D with nx := u D } σ H) : tSeq t u D σ H := h
theorem i_next (h : D.nx σ H) : tNext D σ H := h
theorem i_drop {te : TE} (h : te σ H fun _ H1 => D.nx σ H1) : tDrop te D σ H := h
theorem i_ret {te : TE} (h : te σ H D.rt) : tRet te D σ H := h
theorem i_ifs {c : TT} {t u : TS} (h : c σ H fun b H1 => if b = true then t D σ H1 else u D σ H1) : tIfS c t u D σ H := h
theorem i_asg {te : TE} {g : TG} (h : te σ H fun x H1 => g x σ H1 D.nx) : tAsg te g D σ H := h
theorem i_name {i : Nat} {v : V} {R : St → Hp → Prop} (h : R (σ.set i (some v)) H) : gName i v σ H R := h
theorem i_nil {R : List V → Hp → Prop} (h : R [] H) : tNil σ H R := h
theorem i_cons {ta : TE} {tr : TA} {R : List V → Hp → Prop} (h : ta σ H fun x H1 => tr σ H1 fun xs H2 => R (x :: xs) H2) : tCons ta tr σ H R := h
theorem i_cb {r : List V → Hp → VK → Prop} {t : TA} (h : t σ H fun vs H1 => r vs H1 Q) : tCB r t σ H Q := h
/-- a new list, a new tuple -/
abbrev NewL (xs : List V) (H : Hp) (Q : VK) : Prop := xs.length ≤ sizeLine ∧ ∀ p, H p = none → Q (.ref p) (upd H p (.lst xs))
abbrev NewT (xs : List V) (H : Hp) (Q : VK) : Prop := xs.length ≤ sizeLine ∧ ∀ p, H p = none → Q (.ref p) (upd H p (.tup xs))
theorem i_tup {t : TA} (h : t σ H fun xs H1 => NewT xs H1 Q) : tTup t σ H Q := h
theorem i_lst {t : TA} (h : t σ H fun xs H1 => NewL xs H1 Q) : tLst t σ H Q := h
theorem i_bm0 {T : String} {r : V → List V → Hp → VK → Prop} {to : TE} (h : to σ H fun x H1 => tyV K T x H1 ∧ r x [] H1 Q) : tBM0 K T r to σ H Q := h
theorem i_fld {ta : TE} {f : Str} (h : ta σ H fun x H1 => ∃ a C dx fs v, x = .ref a ∧ H1 a = some (.ins C dx fs) ∧ Cls K C ∧ NoAttr K C f ∧ fs.lookup f = some v ∧ Q v H1) : tFld K ta f σ H Q := h
theorem i_sfld {ta tv : TE} {f : Str} (h : tv σ H fun y H1 => ta σ H1 fun x H2 => ∃ a C dx fs, x = .ref a ∧ H2 a = some (.ins C dx fs) ∧ Cls K C ∧ NoAttr K C f ∧ fs.length < 1000 ∧ D.nx σ (upd H2 a (.ins C dx (putF f y fs)))) : sFld K ta tv f D σ H := h
/-- a test by a value's truth -/
theorem i_truB {b : Bool} {R : Bool → Prop} (h : R b) : ∃ k, TruV K (.bl b) H k ∧ R k := ⟨b, rfl, h⟩
/-- ifs -/
theorem i_ifd {c A B : Prop} [Decidable c] (h1 : c → A) (h2 : ¬ c → B) : if decide c = true then A else B := by
  by_cases h : c
  · rw [if_pos (decide_eq_true h)]; exact h1 h
  · rw [if_neg (by simp [h])]; exact h2 h
theorem i_ifn {c A B : Prop} [Decidable c] (h1 : ¬ c → A) (h2 : c → B) : if (!decide c) = true then A else B := by
  by_cases h : c
  · rw [if_neg (by simp [h])]; exact h2 h
  · rw [if_pos (by simp [h])]; exact h1 h
theorem i_ifb {b : Bool} {A B : Prop} (h1 : b = true → A) (h2 : b = false → B) : if b = true then A else B := by
  cases b
  · rw [if_neg Bool.false_ne_true]; exact h2 rfl
  · rw [if_pos rfl]; exact h1 rfl
theorem i_ifT {b : Bool} {A B : Prop} (h : b = true) (k : A) : if b = true then A else B := by rw [if_pos h]; exact k
theorem i_ifF {b : Bool} {A B : Prop} (h : b = false) (k : B) : if b = true then A else B := by rw [if_neg (by rw [h]; exact Bool.false_ne_true)]; exact k
end

def LoopR (lo : Int) (n : Nat) (g : TG) (tb : TS) (D : Ends) (σ : St) (H : Hp) : Prop :=
  ∃ W : Nat → Nat → St → Hp → Prop, (∃ m, W 0 m σ H) ∧ ∀ i m σ H, W i m σ H →
      ((Itr lo n).stop i H ∧ D.nx σ H) ∨ ((Itr lo n).go i H ∧ ∃ N : St → Hp → Prop, (∀ σ' H', N σ' H' → ∃ m', m' < m ∧ W (i + 1) m' σ' H') ∧ ∀ x H', (Itr lo n).yld i H x H' → g x σ H' fun σ2 H2 => tb { D with nx := N, ct := N, bk := D.nx } σ2 H2)
def LoopL (K : PySem.W.Frag) (a : Addr) (g : TG) (tb : TS) (D : Ends) (σ : St) (H : Hp) : Prop :=
  ∃ W : Nat → Nat → St → Hp → Prop, (∃ m, W 0 m σ H) ∧ ∀ i m σ H, W i m σ H →
      ((Itl K a).stop i H ∧ D.nx σ H) ∨ ((Itl K a).go i H ∧ ∃ N : St → Hp → Prop, (∀ σ' H', N σ' H' → ∃ m', m' < m ∧ W (i + 1) m' σ' H') ∧ ∀ x H', (Itl K a).yld i H x H' → g x σ H' fun σ2 H2 => tb { D with nx := N, ct := N, bk := D.nx } σ2 H2)
def LoopT (K : PySem.W.Frag) (a : Addr) (g : TG) (tb : TS) (D : Ends) (σ : St) (H : Hp) : Prop :=
  ∃ W : Nat → Nat → St → Hp → Prop, (∃ m, W 0 m σ H) ∧ ∀ i m σ H, W i m σ H →
      ((Itt K a).stop i H ∧ D.nx σ H) ∨ ((Itt K a).go i H ∧ ∃ N : St → Hp → Prop, (∀ σ' H', N σ' H' → ∃ m', m' < m ∧ W (i + 1) m' σ' H') ∧ ∀ x H', (Itt K a).yld i H x H' → g x σ H' fun σ2 H2 => tb { D with nx := N, ct := N, bk := D.nx } σ2 H2)
section
variable {σ : St} {H : Hp} {D : Ends} {K : PySem.W.Frag} {g : TG} {tb : TS}
theorem i_forR1 {ta : TA} (h : ta σ H fun vs H1 => ∃ j : Int, vs = [.int j] ∧ -(2 ^ 62) ≤ j ∧ j < 2 ^ 62 ∧ LoopR 0 j.toNat g tb D σ H1) : tFor (iRng1 ta) g tb D σ H := h
theorem i_forR2 {ta : TA} (h : ta σ H fun vs H1 => ∃ i j : Int, vs = [.int i, .int j] ∧ (-(2 ^ 62) ≤ i ∧ i < 2 ^ 62 ∧ -(2 ^ 62) ≤ j ∧ j < 2 ^ 62) ∧ LoopR i (j - i).toNat g tb D σ H1) : tFor (iRng2 ta) g tb D σ H := h
theorem loopR0 {n : Nat} (Pv : Nat → St → Hp → Prop) (h0 : Pv 0 σ H) (hs : ∀ (i : Nat) σ H, i < n → Pv i σ H → g (.int (i : Int)) σ H fun σ2 H2 => tb { D with nx := Pv (i + 1), ct := Pv (i + 1), bk := D.nx } σ2 H2) (hd : ∀ σ H, Pv n σ H → D.nx σ H) : LoopR 0 n g tb D σ H := for_range Pv h0 (fun i σ H hi p => by rw [Int.zero_add]; exact hs i σ H hi p) hd
theorem loopL {a : Addr} {xs : List V} (Pv : Nat → St → Hp → Prop) (h0 : Pv 0 σ H) (hl : ∀ i σ H, i ≤ xs.length → Pv i σ H → SqL K H a xs) (hs : ∀ i x σ H, xs[i]? = some x → Pv i σ H → g x σ H fun σ2 H2 => tb { D with nx := Pv (i + 1), ct := Pv (i + 1), bk := D.nx } σ2 H2) (hd : ∀ σ H, Pv xs.length σ H → D.nx σ H) : LoopL K a g tb D σ H := for_list Pv h0 hl hs hd
end

def Its (x : Str) : It := ⟨fun i _ => i < x.cps.size, fun i H v H' => H' = H ∧ ∃ c, x.cps[i]? = some c ∧ v = .str ⟨#[c]⟩, fun i _ => x.cps.size ≤ i⟩
theorem turn_strA {P : Program} {w : World} {K : PySem.W.Frag} {tg : Expr} (x : Str) (t : Tok) (it : Addr) : Turn P w K tg (Its x) [it] it (fun i h => h.IsStrIter it "str_ascii_iterator" x t i) where
  mem := by simp
  obj := fun i h st b hb => by
    have e : b = it := by simpa using hb
    subst e
    obtain ⟨o, e, c, d⟩ := st
    exact ⟨o, e, fun v z => by rw [d] at z; cases z⟩
  keep := fun i h h' st k => let ⟨o, ho, r⟩ := st; ⟨o, k it (by simp) o ho, r⟩
  item := by
    intro X hP hw hK hc i pins s σ H E I hf st hg
    subst hP hw hK
    obtain ⟨f0, f1, f2, f3, f4, f5⟩ := hf it (by simp)
    have hg : i < x.cps.size := hg
    refine wpAny_pyNext_ascii_item st (c := x.cps[i]) (by simp [hg]) fun h' st' sb => ?_
    have I1 : Inv X pins σ H { s with heap := h', toks := s.toks + 1 } := I.turned (fun b o hb e => (sb.2 b hb).trans e) f0 f1 f3 f4 f5
    obtain ⟨o, e, c, d⟩ := id st'
    exact ⟨_, rfl, go_of (s := { s with heap := h', toks := s.toks + 1 }) e c d (by decide) ⟨.str ⟨#[x.cps[i]]⟩, H, I1, ⟨_, rfl⟩, ⟨rfl, _, by simp [hg], rfl⟩, st', fun b hb => (hf b hb).1⟩⟩
  done := by
    intro X hP hw hK hc i pins s σ H E I hf st hg
    subst hP hw hK
    obtain ⟨f0, f1, f2, f3, f4, f5⟩ := hf it (by simp)
    have hg : x.cps.size ≤ i := hg
    exact wpAny_pyNext_ascii_end (I.ok.hd hc) st (by simp [hg]) fun h' eb => ⟨rfl, I.turned (t' := s.toks) (fun b o hb e => eb b o hb e) f0 f1 f3 f4 f5⟩
  self := fun _ _ _ _ _ st h => wpAny_pyIter_striter_ascii st h
theorem turn_strW {P : Program} {w : World} {K : PySem.W.Frag} {tg : Expr} (x : Str) (t : Tok) (it : Addr) : Turn P w K tg (Its x) [it] it (fun i h => h.IsStrIter it "str_iterator" x t i) where
  mem := by simp
  obj := fun i h st b hb => by
    have e : b = it := by simpa using hb
    subst e
    obtain ⟨o, e, c, d⟩ := st
    exact ⟨o, e, fun v z => by rw [d] at z; cases z⟩
  keep := fun i h h' st k => let ⟨o, ho, r⟩ := st; ⟨o, k it (by simp) o ho, r⟩
  item := by
    intro X hP hw hK hc i pins s σ H E I hf st hg
    subst hP hw hK
    obtain ⟨f0, f1, f2, f3, f4, f5⟩ := hf it (by simp)
    have hg : i < x.cps.size := hg
    refine wpAny_pyNext_wide_item st (c := x.cps[i]) (by simp [hg]) fun h' st' sb => ?_
    have I1 : Inv X pins σ H { s with heap := h', toks := s.toks + 1 } := I.turned (fun b o hb e => (sb.2 b hb).trans e) f0 f1 f3 f4 f5
    obtain ⟨o, e, c, d⟩ := id st'
    exact ⟨_, rfl, go_of (s := { s with heap := h', toks := s.toks + 1 }) e c d (by decide) ⟨.str ⟨#[x.cps[i]]⟩, H, I1, ⟨_, rfl⟩, ⟨rfl, _, by simp [hg], rfl⟩, st', fun b hb => (hf b hb).1⟩⟩
  done := by
    intro X hP hw hK hc i pins s σ H E I hf st hg
    subst hP hw hK
    obtain ⟨f0, f1, f2, f3, f4, f5⟩ := hf it (by simp)
    have hg : x.cps.size ≤ i := hg
    exact wpAny_pyNext_wide_end (I.ok.hd hc) st (by simp [hg]) fun h' eb => ⟨rfl, I.turned (t' := s.toks) (fun b o hb e => eb b o hb e) f0 f1 f3 f4 f5⟩
  self := fun _ _ _ _ _ st h => wpAny_pyIter_striter_wide st h
def iSeq (K : PySem.W.Frag) (tl : TE) : TI := fun σ H R => tl σ H fun x H1 => (∃ a xs, x = .ref a ∧ SqL K H1 a xs ∧ R (Itl K a) H1) ∨ (∃ a xs, x = .ref a ∧ SqT K H1 a xs ∧ R (Itt K a) H1) ∨ (∃ z, x = .str z ∧ R (Its z) H1)
theorem pi_seq {X : Cx} {tg : Expr} {l : Expr} {tl : TE} (hl : PE X l tl) : PI X tg l (iSeq X.K tl) := by
  intro pins s σ H R I h
  refine thn (hl pins s σ H _ I h) fun v s1 ⟨x, H1, I1, r1, q1⟩ => ?_
  have fp : ∀ b ∈ [s1.heap.objs.size], FpOk X pins H1 b := fun b hb => by
    have e : b = s1.heap.objs.size := by simpa using hb
    subst e
    exact I1.fpOk (Nat.le_refl _) (I1.hok.fresh (Nat.le_refl _))
  rcases q1 with ⟨a, xs, e, hq, q⟩ | ⟨a, xs, e, hq, q⟩ | ⟨z, e, q⟩
  · subst e
    cases r1
    obtain ⟨its, rv, p, hz⟩ := I1.list hq
    refine wpAny_pyIter_list p.isList ?_
    exact ⟨s1.heap.objs.size, [s1.heap.objs.size], _, _, H1, rfl, I1.kept (t' := s1.toks) fun b o e => Heap.get?_push_of_some _ e, turn_list a _, ⟨_, Heap.get?_push_size _ rfl, rfl, rfl⟩, fp, q⟩
  · subst e
    cases r1
    obtain ⟨its, rv, p, hz⟩ := I1.tuple hq
    refine wpAny_pyIter_tuple (show s1.heap.IsTuple a its.toArray from p) ?_
    exact ⟨s1.heap.objs.size, [s1.heap.objs.size], _, _, H1, rfl, I1.kept (t' := s1.toks) fun b o e => Heap.get?_push_of_some _ e, turn_tuple a _, ⟨_, Heap.get?_push_size _ rfl, rfl, rfl⟩, fp, q⟩
  · subst e
    obtain ⟨t, rfl⟩ := r1
    cases ha : z.cps.all (· < 128) with
    | false =>
      refine wpAny_pyIter_wide ha ?_
      exact ⟨s1.heap.objs.size, [s1.heap.objs.size], _, _, H1, rfl, I1.kept (t' := s1.toks) fun b o e => Heap.get?_push_of_some _ e, turn_strW z t _, ⟨_, Heap.get?_push_size _ rfl, rfl, rfl⟩, fp, q⟩
    | true =>
      refine wpAny_pyIter_ascii ha ?_
      exact ⟨s1.heap.objs.size, [s1.heap.objs.size], _, _, H1, rfl, I1.kept (t' := s1.toks) fun b o e => Heap.get?_push_of_some _ e, turn_strA z t _, ⟨_, Heap.get?_push_size _ rfl, rfl, rfl⟩, fp, q⟩
def LoopX (x : Str) (g : TG) (tb : TS) (D : Ends) (σ : St) (H : Hp) : Prop :=
  ∃ W : Nat → Nat → St → Hp → Prop, (∃ m, W 0 m σ H) ∧ ∀ i m σ H, W i m σ H →
      ((Its x).stop i H ∧ D.nx σ H) ∨ ((Its x).go i H ∧ ∃ N : St → Hp → Prop, (∀ σ' H', N σ' H' → ∃ m', m' < m ∧ W (i + 1) m' σ' H') ∧ ∀ x' H', (Its x).yld i H x' H' → g x' σ H' fun σ2 H2 => tb { D with nx := N, ct := N, bk := D.nx } σ2 H2)
def SeqW (K : PySem.W.Frag) (x : V) (g : TG) (tb : TS) (D : Ends) (σ : St) (H1 : Hp) : Prop :=
  (∃ a xs, x = .ref a ∧ SqL K H1 a xs ∧ LoopL K a g tb D σ H1) ∨ (∃ a xs, x = .ref a ∧ SqT K H1 a xs ∧ LoopT K a g tb D σ H1) ∨ (∃ z, x = .str z ∧ LoopX z g tb D σ H1)
section
variable {σ : St} {H : Hp} {D : Ends} {K : PySem.W.Frag} {g : TG} {tb : TS}
theorem i_forS {tl : TE} (h : tl σ H fun x H1 => SeqW K x g tb D σ H1) : tFor (iSeq K tl) g tb D σ H := h
theorem seqL {a : Addr} {xs : List V} (Pv : Nat → St → Hp → Prop) (h0 : Pv 0 σ H) (hl : ∀ i σ H, i ≤ xs.length → Pv i σ H → SqL K H a xs) (hs : ∀ i x σ H, xs[i]? = some x → Pv i σ H → g x σ H fun σ2 H2 => tb { D with nx := Pv (i + 1), ct := Pv (i + 1), bk := D.nx } σ2 H2) (hd : ∀ σ H, Pv xs.length σ H → D.nx σ H) : SeqW K (.ref a) g tb D σ H := .inl ⟨a, xs, rfl, hl 0 σ H (Nat.zero_le _) h0, loopL Pv h0 hl hs hd⟩
end

section
variable (P : Program) (w : World) (K : PySem.W.Frag) (mg : Str → Option Value) (base : Heap)
def FnS (k : Nat) (x : Str) (ps : List Str) (sp : Sp) : Prop := ∃ f fd, FnOk P w K mg base CX0 k f fd ps sp ∧ Binds K fd ps [] ∧ PySem.W.keepIn K (.ref f) = true ∧ mg x = some (.ref f)
def MeS (k : Nat) (C : Addr) (m : Str) (ps : List Str) (sp : Sp) : Prop := Cls K C ∧ ∃ f fd, FnOk P w K mg base CX0 k f fd ps sp ∧ Binds K fd ps [] ∧ Meth K C m f
def MkS (k : Nat) (x : Str) (C : Addr) (ps : List Str) (sp : Sp) : Prop := mg x = some (.ref C) ∧ ∃ f fd, Mk K C f ∧ FnOk P w K mg base CX0 k f fd ps sp ∧ Binds K fd ps []
end
def tFn (sp : Sp) (t : TA) : TE := fun σ H Q => t σ H fun vs H1 => sp vs H1 Q E0
def MkG (C : Addr) (sp : Sp) (vs : List V) (H1 : Hp) (Q : VK) : Prop := ∀ x dx, H1 x = none → H1 dx = none → dx ≠ x →
  sp (.ref x :: vs) (upd (upd H1 dx (.own x)) x (.ins C dx [])) (fun v H2 => v = .non ∧ Q (.ref x) H2) E0
def tMk (C : Addr) (sp : Sp) (t : TA) : TE := fun σ H Q => t σ H fun vs H1 => MkG C sp vs H1 Q
/-- o.m(..) of an instance of one of several classes: D tells which, each keeps sp for its own instances -/
def tDy (D : Addr → Prop) (m : Str) (sp : Sp) (ta : TE) (t : TA) : TE := fun σ H Q => ta σ H fun x H1 => ∃ a C dx fs, x = .ref a ∧ H1 a = some (.ins C dx fs) ∧ D C ∧ fs.lookup m = none ∧
  t σ H1 fun vs H2 => H2 a = some (.ins C dx fs) ∧ sp (x :: vs) H2 Q E0
/-- .. the promise of the class at C -/
def spAt (sp : Sp) (C : Addr) : Sp := fun vs H Q E => sp vs H Q E ∧ ∃ a dx fs r, vs = V.ref a :: r ∧ H a = some (.ins C dx fs)
theorem i_fn {sp : Sp} {t : TA} {σ : St} {H : Hp} {Q : VK} (h : t σ H fun vs H1 => sp vs H1 Q E0) : tFn sp t σ H Q := h
theorem i_mk {C : Addr} {sp : Sp} {t : TA} {σ : St} {H : Hp} {Q : VK} (h : t σ H fun vs H1 => MkG C sp vs H1 Q) : tMk C sp t σ H Q := h
theorem i_dy {D : Addr → Prop} {m : Str} {sp : Sp} {ta : TE} {t : TA} {σ : St} {H : Hp} {Q : VK} (h : ta σ H fun x H1 => ∃ a C dx fs, x = .ref a ∧ H1 a = some (.ins C dx fs) ∧ D C ∧ fs.lookup m = none ∧
  t σ H1 fun vs H2 => H2 a = some (.ins C dx fs) ∧ sp (x :: vs) H2 Q E0) : tDy D m sp ta t σ H Q := h
theorem tCall_nil (sp : Sp) (t : TA) : tCall sp [] E0 t = tFn sp t := by
  funext σ H Q
  unfold tCall tFn
  have e : (fun (vs : List V) (H1 : Hp) => sp (vs ++ []) H1 Q E0) = fun vs H1 => sp vs H1 Q E0 := by
    funext vs H1; rw [List.append_nil]
  rw [e]
theorem tMake_nil (C : Addr) (sp : Sp) (t : TA) : tMake C sp [] E0 t = tMk C sp t := by
  funext σ H Q
  unfold tMake tMk MkG
  congr 1
  funext vs H1
  rw [List.append_nil]
section
variable {X : Cx} {k k' : Nat} {x m : Str} {C : Addr} {ps : List Str} {sp : Sp} {e o : Expr} {es : List Expr} {ta : TE} {t : TA} {p pos apos : Pos}
theorem pe_fn (G : FnS X.prog X.w X.K X.mg X.base k x ps sp) (hr : Room k' X.A) (ha : PA X (e :: es) t) (hk : k ≤ k' := by omega) (hg : Gl X x := by rfl) (hdb : (x == ("__debug__" : Str)) = false := by decide)
    (he : starEach (e :: es) X.env = (false, eval e X.env) :: starEach es X.env := by rfl) (hpl : (backTo pos (starEach es X.env)).any (·.1) = false := by rfl) : PE X (.Call (.Name x p) (e :: es) [] pos) (tFn sp t) := by
  obtain ⟨f, fd, F, hb, kp, hm⟩ := G
  rw [← tCall_nil]
  exact pe_call F (hr.mono hk) hg hm kp hb .nil pass0 ha hdb he hpl
theorem pe_mk (G : MkS X.prog X.w X.K X.mg X.base k x C ps sp) (hr : Room k' X.A) (ha : PA X (e :: es) t) (hk : k + 1 ≤ k' := by omega) (hg : Gl X x := by rfl) (hdb : (x == ("__debug__" : Str)) = false := by decide)
    (he : starEach (e :: es) X.env = (false, eval e X.env) :: starEach es X.env := by rfl) (hpl : (backTo pos (starEach es X.env)).any (·.1) = false := by rfl) : PE X (.Call (.Name x p) (e :: es) [] pos) (tMk C sp t) := by
  obtain ⟨hm, f, fd, M, F, hb⟩ := G
  rw [← tMake_nil]
  exact pe_make M F (hr.mono hk) hg hm hb .nil pass0 ha hdb he hpl
theorem pe_dy {pl : Sem Bool} {D : Addr → Prop} (hD : ∀ C, D C → MeS X.prog X.w X.K X.mg X.base k C m ps (spAt sp C)) (hr : Room k' X.A) (ho : PE X o ta) (ha : PA X (e :: es) t) (hk : k ≤ k' := by omega)
    (hst : starEach (e :: es) X.env = (false, eval e X.env) :: starEach es X.env := by rfl) (hpl : (backTo pos (starEach es X.env)).any (·.1) = false := by rfl)
    (ht : eval (.Call (.Attribute o m apos) (e :: es) [] pos) X.env = (do
      let ov ← eval o X.env
      standAt apos.atName
      let (f, first) ← holding [ov] (getMethod ov m pl)
      callWith pos f first (backTo pos (starEach (e :: es) X.env)) (backToKw pos (keywordEach [] X.env))) := by rfl) :
    PE X (.Call (.Attribute o m apos) (e :: es) [] pos) (tDy D m sp ta t) := by
  intro pins s σ H Q I h
  refine PySem.W.methodCall_KW (pl := pl) (thn (ho pins s σ H _ I h) fun u s1 ⟨x, H1, I1, rx, a, C, dx, fs, ex, ea, hC, l, q⟩ => ?_) ht
  subst ex
  obtain rfl : u = Value.ref a := rx
  obtain ⟨c, f, fd, F, hb, hm⟩ := hD C hC
  refine getmeth_ok I1 ea c hm l ?_
  refine PySem.W.callWith_K (first := [.ref a]) (h₀ := X.base) I.ok.mod.kin hm.kp (thn (ha pos pins s1 σ H1 _ I1 q) fun us s2 ⟨vs, H2, I2, r, eb, q2⟩ => ⟨I2.kIn, ?_⟩) hst hpl
  exact run_fn (us := .ref a :: us) (vs := .ref a :: vs) (dvs := []) (E := E0) F (hr.mono hk) hb .nil pass0 I2 (.cons rfl r) (by rw [List.append_nil]; exact ⟨q2, a, dx, fs, vs, rfl, eb⟩)
/-- name = value, the slot i -/
theorem ss (i : Nat) {x : Str} {e : Expr} {te : TE} {pos pos' : Pos} (hN : X.N.Nodup) (he : PE X e te) (hi : X.N[i]? = some x := by rfl) (hx : Loc X.env.scope x := by first | exact Or.inl rfl | exact Or.inr rfl)
    (hs : swapsWith e (some (.Name x pos')) pos.line X.env = pure false := by rfl) (hf : X.fn x = true ∨ X.env.scope.names.lookup x = some .local := by first | exact .inl rfl | exact .inr rfl) : PS X (.Assign [.Name x pos'] e pos) (tAsg te (gName i)) :=
  ps_set hN hi hx he hs hf
theorem sg (i : Nat) {x : Str} {pos : Pos} (hN : X.N.Nodup) (hi : X.N[i]? = some x := by rfl) (hx : Loc X.env.scope x := by first | exact Or.inl rfl | exact Or.inr rfl) (hf : X.fn x = true ∨ X.env.scope.names.lookup x = some .local := by first | exact .inl rfl | exact .inr rfl) : PG X (.Name x pos) (gName i) := pg_name hN hi hx hf
def rIsi (K : PySem.W.Frag) : List V → Hp → VK → Prop := fun xs H Q => ∃ x t b, TyOf K H x t ∧ ((∃ n, xs = [x, .ty n] ∧ PySem.W.kitOne K t (.type n) = some b) ∨ (∃ c, xs = [x, .ref c] ∧ PySem.W.kitOne K t (.ref c) = some b)) ∧ Q (.bl b) H
theorem call_isi : CallR X (.builtin "isinstance") (rIsi X.K) := by
  intro pins s σ H xs us Q I r h
  obtain ⟨x, t, b, ty, h, q⟩ := h
  rcases h with ⟨n, rfl, e⟩ | ⟨c, rfl, e⟩
  · obtain ⟨u, v, rfl, ru, rv⟩ := vals2 r
    obtain rfl : v = Value.type n := rv
    exact isinst_ok I ru ty e fun tk => ⟨.bl b, H, I.tok tk, rfl, q⟩
  · obtain ⟨u, v, rfl, ru, rv⟩ := vals2 r
    obtain rfl : v = Value.ref c := rv
    exact isinst_ok I ru ty e fun tk => ⟨.bl b, H, I.tok tk, rfl, q⟩
theorem i_isiT {K : PySem.W.Frag} {x : V} {n : String} {t : Value} {b : Bool} {H : Hp} {Q : VK} (ty : TyOf K H x t) (e : PySem.W.kitOne K t (.type n) = some b) (h : Q (.bl b) H) : rIsi K [x, .ty n] H Q := ⟨x, t, b, ty, .inl ⟨n, rfl, e⟩, h⟩
def rAddG : R2 := fun x y H Q => rI0 (fun i j => V.int (i + j)) x y H Q ∨ (∃ i j, x = .str i ∧ y = .str j ∧ i.length + j.length ≤ sizeLine ∧ Q (.str (i ++ j)) H) ∨ rCat x y H Q
theorem op_addG : OpR X (binaryOp .Add) rAddG := OpR.or op_add (OpR.or op_add_str op_cat)
theorem i_addI {i j : Int} {H : Hp} {Q : VK} (h : Q (.int (i + j)) H) : rAddG (.int i) (.int j) H Q := .inl ⟨i, j, rfl, rfl, h⟩
end

section
variable {X : Cx} {K : PySem.W.Frag} {H : Hp} {Q : VK} {a : Expr} {ta : TE} {pos : Pos}
theorem bt_len : bootBuiltins "len" = some (.builtin "len") := by decide +kernel
theorem bt_isinstance : bootBuiltins "isinstance" = some (.builtin "isinstance") := by decide +kernel
theorem bt_max : bootBuiltins "max" = some (.builtin "max") := by decide +kernel
theorem bt_min : bootBuiltins "min" = some (.builtin "min") := by decide +kernel
theorem bt_all : bootBuiltins "all" = some (.builtin "all") := by decide +kernel
theorem bt_int : bootBuiltins "int" = some (.type "int") := by decide +kernel
theorem bt_bool : bootBuiltins "bool" = some (.type "bool") := by decide +kernel
theorem bt_list : bootBuiltins "list" = some (.type "list") := by decide +kernel
theorem bt_tuple : bootBuiltins "tuple" = some (.type "tuple") := by decide +kernel
theorem bt_enumerate : bootBuiltins "enumerate" = some (.type "enumerate") := by decide +kernel
/-- not of any value -/
def tNotG (K : PySem.W.Frag) (ta : TE) : TE := fun σ H Q => ta σ H fun x H1 => ∃ k, TruV K x H1 k ∧ Q (.bl (!k)) H1
theorem pe_notG (ha : PE X a ta) : PE X (.UnaryOp .Not a pos) (tNotG X.K ta) := by
  intro pins s σ H Q I h
  refine UnaryOp_ (thn (ha pins s σ H _ I h) fun v s1 ⟨x, H1, I1, r1, q1⟩ => ?_)
  exact not_of (thn (tru_ok pins s1 σ H1 x v (fun k H2 => Q (.bl (!k)) H2) I1 r1 q1) fun b s2 ⟨H2, I2, q2⟩ => ⟨.bl (!b), H2, I2, rfl, q2⟩)
theorem i_notG {σ : St} (h : ta σ H fun x H1 => ∃ k, TruV K x H1 k ∧ Q (.bl (!k)) H1) : tNotG K ta σ H Q := h
/-- len -/
def rLen (K : PySem.W.Frag) : List V → Hp → VK → Prop := fun xs H Q => ∃ x n, xs = [x] ∧ LenV K x H n ∧ Q (.int n) H
theorem call_lenG : CallR X (.builtin "len") (rLen X.K) := call_len
theorem i_lenS {p : Addr} {xs : List V} (h : SqL K H p xs) (k : Q (.int xs.length) H) : rLen K [.ref p] H Q := ⟨_, _, rfl, .inl ⟨xs, h, rfl⟩, k⟩
theorem i_lenL {p : Addr} {xs : List V} (h : H p = some (.lst xs)) (k : Q (.int xs.length) H) : rLen K [.ref p] H Q := ⟨_, _, rfl, .inl ⟨xs, SqL.of h, rfl⟩, k⟩
theorem i_lenT {p : Addr} {xs : List V} (h : H p = some (.tup xs)) (k : Q (.int xs.length) H) : rLen K [.ref p] H Q := ⟨_, _, rfl, .inr ⟨xs, SqT.of h, rfl⟩, k⟩
/-- max, min of two ints -/
def rMax2 : List V → Hp → VK → Prop := fun xs H Q => ∃ i j, xs = [.int i, .int j] ∧ Q (.int (if j > i then j else i)) H
def rMin2 : List V → Hp → VK → Prop := fun xs H Q => ∃ i j, xs = [.int i, .int j] ∧ Q (.int (if j < i then j else i)) H
theorem call_maxG (hc : X.calm = true) : CallR X (.builtin "max") rMax2 := call_max2 hc
theorem call_minG (hc : X.calm = true) : CallR X (.builtin "min") rMin2 := call_min2 hc
theorem i_max {i j : Int} (h : Q (.int (max i j)) H) : rMax2 [.int i, .int j] H Q := by
  refine ⟨i, j, rfl, ?_⟩
  have e : (if j > i then j else i) = max i j := by split <;> omega
  rw [e]; exact h
theorem i_min {i j : Int} (h : Q (.int (min i j)) H) : rMin2 [.int i, .int j] H Q := by
  refine ⟨i, j, rfl, ?_⟩
  have e : (if j < i then j else i) = min i j := by split <;> omega
  rw [e]; exact h
/-- list(), tuple() -/
def rListOf (K : PySem.W.Frag) : List V → Hp → VK → Prop := fun xs H Q => ∃ p ys, xs = [.ref p] ∧ (SqL K H p ys ∨ SqT K H p ys) ∧ ∀ l, H l = none → Q (.ref l) (upd H l (.lst ys))
theorem call_listG : CallR X (.type "list") (rListOf X.K) := call_list_of
def rTupOf (K : PySem.W.Frag) : List V → Hp → VK → Prop := fun xs H Q => ∃ p ys, xs = [.ref p] ∧ ((SqL K H p ys ∧ ∀ l, H l = none → Q (.ref l) (upd H l (.tup ys))) ∨ (SqT K H p ys ∧ Q (.ref p) H))
theorem call_tupleG : CallR X (.type "tuple") (rTupOf X.K) := call_tuple_of
theorem i_tupL {p : Addr} {ys : List V} (h : H p = some (.lst ys)) (k : ∀ l, H l = none → Q (.ref l) (upd H l (.tup ys))) : rTupOf K [.ref p] H Q := ⟨p, ys, rfl, .inl ⟨SqL.of h, k⟩⟩
/-- index -/
theorem i_ixS {p : Addr} {xs : List V} {j : Nat} {v : V} (h : SqL K H p xs) (e : xs[j]? = some v) (k : Q v H) : rIx K (.ref p) (.int (j : Int)) H Q := .inl ⟨p, xs, j, v, rfl, rfl, h, atI_nat e, k⟩
theorem i_ixL {p : Addr} {xs : List V} {j : Nat} {v : V} (h : H p = some (.lst xs)) (e : xs[j]? = some v) (k : Q v H) : rIx K (.ref p) (.int (j : Int)) H Q := .inl ⟨p, xs, j, v, rfl, rfl, SqL.of h, atI_nat e, k⟩
theorem i_ixT {p : Addr} {xs : List V} {i : Int} {v : V} (h : H p = some (.tup xs)) (e : atI xs i = some v) (k : Q v H) : rIx K (.ref p) (.int i) H Q := .inr (.inl ⟨p, xs, i, v, rfl, rfl, SqT.of h, e, k⟩)
/-- a times b -/
def rMulG : R2 := rI CMul fun i j => V.int (i * j)
theorem op_mulG : OpR X (binaryOp .Mult) rMulG := op_mul
theorem i_mulI {i j : Int} (c : CMul i j) (h : Q (.int (i * j)) H) : rMulG (.int i) (.int j) H Q := ⟨i, j, rfl, rfl, c, h⟩
end
theorem small {n : Nat} (h : n ≤ 1000000) : n ≤ sizeLine := Nat.le_trans h (by decide)
theorem smallL {n : Nat} (h : n < 1000000) : n < sizeLine := Nat.lt_of_lt_of_le h (by decide)
theorem nd_ne {l : List Addr} (h : l.Nodup) {i j : Nat} {a b : Addr} (ha : l[i]? = some a) (hb : l[j]? = some b) (hij : i ≠ j) : a ≠ b := by
  intro e
  subst e
  obtain ⟨h1, e1⟩ := List.getElem?_eq_some_iff.mp ha
  obtain ⟨h2, e2⟩ := List.getElem?_eq_some_iff.mp hb
  exact hij ((List.getElem_inj h).mp (e1.trans e2.symm))
theorem kit_self (K : PySem.W.Frag) (n : String) : PySem.W.kitOne K (.type n) (.type n) = some true := by
  unfold PySem.W.kitOne
  rw [if_pos (by simp)]
theorem same_new {H : Hp} {p : Addr} (h : H p = none) (o : HO) : Same H (upd H p o) := fun b u q => by rw [upd_ne (ne_of_none q h)]; exact q
theorem same_new2 {H : Hp} {p q : Addr} (hp : H p = none) (hq : H q = none) (o u : HO) : Same H (upd (upd H q u) p o) := fun b v e => by rw [upd_ne (ne_of_none e hp), upd_ne (ne_of_none e hq)]; exact e
theorem kit_prim {K : PySem.W.Frag} {t c : String} {b : Bool} (h1 : t ≠ c) (h2 : PySem.W.kitMeta c = true) (h3 : (PySem.fastBuiltinMro t).map (·.contains (Value.type c)) = some b) : PySem.W.kitOne K (.type t) (.type c) = some b := by
  unfold PySem.W.kitOne
  rw [if_neg (by simp [h1])]
  unfold PySem.W.kitCls
  dsimp only
  rw [if_pos h2]
  exact h3
theorem kit_own {K : PySem.W.Frag} {t : Value} {D : Addr} {b : Bool} (hne : t ≠ .ref D) (h1 : PySem.W.isClsIn K D = true) (h2 : PySem.W.typeIn K (.ref D) = some (.type "type")) (h3 : PySem.W.subIn K t (.ref D) = some b) : PySem.W.kitOne K t (.ref D) = some b := by
  unfold PySem.W.kitOne
  rw [if_neg (by simp [hne])]
  unfold PySem.W.kitCls
  dsimp only
  unfold PySem.W.isClsIn at h1
  rw [if_pos (by rw [h1, h2]; rfl)]
  exact h3
theorem kit_selfR (K : PySem.W.Frag) (D : Addr) : PySem.W.kitOne K (.ref D) (.ref D) = some true := by
  unfold PySem.W.kitOne
  rw [if_pos (by simp)]
theorem kit_int_bool (K : PySem.W.Frag) : PySem.W.kitOne K (.type "int") (.type "bool") = some false := kit_prim (by decide) (by decide +kernel) (by decide +kernel)
/-- the built-in names that the text does not bind -/
structure Bt (mg : Str → Option Value) : Prop where
  len : mg "len" = none
  range : mg "range" = none
  isinstance : mg "isinstance" = none
  int : mg "int" = none
  bool : mg "bool" = none
  str : mg "str" = none
  list : mg "list" = none
  tuple : mg "tuple" = none
  dict : mg "dict" = none
  set : mg "set" = none
  sorted : mg "sorted" = none
  max : mg "max" = none
  min : mg "min" = none
  sum : mg "sum" = none
  any : mg "any" = none
  all : mg "all" = none
  abs : mg "abs" = none
  reversed : mg "reversed" = none
  enumerate : mg "enumerate" = none
  zip : mg "zip" = none
/-- all but lists stay: what FmAt and its like lean on -/
def Ext (H H' : Hp) : Prop := ∀ b o, H b = some o → (∀ xs, o ≠ .lst xs) → H' b = some o
theorem Ext.of {H H' : Hp} (a : Same H H') : Ext H H' := fun b o h _ => a b o h
section
variable {K : PySem.W.Frag} {H : Hp} {Q : VK}
theorem j_lst {xs : List V} (z : xs.length ≤ 1000000) (h : ∀ (p : Addr) (H' : Hp), Same H H' → H p = none → H' p = some (.lst xs) → Q (.ref p) H') : NewL xs H Q :=
  ⟨small z, fun p hp => h p _ (same_new hp _) hp upd_same⟩
theorem j_tup {xs : List V} (z : xs.length ≤ 1000000) (h : ∀ (p : Addr) (H' : Hp), Same H H' → H p = none → H' p = some (.tup xs) → Q (.ref p) H') : NewT xs H Q :=
  ⟨small z, fun p hp => h p _ (same_new hp _) hp upd_same⟩
theorem j_list {p : Addr} {ys : List V} (h : SqL K H p ys ∨ SqT K H p ys) (k : ∀ (l : Addr) (H' : Hp), Same H H' → H l = none → H' l = some (.lst ys) → Q (.ref l) H') : rListOf K [.ref p] H Q :=
  ⟨p, ys, rfl, h, fun l hl => k l _ (same_new hl _) hl upd_same⟩
/-- all but the list at l stays -/
def But (l : Addr) (H H' : Hp) : Prop := ∀ b o, b ≠ l → H b = some o → H' b = some o
theorem But.same {l : Addr} {H0 H H' : Hp} (s : But l H H') (h0 : H0 l = none) (s0 : Same H0 H) : Same H0 H' := fun b o e => s b o (ne_of_none e h0) (s0 b o e)
theorem but_upd {l : Addr} {H : Hp} {o : HO} : But l H (upd H l o) := fun b u n e => by rw [upd_ne n]; exact e
end
theorem i_gsub {to ti : TE} {t : TSet} {v : V} {σ : St} {H : Hp} {R : St → Hp → Prop} (h : to σ H fun o H1 => ti σ H1 fun i H2 => t o i v H2 fun H3 => R σ H3) : gSub to ti t v σ H R := h
theorem ixN_nat {n j : Nat} (h : j < n) : ixN n (j : Int) = some j := by
  unfold ixN
  rw [if_pos (by omega), if_pos (by omega)]; simp
theorem j_set {H : Hp} {p : Addr} {xs : List V} {j : Nat} {v : V} {R : Hp → Prop} (h : H p = some (.lst xs)) (hj : j < xs.length) (k : ∀ H' : Hp, But p H H' → H' p = some (.lst (xs.set j v)) → R H') : rSetL (.ref p) (.int (j : Int)) v H R :=
  ⟨p, xs, j, j, rfl, rfl, h, ixN_nat hj, k _ but_upd upd_same⟩
end L2

set_option maxRecDepth 100000
set_option maxHeartbeats 4000000
namespace L2
open PySem PySem.Spec PyProof.Rows
def cxComp (X : Cx) (x : Str) (ns : List Str) (scope : Scope) (cl : List (Str × Addr)) (s : Shared) (H : Hp) (ex : List Addr) : Cx where
  prog := X.prog
  w := X.w
  K := X.K
  mg := X.mg
  base := X.base
  A := X.A
  N := x :: ns
  s₀ := s
  H₀ := H
  env := compEnvC scope cl s.heap.objs.size X.env
  outer := X.stack
  stack := X.stack
  ex := ex
  fn := fun _ => false
  calm := X.calm
  pn := []
  xe := fun _ _ => False
/-- the slots that the block takes from around -/
def subS (σ : St) (ix : List Nat) : St := ix.map fun k => (σ[k]?).join
/-- the block's names: its own one, x; those it takes from around, ns, at the places ix of the frame around -/
def CompOk (sc : Scope) (N : List Str) (x : Str) (ns : List Str) (ix : List Nat) (scope : Scope) : Prop :=
  scope.kind = .function ∧ (∀ y ∈ scope.names, y.2 ≠ .cell ∧ (y.2 = .local → scope.names.lookup y.1 = some .local) ∧ (y.2 = .free → sc.names.lookup y.1 = some .cell ∨ sc.names.lookup y.1 = some .free)) ∧
  scope.names.lookup x = some .local ∧ (∀ y ∈ ns, scope.names.lookup y = some .free) ∧ (ix.map fun k => N[k]?) = ns.map some ∧ (x :: ns).Nodup
instance (sc : Scope) (N : List Str) (x : Str) (ns : List Str) (ix : List Nat) (scope : Scope) : Decidable (CompOk sc N x ns ix scope) := by unfold CompOk; infer_instance
/-- what the walk of the block is to show, the iterator J in hand -/
def CompG (J : It) (ix : List Nat) (tc : TT) (te : TE) (σ : St) (Q : VK) (H1 : Hp) : Prop := ∀ acc, H1 acc = none → ∃ W : Nat → Nat → List V → Hp → Prop, (∃ m, W 0 m [] (upd H1 acc (.lst []))) ∧
  ∀ i m ys H, W i m ys H → (J.stop i H ∧ Q (.ref acc) H) ∨ (J.go i H ∧ ∀ x H', J.yld i H x H' → tc (some x :: subS σ ix) H' fun b H2 =>
    if b = true then te (some x :: subS σ ix) H2 fun y H3 => H3 acc = some (.lst ys) ∧ ys.length < sizeLine ∧ ∃ m', m' < m ∧ W (i + 1) m' (ys ++ [y]) (upd H3 acc (.lst (ys ++ [y]))) else ∃ m', m' < m ∧ W (i + 1) m' ys H2)
def tComp (wi : TI) (ix : List Nat) (tc : TT) (te : TE) : TE := fun σ H Q => wi σ H fun J H1 => CompG J ix tc te σ Q H1
theorem lookup_mem {α β : Type} [BEq α] [LawfulBEq α] : ∀ {l : List (α × β)} {a : α} {b : β}, l.lookup a = some b → (a, b) ∈ l
  | [], _, _, h => by simp at h
  | (k, v) :: r, a, b, h => by
    rw [List.lookup_cons] at h
    cases e : a == k with
    | true =>
      rw [e] at h
      have : a = k := by simpa using e
      subst this
      cases h
      exact List.mem_cons_self
    | false =>
      rw [e] at h
      exact List.mem_cons_of_mem _ (lookup_mem h)
theorem closure_go {env : Env} : ∀ (names : List (Str × NameKind)) (acc : List (Str × Addr)), (∀ y ∈ names, y.2 = .free → ∃ c, env.cells.lookup y.1 = some c) → (∀ y c, acc.lookup y = some c → env.cells.lookup y = some c) →
    ∃ cl, (forIn names acc fun x r => match x with | (name, kind) => if (kind == NameKind.free) = true then (do let a ← cellOf env name; pure (ForInStep.yield ((name, a) :: r))) else pure (ForInStep.yield r) : Sem (List (Str × Addr))) = pure cl ∧
      (∀ y c, cl.lookup y = some c → env.cells.lookup y = some c) ∧ (∀ y, (∃ c, acc.lookup y = some c) → ∃ c, cl.lookup y = some c) ∧ ∀ y ∈ names, y.2 = .free → ∃ c, cl.lookup y.1 = some c
  | [], acc, _, ha => ⟨acc, rfl, ha, fun _ h => h, fun _ h => nomatch h⟩
  | (name, kind) :: r, acc, hn, ha => by
    cases hk : kind == NameKind.free with
    | false =>
      obtain ⟨cl, e, h1, h2, h3⟩ := closure_go r acc (fun y hy => hn y (List.mem_cons_of_mem _ hy)) ha
      refine ⟨cl, ?_, h1, h2, fun y hy hf => ?_⟩
      · rw [List.forIn_cons]
        simp only [hk, Bool.false_eq_true, if_false]
        exact e
      · rcases List.mem_cons.mp hy with rfl | hy
        · have : kind = .free := hf
          subst this
          simp at hk
        · exact h3 y hy hf
    | true =>
      have hkf : kind = .free := by simpa using hk
      obtain ⟨c, hc⟩ := hn (name, kind) List.mem_cons_self hkf
      have hc : env.cells.lookup name = some c := hc
      obtain ⟨cl, e, h1, h2, h3⟩ := closure_go r ((name, c) :: acc) (fun y hy => hn y (List.mem_cons_of_mem _ hy)) (fun y c' hy => by
        rw [List.lookup_cons] at hy
        cases e : y == name with
        | true =>
          rw [e] at hy
          have : y = name := by simpa using e
          subst this
          cases hy
          exact hc
        | false =>
          rw [e] at hy
          exact ha y c' hy)
      refine ⟨cl, ?_, h1, fun y hy => h2 y ?_, fun y hy hf => ?_⟩
      · rw [List.forIn_cons]
        simp only [hk, if_true]
        have : cellOf env name = pure c := by unfold cellOf; rw [hc]
        rw [this]
        exact e
      · obtain ⟨c', hc'⟩ := hy
        rw [List.lookup_cons]
        cases y == name
        · exact ⟨c', hc'⟩
        · exact ⟨c, rfl⟩
      · rcases List.mem_cons.mp hy with rfl | hy
        · exact h2 _ ⟨c, by rw [List.lookup_cons]; simp⟩
        · exact h3 y hy hf
theorem closure_ok {env : Env} (scope : Scope) (h : ∀ y ∈ scope.names, y.2 = .free → ∃ c, env.cells.lookup y.1 = some c) :
    ∃ cl, closureFor scope env = pure cl ∧ (∀ y c, cl.lookup y = some c → env.cells.lookup y = some c) ∧ ∀ y ∈ scope.names, y.2 = .free → ∃ c, cl.lookup y.1 = some c := by
  obtain ⟨cl, e, h1, _, h3⟩ := closure_go (env := env) scope.names [] h (fun _ _ z => by simp at z)
  refine ⟨cl, ?_, h1, h3⟩
  show ((forIn scope.names [] fun x r => match x with | (name, kind) => if (kind == NameKind.free) = true then (do let a ← cellOf env name; pure (ForInStep.yield ((name, a) :: r))) else pure (ForInStep.yield r) : Sem (List (Str × Addr))) >>= fun s => pure s) = pure cl
  rw [e]
  rfl
/-- a name's kind within the block -/
theorem relabel_kind {env : Env} : ∀ (names : List (Str × NameKind)) (y : Str), (names.map fun (n, k) => if (k == NameKind.free && env.scope.kind == .function && env.kindOf n == some .cell) then (n, NameKind.cell) else (n, k)).lookup y =
    (names.lookup y).map fun k => if (k == NameKind.free && env.scope.kind == .function && env.kindOf y == some .cell) = true then NameKind.cell else k
  | [], y => by simp
  | (n, k) :: r, y => by
    have ih := relabel_kind (env := env) r y
    rw [List.map_cons, List.lookup_cons]
    cases e : y == n with
    | true =>
      have ey : y = n := by simpa using e
      subst ey
      by_cases hc : (k == NameKind.free && env.scope.kind == .function && env.kindOf y == some .cell) = true
      · simp only [hc, if_true, List.lookup_cons, beq_self_eq_true, Option.map_some]
      · simp only [hc, if_false, List.lookup_cons, beq_self_eq_true, Option.map_some, Bool.false_eq_true]
    | false =>
      by_cases hc : (k == NameKind.free && env.scope.kind == .function && env.kindOf n == some .cell) = true
      · simp only [hc, if_true, List.lookup_cons, e]; exact ih
      · simp only [hc, if_false, List.lookup_cons, e, Bool.false_eq_true]; exact ih
section
variable {X : Cx} {pins : List (Addr × Obj)} {σ : St} {H : Hp} {s : Shared} {cl : List (Str × Addr)} {x : Str} {ns : List Str} {ix : List Nat} {sc scope : Scope} {N : List Str} {fp : List Addr}
theorem fp_comp (I : Inv X pins σ H s) (f : ∀ b ∈ fp, FpOk X pins H b) (hlt : ∀ b ∈ fp, b < s.heap.objs.size) (hcl : ∀ y c, cl.lookup y = some c → X.env.cells.lookup y = some c) {H' : Hp} (hn : ∀ b ∈ fp, H' b = none) : ∀ b ∈ fp, FpOk (cxComp X x ns scope cl s H fp) [] H' b := fun b hb => by
  obtain ⟨f0, f1, f2, f3, f4, f5⟩ := f b hb
  refine ⟨hn b hb, Nat.ne_of_lt (hlt b hb), fun z => ?_, .inl hb, fun y c e => f4 y c (hcl y c e), fun p hp => ?_⟩
  · rcases List.mem_cons.mp (I.stkSub b z) with z | z
    · exact f1 z
    · exact f2 z
  · exact absurd (show p ∈ ([] : List (Addr × Obj)) from hp) (by simp)
theorem inv_comp {h1 : Heap} {m : Str → Option Value} {t' : Nat} (I : Inv X pins σ H s) (hsc : X.env.scope = sc) (hN : X.N = N) (C : CompOk sc N x ns ix scope) (hcl : ∀ y c, cl.lookup y = some c → X.env.cells.lookup y = some c)
    (hcla : ∀ y ∈ scope.names, y.2 = .free → ∃ c, cl.lookup y.1 = some c) (f : ∀ b ∈ fp, FpOk X pins H b) (hlt : ∀ b ∈ fp, b < s.heap.objs.size) (hn : h1.Ns s.heap.objs.size m) (hk : ∀ b o, s.heap.get? b = some o → h1.get? b = some o) :
    Inv (cxComp X x ns scope cl s H fp) [] (none :: subS σ ix) H { s with heap := h1, toks := t' } := by
  obtain ⟨c1, c2, c3, c4, c5, c6⟩ := C
  have kind : ∀ y, (relabel scope X.env).names.lookup y = (scope.names.lookup y).map fun k => if (k == NameKind.free && X.env.scope.kind == .function && X.env.kindOf y == some .cell) = true then NameKind.cell else k := fun y => relabel_kind scope.names y
  have fr : ∀ y, ((relabel scope X.env).names.lookup y = some .cell ∨ (relabel scope X.env).names.lookup y = some .free) → scope.names.lookup y = some .free := fun y h => by
    rw [kind y] at h
    cases e : scope.names.lookup y with
    | none => rw [e] at h; simp at h
    | some k =>
      rw [e] at h
      have hm := lookup_mem e
      cases k with
      | free => rfl
      | cell => exact absurd rfl (c2 _ hm).1
      | «local» => simp at h
      | globalExplicit => simp at h
      | globalImplicit => simp at h
  have fr' : ∀ y, scope.names.lookup y = some .free → (relabel scope X.env).names.lookup y = some .cell ∨ (relabel scope X.env).names.lookup y = some .free := fun y h => by
    rw [kind y, h]
    by_cases hc : (NameKind.free == NameKind.free && X.env.scope.kind == .function && X.env.kindOf y == some .cell) = true
    · left; rw [Option.map_some, if_pos hc]
    · right; rw [Option.map_some, if_neg hc]
  have noC : ∀ p : Addr × Obj, p ∉ (cxComp X x ns scope cl s H fp).pn ++ [] := fun p hp => absurd (show p ∈ ([] : List (Addr × Obj)) from hp) (by simp)
  have lenE : ix.length = ns.length := by
    have := congrArg List.length c5
    rwa [List.length_map, List.length_map] at this
  refine ⟨⟨I.ok.mod, c1, I.ok.glob, I.ok.blt, Nat.le_refl _, fun y z c h1 h2 => I.ok.inj y z c (hcl y c h1) (hcl z c h2), fun y hy => ?_, fun y c hy => absurd hy (by simp [cxComp]), I.ok.hd, I.ok.frames, .inl rfl, fun b hb => ?_, I.bs,
    Nat.le_trans I.ok.bsz I.sz, fun b o e hb => ?_, fun b hb => ?_, I.stack, I.stkFree⟩, rfl, I.bare, Un.kept hk, ⟨m, hn, fun i y v e1 e2 e3 => ?_⟩, fun y c e => ?_, I.hok.fresh (Nat.le_refl _), fun y c e => I.freeC y c (hcl y c e), fun p hp => absurd hp (noC p), I.hok.kept hk, ?_⟩
  · exact hcla _ (lookup_mem (fr y hy)) rfl
  · obtain ⟨f0, f1, f2, f3, f4, f5⟩ := f b hb
    exact ⟨Nat.ne_of_lt (hlt b hb), fun y c e => f4 y c (hcl y c e)⟩
  · obtain ⟨f0, f1, f2, f3, f4, f5⟩ := f b hb
    rcases f3 with z | z
    · exact I.ok.noex b o e z
    · exact absurd (Nat.lt_of_lt_of_le (Heap.lt_size (I.ok.bs b o e).1) z) (Nat.lt_irrefl _)
  · obtain ⟨f0, f1, f2, f3, f4, f5⟩ := f b hb
    intro z
    rcases List.mem_cons.mp (I.stkSub b z) with z | z
    · exact f1 z
    · exact f2 z
  · cases i with
    | zero => cases e2
    | succ j =>
      have e1' : ns[j]? = some y := e1
      have e2' : (ix.map fun k => (σ[k]?).join)[j]? = some (some v) := e2
      have e5 := congrArg (fun l => l[j]?) c5
      simp only [List.getElem?_map, e1', Option.map_some] at e5 e2'
      cases ek : ix[j]? with
      | none => rw [ek] at e5; cases e5
      | some k =>
        rw [ek] at e5 e2'
        have eN : N[k]? = some y := by simpa using e5
        have eσ : (σ[k]?).join = some v := by simpa using e2'
        have eσ' : σ[k]? = some (some v) := by
          cases q : σ[k]? with
          | none => rw [q] at eσ; cases eσ
          | some w => rw [q] at eσ; have : w = some v := eσ; rw [this]
        have hy := c4 y (List.mem_of_getElem? e1')
        have hk' := (c2 _ (lookup_mem hy)).2.2 rfl
        rw [← hsc] at hk'
        obtain ⟨m0, hn0, hl⟩ := I.loc
        obtain ⟨u, r, l⟩ := hl k y v (by rw [hN]; exact eN) eσ' (.inr hk')
        refine ⟨u, r, ?_⟩
        rcases l with ⟨kl, _⟩ | ⟨_, c, ec, z⟩
        · exfalso
          have kl : X.env.scope.names.lookup y = some .local := kl
          rw [kl] at hk'
          rcases hk' with z | z <;> cases z
        · obtain ⟨c', ec'⟩ := hcla _ (lookup_mem hy) rfl
          have ee : c' = c := by
            have := hcl y c' ec'
            rw [ec] at this
            exact (Option.some.inj this).symm
          subst ee
          obtain ⟨o, ho, hd⟩ := z
          exact .inr ⟨fr' y hy, c', ec', ⟨o, hk _ _ ho, hd⟩⟩
  · obtain ⟨v, o, ho, hd⟩ := I.cell y c (hcl y c e)
    exact ⟨v, o, hk _ _ ho, hd⟩
  · show (none :: subS σ ix).length = (x :: ns).length
    rw [List.length_cons, List.length_cons]
    unfold subS
    rw [List.length_map, lenE]
end
theorem wp_of_pure {α β : Type} {M : Model} {A : Around} {a : α} {P : α → Shared → Prop} {E E' : Value → Shared → Prop} {s s' : Shared} {t : Sem β} {Q : β → Shared → Prop} (h : wpAny M A (pure a) P E s) (k : P a s → wpAny M A t Q E' s') : wpAny M A t Q E' s' :=
  fun Γ p hi => k (h Γ p hi) Γ p hi
/-- the tests of a comprehension -/
def PTs (X : Cx) (ifs : List Expr) (t : TT) : Prop :=
  ∀ (pins : List (Addr × Obj)) (s : Shared) (σ : St) (H : Hp) (Q : Bool → Hp → Prop), Inv X pins σ H s → t σ H Q →
    wpAny (model X.prog X.w) X.A (forIn ifs true fun c r => if r = true then do let ok ← isTrue c X.env (eval c X.env); pure (ForInStep.yield ok) else pure (ForInStep.yield r)) (TP X pins σ Q) X.xe s
def tNoIf : TT := fun _ H Q => Q true H
theorem pts_nil {X : Cx} : PTs X [] tNoIf := fun _ _ _ H _ I h => wpAny_tests_nil ⟨H, I, h⟩
theorem pts_one {X : Cx} {c : Expr} {t : TT} (h : PT X c t) : PTs X [c] t := fun pins s σ H Q I q => wpAny_tests_one (h pins s σ H Q I q)
section
variable {X : Cx} {pins : List (Addr × Obj)} {σ : St} {H : Hp} {s : Shared} {cl : List (Str × Addr)} {x : Str} {ns : List Str} {ix : List Nat} {sc scope : Scope} {N : List Str} {fp : List Addr} {elt iter : Expr} {px pos : Pos} {ifs : List Expr} {tc : TT} {te : TE} {wi : TI}
theorem comp_run {E : Value → Shared → Prop} {J : It} {it : Addr} {tn : Nat → Heap → Prop} {Q : VK} {RR : Value → Addr → Result → Shared → Prop} (hsc : X.env.scope = sc) (hN : X.N = N) (C : CompOk sc N x ns ix scope) (hc : X.calm = true)
    (ht : ∀ cl s H ex, PTs (cxComp X x ns scope cl s H ex) ifs tc) (he : ∀ cl s H ex, PE (cxComp X x ns scope cl s H ex) elt te) (I : Inv X pins σ H s) (hcl : ∀ y c, cl.lookup y = some c → X.env.cells.lookup y = some c)
    (hcla : ∀ y ∈ scope.names, y.2 = .free → ∃ c, cl.lookup y.1 = some c) (T : Turn X.prog X.w X.K (.Name x px) J fp it tn) (st : tn 0 s.heap) (f : ∀ b ∈ fp, FpOk X pins H b) (h : CompG J ix tc te σ Q H)
    (fin : ∀ D C m s' H', Inv X pins σ H' s' → s'.heap.Ns C m → FpOk X pins H' C → Q (.ref D) H' → RR (.ref D) C (.ok .next) s') :
    wpAny (model X.prog X.w) X.A (newList []) (fun ja s3 => wpAny (model X.prog X.w) X.A (newFunctionEnv scope X.env.globals cl [] X.env.qual none .none (some X.env)) (fun ce s4 =>
      codeAny (model X.prog X.w) X.A (.compStart (.ListComp elt [⟨.Name x px, iter, ifs, 0⟩] scope pos) 0 (.ref it) ja { ce with scope := relabel scope X.env }) (RR ja ce.locals) s4) E s3) E s := by
  have hC := C
  obtain ⟨c1, c2, c3, c4, c5, c6⟩ := C
  have hfr : H s.heap.objs.size = none := I.hok.fresh (Nat.le_refl _)
  obtain ⟨W, ⟨m0, w0⟩, turn⟩ := h _ hfr
  refine wpAny_newObj_type (wpAny_newFunctionEnv (fun y hy => (c2 y hy).1) (by intro y hy; simp at hy) (fun h1 hn1 hs1 => ?_) c1)
  have I3 := I.lnew (its := []) (ys := []) (t' := s.toks) .nil (Nat.zero_le _)
  have hlt0 : ∀ b ∈ fp, b < s.heap.objs.size := fun b hb => by
    obtain ⟨o, ho, _⟩ := T.obj _ _ st b hb
    exact Heap.lt_size ho
  generalize hs3 : ({ s with heap := s.heap.push { cls := .type "list", data := .seq ([] : List Value).toArray }, toks := s.toks } : Shared) = s3 at I3
  have e3 : s3.heap = s.heap.push { cls := .type "list", data := .seq ([] : List Value).toArray } := by rw [← hs3]
  have sz3 : s3.heap.objs.size = s.heap.objs.size + 1 := by rw [e3, Heap.size_push]
  have f3 : ∀ b ∈ fp, FpOk X pins (upd H s.heap.objs.size (.lst [])) b := fun b hb => ⟨by rw [upd_ne (Nat.ne_of_lt (hlt0 b hb))]; exact (f b hb).1, (f b hb).2⟩
  have hlt : ∀ b ∈ fp, b < s3.heap.objs.size := fun b hb => by rw [sz3]; exact Nat.lt_succ_of_lt (hlt0 b hb)
  have hk : ∀ b o, s3.heap.get? b = some o → h1.get? b = some o := fun b o e => by
    refine (hs1.2 b ?_).trans (Heap.get?_push_of_some _ ?_)
    · have := Heap.lt_size e
      rw [sz3] at this
      show b ≠ (s.heap.push _).objs.size
      rw [Heap.size_push]
      exact Nat.ne_of_lt this
    · rw [e3] at e; exact e
  have hn3 : h1.Ns s3.heap.objs.size (fun y => ([] : List (Str × Value)).reverse.lookup y) := by rw [e3]; exact hn1
  have I4 := inv_comp (t' := s3.toks + ([] : List (Str × Value)).length) I3 hsc hN hC hcl hcla f3 hlt hn3 hk
  have st4 : tn 0 h1 := T.keep _ _ _ st fun b hb o e => hk b o (by rw [e3]; exact Heap.get?_push_of_some _ e)
  have stat : ∀ {H' : Hp}, (∀ b ∈ fp, H' b = none) → ∀ b ∈ fp, FpOk (cxComp X x ns scope cl s3 (upd H s.heap.objs.size (.lst [])) fp) [] H' b := fun {H'} hn => fp_comp I3 f3 hlt hcl hn
  have loop : ∀ s4 : Shared, s4 = { s3 with heap := h1, toks := s3.toks + ([] : List (Str × Value)).length } →
      codeAny (model X.prog X.w) X.A (.compLoop (.ListComp elt [⟨.Name x px, iter, ifs, 0⟩] scope pos) 0 (.ref it) (.ref s.heap.objs.size) (compEnvC scope cl s3.heap.objs.size X.env)) (RR (.ref s.heap.objs.size) s3.heap.objs.size) s4 := by
    rintro s4 rfl
    refine codeAny_compLoop_tests (fun n s' => ∃ i v0 ys H', Inv (cxComp X x ns scope cl s3 (upd H s.heap.objs.size (.lst [])) fp) [] (v0 :: subS σ ix) H' s' ∧ tn i s'.heap ∧ (∀ b ∈ fp, H' b = none) ∧ W i n ys H') ?_ m0 ⟨0, none, [], _, I4, st4, fun b hb => (f3 b hb).1, w0⟩
    rintro n s5 ⟨i, v0, ys, H5, I5, st5, fr5, w5⟩
    rcases turn i n ys H5 w5 with ⟨stop, q⟩ | ⟨go, step⟩
    · refine wpAny_mono (T.done (cxComp X x ns scope cl s3 (upd H s.heap.objs.size (.lst [])) fp) rfl rfl rfl hc i [] s5 _ H5 _ I5 (stat fr5) st5 stop) (fun r s6 hr => ?_) fun _ _ e => e
      obtain ⟨hr, I6⟩ := hr
      subst hr
      obtain ⟨m6, hn6, _⟩ := id I6.loc
      refine fin _ _ m6 s6 H5 (I3.call' I6.os I6.base I6.hok I6.bare fun b hb => ?_) hn6 (I3.fpOk (Nat.le_refl _) I6.free) q
      obtain ⟨g0, g1, g2, g3, g4, g5⟩ := f3 b hb
      exact ⟨g3, g1, g4, g5⟩
    · refine wpAny_mono (T.item (cxComp X x ns scope cl s3 (upd H s.heap.objs.size (.lst [])) fp) rfl rfl rfl hc i [] s5 _ H5 _ I5 (stat fr5) st5 go) (fun r s6 hr => ?_) fun _ _ e => e
      obtain ⟨u, hr, h6⟩ := hr
      subst hr
      refine wp_of_pure (a := ()) h6 fun q6 => ?_
      obtain ⟨xv, H6, I6, r6, y6, st6, fr6⟩ := q6
      have I6' := I6.pinned (stat fr6) (T.obj _ _ st6)
      have again : ∀ {m' : Nat} {ys' : List V} {H7 : Hp} {s7 : Shared}, Inv (cxComp X x ns scope cl s3 (upd H s.heap.objs.size (.lst [])) fp) ([] ++ pinsAt fp s6.heap) (some xv :: subS σ ix) H7 s7 → W (i + 1) m' ys' H7 →
          ∃ i v0 ys H', Inv (cxComp X x ns scope cl s3 (upd H s.heap.objs.size (.lst [])) fp) [] (v0 :: subS σ ix) H' s7 ∧ tn i s7.heap ∧ (∀ b ∈ fp, H' b = none) ∧ W i m' ys H' := fun {m' ys' H7 s7} I7 w7 => by
        refine ⟨i + 1, some xv, ys', H7, I7.unpinned, T.keep _ _ _ st6 fun b hb o e => (I7.pin (b, o) (List.mem_append_right _ (List.mem_append_right _ (mem_pinsAt hb e)))).1, fun b hb => ?_, w7⟩
        obtain ⟨o, e, d⟩ := T.obj _ _ st6 b hb
        exact (I7.pin (b, o) (List.mem_append_right _ (List.mem_append_right _ (mem_pinsAt hb e)))).2.1
      have lx : (relabel scope X.env).names.lookup x = some .local := lookup_relabel_local c3
      refine wpAny_mono (pg_name (X := cxComp X x ns scope cl s3 (upd H s.heap.objs.size (.lst [])) fp) (i := 0) (x := x) (pos := px) c6 rfl (.inl lx) (.inr lx) _ s6 _ H6 xv u (fun σ' H' => σ' = some xv :: subS σ ix ∧ H' = H6) I6' r6 ⟨rfl, rfl⟩) (fun _ s7 h7 => ?_) fun _ _ e => e.elim
      obtain ⟨σ7, H7, I7, rfl, rfl⟩ := h7
      refine wpAny_mono (ht cl s3 _ fp _ s7 _ _ _ I7 (step xv _ y6)) (fun b s8 h8 => ?_) fun _ _ e => e.elim
      obtain ⟨H8, I8, q8⟩ := h8
      cases b with
      | false =>
        rw [if_neg Bool.false_ne_true] at q8 ⊢
        obtain ⟨m', hm, w8⟩ := q8
        exact ⟨m', hm, again I8 w8⟩
      | true =>
        rw [if_pos rfl] at q8 ⊢
        refine wpAny_mono (he cl s3 _ fp _ s8 _ _ _ I8 q8) (fun uy s9 h9 => ?_) fun _ _ e => e.elim
        obtain ⟨y, H9, I9, r9, hacc, hz, m', hm, w9⟩ := h9
        refine wpAny_mono (mt_append (X := cxComp X x ns scope cl s3 (upd H s.heap.objs.size (.lst [])) fp) _ s9 _ H9 (.ref s.heap.objs.size) [y] _ [uy] (fun v H' => H' = upd H9 s.heap.objs.size (.lst (ys ++ [y]))) I9 rfl (.cons r9 .nil) ⟨_, ys, y, rfl, rfl, hacc, hz, rfl⟩) (fun _ s10 h10 => ?_) fun _ _ e => e.elim
        obtain ⟨v, H10, I10, _, rfl⟩ := h10
        exact ⟨m', hm, again I10 w9⟩
  exact codeAny_compStart_list (loop _ rfl) (T.self _ 0 _ _ _ st4 (loop _ rfl))
theorem pe_comp (hsc : X.env.scope = sc) (hN : X.N = N) (C : CompOk sc N x ns ix scope) (hc : X.calm = true) (hi : PI X (.Name x px) iter wi) (ht : ∀ cl s H ex, PTs (cxComp X x ns scope cl s H ex) ifs tc) (he : ∀ cl s H ex, PE (cxComp X x ns scope cl s H ex) elt te)
    (hs : ∀ v, foldedSetIterable iter X.env v = pure v := by intro _; rfl) : PE X (.ListComp elt [⟨.Name x px, iter, ifs, 0⟩] scope pos) (tComp wi ix tc te) := by
  intro pins s σ H Q I h
  obtain ⟨cl, hclos, hcl, hcla⟩ := closure_ok (env := X.env) scope fun y hy hf => I.ok.has y.1 (by
    have := (C.2.1 y hy).2.2 hf
    rw [← hsc] at this
    exact this)
  rw [eval_ListComp]
  refine wpAny_comprehension_free (use := none) rfl hs hclos C.1 (fun y hy => (C.2.1 y hy).2.1) (thn (hi pins s σ H _ I h) fun v s1 h1 => thn h1 fun itv s2 h2 => ?_)
  obtain ⟨it, fp, tn, J, H2, rfl, I2, T, st2, f2, hg⟩ := h2
  refine comp_run (RR := fun ja C => compPost (model X.prog X.w) X.A X.xe none (EP X pins σ Q) ja C) hsc hN C hc ht he I2 hcl hcla T st2 f2 hg ?_
  intro D C' m s' H' I' hn' fC q
  obtain ⟨g0, g1, g2, g3, g4, g5⟩ := fC
  exact ⟨m, hn', fun h' hs' => ⟨.ref D, H', I'.turned (t' := s'.toks) (fun b o hb e => hs'.extBut b o hb e) g0 (Ne.symm (Ne.symm g1)) g3 g4 g5, rfl, q⟩⟩
/-- y = [..] where the name is no cell -/
theorem ps_comp {y : Str} {py spos : Pos} (i : Nat) (hNd : X.N.Nodup) (hsc : X.env.scope = sc) (hN : X.N = N) (C : CompOk sc N x ns ix scope) (hc : X.calm = true) (hi : PI X (.Name x px) iter wi) (ht : ∀ cl s H ex, PTs (cxComp X x ns scope cl s H ex) ifs tc) (he : ∀ cl s H ex, PE (cxComp X x ns scope cl s H ex) elt te)
    (hs : ∀ v, foldedSetIterable iter X.env v = pure v := by intro _; rfl) (hy : X.N[i]? = some y := by rfl) (hl : X.env.scope.names.lookup y = some .local := by rfl)
    (hsw : swapsWith (.ListComp elt [⟨.Name x px, iter, ifs, 0⟩] scope pos) (some (.Name y py)) spos.line X.env = pure true := by rfl) :
    PS X (.Assign [.Name y py] (.ListComp elt [⟨.Name x px, iter, ifs, 0⟩] scope pos) spos) (tAsg (tComp wi ix tc te) (gName i)) := by
  intro pins s σ H D I h
  obtain ⟨cl, hclos, hcl, hcla⟩ := closure_ok (env := X.env) scope fun y hy hf => I.ok.has y.1 (by
    have := (C.2.1 y hy).2.2 hf
    rw [← hsc] at this
    exact this)
  rw [exec_Assign_Name_used _ _ _ _ hsw]
  refine wpAny_bind (wpAny_standAt (wpAny_bind ?_))
  show wpAny _ X.A (do let _ ← comprehension (.ListComp elt [⟨.Name x px, iter, ifs, 0⟩] scope pos) scope X.env _ (newList []) false (eval iter X.env) (some (assign (.Name y py) X.env))) _ _ s
  refine wpAny_bind (wpAny_mono (wpAny_comprehension_free (use := some (assign (.Name y py) X.env)) (Q := fun _ s' => SP X pins D .next s') rfl hs hclos C.1 (fun y hy => (C.2.1 y hy).2.1)
    (thn (hi pins s σ H _ I h) fun v s1 h1 => thn h1 fun itv s2 h2 => ?_)) (fun _ s' hq => wpAny_pure (wpAny_pure hq)) fun _ _ e => e)
  obtain ⟨it, fp, tn, J, H2, rfl, I2, T, st2, f2, hg⟩ := h2
  refine comp_run (RR := fun ja C => compPost (model X.prog X.w) X.A X.xe (some (assign (.Name y py) X.env)) (fun _ s' => SP X pins D .next s') ja C) hsc hN C hc ht he I2 hcl hcla T st2 f2 hg ?_
  intro D' C' m s' H' I' hn' fC q
  obtain ⟨g0, g1, g2, g3, g4, g5⟩ := fC
  refine wpAny_assign_Name (store_ok2 I' hNd hy (.inl hl) (v := .ref D') rfl (fun s'' I'' hs'' => ?_) (.inr hl))
  obtain ⟨a, sb, ha⟩ := hs''
  have hne : C' ≠ a := by
    rcases ha with ha | ha
    · rw [ha]; exact g1
    · intro z; exact g4 y a ha z.symm
  exact ⟨m, hn'.sameBut sb hne, fun h' hs' => ⟨_, H', I''.turned (t' := s''.toks) (fun b o hb e => hs'.extBut b o hb e) g0 g1 g3 g4 g5, q⟩⟩
end
section
variable {wi : TI} {ix : List Nat} {tc : TT} {te : TE} {σ : St} {H : Hp} {Q : VK} {K : PySem.W.Frag}
theorem i_compR1 {ta : TA} (h : ta σ H fun vs H1 => ∃ j : Int, vs = [.int j] ∧ -(2 ^ 62) ≤ j ∧ j < 2 ^ 62 ∧ CompG (Itr 0 j.toNat) ix tc te σ Q H1) : tComp (iRng1 ta) ix tc te σ H Q := h
def CompS (K : PySem.W.Frag) (x : V) (ix : List Nat) (tc : TT) (te : TE) (σ : St) (Q : VK) (H1 : Hp) : Prop :=
  (∃ a xs, x = .ref a ∧ SqL K H1 a xs ∧ CompG (Itl K a) ix tc te σ Q H1) ∨ (∃ a xs, x = .ref a ∧ SqT K H1 a xs ∧ CompG (Itt K a) ix tc te σ Q H1) ∨ (∃ z, x = .str z ∧ CompG (Its z) ix tc te σ Q H1)
theorem i_compS {tl : TE} (h : tl σ H fun x H1 => CompS K x ix tc te σ Q H1) : tComp (iSeq K tl) ix tc te σ H Q := h
theorem i_noif {BQ : Bool → Hp → Prop} (h : BQ true H) : tNoIf σ H BQ := h
/-- J tells the values xs, one by one, as long as what was tracked at H1 stays -/
def Wk (J : It) (xs : List V) (H1 : Hp) : Prop := ∀ H', Same H1 H' → (∀ i, i < xs.length → J.go i H' ∧ ∀ x H2, J.yld i H' x H2 → H2 = H' ∧ xs[i]? = some x) ∧ J.stop xs.length H'
theorem wk_range (lo : Int) (n : Nat) (H : Hp) : Wk (Itr lo n) ((List.range n).map fun i : Nat => V.int (lo + (i : Int))) H := fun H' _ => by
  refine ⟨fun i hi => ?_, ?_⟩
  · rw [List.length_map, List.length_range] at hi
    refine ⟨hi, fun x H2 y => ?_⟩
    obtain ⟨e, y⟩ := y
    refine ⟨e, ?_⟩
    rw [List.getElem?_map, List.getElem?_range hi, y]
    rfl
  · rw [List.length_map, List.length_range]
    exact Nat.le_refl n
theorem wk_list {a : Addr} {xs : List V} (h : SqL K H a xs) : Wk (Itl K a) xs H := fun H' s => by
  have h' := s.seq h
  refine ⟨fun i hi => ⟨⟨xs, xs[i], h', by simp [hi]⟩, fun x H2 y => ?_⟩, ⟨xs, h', Nat.le_refl _⟩⟩
  obtain ⟨e, y⟩ := y
  exact ⟨e, y xs h'⟩
/-- the loop of a block whose turns leave what was tracked as it was: Pv says what the told list is -/
theorem comp_by {J : It} {xs : List V} (Pv : Nat → List V → Prop) (hw : Wk J xs H) (hz : xs.length ≤ 1000000) (h0 : Pv 0 [])
    (hs : ∀ (i : Nat) (x : V) (ys : List V) (acc : Addr) (H' : Hp), xs[i]? = some x → Same H H' → H acc = none → H' acc = some (.lst ys) → Pv i ys → ys.length ≤ i →
      ∀ R : Bool → Hp → Prop, (∀ b H2, Same H' H2 → (b = false → Pv (i + 1) ys) → (b = true → ∀ R2 : V → Hp → Prop, (∀ y H3, Same H2 H3 → Pv (i + 1) (ys ++ [y]) → R2 y H3) → te (some x :: subS σ ix) H2 R2) → R b H2) → tc (some x :: subS σ ix) H' R)
    (hd : ∀ (acc : Addr) (ys : List V) (H' : Hp), H acc = none → Same H H' → H' acc = some (.lst ys) → Pv xs.length ys → Q (.ref acc) H') : CompG J ix tc te σ Q H := by
  intro acc hacc
  have sU : ∀ {H2 : Hp} (o : HO), Same H H2 → Same H (upd H2 acc o) := fun o s b u e => by rw [upd_ne (ne_of_none e hacc)]; exact s b u e
  refine ⟨fun i m ys H' => m = xs.length - i ∧ i ≤ xs.length ∧ Same H H' ∧ H' acc = some (.lst ys) ∧ Pv i ys ∧ ys.length ≤ i, ⟨xs.length, by simp, Nat.zero_le _, same_new hacc _, upd_same, h0, Nat.le_refl _⟩, ?_⟩
  rintro i m ys H' ⟨rfl, hi, sm, ea, pv, hy⟩
  by_cases hlt : i < xs.length
  · obtain ⟨go, yl⟩ := (hw H' sm).1 i hlt
    refine .inr ⟨go, fun x H2 y => ?_⟩
    obtain ⟨rfl, hx⟩ := yl x H2 y
    refine hs i x ys acc _ hx sm hacc ea pv hy _ fun b H3 s3 pf pt => ?_
    cases b with
    | false =>
      rw [if_neg Bool.false_ne_true]
      exact ⟨xs.length - (i + 1), by omega, rfl, hlt, sm.trans s3, s3 _ _ ea, pf rfl, Nat.le_succ_of_le hy⟩
    | true =>
      rw [if_pos rfl]
      refine pt rfl _ fun y H4 s4 py => ⟨s4 _ _ (s3 _ _ ea), smallL (by omega), xs.length - (i + 1), by omega, rfl, hlt, sU _ (sm.trans (s3.trans s4)), upd_same, py, ?_⟩
      rw [List.length_append, List.length_singleton]
      omega
  · have e : i = xs.length := by omega
    subst e
    exact .inl ⟨(hw H' sm).2, hd acc ys H' hacc sm ea pv⟩
end
section
variable {X : Cx} {K : PySem.W.Frag} {a o : Expr} {ta : TE} {pos : Pos}
theorem ix_seqK (hK : X.K = K) : IxR X (rIx K) := by subst hK; exact ix_seq
theorem pt_truthK (hK : X.K = K) (ha : PE X a ta) (he : ∀ whole, isTrue a X.env whole = (do let v ← whole; standAt a.pos; holding [v] (truthy v))) : PT X a (fun σ H Q => ta σ H fun x H' => ∃ k, TruV K x H' k ∧ Q k H') := by subst hK; exact pt_truth ha he
end
end L2

namespace EM
theorem sub_and (x y : Nat) : x - (x &&& y) = (x &&& y) ^^^ x := by
  have h := or_split (x + 1) (x &&& y) x (by have := Nat.and_le_left (n := x) (m := y); omega)
  have e1 : (x &&& y) ||| x = x := by
    apply Nat.eq_of_testBit_eq; intro i; rw [Nat.testBit_or, Nat.testBit_and]; cases x.testBit i <;> simp
  have e2 : (x &&& y) &&& x = x &&& y := by
    apply Nat.eq_of_testBit_eq; intro i; rw [Nat.testBit_and, Nat.testBit_and]; cases x.testBit i <;> simp
  rw [e1, e2] at h
  omega
theorem testBit_sub_and (x y i : Nat) : (x - (x &&& y)).testBit i = (x.testBit i && !y.testBit i) := by
  rw [sub_and, Nat.testBit_xor, Nat.testBit_and]
  cases x.testBit i <;> cases y.testBit i <;> rfl
/-- a bar: the lamps asked for, those that must be lit -/
abbrev Bar := Nat × Nat
def Bar.good (b : Bar) : Prop := b.1 < 64 ∧ b.2 &&& b.1 = b.2
/-- the stand s lies in the bar -/
def lies (s : Nat) (b : Bar) : Bool := (List.range 6).all fun k => !(b.1.testBit k && (b.2.testBit k != s.testBit k))
theorem lies_iff {s : Nat} {b : Bar} : lies s b = true ↔ ∀ k, k < 6 → b.1.testBit k = true → b.2.testBit k = s.testBit k := by
  unfold lies
  rw [List.all_eq_true]
  constructor
  · intro h k hk hb
    have := h k (List.mem_range.mpr hk)
    rw [hb] at this
    simpa using this
  · intro h k hk
    cases hb : b.1.testBit k with
    | false => rfl
    | true =>
      have := h k (List.mem_range.mp hk) hb
      simp [this]
theorem lies_and {s : Nat} {b : Bar} (g : b.good) : decide (s &&& b.1 = b.2) = lies s b := by
  obtain ⟨g1, g2⟩ := g
  have hi : ∀ k, 6 ≤ k → b.1.testBit k = false := fun k hk => Nat.testBit_lt_two_pow (Nat.lt_of_lt_of_le g1 (Nat.pow_le_pow_right (by decide) hk : 2 ^ 6 ≤ 2 ^ k))
  have sub : ∀ k, b.2.testBit k = true → b.1.testBit k = true := fun k h => by
    rw [← g2, Nat.testBit_and] at h
    simp at h; exact h.2
  rw [Bool.eq_iff_iff, decide_eq_true_iff, lies_iff]
  constructor
  · intro h k _ hb
    rw [← h, Nat.testBit_and, hb, Bool.and_true]
  · intro h
    apply Nat.eq_of_testBit_eq
    intro k
    rw [Nat.testBit_and]
    cases hb : b.1.testBit k with
    | false =>
      rw [Bool.and_false]
      cases hl : b.2.testBit k with
      | false => rfl
      | true => rw [sub k hl] at hb; cases hb
    | true =>
      rw [Bool.and_true]
      have hk : k < 6 := by
        by_cases hk : k < 6
        · exact hk
        · rw [hi k (by omega)] at hb; cases hb
      exact (h k hk hb).symm
def crowdB (n : Nat) (b : Bar) : Nat := bits (fun s => lies s b) n
theorem testBit_hi {x m k : Nat} (h : x < 2 ^ m) (hk : m ≤ k) : x.testBit k = false := Nat.testBit_lt_two_pow (Nat.lt_of_lt_of_le h (Nat.pow_le_pow_right (by decide) hk))
theorem good_and {m a x : Nat} (hm : m ≤ 6) (ha : a < 2 ^ m) : Bar.good (a, a &&& x) := by
  have h6 : (2 : Nat) ^ m ≤ 64 := Nat.le_trans (Nat.pow_le_pow_right (by decide) hm) (by decide)
  refine ⟨(by show a < 64; omega), ?_⟩
  show (a &&& x) &&& a = a &&& x
  apply Nat.eq_of_testBit_eq
  intro k
  rw [Nat.testBit_and, Nat.testBit_and]
  cases a.testBit k <;> simp
theorem good_one {m s : Nat} (hm : m ≤ 6) (hs : s < 2 ^ m) : Bar.good (2 ^ m - 1, s) := by
  have h6 : (2 : Nat) ^ m ≤ 64 := Nat.le_trans (Nat.pow_le_pow_right (by decide) hm) (by decide)
  refine ⟨(by show 2 ^ m - 1 < 64; omega), ?_⟩
  show s &&& (2 ^ m - 1) = s
  rw [Nat.and_two_pow_sub_one_eq_mod, Nat.mod_eq_of_lt hs]
def clr (x k : Nat) : Nat := x - (x &&& 2 ^ k)
theorem testBit_clr (x k i : Nat) : (clr x k).testBit i = (x.testBit i && !decide (k = i)) := by
  unfold clr
  rw [testBit_sub_and, Nat.testBit_two_pow]
def Bar.wo (b : Bar) (k : Nat) : Bar := (clr b.1 k, clr b.2 k)
theorem filter_succ (p : Nat → Bool) (i : Nat) : (List.range (i + 1)).filter p = (List.range i).filter p ++ (if p i = true then [i] else []) := by
  rw [List.range_succ, List.filter_append, List.filter_cons, List.filter_nil]
theorem good_sub {b : Bar} (g : b.good) {k : Nat} (h : b.1.testBit k = false) : b.2.testBit k = false := by
  have := g.2
  cases e : b.2.testBit k with
  | false => rfl
  | true => rw [← this, Nat.testBit_and, h, Bool.and_false] at e; cases e
theorem good_hi {b : Bar} (g : b.good) {k : Nat} (h : b.1.testBit k = true) : k < 6 := by
  by_cases hk : k < 6
  · exact hk
  · rw [testBit_hi (m := 6) g.1 (by omega)] at h; cases h
end EM

set_option maxRecDepth 100000
set_option maxHeartbeats 4000000
namespace L2
open PySem PySem.Spec PyProof.Rows
mutual
def DV (H : Hp) : PyData → V → Prop
  | .none, v => v = .non
  | .bool b, v => v = .bl b
  | .int i, v => v = .int i
  | .str x, v => v = .str x
  | .list ds, v => ∃ p xs, v = .ref p ∧ H p = some (.lst xs) ∧ DVs H ds xs
  | .tuple ds, v => ∃ p xs, v = .ref p ∧ H p = some (.tup xs) ∧ DVs H ds xs
  | .dict _, _ => False
def DVs (H : Hp) : List PyData → List V → Prop
  | [], xs => xs = []
  | d :: ds, xs => ∃ v r, xs = v :: r ∧ DV H d v ∧ DVs H ds r
end
section
variable {X : Cx} {pins : List (Addr × Obj)} {σ : St} {H : Hp} {s : Shared}
mutual
theorem reads_of (I : Inv X pins σ H s) : ∀ (d : PyData) (v : V) (u : Value), DV H d v → RelV v u → ∃ as, Reads s.heap u d as
  | .none, v, u, h, r => by
    rw [DV] at h; subst h; cases r; exact ⟨_, .none⟩
  | .bool b, v, u, h, r => by
    rw [DV] at h; subst h; cases r; exact ⟨_, .bool b⟩
  | .int i, v, u, h, r => by
    rw [DV] at h; subst h; obtain ⟨t, rfl⟩ := r; exact ⟨_, .int i t⟩
  | .str x, v, u, h, r => by
    rw [DV] at h; subst h; obtain ⟨t, rfl⟩ := r; exact ⟨_, .str x t⟩
  | .list ds, v, u, h, r => by
    rw [DV] at h
    obtain ⟨p, xs, rfl, e, hs⟩ := h
    cases r
    obtain ⟨z, its, n, r', e'⟩ := I.hok p _ e
    obtain ⟨as, ra⟩ := reads_all I ds xs its hs r'
    exact ⟨_, .list e' rfl rfl (by simpa using ra)⟩
  | .tuple ds, v, u, h, r => by
    rw [DV] at h
    obtain ⟨p, xs, rfl, e, hs⟩ := h
    cases r
    obtain ⟨z, its, r', o, e', hc, n, hd⟩ := I.hok p _ e
    obtain ⟨as, ra⟩ := reads_all I ds xs its hs r'
    exact ⟨_, .tuple e' hc hd (by simpa using ra)⟩
  | .dict _, v, u, h, r => by rw [DV] at h; exact h.elim
theorem reads_all (I : Inv X pins σ H s) : ∀ (ds : List PyData) (xs : List V) (us : List Value), DVs H ds xs → Vals xs us → ∃ as, ReadsAll s.heap us ds as
  | [], xs, us, h, r => by
    rw [DVs] at h; subst h; cases r; exact ⟨_, .nil⟩
  | d :: ds, xs, us, h, r => by
    rw [DVs] at h
    obtain ⟨v, r0, rfl, h1, h2⟩ := h
    cases r with
    | cons r1 r2 =>
      obtain ⟨a1, q1⟩ := reads_of I d v _ h1 r1
      obtain ⟨a2, q2⟩ := reads_all I ds r0 _ h2 r2
      exact ⟨_, .cons q1 q2⟩
end
def rEqD : R2 := fun x y H Q => ∃ d1 d2, DV H d1 x ∧ DV H d2 y ∧ d1.canLay0 = true ∧ d2.canLay0 = true ∧ d1.depth ≤ 60 ∧ Q (.bl (PyData.eqv d1 d2)) H
theorem op_eqD (hu : X.A.units + 64 < cLine) : OpR X (compareOp .Eq) rEqD := by
  intro pins s σ H x y v u Q I rx ry h
  obtain ⟨d1, d2, h1, h2, c1, c2, hd, q⟩ := h
  obtain ⟨a1, q1⟩ := reads_of I d1 x v h1 rx
  obtain ⟨a2, q2⟩ := reads_of I d2 y u h2 ry
  exact SeqAt.compareEq_reads q1 q2 c1 c2 (Nat.lt_of_le_of_lt (Nat.add_le_add_left (Nat.le_trans (Nat.min_le_left _ _) hd) _) (by omega)) ⟨.bl _, H, I, rfl, q⟩
def rEqA : R2 := fun x y H Q => rEq x y H Q ∨ rEqD x y H Q
theorem op_eqA (hu : X.A.units + 64 < cLine) : OpR X (compareOp .Eq) rEqA := OpR.or op_eq (op_eqD hu)
/-- != of two lists -/
def rNeD : R2 := fun x y H Q => ∃ d1 d2, DV H (.list d1) x ∧ DV H (.list d2) y ∧ PyData.canLayAll0 d1 = true ∧ PyData.canLayAll0 d2 = true ∧ PyData.depthAll d1 ≤ 60 ∧ Q (.bl (!PyData.eqvAll d1 d2)) H
theorem op_neD (hu : X.A.units + 64 < cLine) : OpR X (compareOp .NotEq) rNeD := by
  intro pins s σ H x y v u Q I rx ry h
  obtain ⟨d1, d2, h1, h2, c1, c2, hd, q⟩ := h
  obtain ⟨a1, q1⟩ := reads_of I (.list d1) x v h1 rx
  obtain ⟨a2, q2⟩ := reads_of I (.list d2) y u h2 ry
  cases q1 with
  | @list b1 o vs n _ as1 g1 g2 g3 g4 =>
    cases q2 with
    | @list b2 o' vs' n' _ as2 k1 k2 k3 k4 =>
      have hl : s.heap.IsList _ vs := ⟨_, g1, g2, _, g3⟩
      have hl' : s.heap.IsList _ vs' := ⟨_, k1, k2, _, k3⟩
      have n1 : vs.size = d1.length := by simpa using SeqAt.ReadsAll.length _ _ _ g4
      have n2 : vs'.size = d2.length := by simpa using SeqAt.ReadsAll.length _ _ _ k4
      have fin : EP X pins σ Q (.bool (!PyData.eqvAll d1 d2)) s := ⟨.bl _, H, I, rfl, q⟩
      by_cases hz : vs.size = vs'.size
      · refine SeqAt.RcNeAt.lists hl hl' hz (by omega) (e := SeqAt.pairEq d1 d2) (fun j j1 j2 => ?_) _ _ _ _ ?_
        · have := SeqAt.eqAt_readsAll d1 d2 X.A.in1 s vs.toList vs'.toList _ _ g4 k4 c1 c2 (by
            have : X.A.in1.units = X.A.units + 1 ∨ X.A.in1.units = X.A.units := by first | exact .inl rfl | exact .inr rfl
            have h3 := Nat.min_le_left (PyData.depthAll d1) (PyData.depthAll d2)
            omega) j (by simpa using j1) (by simpa using j2)
          simpa using this
        · have e := SeqAt.eqvAll_eq d1 d2
          rw [← n1, ← n2, ← hz, Nat.min_self, beq_self_eq_true, Bool.and_true] at e
          rw [e]; exact fin
      · refine SeqAt.RcNeAt.lists_lengths hl hl' (by simpa using hz) (by omega) _ _ _ _ ?_
        have e := SeqAt.eqvAll_eq d1 d2
        have hb : (d1.length == d2.length) = false := by
          rw [← n1, ← n2]; simpa using hz
        rw [hb, Bool.and_false] at e
        rw [← e] at fin
        exact fin
/-- != of two tuples -/
def rNeT : R2 := fun x y H Q => ∃ d1 d2, DV H (.tuple d1) x ∧ DV H (.tuple d2) y ∧ PyData.canLayAll0 d1 = true ∧ PyData.canLayAll0 d2 = true ∧ PyData.depthAll d1 ≤ 60 ∧ Q (.bl (!PyData.eqvAll d1 d2)) H
theorem op_neT (hu : X.A.units + 64 < cLine) : OpR X (compareOp .NotEq) rNeT := by
  intro pins s σ H x y v u Q I rx ry h
  obtain ⟨d1, d2, h1, h2, c1, c2, hd, q⟩ := h
  obtain ⟨a1, q1⟩ := reads_of I (.tuple d1) x v h1 rx
  obtain ⟨a2, q2⟩ := reads_of I (.tuple d2) y u h2 ry
  cases q1 with
  | @tuple b1 o vs n _ as1 g1 g2 g3 g4 =>
    cases q2 with
    | @tuple b2 o' vs' n' _ as2 k1 k2 k3 k4 =>
      have hl : s.heap.IsTuple _ vs := ⟨_, g1, g2, _, g3⟩
      have hl' : s.heap.IsTuple _ vs' := ⟨_, k1, k2, _, k3⟩
      have n1 : vs.size = d1.length := by simpa using SeqAt.ReadsAll.length _ _ _ g4
      have n2 : vs'.size = d2.length := by simpa using SeqAt.ReadsAll.length _ _ _ k4
      refine SeqAt.RcNeAt.tuples hl hl' (by omega) (e := SeqAt.pairEq d1 d2) (fun j j1 j2 => ?_) _ _ _ _ ?_
      · have := SeqAt.eqAt_readsAll d1 d2 X.A.in1 s vs.toList vs'.toList _ _ g4 k4 c1 c2 (by
          have : X.A.in1.units = X.A.units + 1 ∨ X.A.in1.units = X.A.units := by first | exact .inl rfl | exact .inr rfl
          have h3 := Nat.min_le_left (PyData.depthAll d1) (PyData.depthAll d2)
          omega) j (by simpa using j1) (by simpa using j2)
        simpa using this
      · rw [n1, n2, SeqAt.eqvAll_eq d1 d2]
        exact ⟨.bl _, H, I, rfl, q⟩
def rNeA : R2 := fun x y H Q => rNe x y H Q ∨ rNeD x y H Q ∨ rNeT x y H Q
theorem op_neA (hu : X.A.units + 64 < cLine) : OpR X (compareOp .NotEq) rNeA := OpR.or op_ne (OpR.or (op_neD hu) (op_neT hu))
end
section
variable {K : PySem.W.Frag} {H : Hp} {Q : VK}
theorem i_eqAI {i j : Int} (h : Q (.bl (decide (i = j))) H) : rEqA (.int i) (.int j) H Q := .inl (i_eqI h)
theorem i_neAI {i j : Int} (h : Q (.bl (!decide (i = j))) H) : rNeA (.int i) (.int j) H Q := .inl (i_neI h)
end
end L2

set_option maxRecDepth 100000
namespace PySem
open Sem (wp)
open AutoSeq1 (wpAny_loadPart')
theorem new_enum_tup (a : Addr) (vs : Array Value) (m : Nat) (dc : Option Addr) (sc : Array (Option Value)) : Meets (Builtin.«enumerate.__new__» ⟨[.type "enumerate", .ref a], []⟩) (fun _ R z =>
    z.heap.get? a = some { cls := .type "tuple", dict := dc, data := .seq vs m, slots := sc } ∧
    R (.ok (.ret (.ref (z.heap.push { cls := .type "tuple_iterator", data := .fields #[.ref a, .int 0 0] }).objs.size)))
      { z with heap := (z.heap.push { cls := .type "tuple_iterator", data := .fields #[.ref a, .int 0 0] }).push { cls := .type "enumerate", data := .fields #[.none, .bool false, .ref z.heap.objs.size, rawInt 0, .none, .none] } }) :=
  .of_wp fun pr wo ar R z hz => by
    obtain ⟨hp, gg, dd, tt, ss⟩ := z
    obtain ⟨ha, hR⟩ := hz
    have hsubE := sub_enumerate
    have hT : Heap.IsTuple (Shared.heap ⟨hp, gg, dd, tt, ss⟩) a vs := ⟨_, ha, rfl, m, rfl⟩
    wp_walk using wpAny_loadPart' ha
    refine wpAny_stack_any fun stk => wpAny_pure ?_
    split
    · rename_i cc _ _ _ _ _
      cases (cc == Value.type "enumerate") <;>
        (wp_walk using wpAny_loadPart' ha, wpAny_pyIter_tuple hT
         exact ⟨_, rfl, hR⟩)
    · wp_walk using wpAny_loadPart' ha, wpAny_pyIter_tuple hT
      exact ⟨_, rfl, hR⟩
section
variable {prog : Program} {w : World} {A : Around} {E : Value → Shared → Prop} {s : Shared}
theorem call_enum_tup {a : Addr} {vs : Array Value} {Q : Value → Shared → Prop} (hT : s.heap.IsTuple a vs)
    (q : ∀ h', IsEnum h' (s.heap.objs.size + 1) s.heap.objs.size 0 .none → h'.IsTupleIter s.heap.objs.size a 0 → (∀ b o, s.heap.get? b = some o → h'.get? b = some o) → Q (.ref (s.heap.objs.size + 1)) { s with heap := h' }) :
    wpAny (model prog w) A (call (.type "enumerate") [.ref a]) Q E s := by
  obtain ⟨⟨c, dc, dt, sc⟩, ha, hc, m, hd⟩ := hT
  replace hc : c = .type "tuple" := hc
  replace hd : dt = .seq vs m := hd
  subst hc hd
  refine callType_new F.called_enumerate (by decide) (F.typeCall_enumerate_1 _) (F.newCall_enumerate_1 _) (fun z => F.args_object_init_2 z _) F.entry_enumerate_new (new_enum_tup a vs m dc sc) ⟨ha, ?_⟩
  have hz : (s.heap.push { cls := .type "tuple_iterator", data := .fields #[.ref a, .int 0 0] }).objs.size = s.heap.objs.size + 1 := Heap.size_push ..
  show _ ∧ _
  rw [hz]
  have he : IsEnum ((s.heap.push { cls := .type "tuple_iterator", data := .fields #[.ref a, .int 0 0] }).push { cls := .type "enumerate", data := .fields #[.none, .bool false, .ref s.heap.objs.size, rawInt 0, .none, .none] }) (s.heap.objs.size + 1) s.heap.objs.size 0 .none := by
    have e := Heap.get?_push_size (s.heap.push { cls := .type "tuple_iterator", data := .fields #[.ref a, .int 0 0] }) (o := { cls := .type "enumerate", data := .fields #[.none, .bool false, .ref s.heap.objs.size, rawInt 0, .none, .none] }) rfl
    rw [hz] at e
    exact e
  exact ⟨⟨_, he, rfl⟩, q _ he ⟨_, Heap.get?_push_of_some _ (Heap.get?_push_size _ rfl), rfl, rfl⟩ fun b o e => Heap.get?_push_of_some _ (Heap.get?_push_of_some _ e)⟩
theorem nextOf_tup_item {it t : Addr} {i : Nat} {vs} {x : Value} {Q : Value → Shared → Prop} (hi : s.heap.IsTupleIter it t i) (ht : s.heap.IsTuple t vs) (hx : vs[i]? = some x)
    (q : ∀ h', h'.IsTupleIter it t (i + 1) → Heap.SameBut it s.heap h' → Q x { s with heap := h' }) : wpAny (model prog w) A (Builtin.SmallTypes.nextOf (.ref it)) Q E s := by
  obtain ⟨o, ho, hc, hd⟩ := id hi
  obtain ⟨ot, hot, _, nt, hdt⟩ := ht
  unfold Builtin.SmallTypes.nextOf
  refine wpAny_bind (wpAny_callSpecial?_slot (name := Str.ofString "__next__") hi.typeIs F.slot_tuple_iterator_next (wpAny_call_entry F.slot_tuple_iterator_next hi.typeIs F.entry_tuple_iterator_next ?_ (F.args_tuple_iterator_next_1 _)))
  show wpAny _ _ (field (.ref it) 0 >>= _) _ _ s
  refine wpAny_bind (wpAny_field ho hd (x := .ref t) rfl ?_)
  show wpAny _ _ (if (Value.ref t == Value.none) = true then _ else _) _ _ s
  rw [if_neg (show ¬ ((Value.ref t == Value.none) = true) from Bool.false_ne_true)]
  show wpAny _ _ (field (.ref it) 1 >>= _) _ _ s
  refine wpAny_bind (wpAny_field ho hd (x := .int i 0) rfl ?_)
  show wpAny _ _ (seqItems? (.ref t) >>= _) _ _ s
  refine wpAny_bind (wpAny_seqItems hot hdt ?_)
  simp only [Int.toNat_natCast, hx]
  refine wpAny_bind (wpAny_setField ho hd (by simp) (wpAny_pure ⟨x, rfl, wpAny_pure (q _ ?_ (Heap.SameBut.update ..))⟩))
  exact ⟨_, Heap.get?_update_self _ ho (Obj.isFreed_of_fields (Obj.data_mapFields hd _)), (Obj.cls_mapFields ..).trans hc, by rw [Obj.data_mapFields hd]; simp [rawInt]⟩
theorem nextOf_tup_end {it t : Addr} {i : Nat} {vs} {Q : Value → Shared → Prop} (hh : A.handled = none) (hi : s.heap.IsTupleIter it t i) (ht : s.heap.IsTuple t vs) (hx : vs[i]? = none)
    (q : ∀ h' e, Heap.ExtBut it s.heap h' → (∃ o, h'.get? e = some o ∧ o.cls = .type "StopIteration") → E (.ref e) { s with heap := h' }) : wpAny (model prog w) A (Builtin.SmallTypes.nextOf (.ref it)) Q E s := by
  obtain ⟨o, ho, hc, hd⟩ := id hi
  obtain ⟨ot, hot, _, nt, hdt⟩ := ht
  unfold Builtin.SmallTypes.nextOf
  refine wpAny_bind (wpAny_callSpecial?_slot (name := Str.ofString "__next__") hi.typeIs F.slot_tuple_iterator_next (wpAny_call_entry F.slot_tuple_iterator_next hi.typeIs F.entry_tuple_iterator_next ?_ (F.args_tuple_iterator_next_1 _)))
  show wpAny _ _ (field (.ref it) 0 >>= _) _ _ s
  refine wpAny_bind (wpAny_field ho hd (x := .ref t) rfl ?_)
  show wpAny _ _ (if (Value.ref t == Value.none) = true then _ else _) _ _ s
  rw [if_neg (show ¬ ((Value.ref t == Value.none) = true) from Bool.false_ne_true)]
  show wpAny _ _ (field (.ref it) 1 >>= _) _ _ s
  refine wpAny_bind (wpAny_field ho hd (x := .int i 0) rfl ?_)
  show wpAny _ _ (seqItems? (.ref t) >>= _) _ _ s
  refine wpAny_bind (wpAny_seqItems hot hdt ?_)
  simp only [Int.toNat_natCast, hx]
  refine wpAny_bind (wpAny_rule (wpAny_bind (wpAny_setField ho hd (by simp) ?_)))
  show wpAny _ _ (newExc (.type "StopIteration") [] >>= _) _ _ _
  refine wpAny_bind ?_
  simp only [newExc, newTuple]
  refine wpAny_bind (wpAny_newObj_type ?_ (by size_fits))
  refine wpAny_bind (m := firstArgMember _ _) (wpAny_of_eq (a := Value.none) (by first | rfl | (simp only [firstArgMember]; rfl)) ?_)
  refine wpAny_newObj_type ?_ (by size_fits)
  simp only [raiseNew]
  refine wpAny_bind (wpAny_handled ?_)
  first | rw [show A.in1.handled = none from hh] | rw [hh]
  refine wpAny_bind (wpAny_pure (wpAny_throw ?_))
  exact q _ _ (((Heap.SameBut.update ..).extBut.push _).push _) ⟨_, Heap.get?_push_size _ rfl, rfl⟩
end
theorem Draws.tup {prog : Program} {w : World} {A : Around} (hh : A.handled = none) (it t : Addr) (hne : t ≠ it) (vs : Array Value) : Draws prog w A it [it, t] vs.size (fun i v => vs[i]? = some v) (fun i h => h.IsTupleIter it t i ∧ h.IsTuple t vs) where
  live := fun _ _ z => let ⟨o, ho, _⟩ := z.1; ⟨o, ho⟩
  frame := fun _ _ _ z hk => ⟨(let ⟨o, ho, r⟩ := z.1; ⟨o, hk it (by simp) o ho, r⟩), (let ⟨o, ho, r⟩ := z.2; ⟨o, hk t (by simp) o ho, r⟩)⟩
  item := fun i s Q E hi z q => nextOf_tup_item z.1 z.2 (x := vs[i]) (by simp [hi]) fun h' hi' hs' => q _ h' s.toks (by simp [hi]) ⟨hi', z.2.extBut hs'.extBut hne⟩ hs'
  done := fun s Q E z q => nextOf_tup_end hh z.1 z.2 (by simp) q
theorem push_inv {h : Heap} {o o' : Obj} {b : Addr} (e : (h.push o).get? b = some o') : b = h.objs.size ∧ o' = o ∨ h.get? b = some o' := by
  obtain ⟨e1, e2⟩ := Heap.get?_some_iff.mp e
  have e1 : (h.objs.push o)[b]? = some o' := by simpa [Heap.push] using e1
  rw [Array.getElem?_push] at e1
  split at e1
  · rename_i z
    exact .inl ⟨z, (Option.some.inj e1).symm⟩
  · exact .inr (Heap.get?_some_iff.mpr ⟨e1, e2⟩)
end PySem
namespace L2
open PySem PySem.Spec PyProof.Rows
section
variable {X : Cx} {pins : List (Addr × Obj)} {σ : List (Option V)} {H : Hp} {s : Shared} {h' : Heap}
theorem Inv.turnedL {t' : Nat} {ch : List Addr} (I : Inv X pins σ H s) (k : ∀ b o, b ∉ ch → s.heap.get? b = some o → h'.get? b = some o) (hf : ∀ b ∈ ch, FpOk X pins H b) : Inv X pins σ H { s with heap := h', toks := t' } := by
  have nit : ∀ b u, H b = some u → b ∉ ch := fun b u e z => by rw [(hf b z).1] at e; cases e
  have hL : X.env.locals ∉ ch := fun z => (hf _ z).2.1 rfl
  refine I.step (g' := s.gens) (d' := s.drawn) (ch := ch) (fun b hb => ?_) (fun b o _ _ hc e _ => k b o hc e) (fun b o _ _ hc e _ => ⟨o.slots, k b o hc e⟩) (fun _ _ _ _ n => n) (fun b o hc e => ⟨o, k b o hc e⟩) (fun _ _ e => e) (fun _ _ _ e => e) (fun b ps e => ⟨#[], by rw [e]; simp⟩) (fun m hm => ?_) (fun b u e => ?_) I.bare
  · obtain ⟨f0, f1, f2, f3, f4, f5⟩ := hf b hb
    exact ⟨f3, f1, f4, f5⟩
  · obtain ⟨o, es, ep, ho, r⟩ := hm
    exact ⟨o, es, ep, k _ o hL ho, r⟩
  · refine (I.hok b u e).stay (fun c v hc q => k c v ?_ q) (fun _ q => q) fun _ _ q => q
    rcases hc with z | z
    · rw [z]; exact nit b u e
    · exact nit c _ z
/-- a pair is laid, the iterator's own objects turn -/
theorem Inv.pairTurn {t' : Nat} {ch : List Addr} {x y : V} {u v : Value} (I : Inv X pins σ H s) (rx : RelV x u) (ry : RelV y v) (hf : ∀ b ∈ ch, FpOk X pins H b) (hch : ∀ b ∈ ch, b ≠ s.heap.objs.size)
    (k : ∀ b o, b ∉ ch → s.heap.get? b = some o → h'.get? b = some o) (hT : h'.get? s.heap.objs.size = some { cls := .type "tuple", data := .seq #[u, v] }) :
    Inv X pins σ (upd H s.heap.objs.size (.tup [x, y])) { s with heap := h', toks := t' } := by
  have I1 : Inv X pins σ (upd H s.heap.objs.size (.tup [x, y])) { s with heap := s.heap.push { cls := .type "tuple", data := .seq #[u, v] } } :=
    I.laid (t' := s.toks) (fun b o e => Heap.get?_push_of_some _ e) (Nat.le_refl _) (show ObjOk X.prog X.w _ _ _ (.tup [x, y]) from ⟨Nat.le_of_ble_eq_true rfl, [u, v], .cons rx (.cons ry .nil), IsTup.new _ _⟩)
  refine Inv.turnedL (s := { s with heap := s.heap.push { cls := .type "tuple", data := .seq #[u, v] } }) (ch := ch) I1 (fun b o hb e => ?_) fun b hb => ?_
  · rcases push_inv e with ⟨e1, e2⟩ | e
    · rw [e1, e2]; exact hT
    · exact k b o hb e
  · obtain ⟨f0, f1, f2, f3, f4, f5⟩ := hf b hb
    exact ⟨by rw [upd_ne (hch b hb)]; exact f0, f1, f2, f3, f4, f5⟩
end
def Ite (sq : Hp → Prop) (xs : List V) : It := ⟨fun i H => i < xs.length ∧ sq H, fun i H x H' => ∃ T v, xs[i]? = some v ∧ H T = none ∧ x = .ref T ∧ H' = upd H T (.tup [.int (i : Int), v]), fun i H => i = xs.length ∧ sq H⟩
theorem turn_enum {P : Program} {w : World} {K : PySem.W.Frag} {elts : List Expr} {kk : Nat} {ps : Pos} {sq : Hp → Prop} {xs : List V} {e it : Addr} {stI : Nat → Heap → Prop} (hei : e ≠ it)
    (hobj : ∀ i h, stI i h → ∃ o, h.get? it = some o ∧ ∀ v, o.data ≠ .cell v) (hkeep : ∀ i h h', stI i h → (∀ o, h.get? it = some o → h'.get? it = some o) → stI i h')
    (hD : ∀ (X : Cx), X.prog = P → X.w = w → X.K = K → X.calm = true → ∀ (pins : List (Addr × Obj)) (σ : St) (H : Hp) (s : Shared) (i : Nat), Inv X pins σ H s → sq H → (∃ old, IsEnum s.heap e it i old) → stI i s.heap →
      ∃ (its : List Value) (fp : List Addr) (S : Nat → Heap → Prop), Vals xs its ∧ Draws P w X.A.in1 it fp its.length (fun j v => its[j]? = some v) S ∧ S i s.heap ∧ (∀ j h, S j h → stI j h) ∧ e ∉ fp) :
    Turn P w K (.Tuple elts kk ps) (Ite sq xs) [e, it] e (fun i h => (∃ old, IsEnum h e it i old) ∧ stI i h) where
  mem := by simp
  obj := fun i h st b hb => by
    obtain ⟨⟨old, he⟩, hs⟩ := st
    rcases List.mem_cons.mp hb with rfl | hb
    · exact ⟨_, he, fun v z => by cases z⟩
    · rw [List.mem_singleton.mp hb]; exact hobj i h hs
  keep := fun i h h' st k => by
    obtain ⟨⟨old, he⟩, hs⟩ := st
    exact ⟨⟨old, k e (by simp) _ he⟩, hkeep i h h' hs fun o z => k it (by simp) o z⟩
  item := by
    intro X hP hw hK hc i pins s σ H E I hf st hg
    obtain ⟨⟨old, he⟩, hs⟩ := st
    obtain ⟨its, fp, S, rv, D, hS, hst, hef⟩ := hD X hP hw hK hc pins σ H s i I hg.2 ⟨old, he⟩ hs
    subst hP hw hK
    have hi : i < its.length := by rw [← rv.length]; exact hg.1
    refine wpAny_pyNext_enum_itemD D he hS hi hei hef fun u h1 tk hu ho hs1 hT hsz hk => ?_
    have hel : e < s.heap.objs.size := Heap.lt_size he
    have hil : it < s.heap.objs.size := by obtain ⟨o, q, _⟩ := hobj i _ hs; exact Heap.lt_size q
    refine ⟨_, rfl, wpAny_letOwnedTupleGo_enum ho fun h2 he2 hs2 => ?_⟩
    obtain ⟨v, hv⟩ : ∃ v, xs[i]? = some v := ⟨xs[i]'hg.1, List.getElem?_eq_getElem hg.1⟩
    obtain ⟨u', hu', ru⟩ := rv.get hv
    have eu : u' = u := Option.some.inj (hu'.symm.trans hu)
    subst eu
    have I2 : Inv X pins σ (upd H s.heap.objs.size (.tup [.int (i : Int), v])) { s with heap := h2, toks := tk + 1 } :=
      I.pairTurn (ch := [e, it]) (u := .int i tk) ⟨tk, rfl⟩ ru hf (fun b hb => by
        rcases List.mem_cons.mp hb with rfl | hb
        · exact Nat.ne_of_lt hel
        · rw [List.mem_singleton.mp hb]; exact Nat.ne_of_lt hil) (fun b o hb z => by
        have hb1 : b ≠ e := fun q => hb (by simp [q])
        have hb2 : b ≠ it := fun q => hb (by simp [q])
        exact (hs2.2 b hb1).trans (hk b o hb1 hb2 z)) ((hs2.2 _ (Nat.ne_of_gt hel)).trans hT)
    refine ⟨.ref s.heap.objs.size, _, I2, rfl, ⟨_, v, hv, I.hok.fresh (Nat.le_refl _), rfl, rfl⟩, ⟨⟨_, by simpa using he2⟩, hst _ _ (D.frame _ _ _ hs1 fun b hb o z => (hs2.2 b fun q => hef (q ▸ hb)).trans z)⟩, fun b hb => ?_⟩
    have hne : b ≠ s.heap.objs.size := by
      rcases List.mem_cons.mp hb with rfl | hb
      · exact Nat.ne_of_lt hel
      · rw [List.mem_singleton.mp hb]; exact Nat.ne_of_lt hil
    rw [upd_ne hne]
    exact (hf b hb).1
  done := by
    intro X hP hw hK hc i pins s σ H E I hf st hg
    obtain ⟨⟨old, he⟩, hs⟩ := st
    obtain ⟨its, fp, S, rv, D, hS, hst, hef⟩ := hD X hP hw hK hc pins σ H s i I hg.2 ⟨old, he⟩ hs
    subst hP hw hK
    have hi : i = its.length := by rw [← rv.length]; exact hg.1
    rw [hi] at hS
    obtain ⟨f0, f1, f2, f3, f4, f5⟩ := hf it (by simp)
    exact wpAny_pyNext_enum_endD D he hS fun h1 eb => ⟨rfl, I.turned (t' := s.toks) (fun b o hb z => eb b o hb z) f0 f1 f3 f4 f5⟩
  self := fun _ _ _ _ _ st h => by
    obtain ⟨⟨old, he⟩, _⟩ := st
    exact wpAny_pyIter_enum he h
section
variable {X : Cx}
def iEnum (K : PySem.W.Frag) (tl : TE) : TI := fun σ H R => tl σ H fun x H1 => (∃ a xs, x = .ref a ∧ SqL K H1 a xs ∧ R (Ite (fun H => SqL K H a xs) xs) H1) ∨ (∃ a xs, x = .ref a ∧ SqT K H1 a xs ∧ R (Ite (fun H => SqT K H a xs) xs) H1)
theorem pi_enum {elts : List Expr} {kk : Nat} {ps : Pos} {l : Expr} {tl : TE} {p pos : Pos} (hg : Gl X "enumerate") (hm : X.mg "enumerate" = none) (ha : PE X l tl) (he : starEach [l] X.env = (false, eval l X.env) :: starEach [] X.env := by rfl) :
    PI X (.Tuple elts kk ps) (.Call (.Name "enumerate" p) [l] [] pos) (iEnum X.K tl) := by
  intro pins s σ H R I h
  refine wpAny_Call_Name_kw (ld_blt I hg hm bt_enumerate ?_)
  let R' : List V → Hp → Prop := fun vs H1 => match vs with | [x] => ((∃ a xs, x = V.ref a ∧ SqL X.K H1 a xs ∧ R (Ite (fun H => SqL X.K H a xs) xs) H1) ∨ (∃ a xs, x = V.ref a ∧ SqT X.K H1 a xs ∧ R (Ite (fun H => SqT X.K H a xs) xs) H1)) | _ => False
  have h' : tCons tl tNil σ H R' := h
  refine PyProof.Rows.callWith_type1 (thn (pa_cons ha pa_nil he pos pins s σ H R' I h') fun us s1 ⟨vs, H1, I1, r1, q1⟩ => ?_) he rfl
  have fpk : ∀ b ∈ [s1.heap.objs.size + 1, s1.heap.objs.size], FpOk X pins H1 b := fun b hb => by
    rcases List.mem_cons.mp hb with rfl | hb
    · exact I1.fpOk (Nat.le_succ _) (I1.hok.fresh (Nat.le_succ _))
    · rw [List.mem_singleton.mp hb]; exact I1.fpOk (Nat.le_refl _) (I1.hok.fresh (Nat.le_refl _))
  match vs, r1, q1 with
  | [x], r1, q1 =>
    obtain ⟨u, rfl, rx⟩ := vals1 r1
    rcases q1 with ⟨a, xs, rfl, hq, q⟩ | ⟨a, xs, rfl, hq, q⟩
    · cases rx
      obtain ⟨its, rv, pl, hz⟩ := I1.list hq
      refine call_enumerate_list pl.isList fun h2 he2 hi2 hsz hk => ?_
      refine wpAny_pyIter_enum he2 ⟨s1.heap.objs.size + 1, _, _, _, H1, rfl, I1.kept (t' := s1.toks) hk, turn_enum (e := s1.heap.objs.size + 1) (it := s1.heap.objs.size) (stI := fun i h => h.IsListIter s1.heap.objs.size a i) (Nat.succ_ne_self _) ?_ ?_ ?_, ⟨⟨_, he2⟩, hi2⟩, fpk, q⟩
      · rintro i h ⟨o, e, c, d⟩
        exact ⟨o, e, fun v z => by rw [d] at z; cases z⟩
      · exact fun i h h' z k => z.at k
      · intro Y hP hw hK hc pins' σ' H' s' i I' hs ⟨old, hen⟩ hit
        have hs : SqL Y.K H' a xs := by rw [hK]; exact hs
        obtain ⟨its', rv', pl', hz'⟩ := I'.list hs
        have na : a ≠ s1.heap.objs.size := fun z => by
          obtain ⟨o, e, c, d⟩ := hit
          obtain ⟨o', e', c', d'⟩ := pl'.isList
          rw [z, e] at e'
          cases e'
          rw [c] at c'
          exact absurd c' (by decide)
        have nb : s1.heap.objs.size + 1 ∉ [s1.heap.objs.size, a] := fun z => by
          rcases List.mem_cons.mp z with z | z
          · exact Nat.succ_ne_self _ z
          · obtain ⟨o', e', c', d'⟩ := pl'.isList
            rw [← List.mem_singleton.mp z, hen] at e'
            cases e'
            have c2 : Value.type "enumerate" = Value.type "list" := c'
            exact absurd c2 (by decide)
        have D := Draws.list (prog := Y.prog) (w := Y.w) (A := Y.A.in1) (I'.ok.hd hc) s1.heap.objs.size a na its'.toArray
        rw [hP, hw] at D
        exact ⟨its', [s1.heap.objs.size, a], fun i h => h.IsListIter s1.heap.objs.size a i ∧ h.IsList a its'.toArray, rv', by simpa using D, ⟨hit, pl'.isList⟩, fun j h z => z.1, nb⟩
    · cases rx
      obtain ⟨its, rv, pl, hz⟩ := I1.tuple hq
      refine call_enum_tup (show s1.heap.IsTuple a its.toArray from pl) fun h2 he2 hi2 hk => ?_
      refine wpAny_pyIter_enum he2 ⟨s1.heap.objs.size + 1, _, _, _, H1, rfl, I1.kept (t' := s1.toks) hk, turn_enum (e := s1.heap.objs.size + 1) (it := s1.heap.objs.size) (stI := fun i h => h.IsTupleIter s1.heap.objs.size a i) (Nat.succ_ne_self _) ?_ ?_ ?_, ⟨⟨_, he2⟩, hi2⟩, fpk, q⟩
      · rintro i h ⟨o, e, c, d⟩
        exact ⟨o, e, fun v z => by rw [d] at z; cases z⟩
      · exact fun i h h' z k => let ⟨o, e, r⟩ := z; ⟨o, k o e, r⟩
      · intro Y hP hw hK hc pins' σ' H' s' i I' hs ⟨old, hen⟩ hit
        have hs : SqT Y.K H' a xs := by rw [hK]; exact hs
        obtain ⟨its', rv', pl', hz'⟩ := I'.tuple hs
        have na : a ≠ s1.heap.objs.size := fun z => by
          obtain ⟨o, e, c, d⟩ := hit
          obtain ⟨o', e', c', d'⟩ := pl'
          rw [z, e] at e'
          cases e'
          rw [c] at c'
          exact absurd c' (by decide)
        have nb : s1.heap.objs.size + 1 ∉ [s1.heap.objs.size, a] := fun z => by
          rcases List.mem_cons.mp z with z | z
          · exact Nat.succ_ne_self _ z
          · obtain ⟨o', e', c', d'⟩ := pl'
            rw [← List.mem_singleton.mp z, hen] at e'
            cases e'
            have c2 : Value.type "enumerate" = Value.type "tuple" := c'
            exact absurd c2 (by decide)
        have D := Draws.tup (prog := Y.prog) (w := Y.w) (A := Y.A.in1) (I'.ok.hd hc) s1.heap.objs.size a na its'.toArray
        rw [hP, hw] at D
        exact ⟨its', [s1.heap.objs.size, a], fun i h => h.IsTupleIter s1.heap.objs.size a i ∧ h.IsTuple a its'.toArray, rv', by simpa using D, ⟨hit, pl'⟩, fun j h z => z.1, nb⟩
def rBits : V → List V → Hp → VK → Prop := fun x vs H Q => ∃ i : Int, x = .int i ∧ vs = [] ∧ Q (.int ((Builtin.Int.intBits i : Nat) : Int)) H
theorem mi_bit_length : MtR X "int.bit_length" rBits := by
  intro pins s σ H x xs v us Q I r rs h
  obtain ⟨i, rfl, rfl, q⟩ := h
  obtain ⟨t, rfl⟩ := r
  cases rs
  exact call_int_bit_length ⟨.int _, H, I.tok _, ⟨_, rfl⟩, q⟩
def rAll (K : PySem.W.Frag) : List V → Hp → VK → Prop := fun xs H Q => ∃ (p : Addr) (bs : List Bool), xs = [.ref p] ∧ SqL K H p (bs.map V.bl) ∧ Q (.bl (bs.all id)) H
theorem bool_items : ∀ {bs : List Bool} {us : List Value}, Vals (bs.map V.bl) us → us = bs.map Value.bool
  | [], _, r => by cases r; rfl
  | b :: bs, _, r => by
    cases r with
    | cons r rr =>
      cases r
      rw [bool_items rr]
      rfl
theorem range_all (bs : List Bool) : (List.range bs.length).all (fun i => bs.getD i false) = bs.all id := by
  apply Bool.eq_iff_iff.mpr
  rw [List.all_eq_true, List.all_eq_true]
  constructor
  · intro h x hx
    obtain ⟨i, hi, rfl⟩ := List.mem_iff_getElem.mp hx
    have := h i (List.mem_range.mpr hi)
    rw [List.getD_eq_getElem?_getD, List.getElem?_eq_getElem hi] at this
    exact this
  · intro h i hi
    have hi := List.mem_range.mp hi
    rw [List.getD_eq_getElem?_getD, List.getElem?_eq_getElem hi]
    exact h _ (List.getElem_mem hi)
theorem truth_bools {prog : Program} {w : World} {A : Around} (bs : List Bool) : TruthOf prog w A (fun i v => (bs.map Value.bool).toArray[i]? = some v) (fun i => bs.getD i false) := by
  intro i v s Q E hP hQ
  rw [List.getElem?_toArray, List.getElem?_map] at hP
  cases e : bs[i]? with
  | none => rw [e] at hP; cases hP
  | some b =>
    rw [e] at hP
    cases hP
    simp only [List.getD_eq_getElem?_getD, e] at hQ
    exact wpAny_truthy_bool hQ
theorem call_allG (hc : X.calm = true) : CallR X (.builtin "all") (rAll X.K) := by
  intro pins s σ H xs us Q I r h
  obtain ⟨p, bs, rfl, hq, q⟩ := h
  obtain ⟨u, rfl, rx⟩ := vals1 r
  cases rx
  obtain ⟨its, rv, pl, hz⟩ := I.list hq
  have e := bool_items rv
  subst e
  have hpl : p < s.heap.objs.size := by obtain ⟨o, ho, _⟩ := pl.isList; exact Heap.lt_size ho
  have W := Walks.list (prog := X.prog) (w := X.w) (A := X.A.in1) (I.ok.hd hc) s.heap.objs.size p (Nat.ne_of_lt hpl) (bs.map Value.bool).toArray
  refine call_all_walk (wpAny_pyIter_list pl.isList ⟨s.heap.objs.size, _, _, _, _, _, _, rfl, W, ⟨⟨_, Heap.get?_push_size _ rfl, rfl, rfl⟩, pl.isList.push _⟩, truth_bools bs, fun h' tk k => ?_⟩)
  rw [List.size_toArray, List.length_map, range_all]
  refine ⟨.bl (bs.all id), H, I.kept (t' := tk) (fun b o z => k b o ?_ (Heap.get?_push_of_some _ z)), rfl, q⟩
  exact fun hm => absurd (Heap.lt_size z) (by rw [List.mem_singleton.mp hm]; exact Nat.lt_irrefl _)
end
section
variable {σ : St} {H : Hp} {Q : VK} {D : Ends} {K : PySem.W.Frag} {g : TG} {tb : TS}
def LoopE (sq : Hp → Prop) (xs : List V) (g : TG) (tb : TS) (D : Ends) (σ : St) (H : Hp) : Prop :=
  ∃ W : Nat → Nat → St → Hp → Prop, (∃ m, W 0 m σ H) ∧ ∀ i m σ H, W i m σ H →
      ((Ite sq xs).stop i H ∧ D.nx σ H) ∨ ((Ite sq xs).go i H ∧ ∃ N : St → Hp → Prop, (∀ σ' H', N σ' H' → ∃ m', m' < m ∧ W (i + 1) m' σ' H') ∧ ∀ x H', (Ite sq xs).yld i H x H' → g x σ H' fun σ2 H2 => tb { D with nx := N, ct := N, bk := D.nx } σ2 H2)
def SeqE (K : PySem.W.Frag) (x : V) (g : TG) (tb : TS) (D : Ends) (σ : St) (H1 : Hp) : Prop := (∃ a xs, x = .ref a ∧ SqL K H1 a xs ∧ LoopE (fun H => SqL K H a xs) xs g tb D σ H1) ∨ (∃ a xs, x = .ref a ∧ SqT K H1 a xs ∧ LoopE (fun H => SqT K H a xs) xs g tb D σ H1)
theorem i_forE {tl : TE} (h : tl σ H fun x H1 => SeqE K x g tb D σ H1) : tFor (iEnum K tl) g tb D σ H := h
theorem loopE {sq : Hp → Prop} {xs : List V} (Pv : Nat → St → Hp → Prop) (h0 : Pv 0 σ H) (hl : ∀ i σ H, i ≤ xs.length → Pv i σ H → sq H)
    (hs : ∀ (i : Nat) (v : V) (T : Addr) σ H H', xs[i]? = some v → Pv i σ H → Same H H' → H T = none → H' T = some (.tup [.int (i : Int), v]) → g (.ref T) σ H' fun σ2 H2 => tb { D with nx := Pv (i + 1), ct := Pv (i + 1), bk := D.nx } σ2 H2) (hd : ∀ σ H, Pv xs.length σ H → D.nx σ H) : LoopE sq xs g tb D σ H := by
  refine ⟨fun i m σ H => m = xs.length - i ∧ i ≤ xs.length ∧ Pv i σ H, ⟨xs.length, by simp, Nat.zero_le _, h0⟩, ?_⟩
  rintro i m σ H ⟨rfl, hi, p⟩
  by_cases hlt : i < xs.length
  · refine .inr ⟨⟨hlt, hl i σ H hi p⟩, Pv (i + 1), fun σ' H' p' => ⟨xs.length - (i + 1), by omega, rfl, hlt, p'⟩, fun x H' y => ?_⟩
    obtain ⟨T, v, hv, hT, rfl, rfl⟩ := y
    exact hs i v T σ H _ hv p (same_new hT _) hT upd_same
  · have e : i = xs.length := by omega
    subst e
    exact .inl ⟨⟨rfl, hl _ σ H hi p⟩, hd σ H p⟩
theorem seqET {a : Addr} {xs : List V} (Pv : Nat → St → Hp → Prop) (h0 : Pv 0 σ H) (hl : ∀ i σ H, i ≤ xs.length → Pv i σ H → SqT K H a xs)
    (hs : ∀ (i : Nat) (v : V) (T : Addr) σ H H', xs[i]? = some v → Pv i σ H → Same H H' → H T = none → H' T = some (.tup [.int (i : Int), v]) → g (.ref T) σ H' fun σ2 H2 => tb { D with nx := Pv (i + 1), ct := Pv (i + 1), bk := D.nx } σ2 H2) (hd : ∀ σ H, Pv xs.length σ H → D.nx σ H) : SeqE K (.ref a) g tb D σ H := .inr ⟨a, xs, rfl, hl 0 σ H (Nat.zero_le _) h0, loopE Pv h0 hl hs hd⟩
theorem i_gN2 {T : Addr} {x y : V} {i j : Nat} {R : St → Hp → Prop} (e : H T = some (.tup [x, y])) (h : R ((σ.set i (some x)).set j (some y)) H) : gTup K 2 (gCons (gName i) (gCons (gName j) gNil)) (.ref T) σ H R :=
  ⟨T, [x, y], rfl, SqT.of e, rfl, x, [y], rfl, y, [], rfl, rfl, h⟩
theorem i_bitlen {i : Int} (h : Q (.int ((Builtin.Int.intBits i : Nat) : Int)) H) : tyV K "int" (.int i) H ∧ rBits (.int i) [] H Q := ⟨rfl, i, rfl, rfl, h⟩
theorem i_truI {i : Int} {R : Bool → Prop} (h : R (!decide (i = 0))) : ∃ k, TruV K (.int i) H k ∧ R k := ⟨_, rfl, h⟩
theorem i_chain {r r' : R2} {ta tb tc : TE} (h : ta σ H fun x H1 => tb σ H1 fun y H2 => r x y H2 fun z H3 => ∃ k, z = .bl k ∧ (if k = true then tc σ H3 fun w' H4 => r' y w' H4 Q else Q (.bl false) H3)) : tChain r r' ta tb tc σ H Q := h
theorem i_all {p : Addr} {bs : List Bool} (h : SqL K H p (bs.map V.bl)) (q : Q (.bl (bs.all id)) H) : rAll K [.ref p] H Q := ⟨p, bs, rfl, h, q⟩
end
end L2

set_option maxRecDepth 100000
namespace L2
open PySem PySem.Spec PyProof.Rows
section
variable {X : Cx}
end
section
open PySem.SeqAt
open PySem.AutoSeq1 (wpAny_loadPart')
open PySem.MeetsSeq PySem.MeetsSeq2 PySem.MeetsSeq3
end
def CDivG (i j : Int) : Prop := 0 < j ∧ j ≤ 18446744073709551616
theorem op_fdivG {X : Cx} : OpR X (binaryOp .FloorDiv) (rI CDivG fun i j => .int (i / j)) := opI fun i j _ _ _ _ _ hc q => by
  have h1 : (0 : Int) < j := hc.1
  have h2 : j ≤ 18446744073709551616 := hc.2
  refine floordiv_int (by omega) (by rw [Int.fdiv_eq_ediv_of_nonneg i (by omega)]; exact q) (.inl (PyProof.noPylong_of_log2 ?_))
  have h3 : j.natAbs.log2 < 65 := (Nat.log2_lt (by omega)).mpr (by omega)
  omega
section
variable {σ : St} {H : Hp} {Q : VK} {D : Ends} {K : PySem.W.Frag} {g : TG} {tb : TS}
end
end L2

set_option maxRecDepth 100000
namespace PySem
open Sem (wp)
theorem Obj.dict_mapFields (o : Obj) (f : Array Value → Array Value) : (Obj.mapFields f o).dict = o.dict := by unfold Obj.mapFields; split <;> rfl
def frsOf (l : List Env) : List Addr := l.filterMap (·.frame)
/-- the exception at e, of class cls, its traceback's first entry at T, not in flight -/
def Heap.Tr (h : Heap) (e : Addr) (cls : Value) (T : Addr) : Prop := ∃ oe vs oT ts, h.get? e = some oe ∧ oe.cls = cls ∧ oe.dict = none ∧ oe.data = .fields vs ∧ vs[1]? = some (.ref T) ∧ T ≠ e ∧ h.get? T = some oT ∧ oT.data = .fields ts ∧ ts[3]? = some .none
/-- all but own and the frames is as it was; of the frames the slots alone have changed -/
structure Heap.Gone (fs own : List Addr) (h h' : Heap) : Prop where
  kept : ∀ b o, b ∉ fs → b ∉ own → h.get? b = some o → h'.get? b = some o
  slot : ∀ b o, b ∈ fs → b ∉ own → h.get? b = some o → ∃ sl, h'.get? b = some { o with slots := sl }
section
variable {M : Model} {A : Around} {E : Value → Shared → Prop} {s : Shared}
theorem leave_entry {base : Heap} {env : Env} {outer : List Env} {L e : Addr} {oe : Obj} {vs : Array Value} {head : Value} {nx : Bool} {Q : Unit → Shared → Prop} (hfr : A.frames = some (env :: outer)) (hl : s.heap.FunFrames base (env :: outer)) (hf : env.frame = some L)
    (he : s.heap.get? e = some oe) (hdi : oe.dict = none) (hd : oe.data = .fields vs) (hsz : 1 < vs.size)
    (q : ∀ h' T, Heap.Gone (frsOf (env :: outer)) [e] s.heap h' → s.heap.get? T = none → s.heap.objs.size ≤ T → h'.Tr e oe.cls T → Q () { s with heap := h' }) :
    wpAny M A (do let a ← frameOf env; let pl ← entryPlaceOf L nx; let b ← EntryCells.newEntry head a .none (rawInt L) .none pl; setField (.ref e) 1 b) (fun _ s' => wpAny M A (setFlight (.ref e) none) Q E s') E s := by
  have hene : e ∉ frsOf (env :: outer) := fun hm => by
    obtain ⟨_, o, ho, hnf⟩ := hl.mem hm
    rw [he] at ho; injection ho with ho; subst ho; exact hnf vs hd
  refine wpAny_bind (wpAny_frameOf_fun hfr hl hf fun h₁ hs₁ => ?_)
  refine wpAny_bind (wpAny_entryPlaceOf fun pl hpl => ?_)
  unfold EntryCells.newEntry newFields
  refine wpAny_bind (wpAny_newObj_type ?_ (hpl.sizeOk5 _ _ _ _ _))
  have he₁ : h₁.get? e = some oe := (hs₁.2.1 e hene).trans he
  generalize hrec : ({ cls := .type "traceback", dict := none, data := .fields ([head, .ref L, .none, rawInt L, .none] ++ (if pl.isEmpty then List.replicate 6 Value.none else pl)).toArray } : Obj) = rec
  have hfree : rec.isFreed = false := by subst hrec; rfl
  have hrd : rec.data = .fields ([head, .ref L, .none, rawInt L, .none] ++ (if pl.isEmpty then List.replicate 6 Value.none else pl)).toArray := by subst hrec; rfl
  have he₂ := Heap.get?_push_of_some (h := h₁) rec he₁
  refine wpAny_setField he₂ hd hsz ?_
  have hTe : h₁.objs.size ≠ e := Nat.ne_of_gt (Heap.lt_size he₁)
  have hd₃ := Obj.data_mapFields hd (·.setIfInBounds 1 (Value.ref h₁.objs.size))
  have he₃ := Heap.get?_update_self (Obj.mapFields (·.setIfInBounds 1 (Value.ref h₁.objs.size))) he₂ (Obj.isFreed_of_fields hd₃)
  have hT₃ := (Heap.get?_update_other (h₁.push rec) (Obj.mapFields (·.setIfInBounds 1 (Value.ref h₁.objs.size))) (Ne.symm hTe)).trans (Heap.get?_push_size h₁ hfree)
  unfold setFlight
  refine wpAny_bind (wpAny_field he₃ hd₃ (x := .ref h₁.objs.size) (by simp [hsz]) ?_)
  rw [if_pos (show (Value.ref h₁.objs.size != Value.none) = true from by simp)]
  refine wpAny_setField hT₃ hrd (by simp only [List.size_toArray, List.length_append, List.length_cons, List.length_nil] <;> omega) ?_
  have keep : ∀ b o, b ≠ e → h₁.get? b = some o → (((h₁.push rec).update e (Obj.mapFields (·.setIfInBounds 1 (Value.ref h₁.objs.size)))).update h₁.objs.size (Obj.mapFields (·.setIfInBounds 3 ((none : Option Addr).elim Value.none fun f => rawInt f)))).get? b = some o := fun b o hbe hb => by
    have hbT : h₁.objs.size ≠ b := Nat.ne_of_gt (Heap.lt_size hb)
    rw [Heap.get?_update_other _ _ hbT, Heap.get?_update_other _ _ (Ne.symm hbe)]
    exact Heap.get?_push_of_some _ hb
  refine q _ h₁.objs.size ⟨fun b o hb ho e' => ?_, fun b o hb ho e' => ?_⟩ (Heap.get?_none_of_le (by rw [hs₁.1]; exact Nat.le_refl _)) (by rw [hs₁.1]; exact Nat.le_refl _) ?_
  · exact keep b o (fun z => ho (by rw [z]; exact List.mem_singleton.mpr rfl)) ((hs₁.2.1 b hb).trans e')
  · obtain ⟨sl, e2⟩ := hs₁.2.2 b o e'
    exact ⟨sl, keep b _ (fun z => ho (by rw [z]; exact List.mem_singleton.mpr rfl)) e2⟩
  · refine ⟨_, _, _, _, ?_, Obj.cls_mapFields _ _, (Obj.dict_mapFields _ _).trans hdi, hd₃, by simp [hsz], hTe, Heap.get?_update_self _ hT₃ (Obj.isFreed_of_fields (Obj.data_mapFields hrd _)), Obj.data_mapFields hrd _, by first | (simp; done) | (rcases hpl with rfl | ⟨_, _, _, _, _, _, _, rfl⟩ <;> simp)⟩
    rw [Heap.get?_update_other _ _ hTe]; exact he₃
/-- the frame in which it was raised -/
theorem leave_first {base : Heap} {env : Env} {outer : List Env} {L e : Addr} {oe : Obj} {vs : Array Value} {Q : Unit → Shared → Prop} (hfr : A.frames = some (env :: outer)) (hl : s.heap.FunFrames base (env :: outer)) (hf : env.frame = some L)
    (he : s.heap.get? e = some oe) (hdi : oe.dict = none) (hd : oe.data = .fields vs) (h1 : vs[1]? = some .none)
    (q : ∀ h' T, Heap.Gone (frsOf (env :: outer)) [e] s.heap h' → s.heap.get? T = none → s.heap.objs.size ≤ T → h'.Tr e oe.cls T → Q () { s with heap := h' }) : wpAny M A (leaving env (.ref e)) Q E s := by
  unfold leaving noteFrame
  simp only [hf]
  refine wpAny_bind (wpAny_bind (wpAny_field he hd h1 ?_))
  rw [if_neg (by decide)]
  exact leave_entry hfr hl hf he hdi hd (Array.getElem?_eq_some_iff.mp h1).1 q
/-- a frame that it passes -/
theorem note_next {base : Heap} {env : Env} {outer : List Env} {L e T : Addr} {cls : Value} {Q : Unit → Shared → Prop} (hfr : A.frames = some (env :: outer)) (hl : s.heap.FunFrames base (env :: outer)) (hf : env.frame = some L) (ht : s.heap.Tr e cls T)
    (q : ∀ h' T', Heap.Gone (frsOf (env :: outer)) [e, T] s.heap h' → s.heap.get? T' = none → s.heap.objs.size ≤ T' → h'.Tr e cls T' → Q () { s with heap := h' }) : wpAny M A (noteFrame (.ref e) env) (fun _ s' => wpAny M A (setFlight (.ref e) none) Q E s') E s := by
  obtain ⟨oe, vs, oT, ts, he, hcls, hdi, hd, h1, hTe, hT, hdT, h3⟩ := ht
  subst hcls
  unfold noteFrame
  simp only [hf]
  refine wpAny_bind (wpAny_field he hd h1 ?_)
  rw [if_pos (show (Value.ref T != Value.none) = true from by simp)]
  refine wpAny_bind (wpAny_field hT hdT h3 ?_)
  rw [if_neg (show ¬ ((Value.none == rawInt L) = true) from by simp [rawInt])]
  refine wpAny_bind (wpAny_setField hT hdT (Array.getElem?_eq_some_iff.mp h3).1 ?_)
  have other : ∀ b, b ≠ T → (s.heap.update T (Obj.mapFields (·.setIfInBounds 3 Value.none))).get? b = s.heap.get? b := fun b hb => Heap.get?_update_other _ _ (Ne.symm hb)
  have noRec : ∀ b o, s.heap.get? b = some o → (∀ vs, o.data ≠ .fields vs) → b ≠ T := fun b o hb hnf z => by
    rw [z, hT] at hb; injection hb with hb; subst hb; exact hnf ts hdT
  have hsz : (s.heap.update T (Obj.mapFields (·.setIfInBounds 3 Value.none))).objs.size = s.heap.objs.size := Heap.size_after_update ..
  refine leave_entry (s := { s with heap := s.heap.update T (Obj.mapFields (·.setIfInBounds 3 Value.none)) }) hfr (hl.of_keeps fun b o hb hnf => ⟨o, (other b (noRec b o hb hnf)).trans hb, rfl⟩) hf ((other e (Ne.symm hTe)).trans he) hdi hd (Array.getElem?_eq_some_iff.mp h1).1 fun h' T' g n le tr => ?_
  have le' : s.heap.objs.size ≤ T' := by rw [← hsz]; exact le
  refine q h' T' ⟨fun b o hb ho e' => ?_, fun b o hb ho e' => ?_⟩ (Heap.get?_none_of_le le') le' tr
  · have hbT : b ≠ T := fun z => ho (by simp [z])
    exact g.kept b o hb (fun z => ho (by simp [List.mem_singleton.mp z])) ((other b hbT).trans e')
  · have hbT : b ≠ T := fun z => ho (by simp [z])
    exact g.slot b o hb (fun z => ho (by simp [List.mem_singleton.mp z])) ((other b hbT).trans e')
end
end PySem

namespace L2
open PySem PySem.Spec PyProof.Rows
section
variable {P : Program} {w : World} {H H' : Hp} {h h' h1 h2 : Heap} {a : Addr} {o : HO} {fs own : List Addr}
theorem ObjOk.at (x : ObjOk P w H h a o) : ∃ u, h.get? a = some u := by
  cases o with
  | lst xs => obtain ⟨_, _, _, _, e⟩ := x; exact ⟨_, e⟩
  | tup xs => obtain ⟨_, _, _, ⟨_, e, _⟩⟩ := x; exact ⟨_, e⟩
  | dK kvs => obtain ⟨_, _, _, _, o, _, _, e, _⟩ := x; exact ⟨_, e⟩
  | dT kvs => obtain ⟨_, _, _, _, o, _, _, e, _⟩ := x; exact ⟨_, e⟩
  | set S n => obtain ⟨o, _, _, _, e, _⟩ := x; exact ⟨_, e⟩
  | ins C dx fs => obtain ⟨_, _, _, e, _⟩ := x; exact ⟨_, e⟩
  | own y => obtain ⟨_, e⟩ := x; exact ⟨_, e⟩
  | xd fs => obtain ⟨_, ⟨_, _, _, e, _⟩, _⟩ := x; exact ⟨_, e⟩
  | rng lo hi => obtain ⟨_, _, _, e⟩ := x; exact ⟨_, e⟩
  | frz ob u => obtain ⟨e, _⟩ := x; exact ⟨_, e⟩
  | tbl ps => exact ⟨_, (show h.get? a = some _ from x)⟩
  | met f y => exact ⟨_, (show h.get? a = some _ from x)⟩
  | ext φ => obtain ⟨_, ⟨_, e⟩, _⟩ := x; exact ⟨_, e⟩
theorem HOk.out (x : HOk P w H h) (e : h.get? a = none) : H a = none := by
  cases q : H a with
  | none => rfl
  | some u => obtain ⟨v, z⟩ := ObjOk.at (x a u q); rw [e] at z; cases z
theorem gone_un (u : Un fs [] H H' h h1) (g : Heap.Gone fs own h1 h2) (hn : ∀ b ∈ own, h.get? b = none) : Un fs [] H H' h h2 := by
  have no : ∀ b o, h.get? b = some o → b ∉ own := fun b o e z => by rw [hn b z] at e; cases e
  refine ⟨fun b o e n hf hx => g.kept b o hf (no b o e) (u.keep b o e n hf hx), fun b o e n hf hx => ?_, u.free, fun b o e hx => ?_, u.tups, u.frzs, u.tbls⟩
  · obtain ⟨sl, q⟩ := u.slot b o e n hf hx
    obtain ⟨sl', q'⟩ := g.slot b _ hf (no b o e) q
    exact ⟨sl', q'⟩
  · obtain ⟨o', q⟩ := u.there b o e hx
    by_cases hf : b ∈ fs
    · obtain ⟨sl', q'⟩ := g.slot b _ hf (no b o e) q
      exact ⟨_, q'⟩
    · exact ⟨_, g.kept b _ hf (no b o e) q⟩
theorem gone_hok (x : HOk P w H h) (g : Heap.Gone fs own h h2) (hf : ∀ b ∈ fs, H b = none) (ho : ∀ b ∈ own, H b = none) : HOk P w H h2 := fun b u e => by
  refine (x b u e).stay (fun c v hc q => ?_) (fun _ q => q) fun _ _ q => q
  have hs : ∃ z, H c = some z := by
    rcases hc with z | z
    · rw [z]; exact ⟨_, e⟩
    · exact ⟨_, z⟩
  obtain ⟨z, hz⟩ := hs
  exact g.kept c v (fun m => by rw [hf c m] at hz; cases hz) (fun m => by rw [ho c m] at hz; cases hz) q
end

/-- an exception behind a call: new, of an own class, not tracked, the heap's change known -/
def CX1 (P : Program) (w : World) : CXT := fun outer H s E e s' => ∃ ea T C H', e = .ref ea ∧ s'.os = s.os ∧ AllBare s'.gens ∧ Un (frs outer) [] H H' s.heap s'.heap ∧ HOk P w H' s'.heap ∧ H' ea = none ∧ H' T = none ∧
  s.heap.get? ea = none ∧ s.heap.get? T = none ∧ s'.heap.Tr ea (.ref C) T ∧ E (.ref C) none H'
/-- a new exception may leave -/
def Lets (X : Cx) (E : XK) : Prop := ∀ (pins : List (Addr × Obj)) (σ : St) (H : Hp) (s : Shared) (h' : Heap) (e C : Addr) (args : List Value), Inv X pins σ H s → Heap.MadeExcOf s.heap h' e (.ref C) args → E (.ref C) none H → X.xe (.ref e) { s with heap := h' }
section
variable {P : Program} {w : World} {K : PySem.W.Frag} {mg : Str → Option Value} {base : Heap} {N : List Str} {qual : Str} {scope : Scope} {f : Addr} {cd : Value} {A : Around} {outer : List Env} {s : Shared} {H : Hp} {E : XK}
theorem lets1 : Lets (cxOf (CX1 P w) P w K mg base N qual scope f cd A outer s H E) E := by
  intro pins σ H1 s1 h' e C args I hm hE
  obtain ⟨t, ho, _, _⟩ := hm.there
  have I1 : Inv (cxOf (CX1 P w) P w K mg base N qual scope f cd A outer s H E) pins σ H1 { s1 with heap := h' } := I.kept (t' := s1.toks) hm.keeps
  show wpAny _ _ (leaving _ _) _ _ _
  refine leave_first (s := { s1 with heap := h' }) I.ok.frames I1.stack rfl ho rfl rfl (by simp) fun h2 T g nT _ tr => ?_
  have He : H1 e = none := I.hok.out hm.new
  have HT : H1 T = none := I1.hok.out nT
  have un : Un (frs (cxOf (CX1 P w) P w K mg base N qual scope f cd A outer s H E).stack) [] H1 H1 s1.heap h2 := gone_un (Un.kept hm.keeps) g (fun b hb => by rw [List.mem_singleton.mp hb]; exact hm.new)
  have hk : HOk P w H1 h2 := gone_hok I1.hok g I1.stkFree (fun b hb => by rw [List.mem_singleton.mp hb]; exact He)
  have I2 : Inv (cxOf (CX1 P w) P w K mg base N qual scope f cd A outer s H E) pins σ H1 { s1 with heap := h2 } := I.call (g' := s1.gens) (t' := s1.toks) (d' := s1.drawn) (ch := []) un hk I.bare (fun b z => absurd z (by simp))
  have back : ∀ b, s1.heap.get? b = none → s.heap.get? b = none := fun b hb => by
    cases q : s.heap.get? b with
    | none => rfl
    | some o =>
      obtain ⟨o', z⟩ := I.base.there b o q (by show b ∉ []; simp)
      rw [hb] at z; cases z
  have nT1 : s1.heap.get? T = none := by
    cases q : s1.heap.get? T with
    | none => rfl
    | some o => have z := hm.keeps T o q; rw [show h'.get? T = none from nT] at z; cases z
  exact ⟨e, T, C, H1, rfl, I.os, I.bare, I2.base, hk, He, HT, back e hm.new, back T nT1, tr, hE⟩
end
/-- THE RULE for a def out of which an exception may come -/
theorem Fun.ok1 {P : Program} {w : World} {K : PySem.W.Frag} {mg : Str → Option Value} {base : Heap} {x qual : Str} {st : Stmt} {f : Addr} {fd : FuncData} {N ps : List Str} {k : Nat} {sp : Sp} (F : Fun K x qual st f fd) (S : FnScope N ps (defScope st)) (len : ∀ vs H Q E, sp vs H Q E → vs.length = ps.length)
    (hbody : ∀ (cdv : Value) (A : Around) (outer : List Env) (s : Shared) (H : Hp) (vs : List V) (Q : VK) (E : XK), Room k (A.deeper (envOfC qual (defScope st) s.heap.objs.size f cdv)) → sp vs H Q E →
      ∃ t, PSs (cxOf (CX1 P w) P w K mg base N qual (defScope st) f cdv A outer s H E) (defBody st) t ∧ t { nx := fun _ H' => Q .non H', rt := Q } (start N vs) H) : FnOk P w K mg base (CX1 P w) (k + 1) f fd ps sp := by
  obtain ⟨oc, od, kV, doc, pm, an, cdv, ct, osl, rfl, lk, hcd⟩ := F.ex
  exact fn_of lk hcd S len fun A outer s H vs Q E hr hsp => hbody cdv A outer s H vs Q E hr hsp
end L2

set_option maxRecDepth 100000
namespace L2
open PySem PySem.Spec PyProof.Rows
abbrev vErr : List Value := [.type "ValueError", .type "Exception", .type "BaseException", .type "object"]
abbrev OwnExc (K : PySem.W.Frag) (C : Addr) : Prop := PySem.W.excIn K C vErr "ValueError.__new__" = true
theorem exc_at {K : PySem.W.Frag} {h : Heap} {C : Addr} (X : K.In h) (q : OwnExc K C) : ∃ bm N nm qn bs hdct sn sub ab col dd k0 k1 k2 k3 k5 mN,
    h.get? C = some (excClassObj nm qn C N bs bm hdct sn sub ab col dd k0 k1 k2 k3 k5 "ValueError.__new__") ∧ h.Ns N mN ∧ mN "__init__" = none ∧ OwnTail h vErr bm := by
  unfold OwnExc PySem.W.excIn at q
  split at q
  · rename_i dd cd sl ho
    split at q
    · rename_i C' bm k0 k1 k2 k3 n k5 hm hs
      simp only [Bool.and_eq_true, beq_iff_eq, Bool.not_eq_true'] at q
      obtain ⟨⟨⟨⟨⟨rfl, rfl⟩, hdel⟩, ht⟩, hok⟩, hni⟩ := q
      obtain ⟨nm, bs, mro, ns, qn, hd, sn, sub, ab, col, del⟩ := cd
      dsimp only at hm hdel hok hni
      subst hm hdel
      have hsl : sl = #[k0, k1, k2, k3, some (.builtin "ValueError.__new__"), k5] := by
        obtain ⟨l⟩ := sl
        simp only at hs
        rw [hs]
      subst hsl
      exact ⟨bm, ns, nm, qn, bs, hd, sn, sub, ab, col, dd, k0, k1, k2, k3, k5, _, X _ _ ho, .of_isNs (PySem.W.isNs_of_in X hok), PySem.W.nsMap_none_of_in X hok hni, PySem.W.tail_of_in X ht⟩
    · cases q
  · cases q

section
variable {X : Cx} {E : XK} {C : Addr} {x : Str} {np cpos pos : Pos} {e : Expr} {es : List Expr} {t : TA}
/-- raise C(e, ..) -/
def tRaise (C : Addr) (E : XK) (t : TA) : TS := fun _ σ H => t σ H fun vs H1 => vs.length ≤ 9 ∧ E (.ref C) none H1
theorem ps_raise (hc : X.calm = true) (hl : Lets X E) (q : OwnExc X.K C) (hg : Gl X x) (hm : X.mg x = some (.ref C)) (ha : PA X (e :: es) t) (hdb : (x == ("__debug__" : Str)) = false := by decide)
    (he : starEach (e :: es) X.env = (false, eval e X.env) :: starEach es X.env := by rfl) (hpl : (backTo cpos (starEach es X.env)).any (·.1) = false := by rfl) :
    PS X (.Raise (some (.Call (.Name x np) (e :: es) [] cpos)) none pos) (tRaise C E t) := by
  intro pins s σ H D I h
  obtain ⟨tl, N, nm, qn, bs, hdct, sn, sub, ab, col, dd, k0, k1, k2, k3, k5, mN, hC, hN, hni, T⟩ := exc_at I.mod.kin q
  have F := PySem.F.excBase_ValueError
  refine wpAny_Raise_call_subU (C := C) (nm := nm) (q := qn) (N := N) (bs := bs) (bm := tl) (hdct := hdct) (sn := sn) (sub := sub) (ab := ab) (col := col) (dd := dd) (k0 := k0) (k1 := k1) (k2 := k2) (k3 := k3) (k5 := k5)
    F F.hasB F (mN := mN) (T.hasType F.hasBase) (I.ok.hd hc) (by rw [he]; show (false || (backTo cpos (starEach es X.env)).any (·.1)) = false; rw [hpl]; rfl) hni (ld_glob I hg hm ⟨rfl, ?_⟩ hdb)
  have h2 := ha cpos pins s σ H _ I h
  rw [he] at h2 ⊢
  refine Calls.evalArgs_plain (wpAny_mono h2 (fun vs s2 h3 => ?_) fun _ _ y => y)
  obtain ⟨us, H2, I2, r, hlen, hE⟩ := h3
  refine ⟨rfl, ?_, I2.bk _ _ hC, hN.keeps I2.bk, T.keeps I2.bk, fun h' e hm => hl pins σ H2 s2 h' e C vs I2 hm hE⟩
  show vs.length ≤ sizeLine
  rw [← r.length]; exact Nat.le_trans hlen (by decide)
end

def XP (X : Cx) (pins : List (Addr × Obj)) (σ : St) (E : XK) (e : Value) (s' : Shared) : Prop := ∃ s1 H1, Inv X pins σ H1 s1 ∧ CX1 X.prog X.w X.stack H1 s1 E e s'
abbrev TEx := St → Hp → VK → XK → Prop
def PEx (X : Cx) (e : Expr) (t : TEx) : Prop := ∀ (pins : List (Addr × Obj)) (s : Shared) (σ : St) (H : Hp) (Q : VK) (E : XK), Inv X pins σ H s → t σ H Q E → wpAny (model X.prog X.w) X.A (eval e X.env) (EP X pins σ Q) (XP X pins σ E) s
section
variable {X : Cx} {k : Nat} {f C : Addr} {fd : FuncData} {ps : List Str} {sp : Sp} {dvs : List V} {ds : List Value} {x m : Str} {p pos apos : Pos} {e o : Expr} {es : List Expr} {ta : TE} {t : TA}
theorem run_fnx {pins : List (Addr × Obj)} {σ : St} {H : Hp} {s : Shared} {Q : VK} {E : XK} {us : List Value} {vs : List V} (F : FnOk X.prog X.w X.K X.mg X.base (CX1 X.prog X.w) k f fd ps sp) (hr : Room k X.A) (hb : Binds X.K fd ps ds) (hd : Vals dvs ds)
    (I : Inv X pins σ H s) (r : Vals vs us) (h : sp (vs ++ dvs) H Q E) : wpAny (model X.prog X.w) X.A (call (.ref f) us) (EP X pins σ Q) (XP X pins σ E) s := by
  have r2 : Vals (vs ++ dvs) (us ++ ds) := r.append hd
  have hl : (us ++ ds).length = ps.length := by rw [← r2.length]; exact F.len _ _ _ _ h
  refine wpAny_call (codeAny_mono (F.run X.A X.stack s H ⟨us, []⟩ (us ++ ds) (vs ++ dvs) Q E hr I.env0 (hb s us I.kIn hl) r2 h) fun r s' hq => ?_)
  cases r with
  | error e => exact ⟨s, H, I, hq⟩
  | ok fl =>
    cases fl with
    | ret u => exact I.after hq
    | next => exact False.elim hq
    | brk => exact False.elim hq
    | cont => exact False.elim hq
def tCallX (sp : Sp) (dvs : List V) (t : TA) : TEx := fun σ H Q E => t σ H fun vs H1 => sp (vs ++ dvs) H1 Q E
theorem pex_call (F : FnOk X.prog X.w X.K X.mg X.base (CX1 X.prog X.w) k f fd ps sp) (hr : Room k X.A) (hg : Gl X x) (hm : X.mg x = some (.ref f)) (hk : PySem.W.keepIn X.K (.ref f) = true) (hb : Binds X.K fd ps ds) (hd : Vals dvs ds)
    (ha : PA X.nox (e :: es) t) (hdb : (x == ("__debug__" : Str)) = false := by decide) (he : starEach (e :: es) X.env = (false, eval e X.env) :: starEach es X.env := by rfl) (hpl : (backTo pos (starEach es X.env)).any (·.1) = false := by rfl) :
    PEx X (.Call (.Name x p) (e :: es) [] pos) (tCallX sp dvs t) := by
  intro pins s σ H Q E I h
  refine wpAny_Call_Name_kw (ld_glob I hg hm ?_ hdb)
  refine PySem.W.callWith_K (h₀ := X.base) I.ok.mod.kin hk (wpAny_mono (ha pos pins s σ H _ (I.wish _) h) (fun us s1 ⟨vs, H1, I1, r, q⟩ => ⟨I1.unwish.kIn, ?_⟩) fun _ _ z => False.elim z) he hpl
  exact run_fnx F hr hb hd I1.unwish r q
end

/-- an exception that is caught: as it lies -/
structure Caught (X : Cx) (pins : List (Addr × Obj)) (σ : St) (H : Hp) (s : Shared) (ea T C : Addr) : Prop where
  inv : Inv X pins σ H s
  from_ : ∃ s1 H1, Inv X pins σ H1 s1 ∧ s.os = s1.os ∧ Un (frs X.stack) [] H1 H s1.heap s.heap ∧ s1.heap.get? ea = none ∧ s1.heap.get? T = none
  he : H ea = none
  hT : H T = none
  tr : s.heap.Tr ea (.ref C) T
section
variable {X : Cx} {pins : List (Addr × Obj)} {σ : St} {H : Hp} {s : Shared} {ea T T' C : Addr} {h' : Heap}
theorem Inv.new (I : Inv X pins σ H s) {b : Addr} (n : s.heap.get? b = none) : b ≠ X.env.locals ∧ b ∉ X.fs ∧ ∀ p ∈ X.pn ++ pins, p.1 ≠ b := by
  refine ⟨fun z => ?_, fun z => ?_, fun p hp z => ?_⟩
  · obtain ⟨m, ⟨o, es, ep, ho, _⟩, _⟩ := I.loc
    rw [z, ho] at n; cases n
  · obtain ⟨_, o, ho, _⟩ := I.funs.mem z
    rw [n] at ho; cases ho
  · have q := (I.pin p hp).1
    rw [z, n] at q; cases q
/-- its records have turned -/
theorem Caught.gone (c : Caught X pins σ H s ea T C) (g : Heap.Gone (frs X.stack) [ea, T] s.heap h') (hn : T' = T ∨ s.heap.get? T' = none) (tr : h'.Tr ea (.ref C) T') : Caught X pins σ H { s with heap := h' } ea T' C := by
  obtain ⟨s1, H1, I1, os, un, ne, nT⟩ := c.from_
  have un2 := gone_un un g (fun b hb => by
    rcases List.mem_cons.mp hb with z | z
    · rw [z]; exact ne
    · rw [List.mem_singleton.mp z]; exact nT)
  have hk : HOk X.prog X.w H h' := gone_hok c.inv.hok g c.inv.stkFree (fun b hb => by
    rcases List.mem_cons.mp hb with z | z
    · rw [z]; exact c.he
    · rw [List.mem_singleton.mp z]; exact c.hT)
  have nT' : s1.heap.get? T' = none := by
    rcases hn with z | z
    · rw [z]; exact nT
    · cases q : s1.heap.get? T' with
      | none => rfl
      | some o =>
        obtain ⟨o', q'⟩ := un.there T' o q (by simp)
        rw [z] at q'; cases q'
  refine ⟨I1.call' (s' := { s with heap := h' }) (ch := []) os un2 hk c.inv.bare (fun b z => absurd z (by simp)), ⟨s1, H1, I1, os, un2, ne, nT'⟩, c.he, ?_, tr⟩
  rcases hn with z | z
  · rw [z]; exact c.hT
  · exact c.inv.hok.out z
theorem caught_flight {M : Model} {A : Around} {E : Value → Shared → Prop} {Q : Unit → Shared → Prop} (c : Caught X pins σ H s ea T C) (q : ∀ h', Caught X pins σ H { s with heap := h' } ea T C → Q () { s with heap := h' }) : wpAny M A (setFlight (.ref ea) none) Q E s := by
  obtain ⟨oe, vs, oT, ts, he, hcls, hdi, hd, h1, hTe, hT, hdT, h3⟩ := id c.tr
  refine wpAny_setFlight_none he hd h1 hT hdT (Array.getElem?_eq_some_iff.mp h3).1 (q _ ?_)
  have other : ∀ b, b ≠ T → (s.heap.update T (Obj.mapFields (·.setIfInBounds 3 Value.none))).get? b = s.heap.get? b := fun b hb => Heap.get?_update_other _ _ (Ne.symm hb)
  have hd' := Obj.data_mapFields hdT (·.setIfInBounds 3 Value.none)
  refine c.gone ⟨fun b o hf ho e => (other b fun z => ho (by simp [z])).trans e, fun b o hf ho e => ⟨o.slots, (other b fun z => ho (by simp [z])).trans e⟩⟩ (.inl rfl)
    ⟨oe, vs, _, _, (other ea (Ne.symm hTe)).trans he, hcls, hdi, hd, h1, hTe, Heap.get?_update_self _ hT (Obj.isFreed_of_fields hd'), hd', ?_⟩
  simp [(Array.getElem?_eq_some_iff.mp h3).1]
/-- it is noted in the frame of the try -/
theorem caught_note {M : Model} {E : Value → Shared → Prop} {Q : Unit → Shared → Prop} {EX : XK} {e : Value} (hst : X.stack = X.env :: X.outer) (hf : X.env.frame = some X.env.locals) (h : XP X pins σ EX e s)
    (q : ∀ ea T C H' h', e = .ref ea → EX (.ref C) none H' → Caught X pins σ H' { s with heap := h' } ea T C → Q () { s with heap := h' }) :
    wpAny M X.A (noteFrame e X.env) (fun _ s' => wpAny M X.A (setFlight e none) Q E s') E s := by
  obtain ⟨s1, H1, I1, ea, T, C, H2, rfl, os, bare, un, hok, He, HT, ne, nT, tr, hE⟩ := h
  have I2 : Inv X pins σ H2 s := I1.call' (ch := []) os un hok bare (fun b z => absurd z (by simp))
  have c : Caught X pins σ H2 s ea T C := ⟨I2, ⟨s1, H1, I1, os, un, ne, nT⟩, He, HT, tr⟩
  refine note_next (base := X.base) (env := X.env) (outer := X.outer) (by rw [I2.ok.frames, hst]) (by have := I2.stack; rwa [hst] at this) hf tr fun h3 T' g nT' _ tr' => q ea T' C H2 h3 rfl hE (c.gone (T' := T') ?_ (.inr nT') tr')
  rw [hst]; exact g
end

abbrev TSx := Ends → (St → XK) → St → Hp → Prop
def PSx (X : Cx) (b : List Stmt) (t : TSx) : Prop := ∀ (pins : List (Addr × Obj)) (s : Shared) (σ : St) (H : Hp) (D : Ends) (E : St → XK), Inv X pins σ H s → t D E σ H → wpAny (model X.prog X.w) X.A (execs b X.env) (SP X pins D) (fun e s' => ∃ σ', XP X pins σ' (E σ') e s') s
/-- handlers: an exception of class C is caught -/
def PH (X : Cx) (hs : List ExceptHandler) (t : Addr → TS) : Prop := ∀ (pins : List (Addr × Obj)) (s : Shared) (σ : St) (H : Hp) (D : Ends) (ea T C : Addr), Caught X pins σ H s ea T C → t C D σ H → wpAny (model X.prog X.w) X.A (handleBy (.ref ea) X.env hs) (SP X pins D) X.xe s
def tTry (tb : TSx) (th : Addr → TS) : TS := fun D σ H => tb D (fun σ' v _ H' => ∃ C, v = .ref C ∧ th C D σ' H') σ H
section
variable {X : Cx} {b : List Stmt} {h₀ : ExceptHandler} {hs : List ExceptHandler} {tb : TSx} {th : Addr → TS} {pos : Pos} {e : Expr} {te : TEx}
theorem ps_try (hb : PSx X b tb) (hh : PH X (h₀ :: hs) th) (hst : X.stack = X.env :: X.outer := by rfl) (hf : X.env.frame = some X.env.locals := by rfl) : PS X (.Try b (h₀ :: hs) [] [] pos) (tTry tb th) := by
  intro pins s σ H D I h
  refine wpAny_Try_except (wpAny_mono (hb pins s σ H D _ I h) (fun fl s1 h1 => ?_) fun e s1 h1 => ?_)
  · cases fl with
    | next => exact wpAny_execs_nil h1
    | brk => exact h1
    | cont => exact h1
    | ret u => exact h1
  · obtain ⟨σ', hx⟩ := h1
    refine caught_note hst hf hx fun ea T C H' h' e1 hE c => ?_
    subst e1
    obtain ⟨C', hC, ht⟩ := hE
    cases hC
    exact hh pins _ σ' H' D ea T C c ht
theorem psx_expr {pos : Pos} (he : PEx X e te) (hs : swapsWith e none pos.line X.env = pure false := by rfl) : PSx X [.Expr e pos] (fun D E σ H => te σ H (fun _ H' => D.nx σ H') (E σ)) := by
  intro pins s σ H D E I h
  refine wpAny_execs_cons (wpAny_Expr_any (wpAny_mono (he pins s σ H _ _ I h) (fun u s1 h1 => ?_) fun e s1 h1 => ⟨σ, h1⟩) I.quiet hs)
  obtain ⟨v, H', I', r, q⟩ := h1
  exact wpAny_execs_nil ⟨σ, H', I', q⟩
end
end L2

set_option maxRecDepth 100000
namespace L2
open PySem PySem.Spec PyProof.Rows
/-- what the fragment says of a class of exceptions -/
structure ExcK (K : PySem.W.Frag) (C : Addr) : Prop where
  own : OwnExc K C
  cl : (PySem.W.clsIn K C).isSome = true
  ga : PySem.W.findIn K (.ref C) "__getattribute__" = some (some (.builtin "BaseException.__getattribute__"))
  gb : PySem.W.findIn K (.ref C) "__getattr__" = some none
  cc : PySem.W.findIn K (.ref C) "__class__" = some (some (.builtin "object.__class__"))
  mb : PySem.W.mroIn K C (.type "BaseException") = some true
  mo : PySem.W.mroIn K C (.type "object") = some true
section
variable {prog : Program} {w : World} {A : Around} {E : Value → Shared → Prop} {h : Heap} {g : Array GenState} {d : Drawn} {t : Nat} {os : OsState} {a C : Addr} {o : Obj} {K : PySem.W.Frag}
theorem exc_check {M : Model} {nameV : Value} {Q : Unit → Shared → Prop} (X : K.In h) (c : ExcK K C) (I : PySem.W.InstAt h a o C none) (hq : Q () ⟨h, g, d, t, os⟩) : wpAny M A (checkBuiltinCall "BaseException.__getattribute__" ⟨[.ref a, nameV], []⟩) Q E ⟨h, g, d, t, os⟩ := by
  have hk : builtinKind "BaseException.__getattribute__" = some .slot := by decide +kernel
  have hsplit : splitId "BaseException.__getattribute__" = some ("BaseException", "__getattribute__") := by decide +kernel
  have ha := F.args_bexc_ga (.ref a) nameV
  have L0 := I.type (M := M)
  have L1 := PySem.W.looks_mroIn (M := M) X c.mb
  simp only [checkBuiltinCall, hk, hsplit]
  refine wpAny_bind ?_
  · unfold isInstance
    repeat (first | with_reducible refine L0.at ?_ | with_reducible refine L1.at ?_ | wp_step)
    exact hq
theorem exc_entry {tk : Tok} {Q : Fin → Shared → Prop} (X : K.In h) (c : ExcK K C) (I : PySem.W.InstAt h a o C none) (hq : Q (.done (.ret (.ref C))) ⟨h, g, d, t, os⟩) :
    wpAny (model prog w) A (Builtin.«object.__getattribute__» ⟨[.ref a, .str "__class__" tk], []⟩) Q E ⟨h, g, d, t, os⟩ := by
  have hT5 : (⟨h, g, d, t, os⟩ : Shared).TypeIs (.builtin "object.__class__") "getset_descriptor" := F.typeOf_object_class
  have f5 := F.typeOf_object_class
  have f6 := F.slot_gs_get.lookup
  have f7 := F.slot_gs_set.lookup
  have L0 := I.type (M := model prog w)
  have L1 := PySem.W.looks_findIn (M := model prog w) X c.cc
  repeat (any_goals (first | assumption | with_reducible refine L0.at ?_ | with_reducible refine L1.at ?_ | wp_step))
  refine PySem.W.class_get (s := ⟨h, g, d, t, os⟩) X I c.mo ?_
  repeat (any_goals (first | assumption | wp_step))
theorem exc_by {tk : Tok} {Q : Value → Shared → Prop} (X : K.In h) (c : ExcK K C) (I : PySem.W.InstAt h a o C none) (hq : Q (.ref C) ⟨h, g, d, t, os⟩) : wpAny (model prog w) A (getAttrBy (.ref a) (.str "__class__" tk) false) Q E ⟨h, g, d, t, os⟩ := by
  have f3 := PySem.F.attr_ValueError.ga.bind (.ref a)
  have hx2 : (Value.builtin "BaseException.__getattribute__" == Value.builtin "object.__getattribute__") = false := by decide +kernel
  have hx1 : (onTheHeap (Value.ref C) && Value.builtin "BaseException.__getattribute__" == Value.builtin "object.__getattribute__") = false := by rw [hx2]; rfl
  have L0 := I.type (M := model prog w)
  have L1 := PySem.W.looks_findIn (M := model prog w) X c.ga
  have L2 := PySem.W.looks_findIn (M := model prog w) X c.gb
  repeat (any_goals (first | assumption | with_reducible refine L0.at ?_ | with_reducible refine L1.at ?_ | with_reducible refine L2.at ?_ | wp_step))
  refine codeAny_call_builtin PySem.F.attr_ValueError.ga.plain F.entry_bexc_ga (exc_check X c I (exc_entry X c I ?_))
  repeat (any_goals (first | assumption | wp_step))
theorem exc_class {Q : Option Value → Shared → Prop} (X : K.In h) (c : ExcK K C) (I : PySem.W.InstAt h a o C none) (hq : Q (some (.ref C)) ⟨h, g, d, t + 1, os⟩) : wpAny (model prog w) A (getAttr? (.ref a) "__class__") Q E ⟨h, g, d, t, os⟩ := by
  unfold getAttr? getAttrBy?
  repeat (any_goals (first | assumption | with_reducible apply exc_by X c I | wp_step))
theorem kitx_exc (c : ExcK K C) : PySem.W.KitX K (.ref a) (.ref C) (fun h => ∃ o, PySem.W.InstAt h a o C none) where
  ty := fun _ _ _ ⟨_, I⟩ => I.type
  it := fun _ _ X _ => by
    have hcD := c.cl
    unfold PySem.W.clsIn at hcD
    split at hcD
    · rename_i c' d' cd' sl' ho
      intro A' Q' E' s' k q
      unfold isType loadHead
      exact wpAny_bind (wpAny_loadPart (k _ _ (X _ _ ho)) (wpAny_pure q))
    · cases hcD
  ne := fun h tp dd its n sl X htp => by
    have hcD := c.cl
    refine Bool.eq_false_iff.mpr fun q => ?_
    have e : C = tp := Value.ref.inj (beq_iff_eq.mp q)
    subst e
    unfold PySem.W.clsIn at hcD
    split at hcD
    · rename_i c' d' cd' sl' ho
      have z := (X _ _ ho).symm.trans htp
      cases z
    · cases hcD
  ca := fun {_ _ _ _ _ s} X ⟨_, I⟩ k => by obtain ⟨h, g, d, t, os⟩ := s; exact exc_class X c I k
theorem exc_matches {M : Model} {C' : Addr} {b : Bool} {Q : Bool → Shared → Prop} (X : K.In h) (I : PySem.W.InstAt h a o C none) (ty : PySem.W.typeIn K (.ref C') = some (.type "type")) (cl : (PySem.W.clsIn K C').isSome = true) (mb : PySem.W.mroIn K C' (.type "BaseException") = some true) (e : PySem.W.mroIn K C (.ref C') = some b)
    (hq : Q b ⟨h, g, d, t, os⟩) : wpAny M A (excMatches (.ref a) (.ref C')) Q E ⟨h, g, d, t, os⟩ := by
  have f := tc_notTuple
  have L0 := I.type (M := M)
  have L1 := PySem.W.looks_typeIn (M := M) X ty
  have L2 := PySem.W.looks_mroIn (M := M) X mb
  have L3 := PySem.W.looks_mroIn (M := M) X e
  have L4 : PySem.W.Looks M h (isType (.ref C')) true := by
    unfold PySem.W.clsIn at cl
    split at cl
    · rename_i c' d' cd' sl' ho
      intro A' Q' E' s' k q
      unfold isType loadHead
      exact wpAny_bind (wpAny_loadPart (k _ _ (X _ _ ho)) (wpAny_pure q))
    · cases cl
  unfold excMatches isInstance isExcClass
  repeat (first | with_reducible refine L0.at ?_ | with_reducible refine L1.at ?_ | with_reducible refine L2.at ?_ | with_reducible refine L3.at ?_ | with_reducible refine L4.at ?_ | wp_step)
  cases b <;> first | exact hq | (wp_walk; exact hq) | skip
end

abbrev Cx.hand (X : Cx) (ea : Addr) (pn' : List (Addr × Obj)) : Cx := { X with A := X.A.mark (some (.ref ea)), calm := false, pn := pn', xe := fun _ _ => False }
section
variable {X : Cx} {pins l : List (Addr × Obj)} {σ : St} {H : Hp} {s : Shared} {ea T C : Addr} {h' : Heap} {oe : Obj}
theorem Caught.inst (c : Caught X pins σ H s ea T C) : ∃ oe, PySem.W.InstAt s.heap ea oe C none ∧ ∀ v, oe.data ≠ .cell v := by
  obtain ⟨oe, vs, oT, ts, he, hcls, hdi, hd, _⟩ := c.tr
  refine ⟨oe, ⟨he, hcls, ?_, ?_⟩, fun v z => ?_⟩
  · unfold PySem.W.notCls; rw [hd]
  · rw [hdi]; trivial
  · rw [hd] at z; cases z
theorem Cx.Ok.hand (ok : X.Ok) (pn' : List (Addr × Obj)) : (X.hand ea pn').Ok :=
  ⟨ok.mod, ok.kind, ok.glob, ok.blt, ok.above, ok.inj, ok.has, ok.cab, fun z => Bool.noConfusion z, ok.frames, ok.stk, ok.exf, ok.bs, ok.bsz, ok.noex, ok.exfs, ok.funs, ok.frf⟩
theorem Caught.hand (c : Caught X pins σ H s ea T C) (I : PySem.W.InstAt s.heap ea oe C none) (nc : ∀ v, oe.data ≠ .cell v) : Inv (X.hand ea (X.pn ++ pins ++ [(ea, oe)])) [] σ H s := by
  have J := c.inv
  refine ⟨J.ok.hand _, J.os, J.bare, J.base, J.loc, J.cell, J.free, J.freeC, fun p hp => ?_, J.hok, J.len⟩
  have hp' : p ∈ X.pn ++ pins ∨ p = (ea, oe) := by
    rcases List.mem_append.mp hp with z | z
    · rcases List.mem_append.mp z with z | z
      · exact .inl z
      · exact .inr (List.mem_singleton.mp z)
    · cases z
  rcases hp' with z | z
  · exact J.pin p z
  · subst z
    obtain ⟨s1, H1, I1, _, _, ne, _⟩ := c.from_
    obtain ⟨n1, n2, _⟩ := I1.new ne
    exact ⟨I.at_, c.he, n1, n2, nc⟩
theorem Inv.unhand (ok : X.Ok) (J : Inv (X.hand ea (X.pn ++ pins ++ l)) [] σ H s) : Inv X pins σ H s :=
  ⟨ok, J.os, J.bare, J.base, J.loc, J.cell, J.free, J.freeC, fun p hp => J.pin p (List.mem_append_left _ (List.mem_append_left _ hp)), J.hok, J.len⟩
theorem SP.unhand {D : Ends} {f : Flow} {s' : Shared} (ok : X.Ok) (h : SP (X.hand ea (X.pn ++ pins ++ l)) [] D f s') : SP X pins D f s' := by
  cases f with
  | next => obtain ⟨σ', H', I, q⟩ := h; exact ⟨σ', H', I.unhand ok, q⟩
  | brk => obtain ⟨σ', H', I, q⟩ := h; exact ⟨σ', H', I.unhand ok, q⟩
  | cont => obtain ⟨σ', H', I, q⟩ := h; exact ⟨σ', H', I.unhand ok, q⟩
  | ret u => obtain ⟨v, σ', H', I, r, q⟩ := h; exact ⟨v, σ', H', I.unhand ok, r, q⟩
/-- the local names are forgotten -/
theorem Inv.forgot {t' : Nat} {m' : Str → Option Value} (I : Inv X pins σ H s) (hn' : h'.Ns X.env.locals m') (hs : Heap.SameBut X.env.locals s.heap h') : Inv X pins (List.replicate X.N.length none) H { s with heap := h', toks := t' } := by
  obtain ⟨m, hn, hl⟩ := id I.loc
  obtain ⟨oL, _, _, hoL, _⟩ := id hn
  have hok : HOk X.prog X.w H h' := fun b ob e => by
    refine (I.hok b ob e).stay (fun c w' hc q => (hs.2 c ?_).trans q) (fun _ q => q) fun _ _ q => q
    rintro rfl
    have hfree := I.free
    rcases hc with z | hc
    · rw [← z, hfree] at e; cases e
    · rw [hfree] at hc; cases hc
  refine ⟨I.ok, I.os, I.bare, ⟨fun b o e n hb hx => ?_, fun b o e n hb hx => ?_, I.base.free, fun b o e hx => ?_, I.base.tups, I.base.frzs, I.base.tbls⟩, ⟨m', hn', fun j y v' e1 e2 e3 => ?_⟩, fun y c e => ?_, I.free, I.freeC, fun p hp => ?_, hok, by simp⟩
  · exact (hs.2 b (Nat.ne_of_lt (Nat.lt_of_lt_of_le (Heap.lt_size e) I.ok.above))).trans (I.base.keep b o e n hb hx)
  · obtain ⟨sl, e1⟩ := I.base.slot b o e n hb hx
    exact ⟨sl, (hs.2 b (Nat.ne_of_lt (Nat.lt_of_lt_of_le (Heap.lt_size e) I.ok.above))).trans e1⟩
  · obtain ⟨o', e1⟩ := I.base.there b o e hx
    exact ⟨o', (hs.2 b (Nat.ne_of_lt (Nat.lt_of_lt_of_le (Heap.lt_size e) I.ok.above))).trans e1⟩
  · rw [List.getElem?_replicate] at e2
    split at e2 <;> cases e2
  · obtain ⟨w', o, ho, hd⟩ := I.cell y c e
    exact ⟨w', o, (hs.2 c (I.cne y c e)).trans ho, hd⟩
  · obtain ⟨e, n, ne, nf, d⟩ := I.pin p hp
    exact ⟨(hs.2 p.1 ne).trans e, n, ne, nf, d⟩
end

/-- a class by its name in an except clause -/
structure Clause (X : Cx) (N : Str) (C' : Addr) : Prop where
  gl : Gl X N
  mg : X.mg N = some (.ref C')
  ty : PySem.W.typeIn X.K (.ref C') = some (.type "type")
  cl : (PySem.W.clsIn X.K C').isSome = true
  mb : PySem.W.mroIn X.K C' (.type "BaseException") = some true
  db : (N == ("__debug__" : Str)) = false
def tHand (K : PySem.W.Frag) (C' : Addr) (ts tr : Addr → TS) : Addr → TS := fun C D σ H => ∃ b, PySem.W.mroIn K C (.ref C') = some b ∧ (b = true → ts C D σ H) ∧ (b = false → tr C D σ H)
def tAs (K : PySem.W.Frag) (i : Nat) (ts : Addr → Addr → TS) : Addr → TS := fun C D σ H => ExcK K C ∧ ∀ ea, ts ea C { nx := fun _ _ => False, rt := D.rt } (σ.set i (some (.ref ea))) H
section
variable {X : Cx} {N : Str} {C' : Addr} {np pos : Pos} {b₀ : Stmt} {suite : List Stmt} {rest : List ExceptHandler} {ts tr : Addr → TS}
theorem ph_nil : PH X [] (fun _ _ _ _ => False) := fun _ _ _ _ _ _ _ _ _ z => False.elim z
/-- except N: suite -/
theorem ph_exc (cn : Clause X N C') (hs : ∀ ea oe C pn', (ea, oe) ∈ pn' → oe.cls = .ref C → PSs (X.hand ea pn') (b₀ :: suite) (ts C)) (hr : PH X rest tr) :
    PH X (.ExceptHandler (some (.Name N np)) none (b₀ :: suite) pos :: rest) (tHand X.K C' ts tr) := by
  intro pins s σ H D ea T C c h
  obtain ⟨b, eb, h1, h2⟩ := h
  obtain ⟨oe, IA, nc⟩ := c.inst
  have J := c.hand IA nc
  refine wpAny_handleBy_cons (codeAny_handlers_test (ld_glob (X := X.hand ea (X.pn ++ pins ++ [(ea, oe)])) J cn.gl cn.mg ?_ cn.db)) (by intro q; cases q)
  obtain ⟨hp, g, d, t, os⟩ := s
  refine exc_matches c.inv.kIn IA cn.ty cn.cl cn.mb eb ?_
  cases b with
  | false => exact hr pins _ σ H D ea T C c (h2 rfl)
  | true =>
    refine codeAny_handlers_suite (caught_flight c fun h' c' => ?_)
    obtain ⟨oe', IA', nc'⟩ := c'.inst
    refine wpAny_mono (hs ea oe' C _ (List.mem_append_right _ (List.mem_singleton.mpr rfl)) IA'.cls [] _ σ H D (c'.hand IA' nc') (h1 rfl)) (fun f s2 q => q.unhand c.inv.ok) fun _ _ z => False.elim z
/-- except N as n: suite, and the suite returns -/
theorem ph_excAs {i : Nat} {n : Str} {ts : Addr → Addr → TS} (cn : Clause X N C') (hN : X.N.Nodup) (hi : X.N[i]? = some n) (hx : X.env.scope.names.lookup n = some .local)
    (hs : ∀ ea oe C pn', (ea, oe) ∈ pn' → oe.cls = .ref C → oe.dict = none → PySem.W.notCls oe = true → ExcK X.K C → PSs (X.hand ea pn') (b₀ :: suite) (ts ea C)) (hr : PH X rest tr) :
    PH X (.ExceptHandler (some (.Name N np)) (some n) (b₀ :: suite) pos :: rest) (tHand X.K C' (tAs X.K i ts) tr) := by
  intro pins s σ H D ea T C c h
  obtain ⟨b, eb, h1, h2⟩ := h
  obtain ⟨oe, IA, nc⟩ := c.inst
  have J := c.hand IA nc
  refine wpAny_handleBy_cons (codeAny_handlers_test (ld_glob (X := X.hand ea (X.pn ++ pins ++ [(ea, oe)])) J cn.gl cn.mg ?_ cn.db)) (by intro q; cases q)
  obtain ⟨hp, g, d, t, os⟩ := s
  refine exc_matches c.inv.kIn IA cn.ty cn.cl cn.mb eb ?_
  cases b with
  | false => exact hr pins _ σ H D ea T C c (h2 rfl)
  | true =>
    refine codeAny_handlers_suite_as (caught_flight c fun h' c' => ?_)
    obtain ⟨oe', IA', nc'⟩ := c'.inst
    have J' := c'.hand IA' nc'
    refine store_ok (X := X.hand ea (X.pn ++ pins ++ [(ea, oe')])) (v := .ref ea) J' hN hi (.inl hx) rfl (fun s1 I1 => ?_) (.inr hx)
    have hd : oe'.dict = none := by
      have z := IA'.dict
      cases q : oe'.dict with
      | none => rfl
      | some y => rw [q] at z; exact z.elim
    refine wpAny_mono (hs ea oe' C _ (List.mem_append_right _ (List.mem_singleton.mpr rfl)) IA'.cls hd IA'.no (h1 rfl).1 [] _ _ H _ I1 ((h1 rfl).2 ea)) (fun f s2 q => ?_) fun _ _ z => False.elim z
    have q' := SP.unhand c.inv.ok q
    cases f with
    | next => obtain ⟨_, _, _, z⟩ := q'; exact False.elim z
    | brk => obtain ⟨_, _, _, z⟩ := q'; exact False.elim z
    | cont => obtain ⟨_, _, _, z⟩ := q'; exact False.elim z
    | ret u =>
      obtain ⟨v, σ', H', I2, r, z⟩ := q'
      obtain ⟨m, hn, _⟩ := id I2.loc
      refine wpAny_nameGoes hx hn (by rw [I2.ok.kind]; rfl) fun h3 m3 hn3 hs3 => ?_
      exact ⟨v, _, H', I2.forgot (t' := s2.toks + 1) hn3 hs3, r, z⟩
end
/-- isinstance of the exception that is caught -/
def rIsiX (K : PySem.W.Frag) (ea C : Addr) : List V → Hp → VK → Prop := fun xs H Q => ∃ b, ((∃ n, xs = [.ref ea, .ty n] ∧ PySem.W.kitOne K (.ref C) (.type n) = some b) ∨ (∃ c, xs = [.ref ea, .ref c] ∧ PySem.W.kitOne K (.ref C) (.ref c) = some b) ∨
  (∃ c vs, xs = [.ref ea, .ref c] ∧ H c = some (.tup vs) ∧ ∀ us, Vals vs us → PySem.W.kitAny K (.ref C) us = some b)) ∧ Q (.bl b) H
theorem call_isiX {X : Cx} {ea C : Addr} {oe : Obj} {pn' : List (Addr × Obj)} (k : ExcK X.K C) (hm : (ea, oe) ∈ pn') (hc : oe.cls = .ref C) (hd : oe.dict = none) (hn : PySem.W.notCls oe = true) : CallR (X.hand ea pn') (.builtin "isinstance") (rIsiX X.K ea C) := by
  intro pins s σ H xs us Q I r h
  obtain ⟨b, h, q⟩ := h
  have at_ := (I.pin _ (List.mem_append_left _ hm)).1
  have IA : ∃ o, PySem.W.InstAt s.heap ea o C none := ⟨oe, at_, hc, hn, by rw [hd]; trivial⟩
  rcases h with ⟨n, rfl, e⟩ | ⟨c, rfl, e⟩ | ⟨c, vs, rfl, et, e⟩
  · obtain ⟨u, v, rfl, ru, rv⟩ := vals2 r
    obtain rfl : v = Value.type n := rv
    obtain rfl : u = Value.ref ea := ru
    exact PySem.W.kia_one (kitx_exc k) I.kIn IA e (fun z => nomatch z) fun tk => ⟨.bl b, H, I.tok tk, rfl, q⟩
  · obtain ⟨u, v, rfl, ru, rv⟩ := vals2 r
    obtain rfl : v = Value.ref c := rv
    obtain rfl : u = Value.ref ea := ru
    exact PySem.W.kia_one (kitx_exc k) I.kIn IA e (fun z => nomatch z) fun tk => ⟨.bl b, H, I.tok tk, rfl, q⟩
  · obtain ⟨u, v, rfl, ru, rv⟩ := vals2 r
    obtain rfl : v = Value.ref c := rv
    obtain rfl : u = Value.ref ea := ru
    obtain ⟨_, its, rv, ⟨o, h1, h2, n, h3⟩⟩ := (show ObjOk X.prog X.w H s.heap c (.tup vs) from I.hok c _ et)
    obtain ⟨oc, od, oda, osl⟩ := o
    dsimp only at h2 h3
    subst h2 h3
    exact PySem.W.kia_tup (kitx_exc k) I.kIn IA h1 (e its rv) (fun z => nomatch z) fun tk => ⟨.bl b, H, I.tok tk, rfl, q⟩

theorem PA.nox {X : Cx} {es : List Expr} {t : TA} (h : PA X.nox es t) : PA X es t := fun pos pins s σ H Q I hw =>
  wpAny_mono (h pos pins s σ H Q (I.wish _) hw) (fun _ _ ⟨v, H', I', r, q⟩ => ⟨v, H', I'.unwish, r, q⟩) fun _ _ z => False.elim z
theorem kit_val {K : PySem.W.Frag} {C : Addr} (h : PySem.W.subIn K (.ref C) (.type "ValueError") = some true) : PySem.W.kitOne K (.ref C) (.type "ValueError") = some true := by
  unfold PySem.W.kitOne PySem.W.kitCls
  dsimp only
  rw [if_neg (by simp), if_pos (show PySem.W.kitMeta "ValueError" = true by decide +kernel)]
  exact h
def FnS1 (P : Program) (w : World) (K : PySem.W.Frag) (mg : Str → Option Value) (base : Heap) (k : Nat) (x : Str) (ps : List Str) (sp : Sp) : Prop := ∃ f fd, FnOk P w K mg base (CX1 P w) k f fd ps sp ∧ Binds K fd ps [] ∧ PySem.W.keepIn K (.ref f) = true ∧ mg x = some (.ref f)
def tFnX (sp : Sp) (t : TA) : TEx := fun σ H Q E => t σ H fun vs H1 => sp vs H1 Q E
theorem tCallX_nil (sp : Sp) (t : TA) : tCallX sp [] t = tFnX sp t := by
  funext σ H Q E
  unfold tCallX tFnX
  have e : (fun (vs : List V) (H1 : Hp) => sp (vs ++ []) H1 Q E) = fun vs H1 => sp vs H1 Q E := by
    funext vs H1; rw [List.append_nil]
  rw [e]
section
variable {X : Cx} {k k' : Nat} {x : Str} {ps : List Str} {sp : Sp} {e : Expr} {es : List Expr} {t : TA} {p pos : Pos}
theorem pex_fn (G : FnS1 X.prog X.w X.K X.mg X.base k x ps sp) (hr : Room k' X.A) (ha : PA X.nox (e :: es) t) (hk : k ≤ k' := by omega) (hg : Gl X x := by rfl) (hdb : (x == ("__debug__" : Str)) = false := by decide)
    (he : starEach (e :: es) X.env = (false, eval e X.env) :: starEach es X.env := by rfl) (hpl : (backTo pos (starEach es X.env)).any (·.1) = false := by rfl) : PEx X (.Call (.Name x p) (e :: es) [] pos) (tFnX sp t) := by
  obtain ⟨f, fd, F, hb, kp, hm⟩ := G
  rw [← tCallX_nil]
  exact pex_call F (hr.mono hk) hg hm kp hb .nil ha hdb he hpl
theorem pass10 {X : Cx} : Passes (CX1 X.prog X.w) X E0 := fun _ _ _ _ _ _ _ ⟨_, _, _, _, _, _, _, _, _, _, _, _, _, _, hE⟩ => hE.elim
/-- no exception comes out of this call -/
theorem pe_fn1 (G : FnS1 X.prog X.w X.K X.mg X.base k x ps sp) (hr : Room k' X.A) (ha : PA X (e :: es) t) (hk : k ≤ k' := by omega) (hg : Gl X x := by rfl) (hdb : (x == ("__debug__" : Str)) = false := by decide)
    (he : starEach (e :: es) X.env = (false, eval e X.env) :: starEach es X.env := by rfl) (hpl : (backTo pos (starEach es X.env)).any (·.1) = false := by rfl) : PE X (.Call (.Name x p) (e :: es) [] pos) (tFn sp t) := by
  obtain ⟨f, fd, F, hb, kp, hm⟩ := G
  rw [← tCall_nil]
  exact pe_call F (hr.mono hk) hg hm kp hb .nil pass10 ha hdb he hpl
end
section
variable {K : PySem.W.Frag} {D : Ends} {σ : St} {H : Hp} {Q : VK} {C C' : Addr}
theorem i_raise {E : XK} {t : TA} (h : t σ H fun vs H1 => vs.length ≤ 9 ∧ E (.ref C) none H1) : tRaise C E t D σ H := h
theorem i_tryX {te : TEx} {th : Addr → TS} (h : te σ H (fun _ H' => D.nx σ H') (fun v _ H' => ∃ C, v = .ref C ∧ th C D σ H')) : tTry (fun D E σ H => te σ H (fun _ H' => D.nx σ H') (E σ)) th D σ H := h
theorem i_fnX {sp : Sp} {t : TA} {E : XK} (h : t σ H fun vs H1 => sp vs H1 Q E) : tFnX sp t σ H Q E := h
theorem i_handT {ts tr : Addr → TS} (e : PySem.W.mroIn K C (.ref C') = some true) (h : ts C D σ H) : tHand K C' ts tr C D σ H := ⟨true, e, fun _ => h, fun z => Bool.noConfusion z⟩
theorem i_as {i : Nat} {ts : Addr → Addr → TS} (e : ExcK K C) (h : ∀ ea, ts ea C { nx := fun _ _ => False, rt := D.rt } (σ.set i (some (.ref ea))) H) : tAs K i ts C D σ H := ⟨e, h⟩
theorem i_isiXC {ea c : Addr} {b : Bool} (e : PySem.W.kitOne K (.ref C) (.ref c) = some b) (h : Q (.bl b) H) : rIsiX K ea C [.ref ea, .ref c] H Q := ⟨b, .inr (.inl ⟨c, rfl, e⟩), h⟩
theorem i_isiXT {ea : Addr} {n : String} {b : Bool} (e : PySem.W.kitOne K (.ref C) (.type n) = some b) (h : Q (.bl b) H) : rIsiX K ea C [.ref ea, .ty n] H Q := ⟨b, .inl ⟨n, rfl, e⟩, h⟩
/-- of a tuple of classes, none of which it is of -/
theorem i_isiXN {ea c : Addr} {cs : List Addr} (hc : H c = some (.tup (cs.map V.ref))) (e : ∀ d ∈ cs, PySem.W.kitOne K (.ref C) (.ref d) = some false) (h : Q (.bl false) H) : rIsiX K ea C [.ref ea, .ref c] H Q := by
  refine ⟨false, .inr (.inr ⟨c, _, rfl, hc, fun us r => ?_⟩), h⟩
  have : ∀ (cs : List Addr) (us : List Value), (∀ d ∈ cs, PySem.W.kitOne K (.ref C) (.ref d) = some false) → Vals (cs.map V.ref) us → PySem.W.kitAny K (.ref C) us = some false := by
    intro cs
    induction cs with
    | nil => intro us _ r; cases r; rfl
    | cons d cs ih =>
      intro us e r
      rw [List.map_cons] at r
      cases r with
      | cons r1 r2 =>
        rename_i u us'
        obtain rfl : u = Value.ref d := r1
        unfold PySem.W.kitAny
        rw [e d List.mem_cons_self]
        exact ih us' (fun x hx => e x (List.mem_cons_of_mem _ hx)) r2
  exact this cs us e r
end
end L2

open PySem L2
local macro_rules | `(tactic| walk_at "side") => `(tactic| first | omega | (show (_ : Int) < _; omega) | exact ⟨by omega, by omega⟩ | exact ⟨by omega, by omega, by decide⟩)
local macro_rules | `(tactic| walk_at "rd1") => `(tactic| first
  | (with_reducible first | refine i_seq ?_ | refine i_asg ?_ | refine i_op ?_ | refine i_c ?_ | refine i_cons ?_ | refine i_nil ?_ | refine i_ifs ?_ | refine i_ret ?_ | refine i_fn ?_ | refine i_cb ?_ | refine i_test ?_ | refine i_exb ?_ | refine i_exi ?_ | refine i_truB ?_ | refine i_dy ?_ | refine i_mk ?_ | refine i_fld ?_ | refine i_sfld ?_ | refine i_drop ?_ | refine i_next ?_ | refine i_retN ?_ | refine i_brk ?_ | refine i_cont ?_ | refine i_un ?_ | refine i_and ?_ | refine i_or ?_ | refine i_not ?_ | refine i_andV ?_ | refine i_orV ?_ | refine i_notG ?_ | refine i_if ?_ | refine i_tup ?_ | refine i_lst ?_ | refine i_bm ?_ | refine i_bm0 ?_ | refine i_sl ?_ | refine i_part ?_ | refine i_noPart ?_ | refine i_forR1 ?_ | refine i_forR2 ?_ | refine i_forR3 ?_ | refine i_compR3 ?_ | refine i_listrev ?_ | refine i_forS ?_ | refine i_forE ?_ | refine i_forEX ?_ | refine i_forRep ?_ | refine i_addF ?_ | refine i_forZ ?_ | refine i_forV ?_ | refine i_bitlen ?_ | refine i_chain ?_ | refine i_truI ?_ | refine i_compR1 ?_ | refine i_compR2 ?_ | refine i_compS ?_ | refine i_noif ?_ | refine i_rI0 ?_ | refine i_addI ?_ | refine i_rU ?_ | refine i_eqAI ?_ | refine i_eqAS ?_ | refine i_eqAB ?_ | refine i_neAI ?_ | refine i_neAS ?_ | refine i_neAB ?_ | refine i_fs ?_ | refine i_gsub ?_ | refine i_jc ?_ | refine i_fmt ?_ | refine i_fmtR ?_ | refine i_eqI ?_ | refine i_eqS ?_ | refine i_eqB ?_ | refine i_neI ?_ | refine i_neS ?_ | refine i_neB ?_ | refine i_intI ?_ | refine i_intB ?_ | refine i_max ?_ | refine i_min ?_)
  | ((with_reducible refine i_name ?_); (try dsimp only [List.set_cons_succ, List.set_cons_zero]))
  | ((with_reducible refine' i_var ?hv ?_); (case hv => exact rfl))
  | ((with_reducible refine i_rI ?hc ?_); (case hc => walk_at "side"))
  | ((with_reducible refine' i_lenS ?hc ?_); (case hc => assumption))
  | ((with_reducible refine' i_lenL ?hc ?_); (case hc => assumption))
  | ((with_reducible refine' i_lenT ?hc ?_); (case hc => assumption))
  | ((with_reducible refine' i_isiT ?ht ?he ?_); (case ht => first | exact TyOf.bl _ | exact TyOf.int _ | exact TyOf.str _ | exact TyOf.non | exact TyOf.lst (by assumption) | exact TyOf.tup (by assumption)); (case he => first | exact kit_self _ _ | exact kit_int_bool _ | exact kit_bool_int _ | exact kit_str_bool _ | exact kit_str_int _ | exact kit_list_int _ | exact kit_list_bool _ | exact kit_none_int _ | exact kit_none_list _ | exact kit_none_str _ | exact kit_none_tuple _ | exact kit_list_tuple _ | exact kit_tuple_list _ | exact kit_str_list _ | exact kit_int_str _ | exact kit_int_list _ | exact kit_bool_str _ | exact kit_bool_list _ | exact kit_int_tuple _ | exact kit_str_tuple _ | exact kit_bool_tuple _ | exact kit_tuple_int _ | exact kit_tuple_bool _ | exact kit_tuple_str _ | exact kit_list_str _ | exact kit_none_bool _)))
local macro_rules | `(tactic| walk_at "rs1") => `(tactic| first
  | (with_reducible first | refine i_asg ?_ | refine i_op ?_ | refine i_c ?_ | refine i_cons ?_ | refine i_nil ?_ | refine i_ifs ?_ | refine i_ret ?_ | refine i_fn ?_ | refine i_cb ?_ | refine i_test ?_ | refine i_exb ?_ | refine i_exi ?_ | refine i_truB ?_ | refine i_dy ?_ | refine i_mk ?_ | refine i_fld ?_ | refine i_sfld ?_ | refine i_drop ?_ | refine i_next ?_ | refine i_retN ?_ | refine i_brk ?_ | refine i_cont ?_ | refine i_un ?_ | refine i_and ?_ | refine i_or ?_ | refine i_not ?_ | refine i_andV ?_ | refine i_orV ?_ | refine i_notG ?_ | refine i_if ?_ | refine i_tup ?_ | refine i_lst ?_ | refine i_bm ?_ | refine i_bm0 ?_ | refine i_sl ?_ | refine i_part ?_ | refine i_noPart ?_ | refine i_forR1 ?_ | refine i_forR2 ?_ | refine i_forR3 ?_ | refine i_compR3 ?_ | refine i_listrev ?_ | refine i_forS ?_ | refine i_forE ?_ | refine i_forEX ?_ | refine i_forRep ?_ | refine i_addF ?_ | refine i_forZ ?_ | refine i_forV ?_ | refine i_bitlen ?_ | refine i_chain ?_ | refine i_truI ?_ | refine i_compR1 ?_ | refine i_compR2 ?_ | refine i_compS ?_ | refine i_noif ?_ | refine i_rI0 ?_ | refine i_addI ?_ | refine i_rU ?_ | refine i_eqAI ?_ | refine i_eqAS ?_ | refine i_eqAB ?_ | refine i_neAI ?_ | refine i_neAS ?_ | refine i_neAB ?_ | refine i_fs ?_ | refine i_gsub ?_ | refine i_jc ?_ | refine i_fmt ?_ | refine i_fmtR ?_ | refine i_eqI ?_ | refine i_eqS ?_ | refine i_eqB ?_ | refine i_neI ?_ | refine i_neS ?_ | refine i_neB ?_ | refine i_intI ?_ | refine i_intB ?_ | refine i_max ?_ | refine i_min ?_)
  | ((with_reducible refine i_name ?_); (try dsimp only [List.set_cons_succ, List.set_cons_zero]))
  | ((with_reducible refine' i_var ?hv ?_); (case hv => exact rfl))
  | ((with_reducible refine i_rI ?hc ?_); (case hc => walk_at "side"))
  | ((with_reducible refine' i_lenS ?hc ?_); (case hc => assumption))
  | ((with_reducible refine' i_lenL ?hc ?_); (case hc => assumption))
  | ((with_reducible refine' i_lenT ?hc ?_); (case hc => assumption))
  | ((with_reducible refine' i_isiT ?ht ?he ?_); (case ht => first | exact TyOf.bl _ | exact TyOf.int _ | exact TyOf.str _ | exact TyOf.non | exact TyOf.lst (by assumption) | exact TyOf.tup (by assumption)); (case he => first | exact kit_self _ _ | exact kit_int_bool _ | exact kit_bool_int _ | exact kit_str_bool _ | exact kit_str_int _ | exact kit_list_int _ | exact kit_list_bool _ | exact kit_none_int _ | exact kit_none_list _ | exact kit_none_str _ | exact kit_none_tuple _ | exact kit_list_tuple _ | exact kit_tuple_list _ | exact kit_str_list _ | exact kit_int_str _ | exact kit_int_list _ | exact kit_bool_str _ | exact kit_bool_list _ | exact kit_int_tuple _ | exact kit_str_tuple _ | exact kit_bool_tuple _ | exact kit_tuple_int _ | exact kit_tuple_bool _ | exact kit_tuple_str _ | exact kit_list_str _ | exact kit_none_bool _)))
local macro_rules | `(tactic| walk_at "rs") => `(tactic| repeat walk_at "rs1")
local macro_rules | `(tactic| walk_at "hp") => `(tactic| first | assumption | solve_by_elim (maxDepth := 16) only [*, ne_of_none])
local macro_rules | `(tactic| walk_at "rd0") => `(tactic| ((try dsimp only [cxOf]); (try simp only [L2.start, List.map_cons, List.map_nil, List.length_cons, List.length_nil, Nat.reduceAdd, Nat.reduceSub, List.replicate_zero, List.append_nil, List.cons_append, List.nil_append, List.replicate_succ]); (repeat walk_at "rd1")))
local macro_rules | `(tactic| walk_at "rd") => `(tactic| repeat walk_at "rd1")

set_option maxRecDepth 100000
set_option maxHeartbeats 4000000
open PySem L2

namespace LW
open PySem L2 EM
def top (i : Nat) : Stmt := PySem.Challenge.pw_evernever_k28_widened.main.body.getD i (.Pass ⟨0, 0, 0, 0⟩)
abbrev s_all_stands : Stmt := top 2
abbrev s_crowd_of : Stmt := top 4
abbrev s_asked_by : Stmt := top 5
abbrev s_without : Stmt := top 6
abbrev s_may_shut : Stmt := top 22
abbrev s_without_one_lamp : Stmt := top 23
abbrev s_widened : Stmt := top 24
abbrev s_is_whole : Stmt := top 26
abbrev s_is_crowd : Stmt := top 27
abbrev s_is_chart : Stmt := top 28
abbrev s__law_cell_at : Stmt := top 31
abbrev s__law_crowd_by : Stmt := top 32
abbrev s__law_step_in : Stmt := top 33
abbrev s__law_after_by : Stmt := top 34
abbrev s__law_may : Stmt := top 35
abbrev s__law_whole : Stmt := top 36
abbrev s__law_refused : Stmt := top 37
abbrev s__law_refused_by_any : Stmt := top 38
abbrev s_law : Stmt := top 39
abbrev s_Chart_init : Stmt := inClass (top 29) 0
abbrev s_Chart_behind : Stmt := inClass (top 29) 2
theorem sc_all_stands : FnScope ["many"] ["many"] (defScope s_all_stands) := ⟨rfl, rfl, rfl, by decide +kernel, rfl, by decide +kernel, by decide +kernel⟩
theorem sc_crowd_of : FnScope ["many", "bar", "crowd", "lamp", "lit"] ["many", "bar"] (defScope s_crowd_of) := ⟨rfl, rfl, rfl, by decide +kernel, rfl, by decide +kernel, by decide +kernel⟩
theorem sc_asked_by : FnScope ["bar"] ["bar"] (defScope s_asked_by) := ⟨rfl, rfl, rfl, by decide +kernel, rfl, by decide +kernel, by decide +kernel⟩
theorem sc_without : FnScope ["bar", "lamp", "others"] ["bar", "lamp"] (defScope s_without) := ⟨rfl, rfl, rfl, by decide +kernel, rfl, by decide +kernel, by decide +kernel⟩
theorem sc_may_shut : FnScope ["chart", "held", "bar", "inside"] ["chart", "held", "bar"] (defScope s_may_shut) := ⟨rfl, rfl, rfl, by decide +kernel, rfl, by decide +kernel, by decide +kernel⟩
theorem sc_without_one_lamp : FnScope ["chart", "held", "bar", "lamp", "fewer"] ["chart", "held", "bar"] (defScope s_without_one_lamp) := ⟨rfl, rfl, rfl, by decide +kernel, rfl, by decide +kernel, by decide +kernel⟩
theorem sc_widened : FnScope ["chart", "held", "bar", "found", "further"] ["chart", "held", "bar"] (defScope s_widened) := ⟨rfl, rfl, rfl, by decide +kernel, rfl, by decide +kernel, by decide +kernel⟩
theorem sc_is_whole : FnScope ["thing"] ["thing"] (defScope s_is_whole) := ⟨rfl, rfl, rfl, by decide +kernel, rfl, by decide +kernel, by decide +kernel⟩
theorem sc_is_crowd : FnScope ["thing", "many"] ["thing", "many"] (defScope s_is_crowd) := ⟨rfl, rfl, rfl, by decide +kernel, rfl, by decide +kernel, by decide +kernel⟩
theorem sc_is_chart : FnScope ["many", "starts", "bads", "after"] ["many", "starts", "bads", "after"] (defScope s_is_chart) := ⟨rfl, rfl, rfl, by decide +kernel, rfl, by decide +kernel, by decide +kernel⟩
theorem sc__law_cell_at : FnScope ["_law_script", "_law_k"] ["_law_script", "_law_k"] (defScope s__law_cell_at) := ⟨rfl, rfl, rfl, by decide +kernel, rfl, by decide +kernel, by decide +kernel⟩
theorem sc__law_crowd_by : FnScope ["_law_cell", "_law_size", "_law_rest", "_law_crowd"] ["_law_cell", "_law_size"] (defScope s__law_crowd_by) := ⟨rfl, rfl, rfl, by decide +kernel, rfl, by decide +kernel, by decide +kernel⟩
theorem sc__law_step_in : FnScope ["_law_after", "_law_cell", "_law_k", "_law_stand", "_law_size", "_law_one", "_law_other"] ["_law_after", "_law_cell", "_law_k", "_law_stand"] (defScope s__law_step_in) := ⟨rfl, rfl, rfl, by decide +kernel, rfl, by decide +kernel, by decide +kernel⟩
theorem sc__law_after_by : FnScope ["_law_script", "_law_size", "_law_way", "_law_stand", "_law_after", "_law_s", "_law_many_steps", "_law_last", "_law_k"] ["_law_script", "_law_size"] (defScope s__law_after_by) := ⟨rfl, rfl, rfl, by decide +kernel, rfl, by decide +kernel, by decide +kernel⟩
theorem sc__law_may : FnScope ["_law_starts", "_law_after", "_law_held", "_law_asked", "_law_lit", "_law_inside", "_law_s"] ["_law_starts", "_law_after", "_law_held", "_law_asked", "_law_lit"] (defScope s__law_may) := ⟨rfl, rfl, rfl, by decide +kernel, rfl, by decide +kernel, by decide +kernel⟩
theorem sc__law_whole : FnScope ["_law_found"] ["_law_found"] (defScope s__law_whole) := ⟨rfl, rfl, rfl, by decide +kernel, rfl, by decide +kernel, by decide +kernel⟩
theorem sc__law_refused : FnScope ["_law_chart", "_law_held", "_law_bar", "e"] ["_law_chart", "_law_held", "_law_bar"] (defScope s__law_refused) := ⟨rfl, rfl, rfl, by decide +kernel, rfl, by decide +kernel, by decide +kernel⟩
theorem sc__law_refused_by_any : FnScope ["_law_chart", "_law_held", "_law_bar"] ["_law_chart", "_law_held", "_law_bar"] (defScope s__law_refused_by_any) := ⟨rfl, rfl, rfl, by decide +kernel, rfl, by decide +kernel, by decide +kernel⟩
theorem sc_law : FnScope ["_law_script", "_law_first", "_law_many", "_law_size", "_law_starts", "_law_bads", "_law_after", "_law_chart", "_law_cell", "_law_held", "_law_s", "_law_bar", "_law_found", "_law_asked", "_law_k", "_law_less"] ["_law_script"] (defScope s_law) := ⟨rfl, rfl, rfl, by decide +kernel, rfl, by decide +kernel, by decide +kernel⟩
theorem sc_Chart_init : FnScope ["self", "many", "starts", "bads", "after"] ["self", "many", "starts", "bads", "after"] (defScope s_Chart_init) := ⟨rfl, rfl, rfl, by decide +kernel, rfl, by decide +kernel, by decide +kernel⟩
theorem sc_Chart_behind : FnScope ["self", "crowd", "found", "stand", "onto"] ["self", "crowd"] (defScope s_Chart_behind) := ⟨rfl, rfl, rfl, by decide +kernel, rfl, by decide +kernel, by decide +kernel⟩
/-- the addresses of what the top has made -/
structure Ad where
  f_all_stands : Addr
  d_all_stands : FuncData
  f_crowd_of : Addr
  d_crowd_of : FuncData
  f_asked_by : Addr
  d_asked_by : FuncData
  f_without : Addr
  d_without : FuncData
  f_may_shut : Addr
  d_may_shut : FuncData
  f_without_one_lamp : Addr
  d_without_one_lamp : FuncData
  f_widened : Addr
  d_widened : FuncData
  f_is_whole : Addr
  d_is_whole : FuncData
  f_is_crowd : Addr
  d_is_crowd : FuncData
  f_is_chart : Addr
  d_is_chart : FuncData
  f__law_cell_at : Addr
  d__law_cell_at : FuncData
  f__law_crowd_by : Addr
  d__law_crowd_by : FuncData
  f__law_step_in : Addr
  d__law_step_in : FuncData
  f__law_after_by : Addr
  d__law_after_by : FuncData
  f__law_may : Addr
  d__law_may : FuncData
  f__law_whole : Addr
  d__law_whole : FuncData
  f__law_refused : Addr
  d__law_refused : FuncData
  f__law_refused_by_any : Addr
  d__law_refused_by_any : FuncData
  f_law : Addr
  d_law : FuncData
  f_Chart_init : Addr
  d_Chart_init : FuncData
  f_Chart_behind : Addr
  d_Chart_behind : FuncData
  C_Chart : Addr
  C_NotShut : Addr
  C_EverError : Addr
  C_NoBar : Addr
  C_NoChart : Addr
  C_NoFence : Addr
  C_NoFormula : Addr
  C_NoFrame : Addr
  C_NoLine : Addr
  C_NoMachine : Addr
  C_NoName : Addr
  C_NoStep : Addr
  C_NothingLeft : Addr
  C_TooMany : Addr
/-- what the top has written -/
structure Txt (K : PySem.W.Frag) (mg : Str → Option Value) (t : Ad) : Prop where
  F_all_stands : Fun K "all_stands" "all_stands" s_all_stands t.f_all_stands t.d_all_stands
  b_all_stands : Binds K t.d_all_stands ["many"] []
  m_all_stands : mg "all_stands" = some (.ref t.f_all_stands)
  F_crowd_of : Fun K "crowd_of" "crowd_of" s_crowd_of t.f_crowd_of t.d_crowd_of
  b_crowd_of : Binds K t.d_crowd_of ["many", "bar"] []
  m_crowd_of : mg "crowd_of" = some (.ref t.f_crowd_of)
  F_asked_by : Fun K "asked_by" "asked_by" s_asked_by t.f_asked_by t.d_asked_by
  b_asked_by : Binds K t.d_asked_by ["bar"] []
  m_asked_by : mg "asked_by" = some (.ref t.f_asked_by)
  F_without : Fun K "without" "without" s_without t.f_without t.d_without
  b_without : Binds K t.d_without ["bar", "lamp"] []
  m_without : mg "without" = some (.ref t.f_without)
  F_may_shut : Fun K "may_shut" "may_shut" s_may_shut t.f_may_shut t.d_may_shut
  b_may_shut : Binds K t.d_may_shut ["chart", "held", "bar"] []
  m_may_shut : mg "may_shut" = some (.ref t.f_may_shut)
  F_without_one_lamp : Fun K "without_one_lamp" "without_one_lamp" s_without_one_lamp t.f_without_one_lamp t.d_without_one_lamp
  b_without_one_lamp : Binds K t.d_without_one_lamp ["chart", "held", "bar"] []
  m_without_one_lamp : mg "without_one_lamp" = some (.ref t.f_without_one_lamp)
  F_widened : Fun K "widened" "widened" s_widened t.f_widened t.d_widened
  b_widened : Binds K t.d_widened ["chart", "held", "bar"] []
  m_widened : mg "widened" = some (.ref t.f_widened)
  F_is_whole : Fun K "is_whole" "is_whole" s_is_whole t.f_is_whole t.d_is_whole
  b_is_whole : Binds K t.d_is_whole ["thing"] []
  m_is_whole : mg "is_whole" = some (.ref t.f_is_whole)
  F_is_crowd : Fun K "is_crowd" "is_crowd" s_is_crowd t.f_is_crowd t.d_is_crowd
  b_is_crowd : Binds K t.d_is_crowd ["thing", "many"] []
  m_is_crowd : mg "is_crowd" = some (.ref t.f_is_crowd)
  F_is_chart : Fun K "is_chart" "is_chart" s_is_chart t.f_is_chart t.d_is_chart
  b_is_chart : Binds K t.d_is_chart ["many", "starts", "bads", "after"] []
  m_is_chart : mg "is_chart" = some (.ref t.f_is_chart)
  F__law_cell_at : Fun K "_law_cell_at" "_law_cell_at" s__law_cell_at t.f__law_cell_at t.d__law_cell_at
  b__law_cell_at : Binds K t.d__law_cell_at ["_law_script", "_law_k"] []
  m__law_cell_at : mg "_law_cell_at" = some (.ref t.f__law_cell_at)
  F__law_crowd_by : Fun K "_law_crowd_by" "_law_crowd_by" s__law_crowd_by t.f__law_crowd_by t.d__law_crowd_by
  b__law_crowd_by : Binds K t.d__law_crowd_by ["_law_cell", "_law_size"] []
  m__law_crowd_by : mg "_law_crowd_by" = some (.ref t.f__law_crowd_by)
  F__law_step_in : Fun K "_law_step_in" "_law_step_in" s__law_step_in t.f__law_step_in t.d__law_step_in
  b__law_step_in : Binds K t.d__law_step_in ["_law_after", "_law_cell", "_law_k", "_law_stand"] []
  m__law_step_in : mg "_law_step_in" = some (.ref t.f__law_step_in)
  F__law_after_by : Fun K "_law_after_by" "_law_after_by" s__law_after_by t.f__law_after_by t.d__law_after_by
  b__law_after_by : Binds K t.d__law_after_by ["_law_script", "_law_size"] []
  m__law_after_by : mg "_law_after_by" = some (.ref t.f__law_after_by)
  F__law_may : Fun K "_law_may" "_law_may" s__law_may t.f__law_may t.d__law_may
  b__law_may : Binds K t.d__law_may ["_law_starts", "_law_after", "_law_held", "_law_asked", "_law_lit"] []
  m__law_may : mg "_law_may" = some (.ref t.f__law_may)
  F__law_whole : Fun K "_law_whole" "_law_whole" s__law_whole t.f__law_whole t.d__law_whole
  b__law_whole : Binds K t.d__law_whole ["_law_found"] []
  m__law_whole : mg "_law_whole" = some (.ref t.f__law_whole)
  F__law_refused : Fun K "_law_refused" "_law_refused" s__law_refused t.f__law_refused t.d__law_refused
  b__law_refused : Binds K t.d__law_refused ["_law_chart", "_law_held", "_law_bar"] []
  m__law_refused : mg "_law_refused" = some (.ref t.f__law_refused)
  F__law_refused_by_any : Fun K "_law_refused_by_any" "_law_refused_by_any" s__law_refused_by_any t.f__law_refused_by_any t.d__law_refused_by_any
  b__law_refused_by_any : Binds K t.d__law_refused_by_any ["_law_chart", "_law_held", "_law_bar"] []
  m__law_refused_by_any : mg "_law_refused_by_any" = some (.ref t.f__law_refused_by_any)
  F_law : Fun K "law" "law" s_law t.f_law t.d_law
  b_law : Binds K t.d_law ["_law_script"] []
  m_law : mg "law" = some (.ref t.f_law)
  F_Chart_init : Fun K "__init__" "Chart.__init__" s_Chart_init t.f_Chart_init t.d_Chart_init
  b_Chart_init : Binds K t.d_Chart_init ["self", "many", "starts", "bads", "after"] []
  F_Chart_behind : Fun K "behind" "Chart.behind" s_Chart_behind t.f_Chart_behind t.d_Chart_behind
  b_Chart_behind : Binds K t.d_Chart_behind ["self", "crowd"] []
  m_Chart : mg "Chart" = some (.ref t.C_Chart)
  c_Chart : Cls K t.C_Chart
  y_Chart : ∀ (H : Hp) (a dx : Addr) (fs : List (Str × V)), H a = some (.ins t.C_Chart dx fs) → TyOf K H (.ref a) (.ref t.C_Chart)
  k_Chart : Mk K t.C_Chart t.f_Chart_init
  n_Chart_many : NoAttr K t.C_Chart "many"
  n_Chart_starts : NoAttr K t.C_Chart "starts"
  n_Chart_bads : NoAttr K t.C_Chart "bads"
  n_Chart_after : NoAttr K t.C_Chart "after"
  h_Chart_behind : Meth K t.C_Chart "behind" t.f_Chart_behind
  b_ValueError : mg "ValueError" = none
  m_NotShut : mg "NotShut" = some (.ref t.C_NotShut)
  ty_NotShut : PySem.W.typeIn K (.ref t.C_NotShut) = some (.type "type")
  cl_NotShut : (PySem.W.clsIn K t.C_NotShut).isSome = true
  mb_NotShut : PySem.W.mroIn K t.C_NotShut (.type "BaseException") = some true
  m_EverError : mg "EverError" = some (.ref t.C_EverError)
  ty_EverError : PySem.W.typeIn K (.ref t.C_EverError) = some (.type "type")
  cl_EverError : (PySem.W.clsIn K t.C_EverError).isSome = true
  mb_EverError : PySem.W.mroIn K t.C_EverError (.type "BaseException") = some true
  m_NoBar : mg "NoBar" = some (.ref t.C_NoBar)
  ty_NoBar : PySem.W.typeIn K (.ref t.C_NoBar) = some (.type "type")
  cl_NoBar : (PySem.W.clsIn K t.C_NoBar).isSome = true
  mb_NoBar : PySem.W.mroIn K t.C_NoBar (.type "BaseException") = some true
  m_NoChart : mg "NoChart" = some (.ref t.C_NoChart)
  ty_NoChart : PySem.W.typeIn K (.ref t.C_NoChart) = some (.type "type")
  cl_NoChart : (PySem.W.clsIn K t.C_NoChart).isSome = true
  mb_NoChart : PySem.W.mroIn K t.C_NoChart (.type "BaseException") = some true
  m_NoFence : mg "NoFence" = some (.ref t.C_NoFence)
  ty_NoFence : PySem.W.typeIn K (.ref t.C_NoFence) = some (.type "type")
  cl_NoFence : (PySem.W.clsIn K t.C_NoFence).isSome = true
  mb_NoFence : PySem.W.mroIn K t.C_NoFence (.type "BaseException") = some true
  m_NoFormula : mg "NoFormula" = some (.ref t.C_NoFormula)
  ty_NoFormula : PySem.W.typeIn K (.ref t.C_NoFormula) = some (.type "type")
  cl_NoFormula : (PySem.W.clsIn K t.C_NoFormula).isSome = true
  mb_NoFormula : PySem.W.mroIn K t.C_NoFormula (.type "BaseException") = some true
  m_NoFrame : mg "NoFrame" = some (.ref t.C_NoFrame)
  ty_NoFrame : PySem.W.typeIn K (.ref t.C_NoFrame) = some (.type "type")
  cl_NoFrame : (PySem.W.clsIn K t.C_NoFrame).isSome = true
  mb_NoFrame : PySem.W.mroIn K t.C_NoFrame (.type "BaseException") = some true
  m_NoLine : mg "NoLine" = some (.ref t.C_NoLine)
  ty_NoLine : PySem.W.typeIn K (.ref t.C_NoLine) = some (.type "type")
  cl_NoLine : (PySem.W.clsIn K t.C_NoLine).isSome = true
  mb_NoLine : PySem.W.mroIn K t.C_NoLine (.type "BaseException") = some true
  m_NoMachine : mg "NoMachine" = some (.ref t.C_NoMachine)
  ty_NoMachine : PySem.W.typeIn K (.ref t.C_NoMachine) = some (.type "type")
  cl_NoMachine : (PySem.W.clsIn K t.C_NoMachine).isSome = true
  mb_NoMachine : PySem.W.mroIn K t.C_NoMachine (.type "BaseException") = some true
  m_NoName : mg "NoName" = some (.ref t.C_NoName)
  ty_NoName : PySem.W.typeIn K (.ref t.C_NoName) = some (.type "type")
  cl_NoName : (PySem.W.clsIn K t.C_NoName).isSome = true
  mb_NoName : PySem.W.mroIn K t.C_NoName (.type "BaseException") = some true
  m_NoStep : mg "NoStep" = some (.ref t.C_NoStep)
  ty_NoStep : PySem.W.typeIn K (.ref t.C_NoStep) = some (.type "type")
  cl_NoStep : (PySem.W.clsIn K t.C_NoStep).isSome = true
  mb_NoStep : PySem.W.mroIn K t.C_NoStep (.type "BaseException") = some true
  m_NothingLeft : mg "NothingLeft" = some (.ref t.C_NothingLeft)
  ty_NothingLeft : PySem.W.typeIn K (.ref t.C_NothingLeft) = some (.type "type")
  cl_NothingLeft : (PySem.W.clsIn K t.C_NothingLeft).isSome = true
  mb_NothingLeft : PySem.W.mroIn K t.C_NothingLeft (.type "BaseException") = some true
  m_TooMany : mg "TooMany" = some (.ref t.C_TooMany)
  ty_TooMany : PySem.W.typeIn K (.ref t.C_TooMany) = some (.type "type")
  cl_TooMany : (PySem.W.clsIn K t.C_TooMany).isSome = true
  mb_TooMany : PySem.W.mroIn K t.C_TooMany (.type "BaseException") = some true
  q_NotShut : ExcK K t.C_NotShut
  v_NotShut : PySem.W.kitOne K (.ref t.C_NotShut) (.type "ValueError") = some true
  xs_NotShut_NotShut : PySem.W.mroIn K t.C_NotShut (.ref t.C_NotShut) = some true
  xz_NotShut_NotShut : PySem.W.kitOne K (.ref t.C_NotShut) (.ref t.C_NotShut) = some true
  xs_NotShut_EverError : PySem.W.mroIn K t.C_NotShut (.ref t.C_EverError) = some true
  xz_NotShut_EverError : PySem.W.kitOne K (.ref t.C_NotShut) (.ref t.C_EverError) = some true
  xs_NotShut_NoBar : PySem.W.mroIn K t.C_NotShut (.ref t.C_NoBar) = some false
  xz_NotShut_NoBar : PySem.W.kitOne K (.ref t.C_NotShut) (.ref t.C_NoBar) = some false
  xs_NotShut_NoChart : PySem.W.mroIn K t.C_NotShut (.ref t.C_NoChart) = some false
  xz_NotShut_NoChart : PySem.W.kitOne K (.ref t.C_NotShut) (.ref t.C_NoChart) = some false
  xs_NotShut_NoFence : PySem.W.mroIn K t.C_NotShut (.ref t.C_NoFence) = some false
  xz_NotShut_NoFence : PySem.W.kitOne K (.ref t.C_NotShut) (.ref t.C_NoFence) = some false
  xs_NotShut_NoFormula : PySem.W.mroIn K t.C_NotShut (.ref t.C_NoFormula) = some false
  xz_NotShut_NoFormula : PySem.W.kitOne K (.ref t.C_NotShut) (.ref t.C_NoFormula) = some false
  xs_NotShut_NoFrame : PySem.W.mroIn K t.C_NotShut (.ref t.C_NoFrame) = some false
  xz_NotShut_NoFrame : PySem.W.kitOne K (.ref t.C_NotShut) (.ref t.C_NoFrame) = some false
  xs_NotShut_NoLine : PySem.W.mroIn K t.C_NotShut (.ref t.C_NoLine) = some false
  xz_NotShut_NoLine : PySem.W.kitOne K (.ref t.C_NotShut) (.ref t.C_NoLine) = some false
  xs_NotShut_NoMachine : PySem.W.mroIn K t.C_NotShut (.ref t.C_NoMachine) = some false
  xz_NotShut_NoMachine : PySem.W.kitOne K (.ref t.C_NotShut) (.ref t.C_NoMachine) = some false
  xs_NotShut_NoName : PySem.W.mroIn K t.C_NotShut (.ref t.C_NoName) = some false
  xz_NotShut_NoName : PySem.W.kitOne K (.ref t.C_NotShut) (.ref t.C_NoName) = some false
  xs_NotShut_NoStep : PySem.W.mroIn K t.C_NotShut (.ref t.C_NoStep) = some false
  xz_NotShut_NoStep : PySem.W.kitOne K (.ref t.C_NotShut) (.ref t.C_NoStep) = some false
  xs_NotShut_NothingLeft : PySem.W.mroIn K t.C_NotShut (.ref t.C_NothingLeft) = some false
  xz_NotShut_NothingLeft : PySem.W.kitOne K (.ref t.C_NotShut) (.ref t.C_NothingLeft) = some false
  xs_NotShut_TooMany : PySem.W.mroIn K t.C_NotShut (.ref t.C_TooMany) = some false
  xz_NotShut_TooMany : PySem.W.kitOne K (.ref t.C_NotShut) (.ref t.C_TooMany) = some false
  bl : ∀ (s : Shared) (u : Value), BindsTo s t.d_law ⟨[u], []⟩ [("_law_script", u)]
  B : Bt mg
theorem txt_mk {K : PySem.W.Frag} {h : Heap} {mg : Str → Option Value} (X : K.In h) (G : h.Ns mainGlobals mg)
    {f_all_stands : Addr} {od_all_stands an_all_stands : Option Addr} {sl_all_stands : Array (Option Value)} {oc_all_stands kV_all_stands dc_all_stands pm_all_stands cd_all_stands ct_all_stands : Value}
    {f_crowd_of : Addr} {od_crowd_of an_crowd_of : Option Addr} {sl_crowd_of : Array (Option Value)} {oc_crowd_of kV_crowd_of dc_crowd_of pm_crowd_of cd_crowd_of ct_crowd_of : Value}
    {f_asked_by : Addr} {od_asked_by an_asked_by : Option Addr} {sl_asked_by : Array (Option Value)} {oc_asked_by kV_asked_by dc_asked_by pm_asked_by cd_asked_by ct_asked_by : Value}
    {f_without : Addr} {od_without an_without : Option Addr} {sl_without : Array (Option Value)} {oc_without kV_without dc_without pm_without cd_without ct_without : Value}
    {f_may_shut : Addr} {od_may_shut an_may_shut : Option Addr} {sl_may_shut : Array (Option Value)} {oc_may_shut kV_may_shut dc_may_shut pm_may_shut cd_may_shut ct_may_shut : Value}
    {f_without_one_lamp : Addr} {od_without_one_lamp an_without_one_lamp : Option Addr} {sl_without_one_lamp : Array (Option Value)} {oc_without_one_lamp kV_without_one_lamp dc_without_one_lamp pm_without_one_lamp cd_without_one_lamp ct_without_one_lamp : Value}
    {f_widened : Addr} {od_widened an_widened : Option Addr} {sl_widened : Array (Option Value)} {oc_widened kV_widened dc_widened pm_widened cd_widened ct_widened : Value}
    {f_is_whole : Addr} {od_is_whole an_is_whole : Option Addr} {sl_is_whole : Array (Option Value)} {oc_is_whole kV_is_whole dc_is_whole pm_is_whole cd_is_whole ct_is_whole : Value}
    {f_is_crowd : Addr} {od_is_crowd an_is_crowd : Option Addr} {sl_is_crowd : Array (Option Value)} {oc_is_crowd kV_is_crowd dc_is_crowd pm_is_crowd cd_is_crowd ct_is_crowd : Value}
    {f_is_chart : Addr} {od_is_chart an_is_chart : Option Addr} {sl_is_chart : Array (Option Value)} {oc_is_chart kV_is_chart dc_is_chart pm_is_chart cd_is_chart ct_is_chart : Value}
    {f__law_cell_at : Addr} {od__law_cell_at an__law_cell_at : Option Addr} {sl__law_cell_at : Array (Option Value)} {oc__law_cell_at kV__law_cell_at dc__law_cell_at pm__law_cell_at cd__law_cell_at ct__law_cell_at : Value}
    {f__law_crowd_by : Addr} {od__law_crowd_by an__law_crowd_by : Option Addr} {sl__law_crowd_by : Array (Option Value)} {oc__law_crowd_by kV__law_crowd_by dc__law_crowd_by pm__law_crowd_by cd__law_crowd_by ct__law_crowd_by : Value}
    {f__law_step_in : Addr} {od__law_step_in an__law_step_in : Option Addr} {sl__law_step_in : Array (Option Value)} {oc__law_step_in kV__law_step_in dc__law_step_in pm__law_step_in cd__law_step_in ct__law_step_in : Value}
    {f__law_after_by : Addr} {od__law_after_by an__law_after_by : Option Addr} {sl__law_after_by : Array (Option Value)} {oc__law_after_by kV__law_after_by dc__law_after_by pm__law_after_by cd__law_after_by ct__law_after_by : Value}
    {f__law_may : Addr} {od__law_may an__law_may : Option Addr} {sl__law_may : Array (Option Value)} {oc__law_may kV__law_may dc__law_may pm__law_may cd__law_may ct__law_may : Value}
    {f__law_whole : Addr} {od__law_whole an__law_whole : Option Addr} {sl__law_whole : Array (Option Value)} {oc__law_whole kV__law_whole dc__law_whole pm__law_whole cd__law_whole ct__law_whole : Value}
    {f__law_refused : Addr} {od__law_refused an__law_refused : Option Addr} {sl__law_refused : Array (Option Value)} {oc__law_refused kV__law_refused dc__law_refused pm__law_refused cd__law_refused ct__law_refused : Value}
    {f__law_refused_by_any : Addr} {od__law_refused_by_any an__law_refused_by_any : Option Addr} {sl__law_refused_by_any : Array (Option Value)} {oc__law_refused_by_any kV__law_refused_by_any dc__law_refused_by_any pm__law_refused_by_any cd__law_refused_by_any ct__law_refused_by_any : Value}
    {f_law : Addr} {od_law an_law : Option Addr} {sl_law : Array (Option Value)} {oc_law kV_law dc_law pm_law cd_law ct_law : Value}
    {f_Chart_init : Addr} {od_Chart_init an_Chart_init : Option Addr} {sl_Chart_init : Array (Option Value)} {oc_Chart_init kV_Chart_init dc_Chart_init pm_Chart_init cd_Chart_init ct_Chart_init : Value}
    {f_Chart_behind : Addr} {od_Chart_behind an_Chart_behind : Option Addr} {sl_Chart_behind : Array (Option Value)} {oc_Chart_behind kV_Chart_behind dc_Chart_behind pm_Chart_behind cd_Chart_behind ct_Chart_behind : Value}
    {C_Chart : Addr}
    {C_NotShut : Addr}
    {C_EverError : Addr}
    {C_NoBar : Addr}
    {C_NoChart : Addr}
    {C_NoFence : Addr}
    {C_NoFormula : Addr}
    {C_NoFrame : Addr}
    {C_NoLine : Addr}
    {C_NoMachine : Addr}
    {C_NoName : Addr}
    {C_NoStep : Addr}
    {C_NothingLeft : Addr}
    {C_TooMany : Addr}
    (a_all_stands : PySem.W.nsIn K mainGlobals "all_stands" = some (some (.ref f_all_stands)))
    (a_crowd_of : PySem.W.nsIn K mainGlobals "crowd_of" = some (some (.ref f_crowd_of)))
    (a_asked_by : PySem.W.nsIn K mainGlobals "asked_by" = some (some (.ref f_asked_by)))
    (a_without : PySem.W.nsIn K mainGlobals "without" = some (some (.ref f_without)))
    (a_may_shut : PySem.W.nsIn K mainGlobals "may_shut" = some (some (.ref f_may_shut)))
    (a_without_one_lamp : PySem.W.nsIn K mainGlobals "without_one_lamp" = some (some (.ref f_without_one_lamp)))
    (a_widened : PySem.W.nsIn K mainGlobals "widened" = some (some (.ref f_widened)))
    (a_is_whole : PySem.W.nsIn K mainGlobals "is_whole" = some (some (.ref f_is_whole)))
    (a_is_crowd : PySem.W.nsIn K mainGlobals "is_crowd" = some (some (.ref f_is_crowd)))
    (a_is_chart : PySem.W.nsIn K mainGlobals "is_chart" = some (some (.ref f_is_chart)))
    (a__law_cell_at : PySem.W.nsIn K mainGlobals "_law_cell_at" = some (some (.ref f__law_cell_at)))
    (a__law_crowd_by : PySem.W.nsIn K mainGlobals "_law_crowd_by" = some (some (.ref f__law_crowd_by)))
    (a__law_step_in : PySem.W.nsIn K mainGlobals "_law_step_in" = some (some (.ref f__law_step_in)))
    (a__law_after_by : PySem.W.nsIn K mainGlobals "_law_after_by" = some (some (.ref f__law_after_by)))
    (a__law_may : PySem.W.nsIn K mainGlobals "_law_may" = some (some (.ref f__law_may)))
    (a__law_whole : PySem.W.nsIn K mainGlobals "_law_whole" = some (some (.ref f__law_whole)))
    (a__law_refused : PySem.W.nsIn K mainGlobals "_law_refused" = some (some (.ref f__law_refused)))
    (a__law_refused_by_any : PySem.W.nsIn K mainGlobals "_law_refused_by_any" = some (some (.ref f__law_refused_by_any)))
    (a_law : PySem.W.nsIn K mainGlobals "law" = some (some (.ref f_law)))
    (a_Chart : PySem.W.nsIn K mainGlobals "Chart" = some (some (.ref C_Chart)))
    (a_NotShut : PySem.W.nsIn K mainGlobals "NotShut" = some (some (.ref C_NotShut)))
    (a_EverError : PySem.W.nsIn K mainGlobals "EverError" = some (some (.ref C_EverError)))
    (a_NoBar : PySem.W.nsIn K mainGlobals "NoBar" = some (some (.ref C_NoBar)))
    (a_NoChart : PySem.W.nsIn K mainGlobals "NoChart" = some (some (.ref C_NoChart)))
    (a_NoFence : PySem.W.nsIn K mainGlobals "NoFence" = some (some (.ref C_NoFence)))
    (a_NoFormula : PySem.W.nsIn K mainGlobals "NoFormula" = some (some (.ref C_NoFormula)))
    (a_NoFrame : PySem.W.nsIn K mainGlobals "NoFrame" = some (some (.ref C_NoFrame)))
    (a_NoLine : PySem.W.nsIn K mainGlobals "NoLine" = some (some (.ref C_NoLine)))
    (a_NoMachine : PySem.W.nsIn K mainGlobals "NoMachine" = some (some (.ref C_NoMachine)))
    (a_NoName : PySem.W.nsIn K mainGlobals "NoName" = some (some (.ref C_NoName)))
    (a_NoStep : PySem.W.nsIn K mainGlobals "NoStep" = some (some (.ref C_NoStep)))
    (a_NothingLeft : PySem.W.nsIn K mainGlobals "NothingLeft" = some (some (.ref C_NothingLeft)))
    (a_TooMany : PySem.W.nsIn K mainGlobals "TooMany" = some (some (.ref C_TooMany)))
    (ic_NotShut : PySem.W.isClsIn K C_NotShut = true)
    (ty_NotShut : PySem.W.typeIn K (.ref C_NotShut) = some (.type "type"))
    (mb_NotShut : PySem.W.mroIn K C_NotShut (.type "BaseException") = some true)
    (ic_EverError : PySem.W.isClsIn K C_EverError = true)
    (ty_EverError : PySem.W.typeIn K (.ref C_EverError) = some (.type "type"))
    (mb_EverError : PySem.W.mroIn K C_EverError (.type "BaseException") = some true)
    (ic_NoBar : PySem.W.isClsIn K C_NoBar = true)
    (ty_NoBar : PySem.W.typeIn K (.ref C_NoBar) = some (.type "type"))
    (mb_NoBar : PySem.W.mroIn K C_NoBar (.type "BaseException") = some true)
    (ic_NoChart : PySem.W.isClsIn K C_NoChart = true)
    (ty_NoChart : PySem.W.typeIn K (.ref C_NoChart) = some (.type "type"))
    (mb_NoChart : PySem.W.mroIn K C_NoChart (.type "BaseException") = some true)
    (ic_NoFence : PySem.W.isClsIn K C_NoFence = true)
    (ty_NoFence : PySem.W.typeIn K (.ref C_NoFence) = some (.type "type"))
    (mb_NoFence : PySem.W.mroIn K C_NoFence (.type "BaseException") = some true)
    (ic_NoFormula : PySem.W.isClsIn K C_NoFormula = true)
    (ty_NoFormula : PySem.W.typeIn K (.ref C_NoFormula) = some (.type "type"))
    (mb_NoFormula : PySem.W.mroIn K C_NoFormula (.type "BaseException") = some true)
    (ic_NoFrame : PySem.W.isClsIn K C_NoFrame = true)
    (ty_NoFrame : PySem.W.typeIn K (.ref C_NoFrame) = some (.type "type"))
    (mb_NoFrame : PySem.W.mroIn K C_NoFrame (.type "BaseException") = some true)
    (ic_NoLine : PySem.W.isClsIn K C_NoLine = true)
    (ty_NoLine : PySem.W.typeIn K (.ref C_NoLine) = some (.type "type"))
    (mb_NoLine : PySem.W.mroIn K C_NoLine (.type "BaseException") = some true)
    (ic_NoMachine : PySem.W.isClsIn K C_NoMachine = true)
    (ty_NoMachine : PySem.W.typeIn K (.ref C_NoMachine) = some (.type "type"))
    (mb_NoMachine : PySem.W.mroIn K C_NoMachine (.type "BaseException") = some true)
    (ic_NoName : PySem.W.isClsIn K C_NoName = true)
    (ty_NoName : PySem.W.typeIn K (.ref C_NoName) = some (.type "type"))
    (mb_NoName : PySem.W.mroIn K C_NoName (.type "BaseException") = some true)
    (ic_NoStep : PySem.W.isClsIn K C_NoStep = true)
    (ty_NoStep : PySem.W.typeIn K (.ref C_NoStep) = some (.type "type"))
    (mb_NoStep : PySem.W.mroIn K C_NoStep (.type "BaseException") = some true)
    (ic_NothingLeft : PySem.W.isClsIn K C_NothingLeft = true)
    (ty_NothingLeft : PySem.W.typeIn K (.ref C_NothingLeft) = some (.type "type"))
    (mb_NothingLeft : PySem.W.mroIn K C_NothingLeft (.type "BaseException") = some true)
    (ic_TooMany : PySem.W.isClsIn K C_TooMany = true)
    (ty_TooMany : PySem.W.typeIn K (.ref C_TooMany) = some (.type "type"))
    (mb_TooMany : PySem.W.mroIn K C_TooMany (.type "BaseException") = some true)
    (xo_NotShut : PySem.W.excIn K C_NotShut [.type "ValueError", .type "Exception", .type "BaseException", .type "object"] "ValueError.__new__" = true)
    (xg_NotShut : PySem.W.findIn K (.ref C_NotShut) "__getattribute__" = some (some (.builtin "BaseException.__getattribute__")))
    (xh_NotShut : PySem.W.findIn K (.ref C_NotShut) "__getattr__" = some none)
    (xc_NotShut : PySem.W.findIn K (.ref C_NotShut) "__class__" = some (some (.builtin "object.__class__")))
    (xm_NotShut : PySem.W.mroIn K C_NotShut (.type "object") = some true)
    (xv_NotShut : PySem.W.subIn K (.ref C_NotShut) (.type "ValueError") = some true)
    (xs_NotShut_NotShut : PySem.W.mroIn K C_NotShut (.ref C_NotShut) = some true)
    (xs_NotShut_EverError : PySem.W.mroIn K C_NotShut (.ref C_EverError) = some true)
    (xs_NotShut_NoBar : PySem.W.mroIn K C_NotShut (.ref C_NoBar) = some false)
    (xs_NotShut_NoChart : PySem.W.mroIn K C_NotShut (.ref C_NoChart) = some false)
    (xs_NotShut_NoFence : PySem.W.mroIn K C_NotShut (.ref C_NoFence) = some false)
    (xs_NotShut_NoFormula : PySem.W.mroIn K C_NotShut (.ref C_NoFormula) = some false)
    (xs_NotShut_NoFrame : PySem.W.mroIn K C_NotShut (.ref C_NoFrame) = some false)
    (xs_NotShut_NoLine : PySem.W.mroIn K C_NotShut (.ref C_NoLine) = some false)
    (xs_NotShut_NoMachine : PySem.W.mroIn K C_NotShut (.ref C_NoMachine) = some false)
    (xs_NotShut_NoName : PySem.W.mroIn K C_NotShut (.ref C_NoName) = some false)
    (xs_NotShut_NoStep : PySem.W.mroIn K C_NotShut (.ref C_NoStep) = some false)
    (xs_NotShut_NothingLeft : PySem.W.mroIn K C_NotShut (.ref C_NothingLeft) = some false)
    (xs_NotShut_TooMany : PySem.W.mroIn K C_NotShut (.ref C_TooMany) = some false)
    (b_ValueError : PySem.W.nsIn K mainGlobals "ValueError" = some none)
    (ne_ : [C_NotShut, C_EverError, C_NoBar, C_NoChart, C_NoFence, C_NoFormula, C_NoFrame, C_NoLine, C_NoMachine, C_NoName, C_NoStep, C_NothingLeft, C_TooMany].Nodup)
    (e_Chart_init : PySem.W.findIn K (.ref C_Chart) "__init__" = some (some (.ref f_Chart_init)))
    (e_Chart_behind : PySem.W.findIn K (.ref C_Chart) "behind" = some (some (.ref f_Chart_behind)))
    (l_all_stands : K.lookup f_all_stands = some ⟨oc_all_stands, od_all_stands, .func (PySem.W.fnOf "all_stands" "all_stands" (defArgs s_all_stands) (defBody s_all_stands) (defScope s_all_stands) .none kV_all_stands dc_all_stands pm_all_stands an_all_stands cd_all_stands ct_all_stands), sl_all_stands⟩)
    (c_all_stands : PySem.W.codeIn K cd_all_stands "all_stands" = true)
    (k_all_stands : PySem.W.keepIn K (.ref f_all_stands) = true)
    (l_crowd_of : K.lookup f_crowd_of = some ⟨oc_crowd_of, od_crowd_of, .func (PySem.W.fnOf "crowd_of" "crowd_of" (defArgs s_crowd_of) (defBody s_crowd_of) (defScope s_crowd_of) .none kV_crowd_of dc_crowd_of pm_crowd_of an_crowd_of cd_crowd_of ct_crowd_of), sl_crowd_of⟩)
    (c_crowd_of : PySem.W.codeIn K cd_crowd_of "crowd_of" = true)
    (k_crowd_of : PySem.W.keepIn K (.ref f_crowd_of) = true)
    (l_asked_by : K.lookup f_asked_by = some ⟨oc_asked_by, od_asked_by, .func (PySem.W.fnOf "asked_by" "asked_by" (defArgs s_asked_by) (defBody s_asked_by) (defScope s_asked_by) .none kV_asked_by dc_asked_by pm_asked_by an_asked_by cd_asked_by ct_asked_by), sl_asked_by⟩)
    (c_asked_by : PySem.W.codeIn K cd_asked_by "asked_by" = true)
    (k_asked_by : PySem.W.keepIn K (.ref f_asked_by) = true)
    (l_without : K.lookup f_without = some ⟨oc_without, od_without, .func (PySem.W.fnOf "without" "without" (defArgs s_without) (defBody s_without) (defScope s_without) .none kV_without dc_without pm_without an_without cd_without ct_without), sl_without⟩)
    (c_without : PySem.W.codeIn K cd_without "without" = true)
    (k_without : PySem.W.keepIn K (.ref f_without) = true)
    (l_may_shut : K.lookup f_may_shut = some ⟨oc_may_shut, od_may_shut, .func (PySem.W.fnOf "may_shut" "may_shut" (defArgs s_may_shut) (defBody s_may_shut) (defScope s_may_shut) .none kV_may_shut dc_may_shut pm_may_shut an_may_shut cd_may_shut ct_may_shut), sl_may_shut⟩)
    (c_may_shut : PySem.W.codeIn K cd_may_shut "may_shut" = true)
    (k_may_shut : PySem.W.keepIn K (.ref f_may_shut) = true)
    (l_without_one_lamp : K.lookup f_without_one_lamp = some ⟨oc_without_one_lamp, od_without_one_lamp, .func (PySem.W.fnOf "without_one_lamp" "without_one_lamp" (defArgs s_without_one_lamp) (defBody s_without_one_lamp) (defScope s_without_one_lamp) .none kV_without_one_lamp dc_without_one_lamp pm_without_one_lamp an_without_one_lamp cd_without_one_lamp ct_without_one_lamp), sl_without_one_lamp⟩)
    (c_without_one_lamp : PySem.W.codeIn K cd_without_one_lamp "without_one_lamp" = true)
    (k_without_one_lamp : PySem.W.keepIn K (.ref f_without_one_lamp) = true)
    (l_widened : K.lookup f_widened = some ⟨oc_widened, od_widened, .func (PySem.W.fnOf "widened" "widened" (defArgs s_widened) (defBody s_widened) (defScope s_widened) .none kV_widened dc_widened pm_widened an_widened cd_widened ct_widened), sl_widened⟩)
    (c_widened : PySem.W.codeIn K cd_widened "widened" = true)
    (k_widened : PySem.W.keepIn K (.ref f_widened) = true)
    (l_is_whole : K.lookup f_is_whole = some ⟨oc_is_whole, od_is_whole, .func (PySem.W.fnOf "is_whole" "is_whole" (defArgs s_is_whole) (defBody s_is_whole) (defScope s_is_whole) .none kV_is_whole dc_is_whole pm_is_whole an_is_whole cd_is_whole ct_is_whole), sl_is_whole⟩)
    (c_is_whole : PySem.W.codeIn K cd_is_whole "is_whole" = true)
    (k_is_whole : PySem.W.keepIn K (.ref f_is_whole) = true)
    (l_is_crowd : K.lookup f_is_crowd = some ⟨oc_is_crowd, od_is_crowd, .func (PySem.W.fnOf "is_crowd" "is_crowd" (defArgs s_is_crowd) (defBody s_is_crowd) (defScope s_is_crowd) .none kV_is_crowd dc_is_crowd pm_is_crowd an_is_crowd cd_is_crowd ct_is_crowd), sl_is_crowd⟩)
    (c_is_crowd : PySem.W.codeIn K cd_is_crowd "is_crowd" = true)
    (k_is_crowd : PySem.W.keepIn K (.ref f_is_crowd) = true)
    (l_is_chart : K.lookup f_is_chart = some ⟨oc_is_chart, od_is_chart, .func (PySem.W.fnOf "is_chart" "is_chart" (defArgs s_is_chart) (defBody s_is_chart) (defScope s_is_chart) .none kV_is_chart dc_is_chart pm_is_chart an_is_chart cd_is_chart ct_is_chart), sl_is_chart⟩)
    (c_is_chart : PySem.W.codeIn K cd_is_chart "is_chart" = true)
    (k_is_chart : PySem.W.keepIn K (.ref f_is_chart) = true)
    (l__law_cell_at : K.lookup f__law_cell_at = some ⟨oc__law_cell_at, od__law_cell_at, .func (PySem.W.fnOf "_law_cell_at" "_law_cell_at" (defArgs s__law_cell_at) (defBody s__law_cell_at) (defScope s__law_cell_at) .none kV__law_cell_at dc__law_cell_at pm__law_cell_at an__law_cell_at cd__law_cell_at ct__law_cell_at), sl__law_cell_at⟩)
    (c__law_cell_at : PySem.W.codeIn K cd__law_cell_at "_law_cell_at" = true)
    (k__law_cell_at : PySem.W.keepIn K (.ref f__law_cell_at) = true)
    (l__law_crowd_by : K.lookup f__law_crowd_by = some ⟨oc__law_crowd_by, od__law_crowd_by, .func (PySem.W.fnOf "_law_crowd_by" "_law_crowd_by" (defArgs s__law_crowd_by) (defBody s__law_crowd_by) (defScope s__law_crowd_by) .none kV__law_crowd_by dc__law_crowd_by pm__law_crowd_by an__law_crowd_by cd__law_crowd_by ct__law_crowd_by), sl__law_crowd_by⟩)
    (c__law_crowd_by : PySem.W.codeIn K cd__law_crowd_by "_law_crowd_by" = true)
    (k__law_crowd_by : PySem.W.keepIn K (.ref f__law_crowd_by) = true)
    (l__law_step_in : K.lookup f__law_step_in = some ⟨oc__law_step_in, od__law_step_in, .func (PySem.W.fnOf "_law_step_in" "_law_step_in" (defArgs s__law_step_in) (defBody s__law_step_in) (defScope s__law_step_in) .none kV__law_step_in dc__law_step_in pm__law_step_in an__law_step_in cd__law_step_in ct__law_step_in), sl__law_step_in⟩)
    (c__law_step_in : PySem.W.codeIn K cd__law_step_in "_law_step_in" = true)
    (k__law_step_in : PySem.W.keepIn K (.ref f__law_step_in) = true)
    (l__law_after_by : K.lookup f__law_after_by = some ⟨oc__law_after_by, od__law_after_by, .func (PySem.W.fnOf "_law_after_by" "_law_after_by" (defArgs s__law_after_by) (defBody s__law_after_by) (defScope s__law_after_by) .none kV__law_after_by dc__law_after_by pm__law_after_by an__law_after_by cd__law_after_by ct__law_after_by), sl__law_after_by⟩)
    (c__law_after_by : PySem.W.codeIn K cd__law_after_by "_law_after_by" = true)
    (k__law_after_by : PySem.W.keepIn K (.ref f__law_after_by) = true)
    (l__law_may : K.lookup f__law_may = some ⟨oc__law_may, od__law_may, .func (PySem.W.fnOf "_law_may" "_law_may" (defArgs s__law_may) (defBody s__law_may) (defScope s__law_may) .none kV__law_may dc__law_may pm__law_may an__law_may cd__law_may ct__law_may), sl__law_may⟩)
    (c__law_may : PySem.W.codeIn K cd__law_may "_law_may" = true)
    (k__law_may : PySem.W.keepIn K (.ref f__law_may) = true)
    (l__law_whole : K.lookup f__law_whole = some ⟨oc__law_whole, od__law_whole, .func (PySem.W.fnOf "_law_whole" "_law_whole" (defArgs s__law_whole) (defBody s__law_whole) (defScope s__law_whole) .none kV__law_whole dc__law_whole pm__law_whole an__law_whole cd__law_whole ct__law_whole), sl__law_whole⟩)
    (c__law_whole : PySem.W.codeIn K cd__law_whole "_law_whole" = true)
    (k__law_whole : PySem.W.keepIn K (.ref f__law_whole) = true)
    (l__law_refused : K.lookup f__law_refused = some ⟨oc__law_refused, od__law_refused, .func (PySem.W.fnOf "_law_refused" "_law_refused" (defArgs s__law_refused) (defBody s__law_refused) (defScope s__law_refused) .none kV__law_refused dc__law_refused pm__law_refused an__law_refused cd__law_refused ct__law_refused), sl__law_refused⟩)
    (c__law_refused : PySem.W.codeIn K cd__law_refused "_law_refused" = true)
    (k__law_refused : PySem.W.keepIn K (.ref f__law_refused) = true)
    (l__law_refused_by_any : K.lookup f__law_refused_by_any = some ⟨oc__law_refused_by_any, od__law_refused_by_any, .func (PySem.W.fnOf "_law_refused_by_any" "_law_refused_by_any" (defArgs s__law_refused_by_any) (defBody s__law_refused_by_any) (defScope s__law_refused_by_any) .none kV__law_refused_by_any dc__law_refused_by_any pm__law_refused_by_any an__law_refused_by_any cd__law_refused_by_any ct__law_refused_by_any), sl__law_refused_by_any⟩)
    (c__law_refused_by_any : PySem.W.codeIn K cd__law_refused_by_any "_law_refused_by_any" = true)
    (k__law_refused_by_any : PySem.W.keepIn K (.ref f__law_refused_by_any) = true)
    (l_law : K.lookup f_law = some ⟨oc_law, od_law, .func (PySem.W.fnOf "law" "law" (defArgs s_law) (defBody s_law) (defScope s_law) .none kV_law dc_law pm_law an_law cd_law ct_law), sl_law⟩)
    (c_law : PySem.W.codeIn K cd_law "law" = true)
    (k_law : PySem.W.keepIn K (.ref f_law) = true)
    (l_Chart_init : K.lookup f_Chart_init = some ⟨oc_Chart_init, od_Chart_init, .func (PySem.W.fnOf "__init__" "Chart.__init__" (defArgs s_Chart_init) (defBody s_Chart_init) (defScope s_Chart_init) .none kV_Chart_init dc_Chart_init pm_Chart_init an_Chart_init cd_Chart_init ct_Chart_init), sl_Chart_init⟩)
    (c_Chart_init : PySem.W.codeIn K cd_Chart_init "Chart.__init__" = true)
    (k_Chart_init : PySem.W.keepIn K (.ref f_Chart_init) = true)
    (i_Chart_init : PySem.W.isFn K (.ref f_Chart_init) = true)
    (l_Chart_behind : K.lookup f_Chart_behind = some ⟨oc_Chart_behind, od_Chart_behind, .func (PySem.W.fnOf "behind" "Chart.behind" (defArgs s_Chart_behind) (defBody s_Chart_behind) (defScope s_Chart_behind) .none kV_Chart_behind dc_Chart_behind pm_Chart_behind an_Chart_behind cd_Chart_behind ct_Chart_behind), sl_Chart_behind⟩)
    (c_Chart_behind : PySem.W.codeIn K cd_Chart_behind "Chart.behind" = true)
    (k_Chart_behind : PySem.W.keepIn K (.ref f_Chart_behind) = true)
    (i_Chart_behind : PySem.W.isFn K (.ref f_Chart_behind) = true)
    (pg_Chart : PySem.W.plainGet K C_Chart Str.empty = true)
    (hd_Chart : PySem.W.hasDictIn K C_Chart = true)
    (po_Chart : PySem.W.plainOver K C_Chart = true)
    (sa_Chart : PySem.W.findIn K (.ref C_Chart) "__setattr__" = some (some (.builtin "object.__setattr__")))
    (kc_Chart : PySem.W.keepIn K (.ref C_Chart) = true)
    (ha_Chart : PySem.W.findIn K (.ref C_Chart) "__class__" = some (some (.builtin "object.__class__")))
    (hm_Chart : PySem.W.mroIn K C_Chart (.type "object") = some true)
    (mk_Chart : PySem.W.makesIn K C_Chart = true)
    (n_Chart_many : PySem.W.findIn K (.ref C_Chart) "many" = some none)
    (n_Chart_starts : PySem.W.findIn K (.ref C_Chart) "starts" = some none)
    (n_Chart_bads : PySem.W.findIn K (.ref C_Chart) "bads" = some none)
    (n_Chart_after : PySem.W.findIn K (.ref C_Chart) "after" = some none)
    (hn_ : PySem.W.specialIn K (.builtin "object.__class__") "__get__" = some (some (.builtin "getset_descriptor.__get__")))
    (htk_ : PySem.W.takesIn K (.builtin "object.__class__") = some true)
    (b_len : PySem.W.nsIn K mainGlobals "len" = some none)
    (b_range : PySem.W.nsIn K mainGlobals "range" = some none)
    (b_isinstance : PySem.W.nsIn K mainGlobals "isinstance" = some none)
    (b_int : PySem.W.nsIn K mainGlobals "int" = some none)
    (b_bool : PySem.W.nsIn K mainGlobals "bool" = some none)
    (b_str : PySem.W.nsIn K mainGlobals "str" = some none)
    (b_list : PySem.W.nsIn K mainGlobals "list" = some none)
    (b_tuple : PySem.W.nsIn K mainGlobals "tuple" = some none)
    (b_dict : PySem.W.nsIn K mainGlobals "dict" = some none)
    (b_set : PySem.W.nsIn K mainGlobals "set" = some none)
    (b_sorted : PySem.W.nsIn K mainGlobals "sorted" = some none)
    (b_max : PySem.W.nsIn K mainGlobals "max" = some none)
    (b_min : PySem.W.nsIn K mainGlobals "min" = some none)
    (b_sum : PySem.W.nsIn K mainGlobals "sum" = some none)
    (b_any : PySem.W.nsIn K mainGlobals "any" = some none)
    (b_all : PySem.W.nsIn K mainGlobals "all" = some none)
    (b_abs : PySem.W.nsIn K mainGlobals "abs" = some none)
    (b_reversed : PySem.W.nsIn K mainGlobals "reversed" = some none)
    (b_enumerate : PySem.W.nsIn K mainGlobals "enumerate" = some none)
    (b_zip : PySem.W.nsIn K mainGlobals "zip" = some none)
    : ∃ t : Ad, Txt K mg t := by
  refine ⟨⟨f_all_stands, PySem.W.fnOf "all_stands" "all_stands" (defArgs s_all_stands) (defBody s_all_stands) (defScope s_all_stands) .none kV_all_stands dc_all_stands pm_all_stands an_all_stands cd_all_stands ct_all_stands, f_crowd_of, PySem.W.fnOf "crowd_of" "crowd_of" (defArgs s_crowd_of) (defBody s_crowd_of) (defScope s_crowd_of) .none kV_crowd_of dc_crowd_of pm_crowd_of an_crowd_of cd_crowd_of ct_crowd_of, f_asked_by, PySem.W.fnOf "asked_by" "asked_by" (defArgs s_asked_by) (defBody s_asked_by) (defScope s_asked_by) .none kV_asked_by dc_asked_by pm_asked_by an_asked_by cd_asked_by ct_asked_by, f_without, PySem.W.fnOf "without" "without" (defArgs s_without) (defBody s_without) (defScope s_without) .none kV_without dc_without pm_without an_without cd_without ct_without, f_may_shut, PySem.W.fnOf "may_shut" "may_shut" (defArgs s_may_shut) (defBody s_may_shut) (defScope s_may_shut) .none kV_may_shut dc_may_shut pm_may_shut an_may_shut cd_may_shut ct_may_shut, f_without_one_lamp, PySem.W.fnOf "without_one_lamp" "without_one_lamp" (defArgs s_without_one_lamp) (defBody s_without_one_lamp) (defScope s_without_one_lamp) .none kV_without_one_lamp dc_without_one_lamp pm_without_one_lamp an_without_one_lamp cd_without_one_lamp ct_without_one_lamp, f_widened, PySem.W.fnOf "widened" "widened" (defArgs s_widened) (defBody s_widened) (defScope s_widened) .none kV_widened dc_widened pm_widened an_widened cd_widened ct_widened, f_is_whole, PySem.W.fnOf "is_whole" "is_whole" (defArgs s_is_whole) (defBody s_is_whole) (defScope s_is_whole) .none kV_is_whole dc_is_whole pm_is_whole an_is_whole cd_is_whole ct_is_whole, f_is_crowd, PySem.W.fnOf "is_crowd" "is_crowd" (defArgs s_is_crowd) (defBody s_is_crowd) (defScope s_is_crowd) .none kV_is_crowd dc_is_crowd pm_is_crowd an_is_crowd cd_is_crowd ct_is_crowd, f_is_chart, PySem.W.fnOf "is_chart" "is_chart" (defArgs s_is_chart) (defBody s_is_chart) (defScope s_is_chart) .none kV_is_chart dc_is_chart pm_is_chart an_is_chart cd_is_chart ct_is_chart, f__law_cell_at, PySem.W.fnOf "_law_cell_at" "_law_cell_at" (defArgs s__law_cell_at) (defBody s__law_cell_at) (defScope s__law_cell_at) .none kV__law_cell_at dc__law_cell_at pm__law_cell_at an__law_cell_at cd__law_cell_at ct__law_cell_at, f__law_crowd_by, PySem.W.fnOf "_law_crowd_by" "_law_crowd_by" (defArgs s__law_crowd_by) (defBody s__law_crowd_by) (defScope s__law_crowd_by) .none kV__law_crowd_by dc__law_crowd_by pm__law_crowd_by an__law_crowd_by cd__law_crowd_by ct__law_crowd_by, f__law_step_in, PySem.W.fnOf "_law_step_in" "_law_step_in" (defArgs s__law_step_in) (defBody s__law_step_in) (defScope s__law_step_in) .none kV__law_step_in dc__law_step_in pm__law_step_in an__law_step_in cd__law_step_in ct__law_step_in, f__law_after_by, PySem.W.fnOf "_law_after_by" "_law_after_by" (defArgs s__law_after_by) (defBody s__law_after_by) (defScope s__law_after_by) .none kV__law_after_by dc__law_after_by pm__law_after_by an__law_after_by cd__law_after_by ct__law_after_by, f__law_may, PySem.W.fnOf "_law_may" "_law_may" (defArgs s__law_may) (defBody s__law_may) (defScope s__law_may) .none kV__law_may dc__law_may pm__law_may an__law_may cd__law_may ct__law_may, f__law_whole, PySem.W.fnOf "_law_whole" "_law_whole" (defArgs s__law_whole) (defBody s__law_whole) (defScope s__law_whole) .none kV__law_whole dc__law_whole pm__law_whole an__law_whole cd__law_whole ct__law_whole, f__law_refused, PySem.W.fnOf "_law_refused" "_law_refused" (defArgs s__law_refused) (defBody s__law_refused) (defScope s__law_refused) .none kV__law_refused dc__law_refused pm__law_refused an__law_refused cd__law_refused ct__law_refused, f__law_refused_by_any, PySem.W.fnOf "_law_refused_by_any" "_law_refused_by_any" (defArgs s__law_refused_by_any) (defBody s__law_refused_by_any) (defScope s__law_refused_by_any) .none kV__law_refused_by_any dc__law_refused_by_any pm__law_refused_by_any an__law_refused_by_any cd__law_refused_by_any ct__law_refused_by_any, f_law, PySem.W.fnOf "law" "law" (defArgs s_law) (defBody s_law) (defScope s_law) .none kV_law dc_law pm_law an_law cd_law ct_law, f_Chart_init, PySem.W.fnOf "__init__" "Chart.__init__" (defArgs s_Chart_init) (defBody s_Chart_init) (defScope s_Chart_init) .none kV_Chart_init dc_Chart_init pm_Chart_init an_Chart_init cd_Chart_init ct_Chart_init, f_Chart_behind, PySem.W.fnOf "behind" "Chart.behind" (defArgs s_Chart_behind) (defBody s_Chart_behind) (defScope s_Chart_behind) .none kV_Chart_behind dc_Chart_behind pm_Chart_behind an_Chart_behind cd_Chart_behind ct_Chart_behind, C_Chart, C_NotShut, C_EverError, C_NoBar, C_NoChart, C_NoFence, C_NoFormula, C_NoFrame, C_NoLine, C_NoMachine, C_NoName, C_NoStep, C_NothingLeft, C_TooMany⟩, ?_⟩
  exact {
    F_all_stands := fun_mk (st := s_all_stands) l_all_stands c_all_stands k_all_stands,
    b_all_stands := (fun_mk (st := s_all_stands) l_all_stands c_all_stands k_all_stands).binds (ps := ["many"]) fun _ _ _ _ _ _ us hl => match us, hl with | [_], _ => rfl,
    m_all_stands := PySem.W.mg_of X G a_all_stands,
    F_crowd_of := fun_mk (st := s_crowd_of) l_crowd_of c_crowd_of k_crowd_of,
    b_crowd_of := (fun_mk (st := s_crowd_of) l_crowd_of c_crowd_of k_crowd_of).binds (ps := ["many", "bar"]) fun _ _ _ _ _ _ us hl => match us, hl with | [_, _], _ => rfl,
    m_crowd_of := PySem.W.mg_of X G a_crowd_of,
    F_asked_by := fun_mk (st := s_asked_by) l_asked_by c_asked_by k_asked_by,
    b_asked_by := (fun_mk (st := s_asked_by) l_asked_by c_asked_by k_asked_by).binds (ps := ["bar"]) fun _ _ _ _ _ _ us hl => match us, hl with | [_], _ => rfl,
    m_asked_by := PySem.W.mg_of X G a_asked_by,
    F_without := fun_mk (st := s_without) l_without c_without k_without,
    b_without := (fun_mk (st := s_without) l_without c_without k_without).binds (ps := ["bar", "lamp"]) fun _ _ _ _ _ _ us hl => match us, hl with | [_, _], _ => rfl,
    m_without := PySem.W.mg_of X G a_without,
    F_may_shut := fun_mk (st := s_may_shut) l_may_shut c_may_shut k_may_shut,
    b_may_shut := (fun_mk (st := s_may_shut) l_may_shut c_may_shut k_may_shut).binds (ps := ["chart", "held", "bar"]) fun _ _ _ _ _ _ us hl => match us, hl with | [_, _, _], _ => rfl,
    m_may_shut := PySem.W.mg_of X G a_may_shut,
    F_without_one_lamp := fun_mk (st := s_without_one_lamp) l_without_one_lamp c_without_one_lamp k_without_one_lamp,
    b_without_one_lamp := (fun_mk (st := s_without_one_lamp) l_without_one_lamp c_without_one_lamp k_without_one_lamp).binds (ps := ["chart", "held", "bar"]) fun _ _ _ _ _ _ us hl => match us, hl with | [_, _, _], _ => rfl,
    m_without_one_lamp := PySem.W.mg_of X G a_without_one_lamp,
    F_widened := fun_mk (st := s_widened) l_widened c_widened k_widened,
    b_widened := (fun_mk (st := s_widened) l_widened c_widened k_widened).binds (ps := ["chart", "held", "bar"]) fun _ _ _ _ _ _ us hl => match us, hl with | [_, _, _], _ => rfl,
    m_widened := PySem.W.mg_of X G a_widened,
    F_is_whole := fun_mk (st := s_is_whole) l_is_whole c_is_whole k_is_whole,
    b_is_whole := (fun_mk (st := s_is_whole) l_is_whole c_is_whole k_is_whole).binds (ps := ["thing"]) fun _ _ _ _ _ _ us hl => match us, hl with | [_], _ => rfl,
    m_is_whole := PySem.W.mg_of X G a_is_whole,
    F_is_crowd := fun_mk (st := s_is_crowd) l_is_crowd c_is_crowd k_is_crowd,
    b_is_crowd := (fun_mk (st := s_is_crowd) l_is_crowd c_is_crowd k_is_crowd).binds (ps := ["thing", "many"]) fun _ _ _ _ _ _ us hl => match us, hl with | [_, _], _ => rfl,
    m_is_crowd := PySem.W.mg_of X G a_is_crowd,
    F_is_chart := fun_mk (st := s_is_chart) l_is_chart c_is_chart k_is_chart,
    b_is_chart := (fun_mk (st := s_is_chart) l_is_chart c_is_chart k_is_chart).binds (ps := ["many", "starts", "bads", "after"]) fun _ _ _ _ _ _ us hl => match us, hl with | [_, _, _, _], _ => rfl,
    m_is_chart := PySem.W.mg_of X G a_is_chart,
    F__law_cell_at := fun_mk (st := s__law_cell_at) l__law_cell_at c__law_cell_at k__law_cell_at,
    b__law_cell_at := (fun_mk (st := s__law_cell_at) l__law_cell_at c__law_cell_at k__law_cell_at).binds (ps := ["_law_script", "_law_k"]) fun _ _ _ _ _ _ us hl => match us, hl with | [_, _], _ => rfl,
    m__law_cell_at := PySem.W.mg_of X G a__law_cell_at,
    F__law_crowd_by := fun_mk (st := s__law_crowd_by) l__law_crowd_by c__law_crowd_by k__law_crowd_by,
    b__law_crowd_by := (fun_mk (st := s__law_crowd_by) l__law_crowd_by c__law_crowd_by k__law_crowd_by).binds (ps := ["_law_cell", "_law_size"]) fun _ _ _ _ _ _ us hl => match us, hl with | [_, _], _ => rfl,
    m__law_crowd_by := PySem.W.mg_of X G a__law_crowd_by,
    F__law_step_in := fun_mk (st := s__law_step_in) l__law_step_in c__law_step_in k__law_step_in,
    b__law_step_in := (fun_mk (st := s__law_step_in) l__law_step_in c__law_step_in k__law_step_in).binds (ps := ["_law_after", "_law_cell", "_law_k", "_law_stand"]) fun _ _ _ _ _ _ us hl => match us, hl with | [_, _, _, _], _ => rfl,
    m__law_step_in := PySem.W.mg_of X G a__law_step_in,
    F__law_after_by := fun_mk (st := s__law_after_by) l__law_after_by c__law_after_by k__law_after_by,
    b__law_after_by := (fun_mk (st := s__law_after_by) l__law_after_by c__law_after_by k__law_after_by).binds (ps := ["_law_script", "_law_size"]) fun _ _ _ _ _ _ us hl => match us, hl with | [_, _], _ => rfl,
    m__law_after_by := PySem.W.mg_of X G a__law_after_by,
    F__law_may := fun_mk (st := s__law_may) l__law_may c__law_may k__law_may,
    b__law_may := (fun_mk (st := s__law_may) l__law_may c__law_may k__law_may).binds (ps := ["_law_starts", "_law_after", "_law_held", "_law_asked", "_law_lit"]) fun _ _ _ _ _ _ us hl => match us, hl with | [_, _, _, _, _], _ => rfl,
    m__law_may := PySem.W.mg_of X G a__law_may,
    F__law_whole := fun_mk (st := s__law_whole) l__law_whole c__law_whole k__law_whole,
    b__law_whole := (fun_mk (st := s__law_whole) l__law_whole c__law_whole k__law_whole).binds (ps := ["_law_found"]) fun _ _ _ _ _ _ us hl => match us, hl with | [_], _ => rfl,
    m__law_whole := PySem.W.mg_of X G a__law_whole,
    F__law_refused := fun_mk (st := s__law_refused) l__law_refused c__law_refused k__law_refused,
    b__law_refused := (fun_mk (st := s__law_refused) l__law_refused c__law_refused k__law_refused).binds (ps := ["_law_chart", "_law_held", "_law_bar"]) fun _ _ _ _ _ _ us hl => match us, hl with | [_, _, _], _ => rfl,
    m__law_refused := PySem.W.mg_of X G a__law_refused,
    F__law_refused_by_any := fun_mk (st := s__law_refused_by_any) l__law_refused_by_any c__law_refused_by_any k__law_refused_by_any,
    b__law_refused_by_any := (fun_mk (st := s__law_refused_by_any) l__law_refused_by_any c__law_refused_by_any k__law_refused_by_any).binds (ps := ["_law_chart", "_law_held", "_law_bar"]) fun _ _ _ _ _ _ us hl => match us, hl with | [_, _, _], _ => rfl,
    m__law_refused_by_any := PySem.W.mg_of X G a__law_refused_by_any,
    F_law := fun_mk (st := s_law) l_law c_law k_law,
    b_law := (fun_mk (st := s_law) l_law c_law k_law).binds (ps := ["_law_script"]) fun _ _ _ _ _ _ us hl => match us, hl with | [_], _ => rfl,
    m_law := PySem.W.mg_of X G a_law,
    F_Chart_init := fun_mk (st := s_Chart_init) l_Chart_init c_Chart_init k_Chart_init,
    b_Chart_init := (fun_mk (st := s_Chart_init) l_Chart_init c_Chart_init k_Chart_init).binds (ps := ["self", "many", "starts", "bads", "after"]) fun _ _ _ _ _ _ us hl => match us, hl with | [_, _, _, _, _], _ => rfl,
    F_Chart_behind := fun_mk (st := s_Chart_behind) l_Chart_behind c_Chart_behind k_Chart_behind,
    b_Chart_behind := (fun_mk (st := s_Chart_behind) l_Chart_behind c_Chart_behind k_Chart_behind).binds (ps := ["self", "crowd"]) fun _ _ _ _ _ _ us hl => match us, hl with | [_, _], _ => rfl,
    m_Chart := PySem.W.mg_of X G a_Chart,
    c_Chart := ⟨pg_Chart, hd_Chart, po_Chart, sa_Chart⟩,
    y_Chart := fun H a dx fs e => TyOf.ins e ⟨pg_Chart, hd_Chart, po_Chart, sa_Chart⟩ ha_Chart hn_ htk_ hm_Chart,
    k_Chart := ⟨mk_Chart, e_Chart_init, i_Chart_init, kc_Chart⟩,
    n_Chart_many := n_Chart_many,
    n_Chart_starts := n_Chart_starts,
    n_Chart_bads := n_Chart_bads,
    n_Chart_after := n_Chart_after,
    h_Chart_behind := ⟨e_Chart_behind, i_Chart_behind, k_Chart_behind⟩,
    b_ValueError := PySem.W.mg_none_of X G b_ValueError,
    m_NotShut := PySem.W.mg_of X G a_NotShut,
    ty_NotShut := ty_NotShut,
    cl_NotShut := ic_NotShut,
    mb_NotShut := mb_NotShut,
    m_EverError := PySem.W.mg_of X G a_EverError,
    ty_EverError := ty_EverError,
    cl_EverError := ic_EverError,
    mb_EverError := mb_EverError,
    m_NoBar := PySem.W.mg_of X G a_NoBar,
    ty_NoBar := ty_NoBar,
    cl_NoBar := ic_NoBar,
    mb_NoBar := mb_NoBar,
    m_NoChart := PySem.W.mg_of X G a_NoChart,
    ty_NoChart := ty_NoChart,
    cl_NoChart := ic_NoChart,
    mb_NoChart := mb_NoChart,
    m_NoFence := PySem.W.mg_of X G a_NoFence,
    ty_NoFence := ty_NoFence,
    cl_NoFence := ic_NoFence,
    mb_NoFence := mb_NoFence,
    m_NoFormula := PySem.W.mg_of X G a_NoFormula,
    ty_NoFormula := ty_NoFormula,
    cl_NoFormula := ic_NoFormula,
    mb_NoFormula := mb_NoFormula,
    m_NoFrame := PySem.W.mg_of X G a_NoFrame,
    ty_NoFrame := ty_NoFrame,
    cl_NoFrame := ic_NoFrame,
    mb_NoFrame := mb_NoFrame,
    m_NoLine := PySem.W.mg_of X G a_NoLine,
    ty_NoLine := ty_NoLine,
    cl_NoLine := ic_NoLine,
    mb_NoLine := mb_NoLine,
    m_NoMachine := PySem.W.mg_of X G a_NoMachine,
    ty_NoMachine := ty_NoMachine,
    cl_NoMachine := ic_NoMachine,
    mb_NoMachine := mb_NoMachine,
    m_NoName := PySem.W.mg_of X G a_NoName,
    ty_NoName := ty_NoName,
    cl_NoName := ic_NoName,
    mb_NoName := mb_NoName,
    m_NoStep := PySem.W.mg_of X G a_NoStep,
    ty_NoStep := ty_NoStep,
    cl_NoStep := ic_NoStep,
    mb_NoStep := mb_NoStep,
    m_NothingLeft := PySem.W.mg_of X G a_NothingLeft,
    ty_NothingLeft := ty_NothingLeft,
    cl_NothingLeft := ic_NothingLeft,
    mb_NothingLeft := mb_NothingLeft,
    m_TooMany := PySem.W.mg_of X G a_TooMany,
    ty_TooMany := ty_TooMany,
    cl_TooMany := ic_TooMany,
    mb_TooMany := mb_TooMany,
    q_NotShut := ⟨xo_NotShut, ic_NotShut, xg_NotShut, xh_NotShut, xc_NotShut, mb_NotShut, xm_NotShut⟩,
    v_NotShut := kit_val xv_NotShut,
    xs_NotShut_NotShut := xs_NotShut_NotShut,
    xz_NotShut_NotShut := kit_selfR _ _,
    xs_NotShut_EverError := xs_NotShut_EverError,
    xz_NotShut_EverError := kit_own (fun e => nd_ne ne_ (i := 0) (j := 1) rfl rfl (by decide) (Value.ref.inj e)) ic_EverError ty_EverError xs_NotShut_EverError,
    xs_NotShut_NoBar := xs_NotShut_NoBar,
    xz_NotShut_NoBar := kit_own (fun e => nd_ne ne_ (i := 0) (j := 2) rfl rfl (by decide) (Value.ref.inj e)) ic_NoBar ty_NoBar xs_NotShut_NoBar,
    xs_NotShut_NoChart := xs_NotShut_NoChart,
    xz_NotShut_NoChart := kit_own (fun e => nd_ne ne_ (i := 0) (j := 3) rfl rfl (by decide) (Value.ref.inj e)) ic_NoChart ty_NoChart xs_NotShut_NoChart,
    xs_NotShut_NoFence := xs_NotShut_NoFence,
    xz_NotShut_NoFence := kit_own (fun e => nd_ne ne_ (i := 0) (j := 4) rfl rfl (by decide) (Value.ref.inj e)) ic_NoFence ty_NoFence xs_NotShut_NoFence,
    xs_NotShut_NoFormula := xs_NotShut_NoFormula,
    xz_NotShut_NoFormula := kit_own (fun e => nd_ne ne_ (i := 0) (j := 5) rfl rfl (by decide) (Value.ref.inj e)) ic_NoFormula ty_NoFormula xs_NotShut_NoFormula,
    xs_NotShut_NoFrame := xs_NotShut_NoFrame,
    xz_NotShut_NoFrame := kit_own (fun e => nd_ne ne_ (i := 0) (j := 6) rfl rfl (by decide) (Value.ref.inj e)) ic_NoFrame ty_NoFrame xs_NotShut_NoFrame,
    xs_NotShut_NoLine := xs_NotShut_NoLine,
    xz_NotShut_NoLine := kit_own (fun e => nd_ne ne_ (i := 0) (j := 7) rfl rfl (by decide) (Value.ref.inj e)) ic_NoLine ty_NoLine xs_NotShut_NoLine,
    xs_NotShut_NoMachine := xs_NotShut_NoMachine,
    xz_NotShut_NoMachine := kit_own (fun e => nd_ne ne_ (i := 0) (j := 8) rfl rfl (by decide) (Value.ref.inj e)) ic_NoMachine ty_NoMachine xs_NotShut_NoMachine,
    xs_NotShut_NoName := xs_NotShut_NoName,
    xz_NotShut_NoName := kit_own (fun e => nd_ne ne_ (i := 0) (j := 9) rfl rfl (by decide) (Value.ref.inj e)) ic_NoName ty_NoName xs_NotShut_NoName,
    xs_NotShut_NoStep := xs_NotShut_NoStep,
    xz_NotShut_NoStep := kit_own (fun e => nd_ne ne_ (i := 0) (j := 10) rfl rfl (by decide) (Value.ref.inj e)) ic_NoStep ty_NoStep xs_NotShut_NoStep,
    xs_NotShut_NothingLeft := xs_NotShut_NothingLeft,
    xz_NotShut_NothingLeft := kit_own (fun e => nd_ne ne_ (i := 0) (j := 11) rfl rfl (by decide) (Value.ref.inj e)) ic_NothingLeft ty_NothingLeft xs_NotShut_NothingLeft,
    xs_NotShut_TooMany := xs_NotShut_TooMany,
    xz_NotShut_TooMany := kit_own (fun e => nd_ne ne_ (i := 0) (j := 12) rfl rfl (by decide) (Value.ref.inj e)) ic_TooMany ty_TooMany xs_NotShut_TooMany,
    bl := fun s u => .of_eq rfl,
    B := ⟨PySem.W.mg_none_of X G b_len, PySem.W.mg_none_of X G b_range, PySem.W.mg_none_of X G b_isinstance, PySem.W.mg_none_of X G b_int, PySem.W.mg_none_of X G b_bool, PySem.W.mg_none_of X G b_str, PySem.W.mg_none_of X G b_list, PySem.W.mg_none_of X G b_tuple, PySem.W.mg_none_of X G b_dict, PySem.W.mg_none_of X G b_set, PySem.W.mg_none_of X G b_sorted, PySem.W.mg_none_of X G b_max, PySem.W.mg_none_of X G b_min, PySem.W.mg_none_of X G b_sum, PySem.W.mg_none_of X G b_any, PySem.W.mg_none_of X G b_all, PySem.W.mg_none_of X G b_abs, PySem.W.mg_none_of X G b_reversed, PySem.W.mg_none_of X G b_enumerate, PySem.W.mg_none_of X G b_zip⟩ }
theorem and_nat (x y : Nat) : Builtin.bitAnd (x : Int) (y : Int) = ((x &&& y : Nat) : Int) := by simp [Builtin.bitAnd]
theorem not_not (x : Int) : Builtin.bitNot (Builtin.bitNot x) = x := by unfold Builtin.bitNot; omega
theorem or_nat (x y : Nat) : Builtin.bitOr (x : Int) (y : Int) = ((x ||| y : Nat) : Int) := by
  show Builtin.bitNot (Builtin.bitAnd (Builtin.bitNot x) (Builtin.bitNot y)) = _
  rw [PyProof.Rows.bitAnd_nn (by unfold Builtin.bitNot; omega) (by unfold Builtin.bitNot; omega), not_not, not_not, not_not]
  simp
def cell (ns : List Int) (k : Nat) : Int := ns.getD k 0
def spLaw (K : PySem.W.Frag) : Sp := fun vs H Q _ => ∃ (a : Addr) (ns : List Int), vs = [.ref a] ∧ SqL K H a (ns.map V.int) ∧ ns.length ≤ 63 ∧ Only H ∧ ∀ H', Q (.bl true) H'
def spCell (K : PySem.W.Frag) : Sp := fun vs H Q _ => ∃ (a : Addr) (ns : List Int) (k : Nat), vs = [.ref a, .int (k : Int)] ∧ SqL K H a (ns.map V.int) ∧ Q (.int (cell ns k % 10 ^ 40)) H
section
variable {P : Program} {w : World} {K : PySem.W.Frag} {mg : Str → Option Value} {base : Heap} {t : Ad}
theorem ok_cell_at (T : Txt K mg t) : FnS P w K mg base 1 "_law_cell_at" ["_law_script", "_law_k"] ((spCell K)) := by
  refine ⟨_, _, T.F__law_cell_at.ok sc__law_cell_at (fun vs H Q E h => ?_) (fun cdv A outer s H vs Q E hr h => ?_), T.b__law_cell_at, T.F__law_cell_at.kp, T.m__law_cell_at⟩
  · obtain ⟨a, ns, k, rfl, hS, q⟩ := h
    rfl
  obtain ⟨a, ns, k, rfl, hS, q⟩ := h
  refine ⟨_, (pss_cons (ps_if (pt_cmpR op_lt (pv 1) (pe_callB call_lenG rfl T.B.len bt_len (pa_cons (pv 0) pa_nil)) (nomark _))
      (pss_one (ps_ret (pe_op op_mod (pe_ix ix_seq (pv 0) (pv 1) (fun _ _ => rfl)) (pe_op op_pow pe_int pe_int))))
      pss_nil)
      (pss_one (ps_ret pe_int))), ?_⟩
  walk_at "rd0"
  refine i_ifd (fun h => ?_) (fun h => ?_)
  · rw [List.length_map] at h
    have hk : k < ns.length := by omega
    walk_at "rd"
    refine i_ixS (j := k) (v := .int (cell ns k)) hS ?_ ?_
    · rw [List.getElem?_map, List.getElem?_eq_getElem hk]
      simp [cell, List.getD_eq_getElem?_getD, List.getElem?_eq_getElem hk]
    walk_at "rd"
    refine i_rI (by decide) ?_
    exact q
  · rw [List.length_map] at h
    walk_at "rd"
    have e : cell ns k = 0 := by
      simp only [cell, List.getD_eq_getElem?_getD]
      rw [List.getElem?_eq_none (by omega)]
      rfl
    rw [e] at q
    exact q
end

def BarAt (H : Hp) (p : Addr) (b : Bar) : Prop := H p = some (.tup [.int (b.1 : Int), .int (b.2 : Int)])
theorem lit_val (s k : Nat) : Builtin.bitAnd ((s : Int) / 2 ^ ((k : Int)).toNat) 1 = if s.testBit k = true then 1 else 0 := by
  have e : ((s : Int) / 2 ^ ((k : Int)).toNat) = ((s / 2 ^ k : Nat) : Int) := by simp
  rw [e, show (1 : Int) = ((1 : Nat) : Int) from rfl, and_nat, Nat.and_one_is_mod, lit_iff]
  by_cases h : s / 2 ^ k % 2 = 1
  · rw [decide_eq_true h, if_pos rfl, h]
  · rw [decide_eq_false h, if_neg Bool.false_ne_true]
    have : s / 2 ^ k % 2 = 0 := by omega
    rw [this]; rfl
theorem lit_eq (s k : Nat) : decide (Builtin.bitAnd ((s : Int) / 2 ^ ((k : Int)).toNat) 1 = 1) = s.testBit k := by
  rw [lit_val]
  cases s.testBit k <;> rfl
theorem get_range {n i : Nat} {lo : Int} {x : V} (h : ((List.range n).map fun i : Nat => V.int (lo + (i : Int)))[i]? = some x) : i < n ∧ x = .int (lo + (i : Int)) := by
  rw [List.getElem?_map] at h
  by_cases hi : i < n
  · rw [List.getElem?_range hi] at h
    exact ⟨hi, (Option.some.inj h).symm⟩
  · rw [List.getElem?_eq_none (by rw [List.length_range]; omega)] at h
    cases h
theorem pow_small {m : Nat} (h : m ≤ 6) : (2 : Nat) ^ m ≤ 64 := Nat.le_trans (Nat.pow_le_pow_right (by decide) h) (by decide)
theorem shl_nat (m : Nat) : (1 : Int) * 2 ^ ((m : Int)).toNat = ((2 ^ m : Nat) : Int) := by
  simp
theorem or_one {f : Nat → Bool} {n : Nat} (h : f n = true) : Builtin.bitOr ((bits f n : Nat) : Int) (1 * 2 ^ ((n : Int)).toNat) = ((bits f (n + 1) : Nat) : Int) := by
  rw [shl_nat, or_nat, bits_or_one f n h]
theorem andnot_nat (x y : Nat) : Builtin.bitAnd (x : Int) (Builtin.bitNot (y : Int)) = ((x - (x &&& y) : Nat) : Int) := by
  rw [PyProof.Rows.bitAnd_not, and_nat]
  have := Nat.and_le_left (n := x) (m := y)
  omega
def nums (l : List Nat) : List Int := l.map fun k : Nat => (k : Int)
/-- [s for s in range(n) if p s] -/
theorem comp_range {ix : List Nat} {tc : TT} {te : TE} {σ : St} {H : Hp} {Q : VK} {n : Nat} (p : Nat → Bool) (hz : n ≤ 1000000)
    (ht : ∀ (i : Nat) (H' : Hp), i < n → Same H H' → ∀ R : Bool → Hp → Prop, (∀ H2, Same H' H2 → R (p i) H2) → tc (some (.int (i : Int)) :: subS σ ix) H' R)
    (he : ∀ (i : Nat) (H' : Hp), i < n → Same H H' → ∀ R2 : V → Hp → Prop, (∀ H3, Same H' H3 → R2 (.int (i : Int)) H3) → te (some (.int (i : Int)) :: subS σ ix) H' R2)
    (hd : ∀ (acc : Addr) (H' : Hp), H acc = none → Same H H' → H' acc = some (.lst ((nums ((List.range n).filter p)).map V.int)) → Q (.ref acc) H') : CompG (Itr 0 n) ix tc te σ Q H := by
  refine comp_by (fun i ys => ys = (nums ((List.range i).filter p)).map V.int) (wk_range 0 n H) (by rw [List.length_map, List.length_range]; exact hz) rfl ?_ ?_
  · intro i x ys acc H' hx s1 hacc ea hy _ R k
    obtain ⟨hi, rfl⟩ := get_range hx
    rw [Int.zero_add]
    rw [Int.zero_add] at k
    refine ht i H' hi s1 R fun H2 s2 => k (p i) H2 s2 (fun z => ?_) fun z R2 k2 => ?_
    · rw [filter_succ, z, if_neg Bool.false_ne_true, List.append_nil]; exact hy
    · refine he i H2 hi (s1.trans s2) R2 fun H3 s3 => k2 _ H3 s3 ?_
      rw [filter_succ, z, if_pos rfl, hy]
      unfold nums
      rw [List.map_append, List.map_append]
      rfl
  · intro acc ys H' n1 s1 e1 hy
    rw [List.length_map, List.length_range] at hy
    subst hy
    exact hd acc H' n1 s1 e1

def behN (af : List Nat) (s : Nat) : Nat := bits (fun k => decide (af.getD k 0 &&& s ≠ 0)) af.length
theorem get_nums {af : List Nat} {i : Nat} (h : i < af.length) : ((nums af).map V.int)[i]? = some (.int ((af.getD i 0 : Nat) : Int)) := by
  unfold nums
  rw [List.getElem?_map, List.getElem?_map, List.getD_eq_getElem?_getD, List.getElem?_eq_getElem h]
  rfl
theorem len_nums (af : List Nat) : ((nums af).map V.int).length = af.length := by unfold nums; rw [List.length_map, List.length_map]
theorem nums_snoc (af : List Nat) (x : Nat) : (nums (af ++ [x])).map V.int = (nums af).map V.int ++ [V.int (x : Int)] := by unfold nums; rw [List.map_append, List.map_append]; rfl
theorem pow_lt2 {a b : Nat} (h : a < b) : 2 ^ a < 2 ^ b := Nat.pow_lt_pow_right (by decide) h

section
variable {P : Program} {w : World} {K : PySem.W.Frag} {mg : Str → Option Value} {base : Heap} {t : Ad}
def spAllStands : Sp := fun vs H Q _ => ∃ (m : Nat), vs = [.int (m : Int)] ∧ m ≤ 6 ∧ Q (.int ((2 ^ 2 ^ m - 1 : Nat) : Int)) H
theorem ok_all_stands (T : Txt K mg t) : FnS P w K mg base 1 "all_stands" ["many"] (spAllStands) := by
  refine ⟨_, _, T.F_all_stands.ok sc_all_stands (fun vs H Q E h => ?_) (fun cdv A outer s H vs Q E hr h => ?_), T.b_all_stands, T.F_all_stands.kp, T.m_all_stands⟩
  · obtain ⟨m, rfl, hm, q⟩ := h
    rfl
  obtain ⟨m, rfl, hm, q⟩ := h
  have hp := pow_small hm
  have hp0 := Int.natCast_nonneg (2 ^ m)
  refine ⟨_, (pss_one (ps_ret (pe_op op_sub (pe_op op_shl pe_int (pe_op op_shl pe_int (pv 0))) pe_int))), ?_⟩
  walk_at "rd0"
  rw [shl_nat]
  refine i_rI ⟨by omega, by omega, by decide⟩ ?_
  walk_at "rd"
  rw [shl_nat]
  have : 1 ≤ 2 ^ 2 ^ m := Nat.one_le_two_pow
  have e : ((2 ^ 2 ^ m : Nat) : Int) - 1 = ((2 ^ 2 ^ m - 1 : Nat) : Int) := by omega
  rw [e]
  exact q

structure GoodC (m st bd : Nat) (af : List Nat) : Prop where
  m1 : 1 ≤ m
  m6 : m ≤ 6
  st : st < 2 ^ 2 ^ m
  bd : bd < 2 ^ 2 ^ m
  ln : af.length = 2 ^ m
  af : ∀ x ∈ af, x < 2 ^ 2 ^ m
def spWhole : Sp := fun vs H Q _ => ∃ n : Int, vs = [.int n] ∧ Q (.bl true) H
theorem ok_is_whole (T : Txt K mg t) : FnS P w K mg base 1 "is_whole" ["thing"] (spWhole) := by
  refine ⟨_, _, T.F_is_whole.ok sc_is_whole (fun vs H Q E h => ?_) (fun cdv A outer s H vs Q E hr h => ?_), T.b_is_whole, T.F_is_whole.kp, T.m_is_whole⟩
  · obtain ⟨n, rfl, q⟩ := h
    rfl
  obtain ⟨n, rfl, q⟩ := h
  refine ⟨_, (pss_one (ps_ret (pe_and (pe_callB call_isi rfl T.B.isinstance bt_isinstance (pa_cons (pv 0) (pa_cons (pe_bltn (v := .ty "int") rfl T.B.int bt_int rfl) pa_nil))) (pe_one (pe_notG (pe_callB call_isi rfl T.B.isinstance bt_isinstance (pa_cons (pv 0) (pa_cons (pe_bltn (v := .ty "bool") rfl T.B.bool bt_bool rfl) pa_nil)))))))), ?_⟩
  walk_at "rd0"
  refine i_ifT rfl ?_
  walk_at "rd"
  exact q
def spIsCrowd : Sp := fun vs H Q _ => ∃ (n m : Nat), vs = [.int (n : Int), .int (m : Int)] ∧ m ≤ 6 ∧ n < 2 ^ 2 ^ m ∧ Q (.bl true) H
theorem ok_is_crowd (T : Txt K mg t) : FnS P w K mg base 2 "is_crowd" ["thing", "many"] (spIsCrowd) := by
  refine ⟨_, _, T.F_is_crowd.ok sc_is_crowd (fun vs H Q E h => ?_) (fun cdv A outer s H vs Q E hr h => ?_), T.b_is_crowd, T.F_is_crowd.kp, T.m_is_crowd⟩
  · obtain ⟨n, m, rfl, hm, hn, q⟩ := h
    rfl
  obtain ⟨n, m, rfl, hm, hn, q⟩ := h
  have G_is_whole := ok_is_whole (P := P) (w := w) (base := base) T
  have G_all_stands := ok_all_stands (P := P) (w := w) (base := base) T
  refine ⟨_, (pss_one (ps_ret (pe_and (pe_fn G_is_whole hr (pa_cons (pv 0) pa_nil)) (pe_one (pe_chain op_le op_le pe_int (pv 0) (pe_fn G_all_stands hr (pa_cons (pv 1) pa_nil))))))), ?_⟩
  walk_at "rd0"
  refine ⟨_, rfl, ?_⟩
  walk_at "rd"
  refine i_ifT rfl ?_
  walk_at "rd"
  refine i_ifT (decide_eq_true (by omega)) ?_
  walk_at "rd"
  refine ⟨m, rfl, hm, ?_⟩
  walk_at "rd"
  have e : decide ((n : Int) ≤ ((2 ^ 2 ^ m - 1 : Nat) : Int)) = true := decide_eq_true (by omega)
  rw [e]
  exact q
def spIsChart : Sp := fun vs H Q _ => ∃ (m st bd : Nat) (l : Addr) (af : List Nat), vs = [.int (m : Int), .int (st : Int), .int (bd : Int), .ref l] ∧ H l = some (.lst ((nums af).map V.int)) ∧ GoodC m st bd af ∧ ∀ H', Same H H' → Q (.bl true) H'
theorem ok_is_chart (T : Txt K mg t) : FnS P w K mg base 3 "is_chart" ["many", "starts", "bads", "after"] (spIsChart) := by
  refine ⟨_, _, T.F_is_chart.ok sc_is_chart (fun vs H Q E h => ?_) (fun cdv A outer s H vs Q E hr h => ?_), T.b_is_chart, T.F_is_chart.kp, T.m_is_chart⟩
  · obtain ⟨m, st, bd, l, af, rfl, hl, g, q⟩ := h
    rfl
  obtain ⟨m, st, bd, l, af, rfl, hl, g, q⟩ := h
  have G_is_whole := ok_is_whole (P := P) (w := w) (base := base) T
  have G_is_crowd := ok_is_crowd (P := P) (w := w) (base := base) T
  have hp := pow_small g.m6
  have m1 := g.m1
  have m6 := g.m6
  have ln := g.ln
  refine ⟨_, (pss_cons (ps_if (PW.pt (pw_or (pt_not (pt_truth (pe_fn G_is_whole hr (pa_cons (pv 0) pa_nil)) (fun _ => rfl))) (pw_or (pt_cmpR op_lt (pv 0) pe_int (nomark _)) (pw_or1 (pt_cmpR op_gt (pv 0) pe_int (nomark _))))))
      (pss_one (ps_ret pe_bl))
      pss_nil)
      (pss_cons (ps_if (PW.pt (pw_or (pt_not (pt_truth (pe_fn G_is_crowd hr (pa_cons (pv 1) (pa_cons (pv 0) pa_nil))) (fun _ => rfl))) (pw_or1 (pt_not (pt_truth (pe_fn G_is_crowd hr (pa_cons (pv 2) (pa_cons (pv 0) pa_nil))) (fun _ => rfl))))))
      (pss_one (ps_ret pe_bl))
      pss_nil)
      (pss_cons (ps_if (PW.pt (pw_or (pt_not (pt_truth (pe_callB call_isi rfl T.B.isinstance bt_isinstance (pa_cons (pv 3) (pa_cons (pe_bltn (v := .ty "list") rfl T.B.list bt_list rfl) pa_nil))) (fun _ => rfl))) (pw_or1 (pt_cmpR (op_neA hr.units) (pe_callB call_lenG rfl T.B.len bt_len (pa_cons (pv 3) pa_nil)) (pe_op op_shl pe_int (pv 0)) (nomark _)))))
      (pss_one (ps_ret pe_bl))
      pss_nil)
      (pss_one (ps_ret (pe_callB (call_allG rfl) rfl T.B.all bt_all (pa_cons (pe_comp (sc := defScope s_is_chart) (N := ["many", "starts", "bads", "after"]) (ns := ["many"]) (ix := [0]) rfl rfl (by decide +kernel) rfl (pi_seq (pv 3)) (fun _ _ _ _ => pts_nil) (fun _ _ _ _ => (pe_fn G_is_crowd hr (pa_cons (pv 0) (pa_cons (pv 1) pa_nil))))) pa_nil))))))), ?_⟩
  walk_at "rd0"
  refine ⟨_, rfl, ?_⟩
  walk_at "rd"
  refine i_ifF rfl ?_
  walk_at "rd"
  refine i_ifF (decide_eq_false (by omega)) ?_
  walk_at "rd"
  refine i_ifF (decide_eq_false (by omega)) ?_
  walk_at "rd"
  refine ⟨_, _, rfl, m6, g.st, ?_⟩
  walk_at "rd"
  refine i_ifF rfl ?_
  walk_at "rd"
  refine ⟨_, _, rfl, m6, g.bd, ?_⟩
  walk_at "rd"
  refine i_ifF rfl ?_
  walk_at "rd"
  refine i_ifF rfl ?_
  walk_at "rd"
  rw [len_nums, shl_nat, ln]
  refine i_ifF (by simp) ?_
  walk_at "rd"
  refine .inl ⟨l, _, rfl, SqL.of hl, ?_⟩
  refine comp_by (fun i ys => ys = (List.replicate i true).map V.bl) (wk_list (SqL.of hl)) (by rw [len_nums]; omega) rfl ?_ ?_
  · intro i x ys acc H' hx s1 hacc ea hy _ R k
    obtain ⟨n, rfl, hn⟩ : ∃ n : Nat, x = .int (n : Int) ∧ n ∈ af := by
      unfold nums at hx
      rw [List.getElem?_map, List.getElem?_map] at hx
      cases e : af[i]? with
      | none => rw [e] at hx; cases hx
      | some n => rw [e] at hx; exact ⟨n, (Option.some.inj hx).symm, List.mem_of_getElem? e⟩
    simp only [subS, List.map_cons, List.map_nil]
    walk_at "rd"
    refine k _ H' (Same.refl _) (fun z => by cases z) fun z R2 k2 => ?_
    walk_at "rd"
    refine ⟨_, _, rfl, m6, g.af n hn, ?_⟩
    refine k2 _ H' (Same.refl _) ?_
    rw [hy, List.replicate_succ', List.map_append]
    rfl
  · intro acc ys H' n1 s1 e1 hy
    subst hy
    walk_at "rd"
    refine i_all (SqL.of e1) ?_
    have e : (List.replicate ((nums af).map V.int).length true).all id = true := by
      rw [List.all_eq_true]
      intro x hx
      rw [(List.mem_replicate.mp hx).2]; rfl
    rw [e]
    exact q H' s1
def chartF (m st bd : Int) (tp : Addr) : List (Str × V) := putF "after" (.ref tp) (putF "bads" (.int bd) (putF "starts" (.int st) (putF "many" (.int m) [])))
def ChartAt (t : Ad) (H : Hp) (p : Addr) (m st bd : Int) (af : List Nat) : Prop := ∃ dx tp, H p = some (.ins t.C_Chart dx (chartF m st bd tp)) ∧ H tp = some (.tup ((nums af).map V.int))
theorem ChartAt.mono {H H' : Hp} {p : Addr} {m st bd : Int} {af : List Nat} (h : ChartAt t H p m st bd af) (s : Ext H H') : ChartAt t H' p m st bd af := by
  obtain ⟨dx, tp, h1, h2⟩ := h
  exact ⟨dx, tp, s _ _ h1 (fun _ z => nomatch z), s _ _ h2 (fun _ z => nomatch z)⟩
theorem len_putF (f : Str) (v : V) : ∀ fs : List (Str × V), (putF f v fs).length ≤ fs.length + 1
  | [] => Nat.le_refl _
  | (g, x) :: r => by
    unfold putF
    by_cases h : g = f
    · rw [if_pos h]; exact Nat.le_succ _
    · rw [if_neg h]; exact Nat.succ_le_succ (len_putF f v r)
def spInitC (C : Addr) : Sp := fun vs H Q _ => ∃ (p dx l : Addr) (m st bd : Nat) (af : List Nat), vs = [.ref p, .int (m : Int), .int (st : Int), .int (bd : Int), .ref l] ∧ H p = some (.ins C dx []) ∧ H l = some (.lst ((nums af).map V.int)) ∧ GoodC m st bd af ∧ ∀ tp H', (∀ b o, b ≠ p → H b = some o → H' b = some o) → H' tp = some (.tup ((nums af).map V.int)) → H' p = some (.ins C dx (chartF m st bd tp)) → Q .non H'
theorem ok_Chart (T : Txt K mg t) : MkS P w K mg base 4 "Chart" t.C_Chart ["self", "many", "starts", "bads", "after"] (spInitC t.C_Chart) := by
  refine ⟨T.m_Chart, _, _, T.k_Chart, T.F_Chart_init.ok sc_Chart_init (fun vs H Q E h => ?_) (fun cdv A outer s H vs Q E hr h => ?_), T.b_Chart_init⟩
  · obtain ⟨p, dx, l, m, st, bd, ys, rfl, _⟩ := h
    rfl
  obtain ⟨p, dx, l, m, st, bd, af, rfl, hp0, hl0, hg, q⟩ := h
  have G_is_chart := ok_is_chart (P := P) (w := w) (base := base) T
  have z1 := len_putF "many" (.int (m : Int)) []
  have z2 := len_putF "starts" (.int (st : Int)) (putF "many" (.int (m : Int)) [])
  have z3 := len_putF "bads" (.int (bd : Int)) (putF "starts" (.int (st : Int)) (putF "many" (.int (m : Int)) []))
  rw [List.length_nil] at z1
  have hlp : l ≠ p := fun e => by rw [e, hp0] at hl0; cases hl0
  refine ⟨_, (pss_cons (ps_if (pt_not (pt_truth (pe_fn G_is_chart hr (pa_cons (pv 1) (pa_cons (pv 2) (pa_cons (pv 3) (pa_cons (pv 4) pa_nil))))) (fun _ => rfl)))
      (pss_one ps_never)
      pss_nil)
      (pss_cons (ps_fld (pv 0) (pv 1) rfl)
      (pss_cons (ps_fld (pv 0) (pv 2) rfl)
      (pss_cons (ps_fld (pv 0) (pv 3) rfl)
      (pss_one (ps_fld (pv 0) (pe_callTy call_tupleG rfl T.B.tuple bt_tuple (pa_cons (pv 4) pa_nil)) rfl)))))), ?_⟩
  walk_at "rd0"
  refine ⟨m, st, bd, l, af, rfl, hl0, hg, fun H0 s0 => ?_⟩
  have hp := s0 _ _ hp0
  have hl := s0 _ _ hl0
  walk_at "rd"
  refine i_ifF rfl ?_
  walk_at "rd"
  refine ⟨p, _, _, _, rfl, hp, T.c_Chart, T.n_Chart_many, by decide, ?_⟩
  walk_at "rd"
  refine ⟨p, _, _, _, rfl, upd_same, T.c_Chart, T.n_Chart_starts, by omega, ?_⟩
  rw [upd_upd]
  walk_at "rd"
  refine ⟨p, _, _, _, rfl, upd_same, T.c_Chart, T.n_Chart_bads, by omega, ?_⟩
  rw [upd_upd]
  walk_at "rd"
  refine i_tupL (ys := (nums af).map V.int) (by rw [upd_ne hlp]; exact hl) fun tp htp => ?_
  have hpt : tp ≠ p := fun e => by rw [e, upd_same] at htp; cases htp
  walk_at "rd"
  refine ⟨p, _, _, _, rfl, by rw [upd_ne (Ne.symm hpt)]; exact upd_same, T.c_Chart, T.n_Chart_after, by omega, ?_⟩
  refine q tp _ (fun b o hb e0 => ?_) (by rw [upd_ne hpt]; exact upd_same) upd_same
  have e := s0 _ _ e0
  have hb' : b ≠ tp := fun z => by rw [← z, upd_ne hb, e] at htp; cases htp
  rw [upd_ne hb, upd_ne hb', upd_ne hb]
  exact e
theorem i_chart {l : Addr} {m st bd : Nat} {af : List Nat} {H : Hp} {Q : VK} (hl : H l = some (.lst ((nums af).map V.int))) (hg : GoodC m st bd af) (h : ∀ (x : Addr) (H' : Hp), Same H H' → H x = none → ChartAt t H' x m st bd af → Q (.ref x) H') :
    MkG t.C_Chart (spInitC t.C_Chart) [.int (m : Int), .int (st : Int), .int (bd : Int), .ref l] H Q := by
  intro x dx hx hdx ne
  have s2 := same_new2 hx hdx (.ins t.C_Chart dx []) (.own x)
  refine ⟨x, dx, l, m, st, bd, _, rfl, upd_same, s2 _ _ hl, hg, fun tp H' s3 h1 h2 => ⟨rfl, ?_⟩⟩
  exact h x H' (fun b o e => s3 b o (ne_of_none e hx) (s2 b o e)) hx ⟨dx, tp, h2, h1⟩
def isCh (t : Ad) (C : Addr) : Prop := C = t.C_Chart
theorem ChartAt.ins {H : Hp} {p : Addr} {m st bd : Int} {af : List Nat} (h : ChartAt t H p m st bd af) (f : Str) (h1 : ¬ f = "after") (h2 : ¬ f = "bads") (h3 : ¬ f = "starts") (h4 : ¬ f = "many") : ∃ C dx fs, H p = some (.ins C dx fs) ∧ isCh t C ∧ fs.lookup f = none := by
  obtain ⟨dx, tp, e, _⟩ := h
  refine ⟨_, dx, _, e, rfl, ?_⟩
  unfold chartF
  rw [lookup_putF, if_neg h1, lookup_putF, if_neg h2, lookup_putF, if_neg h3, lookup_putF, if_neg h4]
  rfl
theorem lk_after (m st bd : Int) (tp : Addr) : (chartF m st bd tp).lookup ("after" : Str) = some (.ref tp) := by
  unfold chartF
  rw [lookup_putF, if_pos rfl]
theorem lk_many (m st bd : Int) (tp : Addr) : (chartF m st bd tp).lookup ("many" : Str) = some (.int m) := by
  unfold chartF
  rw [lookup_putF, if_neg (by decide), lookup_putF, if_neg (by decide), lookup_putF, if_neg (by decide), lookup_putF, if_pos rfl]
theorem lk_starts (m st bd : Int) (tp : Addr) : (chartF m st bd tp).lookup ("starts" : Str) = some (.int st) := by
  unfold chartF
  rw [lookup_putF, if_neg (by decide), lookup_putF, if_neg (by decide), lookup_putF, if_pos rfl]
theorem lit_tru (s k : Nat) : (!decide (Builtin.bitAnd ((s : Int) / 2 ^ ((k : Int)).toNat) 1 = 0)) = s.testBit k := by
  rw [lit_val]
  cases s.testBit k <;> rfl
theorem get_num {af : List Nat} {i : Nat} {v : V} (h : ((nums af).map V.int)[i]? = some v) : i < af.length ∧ v = .int ((af.getD i 0 : Nat) : Int) := by
  have hi : i < af.length := by
    have := (List.getElem?_eq_some_iff.mp h).1
    rw [len_nums] at this
    exact this
  rw [get_nums hi] at h
  exact ⟨hi, (Option.some.inj h).symm⟩

def spBehind (t : Ad) : Sp := fun vs H Q _ => ∃ (p : Addr) (m st bd : Int) (af : List Nat) (s : Nat), vs = [.ref p, .int (s : Int)] ∧ ChartAt t H p m st bd af ∧ af.length ≤ 64 ∧ ∀ H', Same H H' → Q (.int ((behN af s : Nat) : Int)) H'
theorem ok_Chart_behind (T : Txt K mg t) : MeS P w K mg base 1 t.C_Chart "behind" ["self", "crowd"] (spAt (spBehind t) t.C_Chart) := by
  refine ⟨T.c_Chart, _, _, T.F_Chart_behind.ok sc_Chart_behind (fun vs H Q E h => ?_) (fun cdv A outer s H vs Q E hr h => ?_), T.b_Chart_behind, T.h_Chart_behind⟩
  · obtain ⟨⟨p, m, st, bd, af, s, rfl, _⟩, _⟩ := h
    rfl
  obtain ⟨⟨p, m, st, bd, af, n, rfl, hc, h64, q⟩, _⟩ := h
  obtain ⟨dx, tp, e1, e2⟩ := hc
  refine ⟨_, (pss_cons (ss 2 sc_Chart_behind.nd pe_int)
      (pss_cons (ps_for PassesOwn.never rfl (pi_enum rfl T.B.enumerate (pe_fld (pv 0) rfl)) (pg_tup rfl (pgs_cons (sg 3 sc_Chart_behind.nd) (pgs_cons (sg 4 sc_Chart_behind.nd) pgs_nil)))
      (pss_one (ps_if (pt_truth (pe_op op_and (pv 4) (pv 1)) (fun _ => rfl))
      (pss_one (ss 2 sc_Chart_behind.nd (pe_op op_or (pv 2) (pe_op op_shl pe_int (pv 3)))))
      pss_nil)))
      (pss_one (ps_ret (pv 2))))), ?_⟩
  walk_at "rd0"
  refine ⟨p, _, _, _, _, rfl, e1, T.c_Chart, T.n_Chart_after, lk_after _ _ _ _, ?_⟩
  refine seqET (xs := (nums af).map V.int) (fun i σ H' => Same H H' ∧ ∃ v v', σ = [some (.ref p), some (.int (n : Int)), some (.int ((bits (fun k => decide (af.getD k 0 &&& n ≠ 0)) i : Nat) : Int)), v, v']) ⟨Same.refl _, _, _, rfl⟩ (fun i σ H' _ hp => SqT.of (hp.1 _ _ e2)) ?_ ?_
  · rintro i x T' σ H0 H' hx ⟨s1, v, v', rfl⟩ s2 n2 eT
    obtain ⟨hi, rfl⟩ := get_num hx
    refine i_gN2 eT ?_
    walk_at "rd"
    rw [and_nat]
    refine i_ifn (fun h1 => ?_) (fun h1 => ?_)
    · walk_at "rd"
      refine ⟨s1.trans s2, some (.int (i : Int)), some (.int ((af.getD i 0 : Nat) : Int)), ?_⟩
      rw [or_one (f := fun k => decide (af.getD k 0 &&& n ≠ 0)) (decide_eq_true (by omega))]
      all_goals rfl
    · walk_at "rd"
      refine ⟨s1.trans s2, some (.int (i : Int)), some (.int ((af.getD i 0 : Nat) : Int)), ?_⟩
      rw [bits_skip (fun k => decide (af.getD k 0 &&& n ≠ 0)) i (decide_eq_false (by omega))]
      all_goals rfl
  · rintro σ H' ⟨s1, v, v', rfl⟩
    rw [len_nums]
    walk_at "rd"
    exact q H' s1
theorem D_behind_of (T : Txt K mg t) : ∀ C, isCh t C → MeS P w K mg base 1 C "behind" ["self", "crowd"] (spAt (spBehind t) C) := by
  rintro C rfl
  exact ok_Chart_behind T

def spCrowdOf : Sp := fun vs H Q _ => ∃ (m : Nat) (p : Addr) (b : Bar), vs = [.int (m : Int), .ref p] ∧ m ≤ 6 ∧ BarAt H p b ∧ b.good ∧ Q (.int ((crowdB (2 ^ m) b : Nat) : Int)) H
/-- .. of the first i lamps alone -/
def liesU (i : Nat) (b : Bar) (s : Nat) : Bool := (List.range i).all fun k => !(b.1.testBit k && (b.2.testBit k != s.testBit k))
theorem liesU_succ (i : Nat) (b : Bar) (s : Nat) : liesU (i + 1) b s = (liesU i b s && !(b.1.testBit i && (b.2.testBit i != s.testBit i))) := by
  unfold liesU
  rw [List.range_succ, List.all_append, List.all_cons, List.all_nil, Bool.and_true]
theorem liesU_low (b : Bar) (i r j : Nat) (hj : j ≤ i) : liesU j b (2 ^ i + r) = liesU j b r := by
  unfold liesU
  apply Bool.eq_iff_iff.mpr
  rw [List.all_eq_true, List.all_eq_true]
  constructor
  · intro h k hk
    have := h k hk
    rw [Nat.testBit_two_pow_add_gt (by have := List.mem_range.mp hk; omega)] at this
    exact this
  · intro h k hk
    have := h k hk
    rw [Nat.testBit_two_pow_add_gt (by have := List.mem_range.mp hk; omega)]
    exact this
theorem bits_split (f : Nat → Bool) (n : Nat) : ∀ m, bits f (n + m) = bits f n ||| (bits (fun r => f (n + r)) m) <<< n := fun m => by
  apply Nat.eq_of_testBit_eq
  intro k
  rw [testBit_bits, Nat.testBit_or, testBit_bits, Nat.testBit_shiftLeft, testBit_bits]
  by_cases h : k < n
  · rw [decide_eq_true (show k < n + m by omega), decide_eq_true h, decide_eq_false (show ¬ k ≥ n by omega), Bool.false_and, Bool.or_false]
  · rw [decide_eq_false h, Bool.false_and, Bool.false_or, decide_eq_true (show k ≥ n by omega), Bool.true_and, show n + (k - n) = k by omega]
    congr 1
    exact decide_eq_decide.mpr (by omega)
def crU (b : Bar) (i : Nat) : Nat := bits (liesU i b) (2 ^ i)
theorem low_bit {i s : Nat} (h : s < 2 ^ i) : s.testBit i = false := Nat.testBit_lt_two_pow h
theorem high_bit {i r : Nat} (h : r < 2 ^ i) : (2 ^ i + r).testBit i = true := by
  rw [Nat.testBit_two_pow_add_eq, low_bit h]; rfl
theorem crU_lo (b : Bar) (i : Nat) (f : Bool) (hf : (!(b.1.testBit i && (b.2.testBit i != false))) = f) : bits (liesU (i + 1) b) (2 ^ i) = if f = true then crU b i else 0 := by
  cases f with
  | true => exact bits_ext fun s hs => by rw [liesU_succ, low_bit hs, hf, Bool.and_true]
  | false => rw [if_neg Bool.false_ne_true, ← bits_false (2 ^ i)]; exact bits_ext fun s hs => by rw [liesU_succ, low_bit hs, hf, Bool.and_false]
theorem crU_hi (b : Bar) (i : Nat) (f : Bool) (hf : (!(b.1.testBit i && (b.2.testBit i != true))) = f) : bits (fun r => liesU (i + 1) b (2 ^ i + r)) (2 ^ i) = if f = true then crU b i else 0 := by
  cases f with
  | true => exact bits_ext fun s hs => by rw [liesU_succ, high_bit hs, hf, Bool.and_true, liesU_low b i s i (Nat.le_refl _)]
  | false => rw [if_neg Bool.false_ne_true, ← bits_false (2 ^ i)]; exact bits_ext fun s hs => by rw [liesU_succ, high_bit hs, hf, Bool.and_false]
theorem crU_succ (b : Bar) (i : Nat) : crU b (i + 1) = (if (!(b.1.testBit i && (b.2.testBit i != false))) = true then crU b i else 0) ||| (if (!(b.1.testBit i && (b.2.testBit i != true))) = true then crU b i else 0) <<< 2 ^ i := by
  unfold crU
  rw [show 2 ^ (i + 1) = 2 ^ i + 2 ^ i by rw [Nat.pow_succ]; omega, bits_split, crU_lo b i _ rfl, crU_hi b i _ rfl]
  rfl
theorem crU_free {b : Bar} {i : Nat} (h : b.1.testBit i = false) : crU b (i + 1) = crU b i ||| crU b i <<< 2 ^ i := by
  rw [crU_succ, h]; rfl
theorem crU_lit {b : Bar} {i : Nat} (h : b.1.testBit i = true) (h2 : b.2.testBit i = true) : crU b (i + 1) = crU b i <<< 2 ^ i := by
  rw [crU_succ, h, h2]
  show 0 ||| crU b i <<< 2 ^ i = _
  rw [Nat.zero_or]
theorem crU_dark {b : Bar} {i : Nat} (h : b.1.testBit i = true) (h2 : b.2.testBit i = false) : crU b (i + 1) = crU b i := by
  rw [crU_succ, h, h2]
  show crU b i ||| 0 <<< 2 ^ i = _
  rw [Nat.zero_shiftLeft, Nat.or_zero]
theorem crU_end {b : Bar} {m : Nat} (g : b.good) (hm : m ≤ 6) (h : b.2 < 2 ^ m) : crU b m = crowdB (2 ^ m) b := by
  unfold crU crowdB
  refine bits_ext fun s hs => ?_
  apply Bool.eq_iff_iff.mpr
  rw [lies_iff]
  unfold liesU
  rw [List.all_eq_true]
  constructor
  · intro q k hk hb
    by_cases e : k < m
    · have := q k (List.mem_range.mpr e)
      rw [hb] at this
      simpa using this
    · rw [testBit_hi h (by omega), testBit_hi hs (by omega)]
  · intro q k hk
    have hk := List.mem_range.mp hk
    cases hb : b.1.testBit k with
    | false => rfl
    | true => simp [q k (by omega) hb]
theorem crowd_none {b : Bar} {m : Nat} (g : b.good) (h : ¬ b.2 < 2 ^ m) : crowdB (2 ^ m) b = 0 := by
  unfold crowdB
  rw [← bits_false (2 ^ m)]
  refine bits_ext fun s hs => ?_
  cases z : lies s b with
  | false => rfl
  | true =>
    rw [lies_iff] at z
    exfalso
    apply h
    apply Nat.lt_pow_two_of_testBit
    intro k hk
    cases e : b.2.testBit k with
    | false => rfl
    | true =>
      have e1 : b.1.testBit k = true := by
        cases e2 : b.1.testBit k with
        | true => rfl
        | false => rw [good_sub g e2] at e; cases e
      have := z k (good_hi g e1) e1
      rw [e, testBit_hi hs hk] at this
      cases this
theorem shr_nat (n m : Nat) : ((n : Int) / 2 ^ ((m : Int)).toNat) = ((n / 2 ^ m : Nat) : Int) := by simp
theorem shl_nat2 (n m : Nat) : (n : Int) * 2 ^ ((m : Int)).toNat = ((n <<< m : Nat) : Int) := by
  rw [Nat.shiftLeft_eq]; simp
theorem lit_ne (s k : Nat) : decide (Builtin.bitAnd ((s : Int) / 2 ^ ((k : Int)).toNat) 1 ≠ 0) = s.testBit k := by
  rw [lit_val]
  cases s.testBit k <;> rfl
theorem dne (i : Int) : (!decide (i = 0)) = decide (i ≠ 0) := by simp
theorem ok_crowd_of (T : Txt K mg t) : FnS P w K mg base 1 "crowd_of" ["many", "bar"] (spCrowdOf) := by
  refine ⟨_, _, T.F_crowd_of.ok sc_crowd_of (fun vs H Q E h => ?_) (fun cdv A outer s H vs Q E hr h => ?_), T.b_crowd_of, T.F_crowd_of.kp, T.m_crowd_of⟩
  · obtain ⟨m, p, b, rfl, hm, hb, hg, q⟩ := h
    rfl
  obtain ⟨m, p, b, rfl, hm, hb, hg, q⟩ := h
  have hp := pow_small hm
  refine ⟨_, (pss_cons (ps_if (pt_truth (pe_op op_shr (pe_ix ix_seq (pv 1) pe_int (fun _ _ => rfl)) (pv 0)) (fun _ => rfl))
      (pss_one (ps_ret pe_int))
      pss_nil)
      (pss_cons (ss 2 sc_crowd_of.nd pe_int)
      (pss_cons (ps_for PassesOwn.never rfl (pi_range1 rfl T.B.range (pa_cons (pv 0) pa_nil)) (sg 3 sc_crowd_of.nd)
      (pss_cons (ss 4 sc_crowd_of.nd (pe_op op_shl (pv 2) (pe_op op_shl pe_int (pv 3))))
      (pss_one (ps_if (pt_not (pt_truth (pe_op op_and (pe_op op_shr (pe_ix ix_seq (pv 1) pe_int (fun _ _ => rfl)) (pv 3)) pe_int) (fun _ => rfl)))
      (pss_one (ss 2 sc_crowd_of.nd (pe_op op_or (pv 2) (pv 4))))
      (pss_one (ps_if (pt_truth (pe_op op_and (pe_op op_shr (pe_ix ix_seq (pv 1) pe_int (fun _ _ => rfl)) (pv 3)) pe_int) (fun _ => rfl))
      (pss_one (ss 2 sc_crowd_of.nd (pv 4)))
      pss_nil))))))
      (pss_one (ps_ret (pv 2)))))), ?_⟩
  walk_at "rd0"
  refine i_ixT hb (v := .int (b.2 : Int)) rfl ?_
  walk_at "rd"
  rw [shr_nat]
  refine i_ifn (fun h1 => ?_) (fun h1 => ?_)
  · walk_at "rd"
    rw [crowd_none hg (fun z => h1 (by rw [Nat.div_eq_of_lt z]; rfl))] at q
    exact q
  have hlt : b.2 < 2 ^ m := by
    have e : b.2 / 2 ^ m = 0 := by omega
    rcases Nat.div_eq_zero_iff.mp e with z | z
    · exact absurd z (Nat.ne_of_gt (Nat.two_pow_pos m))
    · exact z
  walk_at "rd"
  refine ⟨_, rfl, by omega, by omega, ?_⟩
  rw [Int.toNat_natCast]
  refine loopR0 (fun i σ H' => H' = H ∧ ∃ v v', σ = [some (.int (m : Int)), some (.ref p), some (.int ((crU b i : Nat) : Int)), v, v']) ⟨rfl, _, _, rfl⟩ ?_ ?_
  · rintro i σ H' hi ⟨rfl, v, v', rfl⟩
    have hpi := pow_small (show i ≤ 6 by omega)
    walk_at "rd"
    rw [shl_nat]
    refine i_rI ⟨Int.natCast_nonneg _, by omega, ?_⟩ ?_
    · rw [Int.natAbs_natCast]
      exact Nat.lt_of_lt_of_le (bits_lt _ _) (Nat.pow_le_pow_right (by decide) hpi)
    walk_at "rd"
    refine i_ixT hb (v := .int (b.1 : Int)) rfl ?_
    walk_at "rd"
    rw [dne, lit_ne]
    cases h1 : b.1.testBit i with
    | false =>
      refine i_ifT rfl ?_
      walk_at "rd"
      rw [shl_nat2, or_nat, ← crU_free h1]
      exact ⟨rfl, _, _, rfl⟩
    | true =>
      refine i_ifF rfl ?_
      walk_at "rd"
      refine i_ixT hb (v := .int (b.2 : Int)) rfl ?_
      walk_at "rd"
      rw [dne, lit_ne]
      refine i_ifb (fun h2 => ?_) (fun h2 => ?_)
      · walk_at "rd"
        rw [shl_nat2, ← crU_lit h1 h2]
        exact ⟨rfl, _, _, rfl⟩
      · walk_at "rd"
        rw [← crU_dark h1 h2]
        exact ⟨rfl, _, _, rfl⟩
  · rintro σ H' ⟨rfl, v, v', rfl⟩
    walk_at "rd"
    rw [crU_end hg hm hlt]
    exact q

def mayN (af : List Nat) (st held : Nat) (b : Bar) (n : Nat) : Bool := decide (st &&& crowdB n b = 0) && decide ((behN af (crowdB n b) &&& held) - ((behN af (crowdB n b) &&& held) &&& crowdB n b) = 0)
theorem zero_bits {x : Nat} (h : ∀ k, x.testBit k = false) : x = 0 := Nat.eq_of_testBit_eq fun k => by rw [h k, Nat.zero_testBit]
theorem testBit_crowd (n : Nat) (b : Bar) (k : Nat) : (crowdB n b).testBit k = (decide (k < n) && lies k b) := testBit_bits _ _ _
theorem testBit_beh (af : List Nat) (c k : Nat) : (behN af c).testBit k = (decide (k < af.length) && decide (af.getD k 0 &&& c ≠ 0)) := testBit_bits _ _ _
def spMay (t : Ad) : Sp := fun vs H Q _ => ∃ (p pb : Addr) (m st bd held : Nat) (af : List Nat) (b : Bar), vs = [.ref p, .int (held : Int), .ref pb] ∧ ChartAt t H p m st bd af ∧ GoodC m st bd af ∧ BarAt H pb b ∧ b.good ∧ ∀ H', Same H H' → Q (.bl (mayN af st held b (2 ^ m))) H'
theorem ok_may_shut (T : Txt K mg t) : FnS P w K mg base 2 "may_shut" ["chart", "held", "bar"] ((spMay t)) := by
  refine ⟨_, _, T.F_may_shut.ok sc_may_shut (fun vs H Q E h => ?_) (fun cdv A outer s H vs Q E hr h => ?_), T.b_may_shut, T.F_may_shut.kp, T.m_may_shut⟩
  · obtain ⟨p, pb, m, st, bd, held, af, b, rfl, hC, hG, hb, hg, q⟩ := h
    rfl
  obtain ⟨p, pb, m, st, bd, held, af, b, rfl, hC, hG, hb, hg, q⟩ := h
  have G_crowd_of := ok_crowd_of (P := P) (w := w) (base := base) T
  have D_behind := D_behind_of (P := P) (w := w) (base := base) T
  have hp := pow_small hG.m6
  have ln := hG.ln
  obtain ⟨C, dx, fs, ei, hi, lk⟩ := hC.ins "behind" (by decide) (by decide) (by decide) (by decide)
  obtain ⟨dy, tp, c1, c2⟩ := id hC
  refine ⟨_, (pss_cons (ss 3 sc_may_shut.nd (pe_fn G_crowd_of hr (pa_cons (pe_fld (pv 0) rfl) (pa_cons (pv 2) pa_nil))))
      (pss_cons (ps_if (pt_truth (pe_op op_and (pe_fld (pv 0) rfl) (pv 3)) (fun _ => rfl))
      (pss_one (ps_ret pe_bl))
      pss_nil)
      (pss_one (ps_ret (pe_cmpR (op_eqA hr.units) (pe_op op_and (pe_op op_and (pe_dy D_behind hr (pv 0) (pa_cons (pv 3) pa_nil)) (pv 1)) (pe_un un_inv (pv 3))) pe_int (nomark _)))))), ?_⟩
  walk_at "rd0"
  refine ⟨p, _, _, _, _, rfl, c1, T.c_Chart, T.n_Chart_many, lk_many _ _ _ _, ?_⟩
  walk_at "rd"
  refine ⟨m, pb, b, rfl, hG.m6, hb, hg, ?_⟩
  walk_at "rd"
  refine ⟨p, _, _, _, _, rfl, c1, T.c_Chart, T.n_Chart_starts, lk_starts _ _ _ _, ?_⟩
  walk_at "rd"
  rw [and_nat]
  refine i_ifn (fun h1 => ?_) (fun h1 => ?_)
  · walk_at "rd"
    have e : mayN af st held b (2 ^ m) = false := by
      unfold mayN
      rw [decide_eq_false (show ¬ st &&& crowdB (2 ^ m) b = 0 by omega)]; rfl
    rw [e] at q
    exact q H (Same.refl _)
  · walk_at "rd"
    refine ⟨p, C, dx, fs, rfl, ei, hi, lk, ?_⟩
    walk_at "rd"
    refine ⟨ei, p, _, _, _, af, _, rfl, hC, by omega, fun H1 s1 => ?_⟩
    walk_at "rd"
    rw [and_nat, andnot_nat]
    have e : decide ((((behN af (crowdB (2 ^ m) b) &&& held) - ((behN af (crowdB (2 ^ m) b) &&& held) &&& crowdB (2 ^ m) b) : Nat) : Int) = 0) = mayN af st held b (2 ^ m) := by
      unfold mayN
      rw [decide_eq_true (show st &&& crowdB (2 ^ m) b = 0 by omega), Bool.true_and]
      exact decide_eq_decide.mpr (by omega)
    rw [e]
    exact q H1 s1

def lampsOf (b : Bar) : List Nat := (List.range 6).filter fun k => b.1.testBit k
def vi (k : Nat) : V := .int (k : Int)
theorem nums_vi (l : List Nat) : (nums l).map V.int = l.map vi := by unfold nums; rw [List.map_map]; rfl
theorem bits_len {n : Nat} (h : n < 64) : (List.range (Builtin.Int.intBits (n : Int))).filter (fun k => n.testBit k) = (List.range 6).filter (fun k => n.testBit k) ∧ Builtin.Int.intBits (n : Int) ≤ 6 := by
  have z : ∀ n : Fin 64, (List.range (Builtin.Int.intBits ((n.val : Nat) : Int))).filter (fun k => n.val.testBit k) = (List.range 6).filter (fun k => n.val.testBit k) ∧ Builtin.Int.intBits ((n.val : Nat) : Int) ≤ 6 := by decide +kernel
  exact z ⟨n, h⟩
def spAskedBy : Sp := fun vs H Q _ => ∃ (p : Addr) (b : Bar), vs = [.ref p] ∧ BarAt H p b ∧ b.1 < 64 ∧ ∀ l H', Same H H' → H l = none → H' l = some (.lst ((lampsOf b).map vi)) → Q (.ref l) H'
theorem ok_asked_by (T : Txt K mg t) : FnS P w K mg base 1 "asked_by" ["bar"] (spAskedBy) := by
  refine ⟨_, _, T.F_asked_by.ok sc_asked_by (fun vs H Q E h => ?_) (fun cdv A outer s H vs Q E hr h => ?_), T.b_asked_by, T.F_asked_by.kp, T.m_asked_by⟩
  · obtain ⟨p, b, rfl, hb, h64, q⟩ := h
    rfl
  obtain ⟨p, b, rfl, hb, h64, q⟩ := h
  obtain ⟨ef, hl6⟩ := bits_len h64
  refine ⟨_, (pss_one (ps_ret (pe_comp (sc := defScope s_asked_by) (N := ["bar"]) (ns := ["bar"]) (ix := [0]) rfl rfl (by decide +kernel) rfl (pi_range1 rfl T.B.range (pa_cons (pe_bm0 PySem.F.plainAttrs_int PySem.F.slot_int_bit_length PySem.F.type_int_bit_length mi_bit_length (pe_ix ix_seq (pv 0) pe_int (fun _ _ => rfl))) pa_nil)) (fun _ _ _ _ => (pts_one (pt_truthK (K := K) rfl (pe_op op_and (pe_op op_shr (pe_ix (ix_seqK (K := K) rfl) (pv 1) pe_int (fun _ _ => rfl)) (pv 0)) pe_int) (fun _ => rfl)))) (fun _ _ _ _ => (pv 0))))), ?_⟩
  walk_at "rd0"
  refine i_ixT hb (v := .int (b.1 : Int)) rfl ?_
  walk_at "rd"
  refine ⟨_, rfl, by omega, by omega, ?_⟩
  rw [Int.toNat_natCast]
  refine comp_range (fun k => b.1.testBit k) (by omega) ?_ ?_ ?_
  · intro i H' hi s1 R k
    simp only [subS, List.map_cons, List.map_nil]
    walk_at "rd"
    refine i_ixT (s1 _ _ hb) (v := .int (b.1 : Int)) rfl ?_
    walk_at "rd"
    rw [lit_tru]
    exact k H' (Same.refl _)
  · intro i H' hi s1 R k
    simp only [subS, List.map_cons, List.map_nil]
    walk_at "rd"
    exact k H' (Same.refl _)
  · intro l H' n1 s1 e1
    rw [ef, nums_vi] at e1
    exact q l H' s1 n1 e1
def spWithout : Sp := fun vs H Q _ => ∃ (p : Addr) (b : Bar) (k : Nat), vs = [.ref p, .int (k : Int)] ∧ k ≤ 6 ∧ BarAt H p b ∧ ∀ p' H', Same H H' → H p' = none → BarAt H' p' (b.wo k) → Q (.ref p') H'
theorem ok_without (T : Txt K mg t) : FnS P w K mg base 1 "without" ["bar", "lamp"] (spWithout) := by
  refine ⟨_, _, T.F_without.ok sc_without (fun vs H Q E h => ?_) (fun cdv A outer s H vs Q E hr h => ?_), T.b_without, T.F_without.kp, T.m_without⟩
  · obtain ⟨p, b, k, rfl, hk, hb, q⟩ := h
    rfl
  obtain ⟨p, b, k, rfl, hk, hb, q⟩ := h
  have hp := pow_small hk
  refine ⟨_, (pss_cons (ss 2 sc_without.nd (pe_un un_inv (pe_op op_shl pe_int (pv 1))))
      (pss_one (ps_ret (pe_tup (pa_cons (pe_op op_and (pe_ix ix_seq (pv 0) pe_int (fun _ _ => rfl)) (pv 2)) (pa_cons (pe_op op_and (pe_ix ix_seq (pv 0) pe_int (fun _ _ => rfl)) (pv 2)) pa_nil)))))), ?_⟩
  walk_at "rd0"
  rw [shl_nat]
  refine i_ixT hb (v := .int (b.1 : Int)) rfl ?_
  walk_at "rd"
  refine i_ixT hb (v := .int (b.2 : Int)) rfl ?_
  walk_at "rd"
  rw [andnot_nat, andnot_nat]
  exact j_tup (Nat.le_of_ble_eq_true rfl) fun p' H' s1 n1 e1 => q p' H' s1 n1 e1

theorem wo1 (b : Bar) (k j : Nat) : (b.wo k).1.testBit j = (b.1.testBit j && !decide (k = j)) := testBit_clr _ _ _
theorem wo2 (b : Bar) (k j : Nat) : (b.wo k).2.testBit j = (b.2.testBit j && !decide (k = j)) := testBit_clr _ _ _
theorem wo_good {b : Bar} (g : b.good) (k : Nat) : (b.wo k).good := by
  constructor
  · exact Nat.lt_of_le_of_lt (Nat.sub_le _ _) g.1
  · apply Nat.eq_of_testBit_eq
    intro j
    rw [Nat.testBit_and, wo1, wo2]
    cases e : b.1.testBit j with
    | true => simp
    | false => rw [good_sub g e]; rfl
theorem lamps_mem {b : Bar} (g : b.good) {k : Nat} : k ∈ lampsOf b ↔ b.1.testBit k = true := by
  unfold lampsOf
  rw [List.mem_filter, List.mem_range]
  exact ⟨fun h => h.2, fun h => ⟨good_hi g h, h⟩⟩
/-- f asks some of b's lamps, as b does -/
def Less (b f : Bar) : Prop := (∀ k, f.1.testBit k = true → b.1.testBit k = true) ∧ f.2 = b.2 &&& f.1
theorem less_refl {b : Bar} (g : b.good) : Less b b := ⟨fun _ h => h, g.2.symm⟩
theorem less_wo {b f : Bar} (h : Less b f) (k : Nat) : Less b (f.wo k) := by
  refine ⟨fun j hj => h.1 j ?_, ?_⟩
  · rw [wo1, Bool.and_eq_true] at hj; exact hj.1
  · apply Nat.eq_of_testBit_eq
    intro j
    rw [wo2, Nat.testBit_and, wo1, h.2, Nat.testBit_and, Bool.and_assoc]
theorem wo_lt1 {b : Bar} {k : Nat} (h : b.1.testBit k = true) : (b.wo k).1 < b.1 := by
  have e : (b.wo k).1 ≤ b.1 := Nat.sub_le _ _
  rcases Nat.lt_or_eq_of_le e with z | z
  · exact z
  · have := wo1 b k k
    rw [z, h, decide_eq_true rfl] at this
    cases this
def spOne (t : Ad) : Sp := fun vs H Q _ => ∃ (p pb : Addr) (m st bd held : Nat) (af : List Nat) (b : Bar), vs = [.ref p, .int (held : Int), .ref pb] ∧ ChartAt t H p m st bd af ∧ GoodC m st bd af ∧ BarAt H pb b ∧ b.good ∧
  (∀ H' p' k, Same H H' → b.1.testBit k = true → BarAt H' p' (b.wo k) → mayN af st held (b.wo k) (2 ^ m) = true → Q (.ref p') H') ∧ (∀ H', Same H H' → (∀ k, b.1.testBit k = true → mayN af st held (b.wo k) (2 ^ m) = false) → Q .non H')
theorem ok_without_one_lamp (T : Txt K mg t) : FnS P w K mg base 3 "without_one_lamp" ["chart", "held", "bar"] ((spOne t)) := by
  refine ⟨_, _, T.F_without_one_lamp.ok sc_without_one_lamp (fun vs H Q E h => ?_) (fun cdv A outer s H vs Q E hr h => ?_), T.b_without_one_lamp, T.F_without_one_lamp.kp, T.m_without_one_lamp⟩
  · obtain ⟨p, pb, m, st, bd, held, af, b, rfl, hC, hG, hb, hg, q1, q2⟩ := h
    rfl
  obtain ⟨p, pb, m, st, bd, held, af, b, rfl, hC, hG, hb, hg, q1, q2⟩ := h
  have G_asked_by := ok_asked_by (P := P) (w := w) (base := base) T
  have G_without := ok_without (P := P) (w := w) (base := base) T
  have G_may_shut := ok_may_shut (P := P) (w := w) (base := base) T
  refine ⟨_, (pss_cons (ps_for PassesOwn.never rfl (pi_seq (pe_fn G_asked_by hr (pa_cons (pv 2) pa_nil))) (sg 3 sc_without_one_lamp.nd)
      (pss_cons (ss 4 sc_without_one_lamp.nd (pe_fn G_without hr (pa_cons (pv 2) (pa_cons (pv 3) pa_nil))))
      (pss_one (ps_if (pt_truth (pe_fn G_may_shut hr (pa_cons (pv 0) (pa_cons (pv 1) (pa_cons (pv 4) pa_nil)))) (fun _ => rfl))
      (pss_one (ps_ret (pv 4)))
      pss_nil))))
      (pss_one (ps_ret pe_non))), ?_⟩
  walk_at "rd0"
  refine ⟨pb, b, rfl, hb, hg.1, fun l H1 s1 n1 e1 => ?_⟩
  refine seqL (xs := (lampsOf b).map vi) (fun i σ H' => Same H1 H' ∧ (∀ j k, j < i → (lampsOf b)[j]? = some k → mayN af st held (b.wo k) (2 ^ m) = false) ∧ ∃ v v', σ = [some (.ref p), some (.int (held : Int)), some (.ref pb), v, v']) ⟨Same.refl _, fun j k hj => absurd hj (Nat.not_lt_zero _), _, _, rfl⟩ (fun i σ H' _ hp => SqL.of (hp.1 _ _ e1)) ?_ ?_
  · rintro i x σ H' hx ⟨sm, hk, v, v', rfl⟩
    obtain ⟨k, rfl, hki⟩ : ∃ k : Nat, x = .int (k : Int) ∧ (lampsOf b)[i]? = some k := by
      rw [List.getElem?_map] at hx
      cases e : (lampsOf b)[i]? with
      | none => rw [e] at hx; cases hx
      | some k => rw [e] at hx; exact ⟨k, (Option.some.inj hx).symm, rfl⟩
    have hbk := (lamps_mem hg).mp (List.mem_of_getElem? hki)
    have hk6 : k < 6 := good_hi hg hbk
    walk_at "rd"
    refine ⟨pb, b, k, rfl, by omega, sm _ _ (s1 _ _ hb), fun f2 H2 s2 n2 e2 => ?_⟩
    walk_at "rd"
    refine ⟨p, f2, m, st, bd, held, af, b.wo k, rfl, hC.mono (Ext.of (s1.trans (sm.trans s2))), hG, e2, wo_good hg k, fun H3 s3 => ?_⟩
    walk_at "rd"
    refine i_ifb (fun h1 => ?_) (fun h1 => ?_)
    · walk_at "rd"
      exact q1 H3 f2 k (s1.trans (sm.trans (s2.trans s3))) hbk (s3 _ _ e2) h1
    · walk_at "rd"
      refine ⟨sm.trans (s2.trans s3), fun j k' hj hkj => ?_, _, _, rfl⟩
      by_cases e : j = i
      · subst e
        rw [hki] at hkj
        cases hkj
        exact h1
      · exact hk j k' (by omega) hkj
  · rintro σ H' ⟨sm, hk, v, v', rfl⟩
    walk_at "rd"
    refine q2 H' (s1.trans sm) fun k hb' => ?_
    obtain ⟨j, hj⟩ := List.mem_iff_getElem?.mp ((lamps_mem hg).mpr hb')
    exact hk j k (by rw [List.length_map]; exact (List.getElem?_eq_some_iff.mp hj).1) hj
def spWidened (t : Ad) : Sp := fun vs H Q E => ∃ (p pb : Addr) (m st bd held : Nat) (af : List Nat) (b : Bar), vs = [.ref p, .int (held : Int), .ref pb] ∧ ChartAt t H p m st bd af ∧ GoodC m st bd af ∧ BarAt H pb b ∧ b.good ∧
  (mayN af st held b (2 ^ m) = false → ∀ H', Same H H' → E (.ref t.C_NotShut) none H') ∧
  (mayN af st held b (2 ^ m) = true → ∀ H' p' f, Same H H' → BarAt H' p' f → f.good → Less b f → mayN af st held f (2 ^ m) = true → (∀ k, f.1.testBit k = true → mayN af st held (f.wo k) (2 ^ m) = false) → Q (.ref p') H')
def WInv (p pb : Addr) (m st held : Nat) (af : List Nat) (b : Bar) (H : Hp) (n : Nat) (σ : St) (H' : Hp) : Prop := ∃ f0 b0 v, Same H H' ∧ BarAt H' f0 b0 ∧ b0.good ∧ Less b b0 ∧ mayN af st held b0 (2 ^ m) = true ∧
  ((v = V.non ∧ ∀ k, b0.1.testBit k = true → mayN af st held (b0.wo k) (2 ^ m) = false) ∨ (∃ f1 k, v = .ref f1 ∧ b0.1.testBit k = true ∧ BarAt H' f1 (b0.wo k) ∧ mayN af st held (b0.wo k) (2 ^ m) = true)) ∧ n = b0.1 ∧ σ = [some (.ref p), some (.int (held : Int)), some (.ref pb), some (.ref f0), some v]
theorem wide_loop {p pb : Addr} {m st bd held : Nat} {af : List Nat} {b : Bar} {H : Hp} {Q : VK} {nx : St → Hp → Prop} (hC : ChartAt t H p m st bd af) (hG : GoodC m st bd af)
    (fin : ∀ H' p' f, Same H H' → BarAt H' p' f → f.good → Less b f → mayN af st held f (2 ^ m) = true → (∀ k, f.1.testBit k = true → mayN af st held (f.wo k) (2 ^ m) = false) → Q (.ref p') H') :
    ∀ (n : Nat) (σ : St) (H' : Hp), WInv p pb m st held af b H n σ H' → (tTest (tOp (fun x y H Q => y = V.non ∧ Q (V.bl !decide (x = V.non)) H) (tVar 4) (tC V.non))) σ H' fun c H1 =>
      if c = true then ∃ N : St → Hp → Prop, (∀ σ' H', N σ' H' → ∃ m', m' < n ∧ WInv p pb m st held af b H m' σ' H') ∧
        (tSeq (tAsg (tVar 4) (gName 3)) (tAsg (tFn (spOne t) (tCons (tVar 0) (tCons (tVar 1) (tCons (tVar 3) tNil)))) (gName 4))) { nx := N, rt := Q, ct := N, bk := tRet (tVar 3) { nx := nx, rt := Q } } σ H1
      else tRet (tVar 3) { nx := nx, rt := Q } σ H1 := by
  rintro n σ H' ⟨f0, b0, v, sm, hf0, hg0, hL, hm1, hv, rfl, rfl⟩
  walk_at "rd"
  refine ⟨rfl, ?_⟩
  rcases hv with ⟨rfl, hw⟩ | ⟨f1, k1, rfl, hk1, hf1, hm2⟩
  · walk_at "rd"
    refine i_ifF rfl ?_
    walk_at "rd"
    exact fin H' f0 b0 sm hf0 hg0 hL hm1 hw
  · walk_at "rd"
    refine i_ifT rfl ?_
    refine ⟨fun σ' H'' => ∃ m', m' < b0.1 ∧ WInv p pb m st held af b H m' σ' H'', fun σ' H'' h => h, ?_⟩
    walk_at "rd"
    refine ⟨p, f1, m, st, bd, held, af, b0.wo k1, rfl, hC.mono (Ext.of sm), hG, hf1, wo_good hg0 k1, ?_, ?_⟩
    · intro H3 f3 k3 s3 hk3 hf3 hm3
      walk_at "rd"
      exact ⟨_, wo_lt1 hk1, f1, b0.wo k1, _, sm.trans s3, s3 _ _ hf1, wo_good hg0 k1, less_wo hL k1, hm2, .inr ⟨f3, k3, rfl, hk3, hf3, hm3⟩, rfl, rfl⟩
    · intro H3 s3 hw3
      walk_at "rd"
      exact ⟨_, wo_lt1 hk1, f1, b0.wo k1, _, sm.trans s3, s3 _ _ hf1, wo_good hg0 k1, less_wo hL k1, hm2, .inl ⟨rfl, hw3⟩, rfl, rfl⟩
theorem ok_widened (T : Txt K mg t) : FnS1 P w K mg base 4 "widened" ["chart", "held", "bar"] ((spWidened t)) := by
  refine ⟨_, _, T.F_widened.ok1 sc_widened (fun vs H Q E h => ?_) (fun cdv A outer s H vs Q E hr h => ?_), T.b_widened, T.F_widened.kp, T.m_widened⟩
  · obtain ⟨p, pb, m, st, bd, held, af, b, rfl, hC, hG, hb, hg, q1, q2⟩ := h
    rfl
  obtain ⟨p, pb, m, st, bd, held, af, b, rfl, hC, hG, hb, hg, q1, q2⟩ := h
  have G_without_one_lamp := ok_without_one_lamp (P := P) (w := w) (base := base) T
  have G_may_shut := ok_may_shut (P := P) (w := w) (base := base) T
  refine ⟨_, (pss_cons (ps_if (PT.nox (pt_not (pt_truth (pe_fn G_may_shut hr (pa_cons (pv 0) (pa_cons (pv 1) (pa_cons (pv 2) pa_nil)))) (fun _ => rfl))))
      (pss_one (ps_raise rfl lets1 T.q_NotShut.own rfl T.m_NotShut (PA.nox (pa_cons pe_str pa_nil))))
      (PSs.nox pss_nil))
      (PSs.nox (pss_cons (ss 3 sc_widened.nd (pv 2))
      (pss_cons (ss 4 sc_widened.nd (pe_fn G_without_one_lamp hr (pa_cons (pv 0) (pa_cons (pv 1) (pa_cons (pv 3) pa_nil)))))
      (pss_cons (ps_while PassesOwn.never (pt_cmpR op_notN (pv 4) pe_non (nomark _))
      (pss_cons (ss 3 sc_widened.nd (pv 4))
      (pss_one (ss 4 sc_widened.nd (pe_fn G_without_one_lamp hr (pa_cons (pv 0) (pa_cons (pv 1) (pa_cons (pv 3) pa_nil))))))))
      (pss_one (ps_ret (pv 3)))))))), ?_⟩
  walk_at "rd0"
  refine ⟨p, pb, m, st, bd, held, af, b, rfl, hC, hG, hb, hg, fun H1 s1 => ?_⟩
  walk_at "rd"
  refine i_ifb (fun h1 => ?_) (fun h1 => ?_)
  · refine i_raise ?_
    walk_at "rd"
    exact ⟨by decide, q1 (by simpa using h1) H1 s1⟩
  have hm0 : mayN af st held b (2 ^ m) = true := by simpa using h1
  walk_at "rd"
  refine ⟨p, pb, m, st, bd, held, af, b, rfl, hC.mono (Ext.of s1), hG, s1 _ _ hb, hg, ?_, ?_⟩
  · intro H2 f k s2 hk hf hmay
    walk_at "rd"
    refine ⟨fun n σ H' => WInv p pb m st held af b H n σ H', ⟨_, pb, b, _, s1.trans s2, s2 _ _ (s1 _ _ hb), hg, less_refl hg, hm0, .inr ⟨f, k, rfl, hk, hf, hmay⟩, rfl, rfl⟩, ?_⟩
    exact wide_loop hC hG (q2 hm0)
  · intro H2 s2 hw
    walk_at "rd"
    refine ⟨fun n σ H' => WInv p pb m st held af b H n σ H', ⟨_, pb, b, _, s1.trans s2, s2 _ _ (s1 _ _ hb), hg, less_refl hg, hm0, .inl ⟨rfl, hw⟩, rfl, rfl⟩, ?_⟩
    exact wide_loop hC hG (q2 hm0)

theorem mod_nat (c : Int) (m : Nat) : ∃ a : Nat, c % ((2 ^ m : Nat) : Int) = (a : Int) ∧ a < 2 ^ m := by
  have h0 : 0 < 2 ^ m := Nat.two_pow_pos m
  have h1 := Int.emod_nonneg c (show ((2 ^ m : Nat) : Int) ≠ 0 by omega)
  have h2 := Int.emod_lt_of_pos c (show (0 : Int) < ((2 ^ m : Nat) : Int) by omega)
  exact ⟨(c % ((2 ^ m : Nat) : Int)).toNat, by omega, by omega⟩

theorem set_nums (af : List Nat) (k v : Nat) : ((nums af).map V.int).set k (.int (v : Int)) = (nums (af.set k v)).map V.int := by
  unfold nums
  rw [List.map_set, List.map_set]
theorem getD_lt {af : List Nat} {B k : Nat} (h : ∀ x ∈ af, x < B) (hB : 0 < B) : af.getD k 0 < B := by
  rw [List.getD_eq_getElem?_getD]
  cases e : af[k]? with
  | none => exact hB
  | some x => exact h x (List.mem_of_getElem? e)
theorem set_lt {af : List Nat} {B k v : Nat} (h : ∀ x ∈ af, x < B) (hv : v < B) : ∀ x ∈ af.set k v, x < B := fun x hx => by
  rcases List.mem_or_eq_of_mem_set hx with hx | hx
  · exact h x hx
  · rw [hx]; exact hv
structure AF (l : Addr) (af : List Nat) (m : Nat) (H : Hp) : Prop where
  fl : H l = some (.lst ((nums af).map V.int))
  len : af.length = 2 ^ m
  bd : ∀ x ∈ af, x < 2 ^ 2 ^ m
theorem AF.set {l : Addr} {af : List Nat} {m k v : Nat} {H H' : Hp} (a : AF l af m H) (e : H' l = some (.lst (((nums af).map V.int).set k (.int (v : Int))))) (hv : v < 2 ^ 2 ^ m) : AF l (af.set k v) m H' :=
  ⟨by rw [e, set_nums], by rw [List.length_set]; exact a.len, set_lt a.bd hv⟩
def spCrowdBy : Sp := fun vs H Q _ => ∃ (c : Int) (m : Nat), vs = [.int c, .int ((2 ^ m : Nat) : Int)] ∧ m ≤ 6 ∧ ∀ r : Nat, r < 2 ^ 2 ^ m → Q (.int (r : Int)) H
theorem ok_crowd_by (T : Txt K mg t) : FnS P w K mg base 1 "_law_crowd_by" ["_law_cell", "_law_size"] (spCrowdBy) := by
  refine ⟨_, _, T.F__law_crowd_by.ok sc__law_crowd_by (fun vs H Q E h => ?_) (fun cdv A outer s H vs Q E hr h => ?_), T.b__law_crowd_by, T.F__law_crowd_by.kp, T.m__law_crowd_by⟩
  · obtain ⟨c, m, rfl, hm, q⟩ := h
    rfl
  obtain ⟨c, m, rfl, hm, q⟩ := h
  have hp := pow_small hm
  have hp0 : 0 < 2 ^ m := Nat.two_pow_pos m
  have h2p : 0 < 2 ^ 2 ^ m := Nat.two_pow_pos _
  obtain ⟨a, ha, la⟩ := mod_nat (c / 3) m
  obtain ⟨b, hb, lb⟩ := mod_nat (c / 3 / ((2 ^ m : Nat) : Int)) m
  obtain ⟨d, hd, ld⟩ := mod_nat (c / 3) (2 ^ m)
  refine ⟨_, (pss_cons (ss 2 sc__law_crowd_by.nd (pe_op op_fdivG (pv 0) pe_int))
      (pss_cons (ps_if (pt_cmpR (op_eqA hr.units) (pe_op op_mod (pv 0) pe_int) pe_int (nomark _))
      (pss_one (ps_ret (pe_op op_mod (pv 2) (pe_op op_shl pe_int (pv 1)))))
      pss_nil)
      (pss_cons (ss 3 sc__law_crowd_by.nd (pe_op op_shl pe_int (pe_op op_mod (pv 2) (pv 1))))
      (pss_cons (ps_if (pt_cmpR (op_eqA hr.units) (pe_op op_mod (pv 0) pe_int) pe_int (nomark _))
      (pss_one (ss 3 sc__law_crowd_by.nd (pe_op op_or (pv 3) (pe_op op_shl pe_int (pe_op op_mod (pe_op op_fdivG (pv 2) (pv 1)) (pv 1))))))
      pss_nil)
      (pss_one (ps_ret (pv 3))))))), ?_⟩
  walk_at "rd0"
  refine i_ifd (fun h1 => ?_) (fun h1 => ?_)
  · walk_at "rd"
    rw [shl_nat]
    refine i_rI (by show (0 : Int) < _; omega) ?_
    rw [hd]
    exact q _ ld
  walk_at "rd"
  rw [ha]
  walk_at "rd"
  rw [shl_nat]
  refine i_ifd (fun h2 => ?_) (fun h2 => ?_)
  · walk_at "rd"
    rw [hb]
    walk_at "rd"
    rw [shl_nat, or_nat]
    exact q _ (Nat.or_lt_two_pow (pow_lt2 la) (pow_lt2 lb))
  · walk_at "rd"
    exact q _ (pow_lt2 la)
end

end LW

set_option maxRecDepth 100000
set_option maxHeartbeats 4000000
open PySem L2

namespace LW
open PySem L2 EM
section
variable {P : Program} {w : World} {K : PySem.W.Frag} {mg : Str → Option Value} {base : Heap} {t : Ad}
theorem mod6 (c : Int) : ∃ x : Nat, c % 6 = (x : Int) ∧ x < 6 := ⟨(c % 6).toNat, by omega, by omega⟩
def spStepIn : Sp := fun vs H Q _ => ∃ (l : Addr) (af : List Nat) (m k st0 : Nat) (c : Int), vs = [.ref l, .int c, .int (k : Int), .int (st0 : Int)] ∧ m ≤ 6 ∧ k < 100 ∧ AF l af m H ∧ ∀ H' af', But l H H' → AF l af' m H' → Q .non H'
theorem ok_step_in (T : Txt K mg t) : FnS P w K mg base 1 "_law_step_in" ["_law_after", "_law_cell", "_law_k", "_law_stand"] (spStepIn) := by
  refine ⟨_, _, T.F__law_step_in.ok sc__law_step_in (fun vs H Q E h => ?_) (fun cdv A outer s H vs Q E hr h => ?_), T.b__law_step_in, T.F__law_step_in.kp, T.m__law_step_in⟩
  · obtain ⟨l, af, m, k, st0, c, rfl, hm, hk, A0, q⟩ := h
    rfl
  obtain ⟨l, af, m, k, st0, c, rfl, hm, hk, A0, q⟩ := h
  have hp := pow_small hm
  have hp0 : 0 < 2 ^ m := Nat.two_pow_pos m
  have h2p : 0 < 2 ^ 2 ^ m := Nat.two_pow_pos _
  have hfl := A0.fl
  obtain ⟨a, ha, la⟩ := mod_nat (c / 5 + (k : Int)) m
  obtain ⟨b, hb, lb⟩ := mod_nat (c / 5 / ((2 ^ m : Nat) : Int) + c % 5 + (a : Int) + 1) m
  obtain ⟨x, hx, lx⟩ := mod6 (c / 5 + (k : Int))
  obtain ⟨y, hy, ly⟩ := mod6 (c / 30 + 2 * (k : Int))
  obtain ⟨a', ha', la'⟩ := mod_nat (Builtin.bitXor (st0 : Int) ((2 ^ x : Nat) : Int)) m
  obtain ⟨b', hb', lb'⟩ := mod_nat (Builtin.bitXor (st0 : Int) ((2 ^ y : Nat) : Int)) m
  refine ⟨_, (pss_cons (ss 4 sc__law_step_in.nd (pe_callB call_lenG rfl T.B.len bt_len (pa_cons (pv 0) pa_nil)))
      (pss_cons (ss 5 sc__law_step_in.nd (pe_op op_mod (pe_op op_addG (pe_op op_fdivG (pv 1) pe_int) (pv 2)) (pv 4)))
      (pss_cons (ss 6 sc__law_step_in.nd (pe_op op_mod (pe_op op_addG (pe_op op_addG (pe_op op_addG (pe_op op_fdivG (pe_op op_fdivG (pv 1) pe_int) (pv 4)) (pe_op op_mod (pv 1) pe_int)) (pv 5)) pe_int) (pv 4)))
      (pss_cons (ps_if (pt_cmpR op_lt (pe_op op_mod (pv 1) pe_int) pe_int (nomark _))
      (pss_cons (ss 5 sc__law_step_in.nd (pe_op op_mod (pe_op op_xor (pv 3) (pe_op op_shl pe_int (pe_op op_mod (pe_op op_addG (pe_op op_fdivG (pv 1) pe_int) (pv 2)) pe_int))) (pv 4)))
      (pss_one (ss 6 sc__law_step_in.nd (pe_op op_mod (pe_op op_xor (pv 3) (pe_op op_shl pe_int (pe_op op_mod (pe_op op_addG (pe_op op_fdivG (pv 1) pe_int) (pe_op op_mulG pe_int (pv 2))) pe_int))) (pv 4)))))
      pss_nil)
      (pss_one (ps_if (PW.pt (pw_or (pt_cmpR (op_eqA hr.units) (pe_op op_mod (pv 1) pe_int) pe_int (nomark _)) (pw_or1 (pt_cmpR (op_eqA hr.units) (pe_op op_mod (pv 1) pe_int) pe_int (nomark _)))))
      (pss_one (ps_asg (pe_op op_shl pe_int (pv 6)) (pg_sub (pv 0) (pv 5) set_list)))
      (pss_one (ps_asg (pe_op op_or (pe_ix ix_seq (pv 0) (pv 5) (fun _ _ => rfl)) (pe_op op_shl pe_int (pv 6))) (pg_sub (pv 0) (pv 5) set_list))))))))), ?_⟩
  walk_at "rd0"
  rw [len_nums, A0.len]
  walk_at "rd"
  rw [ha]
  walk_at "rd"
  rw [hb]
  walk_at "rd"
  refine i_ifd (fun h1 => ?_) (fun h1 => ?_)
  walk_at "rd"
  rw [hx]
  walk_at "rd"
  rw [shl_nat]
  walk_at "rd"
  rw [ha']
  walk_at "rd"
  refine i_mulI (.inl ⟨by decide, by decide⟩) ?_
  walk_at "rd"
  rw [hy]
  walk_at "rd"
  rw [shl_nat]
  walk_at "rd"
  rw [hb']
  walk_at "rd"
  obtain ⟨one, other, e1, e2, l1, l2⟩ : ∃ one other, one = a' ∧ other = b' ∧ one < 2 ^ m ∧ other < 2 ^ m := ⟨a', b', rfl, rfl, la', lb'⟩
  rw [← e1, ← e2]
  rotate_left
  obtain ⟨one, other, e1, e2, l1, l2⟩ : ∃ one other, one = a ∧ other = b ∧ one < 2 ^ m ∧ other < 2 ^ m := ⟨a, b, rfl, rfl, la, lb⟩
  rw [← e1, ← e2]
  all_goals
    clear h1
    walk_at "rd"
    have setA : ∀ (D : Ends), (∀ σ H', D.nx σ H' = Q .non H') → tAsg (tOp (rI CPow fun i j => V.int (i * 2 ^ j.toNat)) (tC (V.int 1)) (tVar 6)) (gSub (tVar 0) (tVar 5) rSetL) D [some (V.ref l), some (V.int c), some (V.int k), some (V.int st0), some (V.int ((2 ^ m : Nat) : Int)), some (V.int (one : Int)), some (V.int (other : Int))] H := fun D hD => by
      walk_at "rd"
      rw [shl_nat]
      refine j_set A0.fl (by rw [len_nums, A0.len]; exact l1) fun H2 b2 e2 => ?_
      rw [hD]
      exact q H2 _ b2 (A0.set e2 (pow_lt2 l2))
    refine i_ifd (fun h1 => ?_) (fun h1 => ?_)
    · refine i_ifT rfl ?_
      exact setA _ fun _ _ => rfl
    · walk_at "rd"
      refine i_ifd (fun h2 => ?_) (fun h2 => ?_)
      · exact setA _ fun _ _ => rfl
      · walk_at "rd"
        refine i_ixL A0.fl (get_nums (by rw [A0.len]; exact l1)) ?_
        walk_at "rd"
        rw [shl_nat, or_nat]
        refine j_set A0.fl (by rw [len_nums, A0.len]; exact l1) fun H2 b2 e2 => ?_
        exact q H2 _ b2 (A0.set e2 (Nat.or_lt_two_pow (getD_lt A0.bd h2p) (pow_lt2 l2)))
def spAfterBy (K : PySem.W.Frag) : Sp := fun vs H Q _ => ∃ (sc : Addr) (ns : List Int) (m : Nat), vs = [.ref sc, .int ((2 ^ m : Nat) : Int)] ∧ SqL K H sc (ns.map V.int) ∧ ns.length ≤ 63 ∧ m ≤ 6 ∧ ∀ l H' af, Same H H' → H l = none → AF l af m H' → Q (.ref l) H'
theorem ok_after_by (T : Txt K mg t) : FnS P w K mg base 2 "_law_after_by" ["_law_script", "_law_size"] ((spAfterBy K)) := by
  refine ⟨_, _, T.F__law_after_by.ok sc__law_after_by (fun vs H Q E h => ?_) (fun cdv A outer s H vs Q E hr h => ?_), T.b__law_after_by, T.F__law_after_by.kp, T.m__law_after_by⟩
  · obtain ⟨sc, ns, m, rfl, hS, h63, hm, q⟩ := h
    rfl
  obtain ⟨sc, ns, m, rfl, hS, h63, hm, q⟩ := h
  have G__law_cell_at := ok_cell_at (P := P) (w := w) (base := base) T
  have G__law_step_in := ok_step_in (P := P) (w := w) (base := base) T
  have hp := pow_small hm
  have hp0 : 0 < 2 ^ m := Nat.two_pow_pos m
  have h2p : 0 < 2 ^ 2 ^ m := Nat.two_pow_pos _
  refine ⟨_, (pss_cons (ss 2 sc__law_after_by.nd (pe_fn G__law_cell_at hr (pa_cons (pv 0) (pa_cons pe_int pa_nil))))
      (pss_cons (ss 3 sc__law_after_by.nd (pe_op op_mod (pe_fn G__law_cell_at hr (pa_cons (pv 0) (pa_cons pe_int pa_nil))) (pv 1)))
      (pss_cons (ps_comp 4 sc__law_after_by.nd (sc := defScope s__law_after_by) (N := ["_law_script", "_law_size", "_law_way", "_law_stand", "_law_after", "_law_s", "_law_many_steps", "_law_last", "_law_k"]) (ns := []) (ix := []) rfl rfl (by decide +kernel) rfl (pi_range1 rfl T.B.range (pa_cons (pv 1) pa_nil)) (fun _ _ _ _ => pts_nil) (fun _ _ _ _ => pe_int))
      (pss_cons (ps_for PassesOwn.never rfl (pi_range1 rfl T.B.range (pa_cons (pv 1) pa_nil)) (sg 5 sc__law_after_by.nd)
      (pss_cons (ps_if (PW.pt (pw_and (pt_cmpR (op_eqA hr.units) (pe_op op_mod (pv 2) pe_int) pe_int (nomark _)) (pw_and1 (pt_cmpR (op_neA hr.units) (pe_op op_mod (pe_op op_addG (pv 5) pe_int) (pv 1)) (pv 3) (nomark _)))))
      (pss_one (ps_asg (pe_op op_shl pe_int (pe_op op_mod (pe_op op_addG (pv 5) pe_int) (pv 1))) (pg_sub (pv 4) (pv 5) set_list)))
      pss_nil)
      (pss_cons (ps_if (pt_cmpR (op_eqA hr.units) (pe_op op_mod (pv 2) pe_int) pe_int (nomark _))
      (pss_one (ps_asg (pe_op op_shl pe_int (pe_op op_mod (pe_op op_addG (pe_op op_mulG (pv 5) (pe_op op_addG pe_int (pe_op op_mulG pe_int (pe_op op_fdivG (pv 2) pe_int)))) (pe_op op_fdivG (pe_op op_fdivG (pv 2) pe_int) (pv 1))) (pv 1))) (pg_sub (pv 4) (pv 5) set_list)))
      pss_nil)
      (pss_one (ps_if (PW.pt (pw_and (pt_cmpR (op_eqA hr.units) (pe_op op_mod (pv 2) pe_int) pe_int (nomark _)) (pw_and1 (pt_cmpR op_lt (pv 5) pe_int (nomark _)))))
      (pss_one (ps_asg (pe_op op_mod (pe_op op_addG (pe_op op_mulG (pe_op op_fdivG (pv 2) pe_int) (pe_op op_addG (pv 5) pe_int)) (pv 5)) (pe_op op_shl pe_int (pv 1))) (pg_sub (pv 4) (pv 5) set_list)))
      pss_nil)))))
      (pss_cons (ss 6 sc__law_after_by.nd (pe_ix ix_seq (pe_lst (pa_cons pe_int (pa_cons pe_int (pa_cons pe_int (pa_cons pe_int (pa_cons pe_int (pa_cons pe_int (pa_cons pe_int (pa_cons pe_int pa_nil))))))))) (pe_op op_mod (pe_op op_fdivG (pe_fn G__law_cell_at hr (pa_cons (pv 0) (pa_cons pe_int pa_nil))) pe_int) pe_int) (fun _ _ => rfl)))
      (pss_cons (ss 7 sc__law_after_by.nd (pe_callB (call_minG rfl) rfl T.B.min bt_min (pa_cons (pe_callB call_lenG rfl T.B.len bt_len (pa_cons (pv 0) pa_nil)) (pa_cons pe_int pa_nil))))
      (pss_cons (ps_for PassesOwn.never rfl (pi_range2 rfl T.B.range (pa_cons (pe_callB (call_maxG rfl) rfl T.B.max bt_max (pa_cons pe_int (pa_cons (pe_op op_sub (pv 7) (pv 6)) pa_nil))) (pa_cons (pv 7) pa_nil))) (sg 8 sc__law_after_by.nd)
      (pss_one (ps_expr (pe_fn G__law_step_in hr (pa_cons (pv 4) (pa_cons (pe_fn G__law_cell_at hr (pa_cons (pv 0) (pa_cons (pv 8) pa_nil))) (pa_cons (pv 8) (pa_cons (pv 3) pa_nil))))))))
      (pss_one (ps_ret (pv 4)))))))))), ?_⟩
  walk_at "rd0"
  refine ⟨sc, ns, 3, rfl, hS, ?_⟩
  generalize cell ns 3 % 10 ^ 40 = y
  walk_at "rd"
  refine ⟨sc, ns, 4, rfl, hS, ?_⟩
  obtain ⟨sd, hsd, lsd⟩ := mod_nat (cell ns 4 % 10 ^ 40) m
  walk_at "rd"
  rw [hsd]
  walk_at "rd"
  refine ⟨_, rfl, by omega, by omega, ?_⟩
  rw [Int.toNat_natCast]
  refine comp_by (fun i ys => ys = (nums (List.replicate i 0)).map V.int) (wk_range 0 (2 ^ m) H) (by rw [List.length_map, List.length_range]; omega) rfl ?_ ?_
  · intro i x ys acc H' hx s1 hacc ea hy _ R k
    simp only [subS, List.map_cons, List.map_nil]
    walk_at "rd"
    refine k _ H' (Same.refl _) (fun z => by cases z) fun z R2 k2 => ?_
    walk_at "rd"
    refine k2 _ H' (Same.refl _) ?_
    rw [hy, List.replicate_succ', nums_snoc]
    rfl
  intro l ys H1 n1 s1 e1 hy
  rw [List.length_map, List.length_range] at hy
  subst hy
  have A1 : AF l (List.replicate (2 ^ m) 0) m H1 := ⟨e1, List.length_replicate .., fun x hx => by rw [(List.mem_replicate.mp hx).2]; exact h2p⟩
  walk_at "rd"
  refine ⟨_, rfl, by omega, by omega, ?_⟩
  rw [Int.toNat_natCast]
  refine loopR0 (n := 2 ^ m) (fun j σ H' => ∃ af v5, Same H H' ∧ AF l af m H' ∧ σ = [some (.ref sc), some (.int ((2 ^ m : Nat) : Int)), some (.int y), some (.int (sd : Int)), some (.ref l), v5, none, none, none]) ⟨_, _, s1, A1, rfl⟩ (fun j σ H' hj hh => ?_) (fun σ H' hh => ?_)
  · obtain ⟨af, v5, sm, A2, rfl⟩ := hh
    obtain ⟨a, ha, la⟩ := mod_nat ((j : Int) + 1) m
    obtain ⟨b, hb, lb⟩ := mod_nat ((j : Int) * (1 + 2 * (y / 6)) + y / 6 / ((2 ^ m : Nat) : Int)) m
    obtain ⟨d, hd, ld⟩ := mod_nat (y / 6 * ((j : Int) + 1) + (j : Int)) (2 ^ m)
    have step : ∀ (H' : Hp) (af : List Nat) (v : Nat), Same H H' → AF l af m H' → v < 2 ^ 2 ^ m → ∀ H'', But l H' H'' → H'' l = some (.lst (((nums af).map V.int).set j (.int (v : Int)))) → Same H H'' ∧ AF l (af.set j v) m H'' := fun H' af v sm A hv H'' b e => ⟨b.same n1 sm, A.set e hv⟩
    walk_at "rd"
    refine i_ifd (fun h1 => ?_) (fun h1 => ?_)
    walk_at "rd"
    rw [ha]
    walk_at "rd"
    refine i_ifb (fun h2 => ?_) (fun h2 => ?_)
    walk_at "rd"
    rw [ha]
    walk_at "rd"
    rw [shl_nat]
    refine j_set A2.fl (by rw [len_nums, A2.len]; exact hj) fun H3 b3 e3 => ?_
    obtain ⟨sm3, A3⟩ := step _ _ _ sm A2 (pow_lt2 la) _ b3 e3
    generalize af.set j _ = af3 at A3
    clear h2
    rotate_left
    obtain ⟨af3, H3, eH, sm3, A3⟩ : ∃ af3 H3, H3 = H' ∧ Same H H3 ∧ AF l af3 m H3 := ⟨af, H', rfl, sm, A2⟩
    rw [← eH]
    clear h2
    rotate_left
    refine i_ifF rfl ?_
    obtain ⟨af3, H3, eH, sm3, A3⟩ : ∃ af3 H3, H3 = H' ∧ Same H H3 ∧ AF l af3 m H3 := ⟨af, H', rfl, sm, A2⟩
    rw [← eH]
    all_goals
      clear h1
      walk_at "rd"
      refine i_ifd (fun h2 => ?_) (fun h2 => ?_)
      walk_at "rd"
      refine i_mulI (.inl ⟨by decide, by decide⟩) ?_
      walk_at "rd"
      refine i_mulI (.inl ⟨by omega, by omega⟩) ?_
      walk_at "rd"
      rw [hb]
      walk_at "rd"
      rw [shl_nat]
      refine j_set A3.fl (by rw [len_nums, A3.len]; exact hj) fun H4 b4 e4 => ?_
      obtain ⟨sm4, A4⟩ := step _ _ _ sm3 A3 (pow_lt2 lb) _ b4 e4
      generalize af3.set j _ = af4 at A4
      rotate_left
      obtain ⟨af4, H4, eH4, sm4, A4⟩ : ∃ af4 H4, H4 = H3 ∧ Same H H4 ∧ AF l af4 m H4 := ⟨af3, H3, rfl, sm3, A3⟩
      rw [← eH4]
      all_goals
        clear h2
        walk_at "rd"
        refine i_ifd (fun h3 => ?_) (fun h3 => ?_)
        · walk_at "rd"
          refine i_ifd (fun h4 => ?_) (fun h4 => ?_)
          · walk_at "rd"
            refine i_mulI (.inr ⟨by omega, by omega⟩) ?_
            walk_at "rd"
            rw [shl_nat]
            refine i_rI (by show (0 : Int) < _; omega) ?_
            rw [hd]
            walk_at "rd"
            refine j_set A4.fl (by rw [len_nums, A4.len]; exact hj) fun H5 b5 e5 => ?_
            obtain ⟨sm5, A5⟩ := step _ _ _ sm4 A4 ld _ b5 e5
            exact ⟨_, _, sm5, A5, rfl⟩
          · walk_at "rd"
            exact ⟨_, _, sm4, A4, rfl⟩
        · refine i_ifF rfl ?_
          walk_at "rd"
          exact ⟨_, _, sm4, A4, rfl⟩
  · obtain ⟨af, v5, sm, A2, rfl⟩ := hh
    have hS' := sm.seq hS
    walk_at "rd"
    refine j_lst (Nat.le_of_ble_eq_true rfl) fun l8 H2 s2 n2 e2 => ?_
    have A3 : AF l af m H2 := ⟨s2 _ _ A2.fl, A2.len, A2.bd⟩
    walk_at "rd"
    refine ⟨sc, ns, 0, rfl, s2.seq hS', ?_⟩
    obtain ⟨i, hi, li⟩ : ∃ i : Nat, cell ns 0 % 10 ^ 40 / 64 % 8 = (i : Int) ∧ i < 8 := ⟨(cell ns 0 % 10 ^ 40 / 64 % 8).toNat, by omega, by omega⟩
    obtain ⟨ms, hms, hms0⟩ : ∃ ms : Int, [V.int 1, V.int 80, V.int 2, V.int 3, V.int 5, V.int 1, V.int 2, V.int 8][i]? = some (V.int ms) ∧ 0 ≤ ms := by
      match i, li with
      | 0, _ => exact ⟨_, rfl, by decide⟩
      | 1, _ => exact ⟨_, rfl, by decide⟩
      | 2, _ => exact ⟨_, rfl, by decide⟩
      | 3, _ => exact ⟨_, rfl, by decide⟩
      | 4, _ => exact ⟨_, rfl, by decide⟩
      | 5, _ => exact ⟨_, rfl, by decide⟩
      | 6, _ => exact ⟨_, rfl, by decide⟩
      | 7, _ => exact ⟨_, rfl, by decide⟩
    walk_at "rd"
    rw [hi]
    refine i_ixL e2 hms ?_
    have sm2 := sm.trans s2
    have hS2 := s2.seq hS'
    walk_at "rd"
    rw [List.length_map]
    generalize hla : min ((ns.length : Nat) : Int) 84 = la
    generalize hlo : max 5 (la - ms) = lo
    refine ⟨lo, _, rfl, by omega, ?_⟩
    generalize hN : (la - lo).toNat = N
    refine for_range (fun i σ H'' => ∃ af v5 v8, Same H H'' ∧ AF l af m H'' ∧ σ = [some (.ref sc), some (.int ((2 ^ m : Nat) : Int)), some (.int y), some (.int (sd : Int)), some (.ref l), v5, some (.int ms), some (.int la), v8]) ⟨_, _, _, sm2, A3, rfl⟩ ?_ ?_
    · rintro i σ H'' hi ⟨af3, w5, w8, sm3, A4, rfl⟩
      obtain ⟨j, e1⟩ : ∃ j : Nat, lo + (i : Int) = (j : Int) := ⟨(lo + i).toNat, by omega⟩
      rw [e1]
      walk_at "rd"
      refine ⟨sc, ns, _, rfl, sm3.seq hS, ?_⟩
      walk_at "rd"
      refine ⟨l, af3, m, j, sd, _, rfl, hm, by omega, A4, fun H4 af4 b4 A5 => ?_⟩
      exact ⟨af4, _, _, b4.same n1 sm3, A5, rfl⟩
    · rintro σ H'' ⟨af3, w5, w8, sm3, A4, rfl⟩
      walk_at "rd"
      exact q l H'' af3 sm3 n1 A4
theorem mayN_iff2 {af : List Nat} {st held n : Nat} {b : Bar} (hl : af.length = n) : mayN af st held b n = true ↔ st &&& crowdB n b = 0 ∧ ∀ s, s < n → held.testBit s = true → (crowdB n b).testBit s = false → af.getD s 0 &&& crowdB n b = 0 := by
  unfold mayN
  rw [Bool.and_eq_true, decide_eq_true_iff, decide_eq_true_iff]
  refine and_congr_right fun _ => ?_
  constructor
  · intro h s hs hh hc
    have z : ((behN af (crowdB n b) &&& held) - ((behN af (crowdB n b) &&& held) &&& crowdB n b)).testBit s = false := by rw [h]; exact Nat.zero_testBit s
    rw [testBit_sub_and, Nat.testBit_and, hc, hh, Bool.not_false, Bool.and_true, Bool.and_true, testBit_beh, decide_eq_true (show s < af.length by omega), Bool.true_and] at z
    by_cases e : af.getD s 0 &&& crowdB n b = 0
    · exact e
    · rw [decide_eq_true e] at z; cases z
  · intro h
    apply zero_bits
    intro k
    rw [testBit_sub_and, Nat.testBit_and, testBit_beh, hl]
    by_cases hn : k < n
    · cases e : (crowdB n b).testBit k with
      | true => simp
      | false =>
        cases eh : held.testBit k with
        | false => simp
        | true => rw [decide_eq_false (show ¬ (af.getD k 0 &&& crowdB n b ≠ 0) from fun q => q (h k hn eh e))]; simp
    · rw [decide_eq_false hn]; simp
theorem crowd_succ (i : Nat) (b : Bar) : crowdB (i + 1) b = if lies i b = true then crowdB i b ||| 2 ^ i else crowdB i b := by
  apply Nat.eq_of_testBit_eq
  intro k
  have e : (crowdB (i + 1) b).testBit k = (decide (k < i + 1) && lies k b) := testBit_crowd _ _ _
  rw [e]
  by_cases hl : lies i b = true
  · rw [if_pos hl, Nat.testBit_or, testBit_crowd, Nat.testBit_two_pow]
    by_cases hk : k = i
    · subst hk; rw [hl]; simp
    · have : decide (i = k) = false := decide_eq_false (by omega)
      rw [this, Bool.or_false]
      congr 1
      exact decide_eq_decide.mpr (by omega)
  · rw [if_neg hl, testBit_crowd]
    by_cases hk : k = i
    · subst hk
      have : lies k b = false := by simpa using hl
      rw [this]; simp
    · congr 1
      exact decide_eq_decide.mpr (by omega)
def spLawMay : Sp := fun vs H Q _ => ∃ (l : Addr) (st held n : Nat) (af : List Nat) (b : Bar), vs = [.int (st : Int), .ref l, .int (held : Int), .int (b.1 : Int), .int (b.2 : Int)] ∧ H l = some (.lst ((nums af).map V.int)) ∧ af.length = n ∧ n ≤ 64 ∧ b.good ∧ Q (.bl (mayN af st held b n)) H
theorem ok_may (T : Txt K mg t) : FnS P w K mg base 1 "_law_may" ["_law_starts", "_law_after", "_law_held", "_law_asked", "_law_lit"] (spLawMay) := by
  refine ⟨_, _, T.F__law_may.ok sc__law_may (fun vs H Q E h => ?_) (fun cdv A outer s H vs Q E hr h => ?_), T.b__law_may, T.F__law_may.kp, T.m__law_may⟩
  · obtain ⟨l, st, held, n, af, b, rfl, hl, hn, h64, hg, q⟩ := h
    rfl
  obtain ⟨l, st, held, n, af, b, rfl, hl, hn, h64, hg, q⟩ := h
  have fin : (¬ mayN af st held b n = true) → Q (.bl false) H := fun h => by
    have e : mayN af st held b n = false := by simpa using h
    rw [e] at q; exact q
  have li : ∀ s : Nat, decide (Builtin.bitAnd (s : Int) (b.1 : Int) = (b.2 : Int)) = lies s b := fun s => by
    rw [and_nat, ← lies_and hg]
    exact decide_eq_decide.mpr (by omega)
  refine ⟨_, (pss_cons (ss 5 sc__law_may.nd pe_int)
      (pss_cons (ps_for PassesOwn.never rfl (pi_range1 rfl T.B.range (pa_cons (pe_callB call_lenG rfl T.B.len bt_len (pa_cons (pv 1) pa_nil)) pa_nil)) (sg 6 sc__law_may.nd)
      (pss_one (ps_if (pt_cmpR (op_eqA hr.units) (pe_op op_and (pv 6) (pv 3)) (pv 4) (nomark _))
      (pss_one (ss 5 sc__law_may.nd (pe_op op_or (pv 5) (pe_op op_shl pe_int (pv 6)))))
      pss_nil)))
      (pss_cons (ps_if (pt_cmpR (op_neA hr.units) (pe_op op_and (pv 5) (pv 0)) pe_int (nomark _))
      (pss_one (ps_ret pe_bl))
      pss_nil)
      (pss_cons (ps_for PassesOwn.never rfl (pi_range1 rfl T.B.range (pa_cons (pe_callB call_lenG rfl T.B.len bt_len (pa_cons (pv 1) pa_nil)) pa_nil)) (sg 6 sc__law_may.nd)
      (pss_one (ps_if (PW.pt (pw_and (pt_cmpR (op_eqA hr.units) (pe_op op_and (pe_op op_shr (pe_op op_and (pv 2) (pe_un un_inv (pv 5))) (pv 6)) pe_int) pe_int (nomark _)) (pw_and1 (pt_cmpR (op_neA hr.units) (pe_op op_and (pe_ix ix_seq (pv 1) (pv 6) (fun _ _ => rfl)) (pv 5)) pe_int (nomark _)))))
      (pss_one (ps_ret pe_bl))
      pss_nil)))
      (pss_one (ps_ret pe_bl)))))), ?_⟩
  walk_at "rd0"
  rw [len_nums, hn]
  refine ⟨_, rfl, by omega, by omega, ?_⟩
  rw [Int.toNat_natCast]
  refine loopR0 (n := n) (fun i σ H' => H' = H ∧ ∃ v, σ = [some (.int (st : Int)), some (.ref l), some (.int (held : Int)), some (.int (b.1 : Int)), some (.int (b.2 : Int)), some (.int ((crowdB i b : Nat) : Int)), v]) ⟨rfl, _, rfl⟩ (fun i σ H' hi hh => ?_) (fun σ H' hh => ?_)
  · obtain ⟨rfl, v, rfl⟩ := hh
    walk_at "rd"
    rw [li]
    refine i_ifb (fun h1 => ?_) (fun h1 => ?_)
    · walk_at "rd"
      rw [shl_nat, or_nat]
      refine ⟨rfl, some (.int (i : Int)), ?_⟩
      rw [crowd_succ, if_pos h1]
    · walk_at "rd"
      refine ⟨rfl, some (.int (i : Int)), ?_⟩
      rw [crowd_succ, if_neg (by rw [h1]; simp)]
  · obtain ⟨rfl, v, rfl⟩ := hh
    walk_at "rd"
    rw [and_nat]
    refine i_ifb (fun h1 => ?_) (fun h1 => ?_)
    · walk_at "rd"
      exact fin fun z => by
        have := ((mayN_iff2 hn).mp z).1
        rw [Nat.and_comm, this] at h1
        simp at h1
    · have h1' : st &&& crowdB n b = 0 := by
        rw [Nat.and_comm]
        simpa using h1
      walk_at "rd"
      rw [len_nums, hn]
      refine ⟨_, rfl, by omega, by omega, ?_⟩
      rw [Int.toNat_natCast]
      refine loopR0 (n := n) (fun i σ H'' => H'' = H' ∧ (∀ s, s < i → held.testBit s = true → (crowdB n b).testBit s = false → af.getD s 0 &&& crowdB n b = 0) ∧ ∃ v, σ = [some (.int (st : Int)), some (.ref l), some (.int (held : Int)), some (.int (b.1 : Int)), some (.int (b.2 : Int)), some (.int ((crowdB n b : Nat) : Int)), v]) ⟨rfl, fun s hs => absurd hs (Nat.not_lt_zero _), _, rfl⟩ (fun i σ H'' hi hh => ?_) (fun σ H'' hh => ?_)
      · obtain ⟨rfl, q1, v, rfl⟩ := hh
        have nx : (held.testBit i = true → (crowdB n b).testBit i = false → af.getD i 0 &&& crowdB n b = 0) → ∀ s, s < i + 1 → held.testBit s = true → (crowdB n b).testBit s = false → af.getD s 0 &&& crowdB n b = 0 := fun h s hs => by
          by_cases e : s = i
          · subst e; exact h
          · exact q1 s (by omega)
        walk_at "rd"
        rw [andnot_nat, lit_eq, testBit_sub_and]
        refine i_ifb (fun h2 => ?_) (fun h2 => ?_)
        · rw [Bool.and_eq_true, Bool.not_eq_true'] at h2
          walk_at "rd"
          refine i_ixL hl (get_nums (by omega)) ?_
          walk_at "rd"
          rw [and_nat]
          refine i_ifb (fun h3 => ?_) (fun h3 => ?_)
          · walk_at "rd"
            exact fin fun z => by
              have := ((mayN_iff2 hn).mp z).2 i hi h2.1 h2.2
              rw [this] at h3
              simp at h3
          · walk_at "rd"
            exact ⟨rfl, nx fun _ _ => by simpa using h3, _, rfl⟩
        · refine i_ifF rfl ?_
          walk_at "rd"
          exact ⟨rfl, nx (fun e1 e2 => by rw [e1, e2] at h2; cases h2), _, rfl⟩
      · obtain ⟨rfl, q1, v, rfl⟩ := hh
        walk_at "rd"
        have e : mayN af st held b n = true := (mayN_iff2 hn).mpr ⟨h1', q1⟩
        rw [e] at q
        exact q
def spLWhole : Sp := fun vs H Q _ => ∃ i : Int, vs = [.int i] ∧ Q (.bl true) H
theorem ok_whole (T : Txt K mg t) : FnS P w K mg base 1 "_law_whole" ["_law_found"] (spLWhole) := by
  refine ⟨_, _, T.F__law_whole.ok sc__law_whole (fun vs H Q E h => ?_) (fun cdv A outer s H vs Q E hr h => ?_), T.b__law_whole, T.F__law_whole.kp, T.m__law_whole⟩
  · obtain ⟨i, rfl, q⟩ := h
    rfl
  obtain ⟨i, rfl, q⟩ := h
  refine ⟨_, (pss_one (ps_ret (pe_and (pe_callB call_isi rfl T.B.isinstance bt_isinstance (pa_cons (pv 0) (pa_cons (pe_bltn (v := .ty "int") rfl T.B.int bt_int rfl) pa_nil))) (pe_one (pe_notG (pe_callB call_isi rfl T.B.isinstance bt_isinstance (pa_cons (pv 0) (pa_cons (pe_bltn (v := .ty "bool") rfl T.B.bool bt_bool rfl) pa_nil)))))))), ?_⟩
  walk_at "rd0"
  refine i_ifT rfl ?_
  walk_at "rd"
  exact q
def spRef (t : Ad) : Sp := fun vs H Q _ => ∃ (p pb : Addr) (m st bd held : Nat) (af : List Nat) (b : Bar), vs = [.ref p, .int (held : Int), .ref pb] ∧ ChartAt t H p m st bd af ∧ GoodC m st bd af ∧ BarAt H pb b ∧ b.good ∧ mayN af st held b (2 ^ m) = false ∧ ∀ H', Same H H' → Q (.bl true) H'
theorem ok_refused_by_any (T : Txt K mg t) : FnS P w K mg base 5 "_law_refused_by_any" ["_law_chart", "_law_held", "_law_bar"] ((spRef t)) := by
  refine ⟨_, _, T.F__law_refused_by_any.ok sc__law_refused_by_any (fun vs H Q E h => ?_) (fun cdv A outer s H vs Q E hr h => ?_), T.b__law_refused_by_any, T.F__law_refused_by_any.kp, T.m__law_refused_by_any⟩
  · obtain ⟨p, pb, m, st, bd, held, af, b, rfl, hC, hG, hb, hg, hm, q⟩ := h
    rfl
  obtain ⟨p, pb, m, st, bd, held, af, b, rfl, hC, hG, hb, hg, hm, q⟩ := h
  have G_widened := ok_widened (P := P) (w := w) (base := base) T
  refine ⟨_, (pss_cons (ps_try (psx_expr (pex_fn G_widened hr (pa_cons (pv 0) (pa_cons (pv 1) (pa_cons (pv 2) pa_nil)))))
      (ph_exc ⟨rfl, T.m_EverError, T.ty_EverError, T.cl_EverError, T.mb_EverError, by decide⟩ (fun _ _ _ _ _ _ => (pss_one (ps_ret pe_bl)))
      ph_nil))
      (pss_one (ps_ret pe_bl))), ?_⟩
  walk_at "rd0"
  refine i_tryX ?_
  refine i_fnX ?_
  walk_at "rd"
  refine ⟨p, pb, m, st, bd, held, af, b, rfl, hC, hG, hb, hg, fun _ H1 s1 => ⟨_, rfl, ?_⟩, fun z => by rw [hm] at z; cases z⟩
  refine i_handT T.xs_NotShut_EverError ?_
  walk_at "rd"
  exact q H1 s1
theorem ok_refused (T : Txt K mg t) : FnS P w K mg base 5 "_law_refused" ["_law_chart", "_law_held", "_law_bar"] ((spRef t)) := by
  refine ⟨_, _, T.F__law_refused.ok sc__law_refused (fun vs H Q E h => ?_) (fun cdv A outer s H vs Q E hr h => ?_), T.b__law_refused, T.F__law_refused.kp, T.m__law_refused⟩
  · obtain ⟨p, pb, m, st, bd, held, af, b, rfl, hC, hG, hb, hg, hm, q⟩ := h
    rfl
  obtain ⟨p, pb, m, st, bd, held, af, b, rfl, hC, hG, hb, hg, hm, q⟩ := h
  have G_widened := ok_widened (P := P) (w := w) (base := base) T
  refine ⟨_, (pss_cons (ps_try (psx_expr (pex_fn G_widened hr (pa_cons (pv 0) (pa_cons (pv 1) (pa_cons (pv 2) pa_nil)))))
      (ph_excAs (i := 3) ⟨rfl, T.m_NotShut, T.ty_NotShut, T.cl_NotShut, T.mb_NotShut, by decide⟩ sc__law_refused.nd rfl rfl (fun ea oe C pn h1 h2 h3 h4 hx => (pss_cons (ps_if (pt_truthK (K := K) (by rfl) (pe_callB (call_isiX hx h1 h2 h3 h4) (by rfl) T.B.isinstance bt_isinstance (pa_cons (pv 3) (pa_cons (pe_tup (pa_cons (pe_glob (v := .ref t.C_NoBar) (by rfl) T.m_NoBar rfl) (pa_cons (pe_glob (v := .ref t.C_NoChart) (by rfl) T.m_NoChart rfl) (pa_cons (pe_glob (v := .ref t.C_NoFence) (by rfl) T.m_NoFence rfl) (pa_cons (pe_glob (v := .ref t.C_NoFormula) (by rfl) T.m_NoFormula rfl) (pa_cons (pe_glob (v := .ref t.C_NoFrame) (by rfl) T.m_NoFrame rfl) (pa_cons (pe_glob (v := .ref t.C_NoLine) (by rfl) T.m_NoLine rfl) pa_nil))))))) pa_nil))) (fun _ => rfl))
      (pss_one (ps_ret pe_bl))
      pss_nil)
      (pss_cons (ps_if (pt_truthK (K := K) (by rfl) (pe_callB (call_isiX hx h1 h2 h3 h4) (by rfl) T.B.isinstance bt_isinstance (pa_cons (pv 3) (pa_cons (pe_tup (pa_cons (pe_glob (v := .ref t.C_NoMachine) (by rfl) T.m_NoMachine rfl) (pa_cons (pe_glob (v := .ref t.C_NoName) (by rfl) T.m_NoName rfl) (pa_cons (pe_glob (v := .ref t.C_NoStep) (by rfl) T.m_NoStep rfl) (pa_cons (pe_glob (v := .ref t.C_NothingLeft) (by rfl) T.m_NothingLeft rfl) (pa_cons (pe_glob (v := .ref t.C_TooMany) (by rfl) T.m_TooMany rfl) pa_nil)))))) pa_nil))) (fun _ => rfl))
      (pss_one (ps_ret pe_bl))
      pss_nil)
      (pss_one (ps_ret (pe_and (pe_callB (call_isiX hx h1 h2 h3 h4) (by rfl) T.B.isinstance bt_isinstance (pa_cons (pv 3) (pa_cons (pe_glob (v := .ref t.C_EverError) (by rfl) T.m_EverError rfl) pa_nil))) (pe_one (pe_callB (call_isiX hx h1 h2 h3 h4) (by rfl) T.B.isinstance bt_isinstance (pa_cons (pv 3) (pa_cons (pe_bltn (v := .ty "ValueError") (by rfl) T.b_ValueError (by decide +kernel) rfl) pa_nil))))))))))
      (ph_exc ⟨rfl, T.m_EverError, T.ty_EverError, T.cl_EverError, T.mb_EverError, by decide⟩ (fun _ _ _ _ _ _ => (pss_one (ps_ret pe_bl)))
      ph_nil)))
      (pss_one (ps_ret pe_bl))), ?_⟩
  walk_at "rd0"
  refine i_tryX ?_
  refine i_fnX ?_
  walk_at "rd"
  refine ⟨p, pb, m, st, bd, held, af, b, rfl, hC, hG, hb, hg, fun _ H1 s1 => ⟨_, rfl, ?_⟩, fun z => by rw [hm] at z; cases z⟩
  refine i_handT T.xs_NotShut_NotShut ?_
  refine i_as T.q_NotShut fun ea => ?_
  (try dsimp only [List.set_cons_succ, List.set_cons_zero])
  walk_at "rd"
  refine j_tup (Nat.le_of_ble_eq_true rfl) fun p1 H2 s2 n2 e2 => ?_
  walk_at "rd"
  refine i_isiXN (cs := [t.C_NoBar, t.C_NoChart, t.C_NoFence, t.C_NoFormula, t.C_NoFrame, t.C_NoLine]) e2 (fun d hd => ?_) ?_
  · simp only [List.mem_cons, List.not_mem_nil, or_false] at hd
    rcases hd with rfl | rfl | rfl | rfl | rfl | rfl
    all_goals first | exact T.xz_NotShut_NoBar | exact T.xz_NotShut_NoChart | exact T.xz_NotShut_NoFence | exact T.xz_NotShut_NoFormula | exact T.xz_NotShut_NoFrame | exact T.xz_NotShut_NoLine
  walk_at "rd"
  refine i_ifF rfl ?_
  walk_at "rd"
  refine j_tup (Nat.le_of_ble_eq_true rfl) fun p2 H3 s3 n3 e3 => ?_
  walk_at "rd"
  refine i_isiXN (cs := [t.C_NoMachine, t.C_NoName, t.C_NoStep, t.C_NothingLeft, t.C_TooMany]) e3 (fun d hd => ?_) ?_
  · simp only [List.mem_cons, List.not_mem_nil, or_false] at hd
    rcases hd with rfl | rfl | rfl | rfl | rfl
    all_goals first | exact T.xz_NotShut_NoMachine | exact T.xz_NotShut_NoName | exact T.xz_NotShut_NoStep | exact T.xz_NotShut_NothingLeft | exact T.xz_NotShut_TooMany
  walk_at "rd"
  refine i_ifF rfl ?_
  walk_at "rd"
  refine i_isiXC T.xz_NotShut_EverError ?_
  walk_at "rd"
  refine i_ifT rfl ?_
  walk_at "rd"
  refine i_isiXT T.v_NotShut ?_
  exact q H3 (s1.trans (s2.trans s3))
end
theorem less_none {b f : Bar} (h : Less b f) : f.1 - (f.1 &&& b.1) = 0 := by
  have e : f.1 &&& b.1 = f.1 := by
    apply Nat.eq_of_testBit_eq
    intro k
    rw [Nat.testBit_and]
    cases z : f.1.testBit k with
    | false => rfl
    | true => rw [h.1 k z]; rfl
  rw [e, Nat.sub_self]
theorem wo_bit {f : Bar} {j : Nat} (h : (((f.1 - (f.1 &&& 2 ^ j) : Nat) : Int) != (f.1 : Int)) = true) : f.1.testBit j = true := by
  cases e : f.1.testBit j with
  | true => rfl
  | false =>
    have z : f.1 &&& 2 ^ j = 0 := by
      apply Nat.eq_of_testBit_eq
      intro k
      rw [Nat.testBit_and, Nat.testBit_two_pow, Nat.zero_testBit]
      by_cases u : j = k
      · subst u; rw [e]; rfl
      · rw [decide_eq_false u, Bool.and_false]
    rw [z] at h
    simp at h
theorem i_join {t u : TS} {D : Ends} {σ : St} {H : Hp} (Pn : St → Hp → Prop) (h2 : ∀ σ H, Pn σ H → u D σ H) (h1 : ∀ Kn : St → Hp → Prop, (∀ σ H, Pn σ H → Kn σ H) → t { D with nx := Kn } σ H) : tSeq t u D σ H := h1 (u D) h2

end LW

set_option maxRecDepth 100000
set_option maxHeartbeats 4000000
open PySem L2

namespace LW
open PySem L2 EM
section
variable {P : Program} {w : World} {K : PySem.W.Frag} {mg : Str → Option Value} {base : Heap} {t : Ad}
theorem ok_law (T : Txt K mg t) : FnOk P w K mg base CX0 12 t.f_law t.d_law ["_law_script"] (spLaw K) := by
  refine T.F_law.ok sc_law (fun vs H Q E h => ?_) (fun cdv A outer s H vs Q E hr h => ?_)
  · obtain ⟨a, ns, rfl, _⟩ := h
    rfl
  obtain ⟨sc, ns, rfl, hS, h63, hO, q⟩ := h
  have G__law_cell_at := ok_cell_at (P := P) (w := w) (base := base) T
  have G__law_crowd_by := ok_crowd_by (P := P) (w := w) (base := base) T
  have G__law_after_by := ok_after_by (P := P) (w := w) (base := base) T
  have G__law_may := ok_may (P := P) (w := w) (base := base) T
  have G__law_whole := ok_whole (P := P) (w := w) (base := base) T
  have G__law_refused := ok_refused (P := P) (w := w) (base := base) T
  have G__law_refused_by_any := ok_refused_by_any (P := P) (w := w) (base := base) T
  have G_widened := ok_widened (P := P) (w := w) (base := base) T
  have M_Chart := ok_Chart (P := P) (w := w) (base := base) T
  refine ⟨_, (pss_cons (ss 1 sc_law.nd (pe_fn G__law_cell_at hr (pa_cons (pv 0) (pa_cons pe_int pa_nil))))
      (pss_cons (ss 2 sc_law.nd (pe_op op_addG pe_int (pe_op op_mod (pv 1) pe_int)))
      (pss_cons (ps_if (pt_cmpR (op_eqA hr.units) (pe_op op_mod (pe_op op_fdivG (pv 1) pe_int) pe_int) pe_int (nomark _))
      (pss_one (ss 2 sc_law.nd (pe_op op_addG pe_int (pe_op op_mod (pe_op op_fdivG (pv 1) pe_int) pe_int))))
      pss_nil)
      (pss_cons (ss 3 sc_law.nd (pe_op op_shl pe_int (pv 2)))
      (pss_cons (ss 4 sc_law.nd (pe_fn G__law_crowd_by hr (pa_cons (pe_fn G__law_cell_at hr (pa_cons (pv 0) (pa_cons pe_int pa_nil))) (pa_cons (pv 3) pa_nil))))
      (pss_cons (ss 5 sc_law.nd (pe_fn G__law_crowd_by hr (pa_cons (pe_op op_fdivG (pe_fn G__law_cell_at hr (pa_cons (pv 0) (pa_cons pe_int pa_nil))) pe_int) (pa_cons (pv 3) pa_nil))))
      (pss_cons (ss 6 sc_law.nd (pe_fn G__law_after_by hr (pa_cons (pv 0) (pa_cons (pv 3) pa_nil))))
      (pss_cons (ss 7 sc_law.nd (pe_mk M_Chart hr (pa_cons (pv 2) (pa_cons (pv 4) (pa_cons (pv 5) (pa_cons (pe_callTy call_listG rfl T.B.list bt_list (pa_cons (pv 6) pa_nil)) pa_nil))))))
      (pss_cons (ss 8 sc_law.nd (pe_fn G__law_cell_at hr (pa_cons (pv 0) (pa_cons pe_int pa_nil))))
      (pss_cons (ss 9 sc_law.nd (pe_fn G__law_crowd_by hr (pa_cons (pe_op op_fdivG (pv 8) pe_int) (pa_cons (pv 3) pa_nil))))
      (pss_cons (ps_if (pt_cmpR (op_eqA hr.units) (pe_op op_mod (pe_op op_fdivG (pv 8) pe_int) pe_int) pe_int (nomark _))
      (pss_one (ss 9 sc_law.nd (pe_op op_or (pe_op op_and (pe_op op_sub (pe_op op_shl pe_int (pv 3)) pe_int) (pe_un un_inv (pe_op op_shl pe_int (pe_op op_mod (pe_op op_fdivG (pv 8) pe_int) (pv 3))))) (pv 4))))
      pss_nil)
      (pss_cons (ps_if (pt_cmpR op_gt (pe_op op_mod (pe_op op_fdivG (pv 8) pe_int) pe_int) pe_int (nomark _))
      (pss_cons (ss 9 sc_law.nd (pv 4))
      (pss_one (ps_for PassesOwn.never rfl (pi_range1 rfl T.B.range (pa_cons (pv 3) pa_nil)) (sg 10 sc_law.nd)
      (pss_one (ps_if (PW.pt (pw_and (pt_cmpR (op_eqA hr.units) (pe_op op_and (pe_op op_shr (pv 4) (pv 10)) pe_int) pe_int (nomark _)) (pw_and1 (pt_cmpR (op_neA hr.units) (pe_op op_mod (pe_op op_fdivG (pv 8) pe_int) pe_int) pe_int (nomark _)))))
      (pss_one (ss 9 sc_law.nd (pe_op op_or (pv 9) (pe_ix ix_seq (pv 6) (pv 10) (fun _ _ => rfl)))))
      pss_nil)))))
      pss_nil)
      (pss_cons (ss 11 sc_law.nd (pe_tup (pa_cons (pe_op op_sub (pv 3) pe_int) (pa_cons (pe_op op_mod (pv 8) (pv 3)) pa_nil))))
      (pss_cons (ps_if (pt_cmpR (op_eqA hr.units) (pe_op op_mod (pe_op op_fdivG (pv 8) pe_int) pe_int) pe_int (nomark _))
      (pss_one (ss 11 sc_law.nd (pe_tup (pa_cons (pe_op op_mod (pe_op op_fdivG (pv 8) pe_int) (pv 3)) (pa_cons (pe_op op_and (pe_op op_mod (pv 8) (pv 3)) (pe_op op_mod (pe_op op_fdivG (pv 8) pe_int) (pv 3))) pa_nil)))))
      pss_nil)
      (pss_cons (ps_if (pt_not (pt_truth (pe_fn G__law_may hr (pa_cons (pv 4) (pa_cons (pv 6) (pa_cons (pv 9) (pa_cons (pe_ix ix_seq (pv 11) pe_int (fun _ _ => rfl)) (pa_cons (pe_ix ix_seq (pv 11) pe_int (fun _ _ => rfl)) pa_nil)))))) (fun _ => rfl)))
      (pss_one (ps_ret (pe_and (pe_fn G__law_refused hr (pa_cons (pv 7) (pa_cons (pv 9) (pa_cons (pv 11) pa_nil)))) (pe_one (pe_fn G__law_refused_by_any hr (pa_cons (pv 7) (pa_cons (pv 9) (pa_cons (pv 11) pa_nil))))))))
      pss_nil)
      (pss_cons (ss 12 sc_law.nd (pe_fn1 G_widened hr (pa_cons (pv 7) (pa_cons (pv 9) (pa_cons (pv 11) pa_nil)))))
      (pss_cons (ps_if (PW.pt (pw_or (pt_not (pt_truth (pe_callB call_isi rfl T.B.isinstance bt_isinstance (pa_cons (pv 12) (pa_cons (pe_bltn (v := .ty "tuple") rfl T.B.tuple bt_tuple rfl) pa_nil))) (fun _ => rfl))) (pw_or1 (pt_cmpR (op_neA hr.units) (pe_callB call_lenG rfl T.B.len bt_len (pa_cons (pv 12) pa_nil)) pe_int (nomark _)))))
      (pss_one (ps_ret pe_bl))
      pss_nil)
      (pss_cons (ps_if (PW.pt (pw_or (pt_not (pt_truth (pe_fn G__law_whole hr (pa_cons (pe_ix ix_seq (pv 12) pe_int (fun _ _ => rfl)) pa_nil)) (fun _ => rfl))) (pw_or1 (pt_not (pt_truth (pe_fn G__law_whole hr (pa_cons (pe_ix ix_seq (pv 12) pe_int (fun _ _ => rfl)) pa_nil)) (fun _ => rfl))))))
      (pss_one (ps_ret pe_bl))
      pss_nil)
      (pss_cons (ss 13 sc_law.nd (pe_ix ix_seq (pv 12) pe_int (fun _ _ => rfl)))
      (pss_cons (ps_if (PW.pt (pw_or (pt_cmpR (op_neA hr.units) (pe_op op_and (pv 13) (pe_un un_inv (pe_ix ix_seq (pv 11) pe_int (fun _ _ => rfl)))) pe_int (nomark _)) (pw_or1 (pt_cmpR (op_neA hr.units) (pe_ix ix_seq (pv 12) pe_int (fun _ _ => rfl)) (pe_op op_and (pe_ix ix_seq (pv 11) pe_int (fun _ _ => rfl)) (pv 13)) (nomark _)))))
      (pss_one (ps_ret pe_bl))
      pss_nil)
      (pss_cons (ps_if (pt_not (pt_truth (pe_fn G__law_may hr (pa_cons (pv 4) (pa_cons (pv 6) (pa_cons (pv 9) (pa_cons (pv 13) (pa_cons (pe_ix ix_seq (pv 12) pe_int (fun _ _ => rfl)) pa_nil)))))) (fun _ => rfl)))
      (pss_one (ps_ret pe_bl))
      pss_nil)
      (pss_cons (ps_for PassesOwn.never rfl (pi_range1 rfl T.B.range (pa_cons (pv 2) pa_nil)) (sg 14 sc_law.nd)
      (pss_cons (ss 15 sc_law.nd (pe_op op_and (pv 13) (pe_un un_inv (pe_op op_shl pe_int (pv 14)))))
      (pss_one (ps_if (PW.pt (pw_and (pt_cmpR (op_neA hr.units) (pv 15) (pv 13) (nomark _)) (pw_and1 (pt_truth (pe_fn G__law_may hr (pa_cons (pv 4) (pa_cons (pv 6) (pa_cons (pv 9) (pa_cons (pv 15) (pa_cons (pe_op op_and (pe_ix ix_seq (pv 11) pe_int (fun _ _ => rfl)) (pv 15)) pa_nil)))))) (fun _ => rfl)))))
      (pss_one (ps_ret pe_bl))
      pss_nil))))
      (pss_one (ps_ret pe_bl)))))))))))))))))))))))), ?_⟩
  walk_at "rd0"
  refine ⟨sc, ns, 0, rfl, hS, ?_⟩
  generalize cell ns 0 % 10 ^ 40 = y0
  walk_at "rs"
  refine i_seq ?_
  walk_at "rs"
  refine i_join (fun σ H' => H = H' ∧ ∃ m : Nat, m ≤ 6 ∧ 1 ≤ m ∧ σ = [some (.ref sc), some (.int y0), some (.int (m : Int)), none, none, none, none, none, none, none, none, none, none, none, none, none]) ?_ ?_
  rotate_left
  · intro Kn hK
    walk_at "rd"
    refine i_ifd (fun h1 => ?_) (fun h1 => ?_)
    · walk_at "rd"
      exact hK _ _ ⟨rfl, (5 + y0 / 32 % 2).toNat, by omega, by omega, by rw [Int.toNat_of_nonneg (by omega)]⟩
    · walk_at "rd"
      exact hK _ _ ⟨rfl, (1 + y0 % 4).toNat, by omega, by omega, by rw [Int.toNat_of_nonneg (by omega)]⟩
  rintro σ _ ⟨rfl, m, hm6, hm1, rfl⟩
  have hp := pow_small hm6
  have hp0 : 0 < 2 ^ m := Nat.two_pow_pos m
  have h2p : 0 < 2 ^ 2 ^ m := Nat.two_pow_pos _
  walk_at "rd"
  rw [shl_nat]
  refine ⟨sc, ns, 1, rfl, hS, ?_⟩
  walk_at "rd"
  refine ⟨_, m, rfl, hm6, fun st hst => ?_⟩
  walk_at "rd"
  refine ⟨sc, ns, 2, rfl, hS, ?_⟩
  walk_at "rd"
  refine ⟨_, m, rfl, hm6, fun bd hbd => ?_⟩
  walk_at "rd"
  refine ⟨sc, ns, m, rfl, hS, h63, hm6, fun l H1 af s1 n1 A1 => ?_⟩
  have hG : GoodC m st bd af := ⟨hm1, hm6, hst, hbd, A1.len, A1.bd⟩
  have e1 := A1.fl
  have hl := A1.len
  walk_at "rd"
  refine j_list (.inl (SqL.of e1)) fun hd H2 s2 n2 e2 => ?_
  walk_at "rd"
  refine i_chart e2 hG fun p H3 s3 n3 hC => ?_
  have sA := s1.trans (s2.trans s3)
  have f3 := s3 _ _ (s2 _ _ e1)
  walk_at "rd"
  refine ⟨sc, ns, 4, rfl, sA.seq hS, ?_⟩
  generalize cell ns 4 % 10 ^ 40 = y4
  walk_at "rd"
  refine ⟨_, m, rfl, hm6, fun held0 hh0 => ?_⟩
  obtain ⟨x, hx, lx⟩ := mod_nat (y4 / 1024) m
  obtain ⟨z, hz, lz⟩ := mod_nat y4 m
  walk_at "rs"
  refine i_join (fun σ H' => H3 = H' ∧ ∃ h : Nat, σ = [some (.ref sc), some (.int y0), some (.int (m : Int)), some (.int ((2 ^ m : Nat) : Int)), some (.int (st : Int)), some (.int (bd : Int)), some (.ref l), some (.ref p), some (.int y4), some (.int (h : Int)), none, none, none, none, none, none]) ?_ ?_
  rotate_left
  · intro Kn hK
    walk_at "rd"
    refine i_ifd (fun h2 => ?_) (fun h2 => ?_)
    · walk_at "rd"
      rw [shl_nat]
      obtain ⟨u, hu⟩ : ∃ u : Nat, ((2 ^ 2 ^ m : Nat) : Int) - 1 = (u : Int) := ⟨2 ^ 2 ^ m - 1, by omega⟩
      rw [hu]
      walk_at "rd"
      rw [hx]
      walk_at "rd"
      rw [shl_nat, andnot_nat, or_nat]
      exact hK _ _ ⟨rfl, _, rfl⟩
    · walk_at "rd"
      exact hK _ _ ⟨rfl, _, rfl⟩
  rintro σ _ ⟨rfl, held1, rfl⟩
  refine i_join (fun σ H' => H3 = H' ∧ ∃ (h : Nat) (v : Option V), σ = [some (.ref sc), some (.int y0), some (.int (m : Int)), some (.int ((2 ^ m : Nat) : Int)), some (.int (st : Int)), some (.int (bd : Int)), some (.ref l), some (.ref p), some (.int y4), some (.int (h : Int)), v, none, none, none, none, none]) ?_ ?_
  rotate_left
  · intro Kn hK
    walk_at "rd"
    refine i_ifd (fun h3 => ?_) (fun h3 => ?_)
    · walk_at "rd"
      refine ⟨_, rfl, by omega, by omega, ?_⟩
      rw [Int.toNat_natCast]
      refine loopR0 (n := 2 ^ m) (fun j σ H' => H3 = H' ∧ ∃ (h : Nat) (v : Option V), σ = [some (.ref sc), some (.int y0), some (.int (m : Int)), some (.int ((2 ^ m : Nat) : Int)), some (.int (st : Int)), some (.int (bd : Int)), some (.ref l), some (.ref p), some (.int y4), some (.int (h : Int)), v, none, none, none, none, none]) ⟨rfl, _, _, rfl⟩ ?_ ?_
      · rintro j σ _ hj ⟨rfl, h, v, rfl⟩
        walk_at "rd"
        rw [lit_eq]
        refine i_ifb (fun h5 => ?_) (fun h5 => ?_)
        · walk_at "rd"
          refine i_ifb (fun h6 => ?_) (fun h6 => ?_)
          · walk_at "rd"
            refine i_ixL f3 (get_nums (by omega)) ?_
            walk_at "rd"
            rw [or_nat]
            exact ⟨rfl, _, _, rfl⟩
          · walk_at "rd"
            exact ⟨rfl, _, _, rfl⟩
        · refine i_ifF rfl ?_
          walk_at "rd"
          exact ⟨rfl, _, _, rfl⟩
      rintro σ _ ⟨rfl, held, v, rfl⟩
      exact hK _ _ ⟨rfl, held, v, rfl⟩
    · walk_at "rd"
      exact hK _ _ ⟨rfl, held1, none, rfl⟩
  rintro σ _ ⟨rfl, held, v, rfl⟩
  refine i_seq ?_
  walk_at "rs"
  rw [hz]
  obtain ⟨u1, hu1⟩ : ∃ u : Nat, ((2 ^ m : Nat) : Int) - 1 = (u : Int) ∧ u = 2 ^ m - 1 := ⟨2 ^ m - 1, by omega, rfl⟩
  rw [hu1.1]
  refine j_tup (Nat.le_of_ble_eq_true rfl) fun pb0 H4 s4 n4 e4 => ?_
  have g4 : Bar.good (u1, z) := by rw [hu1.2]; exact good_one hm6 lz
  have k4 : BarAt H4 pb0 (u1, z) := e4
  walk_at "rs"
  refine i_join (fun σ H5 => Same H3 H5 ∧ ∃ (pb : Addr) (b : Bar), BarAt H5 pb b ∧ b.good ∧ σ = [some (.ref sc), some (.int y0), some (.int (m : Int)), some (.int ((2 ^ m : Nat) : Int)), some (.int (st : Int)), some (.int (bd : Int)), some (.ref l), some (.ref p), some (.int y4), some (.int (held : Int)), v, some (.ref pb), none, none, none, none]) ?_ ?_
  rotate_left
  · intro Kn hK
    walk_at "rd"
    refine i_ifd (fun h5 => ?_) (fun h5 => ?_)
    · walk_at "rd"
      rw [hx]
      walk_at "rd"
      rw [hz]
      walk_at "rd"
      rw [and_nat]
      refine j_tup (Nat.le_of_ble_eq_true rfl) fun pb H5 s5 n5 e5 => ?_
      have g5 : Bar.good (x, z &&& x) := by rw [Nat.and_comm]; exact good_and hm6 lx
      walk_at "rd"
      exact hK _ _ ⟨s4.trans s5, pb, (x, z &&& x), e5, g5, rfl⟩
    · walk_at "rd"
      exact hK _ _ ⟨s4, pb0, (u1, z), k4, g4, rfl⟩
  rintro σ H5 ⟨sB, pb, b, hb, hg, rfl⟩
  walk_at "rd"
  refine i_ixT hb (v := .int (b.1 : Int)) rfl ?_
  walk_at "rd"
  refine i_ixT hb (v := .int (b.2 : Int)) rfl ?_
  walk_at "rd"
  refine ⟨l, st, held, 2 ^ m, af, b, rfl, sB _ _ f3, hl, hp, hg, ?_⟩
  walk_at "rd"
  refine i_ifb (fun h6 => ?_) (fun h6 => ?_)
  · have hmay : mayN af st held b (2 ^ m) = false := by simpa using h6
    walk_at "rd"
    refine ⟨p, pb, m, st, bd, held, af, b, rfl, hC.mono (Ext.of sB), hG, hb, hg, hmay, fun H6 s6 => ?_⟩
    walk_at "rd"
    refine i_ifT rfl ?_
    walk_at "rd"
    refine ⟨p, pb, m, st, bd, held, af, b, rfl, hC.mono (Ext.of (sB.trans s6)), hG, s6 _ _ hb, hg, hmay, fun H7 s7 => ?_⟩
    exact q _
  · have hmay : mayN af st held b (2 ^ m) = true := by simpa using h6
    walk_at "rd"
    refine ⟨p, pb, m, st, bd, held, af, b, rfl, hC.mono (Ext.of sB), hG, hb, hg, (fun y => by rw [hmay] at y; cases y), fun _ H6 pf f s6 hf hgf hL hm2 hw => ?_⟩
    have tf : H6 pf = some (.tup [.int (f.1 : Int), .int (f.2 : Int)]) := hf
    have hb6 := s6 _ _ hb
    have f6 := s6 _ _ (sB _ _ f3)
    walk_at "rd"
    refine i_ifF rfl ?_
    walk_at "rd"
    refine i_ifF rfl ?_
    walk_at "rd"
    refine i_ixT tf (v := .int (f.1 : Int)) rfl ?_
    walk_at "rd"
    refine ⟨_, rfl, ?_⟩
    walk_at "rd"
    refine i_ifF rfl ?_
    walk_at "rd"
    refine i_ixT tf (v := .int (f.2 : Int)) rfl ?_
    walk_at "rd"
    refine ⟨_, rfl, ?_⟩
    walk_at "rd"
    refine i_ifF rfl ?_
    walk_at "rd"
    refine i_ixT tf (v := .int (f.1 : Int)) rfl ?_
    walk_at "rd"
    refine i_ixT hb6 (v := .int (b.1 : Int)) rfl ?_
    walk_at "rd"
    rw [andnot_nat, less_none hL]
    refine i_ifF rfl ?_
    walk_at "rd"
    refine i_ixT tf (v := .int (f.2 : Int)) rfl ?_
    walk_at "rd"
    refine i_ixT hb6 (v := .int (b.2 : Int)) rfl ?_
    walk_at "rd"
    rw [and_nat, ← hL.2]
    refine i_ifF (by simp) ?_
    walk_at "rd"
    refine i_ixT tf (v := .int (f.2 : Int)) rfl ?_
    walk_at "rd"
    refine ⟨l, st, held, 2 ^ m, af, f, rfl, f6, hl, hp, hgf, ?_⟩
    rw [hm2]
    walk_at "rd"
    refine i_ifF rfl ?_
    walk_at "rd"
    refine ⟨_, rfl, by omega, by omega, ?_⟩
    rw [Int.toNat_natCast]
    refine loopR0 (n := m) (fun j σ H' => H' = H6 ∧ ∃ (v0 v1 v2 : Option V), σ = [some (.ref sc), some (.int y0), some (.int (m : Int)), some (.int ((2 ^ m : Nat) : Int)), some (.int (st : Int)), some (.int (bd : Int)), some (.ref l), some (.ref p), some (.int y4), some (.int (held : Int)), v0, some (.ref pb), some (.ref pf), some (.int (f.1 : Int)), v1, v2]) ⟨rfl, _, _, _, rfl⟩ ?_ ?_
    · rintro j σ H7 hj ⟨rfl, v0, v1, v2, rfl⟩
      walk_at "rd"
      rw [shl_nat, andnot_nat]
      refine i_ifb (fun h7 => ?_) (fun h7 => ?_)
      · walk_at "rd"
        refine i_ixT hb6 (v := .int (b.2 : Int)) rfl ?_
        walk_at "rd"
        rw [and_nat]
        refine ⟨l, st, held, 2 ^ m, af, f.wo j, by rw [(less_wo hL j).2]; rfl, f6, hl, hp, wo_good hgf j, ?_⟩
        rw [hw j (wo_bit h7)]
        walk_at "rd"
        exact ⟨rfl, _, _, _, rfl⟩
      · refine i_ifF rfl ?_
        walk_at "rd"
        exact ⟨rfl, _, _, _, rfl⟩
    rintro σ H7 ⟨rfl, v0, v1, v2, rfl⟩
    walk_at "rd"
    exact q _
end

end LW
open PySem PySem.W PyProof.Rows
set_option maxRecDepth 100000 in
set_option maxHeartbeats 0 in
theorem PySem.Challenge.cw_evernever_k28_widened_holds : PySem.Challenge.rw_evernever_k28_widened.Holds := by
  w_on; o_law; k_head; (case hw => w_witness2)
  k_fill
  refine L2.walk_ofK (l := PySem.Challenge.rw_evernever_k28_widened) (n := 63) (k := 12) (x := "_law_script") (CX := L2.CX0) (sp := LW.spLaw) rfl (by decide) rfl ⟨rfl, by decide, by decide⟩ (fun w h Y => PySem.W.kIn_of Y) ?F ?S ?C
  case F =>
    intro w mg fa h KX G hmg
    have T : ∃ t, LW.Txt (L2.KOf KX) mg t := by
      dsimp only [L2.KOf]
      refine' LW.txt_mk KX G ?a_all_stands ?a_crowd_of ?a_asked_by ?a_without ?a_may_shut ?a_without_one_lamp ?a_widened ?a_is_whole ?a_is_crowd ?a_is_chart ?a__law_cell_at ?a__law_crowd_by ?a__law_step_in ?a__law_after_by ?a__law_may ?a__law_whole ?a__law_refused ?a__law_refused_by_any ?a_law ?a_Chart ?a_NotShut ?a_EverError ?a_NoBar ?a_NoChart ?a_NoFence ?a_NoFormula ?a_NoFrame ?a_NoLine ?a_NoMachine ?a_NoName ?a_NoStep ?a_NothingLeft ?a_TooMany ?ic_NotShut ?ty_NotShut ?mb_NotShut ?ic_EverError ?ty_EverError ?mb_EverError ?ic_NoBar ?ty_NoBar ?mb_NoBar ?ic_NoChart ?ty_NoChart ?mb_NoChart ?ic_NoFence ?ty_NoFence ?mb_NoFence ?ic_NoFormula ?ty_NoFormula ?mb_NoFormula ?ic_NoFrame ?ty_NoFrame ?mb_NoFrame ?ic_NoLine ?ty_NoLine ?mb_NoLine ?ic_NoMachine ?ty_NoMachine ?mb_NoMachine ?ic_NoName ?ty_NoName ?mb_NoName ?ic_NoStep ?ty_NoStep ?mb_NoStep ?ic_NothingLeft ?ty_NothingLeft ?mb_NothingLeft ?ic_TooMany ?ty_TooMany ?mb_TooMany ?xo_NotShut ?xg_NotShut ?xh_NotShut ?xc_NotShut ?xm_NotShut ?xv_NotShut ?xs_NotShut_NotShut ?xs_NotShut_EverError ?xs_NotShut_NoBar ?xs_NotShut_NoChart ?xs_NotShut_NoFence ?xs_NotShut_NoFormula ?xs_NotShut_NoFrame ?xs_NotShut_NoLine ?xs_NotShut_NoMachine ?xs_NotShut_NoName ?xs_NotShut_NoStep ?xs_NotShut_NothingLeft ?xs_NotShut_TooMany ?b_ValueError ?ne_ ?e_Chart_init ?e_Chart_behind ?l_all_stands ?c_all_stands ?k_all_stands ?l_crowd_of ?c_crowd_of ?k_crowd_of ?l_asked_by ?c_asked_by ?k_asked_by ?l_without ?c_without ?k_without ?l_may_shut ?c_may_shut ?k_may_shut ?l_without_one_lamp ?c_without_one_lamp ?k_without_one_lamp ?l_widened ?c_widened ?k_widened ?l_is_whole ?c_is_whole ?k_is_whole ?l_is_crowd ?c_is_crowd ?k_is_crowd ?l_is_chart ?c_is_chart ?k_is_chart ?l__law_cell_at ?c__law_cell_at ?k__law_cell_at ?l__law_crowd_by ?c__law_crowd_by ?k__law_crowd_by ?l__law_step_in ?c__law_step_in ?k__law_step_in ?l__law_after_by ?c__law_after_by ?k__law_after_by ?l__law_may ?c__law_may ?k__law_may ?l__law_whole ?c__law_whole ?k__law_whole ?l__law_refused ?c__law_refused ?k__law_refused ?l__law_refused_by_any ?c__law_refused_by_any ?k__law_refused_by_any ?l_law ?c_law ?k_law ?l_Chart_init ?c_Chart_init ?k_Chart_init ?i_Chart_init ?l_Chart_behind ?c_Chart_behind ?k_Chart_behind ?i_Chart_behind ?pg_Chart ?hd_Chart ?po_Chart ?sa_Chart ?kc_Chart ?ha_Chart ?hm_Chart ?mk_Chart ?n_Chart_many ?n_Chart_starts ?n_Chart_bads ?n_Chart_after ?hn_ ?htk_ ?b_len ?b_range ?b_isinstance ?b_int ?b_bool ?b_str ?b_list ?b_tuple ?b_dict ?b_set ?b_sorted ?b_max ?b_min ?b_sum ?b_any ?b_all ?b_abs ?b_reversed ?b_enumerate ?b_zip
      (case a_all_stands => k_is)
      (case a_crowd_of => k_is)
      (case a_asked_by => k_is)
      (case a_without => k_is)
      (case a_may_shut => k_is)
      (case a_without_one_lamp => k_is)
      (case a_widened => k_is)
      (case a_is_whole => k_is)
      (case a_is_crowd => k_is)
      (case a_is_chart => k_is)
      (case a__law_cell_at => k_is)
      (case a__law_crowd_by => k_is)
      (case a__law_step_in => k_is)
      (case a__law_after_by => k_is)
      (case a__law_may => k_is)
      (case a__law_whole => k_is)
      (case a__law_refused => k_is)
      (case a__law_refused_by_any => k_is)
      (case a_law => k_is)
      (case a_Chart => k_is)
      (case a_NotShut => k_is)
      (case a_EverError => k_is)
      (case a_NoBar => k_is)
      (case a_NoChart => k_is)
      (case a_NoFence => k_is)
      (case a_NoFormula => k_is)
      (case a_NoFrame => k_is)
      (case a_NoLine => k_is)
      (case a_NoMachine => k_is)
      (case a_NoName => k_is)
      (case a_NoStep => k_is)
      (case a_NothingLeft => k_is)
      (case a_TooMany => k_is)
      (case ic_NotShut => k_is)
      (case ty_NotShut => k_is)
      (case mb_NotShut => k_is)
      (case ic_EverError => k_is)
      (case ty_EverError => k_is)
      (case mb_EverError => k_is)
      (case ic_NoBar => k_is)
      (case ty_NoBar => k_is)
      (case mb_NoBar => k_is)
      (case ic_NoChart => k_is)
      (case ty_NoChart => k_is)
      (case mb_NoChart => k_is)
      (case ic_NoFence => k_is)
      (case ty_NoFence => k_is)
      (case mb_NoFence => k_is)
      (case ic_NoFormula => k_is)
      (case ty_NoFormula => k_is)
      (case mb_NoFormula => k_is)
      (case ic_NoFrame => k_is)
      (case ty_NoFrame => k_is)
      (case mb_NoFrame => k_is)
      (case ic_NoLine => k_is)
      (case ty_NoLine => k_is)
      (case mb_NoLine => k_is)
      (case ic_NoMachine => k_is)
      (case ty_NoMachine => k_is)
      (case mb_NoMachine => k_is)
      (case ic_NoName => k_is)
      (case ty_NoName => k_is)
      (case mb_NoName => k_is)
      (case ic_NoStep => k_is)
      (case ty_NoStep => k_is)
      (case mb_NoStep => k_is)
      (case ic_NothingLeft => k_is)
      (case ty_NothingLeft => k_is)
      (case mb_NothingLeft => k_is)
      (case ic_TooMany => k_is)
      (case ty_TooMany => k_is)
      (case mb_TooMany => k_is)
      (case xo_NotShut => k_exc)
      (case xg_NotShut => k_is)
      (case xh_NotShut => k_is)
      (case xc_NotShut => k_is)
      (case xm_NotShut => k_is)
      (case xv_NotShut => k_is)
      (case xs_NotShut_NotShut => k_is)
      (case xs_NotShut_EverError => k_is)
      (case xs_NotShut_NoBar => k_is)
      (case xs_NotShut_NoChart => k_is)
      (case xs_NotShut_NoFence => k_is)
      (case xs_NotShut_NoFormula => k_is)
      (case xs_NotShut_NoFrame => k_is)
      (case xs_NotShut_NoLine => k_is)
      (case xs_NotShut_NoMachine => k_is)
      (case xs_NotShut_NoName => k_is)
      (case xs_NotShut_NoStep => k_is)
      (case xs_NotShut_NothingLeft => k_is)
      (case xs_NotShut_TooMany => k_is)
      (case b_ValueError => k_is)
      (case ne_ => decide)
      (case e_Chart_init => k_is)
      (case e_Chart_behind => k_is)
      (case l_all_stands => k_is)
      (case c_all_stands => k_is)
      (case k_all_stands => k_is)
      (case l_crowd_of => k_is)
      (case c_crowd_of => k_is)
      (case k_crowd_of => k_is)
      (case l_asked_by => k_is)
      (case c_asked_by => k_is)
      (case k_asked_by => k_is)
      (case l_without => k_is)
      (case c_without => k_is)
      (case k_without => k_is)
      (case l_may_shut => k_is)
      (case c_may_shut => k_is)
      (case k_may_shut => k_is)
      (case l_without_one_lamp => k_is)
      (case c_without_one_lamp => k_is)
      (case k_without_one_lamp => k_is)
      (case l_widened => k_is)
      (case c_widened => k_is)
      (case k_widened => k_is)
      (case l_is_whole => k_is)
      (case c_is_whole => k_is)
      (case k_is_whole => k_is)
      (case l_is_crowd => k_is)
      (case c_is_crowd => k_is)
      (case k_is_crowd => k_is)
      (case l_is_chart => k_is)
      (case c_is_chart => k_is)
      (case k_is_chart => k_is)
      (case l__law_cell_at => k_is)
      (case c__law_cell_at => k_is)
      (case k__law_cell_at => k_is)
      (case l__law_crowd_by => k_is)
      (case c__law_crowd_by => k_is)
      (case k__law_crowd_by => k_is)
      (case l__law_step_in => k_is)
      (case c__law_step_in => k_is)
      (case k__law_step_in => k_is)
      (case l__law_after_by => k_is)
      (case c__law_after_by => k_is)
      (case k__law_after_by => k_is)
      (case l__law_may => k_is)
      (case c__law_may => k_is)
      (case k__law_may => k_is)
      (case l__law_whole => k_is)
      (case c__law_whole => k_is)
      (case k__law_whole => k_is)
      (case l__law_refused => k_is)
      (case c__law_refused => k_is)
      (case k__law_refused => k_is)
      (case l__law_refused_by_any => k_is)
      (case c__law_refused_by_any => k_is)
      (case k__law_refused_by_any => k_is)
      (case l_law => k_is)
      (case c_law => k_is)
      (case k_law => k_is)
      (case l_Chart_init => k_is)
      (case c_Chart_init => k_is)
      (case k_Chart_init => k_is)
      (case i_Chart_init => k_is)
      (case l_Chart_behind => k_is)
      (case c_Chart_behind => k_is)
      (case k_Chart_behind => k_is)
      (case i_Chart_behind => k_is)
      (case pg_Chart => k_is)
      (case hd_Chart => k_is)
      (case po_Chart => k_is)
      (case sa_Chart => k_is)
      (case kc_Chart => k_is)
      (case ha_Chart => k_is)
      (case hm_Chart => k_is)
      (case mk_Chart => k_is)
      (case n_Chart_many => k_is)
      (case n_Chart_starts => k_is)
      (case n_Chart_bads => k_is)
      (case n_Chart_after => k_is)
      (case hn_ => k_is)
      (case htk_ => k_is)
      (case b_len => k_is)
      (case b_range => k_is)
      (case b_isinstance => k_is)
      (case b_int => k_is)
      (case b_bool => k_is)
      (case b_str => k_is)
      (case b_list => k_is)
      (case b_tuple => k_is)
      (case b_dict => k_is)
      (case b_set => k_is)
      (case b_sorted => k_is)
      (case b_max => k_is)
      (case b_min => k_is)
      (case b_sum => k_is)
      (case b_any => k_is)
      (case b_all => k_is)
      (case b_abs => k_is)
      (case b_reversed => k_is)
      (case b_enumerate => k_is)
      (case b_zip => k_is)
    obtain ⟨t, T⟩ := T
    have e0 := hmg.symm.trans T.m_law
    cases e0
    exact ⟨_, T.bl, fun base _ _ => LW.ok_law T⟩
  case S => exact fun K H a ns hl hO hS => ⟨a, ns, rfl, hS, hl, hO, fun _ => rfl⟩
  case C => exact fun _ _ _ _ z => z
#print axioms PySem.Challenge.cw_evernever_k28_widened_holds

