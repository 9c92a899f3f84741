import PyProof.Rows.All
import Wide.All
import OpenK.AllK
import Wide.FinOn
import Lean
import PyProof.EqAt
import PyProof.EqKinds
import PyProof.TupleCall
import PyProof.P3Eq
import PyProof.NeKinds
import KE.KRevIter
import PyProof.EnumMake
import PyProof.EnumFor
import PyProof.Draws
import PyProof.ZipIter
import PyProof.ConsumeWalk
import PyProof.RaisesMany
import PyProof.ExcClass3
import PyProof.ExcBaseAll.ValueError
import PyProof.RulesAs
import PyProof.ExcAttrAll.ValueError
import PyProof.ReprStr
import PyProof.PassesOwn
import PyProof.ToksMono
import PyProof.DictItems
import PyProof.MeetsIn
import PyProof.StrCalls6
import PyProof.StrCalls2
import PyProof.StrBlock2
import PyProof.StrLawsWords
import PyProof.StrLawsTight
import PyProof.StrLawsChain
import PyProof.ListRange
import PySem.Challenge.RW_evernever_k14_a_move
set_option Elab.async false
set_option linter.all false
set_option maxRecDepth 100000
set_option maxHeartbeats 4000000
set_option maxRecDepth 100000
namespace L2
open PySem PySem.Spec PyProof.Rows

/-- a key: an int or a str -/
abbrev Key := Sum Int Str
def keyIs : Key → Value → Bool
  | .inl k, v => Value.isInt k v
  | .inr x, v => Value.isStrOf x v
def keyH (w : World) : Key → Int
  | .inl k => hashInt k
  | .inr x => hashStr w x
theorem keyIs_shape : ∀ {k : Key} {v : Value}, keyIs k v = true → (∃ i t, k = Sum.inl i ∧ v = Value.int i t) ∨ (∃ x t, k = Sum.inr x ∧ v = Value.str x t)
  | .inl i, v, h => by
    obtain ⟨t, e⟩ := Value.isInt_shape (k := i) (v := v) h
    exact .inl ⟨i, t, rfl, e⟩
  | .inr x, v, h => by
    obtain ⟨t, e⟩ := Value.isStrOf_shape (x := x) (v := v) h
    exact .inr ⟨x, t, rfl, e⟩
theorem key_ll (a b : Int) : decide ((Sum.inl a : Key) = Sum.inl b) = (a == b) := by
  by_cases e : a = b
  · subst e; simp
  · have h : ¬ (Sum.inl a : Key) = Sum.inl b := fun q => e (Sum.inl.inj q)
    rw [decide_eq_false h]
    exact (beq_eq_false_iff_ne.mpr e).symm
theorem key_rr (a b : Str) : decide ((Sum.inr a : Key) = Sum.inr b) = decide (a = b) := by
  by_cases e : a = b
  · subst e; simp
  · have h : ¬ (Sum.inr a : Key) = Sum.inr b := fun q => e (Sum.inr.inj q)
    rw [decide_eq_false h, decide_eq_false e]
theorem key_lr (a : Int) (b : Str) : decide ((Sum.inl a : Key) = Sum.inr b) = false := decide_eq_false (fun q => nomatch q)
theorem key_rl (a : Str) (b : Int) : decide ((Sum.inr a : Key) = Sum.inl b) = false := decide_eq_false (fun q => nomatch q)

def mixKind (prog : Program) (w : World) : PySem.KeyKind prog w Key where
  is := keyIs
  hash := keyH w
  inj := fun v a b ha hb => by
    rcases keyIs_shape ha with ⟨i, t, rfl, rfl⟩ | ⟨x, t, rfl, rfl⟩
    · rcases keyIs_shape hb with ⟨j, u, rfl, e⟩ | ⟨y, u, rfl, e⟩
      · injection e with e1 _; rw [e1]
      · exact nomatch e
    · rcases keyIs_shape hb with ⟨j, u, rfl, e⟩ | ⟨y, u, rfl, e⟩
      · exact nomatch e
      · injection e with e1 _; rw [e1]
  byValue := fun k v h => by
    rcases keyIs_shape h with ⟨i, t, rfl, rfl⟩ | ⟨x, t, rfl, rfl⟩ <;> rfl
  pyHash := fun hv h => by
    rcases keyIs_shape hv with ⟨i, t, rfl, rfl⟩ | ⟨x, t, rfl, rfl⟩
    · exact wpAny_pyHash_int h
    · exact wpAny_pyHash_str h
  eqBool := fun hu hv h => by
    rcases keyIs_shape hu with ⟨i, t, rfl, rfl⟩ | ⟨x, t, rfl, rfl⟩
    · rcases keyIs_shape hv with ⟨j, u, rfl, rfl⟩ | ⟨y, u, rfl, rfl⟩
      · rw [key_ll] at h; exact wpAny_eqBool_int h
      · rw [key_lr] at h; exact SeqAt.EqAt.int_str i t y u _ _ _ _ h
    · rcases keyIs_shape hv with ⟨j, u, rfl, rfl⟩ | ⟨y, u, rfl, rfl⟩
      · rw [key_rl] at h; exact SeqAt.EqAt.str_int x t j u _ _ _ _ h
      · rw [key_rr] at h; exact wpAny_eqBool_str h
  «strs» := fun k x t v h => by
    rcases keyIs_shape h with ⟨i, u, rfl, e⟩ | ⟨y, u, rfl, e⟩
    · exact nomatch e
    · injection e with e1 _
      subst e1
      cases v <;> rfl

end L2

namespace L2
open PySem PySem.Spec PyProof.Rows

/-- a value, without the heap -/
inductive V where
  | non | bl (b : Bool) | int (i : Int) | str (x : Str) | byt (b : Array UInt8) | flt (b : UInt64) | ref (a : Addr) | ty (n : String)
  deriving DecidableEq

def RelV : V → Value → Prop
  | .non, u => u = Value.none
  | .bl b, u => u = Value.bool b
  | .int i, u => ∃ t, u = Value.int i t
  | .str x, u => ∃ t, u = Value.str x t
  | .byt b, u => ∃ t, u = Value.bytes b t
  | .flt b, u => ∃ t, u = Value.float b t
  | .ref a, u => u = Value.ref a
  | .ty n, u => u = Value.type n

abbrev Vals : List V → List Value → Prop := Paired RelV
theorem Vals.length {xs : List V} {us : List Value} (r : Vals xs us) : xs.length = us.length := Paired.length r
theorem Vals.get : ∀ {xs : List V} {us : List Value} {i : Nat} {x : V}, Vals xs us → xs[i]? = some x → ∃ u, us[i]? = some u ∧ RelV x u
  | _, _, _, _, .nil, e => by simp at e
  | _, _, 0, _, .cons r _, e => by simp at e; subst e; exact ⟨_, rfl, r⟩
  | _, _, i + 1, x, .cons _ t, e => by
    obtain ⟨u, h1, h2⟩ := Vals.get (i := i) (x := x) t (by simpa using e)
    exact ⟨u, by simpa using h1, h2⟩
theorem Vals.append : ∀ {xs ys : List V} {us ws : List Value}, Vals xs us → Vals ys ws → Vals (xs ++ ys) (us ++ ws)
  | _, _, _, _, .nil, s => s
  | _, _, _, _, .cons r t, s => .cons r (Vals.append t s)
theorem Vals.take : ∀ {xs : List V} {us : List Value} (n : Nat), Vals xs us → Vals (xs.take n) (us.take n)
  | _, _, 0, _ => .nil
  | _, _, _ + 1, .nil => .nil
  | _, _, n + 1, .cons r t => .cons r (Vals.take n t)
theorem Vals.drop : ∀ {xs : List V} {us : List Value} (n : Nat), Vals xs us → Vals (xs.drop n) (us.drop n)
  | _, _, 0, r => r
  | _, _, _ + 1, .nil => .nil
  | _, _, n + 1, .cons _ t => Vals.drop n t
def RelO : Option V → Option Value → Prop
  | some v, some u => RelV v u
  | none, none => True
  | _, _ => False
def KV {κ : Type} : List (κ × V) → List (κ × Value) → Prop := Paired fun (p : κ × V) (q : κ × Value) => p.1 = q.1 ∧ RelV p.2 q.2

/-- a key of a dict (00_mix): an int or a text -/
def kV : Key → V
  | .inl i => .int i
  | .inr x => .str x

/-- what stands at a tracked address -/
inductive HO where
  /-- a list -/
  | lst (xs : List V)
  /-- a tuple (never changes) -/
  | tup (xs : List V)
  /-- a dict whose keys are ints and texts; one whose keys are tuples of ints and texts (the empty one is both) -/
  | dK (kvs : List (Key × V)) | dT (kvs : List (List Key × V))
  /-- a set of ints: its members, its size -/
  | set (S : Int → Bool) (n : Nat)
  /-- an instance of the class at C, its dict at dx, its attributes -/
  | ins (C dx : Addr) (fs : List (Str × V))
  /-- the dict of the instance at x -/
  | own (x : Addr)
  /-- the dict of an exception -/
  | xd (fs : List (Str × V))
  /-- a bound method, f of x -/
  | met (f x : Addr)
  /-- a range object lo, lo + 1, .. below hi -/
  | rng (lo hi : Int)
  /-- a thing that is known to the object (the script; a dict while a loop walks it): read, never written while it is so -/
  | frz (o : Obj) (u : HO)
  /-- a code object's table -/
  | tbl (ps : Array Value)
  /-- any other thing, by what is true of its one object (a def of one's own: SetO a S n := HO.ext fun h => ..) -/
  | ext (φ : Heap → Prop)

abbrev Hp := Addr → Option HO
def upd (H : Hp) (a : Addr) (o : HO) : Hp := fun b => if b = a then some o else H b
theorem upd_same {H : Hp} {a : Addr} {o : HO} : upd H a o a = some o := by unfold upd; rw [if_pos rfl]
theorem upd_ne {H : Hp} {a b : Addr} {o : HO} (h : b ≠ a) : upd H a o b = H b := by unfold upd; rw [if_neg h]
theorem upd_upd {H : Hp} {a : Addr} {o u : HO} : upd (upd H a o) a u = upd H a u := by
  funext b; unfold upd; split <;> rfl
/-- two objects of different content stand apart -/
theorem ne_of {H : Hp} {a b : Addr} {o u : HO} (h : H a = some o) (h' : H b = some u) (d : o ≠ u) : a ≠ b := by
  intro e; subst e; rw [h] at h'; exact d (Option.some.inj h')
theorem ne_of_none {H : Hp} {a b : Addr} {o : HO} (h : H a = some o) (h' : H b = none) : a ≠ b := by
  intro e; subst e; rw [h] at h'; cases h'

section
variable (P : Program) (w : World)
def ObjOk (H : Hp) (h : Heap) (a : Addr) : HO → Prop
  | .lst xs => xs.length ≤ sizeLine ∧ ∃ (its : List Value) (n : Nat), Vals xs its ∧ h.get? a = some { cls := .type "list", data := .seq its.toArray n }
  | .tup xs => xs.length ≤ sizeLine ∧ ∃ its : List Value, Vals xs its ∧ IsTup h a its.toArray
  | .dK kvs => kvs.length ≤ sizeLine ∧ (a == sysModules) = false ∧ ∃ vs, KV kvs vs ∧ h.DictOf (mixKind P w) a vs
  | .dT kvs => kvs.length ≤ sizeLine ∧ (a == sysModules) = false ∧ ∃ xs : List (List Key × Addr × Value),
      Paired (fun (p : List Key × V) (q : List Key × Addr × Value) => p.1 = q.1 ∧ H q.2.1 = some (.tup (p.1.map kV)) ∧ RelV p.2 q.2.2) kvs xs ∧
      ∃ o es ep, h.get? a = some o ∧ o.ExactDict ∧ o.data = .dict es ep ∧ es.toList = xs.map (entryOfKey (tupleKind (mixKind P w))) ∧ (xs.map (·.1)).Nodup
  | .set S n => h.SetOf (intKind P w) a S n
  | .ins C dx fs => H dx = some (.own a) ∧ fs.length ≤ 1000 ∧ dx ≠ a ∧ h.get? a = some (PySem.W.instObj C dx) ∧
      ∃ mA, h.Ns1 dx mA ∧ (∀ f, RelO (fs.lookup f) (mA f)) ∧ PySem.Within mA (fs.map (·.1))
  | .own _ => ∃ o, h.get? a = some o
  | .xd fs => ∃ mA, h.Ns1 a mA ∧ ∀ f, RelO (fs.lookup f) (mA f)
  | .rng lo hi => ∃ t u v, h.get? a = some { cls := .type "range", data := .fields #[.int lo t, .int hi u, .int 1 v] }
  | .frz o u => h.get? a = some o ∧ ObjOk H h a u
  | .tbl ps => h.get? a = some { cls := .none, data := .fields ps }
  | .met f x => h.get? a = some (PySem.W.methodObj (.ref f) (.ref x))
  | .ext φ => φ h ∧ (∃ o, h.get? a = some o) ∧ ∀ h1 h2 : Heap, φ h1 → (∀ o, h1.get? a = some o → h2.get? a = some o) → φ h2
/-- the abstract heap is held -/
def HOk (H : Hp) (h : Heap) : Prop := ∀ a o, H a = some o → ObjOk P w H h a o
end

section
variable {P : Program} {w : World} {H H' : Hp} {h h' : Heap} {a : Addr} {o : HO}
theorem ObjOk.lt (x : ObjOk P w H h a o) : a < h.objs.size := by
  cases o with
  | lst xs => obtain ⟨_, _, _, _, e⟩ := x; exact Heap.lt_size e
  | tup xs => obtain ⟨_, _, _, p⟩ := x; exact p.lt
  | dK kvs => obtain ⟨_, _, _, _, o, _, _, e, _⟩ := x; exact Heap.lt_size e
  | dT kvs => obtain ⟨_, _, _, _, o, _, _, e, _⟩ := x; exact Heap.lt_size e
  | set S n => obtain ⟨o, _, _, _, e, _⟩ := x; exact Heap.lt_size e
  | ins C dx fs => obtain ⟨_, _, _, e, _⟩ := x; exact Heap.lt_size e
  | own y => obtain ⟨_, e⟩ := x; exact Heap.lt_size e
  | xd fs => obtain ⟨_, ⟨_, _, _, e, _⟩, _⟩ := x; exact Heap.lt_size e
  | rng lo hi => obtain ⟨_, _, _, e⟩ := x; exact Heap.lt_size e
  | frz ob u => obtain ⟨e, _⟩ := x; exact Heap.lt_size e
  | tbl ps => exact Heap.lt_size (show h.get? a = some _ from x)
  | met f y => exact Heap.lt_size (show h.get? a = some _ from x)
  | ext φ => obtain ⟨_, ⟨_, e⟩, _⟩ := x; exact Heap.lt_size e
theorem Paired.mapP {α β : Type} {F G : α → β → Prop} : ∀ {l₁ : List α} {l₂ : List β}, Paired F l₁ l₂ → (∀ a b, F a b → G a b) → Paired G l₁ l₂
  | _, _, .nil, _ => .nil
  | _, _, .cons r t, f => .cons (f _ _ r) (Paired.mapP t f)
/-- what an object's description leans on: its own object, its own dict, the tuples -/
theorem ObjOk.stay (x : ObjOk P w H h a o) (k : ∀ b u, (b = a ∨ H b = some (.own a)) → h.get? b = some u → h'.get? b = some u)
    (ho : ∀ b, H b = some (.own a) → H' b = some (.own a)) (ht : ∀ b xs, H b = some (.tup xs) → H' b = some (.tup xs)) : ObjOk P w H' h' a o := by
  induction o with
  | lst xs => obtain ⟨z, its, n, r, e⟩ := x; exact ⟨z, its, n, r, k _ _ (.inl rfl) e⟩
  | tup xs => obtain ⟨z, its, r, ob, e, c⟩ := x; exact ⟨z, its, r, ob, k _ _ (.inl rfl) e, c⟩
  | dK kvs => obtain ⟨z, y, vs, r, ob, es, ep, e, c⟩ := x; exact ⟨z, y, vs, r, ob, es, ep, k _ _ (.inl rfl) e, c⟩
  | dT kvs =>
    obtain ⟨z, y, xs, r, ob, es, ep, e, c⟩ := x
    exact ⟨z, y, xs, Paired.mapP r fun p q z => ⟨z.1, ht _ _ z.2.1, z.2.2⟩, ob, es, ep, k _ _ (.inl rfl) e, c⟩
  | set S n => obtain ⟨ob, es, ep, t, e, c⟩ := x; exact ⟨ob, es, ep, t, k _ _ (.inl rfl) e, c⟩
  | ins C dx fs =>
    obtain ⟨d, z, ne, e, mA, ⟨od, es, ep, e2, c⟩, r⟩ := x
    exact ⟨ho _ d, z, ne, k _ _ (.inl rfl) e, mA, ⟨od, es, ep, k _ _ (.inr d) e2, c⟩, r⟩
  | own y => obtain ⟨ob, e⟩ := x; exact ⟨ob, k _ _ (.inl rfl) e⟩
  | xd fs => obtain ⟨mA, ⟨od, es, ep, e, c⟩, r⟩ := x; exact ⟨mA, ⟨od, es, ep, k _ _ (.inl rfl) e, c⟩, r⟩
  | rng lo hi => obtain ⟨t, u, v, e⟩ := x; exact ⟨t, u, v, k _ _ (.inl rfl) e⟩
  | frz ob u ih => obtain ⟨e, q⟩ := x; exact ⟨k _ _ (.inl rfl) e, ih q⟩
  | tbl ps =>
    have e : h.get? a = some { cls := .none, data := .fields ps } := x
    show h'.get? a = some { cls := .none, data := .fields ps }
    exact k a _ (.inl rfl) e
  | met f y =>
    have e : h.get? a = some (PySem.W.methodObj (.ref f) (.ref y)) := x
    show h'.get? a = some (PySem.W.methodObj (.ref f) (.ref y))
    exact k a _ (.inl rfl) e
  | ext φ => obtain ⟨p, ⟨o, e⟩, st⟩ := x; exact ⟨st _ _ p fun o q => k _ _ (.inl rfl) q, ⟨o, k _ _ (.inl rfl) e⟩, st⟩
theorem HOk.lt (x : HOk P w H h) (e : H a = some o) : a < h.objs.size := (x a o e).lt
theorem HOk.fresh (x : HOk P w H h) (e : h.objs.size ≤ a) : H a = none := by
  cases q : H a with
  | none => rfl
  | some u => exact absurd (Nat.lt_of_lt_of_le (x.lt q) e) (Nat.lt_irrefl _)
/-- every object of the heap is kept -/
theorem HOk.kept (x : HOk P w H h) (k : ∀ b u, h.get? b = some u → h'.get? b = some u) : HOk P w H h' := fun a o e =>
  (x a o e).stay (fun b u _ q => k b u q) (fun _ q => q) fun _ _ q => q
/-- a new object is laid and tracked -/
theorem HOk.laid (x : HOk P w H h) (k : ∀ b u, h.get? b = some u → h'.get? b = some u) (hp : h.objs.size ≤ a) (new : ObjOk P w (upd H a o) h' a o) : HOk P w (upd H a o) h' := fun b u e => by
  have hn := x.fresh hp
  by_cases hb : b = a
  · subst hb; rw [upd_same] at e; cases e; exact new
  · rw [upd_ne hb] at e
    exact (x b u e).stay (fun c v _ q => k c v q) (fun c q => by rw [upd_ne (ne_of_none q hn)]; exact q) fun c xs q => by rw [upd_ne (ne_of_none q hn)]; exact q
end

/-- what may be read as u: it is u, or a known u -/
def Rd (H : Hp) (a : Addr) (u : HO) : Prop := H a = some u ∨ ∃ o, H a = some (.frz o u)
theorem Rd.ok {P : Program} {w : World} {H : Hp} {h : Heap} {a : Addr} {u : HO} (r : Rd H a u) (x : HOk P w H h) : ObjOk P w H h a u := by
  rcases r with r | ⟨o, r⟩
  · exact x a u r
  · obtain ⟨_, q⟩ := x a _ r
    exact q
/-- what may be written -/
def Mut : Option HO → Prop
  | some (.lst _) => True
  | some (.dK _) => True
  | some (.dT _) => True
  | some (.set _ _) => True
  | some (.ins _ _ _) => True
  | some (.ext _) => True
  | _ => False
section
variable {P : Program} {w : World} {H : Hp} {h h' : Heap} {x e : Addr} {o' : HO}
/-- the object at e is changed: x itself, or the dict of the instance x -/
theorem HOk.write (ok : HOk P w H h) (mu : Mut (H x)) (he : e = x ∨ H e = some (.own x)) (k : ∀ b u, b ≠ e → h.get? b = some u → h'.get? b = some u) (heo : ∃ u, h'.get? e = some u)
    (new : ObjOk P w (upd H x o') h' x o') : HOk P w (upd H x o') h' := fun b u q => by
  have nown : ∀ c y, H c = some (.own y) → c ≠ x := fun c y r z => by subst z; rw [r] at mu; exact mu
  have ntup : ∀ c xs, H c = some (.tup xs) → c ≠ x := fun c xs r z => by subst z; rw [r] at mu; exact mu
  by_cases hb : b = x
  · subst hb; rw [upd_same] at q; cases q; exact new
  · rw [upd_ne hb] at q
    by_cases hbe : b = e
    · have q' : H b = some (.own x) := by
        rcases he with z | z
        · exact absurd (hbe.trans z) hb
        · rw [hbe]; exact z
      rw [q] at q'; cases q'
      obtain ⟨v, hv⟩ := heo
      exact ⟨v, by rw [hbe]; exact hv⟩
    · refine (ok b u q).stay (fun c v hc r => k c v ?_ r) (fun c r => by rw [upd_ne (nown c b r)]; exact r) fun c xs r => by rw [upd_ne (ntup c xs r)]; exact r
      rcases hc with rfl | hc
      · exact hbe
      · rintro rfl
        rcases he with z | z
        · exact nown c b hc z
        · rw [hc] at z; cases z; exact hb rfl
end

structure Un (fs ex : List Addr) (H H' : Hp) (h h' : Heap) : Prop where
  keep : ∀ b o, h.get? b = some o → H b = none → b ∉ fs → b ∉ ex → h'.get? b = some o
  slot : ∀ b o, h.get? b = some o → H b = none → b ∈ fs → b ∉ ex → ∃ sl, h'.get? b = some { o with slots := sl }
  free : ∀ b o, h.get? b = some o → H b = none → b ∉ ex → H' b = none
  there : ∀ b o, h.get? b = some o → b ∉ ex → ∃ o', h'.get? b = some o'
  tups : ∀ b xs, H b = some (.tup xs) → H' b = some (.tup xs)
  frzs : ∀ b o u, H b = some (.frz o u) → H' b = some (.frz o u)
  tbls : ∀ b ps, H b = some (.tbl ps) → ∃ more, H' b = some (.tbl (ps ++ more))
section
variable {fs fs' ex ex' : List Addr} {H H1 H2 : Hp} {h h1 h2 h' : Heap} {a x e : Addr} {o : HO}
theorem Un.any (u : Un fs ex H H1 h h1) {b : Addr} {ob : Obj} (q : h.get? b = some ob) (n : H b = none) (hx : b ∉ ex) : ∃ sl, h1.get? b = some { ob with slots := sl } := by
  by_cases hb : b ∈ fs
  · exact u.slot b ob q n hb hx
  · exact ⟨ob.slots, u.keep b ob q n hb hx⟩
theorem Un.kept (k : ∀ b u, h.get? b = some u → h'.get? b = some u) : Un fs ex H H h h' :=
  ⟨fun b ob q _ _ _ => k b ob q, fun b ob q _ _ _ => ⟨ob.slots, k b ob q⟩, fun _ _ _ n _ => n, fun b ob q _ => ⟨ob, k b ob q⟩, fun _ _ q => q, fun _ _ _ q => q, fun _ ps q => ⟨#[], by rw [q]; simp⟩⟩
theorem Un.refl : Un fs ex H H h h := Un.kept fun _ _ q => q
theorem Un.laid (k : ∀ b u, h.get? b = some u → h'.get? b = some u) (hp : h.objs.size ≤ a) (hn : H a = none) : Un fs ex H (upd H a o) h h' where
  keep := fun b u q _ _ _ => k b u q
  slot := fun b u q _ _ _ => ⟨u.slots, k b u q⟩
  free := fun b u q n _ => by rw [upd_ne (Nat.ne_of_lt (Nat.lt_of_lt_of_le (Heap.lt_size q) hp))]; exact n
  there := fun b u q _ => ⟨u, k b u q⟩
  tups := fun b xs q => by rw [upd_ne (ne_of_none q hn)]; exact q
  frzs := fun b u xs q => by rw [upd_ne (ne_of_none q hn)]; exact q
  tbls := fun b ps q => ⟨#[], by rw [upd_ne (ne_of_none q hn), q]; simp⟩
theorem Un.write (mu : Mut (H x)) (he : e = x ∨ H e = some (.own x)) (k : ∀ b u, b ≠ e → h.get? b = some u → h'.get? b = some u) (heo : ∃ u, h'.get? e = some u) : Un fs ex H (upd H x o) h h' := by
  have hx : ∀ b, H b = none → b ≠ x := fun b n z => by subst z; rw [n] at mu; exact mu
  have hb : ∀ b, H b = none → b ≠ e := fun b n z => by
    subst z
    rcases he with r | r
    · exact hx b n r
    · rw [n] at r; cases r
  have hm : ∀ b u, H b = some u → ¬ Mut (some u) → b ≠ x := fun b u q nm z => by subst z; rw [q] at mu; exact nm mu
  refine ⟨fun b u q n _ _ => k b u (hb b n) q, fun b u q n _ _ => ⟨u.slots, k b u (hb b n) q⟩, fun b u q n _ => by rw [upd_ne (hx b n)]; exact n, fun b u q _ => ?_,
    fun b xs q => by rw [upd_ne (hm b _ q fun z => z)]; exact q, fun b u xs q => by rw [upd_ne (hm b _ q fun z => z)]; exact q, fun b ps q => ⟨#[], by rw [upd_ne (hm b _ q fun z => z), q]; simp⟩⟩
  by_cases hbe : b = e
  · subst hbe; exact heo
  · exact ⟨u, k b u hbe q⟩
end

def trk (h : Heap) (H : Hp) : List Addr := (List.range h.objs.size).filter fun a => (H a).isSome
def hidT (h : Heap) (H : Hp) : Heap := PySem.W.hideAll h (trk h H)
theorem hidT_size (h : Heap) (H : Hp) : (hidT h H).objs.size = h.objs.size := PySem.W.hideAll_size _ _
theorem hidT_get {h : Heap} {H : Hp} {b : Addr} {o : Obj} (e : h.get? b = some o) (n : H b = none) : (hidT h H).get? b = some o :=
  PySem.W.hideAll_get _ e fun hm => by
    have q : (H b).isSome = true := (List.mem_filter.mp hm).2
    rw [n] at q; simp at q
theorem of_hidT {h : Heap} {H : Hp} {b : Addr} {o : Obj} (e : (hidT h H).get? b = some o) : h.get? b = some o ∧ H b = none := by
  have e' : h.get? b = some o := PySem.W.of_hideAll (trk h H) e
  refine ⟨e', ?_⟩
  cases q : H b with
  | none => rfl
  | some x =>
    have hm : b ∈ trk h H := List.mem_filter.mpr ⟨List.mem_range.mpr (Heap.lt_size e'), by simp [q]⟩
    have z : (hidT h H).get? b = none := PySem.W.hideAll_none (trk h H) hm
    rw [z] at e; cases e

end L2

namespace L2
open PySem PySem.Spec PyProof.Rows

/-- the module's facts, over the base: the heap at the law's entry without what is tracked there -/
structure Mod (K : PySem.W.Frag) (mg : Str → Option Value) (base : Heap) : Prop where
  kin : K.In base
  glob : base.Ns mainGlobals mg
  blt : ∃ mb, base.Ns builtinsNs mb ∧ ∀ x : Str, x ≠ "__name__" → mb x = bootBuiltins x
  nolimit : base.NoLimit

/-- the context: a def's body (or a comprehension's block) running. base: fixed through the whole law; s₀, H₀: the entry; outer: the frames whose slots others may change (a def's callers); stack: all frames that run;
   ex: iterators that were made ahead of the entry and are walked here (a comprehension's); fn: the names whose cells were made at the entry (a def: all; a comprehension's block: its own); calm: not within an except suite; pn: pins that every state bears; xe: what is wanted of an exception that leaves the code -/
structure Cx where
  prog : Program
  w : World
  K : PySem.W.Frag
  mg : Str → Option Value
  base : Heap
  A : Around
  N : List Str
  s₀ : Shared
  H₀ : Hp
  env : Env
  outer : List Env
  stack : List Env
  ex : List Addr
  fn : Str → Bool
  calm : Bool
  pn : List (Addr × Obj)
  xe : Value → Shared → Prop
/-- the callers' frames -/
def frs (l : List Env) : List Addr := l.filterMap (·.frame)
abbrev Cx.fs (X : Cx) : List Addr := frs X.outer

def Vis (sc : Scope) (x : Str) : Prop := sc.names.lookup x = some .local ∨ sc.names.lookup x = some .cell ∨ sc.names.lookup x = some .free
def Loc (sc : Scope) (x : Str) : Prop := sc.names.lookup x = some .local ∨ sc.names.lookup x = some .cell
def Look (env : Env) (h : Heap) (m : Str → Option Value) (x : Str) (u : Value) : Prop :=
  (env.kindOf x = some .local ∧ m x = some u) ∨ ((env.kindOf x = some .cell ∨ env.kindOf x = some .free) ∧ ∃ c, env.cells.lookup x = some c ∧ h.IsCell c (some u))

structure Cx.Ok (X : Cx) : Prop where
  mod : Mod X.K X.mg X.base
  kind : X.env.scope.kind = .function
  glob : X.env.globals = mainGlobals
  blt : X.env.builtins = builtinsNs
  above : X.s₀.heap.objs.size ≤ X.env.locals
  inj : ∀ x y c, X.env.cells.lookup x = some c → X.env.cells.lookup y = some c → x = y
  has : ∀ x, (X.env.kindOf x = some .cell ∨ X.env.kindOf x = some .free) → ∃ c, X.env.cells.lookup x = some c
  cab : ∀ x c, X.fn x = true → X.env.cells.lookup x = some c → X.s₀.heap.objs.size ≤ c
  hd : X.calm = true → X.A.handled = none
  frames : X.A.frames = some X.stack
  stk : X.stack = X.outer ∨ (X.stack = X.env :: X.outer ∧ X.env.frame = some X.env.locals)
  exf : ∀ b ∈ X.ex, b ≠ X.env.locals ∧ ∀ x c, X.env.cells.lookup x = some c → c ≠ b
  bs : ∀ b o, X.base.get? b = some o → X.s₀.heap.get? b = some o ∧ X.H₀ b = none
  bsz : X.base.objs.size ≤ X.s₀.heap.objs.size
  noex : ∀ b o, X.base.get? b = some o → b ∉ X.ex
  exfs : ∀ b ∈ X.ex, b ∉ X.fs
  funs : X.s₀.heap.FunFrames X.base X.outer
  frf : ∀ b ∈ X.fs, X.H₀ b = none

structure Inv (X : Cx) (pins : List (Addr × Obj)) (σ : List (Option V)) (H : Hp) (s : Shared) : Prop where
  ok : X.Ok
  os : s.os = X.s₀.os
  bare : AllBare s.gens
  base : Un X.fs X.ex X.H₀ H X.s₀.heap s.heap
  loc : ∃ m, s.heap.Ns X.env.locals m ∧ ∀ (i : Nat) (x : Str) (v : V), X.N[i]? = some x → σ[i]? = some (some v) → Vis X.env.scope x → ∃ u, RelV v u ∧ Look X.env s.heap m x u
  cell : ∀ x c, X.env.cells.lookup x = some c → ∃ v, s.heap.IsCell c v
  free : H X.env.locals = none
  freeC : ∀ x c, X.env.cells.lookup x = some c → H c = none
  pin : ∀ p ∈ X.pn ++ pins, s.heap.get? p.1 = some p.2 ∧ H p.1 = none ∧ p.1 ≠ X.env.locals ∧ p.1 ∉ X.fs ∧ ∀ v, p.2.data ≠ .cell v
  hok : HOk X.prog X.w H s.heap
  len : σ.length = X.N.length

section
variable {X : Cx} {pins : List (Addr × Obj)} {σ : List (Option V)} {H H' : Hp} {s : Shared} {h' : Heap}

theorem Cx.Ok.nofr (ok : X.Ok) {b : Addr} {o : Obj} (e : X.base.get? b = some o) : b ∉ X.fs := fun hb => by
  have := (ok.funs.mem hb).1
  rw [e] at this; cases this
theorem Inv.bs (I : Inv X pins σ H s) : ∀ b o, X.base.get? b = some o → s.heap.get? b = some o ∧ H b = none := fun b o e =>
  ⟨I.base.keep b o (I.ok.bs b o e).1 (I.ok.bs b o e).2 (I.ok.nofr e) (I.ok.noex b o e), I.base.free b o (I.ok.bs b o e).1 (I.ok.bs b o e).2 (I.ok.noex b o e)⟩
theorem Inv.bk (I : Inv X pins σ H s) : ∀ b o, X.base.get? b = some o → s.heap.get? b = some o := fun b o e => (I.bs b o e).1
theorem Inv.mod (I : Inv X pins σ H s) : Mod X.K X.mg X.base := I.ok.mod
theorem Inv.kIn (I : Inv X pins σ H s) : X.K.In s.heap := I.ok.mod.kin.keeps I.bk
theorem Inv.lt (I : Inv X pins σ H s) : X.env.locals < s.heap.objs.size := let ⟨_, hn, _⟩ := I.loc; hn.lt
theorem Inv.sz (I : Inv X pins σ H s) : X.s₀.heap.objs.size ≤ s.heap.objs.size := Nat.le_trans I.ok.above (Nat.le_of_lt I.lt)
theorem Inv.nofs (I : Inv X pins σ H s) {a : Addr} (h : s.heap.objs.size ≤ a) : a ∉ X.fs := fun hb => by
  obtain ⟨_, o, ho, _⟩ := I.ok.funs.mem hb
  exact absurd (Nat.lt_of_lt_of_le (Heap.lt_size ho) (Nat.le_trans I.sz h)) (Nat.lt_irrefl _)
theorem Inv.cne (I : Inv X pins σ H s) : ∀ x c, X.env.cells.lookup x = some c → c ≠ X.env.locals := fun x c e z => by
  obtain ⟨v, o, ho, hd⟩ := I.cell x c e
  obtain ⟨m, ⟨o', es, ep, ho', hd', _⟩, _⟩ := I.loc
  rw [z, ho'] at ho; cases ho; rw [hd'] at hd; cases hd
theorem Inv.funs (I : Inv X pins σ H s) : s.heap.FunFrames X.base X.outer := by
  have all : ∀ (l : List Env), (∀ b ∈ frs l, b ∈ X.fs) → X.s₀.heap.FunFrames X.base l → s.heap.FunFrames X.base l := by
    intro l
    induction l with
    | nil => intro _ _; trivial
    | cons env r ih =>
      intro hs hl
      obtain ⟨hk, ⟨L, o, hf, hn, ho, hd⟩, hr⟩ := hl
      have hL : L ∈ X.fs := hs L (by unfold frs; rw [List.filterMap_cons, hf]; exact List.mem_cons_self)
      obtain ⟨sl, e⟩ := I.base.slot L o ho (I.ok.frf L hL) hL fun z => I.ok.exfs L z hL
      exact ⟨hk, ⟨L, _, hf, hn, e, hd⟩, ih (fun b hb => hs b (by unfold frs; rw [List.filterMap_cons, hf]; exact List.mem_cons_of_mem _ hb)) hr⟩
  exact all X.outer (fun _ hb => hb) I.ok.funs

/-- the frames that run, for a call -/
theorem Inv.stack (I : Inv X pins σ H s) : s.heap.FunFrames X.base X.stack := by
  rcases I.ok.stk with e | ⟨e, hf⟩
  · rw [e]; exact I.funs
  · rw [e]
    obtain ⟨m, hn, _⟩ := I.loc
    refine .cons (by rw [I.ok.kind]; decide) hf hn ?_ I.funs
    exact Heap.get?_none_of_le (Nat.le_trans I.ok.bsz I.ok.above)
theorem Inv.stkSub (I : Inv X pins σ H s) : ∀ b ∈ frs X.stack, b ∈ X.env.locals :: X.fs := fun b hb => by
  rcases I.ok.stk with e | ⟨e, hf⟩
  · rw [e] at hb; exact List.mem_cons_of_mem _ hb
  · rw [e] at hb
    unfold frs at hb
    rw [List.filterMap_cons, hf] at hb
    exact hb
theorem Inv.stkFree (I : Inv X pins σ H s) : ∀ b ∈ frs X.stack, H b = none := fun b hb => by
  rcases List.mem_cons.mp (I.stkSub b hb) with e | hb
  · rw [e]; exact I.free
  · obtain ⟨_, o, ho, _⟩ := I.ok.funs.mem hb
    exact I.base.free b o ho (I.ok.frf b hb) fun z => I.ok.exfs b z hb

/-- THE STEP: the untracked objects but the frame and the records at ch are kept (the callers' frames up to slots), the frame's map is kept, the new abstract heap is held -/
theorem Inv.step {g' : Array GenState} {t' : Nat} {d' : Drawn} {ch : List Addr} (I : Inv X pins σ H s)
    (hch : ∀ b ∈ ch, (b ∈ X.ex ∨ X.s₀.heap.objs.size ≤ b) ∧ b ≠ X.env.locals ∧ (∀ x c, X.env.cells.lookup x = some c → c ≠ b) ∧ ∀ p ∈ X.pn ++ pins, p.1 ≠ b)
    (keep : ∀ b o, b ≠ X.env.locals → b ∉ X.fs → b ∉ ch → s.heap.get? b = some o → H b = none → h'.get? b = some o)
    (slot : ∀ b o, b ≠ X.env.locals → b ∈ X.fs → b ∉ ch → s.heap.get? b = some o → H b = none → ∃ sl, h'.get? b = some { o with slots := sl }) (free : ∀ b o, b ∉ ch → s.heap.get? b = some o → H b = none → H' b = none)
    (there : ∀ b o, b ∉ ch → s.heap.get? b = some o → ∃ o', h'.get? b = some o')
    (tups : ∀ b xs, H b = some (.tup xs) → H' b = some (.tup xs)) (frzs : ∀ b o u, H b = some (.frz o u) → H' b = some (.frz o u)) (tbls : ∀ b ps, H b = some (.tbl ps) → ∃ more, H' b = some (.tbl (ps ++ more)))
    (ns : ∀ m, s.heap.Ns X.env.locals m → h'.Ns X.env.locals m) (hok : HOk X.prog X.w H' h') (hg : AllBare g') :
    Inv X pins σ H' { s with heap := h', gens := g', drawn := d', toks := t' } := by
  have neL : ∀ b o, X.s₀.heap.get? b = some o → b ≠ X.env.locals := fun b o e => Nat.ne_of_lt (Nat.lt_of_lt_of_le (Heap.lt_size e) I.ok.above)
  have neC : ∀ b o, X.s₀.heap.get? b = some o → b ∉ X.ex → b ∉ ch := fun b o e hx hb => by
    rcases (hch b hb).1 with z | z
    · exact hx z
    · exact absurd (Nat.lt_of_lt_of_le (Heap.lt_size e) z) (Nat.lt_irrefl _)
  have cellK : ∀ x c, X.env.cells.lookup x = some c → ∀ v, s.heap.IsCell c v → h'.IsCell c v := fun x c e v ⟨o, ho, hd⟩ => by
    have nch : c ∉ ch := fun z => (hch c z).2.2.1 x c e rfl
    by_cases hc : c ∈ X.fs
    · obtain ⟨sl, q⟩ := slot c o (I.cne x c e) hc nch ho (I.freeC x c e)
      exact ⟨_, q, hd⟩
    · exact ⟨o, keep c o (I.cne x c e) hc nch ho (I.freeC x c e), hd⟩
  refine ⟨I.ok, I.os, hg, ⟨fun b o e n hb hx => ?_, fun b o e n hb hx => ?_, fun b o e n hx => ?_, fun b o e hx => ?_, fun b xs e => tups b xs (I.base.tups b xs e), fun b o xs e => frzs b o xs (I.base.frzs b o xs e), fun b ps e => ?_⟩, ?_, fun x c e => ?_, ?_, fun x c e => ?_, fun p hp => ?_, hok, I.len⟩
  · exact keep b o (neL b o e) hb (neC b o e hx) (I.base.keep b o e n hb hx) (I.base.free b o e n hx)
  · obtain ⟨sl, e1⟩ := I.base.slot b o e n hb hx
    obtain ⟨sl', e2⟩ := slot b _ (neL b o e) hb (neC b o e hx) e1 (I.base.free b o e n hx)
    exact ⟨sl', e2⟩
  · obtain ⟨o', e1⟩ := I.base.there b o e hx
    exact free b o' (neC b o e hx) e1 (I.base.free b o e n hx)
  · obtain ⟨o', e1⟩ := I.base.there b o e hx
    exact there b o' (neC b o e hx) e1
  · obtain ⟨m1, e1⟩ := I.base.tbls b ps e
    obtain ⟨m2, e2⟩ := tbls b _ e1
    exact ⟨m1 ++ m2, by rw [e2, Array.append_assoc]⟩
  · obtain ⟨m, hn, hl⟩ := I.loc
    refine ⟨m, ns m hn, fun i x v e1 e2 e3 => ?_⟩
    obtain ⟨u, r, l⟩ := hl i x v e1 e2 e3
    refine ⟨u, r, ?_⟩
    rcases l with l | ⟨k, c, e, z⟩
    · exact .inl l
    · exact .inr ⟨k, c, e, cellK x c e _ z⟩
  · obtain ⟨v, z⟩ := I.cell x c e
    exact ⟨v, cellK x c e v z⟩
  · obtain ⟨m, ⟨o, _, _, ho, _⟩, _⟩ := I.loc
    exact free _ o (fun z => (hch _ z).2.1 rfl) ho I.free
  · obtain ⟨v, o, ho, hd⟩ := I.cell x c e
    exact free c o (fun z => (hch c z).2.2.1 x c e rfl) ho (I.freeC x c e)
  · obtain ⟨e, n, ne, nf, d⟩ := I.pin p hp
    have nch : p.1 ∉ ch := fun z => (hch p.1 z).2.2.2 p hp rfl
    exact ⟨keep p.1 p.2 ne nf nch e n, free p.1 p.2 nch e n, ne, nf, d⟩
/-- .. where the frame's own object is kept too -/
theorem Inv.un {t' : Nat} (I : Inv X pins σ H s) (u : Un X.fs [] H H' s.heap h') (hok : HOk X.prog X.w H' h') : Inv X pins σ H' { s with heap := h', toks := t' } := by
  obtain ⟨m, ⟨o, es, ep, ho, r⟩, _⟩ := id I.loc
  obtain ⟨sl, hL⟩ := u.any ho I.free (by simp)
  exact I.step (g' := s.gens) (d' := s.drawn) (ch := []) (fun _ z => nomatch z) (fun b o _ hb _ e n => u.keep b o e n hb (by simp)) (fun b o _ hb _ e n => u.slot b o e n hb (by simp)) (fun b o _ e n => u.free b o e n (by simp)) (fun b o _ e => u.there b o e (by simp)) u.tups u.frzs u.tbls (fun m' hm => by
    obtain ⟨o', es', ep', ho', r'⟩ := hm
    rw [ho] at ho'; cases ho'
    exact ⟨_, es', ep', hL, r'⟩) hok I.bare
/-- behind a call (or a comprehension's block): the slots of this frame may have changed too, the records at ch may have turned -/
theorem Inv.call {g' : Array GenState} {t' : Nat} {d' : Drawn} {ch : List Addr} (I : Inv X pins σ H s) (u : Un (frs X.stack) ch H H' s.heap h') (hok : HOk X.prog X.w H' h') (hg : AllBare g')
    (hch : ∀ b ∈ ch, (b ∈ X.ex ∨ X.s₀.heap.objs.size ≤ b) ∧ b ≠ X.env.locals ∧ (∀ x c, X.env.cells.lookup x = some c → c ≠ b) ∧ ∀ p ∈ X.pn ++ pins, p.1 ≠ b) :
    Inv X pins σ H' { s with heap := h', gens := g', drawn := d', toks := t' } := by
  obtain ⟨m, ⟨o, es, ep, ho, r⟩, _⟩ := id I.loc
  obtain ⟨sl, hL⟩ := u.any ho I.free fun z => (hch _ z).2.1 rfl
  exact I.step (ch := ch) hch (fun b o hL hb hc e n => u.keep b o e n (fun z => (List.mem_cons.mp (I.stkSub b z)).elim hL hb) hc) (fun b o _ _ hc e n => u.any e n hc) (fun b o hc e n => u.free b o e n hc) (fun b o hc e => u.there b o e hc) u.tups u.frzs u.tbls (fun m' hm => by
    obtain ⟨o', es', ep', ho', r'⟩ := hm
    rw [ho] at ho'; cases ho'
    exact ⟨_, es', ep', hL, r'⟩) hok hg
/-- an untracked record of ours (an iterator) has turned -/
theorem Inv.turned {t' : Nat} {it : Addr} (I : Inv X pins σ H s) (k : ∀ b o, b ≠ it → s.heap.get? b = some o → h'.get? b = some o) (hn : H it = none) (hL : it ≠ X.env.locals)
    (h1 : it ∈ X.ex ∨ X.s₀.heap.objs.size ≤ it) (h2 : ∀ x c, X.env.cells.lookup x = some c → c ≠ it) (h3 : ∀ p ∈ X.pn ++ pins, p.1 ≠ it) : Inv X pins σ H { s with heap := h', toks := t' } := by
  have nit : ∀ b u, H b = some u → b ≠ it := fun b u e z => by rw [z, hn] at e; cases e
  refine I.step (g' := s.gens) (d' := s.drawn) (ch := [it]) (fun b hb => ?_) (fun b o _ _ hc e _ => k b o (fun z => hc (by simp [z])) e) (fun b o _ _ hc e _ => ⟨o.slots, k b o (fun z => hc (by simp [z])) e⟩) (fun _ _ _ _ n => n)
    (fun b o hc e => ⟨o, k b o (fun z => hc (by simp [z])) e⟩) (fun _ _ e => e) (fun _ _ _ e => e) (fun b ps e => ⟨#[], by rw [e]; simp⟩) (fun m hm => ?_) (fun b u e => ?_) I.bare
  · have e : b = it := by simpa using hb
    subst e
    exact ⟨h1, hL, h2, h3⟩
  · obtain ⟨o, es, ep, ho, r⟩ := hm
    exact ⟨o, es, ep, k _ o (Ne.symm hL) ho, r⟩
  · refine (I.hok b u e).stay (fun c v hc q => k c v ?_ q) (fun _ q => q) fun _ _ q => q
    rcases hc with z | z
    · rw [z]; exact nit b u e
    · exact nit c _ z
theorem Inv.tok (I : Inv X pins σ H s) (t : Nat) : Inv X pins σ H { s with toks := t } := I.un (h' := s.heap) (t' := t) Un.refl I.hok
/-- all objects kept -/
theorem Inv.kept {t' : Nat} (I : Inv X pins σ H s) (k : ∀ b u, s.heap.get? b = some u → h'.get? b = some u) : Inv X pins σ H { s with heap := h', toks := t' } := I.un (Un.kept k) (I.hok.kept k)
/-- a new object laid and tracked -/
theorem Inv.laid {a : Addr} {o : HO} {t' : Nat} (I : Inv X pins σ H s) (k : ∀ b u, s.heap.get? b = some u → h'.get? b = some u) (hp : s.heap.objs.size ≤ a) (new : ObjOk X.prog X.w (upd H a o) h' a o) :
    Inv X pins σ (upd H a o) { s with heap := h', toks := t' } := I.un (Un.laid k hp (I.hok.fresh hp)) (I.hok.laid k hp new)
/-- an object written -/
theorem Inv.write {x e : Addr} {o : HO} {t' : Nat} (I : Inv X pins σ H s) (mu : Mut (H x)) (he : e = x ∨ H e = some (.own x)) (k : ∀ b u, b ≠ e → s.heap.get? b = some u → h'.get? b = some u) (heo : ∃ u, h'.get? e = some u)
    (new : ObjOk X.prog X.w (upd H x o) h' x o) : Inv X pins σ (upd H x o) { s with heap := h', toks := t' } := I.un (Un.write mu he k heo) (I.hok.write mu he k heo new)
theorem Inv.pins_of {pins' : List (Addr × Obj)} (I : Inv X pins σ H s) (h : ∀ p ∈ pins', s.heap.get? p.1 = some p.2 ∧ H p.1 = none ∧ p.1 ≠ X.env.locals ∧ p.1 ∉ X.fs ∧ ∀ v, p.2.data ≠ .cell v) : Inv X pins' σ H s :=
  ⟨I.ok, I.os, I.bare, I.base, I.loc, I.cell, I.free, I.freeC, fun p hp => (List.mem_append.mp hp).elim (fun z => I.pin p (List.mem_append_left _ z)) (h p), I.hok, I.len⟩

theorem nodup_ix {N : List Str} (hN : N.Nodup) {i j : Nat} {x : Str} (a : N[i]? = some x) (b : N[j]? = some x) : i = j := by
  obtain ⟨h1, e1⟩ := List.getElem?_eq_some_iff.mp a
  obtain ⟨h2, e2⟩ := List.getElem?_eq_some_iff.mp b
  exact (List.getElem_inj hN).mp (e1.trans e2.symm)

/-- a name is stored; what changed -/
theorem store_ok2 {M : Model} {A : Around} {E : Value → Shared → Prop} {i : Nat} {x : Str} {v : V} {u : Value} {Q : Unit → Shared → Prop} (I : Inv X pins σ H s) (hN : X.N.Nodup) (hi : X.N[i]? = some x) (hx : Loc X.env.scope x) (r : RelV v u)
    (h : ∀ s', Inv X pins (σ.set i (some v)) H s' → (∃ a, Heap.SameBut a s.heap s'.heap ∧ (a = X.env.locals ∨ X.env.cells.lookup x = some a)) → Q () s') (hf : X.fn x = true ∨ X.env.scope.names.lookup x = some .local := by first | exact .inl rfl | exact .inr rfl | assumption) : wpAny M A (storeName X.env x u) Q E s := by
  obtain ⟨m, hn, hl⟩ := id I.loc
  have hcls : (X.env.scope.kind == .class || (X.env.scope.kind == .module && X.env.locals != X.env.globals)) = false := by rw [I.ok.kind]; rfl
  have hiσ : i < σ.length := by rw [I.len]; exact (List.getElem?_eq_some_iff.mp hi).1
  have cne := I.cne
  have tracked : ∀ {a : Addr} {h' : Heap}, (∃ o, s.heap.get? a = some o ∧ H a = none) → Heap.SameBut a s.heap h' → HOk X.prog X.w H h' := fun {a h'} ha hs b ob e => by
    obtain ⟨_, _, hfree⟩ := ha
    refine (I.hok b ob e).stay (fun c w' hc q => (hs.2 c ?_).trans q) (fun _ q => q) fun _ _ q => q
    rintro rfl
    rcases hc with rfl | hc
    · rw [hfree] at e; cases e
    · rw [hfree] at hc; cases hc
  rcases hx with hk | hk
  · refine wpAny_storeName_local hk hn (fun h' hn' hs => ?_) hcls
    obtain ⟨oL, _, _, hoL, _⟩ := id hn
    refine h _ ⟨I.ok, I.os, I.bare, ⟨fun b o e n hb hx => ?_, fun b o e n hb hx => ?_, I.base.free, fun b o e hx => ?_, I.base.tups, I.base.frzs, I.base.tbls⟩, ⟨_, hn', fun j y v' e1 e2 e3 => ?_⟩, fun y c e => ?_, I.free, I.freeC, fun p hp => ?_, tracked ⟨oL, hoL, I.free⟩ hs, by simpa using I.len⟩ ⟨_, hs, .inl rfl⟩
    · exact (hs.2 b (Nat.ne_of_lt (Nat.lt_of_lt_of_le (Heap.lt_size e) I.ok.above))).trans (I.base.keep b o e n hb hx)
    · obtain ⟨sl, e1⟩ := I.base.slot b o e n hb hx
      exact ⟨sl, (hs.2 b (Nat.ne_of_lt (Nat.lt_of_lt_of_le (Heap.lt_size e) I.ok.above))).trans e1⟩
    · obtain ⟨o', e1⟩ := I.base.there b o e hx
      exact ⟨o', (hs.2 b (Nat.ne_of_lt (Nat.lt_of_lt_of_le (Heap.lt_size e) I.ok.above))).trans e1⟩
    · by_cases hj : j = i
      · subst hj
        rw [hi] at e1; cases e1
        rw [List.getElem?_set_self hiσ] at e2
        cases e2
        exact ⟨u, r, .inl ⟨hk, by simp⟩⟩
      · rw [List.getElem?_set_ne (Ne.symm hj)] at e2
        obtain ⟨u', r', q⟩ := hl j y v' e1 e2 e3
        refine ⟨u', r', ?_⟩
        rcases q with ⟨k, e⟩ | ⟨k, c, e, z⟩
        · refine .inl ⟨k, ?_⟩
          have : y ≠ x := fun e => hj (nodup_ix hN e1 (e ▸ hi))
          simp [this, e]
        · exact .inr ⟨k, c, e, z.sameBut hs (cne y c e)⟩
    · obtain ⟨w', z⟩ := I.cell y c e
      exact ⟨w', z.sameBut hs (cne y c e)⟩
    · obtain ⟨e, n, ne, nf, d⟩ := I.pin p hp
      exact ⟨(hs.2 p.1 ne).trans e, n, ne, nf, d⟩
  · have hfn : X.fn x = true := by
      rcases hf with z | z
      · exact z
      · rw [z] at hk; cases hk
    obtain ⟨c, hc⟩ := I.ok.has x (.inl hk)
    obtain ⟨w', z⟩ := I.cell x c hc
    refine wpAny_storeName_cell I.ok.kind hk hc z (fun h' hc' hs => ?_)
    obtain ⟨oc, hoc, hocd⟩ := id z
    refine h { s with heap := h' } ⟨I.ok, I.os, I.bare, ⟨fun b o e n hb hx => ?_, fun b o e n hb hx => ?_, I.base.free, fun b o e hx => ?_, I.base.tups, I.base.frzs, I.base.tbls⟩, ⟨m, hn.sameBut hs (Ne.symm (cne x c hc)), fun j y v' e1 e2 e3 => ?_⟩, fun y c' e => ?_, I.free, I.freeC, fun p hp => ?_, tracked ⟨oc, hoc, I.freeC x c hc⟩ hs, by simpa using I.len⟩ ⟨c, hs, .inr hc⟩
    · exact (hs.2 b (Nat.ne_of_lt (Nat.lt_of_lt_of_le (Heap.lt_size e) (I.ok.cab x c hfn hc)))).trans (I.base.keep b o e n hb hx)
    · obtain ⟨sl, e1⟩ := I.base.slot b o e n hb hx
      exact ⟨sl, (hs.2 b (Nat.ne_of_lt (Nat.lt_of_lt_of_le (Heap.lt_size e) (I.ok.cab x c hfn hc)))).trans e1⟩
    · obtain ⟨o', e1⟩ := I.base.there b o e hx
      exact ⟨o', (hs.2 b (Nat.ne_of_lt (Nat.lt_of_lt_of_le (Heap.lt_size e) (I.ok.cab x c hfn hc)))).trans e1⟩
    · by_cases hj : j = i
      · subst hj
        rw [hi] at e1; cases e1
        rw [List.getElem?_set_self hiσ] at e2
        cases e2
        exact ⟨u, r, .inr ⟨.inl hk, c, hc, hc'⟩⟩
      · rw [List.getElem?_set_ne (Ne.symm hj)] at e2
        obtain ⟨u', r', q⟩ := hl j y v' e1 e2 e3
        refine ⟨u', r', ?_⟩
        rcases q with q | ⟨k, c', e, z'⟩
        · exact .inl q
        · refine .inr ⟨k, c', e, z'.sameBut hs ?_⟩
          rintro rfl
          exact hj (nodup_ix hN e1 (I.ok.inj _ _ _ e hc ▸ hi))
    · by_cases hcc : c' = c
      · subst hcc; exact ⟨_, hc'⟩
      · obtain ⟨w2, z2⟩ := I.cell y c' e
        exact ⟨w2, z2.sameBut hs hcc⟩
    · obtain ⟨e, n, ne, nf, d⟩ := I.pin p hp
      refine ⟨(hs.2 p.1 ?_).trans e, n, ne, nf, d⟩
      intro q
      rw [q, hoc] at e
      have q' : oc = p.2 := Option.some.inj e
      exact d w' (by rw [← q']; exact hocd)
theorem store_ok {M : Model} {A : Around} {E : Value → Shared → Prop} {i : Nat} {x : Str} {v : V} {u : Value} {Q : Unit → Shared → Prop} (I : Inv X pins σ H s) (hN : X.N.Nodup) (hi : X.N[i]? = some x) (hx : Loc X.env.scope x) (r : RelV v u)
    (h : ∀ s', Inv X pins (σ.set i (some v)) H s' → Q () s') (hf : X.fn x = true ∨ X.env.scope.names.lookup x = some .local := by first | exact .inl rfl | exact .inr rfl | assumption) : wpAny M A (storeName X.env x u) Q E s :=
  store_ok2 I hN hi hx r (fun s' I' _ => h s' I') hf
/-- behind a call or a block, the state as it is -/
theorem Inv.call' {s' : Shared} {ch : List Addr} (I : Inv X pins σ H s) (ho : s'.os = s.os) (u : Un (frs X.stack) ch H H' s.heap s'.heap) (hok : HOk X.prog X.w H' s'.heap) (hg : AllBare s'.gens)
    (hch : ∀ b ∈ ch, (b ∈ X.ex ∨ X.s₀.heap.objs.size ≤ b) ∧ b ≠ X.env.locals ∧ (∀ x c, X.env.cells.lookup x = some c → c ≠ b) ∧ ∀ p ∈ X.pn ++ pins, p.1 ≠ b) : Inv X pins σ H' s' := by
  obtain ⟨h', g', d', t', o'⟩ := s'
  have e : o' = s.os := ho
  subst e
  exact I.call (g' := g') (t' := t') (d' := d') u hok hg hch
end

/-- an exception: its class, its own dict's address (where it has one), the abstract heap behind it -/
abbrev XK := Value → Option Addr → Hp → Prop
abbrev St := List (Option V)
abbrev VK := V → Hp → Prop
/-- an expression's reading; a test's; an argument list's -/
abbrev TE := St → Hp → VK → Prop
abbrev TT := St → Hp → (Bool → Hp → Prop) → Prop
abbrev TA := St → Hp → (List V → Hp → Prop) → Prop
/-- what is wanted behind a statement -/
structure Ends where
  nx : St → Hp → Prop
  rt : VK
  bk : St → Hp → Prop := fun _ _ => False
  ct : St → Hp → Prop := fun _ _ => False
abbrev TS := Ends → St → Hp → Prop

def EP (X : Cx) (pins : List (Addr × Obj)) (σ : St) (Q : VK) (u : Value) (s' : Shared) : Prop := ∃ v H', Inv X pins σ H' s' ∧ RelV v u ∧ Q v H'
def TP (X : Cx) (pins : List (Addr × Obj)) (σ : St) (Q : Bool → Hp → Prop) (b : Bool) (s' : Shared) : Prop := ∃ H', Inv X pins σ H' s' ∧ Q b H'
def AP (X : Cx) (pins : List (Addr × Obj)) (σ : St) (Q : List V → Hp → Prop) (us : List Value) (s' : Shared) : Prop := ∃ vs H', Inv X pins σ H' s' ∧ Vals vs us ∧ Q vs H'
def SP (X : Cx) (pins : List (Addr × Obj)) (D : Ends) (f : Flow) (s' : Shared) : Prop :=
  match f with
  | .next => ∃ σ' H', Inv X pins σ' H' s' ∧ D.nx σ' H'
  | .brk => ∃ σ' H', Inv X pins σ' H' s' ∧ D.bk σ' H'
  | .cont => ∃ σ' H', Inv X pins σ' H' s' ∧ D.ct σ' H'
  | .ret u => ∃ v σ' H', Inv X pins σ' H' s' ∧ RelV v u ∧ D.rt v H'

def PE (X : Cx) (e : Expr) (t : TE) : Prop :=
  ∀ (pins : List (Addr × Obj)) (s : Shared) (σ : St) (H : Hp) (Q : VK), Inv X pins σ H s → t σ H Q → wpAny (model X.prog X.w) X.A (eval e X.env) (EP X pins σ Q) X.xe s
def PT (X : Cx) (e : Expr) (t : TT) : Prop :=
  ∀ (pins : List (Addr × Obj)) (s : Shared) (σ : St) (H : Hp) (Q : Bool → Hp → Prop), Inv X pins σ H s → t σ H Q → wpAny (model X.prog X.w) X.A (isTrue e X.env (eval e X.env)) (TP X pins σ Q) X.xe s
/-- a test whatever its 'whole' is (and, or) -/
def PW (X : Cx) (e : Expr) (t : TT) : Prop :=
  ∀ (whole : Sem Value) (pins : List (Addr × Obj)) (s : Shared) (σ : St) (H : Hp) (Q : Bool → Hp → Prop), Inv X pins σ H s → t σ H Q → wpAny (model X.prog X.w) X.A (isTrue e X.env whole) (TP X pins σ Q) X.xe s
theorem PW.pt {X : Cx} {e : Expr} {t : TT} (h : PW X e t) : PT X e t := h _
/-- an argument list (no star), from the left -/
def PA (X : Cx) (es : List Expr) (t : TA) : Prop :=
  ∀ (pos : Pos) (pins : List (Addr × Obj)) (s : Shared) (σ : St) (H : Hp) (Q : List V → Hp → Prop), Inv X pins σ H s → t σ H Q → wpAny (model X.prog X.w) X.A (spliced (backTo pos (starEach es X.env))) (AP X pins σ Q) X.xe s
def PS (X : Cx) (st : Stmt) (t : TS) : Prop :=
  ∀ (pins : List (Addr × Obj)) (s : Shared) (σ : St) (H : Hp) (D : Ends), Inv X pins σ H s → t D σ H → wpAny (model X.prog X.w) X.A (exec st X.env) (SP X pins D) X.xe s
def PSs (X : Cx) (st : List Stmt) (t : TS) : Prop :=
  ∀ (pins : List (Addr × Obj)) (s : Shared) (σ : St) (H : Hp) (D : Ends), Inv X pins σ H s → t D σ H → wpAny (model X.prog X.w) X.A (execs st X.env) (SP X pins D) X.xe s
/-- weaken the end -/
theorem thn {α : Type} {t : Sem α} {Q Q' : α → Shared → Prop} {M : Model} {A : Around} {E : Value → Shared → Prop} {s : Shared} (h : wpAny M A t Q E s) (hQ : ∀ a s, Q a s → Q' a s) : wpAny M A t Q' E s := wpAny_mono h hQ fun _ _ x => x
end L2

namespace L2
open PySem PySem.Spec PyProof.Rows
section
variable {X : Cx}

def tVar (i : Nat) : TE := fun σ H Q => ∃ v, σ[i]? = some (some v) ∧ Q v H
def tC (v : V) : TE := fun _ H Q => Q v H
theorem pe_var {i : Nat} {x : Str} {pos : Pos} (hN : X.N[i]? = some x) (hv : Vis X.env.scope x) (hd : (x == ("__debug__" : Str)) = false := by decide) (hcd : (x == ("__classdict__" : Str)) = false := by decide) : PE X (.Name x pos) (tVar i) := by
  intro pins s σ H Q I h
  obtain ⟨v, e, h⟩ := h
  obtain ⟨m, hn, hl⟩ := I.loc
  obtain ⟨u, r, l⟩ := hl i x v hN e hv
  have fin : EP X pins σ Q u s := ⟨v, H, I, r, h⟩
  rcases l with ⟨hk, hm⟩ | ⟨hk, c, hc, hcell⟩
  · exact wpAny_Name (wpAny_loadName_local I.ok.kind hk hn hm fin) hd
  · rcases hk with hk | hk
    · exact wpAny_Name (wpAny_loadName_cell I.ok.kind hk hc hcell fin) hd
    · exact wpAny_Name (wpAny_loadName_free I.ok.kind hk hc hcell fin hcd) hd
theorem pe_int {i j pos} : PE X (.Constant (.int i) j pos) (tC (.int i)) := fun _ _ _ H _ I h => wpAny_Constant_int ⟨.int i, H, I.tok _, ⟨_, rfl⟩, h⟩
theorem pe_bl {b j pos} : PE X (.Constant (.bool b) j pos) (tC (.bl b)) := fun _ _ _ H _ I h => Constant_bool ⟨.bl b, H, I, rfl, h⟩
/-- a global name of the def -/
def Gl (X : Cx) (x : Str) : Prop := X.env.kindOf x = some .globalImplicit
theorem ld_glob {E : Value → Shared → Prop} {pins : List (Addr × Obj)} {s : Shared} {σ : St} {H : Hp} {x : Str} {u : Value} {pos : Pos} {Q : Value → Shared → Prop} (I : Inv X pins σ H s) (hg : Gl X x) (hm : X.mg x = some u) (h : Q u s)
    (hd : (x == ("__debug__" : Str)) = false := by decide) : wpAny (model X.prog X.w) X.A (eval (.Name x pos) X.env) Q E s :=
  Calls.Name_function_global I.ok.kind hg (Calls.loadGlobal_global (by rw [I.ok.glob]; exact I.mod.glob.keeps I.bk) hm h) hd
theorem ld_blt {E : Value → Shared → Prop} {pins : List (Addr × Obj)} {s : Shared} {σ : St} {H : Hp} {x : Str} {u : Value} {pos : Pos} {Q : Value → Shared → Prop} (I : Inv X pins σ H s) (hg : Gl X x) (hm : X.mg x = none) (hv : bootBuiltins x = some u) (h : Q u s)
    (hn : x ≠ "__name__" := by decide) (hd : (x == ("__debug__" : Str)) = false := by decide) : wpAny (model X.prog X.w) X.A (eval (.Name x pos) X.env) Q E s := by
  obtain ⟨mb, h1, h2⟩ := I.mod.blt
  exact Calls.Name_function_global I.ok.kind hg (Calls.loadGlobal_builtin (by rw [I.ok.glob]; exact I.mod.glob.keeps I.bk) hm (by rw [I.ok.blt]; exact h1.keeps I.bk) ((h2 x hn).trans hv) h) hd
theorem pe_bltn {x : Str} {v : V} {u : Value} {pos : Pos} (hg : Gl X x) (hm : X.mg x = none) (hv : bootBuiltins x = some u) (r : RelV v u) (hn : x ≠ "__name__" := by decide) (hd : (x == ("__debug__" : Str)) = false := by decide) : PE X (.Name x pos) (tC v) :=
  fun _ _ _ H _ I h => ld_blt I hg hm hv ⟨v, H, I, r, h⟩ hn hd

variable {a b : Expr} {ta tb : TE} {pos : Pos}
variable {tA tB' : TT} {rest : List Expr}
def tAnd (t u : TT) : TT := fun σ H Q => t σ H fun c H1 => if c = true then u σ H1 Q else Q false H1
def tOr (t u : TT) : TT := fun σ H Q => t σ H fun c H1 => if c = true then Q true H1 else u σ H1 Q
def tNot (t : TT) : TT := fun σ H Q => t σ H fun c H1 => Q (!c) H1
theorem pw_and1 (ha : PT X a tA) : PW X (.BoolOp .And [a] pos) tA := by
  intro wh pins s σ H Q I h
  refine isTrue_and (thn (ha pins s σ H Q I h) fun c s1 e => ?_)
  cases c with
  | true => exact isTrue_and_nil e
  | false => exact e
theorem pw_or1 (ha : PT X a tA) : PW X (.BoolOp .Or [a] pos) tA := by
  intro wh pins s σ H Q I h
  refine isTrue_or (thn (ha pins s σ H Q I h) fun c s1 e => ?_)
  cases c with
  | false => exact isTrue_or_nil e
  | true => exact e
theorem pw_and (ha : PT X a tA) (hb : PW X (.BoolOp .And (b :: rest) pos) tB') : PW X (.BoolOp .And (a :: b :: rest) pos) (tAnd tA tB') := by
  intro wh pins s σ H Q I h
  refine isTrue_and (thn (ha pins s σ H _ I h) fun c s1 ⟨H1, I1, q1⟩ => ?_)
  cases c with
  | true => exact hb wh pins s1 σ H1 Q I1 q1
  | false => exact ⟨H1, I1, q1⟩
theorem pw_or (ha : PT X a tA) (hb : PW X (.BoolOp .Or (b :: rest) pos) tB') : PW X (.BoolOp .Or (a :: b :: rest) pos) (tOr tA tB') := by
  intro wh pins s σ H Q I h
  refine isTrue_or (thn (ha pins s σ H _ I h) fun c s1 ⟨H1, I1, q1⟩ => ?_)
  cases c with
  | true => exact ⟨H1, I1, q1⟩
  | false => exact hb wh pins s1 σ H1 Q I1 q1
theorem pt_not (ha : PT X a tA) : PT X (.UnaryOp .Not a pos) (tNot tA) := by
  intro pins s σ H Q I h
  exact isTrue_not (ha pins s σ H (fun c H1 => Q (!c) H1) I h)
/-- .. as values (bools) -/
def tAndV (ta tb : TE) : TE := fun σ H Q => ta σ H fun x H1 => ∃ c, x = .bl c ∧ if c = true then tb σ H1 Q else Q (.bl false) H1
theorem pe_one {op} {t : TE} (h : PE X a t) : PE X (.BoolOp op [a] pos) t := fun pins s σ H Q I hw => BoolOp_one (h pins s σ H Q I hw)
theorem pe_and (ha : PE X a ta) (hb : PE X (.BoolOp .And (b :: rest) pos) tb) : PE X (.BoolOp .And (a :: b :: rest) pos) (tAndV ta tb) := by
  intro pins s σ H Q I h
  refine BoolOp_and (thn (ha pins s σ H _ I h) fun v s1 ⟨x, H1, I1, r1, q1⟩ => ?_)
  obtain ⟨c, rfl, q1⟩ := q1
  cases r1
  refine wpAny_truthy_bool ?_
  cases c with
  | true => exact hb pins s1 σ H1 Q I1 q1
  | false => exact ⟨.bl false, H1, I1, rfl, q1⟩
end
end L2

namespace L2
open PySem PySem.Spec PyProof.Rows

def SqL (K : PySem.W.Frag) (H : Hp) (a : Addr) (xs : List V) : Prop :=
  Rd H a (.lst xs) ∨
    ∃ (o : Obj) (its : Array Value) (n : Nat), K.lookup a = some o ∧ o.cls = .type "list" ∧ o.dict = none ∧ o.data = .seq its n ∧ its.size ≤ sizeLine ∧ Vals xs its.toList
def SqT (K : PySem.W.Frag) (H : Hp) (a : Addr) (xs : List V) : Prop :=
  Rd H a (.tup xs) ∨
    ∃ (o : Obj) (its : Array Value) (n : Nat), K.lookup a = some o ∧ o.cls = .type "tuple" ∧ o.data = .seq its n ∧ its.size ≤ sizeLine ∧ Vals xs its.toList
def absV : Value → Option V
  | .none => some .non
  | .bool b => some (.bl b)
  | .int i _ => some (.int i)
  | .str x _ => some (.str x)
  | .bytes b _ => some (.byt b)
  | .float b _ => some (.flt b)
  | .ref a => some (.ref a)
  | .type n => some (.ty n)
  | _ => none
theorem RelV.abs {x : V} {u : Value} (r : RelV x u) : absV u = some x := by
  cases x with
  | non => cases r; rfl
  | bl _ => cases r; rfl
  | int _ => obtain ⟨t, rfl⟩ := r; rfl
  | str _ => obtain ⟨t, rfl⟩ := r; rfl
  | byt _ => obtain ⟨t, rfl⟩ := r; rfl
  | flt _ => obtain ⟨t, rfl⟩ := r; rfl
  | ref _ => cases r; rfl
  | ty _ => cases r; rfl
theorem RelV.inj {x y : V} {u : Value} (r : RelV x u) (q : RelV y u) : x = y := Option.some.inj (r.abs.symm.trans q.abs)
theorem Vals.inj : ∀ {xs ys : List V} {us : List Value}, Vals xs us → Vals ys us → xs = ys
  | _, _, _, .nil, .nil => rfl
  | _, _, _, .cons r t, .cons r' t' => by rw [r.inj r', Vals.inj t t']
section
variable {X : Cx} {pins : List (Addr × Obj)} {σ : St} {H : Hp} {s : Shared} {a : Addr} {xs ys : List V}
theorem SqL.of {K : PySem.W.Frag} (h : H a = some (.lst xs)) : SqL K H a xs := .inl (.inl h)
theorem SqT.of {K : PySem.W.Frag} (h : H a = some (.tup xs)) : SqT K H a xs := .inl (.inl h)
theorem Inv.list (I : Inv X pins σ H s) (h : SqL X.K H a xs) : ∃ its : List Value, Vals xs its ∧ PlainL s.heap a its.toArray ∧ xs.length ≤ sizeLine := by
  rcases h with h | ⟨o, its, n, hk, hc, hd, hs, hz, r⟩
  · obtain ⟨z, its, n, r, e⟩ := h.ok I.hok
    exact ⟨its, r, ⟨_, n, e, rfl, rfl, rfl⟩, z⟩
  · refine ⟨its.toList, r, ⟨o, n, I.kIn a o hk, hc, hd, by simpa using hs⟩, ?_⟩
    have e := r.length
    simp only [Array.length_toList] at e
    omega
theorem Inv.tuple (I : Inv X pins σ H s) (h : SqT X.K H a xs) : ∃ its : List Value, Vals xs its ∧ IsTup s.heap a its.toArray ∧ xs.length ≤ sizeLine := by
  rcases h with h | ⟨o, its, n, hk, hc, hs, hz, r⟩
  · obtain ⟨z, its, r, p⟩ := h.ok I.hok
    exact ⟨its, r, p, z⟩
  · refine ⟨its.toList, r, ⟨o, I.kIn a o hk, hc, n, by simpa using hs⟩, ?_⟩
    have e := r.length
    simp only [Array.length_toList] at e
    omega
theorem Inv.list_inj (I : Inv X pins σ H s) (h : SqL X.K H a xs) (h' : SqL X.K H a ys) : xs = ys := by
  obtain ⟨its, r, ⟨o, n, e, _, _, d⟩, _⟩ := I.list h
  obtain ⟨its', r', ⟨o', n', e', _, _, d'⟩, _⟩ := I.list h'
  rw [e] at e'; cases e'
  rw [d] at d'
  injection d' with d1 _
  have : its = its' := by simpa using congrArg Array.toList d1
  subst this
  exact r.inj r'
theorem Inv.tuple_inj (I : Inv X pins σ H s) (h : SqT X.K H a xs) (h' : SqT X.K H a ys) : xs = ys := by
  obtain ⟨its, r, ⟨o, e, _, n, d⟩, _⟩ := I.tuple h
  obtain ⟨its', r', ⟨o', e', _, n', d'⟩, _⟩ := I.tuple h'
  rw [e] at e'; cases e'
  rw [d] at d'
  injection d' with d1 _
  have : its = its' := by simpa using congrArg Array.toList d1
  subst this
  exact r.inj r'
end

abbrev Cx.wish (X : Cx) (E : Value → Shared → Prop) : Cx := { X with xe := E }
/-- no exception leaves -/
abbrev Cx.nox (X : Cx) : Cx := X.wish fun _ _ => False
theorem Cx.Ok.wish {X : Cx} (ok : X.Ok) (E : Value → Shared → Prop) : (X.wish E).Ok :=
  ⟨ok.mod, ok.kind, ok.glob, ok.blt, ok.above, ok.inj, ok.has, ok.cab, ok.hd, ok.frames, ok.stk, ok.exf, ok.bs, ok.bsz, ok.noex, ok.exfs, ok.funs, ok.frf⟩
theorem Cx.Ok.unwish {X : Cx} {E : Value → Shared → Prop} (ok : (X.wish E).Ok) : X.Ok :=
  ⟨ok.mod, ok.kind, ok.glob, ok.blt, ok.above, ok.inj, ok.has, ok.cab, ok.hd, ok.frames, ok.stk, ok.exf, ok.bs, ok.bsz, ok.noex, ok.exfs, ok.funs, ok.frf⟩
section
variable {X : Cx} {pins : List (Addr × Obj)} {σ : St} {H : Hp} {s : Shared} {E : Value → Shared → Prop}
theorem Inv.wish (I : Inv X pins σ H s) (E : Value → Shared → Prop) : Inv (X.wish E) pins σ H s := ⟨I.ok.wish E, I.os, I.bare, I.base, I.loc, I.cell, I.free, I.freeC, I.pin, I.hok, I.len⟩
theorem Inv.unwish (I : Inv (X.wish E) pins σ H s) : Inv X pins σ H s := ⟨I.ok.unwish, I.os, I.bare, I.base, I.loc, I.cell, I.free, I.freeC, I.pin, I.hok, I.len⟩
theorem SP.unwish {D : Ends} {f : Flow} {s' : Shared} (h : SP (X.wish E) pins D f s') : SP X pins D f s' := by
  cases f with
  | next => obtain ⟨σ', H', I, q⟩ := h; exact ⟨σ', H', I.unwish, q⟩
  | brk => obtain ⟨σ', H', I, q⟩ := h; exact ⟨σ', H', I.unwish, q⟩
  | cont => obtain ⟨σ', H', I, q⟩ := h; exact ⟨σ', H', I.unwish, q⟩
  | ret u => obtain ⟨v, σ', H', I, r, q⟩ := h; exact ⟨v, σ', H', I.unwish, r, q⟩
theorem PSs.nox {st : List Stmt} {t : TS} (h : PSs X.nox st t) : PSs X st t := fun pins s σ H D I hw =>
  wpAny_mono (h pins s σ H D (I.wish _) hw) (fun _ _ q => q.unwish) fun _ _ z => False.elim z
end

section
variable {X : Cx} {st : Stmt} {rest : List Stmt} {t u : TS} {e : Expr} {te : TE} {pos : Pos}
def tNext : TS := fun D σ H => D.nx σ H
def tSeq (t u : TS) : TS := fun D σ H => t { D with nx := u D } σ H
theorem pss_nil : PSs X [] tNext := fun _ _ σ H _ I h => wpAny_execs_nil ⟨σ, H, I, h⟩
theorem pss_cons (h1 : PS X st t) (h2 : PSs X rest u) : PSs X (st :: rest) (tSeq t u) := by
  intro pins s σ H D I h
  refine wpAny_execs_cons (thn (h1 pins s σ H { D with nx := u D } I h) fun f s1 q => ?_)
  cases f with
  | next =>
    obtain ⟨σ', H', I', q⟩ := q
    exact h2 pins s1 σ' H' D I' q
  | ret v => exact q
  | brk => exact q
  | cont => exact q
theorem pss_one (h1 : PS X st t) : PSs X [st] t := by
  intro pins s σ H D I h
  refine wpAny_execs_cons (thn (h1 pins s σ H D I h) fun f s1 q => ?_)
  cases f with
  | next => exact wpAny_execs_nil q
  | ret v => exact q
  | brk => exact q
  | cont => exact q
/-- in a def's body nothing is shown -/
theorem Inv.quiet {pins : List (Addr × Obj)} {σ : St} {H : Hp} {s : Shared} (I : Inv X pins σ H s) : interactive X.env = false := by simp [interactive, I.ok.kind]
/-- an expression whose value is dropped -/
def tDrop (te : TE) : TS := fun D σ H => te σ H fun _ H1 => D.nx σ H1
theorem ps_expr (he : PE X e te) (hs : swapsWith e none pos.line X.env = pure false := by rfl) : PS X (.Expr e pos) (tDrop te) := by
  intro pins s σ H D I h
  exact wpAny_Expr_any (thn (he pins s σ H _ I h) fun v s1 ⟨x, H1, I1, r1, q1⟩ => ⟨σ, H1, I1, q1⟩) I.quiet hs
def tRet (te : TE) : TS := fun D σ H => te σ H D.rt
theorem ps_ret (he : PE X e te) : PS X (.Return (some e) pos) (tRet te) := by
  intro pins s σ H D I h
  exact wpAny_Return_some (thn (he pins s σ H _ I h) fun v s1 ⟨x, H1, I1, r1, q1⟩ => ⟨x, σ, H1, I1, r1, q1⟩)
def tIfS (c : TT) (t u : TS) : TS := fun D σ H => c σ H fun b H1 => if b = true then t D σ H1 else u D σ H1
theorem ps_if {c : Expr} {a b : List Stmt} {tc : TT} (hc : PT X c tc) (ha : PSs X a t) (hb : PSs X b u) : PS X (.If c a b pos) (tIfS tc t u) := by
  intro pins s σ H D I h
  refine wpAny_If (thn (hc pins s σ H _ I h) fun d s1 ⟨H1, I1, q1⟩ => ?_)
  cases d with
  | true => exact ha pins s1 σ H1 D I1 q1
  | false => exact hb pins s1 σ H1 D I1 q1
end

abbrev TG := V → St → Hp → (St → Hp → Prop) → Prop
abbrev TGs := List V → St → Hp → (St → Hp → Prop) → Prop
def PG (X : Cx) (target : Expr) (t : TG) : Prop :=
  ∀ (pins : List (Addr × Obj)) (s : Shared) (σ : St) (H : Hp) (v : V) (u : Value) (Q : St → Hp → Prop), Inv X pins σ H s → RelV v u → t v σ H Q →
    wpAny (model X.prog X.w) X.A (assign target X.env u) (fun _ s' => ∃ σ' H', Inv X pins σ' H' s' ∧ Q σ' H') X.xe s
/-- several targets, one after another -/
def PGs (X : Cx) (ts : List Expr) (t : TGs) : Prop :=
  ∀ (pins : List (Addr × Obj)) (s : Shared) (σ : St) (H : Hp) (vs : List V) (us : List Value) (Q : St → Hp → Prop), Inv X pins σ H s → Vals vs us → t vs σ H Q →
    wpAny (model X.prog X.w) X.A (assignInOrder ((assignEach ts X.env).map (·.2)) us) (fun _ s' => ∃ σ' H', Inv X pins σ' H' s' ∧ Q σ' H') X.xe s
section
variable {X : Cx} {pos : Pos}
def gName (i : Nat) : TG := fun v σ H Q => Q (σ.set i (some v)) H
theorem pg_name {i : Nat} {x : Str} (hN : X.N.Nodup) (hi : X.N[i]? = some x) (hx : Loc X.env.scope x) (hf : X.fn x = true ∨ X.env.scope.names.lookup x = some .local := by first | exact .inl rfl | exact .inr rfl | assumption) : PG X (.Name x pos) (gName i) := by
  intro pins s σ H v u Q I r h
  exact wpAny_assign_Name (store_ok I hN hi hx r (fun s' I' => ⟨_, H, I', h⟩) hf)
def gNil : TGs := fun vs σ H Q => vs = [] ∧ Q σ H
def gCons (t : TG) (u : TGs) : TGs := fun vs σ H Q => ∃ v r, vs = v :: r ∧ t v σ H fun σ' H' => u r σ' H' Q
theorem pgs_nil : PGs X [] gNil := by
  intro pins s σ H vs us Q I r h
  obtain ⟨e, h⟩ := h
  subst e
  cases r
  exact assignInOrder_nil ⟨σ, H, I, h⟩
theorem pgs_cons {e : Expr} {es : List Expr} {t : TG} {u : TGs} (h1 : PG X e t) (h2 : PGs X es u)
    (hs : (assignEach (e :: es) X.env).map (·.2) = assign e X.env :: (assignEach es X.env).map (·.2) := by rfl) : PGs X (e :: es) (gCons t u) := by
  intro pins s σ H vs us Q I r h
  obtain ⟨v, vr, e1, h⟩ := h
  subst e1
  cases r with
  | cons r rr =>
    rw [hs]
    refine assignInOrder_cons (thn (h1 pins s σ H _ _ _ I r h) fun _ s1 ⟨σ1, H1, I1, q1⟩ => ?_)
    exact h2 pins s1 σ1 H1 _ _ Q I1 rr q1
/-- (a, b, ..) = a tuple of that length -/
def gTup (K : PySem.W.Frag) (n : Nat) (t : TGs) : TG := fun v σ H Q => ∃ a xs, v = .ref a ∧ SqT K H a xs ∧ xs.length = n ∧ t xs σ H Q
theorem pg_tup {es : List Expr} {k : Nat} {t : TGs} {n : Nat} (hc : X.calm = true) (h : PGs X es t)
    (hn : (assignEach es X.env).length = n := by rfl) (hst : (assignEach es X.env).findIdx? (·.1) = none := by rfl) : PG X (.Tuple es k pos) (gTup X.K n t) := by
  intro pins s σ H v u Q I r hw
  obtain ⟨a, xs, e1, hq, hl, hw⟩ := hw
  subst e1
  cases r
  obtain ⟨its, rv, ht, hz⟩ := I.tuple hq
  refine assign_Tuple_tuple (I.ok.hd hc) ht (by simp [hn, ← hl, rv.length]) hst fun h' hx => ?_
  have I1 : Inv X pins σ H { s with heap := h' } := I.kept (t' := s.toks) fun b o e => hx b o (Nat.ne_of_lt (Heap.lt_size e)) e
  exact h pins _ σ H xs _ Q I1 (by simpa using rv) hw
/-- target = value -/
def tAsg (te : TE) (g : TG) : TS := fun D σ H => te σ H fun x H1 => g x σ H1 D.nx
/-- name = value -/
theorem ps_set {i : Nat} {x : Str} {e : Expr} {te : TE} {pos' : Pos} (hN : X.N.Nodup) (hi : X.N[i]? = some x) (hx : Loc X.env.scope x) (he : PE X e te) (hs : swapsWith e (some (.Name x pos')) pos.line X.env = pure false := by rfl) (hf : X.fn x = true ∨ X.env.scope.names.lookup x = some .local := by first | exact .inl rfl | exact .inr rfl | assumption) :
    PS X (.Assign [.Name x pos'] e pos) (tAsg te (gName i)) := by
  intro pins s σ H D I h
  refine wpAny_Assign_Name (thn (he pins s σ H _ I h) fun v s1 ⟨y, H1, I1, r1, q1⟩ => ?_) hs
  exact store_ok I1 hN hi hx r1 (fun s2 I2 => ⟨_, H1, I2, q1⟩) hf
end

section
variable {X : Cx} {pos : Pos}
end

/-- at turn i: it yields x (the heap may grow), or it stops -/
structure It where
  go : Nat → Hp → Prop
  yld : Nat → Hp → V → Hp → Prop
  stop : Nat → Hp → Prop
/-- the iterator's own objects may turn: they are not the frame's, not pinned, younger than the entry (or a comprehension's own) -/
def FpOk (X : Cx) (pins : List (Addr × Obj)) (H : Hp) (b : Addr) : Prop :=
  H b = none ∧ b ≠ X.env.locals ∧ b ∉ X.fs ∧ (b ∈ X.ex ∨ X.s₀.heap.objs.size ≤ b) ∧ (∀ x c, X.env.cells.lookup x = some c → c ≠ b) ∧ ∀ p ∈ X.pn ++ pins, p.1 ≠ b
theorem Inv.fpOk {X : Cx} {pins : List (Addr × Obj)} {σ : St} {H H' : Hp} {s : Shared} {b : Addr} (I : Inv X pins σ H s) (hb : s.heap.objs.size ≤ b) (hn : H' b = none) : FpOk X pins H' b := by
  refine ⟨hn, Nat.ne_of_gt (Nat.lt_of_lt_of_le I.lt hb), I.nofs hb, .inr (Nat.le_trans I.sz hb), fun x c e z => ?_, fun p hp z => ?_⟩
  · obtain ⟨v, q⟩ := I.cell x c e
    exact absurd (Nat.lt_of_lt_of_le q.lt (by rw [z]; exact hb)) (Nat.lt_irrefl _)
  · exact absurd (Nat.lt_of_lt_of_le (Heap.lt_size (I.pin p hp).1) (by rw [z]; exact hb)) (Nat.lt_irrefl _)
structure Turn (P : Program) (w : World) (K : PySem.W.Frag) (tg : Expr) (J : It) (fp : List Addr) (it : Addr) (tn : Nat → Heap → Prop) : Prop where
  mem : it ∈ fp
  obj : ∀ i h, tn i h → ∀ b ∈ fp, ∃ o, h.get? b = some o ∧ ∀ v, o.data ≠ .cell v
  keep : ∀ i h h', tn i h → (∀ b ∈ fp, ∀ o, h.get? b = some o → h'.get? b = some o) → tn i h'
  item : ∀ (X : Cx), X.prog = P → X.w = w → X.K = K → X.calm = true → ∀ (i : Nat) (pins : List (Addr × Obj)) (s : Shared) (σ : St) (H : Hp) (E : Value → Shared → Prop), Inv X pins σ H s → (∀ b ∈ fp, FpOk X pins H b) → tn i s.heap → J.go i H →
    wpAny (model P w) X.A (pyNext (.ref it)) (fun r s1 => ∃ u, r = some u ∧
      wpAny (model P w) X.A (letOwnedTupleGo tg (.ref it) u) (fun _ s2 => ∃ x H', Inv X pins σ H' s2 ∧ RelV x u ∧ J.yld i H x H' ∧ tn (i + 1) s2.heap ∧ ∀ b ∈ fp, H' b = none) E s1) E s
  done : ∀ (X : Cx), X.prog = P → X.w = w → X.K = K → X.calm = true → ∀ (i : Nat) (pins : List (Addr × Obj)) (s : Shared) (σ : St) (H : Hp) (E : Value → Shared → Prop), Inv X pins σ H s → (∀ b ∈ fp, FpOk X pins H b) → tn i s.heap → J.stop i H →
    wpAny (model P w) X.A (pyNext (.ref it)) (fun r s1 => r = none ∧ Inv X pins σ H s1) E s
  self : ∀ (A : Around) (i : Nat) (s : Shared) (Q : Value → Shared → Prop) (E : Value → Shared → Prop), tn i s.heap → Q (.ref it) s → wpAny (model P w) A (pyIter (.ref it)) Q E s
abbrev TI := St → Hp → (It → Hp → Prop) → Prop
/-- an iterator has come -/
def PIE (X : Cx) (pins : List (Addr × Obj)) (σ : St) (tg : Expr) (R : It → Hp → Prop) (itv : Value) (s2 : Shared) : Prop :=
  ∃ (it : Addr) (fp : List Addr) (tn : Nat → Heap → Prop) (J : It) (H' : Hp), itv = .ref it ∧ Inv X pins σ H' s2 ∧ Turn X.prog X.w X.K tg J fp it tn ∧ tn 0 s2.heap ∧ (∀ b ∈ fp, FpOk X pins H' b) ∧ R J H'
def PI (X : Cx) (tg iter : Expr) (wi : TI) : Prop :=
  ∀ (pins : List (Addr × Obj)) (s : Shared) (σ : St) (H : Hp) (R : It → Hp → Prop), Inv X pins σ H s → wi σ H R →
    wpAny (model X.prog X.w) X.A (eval iter X.env) (fun v s1 => wpAny (model X.prog X.w) X.A (pyIter v) (PIE X pins σ tg R) X.xe s1) X.xe s

/-- the step ahead of the store is nothing for an iterator that keeps no tuple -/
theorem go_of {M : Model} {A : Around} {E : Value → Shared → Prop} {s : Shared} {tg : Expr} {it : Addr} {u : Value} {o : Obj} {n : String} {vs : Array Value} {Q : Unit → Shared → Prop} (ho : s.heap.get? it = some o) (hc : o.cls = .type n) (hd : o.data = .fields vs)
    (hn : ["enumerate", "zip", "dict_itemiterator", "dict_reverseitemiterator", "odict_iterator", "itertools.zip_longest", "itertools.pairwise"].contains n = false) (hQ : Q () s) : wpAny M A (letOwnedTupleGo tg (.ref it) u) Q E s := by
  unfold letOwnedTupleGo
  cases tg <;> first
    | exact wpAny_pure hQ
    | (cases u <;> first
        | exact wpAny_pure hQ
        | (refine wpAny_bind (wpAny_load ho ?_)
           rw [hc, hd]
           show wpAny M A (if (["enumerate", "zip", "dict_itemiterator", "dict_reverseitemiterator", "odict_iterator", "itertools.zip_longest", "itertools.pairwise"].contains n && vs[0]? == some (rawInt _)) = true then _ else _) Q E s
           rw [if_neg (by intro h; rw [hn, Bool.false_and] at h; cases h)]
           exact wpAny_pure hQ))

/-- the list at a, as it stands at each turn (a loop may append to it) -/
def Itl (K : PySem.W.Frag) (a : Addr) : It :=
  ⟨fun i H => ∃ xs x, SqL K H a xs ∧ xs[i]? = some x, fun i H x H' => H' = H ∧ ∀ xs, SqL K H a xs → xs[i]? = some x, fun i H => ∃ xs, SqL K H a xs ∧ xs.length ≤ i⟩
def Itt (K : PySem.W.Frag) (a : Addr) : It :=
  ⟨fun i H => ∃ xs x, SqT K H a xs ∧ xs[i]? = some x, fun i H x H' => H' = H ∧ ∀ xs, SqT K H a xs → xs[i]? = some x, fun i H => ∃ xs, SqT K H a xs ∧ xs.length ≤ i⟩
/-- lo, lo + 1, .. (n of them) -/
def Itr (lo : Int) (n : Nat) : It := ⟨fun i _ => i < n, fun i H x H' => H' = H ∧ x = .int (lo + i), fun i _ => n ≤ i⟩
theorem turn_list {P : Program} {w : World} {K : PySem.W.Frag} {tg : Expr} (a it : Addr) : Turn P w K tg (Itl K a) [it] it (fun i h => h.IsListIter it a i) where
  mem := by simp
  obj := fun i h st b hb => by
    have e : b = it := by simpa using hb
    subst e
    obtain ⟨o, e, c, d⟩ := st
    exact ⟨o, e, fun v z => by rw [d] at z; cases z⟩
  keep := fun i h h' st k => st.at fun o e => k it (by simp) o e
  item := by
    intro X hP hw hK hc i pins s σ H E I hf st hg
    subst hP hw hK
    obtain ⟨xs, x, hq, hx⟩ := hg
    obtain ⟨its, rv, p, hz⟩ := I.list hq
    obtain ⟨u, hu, ru⟩ := rv.get hx
    obtain ⟨f0, f1, f2, f3, f4, f5⟩ := hf it (by simp)
    refine wpAny_pyNext_list_item st p.isList (x := u) (by simpa using hu) fun h' st' sb => ?_
    have I1 : Inv X pins σ H { s with heap := h' } := I.turned (t' := s.toks) (fun b o hb e => (sb.2 b hb).trans e) f0 f1 f3 f4 f5
    obtain ⟨o, e, c, d⟩ := id st'
    exact ⟨u, rfl, go_of (s := { s with heap := h' }) e c d (by decide) ⟨x, H, I1, ru, ⟨rfl, fun ys hy => by rw [I.list_inj hy hq]; exact hx⟩, st', fun b hb => (hf b hb).1⟩⟩
  done := by
    intro X hP hw hK hc i pins s σ H E I hf st hg
    subst hP hw hK
    obtain ⟨xs, hq, hx⟩ := hg
    obtain ⟨its, rv, p, hz⟩ := I.list hq
    obtain ⟨f0, f1, f2, f3, f4, f5⟩ := hf it (by simp)
    have hl := rv.length
    exact wpAny_pyNext_list_end (I.ok.hd hc) st p.isList (by simp; omega) fun h' eb => ⟨rfl, I.turned (t' := s.toks) (fun b o hb e => eb b o hb e) f0 f1 f3 f4 f5⟩
  self := fun _ _ _ _ _ st h => wpAny_pyIter_listiter st h
theorem turn_tuple {P : Program} {w : World} {K : PySem.W.Frag} {tg : Expr} (a it : Addr) : Turn P w K tg (Itt K a) [it] it (fun i h => h.IsTupleIter it a i) where
  mem := by simp
  obj := fun i h st b hb => by
    have e : b = it := by simpa using hb
    subst e
    obtain ⟨o, e, c, d⟩ := st
    exact ⟨o, e, fun v z => by rw [d] at z; cases z⟩
  keep := fun i h h' st k => st.at fun o e => k it (by simp) o e
  item := by
    intro X hP hw hK hc i pins s σ H E I hf st hg
    subst hP hw hK
    obtain ⟨xs, x, hq, hx⟩ := hg
    obtain ⟨its, rv, p, hz⟩ := I.tuple hq
    obtain ⟨u, hu, ru⟩ := rv.get hx
    obtain ⟨f0, f1, f2, f3, f4, f5⟩ := hf it (by simp)
    refine wpAny_pyNext_tuple_item st (show s.heap.IsTuple a its.toArray from p) (x := u) (by simpa using hu) fun h' st' sb => ?_
    have I1 : Inv X pins σ H { s with heap := h' } := I.turned (t' := s.toks) (fun b o hb e => (sb.2 b hb).trans e) f0 f1 f3 f4 f5
    obtain ⟨o, e, c, d⟩ := id st'
    exact ⟨u, rfl, go_of (s := { s with heap := h' }) e c d (by decide) ⟨x, H, I1, ru, ⟨rfl, fun ys hy => by rw [I.tuple_inj hy hq]; exact hx⟩, st', fun b hb => (hf b hb).1⟩⟩
  done := by
    intro X hP hw hK hc i pins s σ H E I hf st hg
    subst hP hw hK
    obtain ⟨xs, hq, hx⟩ := hg
    obtain ⟨its, rv, p, hz⟩ := I.tuple hq
    obtain ⟨f0, f1, f2, f3, f4, f5⟩ := hf it (by simp)
    have hl := rv.length
    exact wpAny_pyNext_tuple_end (I.ok.hd hc) st (show s.heap.IsTuple a its.toArray from p) (by simp; omega) fun h' eb => ⟨rfl, I.turned (t' := s.toks) (fun b o hb e => eb b o hb e) f0 f1 f3 f4 f5⟩
  self := fun _ _ _ _ _ st h => wpAny_pyIter_tupleiter st h
theorem turn_range {P : Program} {w : World} {K : PySem.W.Frag} {tg : Expr} (it : Addr) (lo : Int) (n : Nat) : Turn P w K tg (Itr lo n) [it] it (fun i h => IsRangeIter h it (lo + (i : Nat) * 1) ((n : Int) - (i : Nat)) 1) where
  mem := by simp
  obj := fun i h st b hb => by
    have e : b = it := by simpa using hb
    subst e
    exact ⟨_, st, fun v z => by
      have z' : Data.fields _ = Data.cell v := z
      cases z'⟩
  keep := fun i h h' st k => k it (by simp) _ st
  item := by
    intro X hP hw hK hc i pins s σ H E I hf st hg
    subst hP hw hK
    obtain ⟨f0, f1, f2, f3, f4, f5⟩ := hf it (by simp)
    have W := Walks.range (prog := X.prog) (w := X.w) (I.ok.hd hc) it lo 1 n
    refine W.item i s _ _ hg st fun v h' tk hv st' kk => ?_
    obtain ⟨t, rfl⟩ := hv
    have I1 : Inv X pins σ H { s with heap := h', toks := tk } := I.turned (fun b o hb e => kk b o (by simpa using hb) e) f0 f1 f3 f4 f5
    refine ⟨_, rfl, go_of (s := { s with heap := h', toks := tk }) (n := "range_iterator") st' rfl rfl (by decide) ⟨.int (lo + i), H, I1, ⟨t, ?_⟩, ⟨rfl, rfl⟩, st', fun b hb => (hf b hb).1⟩⟩
    rw [Int.mul_one]
  done := by
    intro X hP hw hK hc i pins s σ H E I hf st hg
    subst hP hw hK
    obtain ⟨f0, f1, f2, f3, f4, f5⟩ := hf it (by simp)
    exact wpAny_pyNext_range_end (I.ok.hd hc) st (by have : n ≤ i := hg; omega) fun h' eb => ⟨rfl, I.turned (t' := s.toks) (fun b o hb e => eb b o hb e) f0 f1 f3 f4 f5⟩
  self := fun _ _ _ _ _ st h => wpAny_pyIter_rangeiter st h
end L2

namespace L2
open PySem PySem.Spec PyProof.Rows
section
variable {X : Cx} {tg : Expr}
/-- a range object just made, walked -/
theorem range_it {pins : List (Addr × Obj)} {σ : St} {H : Hp} {s : Shared} {R : It → Hp → Prop} {E : Value → Shared → Prop} {lo hi : Int} {t u v : Tok} {tk : Nat} (I : Inv X pins σ H s) (h1 : -(2 ^ 62) ≤ lo) (h2 : lo < 2 ^ 62) (h3 : -(2 ^ 62) ≤ hi) (h4 : hi < 2 ^ 62)
    (q : R (Itr lo (hi - lo).toNat) H) : wpAny (model X.prog X.w) X.A (pyIter (.ref s.heap.objs.size)) (PIE X pins σ tg R) E { s with heap := s.heap.push { cls := .type "range", data := .fields #[.int lo t, .int hi u, .int 1 v] }, toks := tk } := by
  refine wpAny_pyIter_range (IsRange.new ..) (small_one h1 h2 h3 h4) ?_
  have I1 : Inv X pins σ H { s with heap := s.heap.push { cls := .type "range", data := .fields #[.int lo t, .int hi u, .int 1 v] }, toks := tk } := I.kept fun b o e => Heap.get?_push_of_some _ e
  refine ⟨(s.heap.push { cls := .type "range", data := .fields #[.int lo t, .int hi u, .int 1 v] }).objs.size, [(s.heap.push { cls := .type "range", data := .fields #[.int lo t, .int hi u, .int 1 v] }).objs.size], _, _, H, rfl,
    I1.kept (t' := tk) fun b o e => Heap.get?_push_of_some _ e, turn_range _ lo (hi - lo).toNat, ?_, fun b hb => ?_, q⟩
  · have e1 : lo + ((0 : Nat) : Int) * 1 = lo := by simp
    have e2 : (((hi - lo).toNat : Nat) : Int) - ((0 : Nat) : Int) = Builtin.Range.rangeSize lo hi 1 := by rw [rangeSize_one]; split <;> omega
    show IsRangeIter _ _ (lo + ((0 : Nat) : Int) * 1) ((((hi - lo).toNat : Nat) : Int) - ((0 : Nat) : Int)) 1
    rw [e1, e2]
    exact Heap.get?_push_size _ rfl
  · have e : b = (s.heap.push { cls := .type "range", data := .fields #[.int lo t, .int hi u, .int 1 v] }).objs.size := by simpa using hb
    subst e
    exact I1.fpOk (Nat.le_refl _) (I1.hok.fresh (Nat.le_refl _))
def iRng1 (ta : TA) : TI := fun σ H R => ta σ H fun vs H1 => ∃ j : Int, vs = [.int j] ∧ -(2 ^ 62) ≤ j ∧ j < 2 ^ 62 ∧ R (Itr 0 j.toNat) H1
theorem pi_range1 {a : Expr} {ta : TA} {p pos : Pos} (hg : Gl X "range") (hm : X.mg "range" = none) (ha : PA X [a] ta) (hs : starEach [a] X.env = [(false, eval a X.env)] := by rfl) : PI X tg (.Call (.Name "range" p) [a] [] pos) (iRng1 ta) := by
  intro pins s σ H R I h
  refine Call_ (ld_blt I hg hm boot_range (PyProof.Rows.callWith_type1 (thn (ha pos pins s σ H _ I h) fun us s1 ⟨vs, H1, I1, r1, q1⟩ => ?_) hs rfl))
  obtain ⟨j, e, q1, q2, q⟩ := q1
  subst e
  cases r1 with
  | cons r rr =>
    cases rr
    obtain ⟨t, rfl⟩ := r
    exact call_range_1 (range_it I1 (by omega) (by omega) q1 q2 (by simpa using q))
/-- W: the invariant by the turn and a measure; N: what the body is to reach -/
def tFor (wi : TI) (g : TG) (tb : TS) : TS := fun D σ H => wi σ H fun J H1 => ∃ W : Nat → Nat → St → Hp → Prop, (∃ m, W 0 m σ H1) ∧ ∀ i m σ H, W i m σ H →
  (J.stop i H ∧ D.nx σ H) ∨ (J.go i H ∧ ∃ N : St → Hp → Prop, (∀ σ' H', N σ' H' → ∃ m', m' < m ∧ W (i + 1) m' σ' H') ∧ ∀ x H', J.yld i H x H' → g x σ H' fun σ2 H2 => tb { D with nx := N, ct := N, bk := D.nx } σ2 H2)
/-- the records at fp as they stand -/
def pinsAt (fp : List Addr) (h : Heap) : List (Addr × Obj) := fp.filterMap fun b => (h.get? b).map fun o => (b, o)
theorem mem_pinsAt {fp : List Addr} {h : Heap} {b : Addr} {o : Obj} (hb : b ∈ fp) (e : h.get? b = some o) : (b, o) ∈ pinsAt fp h := List.mem_filterMap.mpr ⟨b, hb, by rw [e]; rfl⟩
theorem of_pinsAt {fp : List Addr} {h : Heap} {p : Addr × Obj} (hp : p ∈ pinsAt fp h) : p.1 ∈ fp ∧ h.get? p.1 = some p.2 := by
  obtain ⟨b, hb, e⟩ := List.mem_filterMap.mp hp
  cases q : h.get? b with
  | none => rw [q] at e; cases e
  | some o =>
    rw [q] at e
    have e' : (b, o) = p := Option.some.inj e
    subst e'
    exact ⟨hb, q⟩
theorem Inv.pinned {pins : List (Addr × Obj)} {σ : St} {H : Hp} {s : Shared} {fp : List Addr} (I : Inv X pins σ H s) (hf : ∀ b ∈ fp, FpOk X pins H b) (ho : ∀ b ∈ fp, ∃ o, s.heap.get? b = some o ∧ ∀ v, o.data ≠ .cell v) : Inv X (pins ++ pinsAt fp s.heap) σ H s :=
  I.pins_of fun p hp => (List.mem_append.mp hp).elim (fun z => I.pin p (List.mem_append_right _ z)) fun z => by
    obtain ⟨hb, e⟩ := of_pinsAt z
    obtain ⟨f0, f1, f2, _⟩ := hf p.1 hb
    obtain ⟨o, e', d⟩ := ho p.1 hb
    rw [e] at e'; cases e'
    exact ⟨e, f0, f1, f2, d⟩
theorem Inv.unpinned {pins pl : List (Addr × Obj)} {σ : St} {H : Hp} {s : Shared} (I : Inv X (pins ++ pl) σ H s) : Inv X pins σ H s := I.pins_of fun p hp => I.pin p (List.mem_append_right _ (List.mem_append_left _ hp))
theorem ps_for {iter : Expr} {body : List Stmt} {wi : TI} {g : TG} {tb : TS} {pos : Pos} (hp : PassesOwn (model X.prog X.w) X.A X.env X.xe) (hc : X.calm = true) (hi : PI X tg iter wi) (hg : PG X tg g) (hb : PSs X body tb)
    (hs : ∀ x, foldedSetIterable iter X.env x = pure x := by intro _; rfl) : PS X (.For tg iter body [] pos) (tFor wi g tb) := by
  intro pins s σ H D I h
  refine wpAny_For (thn (hi pins s σ H _ I h) fun v s1 h1 => thn h1 fun itv s2 h2 => ?_) hs
  obtain ⟨it, fp, tn, J, H2, e, I2, T, st2, f2, W, ⟨m0, w0⟩, turn⟩ := h2
  subst e
  -- what stays true of the iterator's objects through the loop
  have stat : ∀ {H' : Hp}, (∀ b ∈ fp, H' b = none) → ∀ b ∈ fp, FpOk X pins H' b := fun hn b hb => ⟨hn b hb, (f2 b hb).2⟩
  refine codeAny_forLoop_any (fun n s' => ∃ i σ' H', Inv X pins σ' H' s' ∧ tn i s'.heap ∧ (∀ b ∈ fp, H' b = none) ∧ W i n σ' H') ?_ m0 ⟨0, σ, H2, I2, st2, fun b hb => (f2 b hb).1, w0⟩
  rintro n s3 ⟨i, σ3, H3, I3, st3, fr3, w3⟩
  rcases turn i n σ3 H3 w3 with ⟨stop, qn⟩ | ⟨go, N, hN, step⟩
  · refine wpAny_passesOwn hp (thn (T.done X rfl rfl rfl hc i pins s3 σ3 H3 X.xe I3 (stat fr3) st3 stop) fun r s4 ⟨hr, I4⟩ => ?_)
    subst hr
    exact wpAny_execs_nil ⟨σ3, H3, I4, qn⟩
  · refine wpAny_passesOwn hp (thn (T.item X rfl rfl rfl hc i pins s3 σ3 H3 X.xe I3 (stat fr3) st3 go) fun r s4 ⟨u, hr, h4⟩ => ?_)
    subst hr
    refine wpAny_passesOwn hp (thn h4 fun _ s5 ⟨x, H5, I5, r5, y5, st5, fr5⟩ => ?_)
    have I5' := I5.pinned (stat fr5) (T.obj _ _ st5)
    refine wpAny_passesOwn hp (thn (hg _ s5 σ3 H5 x u _ I5' r5 (step x H5 y5)) fun _ s6 ⟨σ6, H6, I6, q6⟩ => ?_)
    refine wpAny_passesOwn hp (thn (hb _ s6 σ6 H6 _ I6 q6) fun f s7 q7 => ?_)
    have again : ∀ {σ7 : St} {H7 : Hp}, Inv X (pins ++ pinsAt fp s5.heap) σ7 H7 s7 → N σ7 H7 → ∃ m, m < n ∧ ∃ i σ' H', Inv X pins σ' H' s7 ∧ tn i s7.heap ∧ (∀ b ∈ fp, H' b = none) ∧ W i m σ' H' := fun {σ7 H7} I7 n7 => by
      obtain ⟨m', hm, w7⟩ := hN σ7 H7 n7
      refine ⟨m', hm, i + 1, σ7, H7, I7.unpinned, T.keep _ _ _ st5 fun b hb o e => (I7.pin (b, o) (List.mem_append_right _ (List.mem_append_right _ (mem_pinsAt hb e)))).1, fun b hb => ?_, w7⟩
      obtain ⟨o, e, d⟩ := T.obj _ _ st5 b hb
      exact (I7.pin (b, o) (List.mem_append_right _ (List.mem_append_right _ (mem_pinsAt hb e)))).2.1
    cases f with
    | next => obtain ⟨σ7, H7, I7, n7⟩ := q7; exact again I7 n7
    | cont => obtain ⟨σ7, H7, I7, n7⟩ := q7; exact again I7 n7
    | brk => obtain ⟨σ7, H7, I7, q7⟩ := q7; exact ⟨σ7, H7, I7.unpinned, q7⟩
    | ret v => obtain ⟨x7, σ7, H7, I7, r7, q7⟩ := q7; exact ⟨x7, σ7, H7, I7.unpinned, r7, q7⟩
end

/-- over a list that the body leaves as it is -/
theorem for_list {K : PySem.W.Frag} {a : Addr} {xs : List V} {g : TG} {tb : TS} {D : Ends} {σ : St} {H : Hp} (Pv : Nat → St → Hp → Prop) (h0 : Pv 0 σ H) (hl : ∀ i σ H, i ≤ xs.length → Pv i σ H → SqL K H a xs)
    (hs : ∀ i x σ H, xs[i]? = some x → Pv i σ H → g x σ H fun σ2 H2 => tb { D with nx := Pv (i + 1), ct := Pv (i + 1), bk := D.nx } σ2 H2) (hd : ∀ σ H, Pv xs.length σ H → D.nx σ H) :
    ∃ W : Nat → Nat → St → Hp → Prop, (∃ m, W 0 m σ H) ∧ ∀ i m σ H, W i m σ H →
      ((Itl K a).stop i H ∧ D.nx σ H) ∨ ((Itl K a).go i H ∧ ∃ N : St → Hp → Prop, (∀ σ' H', N σ' H' → ∃ m', m' < m ∧ W (i + 1) m' σ' H') ∧ ∀ x H', (Itl K a).yld i H x H' → g x σ H' fun σ2 H2 => tb { D with nx := N, ct := N, bk := D.nx } σ2 H2) := by
  refine ⟨fun i m σ H => m = xs.length - i ∧ i ≤ xs.length ∧ Pv i σ H, ⟨xs.length, by simp, Nat.zero_le _, h0⟩, ?_⟩
  rintro i m σ H ⟨rfl, hi, p⟩
  have q := hl i σ H hi p
  by_cases hlt : i < xs.length
  · refine .inr ⟨⟨xs, xs[i], q, by simp [hlt]⟩, Pv (i + 1), fun σ' H' p' => ⟨xs.length - (i + 1), by omega, rfl, hlt, p'⟩, fun x H' y => ?_⟩
    obtain ⟨e, y⟩ := y
    subst e
    exact hs i x σ _ (y xs q) p
  · have e : i = xs.length := by omega
    subst e
    exact .inl ⟨⟨xs, q, Nat.le_refl _⟩, hd σ H p⟩
theorem for_tup {K : PySem.W.Frag} {a : Addr} {xs : List V} {g : TG} {tb : TS} {D : Ends} {σ : St} {H : Hp} (Pv : Nat → St → Hp → Prop) (h0 : Pv 0 σ H) (hl : ∀ i σ H, i ≤ xs.length → Pv i σ H → SqT K H a xs)
    (hs : ∀ i x σ H, xs[i]? = some x → Pv i σ H → g x σ H fun σ2 H2 => tb { D with nx := Pv (i + 1), ct := Pv (i + 1), bk := D.nx } σ2 H2) (hd : ∀ σ H, Pv xs.length σ H → D.nx σ H) :
    ∃ W : Nat → Nat → St → Hp → Prop, (∃ m, W 0 m σ H) ∧ ∀ i m σ H, W i m σ H →
      ((Itt K a).stop i H ∧ D.nx σ H) ∨ ((Itt K a).go i H ∧ ∃ N : St → Hp → Prop, (∀ σ' H', N σ' H' → ∃ m', m' < m ∧ W (i + 1) m' σ' H') ∧ ∀ x H', (Itt K a).yld i H x H' → g x σ H' fun σ2 H2 => tb { D with nx := N, ct := N, bk := D.nx } σ2 H2) := by
  refine ⟨fun i m σ H => m = xs.length - i ∧ i ≤ xs.length ∧ Pv i σ H, ⟨xs.length, by simp, Nat.zero_le _, h0⟩, ?_⟩
  rintro i m σ H ⟨rfl, hi, p⟩
  have q := hl i σ H hi p
  by_cases hlt : i < xs.length
  · refine .inr ⟨⟨xs, xs[i], q, by simp [hlt]⟩, Pv (i + 1), fun σ' H' p' => ⟨xs.length - (i + 1), by omega, rfl, hlt, p'⟩, fun x H' y => ?_⟩
    obtain ⟨e, y⟩ := y
    subst e
    exact hs i x σ _ (y xs q) p
  · have e : i = xs.length := by omega
    subst e
    exact .inl ⟨⟨xs, q, Nat.le_refl _⟩, hd σ H p⟩
theorem for_range {lo : Int} {n : Nat} {g : TG} {tb : TS} {D : Ends} {σ : St} {H : Hp} (Pv : Nat → St → Hp → Prop) (h0 : Pv 0 σ H)
    (hs : ∀ i σ H, i < n → Pv i σ H → g (.int (lo + i)) σ H fun σ2 H2 => tb { D with nx := Pv (i + 1), ct := Pv (i + 1), bk := D.nx } σ2 H2) (hd : ∀ σ H, Pv n σ H → D.nx σ H) :
    ∃ W : Nat → Nat → St → Hp → Prop, (∃ m, W 0 m σ H) ∧ ∀ i m σ H, W i m σ H →
      ((Itr lo n).stop i H ∧ D.nx σ H) ∨ ((Itr lo n).go i H ∧ ∃ N : St → Hp → Prop, (∀ σ' H', N σ' H' → ∃ m', m' < m ∧ W (i + 1) m' σ' H') ∧ ∀ x H', (Itr lo n).yld i H x H' → g x σ H' fun σ2 H2 => tb { D with nx := N, ct := N, bk := D.nx } σ2 H2) := by
  refine ⟨fun i m σ H => m = n - i ∧ i ≤ n ∧ Pv i σ H, ⟨n, by simp, Nat.zero_le _, h0⟩, ?_⟩
  rintro i m σ H ⟨rfl, hi, p⟩
  by_cases hlt : i < n
  · refine .inr ⟨hlt, Pv (i + 1), fun σ' H' p' => ⟨n - (i + 1), by omega, rfl, hlt, p'⟩, fun x H' y => ?_⟩
    obtain ⟨e, y⟩ := y
    subst e y
    exact hs i σ _ hlt p
  · have e : i = n := by omega
    subst e
    exact .inl ⟨Nat.le_refl _, hd σ H p⟩
end L2

namespace L2
open PySem PySem.Spec PyProof.Rows

abbrev R2 := V → V → Hp → VK → Prop
/-- a two-place operation on values: f is binaryOp op, inplaceOp op or compareOp op -/
def OpR (X : Cx) (f : Value → Value → Sem Value) (r : R2) : Prop :=
  ∀ (pins : List (Addr × Obj)) (s : Shared) (σ : St) (H : Hp) (x y : V) (v u : Value) (Q : VK), Inv X pins σ H s → RelV x v → RelV y u → r x y H Q →
    wpAny (model X.prog X.w) X.A (f v u) (EP X pins σ Q) X.xe s
/-- a one-place operation -/
def UnR (X : Cx) (f : Value → Sem Value) (r : V → Hp → VK → Prop) : Prop :=
  ∀ (pins : List (Addr × Obj)) (s : Shared) (σ : St) (H : Hp) (x : V) (v : Value) (Q : VK), Inv X pins σ H s → RelV x v → r x H Q →
    wpAny (model X.prog X.w) X.A (f v) (EP X pins σ Q) X.xe s
/-- a call of a value that is known (a builtin, a type) with values -/
def CallR (X : Cx) (f : Value) (r : List V → Hp → VK → Prop) : Prop :=
  ∀ (pins : List (Addr × Obj)) (s : Shared) (σ : St) (H : Hp) (xs : List V) (us : List Value) (Q : VK), Inv X pins σ H s → Vals xs us → r xs H Q →
    wpAny (model X.prog X.w) X.A (call f us) (EP X pins σ Q) X.xe s
/-- a value's truth -/
def TruR (X : Cx) (r : V → Hp → (Bool → Hp → Prop) → Prop) : Prop :=
  ∀ (pins : List (Addr × Obj)) (s : Shared) (σ : St) (H : Hp) (x : V) (v : Value) (Q : Bool → Hp → Prop), Inv X pins σ H s → RelV x v → r x H Q →
    wpAny (model X.prog X.w) X.A (truthy v) (TP X pins σ Q) X.xe s

def tOp (r : R2) (ta tb : TE) : TE := fun σ H Q => ta σ H fun x H1 => tb σ H1 fun y H2 => r x y H2 Q
def tUn (r : V → Hp → VK → Prop) (ta : TE) : TE := fun σ H Q => ta σ H fun x H1 => r x H1 Q
/-- ints in, under C, and a value out -/
def rI (C : Int → Int → Prop) (g : Int → Int → V) : R2 := fun x y H Q => ∃ i j, x = .int i ∧ y = .int j ∧ C i j ∧ Q (g i j) H
def rI0 (g : Int → Int → V) : R2 := fun x y H Q => ∃ i j, x = .int i ∧ y = .int j ∧ Q (g i j) H
def rU (g : Int → V) : V → Hp → VK → Prop := fun x H Q => ∃ i, x = .int i ∧ Q (g i) H

section
variable {X : Cx} {a b c : Expr} {ta tb tc : TE} {pos : Pos}

theorem binT (ha : PE X a ta) (hb : PE X b tb) {pins : List (Addr × Obj)} {s : Shared} {σ : St} {H : Hp} {R : V → V → Hp → Prop} (I : Inv X pins σ H s)
    (h : ta σ H fun x H1 => tb σ H1 fun y H2 => R x y H2) {Q : Value → Shared → Prop} {f : Value → Value → Sem Value}
    (hf : ∀ v u s2 x y H2, Inv X pins σ H2 s2 → RelV x v → RelV y u → R x y H2 → wpAny (model X.prog X.w) X.A (f v u) Q X.xe s2) :
    wpAny (model X.prog X.w) X.A (eval a X.env) (fun v s₁ => wpAny (model X.prog X.w) X.A (eval b X.env) (fun u s₂ => wpAny (model X.prog X.w) X.A (f v u) Q X.xe s₂) X.xe s₁) X.xe s := by
  refine thn (ha pins s σ H _ I h) fun v s1 ⟨x, H1, I1, r1, q1⟩ => ?_
  refine thn (hb pins s1 σ H1 _ I1 q1) fun u s2 ⟨y, H2, I2, r2, q2⟩ => ?_
  exact hf v u s2 x y H2 I2 r1 r2 q2

theorem pe_op {op : Operator} {r : R2} (ho : OpR X (binaryOp op) r) (ha : PE X a ta) (hb : PE X b tb) : PE X (.BinOp a op b pos) (tOp r ta tb) := by
  intro pins s σ H Q I h
  exact wpAny_BinOp (binT ha hb I h fun v u s2 x y H2 I2 rx ry q => ho pins s2 σ H2 x y v u Q I2 rx ry q)
theorem pe_un {op : UnaryOp} {r : V → Hp → VK → Prop} (ho : UnR X (unaryOp op) r) (ha : PE X a ta) : PE X (.UnaryOp op a pos) (tUn r ta) := by
  intro pins s σ H Q I h
  exact UnaryOp_ (thn (ha pins s σ H _ I h) fun v s1 ⟨x, H1, I1, r1, q1⟩ => ho pins s1 σ H1 x v Q I1 r1 q1)
theorem opI {f : Value → Value → Sem Value} {C : Int → Int → Prop} {g : Int → Int → Int}
    (rule : ∀ (i j : Int) (t u : Tok) (s : Shared) (Q : Value → Shared → Prop) (E : Value → Shared → Prop), C i j → Q (.int (g i j) s.toks) { s with toks := s.toks + 1 } → wpAny (model X.prog X.w) X.A (f (.int i t) (.int j u)) Q E s) :
    OpR X f (rI C fun i j => .int (g i j)) := by
  intro pins s σ H x y v u Q I rx ry h
  obtain ⟨i, j, rfl, rfl, hc, q⟩ := h
  obtain ⟨t, rfl⟩ := rx
  obtain ⟨t', rfl⟩ := ry
  exact rule i j t t' s _ _ hc ⟨.int (g i j), H, I.tok _, ⟨_, rfl⟩, q⟩
theorem opI0 {f : Value → Value → Sem Value} {g : Int → Int → Int}
    (rule : ∀ (i j : Int) (t u : Tok) (s : Shared) (Q : Value → Shared → Prop) (E : Value → Shared → Prop), Q (.int (g i j) s.toks) { s with toks := s.toks + 1 } → wpAny (model X.prog X.w) X.A (f (.int i t) (.int j u)) Q E s) :
    OpR X f (rI0 fun i j => .int (g i j)) := by
  intro pins s σ H x y v u Q I rx ry h
  obtain ⟨i, j, rfl, rfl, q⟩ := h
  obtain ⟨t, rfl⟩ := rx
  obtain ⟨t', rfl⟩ := ry
  exact rule i j t t' s _ _ ⟨.int (g i j), H, I.tok _, ⟨_, rfl⟩, q⟩
theorem opB0 {f : Value → Value → Sem Value} {g : Int → Int → Bool}
    (rule : ∀ (i j : Int) (t u : Tok) (s : Shared) (Q : Value → Shared → Prop) (E : Value → Shared → Prop), Q (.bool (g i j)) s → wpAny (model X.prog X.w) X.A (f (.int i t) (.int j u)) Q E s) :
    OpR X f (rI0 fun i j => .bl (g i j)) := by
  intro pins s σ H x y v u Q I rx ry h
  obtain ⟨i, j, rfl, rfl, q⟩ := h
  obtain ⟨t, rfl⟩ := rx
  obtain ⟨t', rfl⟩ := ry
  exact rule i j t t' s _ _ ⟨.bl (g i j), H, I, rfl, q⟩

def CPow (i j : Int) : Prop := 0 ≤ j ∧ j ≤ 1000000 ∧ i.natAbs < 2 ^ 64
def CMul (i j : Int) : Prop := (-(2 ^ 64) < i ∧ i < 2 ^ 64) ∨ (-(2 ^ 64) < j ∧ j < 2 ^ 64)
theorem CMul.ok {i j : Int} (h : CMul i j) : IntMulOk i j := by
  rcases h with ⟨h1, h2⟩ | ⟨h1, h2⟩
  · exact .of_left (intBits_le_64 h1 h2)
  · exact .of_right (intBits_le_64 h1 h2)
theorem two_pow_nn (k : Nat) : (0 : Int) ≤ 2 ^ k := by
  rw [two_pow_cast]
  exact Int.natCast_nonneg _

theorem op_add : OpR X (binaryOp .Add) (rI0 fun i j => .int (i + j)) := opI0 fun _ _ _ _ _ _ _ q => add_int q
theorem op_sub : OpR X (binaryOp .Sub) (rI0 fun i j => .int (i - j)) := opI0 fun _ _ _ _ _ _ _ q => sub_int q
theorem op_mul : OpR X (binaryOp .Mult) (rI CMul fun i j => .int (i * j)) := opI fun _ _ _ _ _ _ _ hc q => mul_int q hc.ok
/-- % by a positive divisor of any size -/
theorem op_mod : OpR X (binaryOp .Mod) (rI (fun _ j => 0 < j) fun i j => .int (i % j)) := opI fun i j _ _ _ _ _ hc q => by
  have h1 : (0 : Int) < j := hc
  exact mod_int' (by omega) (by rw [Int.fmod_eq_emod_of_nonneg i (by omega)]; exact q)
theorem op_shl : OpR X (binaryOp .LShift) (rI CPow fun i j => .int (i * 2 ^ j.toNat)) := opI fun _ _ _ _ _ _ _ hc q => lshift_int_small hc.1 hc.2.1 hc.2.2 q
theorem op_shr : OpR X (binaryOp .RShift) (rI (fun _ j => 0 ≤ j) fun i j => .int (i / 2 ^ j.toNat)) := opI fun i j _ _ _ _ _ hc q =>
  rshift_int hc (by rw [Int.fdiv_eq_ediv_of_nonneg i (two_pow_nn _)]; exact q)
theorem op_and : OpR X (binaryOp .BitAnd) (rI0 fun i j => .int (Builtin.bitAnd i j)) := opI0 fun _ _ _ _ _ _ _ q => and_int q
theorem op_or : OpR X (binaryOp .BitOr) (rI0 fun i j => .int (Builtin.bitOr i j)) := opI0 fun _ _ _ _ _ _ _ q => or_int q
theorem op_xor : OpR X (binaryOp .BitXor) (rI0 fun i j => .int (Builtin.bitXor i j)) := opI0 fun _ _ _ _ _ _ _ q => xor_int q

theorem unI {f : Value → Sem Value} {g : Int → Int}
    (rule : ∀ (i : Int) (t : Tok) (s : Shared) (Q : Value → Shared → Prop) (E : Value → Shared → Prop), Q (.int (g i) s.toks) { s with toks := s.toks + 1 } → wpAny (model X.prog X.w) X.A (f (.int i t)) Q E s) :
    UnR X f (rU fun i => .int (g i)) := by
  intro pins s σ H x v Q I rx h
  obtain ⟨i, rfl, q⟩ := h
  obtain ⟨t, rfl⟩ := rx
  exact rule i t s _ _ ⟨.int (g i), H, I.tok _, ⟨_, rfl⟩, q⟩
theorem un_neg : UnR X (unaryOp .USub) (rU fun i => .int (-i)) := unI fun _ _ _ _ _ q => neg_int q
theorem un_inv : UnR X (unaryOp .Invert) (rU fun i => .int (Builtin.bitNot i)) := unI fun _ _ _ _ _ q => invert_int q

end

/-- the scalars that == tells apart as data does -/
def scal : V → V → Bool
  | .non, .non => true | .non, .int _ => true | .int _, .non => true | .non, .bl _ => true | .bl _, .non => true | .non, .str _ => true | .str _, .non => true
  | .int _, .int _ => true | .bl _, .bl _ => true | .str _, .str _ => true | .byt _, .byt _ => true
  | .int _, .str _ => true | .str _, .int _ => true | .bl _, .str _ => true | .str _, .bl _ => true
  | _, _ => false
def rEq : R2 := fun x y H Q => scal x y = true ∧ Q (.bl (decide (x = y))) H
def rNe : R2 := fun x y H Q => scal x y = true ∧ Q (.bl (!decide (x = y))) H

theorem dec_int {i j : Int} : decide (V.int i = V.int j) = (i == j) := by
  rw [Bool.eq_iff_iff]
  simp
theorem dec_bl {i j : Bool} : decide (V.bl i = V.bl j) = (i == j) := by
  rw [Bool.eq_iff_iff]
  simp
theorem dec_str {i j : Str} : decide (V.str i = V.str j) = (i == j) := by
  rw [Bool.eq_iff_iff]
  simp
theorem dec_byt {i j : Array UInt8} : decide (V.byt i = V.byt j) = (i.toList == j.toList) := by
  rw [Bool.eq_iff_iff]
  cases i
  cases j
  simp

section
variable {X : Cx} {a b c : Expr} {ta tb tc : TE} {pos : Pos}
theorem fin_bl {pins : List (Addr × Obj)} {σ : St} {H : Hp} {s : Shared} {Q : VK} {k k' : Bool} (I : Inv X pins σ H s) (q : Q (.bl k) H) (e : k = k') : EP X pins σ Q (.bool k') s := by
  subst e
  exact ⟨.bl k, H, I, rfl, q⟩
theorem op_eq : OpR X (compareOp .Eq) rEq := by
  intro pins s σ H x y v u Q I rx ry h
  obtain ⟨hs, q⟩ := h
  cases x with
  | non =>
    cases rx
    cases y with
    | non => cases ry; exact PySem.EqNone.eq_none_none (fin_bl I q (by simp))
    | bl j => cases ry; exact PySem.EqNone.eq_none_bool (fin_bl I q (by simp))
    | int j => obtain ⟨t', rfl⟩ := ry; exact PySem.EqNone.eq_none_int (fin_bl I q (by simp))
    | str j => obtain ⟨t', rfl⟩ := ry; exact PySem.EqNone.eq_none_str (fin_bl I q (by simp))
    | _ => exact absurd (show false = true from hs) Bool.false_ne_true
  | bl i =>
    cases rx
    cases y with
    | non => cases ry; exact PySem.EqNone.eq_bool_none (fin_bl I q (by simp))
    | bl j => cases ry; exact eq_bool (fin_bl I q dec_bl)
    | str j => obtain ⟨t', rfl⟩ := ry; exact PySem.EqMixed.eq_bool_str (fin_bl I q (by simp))
    | _ => exact absurd (show false = true from hs) Bool.false_ne_true
  | int i =>
    obtain ⟨t, rfl⟩ := rx
    cases y with
    | non => cases ry; exact PySem.EqNone.eq_int_none (fin_bl I q (by simp))
    | int j => obtain ⟨t', rfl⟩ := ry; exact eq_int (fin_bl I q dec_int)
    | str j => obtain ⟨t', rfl⟩ := ry; exact PySem.EqMixed.eq_int_str (fin_bl I q (by simp))
    | _ => exact absurd (show false = true from hs) Bool.false_ne_true
  | str i =>
    obtain ⟨t, rfl⟩ := rx
    cases y with
    | non => cases ry; exact PySem.EqNone.eq_str_none (fin_bl I q (by simp))
    | bl j => cases ry; exact PySem.EqMixed.eq_str_bool (fin_bl I q (by simp))
    | int j => obtain ⟨t', rfl⟩ := ry; exact PySem.EqMixed.eq_str_int (fin_bl I q (by simp))
    | str j => obtain ⟨t', rfl⟩ := ry; exact eq_str (fin_bl I q dec_str)
    | _ => exact absurd (show false = true from hs) Bool.false_ne_true
  | byt i =>
    obtain ⟨t, rfl⟩ := rx
    cases y with
    | byt j => obtain ⟨t', rfl⟩ := ry; exact PySem.W.eq_bytes (fin_bl I q dec_byt)
    | _ => exact absurd (show false = true from hs) Bool.false_ne_true
  | _ => cases y <;> exact absurd (show false = true from hs) Bool.false_ne_true
theorem op_ne : OpR X (compareOp .NotEq) rNe := by
  intro pins s σ H x y v u Q I rx ry h
  obtain ⟨hs, q⟩ := h
  cases x with
  | non =>
    cases rx
    cases y with
    | non => cases ry; exact PySem.EqNone.ne_none_none (fin_bl I q (by simp))
    | bl j => cases ry; exact PySem.EqNone.ne_none_bool (fin_bl I q (by simp))
    | int j => obtain ⟨t', rfl⟩ := ry; exact PySem.EqNone.ne_none_int (fin_bl I q (by simp))
    | str j => obtain ⟨t', rfl⟩ := ry; exact PySem.EqNone.ne_none_str (fin_bl I q (by simp))
    | _ => exact absurd (show false = true from hs) Bool.false_ne_true
  | bl i =>
    cases rx
    cases y with
    | non => cases ry; exact PySem.EqNone.ne_bool_none (fin_bl I q (by simp))
    | bl j => cases ry; exact ne_bool (fin_bl I q (congrArg not dec_bl))
    | str j => obtain ⟨t', rfl⟩ := ry; exact PySem.EqMixed.ne_bool_str (fin_bl I q (by simp))
    | _ => exact absurd (show false = true from hs) Bool.false_ne_true
  | int i =>
    obtain ⟨t, rfl⟩ := rx
    cases y with
    | non => cases ry; exact PySem.EqNone.ne_int_none (fin_bl I q (by simp))
    | int j => obtain ⟨t', rfl⟩ := ry; exact ne_int (fin_bl I q (congrArg not dec_int))
    | str j => obtain ⟨t', rfl⟩ := ry; exact PySem.EqMixed.ne_int_str (fin_bl I q (by simp))
    | _ => exact absurd (show false = true from hs) Bool.false_ne_true
  | str i =>
    obtain ⟨t, rfl⟩ := rx
    cases y with
    | non => cases ry; exact PySem.EqNone.ne_str_none (fin_bl I q (by simp))
    | bl j => cases ry; exact PySem.EqMixed.ne_str_bool (fin_bl I q (by simp))
    | int j => obtain ⟨t', rfl⟩ := ry; exact PySem.EqMixed.ne_str_int (fin_bl I q (by simp))
    | str j => obtain ⟨t', rfl⟩ := ry; exact ne_str (fin_bl I q (congrArg not dec_str))
    | _ => exact absurd (show false = true from hs) Bool.false_ne_true
  | byt i =>
    obtain ⟨t, rfl⟩ := rx
    cases y with
    | byt j => obtain ⟨t', rfl⟩ := ry; exact PySem.W.ne_bytes (fin_bl I q (congrArg not dec_byt))
    | _ => exact absurd (show false = true from hs) Bool.false_ne_true
  | _ => cases y <;> exact absurd (show false = true from hs) Bool.false_ne_true

theorem op_lt : OpR X (compareOp .Lt) (rI0 fun i j => .bl (decide (i < j))) := opB0 fun _ _ _ _ _ _ _ q => lt_int q
theorem op_le : OpR X (compareOp .LtE) (rI0 fun i j => .bl (decide (i ≤ j))) := opB0 fun _ _ _ _ _ _ _ q => le_int q
theorem op_gt : OpR X (compareOp .Gt) (rI0 fun i j => .bl (decide (j < i))) := opB0 fun _ _ _ _ _ _ _ q => gt_int q
/-- two rules for one operation: by cases -/
theorem OpR.or {f : Value → Value → Sem Value} {r r' : R2} (h : OpR X f r) (h' : OpR X f r') : OpR X f (fun x y H Q => r x y H Q ∨ r' x y H Q) := by
  intro pins s σ H x y v u Q I rx ry q
  rcases q with q | q
  · exact h pins s σ H x y v u Q I rx ry q
  · exact h' pins s σ H x y v u Q I rx ry q

theorem nomark (b : Expr) {op : CmpOp} (h : op ≠ .In := by decide) (h2 : op ≠ .NotIn := by decide) : behindInMarks op b = false := by
  have e1 : (op == CmpOp.In) = false := by cases op <;> first | rfl | exact absurd rfl h
  have e2 : (op == CmpOp.NotIn) = false := by cases op <;> first | rfl | exact absurd rfl h2
  cases b <;> simp [behindInMarks, e1, e2]
/-- a comparison as a value; hm: nomark b, or (for in, not in) by with_unfolding_all rfl -/
theorem pe_cmpR {op : CmpOp} {r : R2} (ho : OpR X (compareOp op) r) (ha : PE X a ta) (hb : PE X b tb) (hm : behindInMarks op b = false) : PE X (.Compare a [op] [b] pos) (tOp r ta tb) := by
  intro pins s σ H Q I h
  exact wpAny_Compare1 (binT ha hb I h fun v u s2 x y H2 I2 rx ry q => ho pins s2 σ H2 x y v u Q I2 rx ry q) hm
/-- a reading of a value as a test -/
def tTest (t : TE) : TT := fun σ H Q => t σ H fun x H' => ∃ k, x = .bl k ∧ Q k H'
theorem pt_cmpR {op : CmpOp} {r : R2} (ho : OpR X (compareOp op) r) (ha : PE X a ta) (hb : PE X b tb) (hm : behindInMarks op b = false) : PT X (.Compare a [op] [b] pos) (tTest (tOp r ta tb)) := by
  intro pins s σ H Q I h
  refine wpAny_isTrue_Compare1 (thn (ha pins s σ H _ I h) fun v s1 ⟨x, H1, I1, r1, q1⟩ => thn (hb pins s1 σ H1 _ I1 q1) fun u s2 ⟨y, H2, I2, r2, q2⟩ =>
    thn (ho pins s2 σ H2 x y v u _ I2 r1 r2 q2) fun c s3 ⟨z, H3, I3, r3, k, e, q3⟩ => ?_) hm
  subst e
  cases r3
  exact wpAny_truthy_bool ⟨H3, I3, q3⟩
/-- a op1 b op2 c -/
def tChain (r r' : R2) (ta tb tc : TE) : TE := fun σ H Q => ta σ H fun x H1 => tb σ H1 fun y H2 => r x y H2 fun z H3 => ∃ k, z = .bl k ∧
  (if k = true then tc σ H3 fun w' H4 => r' y w' H4 Q else Q (.bl false) H3)
theorem pt_chain {op op' : CmpOp} {r r' : R2} (ho : OpR X (compareOp op) r) (ho' : OpR X (compareOp op') r') (ha : PE X a ta) (hb : PE X b tb) (hc : PE X c tc)
    (hm : lastMarks [op, op'] [b, c] = false := by with_unfolding_all rfl) : PT X (.Compare a [op, op'] [b, c] pos) (tTest (tChain r r' ta tb tc)) := by
  intro pins s σ H Q I h
  refine isTrue_chain (thn (ha pins s σ H _ I h) fun v s1 ⟨x, H1, I1, r1, q1⟩ => test_link (thn (hb pins s1 σ H1 _ I1 q1) fun u s2 ⟨y, H2, I2, r2, q2⟩ =>
    thn (ho pins s2 σ H2 x y v u _ I2 r1 r2 q2) fun d s3 ⟨z, H3, I3, r3, k, e, q3⟩ => ?_)) hm
  subst e
  cases r3
  refine wpAny_truthy_bool ?_
  cases k with
  | false =>
    obtain ⟨k', e', q'⟩ := q3
    cases e'
    exact ite_ff ⟨H3, I3, q'⟩
  | true =>
    refine ite_tt (test_last (thn (hc pins s3 σ H3 _ I3 q3) fun w' s4 ⟨z', H4, I4, r4, q4⟩ => thn (ho' pins s4 σ H4 y z' u w' _ I4 r2 r4 q4) fun d' s5 ⟨z2, H5, I5, r5, k2, e2, q5⟩ => ?_))
    subst e2
    cases r5
    exact wpAny_truthy_bool ⟨H5, I5, q5⟩

/-- a value's truth by the abstract heap -/
def TruV (K : PySem.W.Frag) (x : V) (H : Hp) (k : Bool) : Prop :=
  match x with
  | .non => k = false
  | .bl b => k = b
  | .int i => k = (i != 0)
  | .str y => y.length ≤ sizeLine ∧ k = ((y.length : Int) != 0)
  | .byt y => y.size ≤ sizeLine ∧ k = ((y.size : Int) != 0)
  | .ref p => (∃ xs, SqL K H p xs ∧ k = !xs.isEmpty) ∨ (∃ xs, SqT K H p xs ∧ k = !xs.isEmpty) ∨ ∃ kvs, H p = some (.dK kvs) ∧ k = !kvs.isEmpty
  | _ => False
theorem isEmpty_kv {κ : Type} {kvs : List (κ × V)} {vs : List (κ × Value)} (r : KV kvs vs) : (!vs.isEmpty) = !kvs.isEmpty := by
  cases r <;> rfl
theorem isEmpty_of {xs : List V} {its : List Value} (r : Vals xs its) : (!its.toArray.isEmpty) = !xs.isEmpty := by
  cases r <;> simp
theorem line63 : (sizeLine : Nat) < 2 ^ 63 := by rw [sizeLine_eq]; decide
theorem tru_ok : TruR X (fun x H Q => ∃ k, TruV X.K x H k ∧ Q k H) := by
  intro pins s σ H x v Q I rx h
  obtain ⟨k, e, q⟩ := h
  have hl := line63
  have hs : sizeLine = 16777216 := sizeLine_eq
  cases x with
  | non =>
    cases rx
    have e' : k = false := e
    subst e'
    exact truthy_none ⟨H, I, q⟩
  | bl b =>
    cases rx
    have e' : k = b := e
    subst e'
    exact wpAny_truthy_bool ⟨H, I, q⟩
  | int i =>
    obtain ⟨t, rfl⟩ := rx
    have e' : k = (i != 0) := e
    subst e'
    exact PySem.P.truthy_int ⟨H, I, q⟩
  | str y =>
    obtain ⟨t, rfl⟩ := rx
    obtain ⟨hy, e'⟩ : y.length ≤ sizeLine ∧ k = ((y.length : Int) != 0) := e
    subst e'
    exact PySem.P.truthy_str (by omega) ⟨H, I.tok _, q⟩
  | byt y =>
    obtain ⟨t, rfl⟩ := rx
    obtain ⟨hy, e'⟩ : y.size ≤ sizeLine ∧ k = ((y.size : Int) != 0) := e
    subst e'
    exact PySem.W.truthy_bytes (by omega) ⟨H, I.tok _, q⟩
  | ref p =>
    cases rx
    have e' : (∃ xs, SqL X.K H p xs ∧ k = !xs.isEmpty) ∨ (∃ xs, SqT X.K H p xs ∧ k = !xs.isEmpty) ∨ ∃ kvs, H p = some (.dK kvs) ∧ k = !kvs.isEmpty := e
    rcases e' with ⟨xs, hx, e'⟩ | ⟨xs, hx, e'⟩ | ⟨kvs, hx, e'⟩
    · subst e'
      obtain ⟨its, r, pl, hz⟩ := I.list hx
      have hlen := r.length
      exact wpAny_truthy_list pl.isList (by simp only [List.size_toArray]; omega) ⟨H, I.tok _, by rw [isEmpty_of r]; exact q⟩
    · subst e'
      obtain ⟨its, r, pl, hz⟩ := I.tuple hx
      have hlen := r.length
      exact truthy_tuple pl (by simp only [List.size_toArray]; omega) ⟨H, I.tok _, by rw [isEmpty_of r]; exact q⟩
    · subst e'
      obtain ⟨hz, hS, vs, r, m⟩ : kvs.length ≤ sizeLine ∧ (p == sysModules) = false ∧ ∃ vs, KV kvs vs ∧ s.heap.DictOf (mixKind X.prog X.w) p vs := I.hok p _ hx
      have hlen : kvs.length = vs.length := Paired.length r
      exact wpAny_truthy_dict hS m (by omega) ⟨H, I.tok _, by rw [isEmpty_kv r]; exact q⟩
  | _ => exact (show False from e).elim
/-- any expression whose test is its value's truth (a name, a call, a subscript, a field ..: he by fun _ => rfl) -/
theorem pt_truth (ha : PE X a ta) (he : ∀ whole, isTrue a X.env whole = (do let v ← whole; standAt a.pos; holding [v] (truthy v))) :
    PT X a (fun σ H Q => ta σ H fun x H' => ∃ k, TruV X.K x H' k ∧ Q k H') := by
  intro pins s σ H Q I h
  exact isTrue_plain (thn (ha pins s σ H _ I h) fun v s1 ⟨x, H1, I1, r1, q1⟩ => tru_ok pins s1 σ H1 x v Q I1 r1 q1) (he _)

theorem op_add_str : OpR X (binaryOp .Add) (fun x y H Q => ∃ i j, x = .str i ∧ y = .str j ∧ i.length + j.length ≤ sizeLine ∧ Q (.str (i ++ j)) H) := by
  intro pins s σ H x y v u Q I rx ry h
  obtain ⟨i, j, rfl, rfl, hz, q⟩ := h
  obtain ⟨t, rfl⟩ := rx
  obtain ⟨t', rfl⟩ := ry
  exact add_str (fun t' tk => ⟨.str (i ++ j), H, I.tok _, ⟨_, rfl⟩, q⟩) hz
theorem vals1 {x : V} {us : List Value} (r : Vals [x] us) : ∃ u, us = [u] ∧ RelV x u := by
  cases r with
  | cons r1 r2 => cases r2; exact ⟨_, rfl, r1⟩
theorem vals2 {x y : V} {us : List Value} (r : Vals [x, y] us) : ∃ u w', us = [u, w'] ∧ RelV x u ∧ RelV y w' := by
  cases r with
  | cons r1 r2 =>
    cases r2 with
    | cons r3 r4 => cases r4; exact ⟨_, _, rfl, r1, r3⟩
theorem call_max2 (hc : X.calm = true) : CallR X (.builtin "max") (fun xs H Q => ∃ i j, xs = [.int i, .int j] ∧ Q (.int (if j > i then j else i)) H) := by
  intro pins s σ H xs us Q I r h
  obtain ⟨i, j, rfl, q⟩ := h
  obtain ⟨u, w', rfl, ⟨t, rfl⟩, ⟨t', rfl⟩⟩ := vals2 r
  refine max_two_ints (I.ok.hd hc) fun h' tk k => ⟨_, H, I.kept k, ?_, q⟩
  by_cases hj : j > i
  · rw [if_pos hj, if_pos hj]; exact ⟨_, rfl⟩
  · rw [if_neg hj, if_neg hj]; exact ⟨_, rfl⟩
theorem call_int1 : CallR X (.type "int") (fun xs H Q => (∃ i, xs = [.int i] ∧ Q (.int i) H) ∨ ∃ k, xs = [.bl k] ∧ Q (.int (if k then 1 else 0)) H) := by
  intro pins s σ H xs us Q I r h
  rcases h with ⟨i, rfl, q⟩ | ⟨k, rfl, q⟩
  · obtain ⟨u, rfl, t, rfl⟩ := vals1 r
    exact call_int_int ⟨.int i, H, I, ⟨_, rfl⟩, q⟩
  · obtain ⟨u, rfl, r1⟩ := vals1 r
    cases r1
    exact call_int_bool ⟨.int (if k then 1 else 0), H, I.tok _, ⟨_, rfl⟩, q⟩
/-- len of a str, a bytes, a list, a tuple -/
def LenV (K : PySem.W.Frag) (x : V) (H : Hp) (n : Nat) : Prop :=
  match x with
  | .str y => y.length ≤ sizeLine ∧ n = y.length
  | .byt y => y.size ≤ sizeLine ∧ n = y.size
  | .ref p => (∃ xs, SqL K H p xs ∧ n = xs.length) ∨ ∃ xs, SqT K H p xs ∧ n = xs.length
  | _ => False
theorem call_len : CallR X (.builtin "len") (fun xs H Q => ∃ x n, xs = [x] ∧ LenV X.K x H n ∧ Q (.int n) H) := by
  intro pins s σ H xs us Q I r h
  obtain ⟨x, n, rfl, e, q⟩ := h
  obtain ⟨u, rfl, rx⟩ := vals1 r
  have hl := line63
  have hs : sizeLine = 16777216 := sizeLine_eq
  cases x with
  | str y =>
    obtain ⟨t, rfl⟩ := rx
    obtain ⟨hy, e'⟩ : y.length ≤ sizeLine ∧ n = y.length := e
    subst e'
    exact len_str (by omega) ⟨.int _, H, I.tok _, ⟨_, rfl⟩, q⟩
  | byt y =>
    obtain ⟨t, rfl⟩ := rx
    obtain ⟨hy, e'⟩ : y.size ≤ sizeLine ∧ n = y.size := e
    subst e'
    exact PySem.W.len_bytes (by omega) ⟨.int _, H, I.tok _, ⟨_, rfl⟩, q⟩
  | ref p =>
    cases rx
    have e' : (∃ xs, SqL X.K H p xs ∧ n = xs.length) ∨ ∃ xs, SqT X.K H p xs ∧ n = xs.length := e
    rcases e' with ⟨xs, hx, e'⟩ | ⟨xs, hx, e'⟩
    · subst e'
      obtain ⟨its, r', pl, hz⟩ := I.list hx
      have hlen := r'.length
      exact Calls.call_len_list pl.isList (by simp only [List.size_toArray]; omega) ⟨.int xs.length, H, I.tok _, ⟨_, by simp only [List.size_toArray]; rw [hlen]⟩, q⟩
    · subst e'
      obtain ⟨its, r', pl, hz⟩ := I.tuple hx
      have hlen := r'.length
      exact len_tuple pl (by simp only [List.size_toArray]; omega) ⟨.int xs.length, H, I.tok _, ⟨_, by simp only [List.size_toArray]; rw [hlen]⟩, q⟩
  | _ => exact (show False from e).elim
end
end L2

namespace L2
open PySem PySem.Spec PyProof.Rows

structure ObjM (h : Heap) (x dx C : Addr) (mA : Str → Option Value) : Prop where
  obj : h.get? x = some (PySem.W.instObj C dx)
  ns : h.Ns1 dx mA
  ne : dx ≠ x

theorem lookIn_ns {h : Heap} {dx : Addr} {mA : Str → Option Value} (n : h.Ns1 dx mA) : ∃ od, h.get? dx = some od ∧ ∀ name, PySem.W.lookIn name od = some (mA name) := by
  obtain ⟨o, es, ep, ho, hd, hk, _, hm⟩ := n
  refine ⟨o, ho, fun name => ?_⟩
  have e := hm name
  unfold nsFind findBy at e
  rw [← Array.find?_toList] at e
  unfold PySem.W.lookIn
  rw [hd]
  dsimp only
  split
  · rename_i y q
    rw [q] at e
    exact congrArg some e
  · rename_i q
    rw [q] at e
    have a : es.toList.any (·.refKey) = false := by
      rw [List.any_eq_false]
      intro y hy
      obtain ⟨z, t, hkey⟩ := hk y (Array.mem_toList_iff.mp hy)
      simp [DictEntry.refKey, hkey]
    have a' : ¬ es.toList.any (·.refKey) = true := by rw [a]; exact Bool.false_ne_true
    rw [if_neg a']
    exact congrArg some e

theorem ObjM.look {h : Heap} {x dx C : Addr} {mA : Str → Option Value} (I : ObjM h x dx C mA) : ∃ od, PySem.W.InstAt h x (PySem.W.instObj C dx) C (some od) ∧ ∀ name, PySem.W.lookIn name od = some (mA name) :=
  let ⟨od, ho, hl⟩ := lookIn_ns I.ns
  ⟨od, ⟨I.obj, rfl, rfl, ho⟩, hl⟩

section
variable {prog : Program} {w : World} {A : Around} {E : Value → Shared → Prop} {s : Shared} {K : PySem.W.Frag} {x dx C f : Addr} {mA : Str → Option Value} {name : Str} {v : Value}

theorem get_map {expr : Bool} {Q : Value → Shared → Prop} (X : K.In s.heap) (I : ObjM s.heap x dx C mA) (hg : PySem.W.plainGet K C name = true) (hh : PySem.W.hasDictIn K C = true)
    (ha : PySem.W.findIn K (.ref C) name = some none) (hv : mA name = some v) (hv' : PySem.W.handedIn v = true) (h : Q v { s with toks := s.toks + 1 }) :
    wpAny (model prog w) A (getAttr (.ref x) name expr) Q E s := by
  obtain ⟨od, J, hl⟩ := I.look
  exact PySem.W.get_value X J (PySem.W.plainGet_of hg).1 (PySem.W.findObj_own hh ha rfl (by rw [hl, hv])) hv' h

theorem get_meth {pl : Sem Bool} {Q : Value × List Value → Shared → Prop} (X : K.In s.heap) (I : ObjM s.heap x dx C mA) (hg : PySem.W.plainGet K C name = true)
    (hf : PySem.W.findIn K (.ref C) name = some (some (.ref f))) (ht : PySem.W.isFn K (.ref f) = true) (hv : mA name = none) (h : Q (.ref f, [.ref x]) s) :
    wpAny (model prog w) A (getMethod (.ref x) name pl) Q E s := by
  obtain ⟨od, J, hl⟩ := I.look
  exact PySem.W.method_fn X J (PySem.W.plainGet_of hg).1 (PySem.W.plainGet_of hg).2 hf (beq_iff_eq.mp ht) (by show (PySem.W.lookIn name od).map (·.isSome) = some false; rw [hl, hv]; rfl) h

theorem set_map {ns : List Str} {Q : Unit → Shared → Prop} (X : K.In s.heap) (I : ObjM s.heap x dx C mA)
    (hs : PySem.W.findIn K (.ref C) "__setattr__" = some (some (.builtin "object.__setattr__"))) (hp : PySem.W.plainOver K C = true) (ht : PySem.W.takerIn K C name = some none) (hh : PySem.W.hasDictIn K C = true)
    (hw : PySem.Within mA ns) (hsz : ns.length ≤ sizeLine)
    (h : ∀ h', ObjM h' x dx C (fun y => if y = name then some v else mA y) → Heap.SameBut dx s.heap h' → Q () { s with heap := h', toks := s.toks + 2 }) :
    wpAny (model prog w) A (setAttr (.ref x) name v) Q E s := by
  obtain ⟨od, J, hl⟩ := I.look
  refine PySem.W.set_plain X J hs (PySem.W.osa_open (s := { s with toks := s.toks + 1 }) (r := none) X J hp ht fun b => ?_)
  obtain ⟨cd, hc, hd'⟩ := PySem.W.any_some hh
  have hx : s.heap.get? x = some ⟨.ref C, some dx, .plain, #[]⟩ := I.obj
  refine wpAny_bind (wpAny_pure (wpAny_bind (wpAny_bind (wpAny_loadPart hx (wpAny_bind (PySem.W.Looks.here (s := { s with toks := s.toks + 1 }) (PySem.W.looks_clsIn X hc) ?_))))))
  rw [hd']
  refine wpAny_pure (a := some dx) (wpAny_bind (wpAny_pure (wpAny_bind ?_)))
  refine wpAny_nsSet1 (s := { s with toks := s.toks + 1 }) I.ns fun h' hn2 hs2 => ?_
  obtain ⟨oD, esD, epD, hoD, hdD, hcD⟩ := hn2.count (PySem.Within.cons name v hw)
  refine wpAny_bind (wpAny_lookBehind hoD (by rw [hdD]; exact pastItsLine_dict (Nat.le_trans hcD (by rw [List.length_cons]; omega))) ?_)
  exact wpAny_pure (h _ ⟨(hs2.2 _ (Ne.symm I.ne)).trans I.obj, hn2, I.ne⟩ hs2)

/-- C(..): the dict at the heap's end, the instance behind it; then its __init__ -/
theorem make_map {R : Result → Shared → Prop} {vs : List Value} {kw : List (Str × Value)} (X : K.In s.heap) (hm : PySem.W.makesIn K C = true)
    (hi : PySem.W.findIn K (.ref C) "__init__" = some (some (.ref f))) (hf : PySem.W.typeIn K (.ref f) = some (.type "function"))
    (h : codeAny (model prog w) (A.under (.builtin "type.__call__" ⟨.ref C :: vs, kw⟩)) (.call (.ref f) ⟨.ref (s.heap.objs.size + 1) :: vs, kw⟩) (PySem.W.InitBack (s.heap.objs.size + 1) R)
      { s with heap := (s.heap.push PySem.W.emptyDict).push (PySem.W.instObj C s.heap.objs.size) }) :
    codeAny (model prog w) A (.call (.ref C) ⟨vs, kw⟩) R s := by
  obtain ⟨hh, g, d, t, os⟩ := s
  exact PySem.W.make_core (PySem.W.makes_of X hm) (PySem.W.looks_findIn X hi) (fun self => PySem.W.bind_fn X self hf) (.inl rfl) h
end

def putF (f : Str) (v : V) : List (Str × V) → List (Str × V)
  | [] => [(f, v)]
  | (g, x) :: r => if g = f then (g, v) :: r else (g, x) :: putF f v r
theorem lookup_putF (f g : Str) (v : V) : ∀ fs : List (Str × V), (putF f v fs).lookup g = if g = f then some v else fs.lookup g
  | [] => by
    show List.lookup g [(f, v)] = _
    by_cases h : g = f
    · have hb : (g == f) = true := beq_iff_eq.mpr h
      simp only [List.lookup, hb, if_pos h]
    · have hb : (g == f) = false := beq_eq_false_iff_ne.mpr h
      simp only [List.lookup, hb, if_neg h]
  | (k, x) :: r => by
    have ih := lookup_putF f g v r
    rw [show putF f v ((k, x) :: r) = (if k = f then (k, v) :: r else (k, x) :: putF f v r) from rfl]
    by_cases hk : k = f
    · rw [if_pos hk]
      by_cases h : g = k
      · have hb : (g == k) = true := beq_iff_eq.mpr h
        simp only [List.lookup, hb, if_pos (h.trans hk)]
      · have hb : (g == k) = false := beq_eq_false_iff_ne.mpr h
        simp only [List.lookup, hb, if_neg (fun e : g = f => h (e.trans hk.symm))]
    · rw [if_neg hk]
      by_cases h : g = k
      · have hb : (g == k) = true := beq_iff_eq.mpr h
        simp only [List.lookup, hb, if_neg (fun e : g = f => hk (h.symm.trans e))]
      · have hb : (g == k) = false := beq_eq_false_iff_ne.mpr h
        simp only [List.lookup, hb]
        exact ih
theorem keys_putF (f : Str) (v : V) : ∀ fs : List (Str × V), f ∈ (putF f v fs).map (·.1) ∧ ∀ g, g ∈ fs.map (·.1) → g ∈ (putF f v fs).map (·.1)
  | [] => ⟨by simp [putF], fun g h => by simp at h⟩
  | (k, x) :: r => by
    obtain ⟨i1, i2⟩ := keys_putF f v r
    rw [show putF f v ((k, x) :: r) = (if k = f then (k, v) :: r else (k, x) :: putF f v r) from rfl]
    by_cases hk : k = f
    · rw [if_pos hk]
      subst hk
      exact ⟨by simp, fun g h => by simpa using h⟩
    · rw [if_neg hk]
      refine ⟨?_, fun g h => ?_⟩
      · rw [List.map_cons]
        exact List.mem_cons_of_mem _ i1
      · rw [List.map_cons] at h ⊢
        rcases List.mem_cons.mp h with e | e
        · exact List.mem_cons.mpr (.inl e)
        · exact List.mem_cons_of_mem _ (i2 g e)
theorem length_putF (f : Str) (v : V) : ∀ fs : List (Str × V), (putF f v fs).length ≤ fs.length + 1
  | [] => by simp [putF]
  | (k, x) :: r => by
    have ih := length_putF f v r
    rw [show putF f v ((k, x) :: r) = (if k = f then (k, v) :: r else (k, x) :: putF f v r) from rfl]
    by_cases hk : k = f
    · rw [if_pos hk, List.length_cons, List.length_cons]; omega
    · rw [if_neg hk, List.length_cons, List.length_cons]; omega

theorem RelO.some_of {v : V} {o : Option Value} (r : RelO (some v) o) : ∃ u, o = some u ∧ RelV v u := by
  cases o with
  | none => exact (show False from r).elim
  | some u => exact ⟨u, rfl, r⟩
theorem RelO.none_of {o : Option Value} (r : RelO none o) : o = none := by
  cases o with
  | none => rfl
  | some u => exact (show False from r).elim
theorem handed_of {v : V} {u : Value} (r : RelV v u) : PySem.W.handedIn u = true := by
  cases v with
  | non => cases (show u = Value.none from r); rfl
  | bl b => cases (show u = Value.bool b from r); rfl
  | int i => obtain ⟨t, e⟩ := (show ∃ t, u = Value.int i t from r); cases e; rfl
  | str x => obtain ⟨t, e⟩ := (show ∃ t, u = Value.str x t from r); cases e; rfl
  | byt b => obtain ⟨t, e⟩ := (show ∃ t, u = Value.bytes b t from r); cases e; rfl
  | flt b => obtain ⟨t, e⟩ := (show ∃ t, u = Value.float b t from r); cases e; rfl
  | ref a => cases (show u = Value.ref a from r); rfl
  | ty n => cases (show u = Value.type n from r); rfl

section
variable {P : Program} {w : World} {H H' : Hp} {h h' : Heap} {a C dx : Addr} {fs fs' : List (Str × V)}
theorem ins_get (hok : HOk P w H h) (e : H a = some (.ins C dx fs)) : ∃ mA, ObjM h a dx C mA ∧ (∀ f, RelO (fs.lookup f) (mA f)) ∧ PySem.Within mA (fs.map (·.1)) ∧ fs.length ≤ 1000 ∧ H dx = some (.own a) := by
  obtain ⟨d, z, ne, ob, mA, n, r, q⟩ := (show ObjOk P w H h a (.ins C dx fs) from hok a _ e)
  exact ⟨mA, ⟨ob, n, ne⟩, r, q, z, d⟩
end

structure Cls (K : PySem.W.Frag) (C : Addr) : Prop where
  pg : PySem.W.plainGet K C Str.empty = true
  hd : PySem.W.hasDictIn K C = true
  po : PySem.W.plainOver K C = true
  sa : PySem.W.findIn K (.ref C) "__setattr__" = some (some (.builtin "object.__setattr__"))
theorem Cls.get {K : PySem.W.Frag} {C : Addr} (c : Cls K C) (f : Str) : PySem.W.plainGet K C f = true := c.pg
/-- no class of it has the name -/
def NoAttr (K : PySem.W.Frag) (C : Addr) (f : Str) : Prop := PySem.W.findIn K (.ref C) f = some none
theorem NoAttr.taker {K : PySem.W.Frag} {C : Addr} {f : Str} (n : NoAttr K C f) : PySem.W.takerIn K C f = some none := by
  unfold PySem.W.takerIn
  rw [show PySem.W.findIn K (.ref C) f = some none from n]
  rfl
/-- a method: a plain def of the class or of one above it -/
structure Meth (K : PySem.W.Frag) (C : Addr) (m : Str) (f : Addr) : Prop where
  at_ : PySem.W.findIn K (.ref C) m = some (some (.ref f))
  fn : PySem.W.isFn K (.ref f) = true
  kp : PySem.W.keepIn K (.ref f) = true

section
variable {X : Cx} {pins : List (Addr × Obj)} {σ : St} {H : Hp} {s : Shared} {a C dx : Addr} {fs : List (Str × V)} {f : Str} {v : V} {A : Around} {E : Value → Shared → Prop}

theorem getattr_ok {b : Bool} {Q : Value → Shared → Prop} (I : Inv X pins σ H s) (e : H a = some (.ins C dx fs)) (c : Cls X.K C) (n : NoAttr X.K C f) (l : fs.lookup f = some v)
    (h : ∀ u s', Inv X pins σ H s' → RelV v u → Q u s') : wpAny (model X.prog X.w) A (getAttr (.ref a) f b) Q E s := by
  obtain ⟨mA, O, r, _, _, _⟩ := ins_get I.hok e
  obtain ⟨u, hu, ru⟩ := RelO.some_of (v := v) (o := mA f) (by rw [← l]; exact r f)
  exact get_map I.kIn O (c.get f) c.hd n hu (handed_of ru) (h u _ (I.tok _) ru)

theorem getmeth_ok {m : Str} {g : Addr} {pl : Sem Bool} {Q : Value × List Value → Shared → Prop} (I : Inv X pins σ H s) (e : H a = some (.ins C dx fs)) (c : Cls X.K C) (k : Meth X.K C m g) (l : fs.lookup m = none)
    (h : Q (.ref g, [.ref a]) s) : wpAny (model X.prog X.w) A (getMethod (.ref a) m pl) Q E s := by
  obtain ⟨mA, O, r, _, _, _⟩ := ins_get I.hok e
  have hn : mA m = none := RelO.none_of (by rw [← l]; exact r m)
  exact get_meth I.kIn O (c.get m) k.at_ k.fn hn h

theorem setattr_ok {y : V} {u : Value} {Q : Unit → Shared → Prop} (I : Inv X pins σ H s) (e : H a = some (.ins C dx fs)) (c : Cls X.K C) (n : NoAttr X.K C f) (hl : fs.length < 1000) (ry : RelV y u)
    (h : ∀ s', Inv X pins σ (upd H a (.ins C dx (putF f y fs))) s' → Q () s') : wpAny (model X.prog X.w) A (setAttr (.ref a) f u) Q E s := by
  obtain ⟨mA, O, r, wi, _, ho⟩ := ins_get I.hok e
  have hz : (fs.map (·.1)).length ≤ sizeLine := by rw [List.length_map, sizeLine_eq]; omega
  refine set_map I.kIn O c.sa c.po n.taker c.hd wi hz fun h' O' sb => h _ ?_
  have hd : ∃ o, h'.get? dx = some o := let ⟨o, _, _, e', _⟩ := O'.ns; ⟨o, e'⟩
  refine I.write (x := a) (e := dx) (by rw [e]; exact True.intro) (.inr ho) (fun b q hb z => (sb.2 b hb).trans z) hd ?_
  refine ⟨by rw [upd_ne O.ne]; exact ho, ?_, O.ne, O'.obj, _, O'.ns, fun g => ?_, fun g hg => ?_⟩
  · have := length_putF f y fs; omega
  · show RelO ((putF f y fs).lookup g) (if g = f then some u else mA g)
    rw [lookup_putF]
    by_cases q : g = f
    · rw [if_pos q, if_pos q]; exact ry
    · rw [if_neg q, if_neg q]; exact r g
  · by_cases q : g = f
    · rw [q]; exact (keys_putF f y fs).1
    · refine (keys_putF f y fs).2 g (wi g fun z => hg ?_)
      show (if g = f then some u else mA g) = none
      rw [if_neg q]; exact z

/-- a new instance, tracked, without attributes -/
theorem Inv.made (I : Inv X pins σ H s) : Inv X pins σ (upd (upd H s.heap.objs.size (.own (s.heap.objs.size + 1))) (s.heap.objs.size + 1) (.ins C s.heap.objs.size []))
    { s with heap := (s.heap.push PySem.W.emptyDict).push (PySem.W.instObj C s.heap.objs.size) } := by
  have e1 : (s.heap.push PySem.W.emptyDict).get? s.heap.objs.size = some PySem.W.emptyDict := Heap.get?_push_size s.heap rfl
  have e2 : ((s.heap.push PySem.W.emptyDict).push (PySem.W.instObj C s.heap.objs.size)).get? (s.heap.objs.size + 1) = some (PySem.W.instObj C s.heap.objs.size) := by
    have := Heap.get?_push_size (s.heap.push PySem.W.emptyDict) (o := PySem.W.instObj C s.heap.objs.size) rfl
    rwa [Heap.size_push] at this
  have e3 : (s.heap.push PySem.W.emptyDict).Ns s.heap.objs.size (fun _ => none) := ⟨PySem.W.emptyDict, #[], _, e1, rfl, (fun e he => absurd he (by simp)), fun _ => rfl⟩
  have I1 := I.laid (a := s.heap.objs.size) (o := .own (s.heap.objs.size + 1)) (h' := s.heap.push PySem.W.emptyDict) (t' := s.toks) (fun b u q => Heap.get?_push_of_some _ q) (Nat.le_refl _) ⟨_, e1⟩
  refine I1.laid (a := s.heap.objs.size + 1) (o := .ins C s.heap.objs.size []) (t' := s.toks) (fun b u q => Heap.get?_push_of_some _ q) (Nat.le_of_eq (Heap.size_push _ _)) ?_
  have ne : s.heap.objs.size ≠ s.heap.objs.size + 1 := Nat.ne_of_lt (Nat.lt_succ_self _)
  refine ⟨by rw [upd_ne ne, upd_same], Nat.zero_le _, ne, e2, fun _ => none, (Heap.Ns1.of_empty e3).at fun o q => Heap.get?_push_of_some _ q, fun _ => True.intro, fun y hy => absurd rfl hy⟩

/-- e.f where nothing but the object is asked: through attributeBase (super) and the last hold -/
theorem attr_of {prog : Program} {w : World} {env : Env} {e : Expr} {f : Str} {pos : Pos} {s : Shared} {Q : Value → Shared → Prop} (hb : attributeBase e f env (eval e env) = eval e env)
    (h : wpAny (model prog w) A (eval e env) (fun o s₁ => wpAny (model prog w) A (getAttr o f true) Q E s₁) E s) : wpAny (model prog w) A (eval (.Attribute e f pos) env) Q E s :=
  Attribute_any_ h (by rw [arm_eval_Attribute, hb])
end

/-- e.f, an attribute of the instance -/
def tFld (K : PySem.W.Frag) (ta : TE) (f : Str) : TE := fun σ H Q => ta σ H fun x H1 => ∃ a C dx fs v, x = .ref a ∧ H1 a = some (.ins C dx fs) ∧ Cls K C ∧ NoAttr K C f ∧ fs.lookup f = some v ∧ Q v H1
/-- e.f = value -/
def sFld (K : PySem.W.Frag) (ta tv : TE) (f : Str) : TS := fun D σ H => tv σ H fun y H1 => ta σ H1 fun x H2 => ∃ a C dx fs, x = .ref a ∧ H2 a = some (.ins C dx fs) ∧ Cls K C ∧ NoAttr K C f ∧ fs.length < 1000 ∧
  D.nx σ (upd H2 a (.ins C dx (putF f y fs)))
section
variable {X : Cx} {o e value : Expr} {f : Str} {pos pos' tpos : Pos} {ta tv : TE}
theorem pe_fld (he : PE X e ta) (hb : attributeBase e f X.env (eval e X.env) = eval e X.env) : PE X (.Attribute e f pos) (tFld X.K ta f) := by
  intro pins s σ H Q I h
  refine attr_of hb (thn (he pins s σ H _ I h) fun u s1 ⟨x, H1, I1, rx, a, C, dx, fs, v, ex, ea, c, n, l, q⟩ => ?_)
  subst ex
  obtain rfl : u = Value.ref a := rx
  exact getattr_ok I1 ea c n l fun u' s2 I2 ru => ⟨v, H1, I2, ru, q⟩
theorem ps_fld (ha : PE X o ta) (hv : PE X value tv) (hs : swapsWith value (some (.Attribute o f pos')) pos.line X.env = pure false) : PS X (.Assign [.Attribute o f pos'] value pos) (sFld X.K ta tv f) := by
  intro pins s σ H D I h
  refine plainObj_wpAny_Assign_Attribute (thn (hv pins s σ H _ I h) fun u s1 ⟨y, H1, I1, ry, q⟩ => thn (ha pins s1 σ H1 _ I1 q) fun ov s2 ⟨x, H2, I2, rx, a, C, dx, fs, ex, ea, c, n, l, q2⟩ => ?_) hs
  subst ex
  obtain rfl : ov = Value.ref a := rx
  exact setattr_ok I2 ea c n l ry fun s3 I3 => ⟨σ, _, I3, q2⟩
end

section
variable {X : Cx} {pins : List (Addr × Obj)} {σ : St} {H : Hp} {s : Shared} {A : Around} {E : Value → Shared → Prop} {Q : Value → Shared → Prop} {c : Value} {b : Bool}
/-- the type of a value, as the fragment's deciders take it; for an instance its class -/
inductive TyOf (K : PySem.W.Frag) (H : Hp) : V → Value → Prop where
  | non : TyOf K H .non (.type "NoneType")
  | bl (x : Bool) : TyOf K H (.bl x) (.type "bool")
  | int (i : Int) : TyOf K H (.int i) (.type "int")
  | str (x : Str) : TyOf K H (.str x) (.type "str")
  | flt (x : UInt64) : TyOf K H (.flt x) (.type "float")
  | lst {a : Addr} {xs : List V} (e : H a = some (.lst xs)) : TyOf K H (.ref a) (.type "list")
  | frz {a : Addr} {o : Obj} {xs : List V} (e : H a = some (.frz o (.lst xs))) : TyOf K H (.ref a) (.type "list")
  | tup {a : Addr} {xs : List V} (e : H a = some (.tup xs)) : TyOf K H (.ref a) (.type "tuple")
  | dK {a : Addr} {kvs : List (Key × V)} (e : H a = some (.dK kvs)) : TyOf K H (.ref a) (.type "dict")
  | dT {a : Addr} {kvs : List (List Key × V)} (e : H a = some (.dT kvs)) : TyOf K H (.ref a) (.type "dict")
  | ins {a C dx : Addr} {fs : List (Str × V)} (e : H a = some (.ins C dx fs)) (cl : Cls K C) (ha : PySem.W.findIn K (.ref C) "__class__" = some (some (.builtin "object.__class__")))
      (hn : PySem.W.specialIn K (.builtin "object.__class__") "__get__" = some (some (.builtin "getset_descriptor.__get__"))) (htk : PySem.W.takesIn K (.builtin "object.__class__") = some true)
      (hm : PySem.W.mroIn K C (.type "object") = some true) : TyOf K H (.ref a) (.ref C)
/-- isinstance(x, c) for one class c, a built-in or an own one: kitOne's answer -/
theorem isinst_ok {x : V} {u t : Value} (I : Inv X pins σ H s) (rx : RelV x u) (ty : TyOf X.K H x t) (e : PySem.W.kitOne X.K t c = some b) (h : ∀ tk, Q (.bool b) { s with toks := tk }) :
    wpAny (model X.prog X.w) A (call (.builtin "isinstance") [u, c]) Q E s := by
  cases ty with
  | non => cases (show u = Value.none from rx); exact PySem.W.kia_one PySem.W.kitx_none I.kIn True.intro e (fun z => nomatch z) h
  | bl y => cases (show u = Value.bool y from rx); exact PySem.W.kia_one PySem.W.kitx_bool I.kIn True.intro e (fun z => nomatch z) h
  | int i => obtain ⟨t, q⟩ := (show ∃ t, u = Value.int i t from rx); cases q; exact PySem.W.kia_one PySem.W.kitx_int I.kIn True.intro e (fun z => nomatch z) h
  | str y => obtain ⟨t, q⟩ := (show ∃ t, u = Value.str y t from rx); cases q; exact PySem.W.kia_one PySem.W.kitx_str I.kIn True.intro e (fun z => nomatch z) h
  | flt y => obtain ⟨t, q⟩ := (show ∃ t, u = Value.float y t from rx); cases q; exact PySem.W.kia_one PySem.W.kitx_float I.kIn True.intro e (fun z => nomatch z) h
  | @lst a xs ea =>
    cases (show u = Value.ref a from rx)
    obtain ⟨_, _, n, _, h1⟩ := (show ObjOk X.prog X.w H s.heap a (.lst xs) from I.hok a _ ea)
    exact PySem.W.kia_one PySem.W.kitx_list I.kIn ⟨_, h1, rfl⟩ e (fun z => nomatch z) h
  | @frz a ob xs ea =>
    cases (show u = Value.ref a from rx)
    obtain ⟨_, _, _, n, _, h1⟩ := (show ObjOk X.prog X.w H s.heap a (.frz ob (.lst xs)) from I.hok a _ ea)
    exact PySem.W.kia_one PySem.W.kitx_list I.kIn ⟨_, h1, rfl⟩ e (fun z => nomatch z) h
  | @tup a xs ea =>
    cases (show u = Value.ref a from rx)
    obtain ⟨_, _, _, p⟩ := (show ObjOk X.prog X.w H s.heap a (.tup xs) from I.hok a _ ea)
    obtain ⟨o, h1, h2, _⟩ := p
    exact PySem.W.kia_one PySem.W.kitx_tuple I.kIn ⟨o, h1, h2⟩ e (fun z => nomatch z) h
  | @dK a kvs ea =>
    cases (show u = Value.ref a from rx)
    obtain ⟨_, _, vs, _, p⟩ := (show ObjOk X.prog X.w H s.heap a (.dK kvs) from I.hok a _ ea)
    obtain ⟨o, es, ep, h1, h2, _⟩ := p
    exact PySem.W.kia_one PySem.W.kitx_dict I.kIn ⟨o, h1, h2.1⟩ e (fun z => nomatch z) h
  | @dT a kvs ea =>
    cases (show u = Value.ref a from rx)
    obtain ⟨_, _, xs, _, o, es, ep, h1, h2, _⟩ := (show ObjOk X.prog X.w H s.heap a (.dT kvs) from I.hok a _ ea)
    exact PySem.W.kia_one PySem.W.kitx_dict I.kIn ⟨o, h1, h2.1⟩ e (fun z => nomatch z) h
  | @ins a C dx fs ea cl ha hn htk hm =>
    cases (show u = Value.ref a from rx)
    obtain ⟨mA, O, _⟩ := ins_get I.hok ea
    obtain ⟨od, J, _⟩ := O.look
    exact PySem.W.kia_one (PySem.W.kitx_own (cl.get _) cl.hd ha hn htk hm) I.kIn J e (fun z => nomatch z) h
end
end L2

namespace L2
open PySem PySem.Spec PyProof.Rows

structure Room (k : Nat) (A : Around) : Prop where
  hd : A.handled = none
  dp : A.depth + 3 * k + 5 < recursionLimit
  un : A.units + 16 * k + 200 < cLine
theorem Room.mono {j k : Nat} {A : Around} (r : Room k A) (h : j ≤ k) : Room j A := ⟨r.hd, by have := r.dp; omega, by have := r.un; omega⟩
theorem Room.deeper {k : Nat} {A : Around} (r : Room (k + 1) A) (env : Env) : Room k (A.deeper env) :=
  ⟨r.hd, by have := r.dp; show A.depth + 1 + 3 * k + 5 < _; omega, by have := r.un; show A.units + 3 + 16 * k + 200 < _; omega⟩
theorem make_depth {A : Around} {C : Addr} {us : List Value} {kw : List (Str × Value)} : (A.under (.builtin "type.__call__" ⟨.ref C :: us, kw⟩)).depth = A.depth + 1 := by
  first | rfl | simp [Around.under, Code.weight, Code.isCreation, Code.isGuard, Code.isCaller, Code.frames, Code.isFrame, guardIds]
theorem make_units {A : Around} {C : Addr} {us : List Value} {kw : List (Str × Value)} : (A.under (.builtin "type.__call__" ⟨.ref C :: us, kw⟩)).units = A.units + 1 := by
  first | rfl | simp [Around.under, Code.cUnits, Code.frames, Code.isFrame]
theorem Room.make {k : Nat} {A : Around} (r : Room (k + 1) A) (C : Addr) (us : List Value) (kw : List (Str × Value)) : Room k (A.under (.builtin "type.__call__" ⟨.ref C :: us, kw⟩)) :=
  ⟨r.hd, by have := r.dp; rw [make_depth]; omega, by have := r.un; rw [make_units]; omega⟩
theorem Room.depth {k : Nat} {A : Around} (r : Room k A) : A.depth < recursionLimit := by have := r.dp; omega
theorem Room.units {k : Nat} {A : Around} (r : Room k A) : A.units + 64 < cLine := by have := r.un; omega
def tNil : TA := fun _ H Q => Q [] H
def tCons (ta : TE) (tr : TA) : TA := fun σ H Q => ta σ H fun x H1 => tr σ H1 fun xs H2 => Q (x :: xs) H2
section
variable {X : Cx} {e : Expr} {es : List Expr} {te : TE} {t : TA} {pos : Pos}
theorem pa_nil : PA X [] tNil := fun _ _ _ _ H Q I h => Calls.spliced_nil ⟨[], H, I, .nil, h⟩
theorem pa_cons (ha : PE X e te) (hr : PA X es t) (hs : starEach (e :: es) X.env = (false, eval e X.env) :: starEach es X.env := by rfl) : PA X (e :: es) (tCons te t) := by
  intro pos pins s σ H Q I h
  rw [hs]
  show wpAny _ _ (spliced ((false, eval e X.env) :: backTo pos (starEach es X.env))) _ _ s
  refine Calls.spliced_cons (thn (ha pins s σ H _ I h) fun u s1 ⟨x, H1, I1, r1, q1⟩ => ?_)
  exact thn (hr pos pins s1 σ H1 _ I1 q1) fun us s2 ⟨xs, H2, I2, r2, q2⟩ => ⟨x :: xs, H2, I2, .cons r1 r2, q2⟩

/-- a tuple, a list of written items -/
def tTup (t : TA) : TE := fun σ H Q => t σ H fun xs H1 => xs.length ≤ sizeLine ∧ ∀ p, H1 p = none → Q (.ref p) (upd H1 p (.tup xs))
def tLst (t : TA) : TE := fun σ H Q => t σ H fun xs H1 => xs.length ≤ sizeLine ∧ ∀ p, H1 p = none → Q (.ref p) (upd H1 p (.lst xs))
theorem pe_tup {x1} (h : PA X es t) : PE X (.Tuple es x1 pos) (tTup t) := by
  intro pins s σ H Q I hq
  refine wpAny_Tuple_spliced (thn (h pos pins s σ H _ I hq) fun us s1 ⟨xs, H1, I1, r, z, q⟩ => ⟨by rw [← r.length]; exact z, ?_⟩)
  have hf : H1 s1.heap.objs.size = none := I1.hok.fresh (Nat.le_refl _)
  refine ⟨.ref s1.heap.objs.size, upd H1 s1.heap.objs.size (.tup xs), I1.laid (t' := s1.toks) (fun b u e => Heap.get?_push_of_some _ e) (Nat.le_refl _) ?_, rfl, q _ hf⟩
  exact ⟨z, us, r, ⟨_, Heap.get?_push_size _ rfl, rfl, _, rfl⟩⟩
theorem pe_lst (h : PA X es t) : PE X (.List es pos) (tLst t) := by
  intro pins s σ H Q I hq
  refine wpAny_List_spliced (thn (h pos pins s σ H _ I hq) fun us s1 ⟨xs, H1, I1, r, z, q⟩ => ⟨by rw [← r.length]; exact z, ?_⟩)
  have hf : H1 s1.heap.objs.size = none := I1.hok.fresh (Nat.le_refl _)
  refine ⟨.ref s1.heap.objs.size, upd H1 s1.heap.objs.size (.lst xs), I1.laid (t' := s1.toks) (fun b u e => Heap.get?_push_of_some _ e) (Nat.le_refl _) ?_, rfl, q _ hf⟩
  exact ⟨z, us, 0, r, Heap.get?_push_size _ rfl⟩
end

/-- a def's promise: the bound arguments in the parameters' order, the heap, the wanted end, the wanted exception -/
abbrev Sp := List V → Hp → VK → XK → Prop
/-- how an exception lies behind a call (file 08 gives it): the callers' frames, abstract heap and state ahead of the call, the wish, the exception, the state -/
abbrev CXT := List Env → Hp → Shared → XK → Value → Shared → Prop

/-- the state at a call -/
structure Env0 (P : Program) (w : World) (K : PySem.W.Frag) (mg : Str → Option Value) (base : Heap) (A : Around) (outer : List Env) (s : Shared) (H : Hp) : Prop where
  frames : A.frames = some outer
  mod : Mod K mg base
  bs : ∀ b o, base.get? b = some o → s.heap.get? b = some o ∧ H b = none
  bsz : base.objs.size ≤ s.heap.objs.size
  funs : s.heap.FunFrames base outer
  frf : ∀ b ∈ frs outer, H b = none
  hok : HOk P w H s.heap
  bare : AllBare s.gens
/-- a call's end -/
def CE (outer : List Env) (P : Program) (w : World) (H : Hp) (s : Shared) (Q : VK) (u : Value) (s' : Shared) : Prop :=
  ∃ v H', s'.os = s.os ∧ AllBare s'.gens ∧ Un (frs outer) [] H H' s.heap s'.heap ∧ HOk P w H' s'.heap ∧ RelV v u ∧ Q v H'
def CR (CX : CXT) (outer : List Env) (P : Program) (w : World) (H : Hp) (s : Shared) (Q : VK) (E : XK) (r : Result) (s' : Shared) : Prop :=
  match r with
  | .ok (.ret u) => CE outer P w H s Q u s'
  | .ok _ => False
  | .error e => CX outer H s E e s'
structure FnOk (P : Program) (w : World) (K : PySem.W.Frag) (mg : Str → Option Value) (base : Heap) (CX : CXT) (k : Nat) (f : Addr) (fd : FuncData) (ps : List Str) (sp : Sp) : Prop where
  len : ∀ vs H Q E, sp vs H Q E → vs.length = ps.length
  run : ∀ (A : Around) (outer : List Env) (s : Shared) (H : Hp) (args : Args) (us : List Value) (vs : List V) (Q : VK) (E : XK), Room k A → Env0 P w K mg base A outer s H → BindsTo s fd args (ps.zip us) → Vals vs us → sp vs H Q E →
    codeAny (model P w) A (.call (.ref f) args) (CR CX outer P w H s Q E) s
theorem Env0.make {P : Program} {w : World} {K : PySem.W.Frag} {mg : Str → Option Value} {base : Heap} {A : Around} {outer : List Env} {s : Shared} {H : Hp} (e : Env0 P w K mg base A outer s H) (C : Addr) (us : List Value) (kw : List (Str × Value)) :
    Env0 P w K mg base (A.under (.builtin "type.__call__" ⟨.ref C :: us, kw⟩)) outer s H := ⟨by first | exact e.frames | (simpa [Around.under, Code.envs, Code.isFrame, pushEnvs] using e.frames), e.mod, e.bs, e.bsz, e.funs, e.frf, e.hok, e.bare⟩
section
variable {X : Cx} {pins : List (Addr × Obj)} {σ : St} {H : Hp} {s s' : Shared}
/-- from a body: what a callee wants -/
theorem Inv.env0 (I : Inv X pins σ H s) : Env0 X.prog X.w X.K X.mg X.base X.A X.stack s H :=
  ⟨I.ok.frames, I.ok.mod, I.bs, Nat.le_trans I.ok.bsz I.sz, I.stack, I.stkFree, I.hok, I.bare⟩
/-- behind a call -/
theorem Inv.after {Q : VK} {u : Value} (I : Inv X pins σ H s) (h : CE X.stack X.prog X.w H s Q u s') : EP X pins σ Q u s' := by
  obtain ⟨v, H', os, bare, un, hok, r, q⟩ := h
  obtain ⟨hh, g, d, t, os'⟩ := s'
  obtain rfl : os' = s.os := os
  exact ⟨v, H', I.call (h' := hh) (g' := g) (d' := d) (t' := t) (ch := []) un hok bare (fun b z => absurd z (by simp)), r, q⟩
end

/-- f(..): the written arguments, then the defaults dvs; E: what is wanted of an exception -/
def tCall (sp : Sp) (dvs : List V) (E : XK) (t : TA) : TE := fun σ H Q => t σ H fun vs H1 => sp (vs ++ dvs) H1 Q E
/-- C(..): a new instance and its dict, then __init__ -/
def tMake (C : Addr) (sp : Sp) (dvs : List V) (E : XK) (t : TA) : TE := fun σ H Q => t σ H fun vs H1 => ∀ x dx, H1 x = none → H1 dx = none → dx ≠ x →
  sp (.ref x :: (vs ++ dvs)) (upd (upd H1 dx (.own x)) x (.ins C dx [])) (fun v H2 => v = .non ∧ Q (.ref x) H2) E

/-- how the parameters are bound: us the positional arguments, kw the keywords' values by name, ds the defaults that fill up -/
def Binds (K : PySem.W.Frag) (fd : FuncData) (ps : List Str) (ds : List Value) : Prop :=
  ∀ (s : Shared) (us : List Value), K.In s.heap → (us ++ ds).length = ps.length → BindsTo s fd ⟨us, []⟩ (ps.zip (us ++ ds))
/-- every parameter is given -/
theorem Binds.all {K : PySem.W.Frag} {fd : FuncData} {ps : List Str} (h : ∀ us : List Value, us.length = ps.length → bindArgs fd ⟨us, []⟩ = pure (ps.zip us)) : Binds K fd ps [] := fun s us _ hl => by
  rw [List.append_nil] at hl ⊢
  exact .of_eq (h us hl)

/-- an exception of a callee reaches what this body wants of exceptions -/
def Passes (CX : CXT) (X : Cx) (E : XK) : Prop := ∀ (pins : List (Addr × Obj)) (σ : St) (H : Hp) (s : Shared) (e : Value) (s' : Shared), Inv X pins σ H s → CX X.stack H s E e s' → X.xe e s'

section
variable {X : Cx} {CX : CXT} {k : Nat} {f C : Addr} {fd : FuncData} {ps : List Str} {sp : Sp} {dvs : List V} {ds : List Value} {E : XK} {x m : Str} {p pos apos : Pos} {e o : Expr} {es : List Expr} {ta : TE} {t : TA}

/-- the callee runs -/
theorem run_fn {pins : List (Addr × Obj)} {σ : St} {H : Hp} {s : Shared} {Q : VK} {us : List Value} {vs : List V} (F : FnOk X.prog X.w X.K X.mg X.base CX k f fd ps sp) (hr : Room k X.A) (hb : Binds X.K fd ps ds) (hd : Vals dvs ds) (hx : Passes CX X E)
    (I : Inv X pins σ H s) (r : Vals vs us) (h : sp (vs ++ dvs) H Q E) : wpAny (model X.prog X.w) X.A (call (.ref f) us) (EP X pins σ Q) X.xe s := by
  have r2 : Vals (vs ++ dvs) (us ++ ds) := r.append hd
  have hl : (us ++ ds).length = ps.length := by rw [← r2.length]; exact F.len _ _ _ _ h
  refine wpAny_call (codeAny_mono (F.run X.A X.stack s H ⟨us, []⟩ (us ++ ds) (vs ++ dvs) Q E hr I.env0 (hb s us I.kIn hl) r2 h) fun r s' hq => ?_)
  cases r with
  | error e => exact hx pins σ H s e s' I hq
  | ok fl =>
    cases fl with
    | ret u => exact I.after hq
    | next => exact False.elim hq
    | brk => exact False.elim hq
    | cont => exact False.elim hq

theorem pe_call (F : FnOk X.prog X.w X.K X.mg X.base CX k f fd ps sp) (hr : Room k X.A) (hg : Gl X x) (hm : X.mg x = some (.ref f)) (hk : PySem.W.keepIn X.K (.ref f) = true) (hb : Binds X.K fd ps ds) (hd : Vals dvs ds) (hx : Passes CX X E)
    (ha : PA X (e :: es) t) (hdb : (x == ("__debug__" : Str)) = false := by decide) (he : starEach (e :: es) X.env = (false, eval e X.env) :: starEach es X.env := by rfl) (hpl : (backTo pos (starEach es X.env)).any (·.1) = false := by rfl) :
    PE X (.Call (.Name x p) (e :: es) [] pos) (tCall sp dvs E t) := by
  intro pins s σ H Q I h
  refine wpAny_Call_Name_kw (ld_glob I hg hm ?_ hdb)
  refine PySem.W.callWith_K (h₀ := X.base) I.ok.mod.kin hk (thn (ha pos pins s σ H _ I h) fun us s1 ⟨vs, H1, I1, r, q⟩ => ⟨I1.kIn, ?_⟩) he hpl
  exact run_fn F hr hb hd hx I1 r q
/-- what a class must have to be made -/
structure Mk (K : PySem.W.Frag) (C f : Addr) : Prop where
  makes : PySem.W.makesIn K C = true
  init : PySem.W.findIn K (.ref C) "__init__" = some (some (.ref f))
  fn : PySem.W.isFn K (.ref f) = true
  kp : PySem.W.keepIn K (.ref C) = true

theorem run_make {pins : List (Addr × Obj)} {σ : St} {H : Hp} {s : Shared} {Q : VK} {us : List Value} {vs : List V} (M : Mk X.K C f) (F : FnOk X.prog X.w X.K X.mg X.base CX k f fd ps sp) (hr : Room (k + 1) X.A) (hb : Binds X.K fd ps ds) (hd : Vals dvs ds)
    (hx : Passes CX X E) (I : Inv X pins σ H s) (r : Vals vs us)
    (h : ∀ x dx, H x = none → H dx = none → dx ≠ x → sp (.ref x :: (vs ++ dvs)) (upd (upd H dx (.own x)) x (.ins C dx [])) (fun v H2 => v = .non ∧ Q (.ref x) H2) E) :
    wpAny (model X.prog X.w) X.A (call (.ref C) us) (EP X pins σ Q) X.xe s := by
  have hq := h (s.heap.objs.size + 1) s.heap.objs.size (I.hok.fresh (Nat.le_succ _)) (I.hok.fresh (Nat.le_refl _)) (Nat.ne_of_lt (Nat.lt_succ_self _))
  have I2 := Inv.made (C := C) I
  have r2 : Vals (V.ref (s.heap.objs.size + 1) :: (vs ++ dvs)) (Value.ref (s.heap.objs.size + 1) :: (us ++ ds)) := .cons rfl (r.append hd)
  have hl : (Value.ref (s.heap.objs.size + 1) :: us ++ ds).length = ps.length := by
    have e := r2.length
    rw [F.len _ _ _ _ hq] at e
    exact e.symm
  refine wpAny_call (make_map (f := f) I.kIn M.makes M.init (beq_iff_eq.mp M.fn) (codeAny_mono (F.run _ X.stack _ _ ⟨Value.ref (s.heap.objs.size + 1) :: us, []⟩ (Value.ref (s.heap.objs.size + 1) :: (us ++ ds)) _ _ E (hr.make C us [])
    (I2.env0.make C us []) (hb _ (Value.ref (s.heap.objs.size + 1) :: us) I2.kIn hl) r2 hq) fun r s' hq' => ?_))
  cases r with
  | error e => exact hx pins σ _ _ e s' I2 hq'
  | ok fl =>
    cases fl with
    | ret u =>
      obtain ⟨v, H', I3, rv, ev, q3⟩ := I2.after hq'
      subst ev
      exact ⟨rv, ⟨V.ref (s.heap.objs.size + 1), H', I3, rfl, q3⟩⟩
    | next => exact False.elim hq'
    | brk => exact False.elim hq'
    | cont => exact False.elim hq'
theorem pe_make (M : Mk X.K C f) (F : FnOk X.prog X.w X.K X.mg X.base CX k f fd ps sp) (hr : Room (k + 1) X.A) (hg : Gl X x) (hm : X.mg x = some (.ref C)) (hb : Binds X.K fd ps ds) (hd : Vals dvs ds) (hx : Passes CX X E)
    (ha : PA X (e :: es) t) (hdb : (x == ("__debug__" : Str)) = false := by decide) (he : starEach (e :: es) X.env = (false, eval e X.env) :: starEach es X.env := by rfl) (hpl : (backTo pos (starEach es X.env)).any (·.1) = false := by rfl) :
    PE X (.Call (.Name x p) (e :: es) [] pos) (tMake C sp dvs E t) := by
  intro pins s σ H Q I h
  refine wpAny_Call_Name_kw (ld_glob I hg hm ?_ hdb)
  refine PySem.W.callWith_K (h₀ := X.base) I.ok.mod.kin M.kp (thn (ha pos pins s σ H _ I h) fun us s1 ⟨vs, H1, I1, r, q⟩ => ⟨I1.kIn, ?_⟩) he hpl
  exact run_make M F hr hb hd hx I1 r q
end

section
variable {X : Cx} {CX : CXT} {k : Nat} {f C : Addr} {fd : FuncData} {ps ks : List Str} {sp : Sp} {E : XK} {x m : Str} {p pos apos kpos : Pos} {e o : Expr} {es : List Expr} {kws : List Keyword} {te ta : TE} {t tk : TA} {nm : Option Str}
variable {g : List Value → List Value → List Value} {gV : List V → List V → List V}
end

/-- names: the parameters first -/
structure FnScope (N P : List Str) (sc : Scope) : Prop where
  kind : sc.kind = .function
  co : sc.isCoroutine = false
  gen : sc.isGenerator = false
  nd : N.Nodup
  pre : N.take P.length = P
  par : ∀ x ∈ P, sc.names.lookup x = some .local ∨ sc.names.lookup x = some .cell
  nofree : ∀ y ∈ sc.names, y.2 ≠ .free

theorem bindL_out {kindOf : Str → Option NameKind} {x : Str} : ∀ {binds : List (Str × Value)} {m : Str → Option Value}, (∀ v, (x, v) ∉ binds) → bindL kindOf binds m x = m x
  | [], _, _ => rfl
  | (n, v) :: r, m, h => by
    unfold bindL
    rw [bindL_out fun w hw => h w (List.mem_cons_of_mem _ hw)]
    split
    · have : x ≠ n := by rintro rfl; exact h v List.mem_cons_self
      simp [this]
    · rfl
theorem bindC_out {kindOf : Str → Option NameKind} {x : Str} : ∀ {binds : List (Str × Value)} {m : Str → Option Value}, (∀ v, (x, v) ∉ binds) → bindC kindOf binds m x = m x
  | [], _, _ => rfl
  | (n, v) :: r, m, h => by
    unfold bindC
    rw [bindC_out fun w hw => h w (List.mem_cons_of_mem _ hw)]
    split
    · rfl
    · have : x ≠ n := by rintro rfl; exact h v List.mem_cons_self
      simp [this]
theorem bindL_get {kindOf : Str → Option NameKind} {x : Str} {v : Value} : ∀ {P : List Str} {vs : List Value} {i : Nat} {m : Str → Option Value}, P.Nodup → P[i]? = some x → vs[i]? = some v → kindOf x = some .local →
    bindL kindOf (P.zip vs) m x = some v
  | [], _, _, _, _, h, _, _ => by simp at h
  | _ :: _, [], _, _, _, _, h, _ => by simp at h
  | p :: P, w :: vs, 0, m, nd, h1, h2, hk => by
    simp at h1 h2; subst h1; subst h2
    show bindL kindOf ((p, w) :: P.zip vs) m p = _
    unfold bindL
    rw [bindL_out fun v hv => (List.nodup_cons.mp nd).1 (List.of_mem_zip hv).1, if_pos hk]
    simp
  | p :: P, w :: vs, i + 1, m, nd, h1, h2, hk => by
    show bindL kindOf ((p, w) :: P.zip vs) m x = _
    unfold bindL
    exact bindL_get (i := i) (List.nodup_cons.mp nd).2 (by simpa using h1) (by simpa using h2) hk
theorem bindC_get {kindOf : Str → Option NameKind} {x : Str} {v : Value} : ∀ {P : List Str} {vs : List Value} {i : Nat} {m : Str → Option Value}, P.Nodup → P[i]? = some x → vs[i]? = some v → kindOf x ≠ some .local →
    bindC kindOf (P.zip vs) m x = some v
  | [], _, _, _, _, h, _, _ => by simp at h
  | _ :: _, [], _, _, _, _, h, _ => by simp at h
  | p :: P, w :: vs, 0, m, nd, h1, h2, hk => by
    simp at h1 h2; subst h1; subst h2
    show bindC kindOf ((p, w) :: P.zip vs) m p = _
    unfold bindC
    rw [bindC_out fun v hv => (List.nodup_cons.mp nd).1 (List.of_mem_zip hv).1, if_neg hk]
    simp
  | p :: P, w :: vs, i + 1, m, nd, h1, h2, hk => by
    show bindC kindOf ((p, w) :: P.zip vs) m x = _
    unfold bindC
    exact bindC_get (i := i) (List.nodup_cons.mp nd).2 (by simpa using h1) (by simpa using h2) hk

/-- the names' values at the entry -/
def start (N : List Str) (vs : List V) : St := vs.map some ++ List.replicate (N.length - vs.length) none

/-- the context of a def's body, at its entry; an exception leaves the frame, then lies as CX says -/
def cxOf (CX : CXT) (P : Program) (w : World) (K : PySem.W.Frag) (mg : Str → Option Value) (base : Heap) (N : List Str) (qual : Str) (scope : Scope) (f : Addr) (cd : Value) (A : Around) (outer : List Env) (s : Shared) (H : Hp) (E : XK) : Cx where
  prog := P
  w := w
  K := K
  mg := mg
  base := base
  A := A.deeper (envOfC qual scope s.heap.objs.size f cd)
  N := N
  s₀ := s
  H₀ := H
  env := envOfC qual scope s.heap.objs.size f cd
  outer := outer
  stack := envOfC qual scope s.heap.objs.size f cd :: outer
  ex := []
  calm := true
  fn := fun _ => true
  pn := []
  xe := fun e s' => wpAny (model P w) (A.deeper (envOfC qual scope s.heap.objs.size f cd)) (leaving (envOfC qual scope s.heap.objs.size f cd) e) (fun _ s'' => CX outer H s E e s'') (fun e' s'' => CX outer H s E e' s'') s'

theorem cell_has {sc : Scope} {n : Nat} {x : Str} (h : sc.names.lookup x = some .cell) : ∃ c, (cellsFrom n sc.names []).lookup x = some c := by
  have q := PySem.W.cellsFrom_some sc.names n [] (.inl h)
  exact Option.isSome_iff_exists.mp q

theorem inv_start {CX : CXT} {P : Program} {w : World} {K : PySem.W.Frag} {mg : Str → Option Value} {base : Heap} {N ps : List Str} {qual : Str} {scope : Scope} {f : Addr} {cd : Value} {A : Around} {outer : List Env} {s s1 : Shared} {H : Hp} {E : XK} {us : List Value} {vs : List V}
    (S : FnScope N ps scope) (hd : A.handled = none) (e0 : Env0 P w K mg base A outer s H) (hl : vs.length = ps.length) (r : Vals vs us)
    (x : InCallC s s.heap.objs.size (bindL (envOfC qual scope s.heap.objs.size f cd).kindOf (ps.zip us) fun _ => none) (cellsFrom (s.heap.objs.size + 1) scope.names []) (bindC (envOfC qual scope s.heap.objs.size f cd).kindOf (ps.zip us) fun _ => none) s1) :
    Inv (cxOf CX P w K mg base N qual scope f cd A outer s H E) [] (start N vs) H s1 := by
  have hpl : ps.length ≤ N.length := by have := congrArg List.length S.pre; rw [List.length_take] at this; omega
  obtain ⟨h1, tk, rfl, hk⟩ := x.done
  have noA : ∀ b : Addr, b ∉ (cxOf CX P w K mg base N qual scope f cd A outer s H E).ex := fun b z => absurd (show b ∈ ([] : List Addr) from z) (by simp)
  refine ⟨⟨e0.mod, S.kind, rfl, rfl, Nat.le_refl _, fun y z c h1 h2 => ?_, fun y hy => ?_, fun y c _ h => ?_, fun _ => hd, Around.frames_deeper e0.frames, .inr ⟨rfl, rfl⟩, fun b z => absurd z (noA b), e0.bs, e0.bsz, fun b _ _ => noA b, fun b z => absurd z (noA b), e0.funs, e0.frf⟩,
    rfl, e0.bare, Un.kept hk, ⟨_, x.toInCall.ns, fun i y v h1 h2 h3 => ?_⟩, fun y c h => ⟨_, x.cell y c h⟩, e0.hok.fresh (Nat.le_refl _), fun y c h => ?_, fun p hp => absurd (show p ∈ ([] : List (Addr × Obj)) from hp) (by simp), e0.hok.kept hk, ?_⟩
  · exact name_of_addr x.apart (PySem.mem_of_lookup h1) (PySem.mem_of_lookup h2)
  · have hy : scope.names.lookup y = some .cell ∨ scope.names.lookup y = some .free := hy
    rcases hy with hy | hy
    · exact cell_has hy
    · exact absurd rfl (S.nofree _ (PySem.mem_of_lookup hy))
  · exact Nat.le_of_lt (x.above y c (PySem.mem_of_lookup h))
  · have hi : i < vs.length := by
      unfold start at h2
      by_cases hi : i < vs.length
      · exact hi
      · rw [List.getElem?_append_right (by simpa using hi)] at h2
        rw [List.getElem?_replicate] at h2
        split at h2 <;> cases h2
    have ha : vs[i]? = some v := by
      unfold start at h2
      rw [List.getElem?_append_left (by simpa using hi), List.getElem?_map] at h2
      cases e : vs[i]? with
      | none => rw [e] at h2; cases h2
      | some a => rw [e] at h2; cases h2; rfl
    obtain ⟨u, hu, rv⟩ := r.get ha
    have hp : ps[i]? = some y := by
      rw [← S.pre, List.getElem?_take_of_lt (by omega)]; exact h1
    have ndP : ps.Nodup := by rw [← S.pre]; exact S.nd.sublist (List.take_sublist _ _)
    refine ⟨u, rv, ?_⟩
    rcases S.par y (List.mem_of_getElem? hp) with k | k
    · exact .inl ⟨k, bindL_get ndP hp hu k⟩
    · obtain ⟨c, e⟩ := cell_has (n := s.heap.objs.size + 1) k
      refine .inr ⟨.inl k, c, e, ?_⟩
      have q := x.cell y c e
      rw [bindC_get ndP hp hu (by show scope.names.lookup y ≠ _; rw [k]; decide)] at q
      exact q
  · exact e0.hok.fresh (Nat.le_of_lt (x.above y c (PySem.mem_of_lookup h)))
  · unfold start
    show _ = N.length
    rw [List.length_append, List.length_map, List.length_replicate]
    omega

/-- THE RULE: a def (or a method) of the text, by its body. The body's reading t is chosen for each entry; it is run at the parameters' values -/
theorem fn_of {CX : CXT} {P : Program} {w : World} {K : PySem.W.Frag} {mg : Str → Option Value} {base : Heap} {k : Nat} {f : Addr} {name qual : Str} {params : Arguments} {body : List Stmt} {scope : Scope} {dV kV doc pm cdv ct oc : Value} {an od : Option Addr}
    {osl : Array (Option Value)} {N ps : List Str} {sp : Sp} (lk : K.lookup f = some ⟨oc, od, .func (PySem.W.fnOf name qual params body scope dV kV doc pm an cdv ct), osl⟩) (hcd : PySem.W.codeIn K cdv qual = true) (S : FnScope N ps scope)
    (len : ∀ vs H Q E, sp vs H Q E → vs.length = ps.length)
    (hbody : ∀ (A : Around) (outer : List Env) (s : Shared) (H : Hp) (vs : List V) (Q : VK) (E : XK), Room k (A.deeper (envOfC qual scope s.heap.objs.size f cdv)) → sp vs H Q E →
      ∃ t, PSs (cxOf CX P w K mg base N qual scope f cdv A outer s H E) body t ∧ t { nx := fun _ H' => Q .non H', rt := Q } (start N vs) H) :
    FnOk P w K mg base CX (k + 1) f (PySem.W.fnOf name qual params body scope dV kV doc pm an cdv ct) ps sp := by
  refine ⟨len, fun A outer s H args us vs Q E hr e0 hb r hsp => ?_⟩
  have hl := len _ _ _ _ hsp
  have KX : K.In s.heap := e0.mod.kin.keeps fun b o e => (e0.bs b o e).1
  have lim : s.heap.NoLimit := e0.mod.nolimit.keeps fun b o e => (e0.bs b o e).1
  have hkind : ∀ y ∈ ps.zip us, scope.names.lookup y.1 = some .local ∨ (scope.names.lookup y.1 = some .cell ∧ ((cellsFrom (s.heap.objs.size + 1) scope.names []).lookup y.1).isSome = true) := fun ⟨n, v⟩ hy => by
    rcases S.par n (List.of_mem_zip hy).1 with q | q
    · exact .inl q
    · exact .inr ⟨q, PySem.W.cellsFrom_some _ _ _ (.inl q)⟩
  refine codeAny_call_function hr.depth (KX _ _ lk) rfl S.co S.gen rfl (PySem.W.codeRec_of KX hcd) (hb _ _ _ _ ?_)
  refine wpAny_newFunctionEnv_cells S.kind hkind fun env he s1 x => ?_
  subst he
  refine ⟨lim.keeps x.toInCall.keep, codeAny_func ?_⟩
  obtain ⟨t, ht, hq⟩ := hbody A outer s H vs Q E (hr.deeper _) hsp
  have I : Inv (cxOf CX P w K mg base N qual scope f cdv A outer s H E) [] (start N vs) H s1 := inv_start S hr.hd e0 hl r x
  refine wpAny_mono (ht [] s1 (start N vs) H _ I hq) (fun fl s' hs => ?_) fun e s' hs => hs
  have fin : ∀ {σ' : St} {H' : Hp} {v : V} {u : Value}, Inv (cxOf CX P w K mg base N qual scope f cdv A outer s H E) [] σ' H' s' → RelV v u → Q v H' → CE outer P w H s Q u s' :=
    fun {σ' H' v u} J rv q => ⟨v, H', J.os, J.bare, J.base, J.hok, rv, q⟩
  cases fl with
  | ret u =>
    obtain ⟨v, σ', H', J, rv, q⟩ := hs
    exact fin J rv q
  | next =>
    obtain ⟨σ', H', J, q⟩ := hs
    exact fin (v := V.non) (u := Value.none) J rfl q
  | brk =>
    obtain ⟨_, _, _, q⟩ := hs
    exact False.elim q
  | cont =>
    obtain ⟨_, _, _, q⟩ := hs
    exact False.elim q
end L2

namespace L2
open PySem PySem.Spec PyProof.Rows
section
variable {X : Cx} {x : Str} {p pos : Pos} {e : Expr} {es : List Expr} {t : TA} {id T : String} {r : List V → Hp → VK → Prop}

def tCB (r : List V → Hp → VK → Prop) (t : TA) : TE := fun σ H Q => t σ H fun vs H1 => r vs H1 Q
/-- f(e, ..), f a built-in function -/
theorem pe_callB (hc : CallR X (.builtin id) r) (hg : Gl X x) (hm : X.mg x = none) (hv : bootBuiltins x = some (.builtin id)) (ha : PA X (e :: es) t) (hn : x ≠ "__name__" := by decide) (hdb : (x == ("__debug__" : Str)) = false := by decide)
    (he : starEach (e :: es) X.env = (false, eval e X.env) :: starEach es X.env := by rfl) (hpl : (backTo pos (starEach es X.env)).any (·.1) = false := by rfl) : PE X (.Call (.Name x p) (e :: es) [] pos) (tCB r t) := by
  intro pins s σ H Q I h
  refine wpAny_Call_Name_kw (ld_blt I hg hm hv ?_ hn hdb)
  exact PyProof.Rows.callWith_builtin1 (thn (ha pos pins s σ H _ I h) fun us s1 ⟨vs, H1, I1, r1, q1⟩ => hc pins s1 σ H1 vs us Q I1 r1 q1) he hpl
/-- T(e, ..), T a built-in type -/
theorem pe_callTy (hc : CallR X (.type T) r) (hg : Gl X x) (hm : X.mg x = none) (hv : bootBuiltins x = some (.type T)) (ha : PA X (e :: es) t) (hn : x ≠ "__name__" := by decide) (hdb : (x == ("__debug__" : Str)) = false := by decide)
    (he : starEach (e :: es) X.env = (false, eval e X.env) :: starEach es X.env := by rfl) (hpl : (backTo pos (starEach es X.env)).any (·.1) = false := by rfl) : PE X (.Call (.Name x p) (e :: es) [] pos) (tCB r t) := by
  intro pins s σ H Q I h
  refine wpAny_Call_Name_kw (ld_blt I hg hm hv ?_ hn hdb)
  exact PyProof.Rows.callWith_type1 (thn (ha pos pins s σ H _ I h) fun us s1 ⟨vs, H1, I1, r1, q1⟩ => hc pins s1 σ H1 vs us Q I1 r1 q1) he hpl
end
end L2

namespace HT
open PySem PyProof.Rows

section
open PySem.SeqAt
open PySem.AutoSeq1 (wpAny_loadPart')
open PySem.MeetsSeq PySem.MeetsSeq2 PySem.MeetsSeq3

end

section
variable {prog : Program} {w : World} {A : Around} {E : Value → Shared → Prop} {s : Shared}

/-- a slice's bound as a place among n (d where it is left out) -/
def sIx (n d : Nat) : Option Int → Nat
  | none => d
  | some v => if v < 0 then (v + (n : Int)).toNat else min v.toNat n
theorem sIx_none (n d : Nat) : sIx n d none = d := rfl
theorem sIx_nat (n d k : Nat) : sIx n d (some (k : Int)) = min k n := by
  show (if (k : Int) < 0 then ((k : Int) + (n : Int)).toNat else min (k : Int).toNat n) = min k n
  rw [if_neg (by omega), Int.toNat_natCast]
theorem sIx_le (n d : Nat) (hd : d ≤ n) (o : Option Int) : sIx n d o ≤ n := by
  cases o with
  | none => exact hd
  | some v =>
    show (if v < 0 then (v + (n : Int)).toNat else min v.toNat n) ≤ n
    by_cases hv : v < 0
    · rw [if_pos hv]; omega
    · rw [if_neg hv]; exact Nat.min_le_right _ _
theorem clip_eq (v : Int) (n d : Nat) : (if v < 0 then max (v + (n : Int)) 0 else min v (n : Int)) = ((sIx n d (some v) : Nat) : Int) := by
  show (if v < 0 then max (v + (n : Int)) 0 else min v (n : Int)) = (((if v < 0 then (v + (n : Int)).toNat else min v.toNat n) : Nat) : Int)
  by_cases hv : v < 0
  · simp only [if_pos hv]; omega
  · simp only [if_neg hv]; omega
theorem adjust_gen (lo hi : Option Int) (n : Nat) : Builtin.Slice.sliceAdjust lo hi 1 (n : Int) = (((sIx n 0 lo : Nat) : Int), ((sIx n n hi : Nat) : Int)) := by
  have h1 : ¬ ((1 : Int) < 0) := by omega
  unfold Builtin.Slice.sliceAdjust
  simp only [h1, if_false]
  refine Prod.ext ?_ ?_
  · cases lo with
    | none => rfl
    | some v => exact clip_eq v n 0
  · cases hi with
    | none => rfl
    | some v => exact clip_eq v n n
theorem places_gen (i j : Nat) : Builtin.Slice.slicePlaces (i : Int) (j : Int) 1 = j - i := by
  unfold Builtin.Slice.slicePlaces
  have h1 : (1 : Int) > 0 := by omega
  simp only [h1, if_true, Int.ediv_one]
  split <;> omega
theorem slicePart_ {v : Value} {o : Option Int} {Q : Option Int → Shared → Prop} (p : IsPart v o) (h : Q o s) : wpAny (model prog w) A (Builtin.Slice.slicePartIndex v) Q E s := by
  cases p with
  | none => exact slicePart_none h
  | int i t => exact slicePart_int h
theorem sliceApplied_gen {sl : Addr} {vl vu : Value} {lo hi : Option Int} {n : Nat} {Q : Int × Int × Nat → Shared → Prop} (hs : s.heap.IsSliceOf sl vl vu .none) (pl : IsPart vl lo) (pu : IsPart vu hi)
    (h : Q (((sIx n 0 lo : Nat) : Int), 1, sIx n n hi - sIx n 0 lo) s) : wpAny (model prog w) A (Builtin.Slice.sliceApplied (.ref sl) (pure (n : Int))) Q E s := by
  obtain ⟨os, hos, hcs, hds⟩ := id hs
  unfold Builtin.Slice.sliceApplied Builtin.Slice.sliceFields
  refine wpAny_bind (wpAny_bind (wpAny_field hos hds (x := vl) rfl (wpAny_bind (wpAny_field hos hds (x := vu) rfl (wpAny_bind (wpAny_field hos hds (x := .none) rfl (wpAny_pure ?_)))))))
  refine wpAny_bind (slicePart_none ?_)
  show wpAny _ _ (if ((1 : Int) == 0) = true then _ else _) _ _ s
  rw [if_neg (by decide)]
  refine wpAny_bind (slicePart_ pl (wpAny_bind (slicePart_ pu (wpAny_bind (wpAny_pure ?_)))))
  show wpAny _ _ (match Builtin.Slice.sliceAdjust lo hi 1 (n : Int) with | (lo, hi) => pure (lo, (1 : Int), Builtin.Slice.slicePlaces lo hi 1)) _ _ s
  rw [adjust_gen lo hi n]
  show wpAny _ _ (pure (((sIx n 0 lo : Nat) : Int), (1 : Int), Builtin.Slice.slicePlaces ((sIx n 0 lo : Nat) : Int) ((sIx n n hi : Nat) : Int) 1)) _ _ s
  rw [places_gen]
  exact wpAny_pure h
theorem pick_gen (xs : Array Value) (i k : Nat) : ((List.range k).filterMap fun (m : Nat) => xs[((i : Int) + (m : Int) * 1).toNat]?).toArray = ((xs.toList.drop i).take k).toArray := by
  have e : (fun (m : Nat) => xs[((i : Int) + (m : Int) * 1).toNat]?) = fun m => xs[i + m]? := by
    funext m
    have : ((i : Int) + (m : Int) * 1).toNat = i + m := by omega
    rw [this]
  rw [e]
  have := pick_run xs i k
  rw [List.filterMap_map] at this
  have e2 : ((fun x => xs[x]?) ∘ fun x => i + x) = fun m => xs[i + m]? := rfl
  rw [e2] at this
  rw [this]

theorem getItem_tuple_cut {t sl : Addr} {items : Array Value} {vl vu : Value} {lo hi : Option Int} {Q : Value → Shared → Prop} (ht : IsTup s.heap t items) (hs : s.heap.IsSliceOf sl vl vu .none) (pl : IsPart vl lo) (pu : IsPart vu hi)
    (hw : ¬ (sIx items.size 0 lo = 0 ∧ sIx items.size items.size hi = items.size))
    (h : Q (.ref s.heap.objs.size) { s with heap := s.heap.push { cls := .type "tuple", data := .seq ((items.toList.drop (sIx items.size 0 lo)).take (sIx items.size items.size hi - sIx items.size 0 lo)).toArray } })
    (hsz : items.size ≤ sizeLine) : wpAny (model prog w) A (getItem (.ref t) (.ref sl)) Q E s := by
  have htake : sizeOk (.seq ((items.toList.drop (sIx items.size 0 lo)).take (sIx items.size items.size hi - sIx items.size 0 lo)).toArray) := by
    show ((items.toList.drop (sIx items.size 0 lo)).take (sIx items.size items.size hi - sIx items.size 0 lo)).toArray.size ≤ sizeLine
    rw [List.size_toArray, List.length_take, List.length_drop, Array.length_toList]
    omega
  have hj : sIx items.size items.size hi ≤ items.size := sIx_le _ _ (Nat.le_refl _) hi
  obtain ⟨os, hos, hcs, hds⟩ := id hs
  have hTs : s.TypeIs (.ref sl) "slice" := ⟨os, hos, hcs⟩
  unfold getItem
  try with_reducible refine wpAny_holding ?_
  first | refine wpAny_bind (wpAny_pure ?_) | skip
  refine wpAny_bind (wpAny_sequenceKey ht.typeIs (by decide) ?_)
  refine wpAny_bind (wpAny_callSpecial?_slot (name := Str.ofString "__getitem__") ht.typeIs PyProof.Rows.slot_tuple_getitem
    (wpAny_call_entry PyProof.Rows.slot_tuple_getitem ht.typeIs entry_tuple_getitem ?_ (args_tuple_getitem _ _)))
  show wpAny _ _ (Builtin.Tuple.tupleItemsOf (.ref t) >>= _) _ _ s
  refine wpAny_bind (tupleItemsOf_ ht ?_)
  refine wpAny_bind (wpAny_typeOf hTs ?_)
  rw [if_pos (by decide)]
  refine wpAny_bind (sliceApplied_gen hs pl pu ?_)
  have hno : ¬ ((((sIx items.size 0 lo : Nat) : Int) == 0 && (1 : Int) == 1 && (sIx items.size items.size hi - sIx items.size 0 lo) == items.size) = true) := by
    intro q
    rw [Bool.and_eq_true, Bool.and_eq_true] at q
    have q1 : ((sIx items.size 0 lo : Nat) : Int) = 0 := eq_of_beq q.1.1
    have q2 : sIx items.size items.size hi - sIx items.size 0 lo = items.size := eq_of_beq q.2
    exact hw ⟨by omega, by omega⟩
  show wpAny _ _ (if (((sIx items.size 0 lo : Nat) : Int) == 0 && (1 : Int) == 1 && (sIx items.size items.size hi - sIx items.size 0 lo) == items.size) = true then _ else _) _ _ s
  rw [if_neg hno, pick_gen]
  first
    | exact wpAny_bind (m := Builtin.Tuple.tupleExact _) (wpAny_newObj_type (wpAny_pure ⟨_, rfl, wpAny_pure h⟩) htake)
    | exact wpAny_bind (m := Builtin.Tuple.tupleExact _) (wpAny_newObj_type (wpAny_bind (wpAny_pure (wpAny_pure ⟨_, rfl, wpAny_pure h⟩))) htake)
    | exact wpAny_bind (wpAny_bind (m := Builtin.Tuple.tupleExact _) (wpAny_newObj_type (wpAny_pure (wpAny_pure ⟨_, rfl, wpAny_pure h⟩)) htake))
    | exact wpAny_bind (wpAny_bind (m := Builtin.Tuple.tupleExact _) (wpAny_newObj_type (wpAny_pure ⟨_, rfl, wpAny_pure h⟩) htake))
end
end HT

namespace L2
open PySem PySem.Spec PyProof.Rows

abbrev TO := St → Hp → (Option Int → Hp → Prop) → Prop
/-- a slice's part (left out, or an int) -/
def PO (X : Cx) (e : Option Expr) (t : TO) : Prop :=
  ∀ (pins : List (Addr × Obj)) (s : Shared) (σ : St) (H : Hp) (Q : Option Int → Hp → Prop), Inv X pins σ H s → t σ H Q →
    wpAny (model X.prog X.w) X.A (evalPart e X.env) (fun u s' => ∃ o H', Inv X pins σ H' s' ∧ IsPart u o ∧ Q o H') X.xe s
def tNoPart : TO := fun _ H Q => Q none H
def tPart (t : TE) : TO := fun σ H Q => t σ H fun x H1 => ∃ i, x = .int i ∧ Q (some i) H1

section
variable {X : Cx} {e : Expr} {te : TE} {lo hi : Option Expr} {tl th : TO} {pos p2 : Pos}

theorem po_none : PO X none tNoPart := by
  intro pins s σ H Q I h
  rw [evalPart_none]
  exact wpAny_pure ⟨none, H, I, .none, h⟩
theorem po_some (h : PE X e te) : PO X (some e) (tPart te) := by
  intro pins s σ H Q I hw
  rw [evalPart_some]
  refine thn (h pins s σ H _ I hw) fun u s1 ⟨x, H1, I1, r1, q1⟩ => ?_
  obtain ⟨i, rfl, q⟩ := q1
  obtain ⟨t, rfl⟩ := r1
  exact ⟨some i, H1, I1, .int i t, q⟩

/-- what a slice of a value is, by values: the slice object stands at sl -/
def SlR (X : Cx) (r : V → Option Int → Option Int → Hp → VK → Prop) : Prop :=
  ∀ (pins : List (Addr × Obj)) (s : Shared) (σ : St) (H : Hp) (x : V) (v vl vu : Value) (lo hi : Option Int) (sl : Addr) (Q : VK), Inv X pins σ H s → RelV x v → s.heap.IsSliceOf sl vl vu .none → IsPart vl lo → IsPart vu hi → r x lo hi H Q →
    ∃ T id, typeLookup (.type T) "__getitem__" = pure (some (.builtin id)) ∧ s.TypeIs v T ∧ wpAny (model X.prog X.w) X.A (getItem v (.ref sl)) (EP X pins σ Q) X.xe s
theorem SlR.or {r r' : V → Option Int → Option Int → Hp → VK → Prop} (h : SlR X r) (h' : SlR X r') : SlR X (fun x lo hi H Q => r x lo hi H Q ∨ r' x lo hi H Q) := by
  intro pins s σ H x v vl vu lo hi sl Q I rx hs pl pu q
  rcases q with q | q
  · exact h pins s σ H x v vl vu lo hi sl Q I rx hs pl pu q
  · exact h' pins s σ H x v vl vu lo hi sl Q I rx hs pl pu q
def tSl (r : V → Option Int → Option Int → Hp → VK → Prop) (te : TE) (tl th : TO) : TE := fun σ H Q => te σ H fun x H1 => tl σ H1 fun l H2 => th σ H2 fun u H3 => r x l u H3 Q
/-- a[lo:hi], any a -/
theorem pe_slice {r : V → Option Int → Option Int → Hp → VK → Prop} (hr : SlR X r) (he : PE X e te) (hl : PO X lo tl) (hu : PO X hi th) : PE X (.Subscript e (.Slice lo hi none p2) pos) (tSl r te tl th) := by
  intro pins s σ H Q I h
  refine Subscript_ (thn (he pins s σ H _ I h) fun v s1 ⟨x, H1, I1, r1, q1⟩ => ?_)
  refine wpAny_Slice (thn (hl pins s1 σ H1 _ I1 q1) fun vl s2 ⟨l, H2, I2, pl, q2⟩ => thn (hu pins s2 σ H2 _ I2 q2) fun vu s3 ⟨u, H3, I3, pu, q3⟩ => ?_)
  rw [evalPart_none]
  refine wpAny_pure ?_
  have I4 : Inv X pins σ H3 { s3 with heap := s3.heap.push { cls := .type "slice", data := .fields #[vl, vu, .none] } } := I3.kept (t' := s3.toks) fun b ob q => Heap.get?_push_of_some _ q
  obtain ⟨T, id, hT, ht, hg⟩ := hr pins { s3 with heap := s3.heap.push { cls := .type "slice", data := .fields #[vl, vu, .none] } } σ H3 x v vl vu l u s3.heap.objs.size Q I4 r1 (Heap.IsSliceOf.new ..) pl pu q3
  show wpAny (model X.prog X.w) X.A (subscriptTail e (.Slice lo hi none p2) v (.ref s3.heap.objs.size)) (EP X pins σ Q) X.xe { s3 with heap := s3.heap.push { cls := .type "slice", data := .fields #[vl, vu, .none] } }
  exact tail_any (ops := [.ref s3.heap.objs.size, v]) ht hT hg (by with_unfolding_all rfl)

/-- the items of xs[lo:hi] -/
def cutV (xs : List V) (lo hi : Option Int) : List V := (xs.drop (HT.sIx xs.length 0 lo)).take (HT.sIx xs.length xs.length hi - HT.sIx xs.length 0 lo)
theorem cutV_length (xs : List V) (lo hi : Option Int) : (cutV xs lo hi).length ≤ xs.length := by
  unfold cutV
  rw [List.length_take, List.length_drop]
  omega
/-- t[lo:hi], not the whole of it (the whole would be t itself) -/
def rSlT (K : PySem.W.Frag) : V → Option Int → Option Int → Hp → VK → Prop := fun x lo hi H Q => ∃ a xs, x = .ref a ∧ SqT K H a xs ∧
  ¬ (HT.sIx xs.length 0 lo = 0 ∧ HT.sIx xs.length xs.length hi = xs.length) ∧ ∀ p, H p = none → Q (.ref p) (upd H p (.tup (cutV xs lo hi)))
theorem sl_tup : SlR X (rSlT X.K) := by
  intro pins s σ H x v vl vu lo hi sl Q I rx hs pl pu h
  obtain ⟨a, xs, rfl, hx, hw, q⟩ := h
  cases rx
  obtain ⟨its, r, ht, hz⟩ := I.tuple hx
  have hlen : its.toArray.size = xs.length := by rw [List.size_toArray]; exact r.length.symm
  refine ⟨"tuple", _, PyProof.Rows.slot_tuple_getitem.lookup, ht.typeIs, ?_⟩
  refine HT.getItem_tuple_cut ht hs pl pu (by rw [hlen]; exact hw) ?_ (by rw [hlen]; exact hz)
  rw [hlen]
  refine ⟨.ref s.heap.objs.size, _, I.laid (t' := s.toks) (o := .tup (cutV xs lo hi)) (fun b ob q => Heap.get?_push_of_some _ q) (Nat.le_refl _) ?_, rfl, q _ (I.hok.fresh (Nat.le_refl _))⟩
  exact ⟨Nat.le_trans (cutV_length xs lo hi) hz, _, (r.drop (HT.sIx xs.length 0 lo)).take (HT.sIx xs.length xs.length hi - HT.sIx xs.length 0 lo), IsTup.new _ _⟩

end
end L2

namespace L2
open PySem PySem.Spec PyProof.Rows

/-- the place that an index of any sign means -/
def ixN (n : Nat) (i : Int) : Option Nat := if 0 ≤ i then (if i < n then some i.toNat else none) else if -(n : Int) ≤ i then some (i + n).toNat else none
def atI {α : Type} (xs : List α) (i : Int) : Option α := (ixN xs.length i).bind fun j => xs[j]?
theorem ixN_seq {n : Nat} {i : Int} {j : Nat} (h : ixN n i = some j) : seqIndex? i n = some j ∧ j < n ∧ -(n : Int) ≤ i ∧ i < n := by
  unfold ixN at h
  by_cases h0 : 0 ≤ i
  · rw [if_pos h0] at h
    by_cases h1 : i < n
    · rw [if_pos h1] at h
      have e : i.toNat = j := Option.some.inj h
      exact ⟨by rw [seqIndex_of h0 h1, e], by omega, by omega, h1⟩
    · rw [if_neg h1] at h; cases h
  · rw [if_neg h0] at h
    by_cases h1 : -(n : Int) ≤ i
    · rw [if_pos h1] at h
      have e : (i + n).toNat = j := Option.some.inj h
      exact ⟨by rw [seqIndex_neg (by omega) h1, e], by omega, h1, by omega⟩
    · rw [if_neg h1] at h; cases h
theorem atI_get {α : Type} {xs : List α} {i : Int} {v : α} (h : atI xs i = some v) : ∃ j, seqIndex? i xs.length = some j ∧ xs[j]? = some v ∧ j < xs.length ∧ -(xs.length : Int) ≤ i ∧ i < xs.length := by
  unfold atI at h
  cases e : ixN xs.length i with
  | none => rw [e] at h; cases h
  | some j =>
    rw [e] at h
    obtain ⟨h1, h2, h3, h4⟩ := ixN_seq e
    exact ⟨j, h1, h, h2, h3, h4⟩
theorem atI_nat {α : Type} {xs : List α} {j : Nat} {v : α} (h : xs[j]? = some v) : atI xs (j : Int) = some v := by
  have hj : j < xs.length := (List.getElem?_eq_some_iff.mp h).1
  have e : ixN xs.length (j : Int) = some j := by
    unfold ixN
    rw [if_pos (by omega), if_pos (by omega)]; simp
  unfold atI; rw [e]; exact h
theorem atI_last {α : Type} (xs : List α) (v : α) : atI (xs ++ [v]) (-1) = some v := by
  have hl : (xs ++ [v]).length = xs.length + 1 := by simp
  have e : ixN (xs ++ [v]).length (-1) = some xs.length := by
    unfold ixN
    rw [hl, if_neg (by decide), if_pos (by omega)]
    congr 1
    omega
  unfold atI
  rw [e]
  show (xs ++ [v])[xs.length]? = some v
  simp

/-- what stands as an index of a plain subscript -/
def PlainIx (b : Expr) : Prop := ∀ o i, subscripted b false o i = operate [o, i] (getItem o i)
/-- a subscript by values -/
def IxR (X : Cx) (r : R2) : Prop :=
  ∀ (value slice : Expr) (pins : List (Addr × Obj)) (s : Shared) (σ : St) (H : Hp) (x y : V) (v u : Value) (Q : VK), Inv X pins σ H s → RelV x v → RelV y u → r x y H Q →
    subscripted slice false v u = operate [v, u] (getItem v u) → wpAny (model X.prog X.w) X.A (subscriptTail value slice v u) (EP X pins σ Q) X.xe s
/-- a call of a builtin's method by values: the receiver, the arguments -/
def MtR (X : Cx) (id : String) (r : V → List V → Hp → VK → Prop) : Prop :=
  ∀ (pins : List (Addr × Obj)) (s : Shared) (σ : St) (H : Hp) (x : V) (xs : List V) (v : Value) (us : List Value) (Q : VK), Inv X pins σ H s → RelV x v → Vals xs us → r x xs H Q →
    wpAny (model X.prog X.w) X.A (call (.builtin id) (v :: us)) (EP X pins σ Q) X.xe s
section
variable {X : Cx} {a b : Expr} {ta tb : TE} {pos : Pos}
theorem IxR.or {r r' : R2} (h : IxR X r) (h' : IxR X r') : IxR X (fun x y H Q => r x y H Q ∨ r' x y H Q) := by
  intro value slice pins s σ H x y v u Q I rx ry q hs
  rcases q with q | q
  · exact h value slice pins s σ H x y v u Q I rx ry q hs
  · exact h' value slice pins s σ H x y v u Q I rx ry q hs
/-- a[b] -/
theorem pe_ix {r : R2} (hr : IxR X r) (ha : PE X a ta) (hb : PE X b tb) (hs : PlainIx b) : PE X (.Subscript a b pos) (tOp r ta tb) := by
  intro pins s σ H Q I h
  exact Subscript_ (binT ha hb I h fun v u s2 x y H2 I2 rx ry q => hr a b pins s2 σ H2 x y v u Q I2 rx ry q (hs _ _))

def rIxL (K : PySem.W.Frag) : R2 := fun x y H Q => ∃ p xs i v, x = .ref p ∧ y = .int i ∧ SqL K H p xs ∧ atI xs i = some v ∧ Q v H
def rIxT (K : PySem.W.Frag) : R2 := fun x y H Q => ∃ p xs i v, x = .ref p ∧ y = .int i ∧ SqT K H p xs ∧ atI xs i = some v ∧ Q v H
def rIxS : R2 := fun x y H Q => ∃ z i c, x = .str z ∧ y = .int i ∧ z.length ≤ sizeLine ∧ atI z.cps.toList i = some c ∧ Q (.str ⟨#[c]⟩) H
theorem ix_list : IxR X (rIxL X.K) := by
  intro value slice pins s σ H x y v u Q I rx ry h hs
  obtain ⟨p, xs, i, z, rfl, rfl, hq, he, q⟩ := h
  cases rx
  obtain ⟨t, rfl⟩ := ry
  obtain ⟨its, r, pl, hz⟩ := I.list hq
  obtain ⟨j, h1, h2, h3, h4, h5⟩ := atI_get he
  obtain ⟨w, ew, rw'⟩ := r.get h2
  have hl := r.length
  have hn := line63
  have fin : EP X pins σ Q w s := ⟨z, H, I, rw', q⟩
  by_cases h0 : 0 ≤ i
  · have hj : i.toNat = j := by
      rw [seqIndex_of h0 h5] at h1
      exact Option.some.inj h1
    exact item_listR pl.isList h0 (by omega) (by rw [hj]; simpa using ew) fin hs
  · have hj : (i + (its.toArray.size : Int)).toNat = j := by
      rw [seqIndex_neg (by omega) h4] at h1
      rw [List.size_toArray, ← hl]
      exact Option.some.inj h1
    exact subscriptTail_builtinR (x := w) pl.isList.typeIs slot_list_getitem.lookup
      (wpAny_getItem_list_neg (Q := fun r s' => r = w ∧ EP X pins σ Q r s') pl.isList (by omega) (by rw [List.size_toArray] <;> omega) (by omega) (by rw [hj]; simpa using ew) ⟨rfl, fin⟩) hs
theorem ix_tup : IxR X (rIxT X.K) := by
  intro value slice pins s σ H x y v u Q I rx ry h hs
  obtain ⟨p, xs, i, z, rfl, rfl, hq, he, q⟩ := h
  cases rx
  obtain ⟨t, rfl⟩ := ry
  obtain ⟨its, r, pl, hz⟩ := I.tuple hq
  obtain ⟨j, h1, h2, h3, h4, h5⟩ := atI_get he
  obtain ⟨w, ew, rw'⟩ := r.get h2
  have hl := r.length
  have hn := line63
  have fin : EP X pins σ Q w s := ⟨z, H, I, rw', q⟩
  exact subscriptTail_builtinR (x := w) pl.typeIs slot_tuple_getitem.lookup
    (getItem_tuple (j := j) (Q := fun r s' => r = w ∧ EP X pins σ Q r s') pl (by omega) (by omega) (by rw [List.size_toArray, ← hl]; exact h1) (by simpa using ew) ⟨rfl, fin⟩) hs
theorem ix_str : IxR X rIxS := by
  intro value slice pins s σ H x y v u Q I rx ry h hs
  obtain ⟨z, i, c, rfl, rfl, hz, he, q⟩ := h
  obtain ⟨t, rfl⟩ := rx
  obtain ⟨t', rfl⟩ := ry
  obtain ⟨j, h1, h2, h3, h4, h5⟩ := atI_get he
  have hl : z.cps.toList.length = z.length := by simp [Str.length]
  rw [hl] at h1 h4 h5
  have hn := line63
  exact tail_any (typeIs_str s z t) slot_str_getitem.lookup (getItem_str (c := c) (by
    have e1 : decide (i < -(2 ^ 63 : Int)) = false := decide_eq_false (by omega)
    have e2 : decide (i ≥ 2 ^ 63) = false := decide_eq_false (by omega)
    rw [e1, e2, Bool.or_false]) (by rw [h1]; simpa using h2) ⟨.str ⟨#[c]⟩, H, I.tok _, ⟨_, rfl⟩, q⟩) hs
/-- list, tuple or str -/
def rIx (K : PySem.W.Frag) : R2 := fun x y H Q => rIxL K x y H Q ∨ rIxT K x y H Q ∨ rIxS x y H Q
theorem ix_seq : IxR X (rIx X.K) := ix_list.or (ix_tup.or ix_str)

theorem slice_bounds (lo hi : Option Int) (n : Nat) : (sliceBounds lo hi none n).1 = ((HT.sIx n 0 lo : Nat) : Int) ∧ (sliceBounds lo hi none n).2.1 = ((HT.sIx n n hi : Nat) : Int) ∧ (sliceBounds lo hi none n).2.2 = 1 := by
  refine ⟨?_, ?_, rfl⟩
  · cases lo with
    | none => simp [sliceBounds, HT.sIx]
    | some i =>
      simp only [sliceBounds, HT.sIx, Option.getD_none, show (1 : Int) > 0 by decide, if_true]
      by_cases h : i < 0
      · simp only [h, if_true] <;> omega
      · simp only [h, if_false] <;> omega
  · cases hi with
    | none => simp [sliceBounds, HT.sIx]
    | some i =>
      simp only [sliceBounds, HT.sIx, Option.getD_none, show (1 : Int) > 0 by decide, if_true]
      by_cases h : i < 0
      · simp only [h, if_true] <;> omega
      · simp only [h, if_false] <;> omega
theorem slicePick_cut (its : List Value) (lo hi : Option Int) : slicePick its.toArray lo hi none = ((its.drop (HT.sIx its.length 0 lo)).take (HT.sIx its.length its.length hi - HT.sIx its.length 0 lo)).toArray := by
  obtain ⟨h1, h2, h3⟩ := slice_bounds lo hi its.toArray.size
  unfold slicePick
  rw [h1, h2, h3]
  simp only [sliceRange_one, pick_run, List.size_toArray] <;> rfl
/-- xs[lo:hi] of a list: a new list -/
def rSlL (K : PySem.W.Frag) : V → Option Int → Option Int → Hp → VK → Prop := fun x lo hi H Q => ∃ a xs, x = .ref a ∧ SqL K H a xs ∧ ∀ p, H p = none → Q (.ref p) (upd H p (.lst (cutV xs lo hi)))
theorem sl_list : SlR X (rSlL X.K) := by
  intro pins s σ H x v vl vu lo hi sl Q I rx hs pl pu h
  obtain ⟨a, xs, rfl, hx, q⟩ := h
  cases rx
  obtain ⟨its, r, ht, hz⟩ := I.list hx
  have hlen := r.length
  refine ⟨"list", _, slot_list_getitem.lookup, ht.isList.typeIs, ?_⟩
  refine wpAny_getItem_list_slice ht.isList hs pl pu .none (by simp) ?_ (by rw [List.size_toArray] <;> omega)
  rw [slicePick_cut, ← hlen]
  refine ⟨.ref s.heap.objs.size, _, I.laid (t' := s.toks) (o := .lst (cutV xs lo hi)) (fun b ob q => Heap.get?_push_of_some _ q) (Nat.le_refl _) ?_, rfl, q _ (I.hok.fresh (Nat.le_refl _))⟩
  exact ⟨Nat.le_trans (cutV_length xs lo hi) hz, _, 0, (r.drop (HT.sIx xs.length 0 lo)).take (HT.sIx xs.length xs.length hi - HT.sIx xs.length 0 lo), Heap.get?_push_size _ rfl⟩

theorem call_tuple_of : CallR X (.type "tuple") (fun xs H Q => ∃ p ys, xs = [.ref p] ∧ ((SqL X.K H p ys ∧ ∀ l, H l = none → Q (.ref l) (upd H l (.tup ys))) ∨ (SqT X.K H p ys ∧ Q (.ref p) H))) := by
  intro pins s σ H xs us Q I r h
  obtain ⟨p, ys, rfl, h⟩ := h
  obtain ⟨u, rfl, rx⟩ := vals1 r
  cases rx
  rcases h with ⟨hq, q⟩ | ⟨hq, q⟩
  · obtain ⟨its, r', pl, hz⟩ := I.list hq
    have hlen := r'.length
    refine call_tuple_list pl.isList (fun h' kp => ?_) (by simp only [List.size_toArray] <;> omega)
    have I1 : Inv X pins σ H { s with heap := h' } := I.kept (t' := s.toks) kp
    have I2 : Inv X pins σ (upd H h'.objs.size (.tup ys)) { s with heap := h'.push { cls := .type "tuple", data := .seq its.toArray } } :=
      I1.laid (t' := s.toks) (fun b o e => Heap.get?_push_of_some _ e) (Nat.le_refl _) (show ObjOk X.prog X.w _ _ _ (.tup ys) from ⟨hz, its, r', IsTup.new _ _⟩)
    exact ⟨.ref h'.objs.size, _, I2, rfl, q _ (I1.hok.fresh (Nat.le_refl _))⟩
  · obtain ⟨its, r', pl, hz⟩ := I.tuple hq
    exact call_tuple_same pl ⟨.ref p, H, I, rfl, q⟩

/-- the value is of that builtin type -/
def tyV (K : PySem.W.Frag) (T : String) (x : V) (H : Hp) : Prop := match x with
  | .str _ => T = "str"
  | .int _ => T = "int"
  | .ref p => (T = "list" ∧ ∃ xs, SqL K H p xs) ∨ (T = "tuple" ∧ ∃ o, K.lookup p = some o ∧ o.cls = .type "tuple" ∧ o.dict = none) ∨
      (T = "dict" ∧ ((∃ kvs, H p = some (.dK kvs)) ∨ ∃ kvs, H p = some (.dT kvs))) ∨ (T = "set" ∧ ∃ S n, H p = some (.set S n))
  | _ => False
theorem tyV_is {pins : List (Addr × Obj)} {σ : St} {H : Hp} {s : Shared} {T : String} {x : V} {v : Value} (I : Inv X pins σ H s) (r : RelV x v) (ty : tyV X.K T x H) :
    s.TypeIs v T ∧ ∀ a, v = .ref a → ∃ ob, s.heap.get? a = some ob ∧ ob.dict = none := by
  cases x with
  | str z =>
    obtain ⟨t, rfl⟩ := r
    cases (show T = "str" from ty)
    exact ⟨typeIs_str s z t, fun _ e => nomatch e⟩
  | int i =>
    obtain ⟨t, rfl⟩ := r
    cases (show T = "int" from ty)
    exact ⟨typeIs_int s i t, fun _ e => nomatch e⟩
  | ref p =>
    cases r
    rcases ty with ⟨rfl, xs, hq⟩ | ⟨rfl, o, hk, hc, hd⟩ | ⟨rfl, hk⟩ | ⟨rfl, S, n, hk⟩
    · obtain ⟨its, _, pl, _⟩ := I.list hq
      refine ⟨pl.isList.typeIs, fun a e => ?_⟩
      cases e
      obtain ⟨o, n, e, c, hd, _⟩ := pl
      exact ⟨o, e, hd⟩
    · refine ⟨⟨o, I.kIn p o hk, hc⟩, fun a e => ?_⟩
      cases e
      exact ⟨o, I.kIn _ o hk, hd⟩
    · have z : ∃ o, s.heap.get? p = some o ∧ o.ExactDict := by
        rcases hk with ⟨kvs, hk⟩ | ⟨kvs, hk⟩
        · obtain ⟨_, _, _, _, o, _, _, e, ex, _⟩ := I.hok p _ hk
          exact ⟨o, e, ex⟩
        · obtain ⟨_, _, _, _, o, _, _, e, ex, _⟩ := I.hok p _ hk
          exact ⟨o, e, ex⟩
      obtain ⟨o, e, ex⟩ := z
      refine ⟨⟨o, e, ex.1⟩, fun a e2 => ?_⟩
      cases e2
      exact ⟨o, e, ex.2.1⟩
    · obtain ⟨o, _, _, _, e, ex, _⟩ := I.hok p _ hk
      refine ⟨⟨o, e, ex.1⟩, fun a e2 => ?_⟩
      cases e2
      exact ⟨o, e, ex.2.1⟩
  | _ => exact False.elim ty
def tBM0 (K : PySem.W.Frag) (T : String) (r : V → List V → Hp → VK → Prop) (to : TE) : TE := fun σ H Q => to σ H fun x H1 => tyV K T x H1 ∧ r x [] H1 Q
def tBM (K : PySem.W.Frag) (T : String) (r : V → List V → Hp → VK → Prop) (to : TE) (t : TA) : TE := fun σ H Q => to σ H fun x H1 => tyV K T x H1 ∧ t σ H1 fun xs H2 => r x xs H2 Q
variable {o e : Expr} {es : List Expr} {to : TE} {t : TA} {name : Str} {apos cpos : Pos} {T id : String} {r : V → List V → Hp → VK → Prop}
theorem pe_bm0 (pa : PlainAttrs T) (slot : Slot T name id) (hty : typeOf (.builtin id) = pure (.type "method_descriptor")) (hm : MtR X id r) (ho : PE X o to)
    (hbase : attributeBase o name X.env (eval o X.env) = eval o X.env := by rfl) (hline : (apos.endLine == cpos.line) = true := by rfl) : PE X (.Call (.Attribute o name apos) [] [] cpos) (tBM0 X.K T r to) := by
  intro pins s σ H Q I h
  refine wpAny_Call_method0_late hbase hline (thn (ho pins s σ H _ I h) fun v s1 ⟨x, H1, I1, r1, ty, q1⟩ => ?_)
  obtain ⟨h1, h2⟩ := tyV_is I1 r1 ty
  exact ⟨T, id, pa, slot, hty, h1, h2, Calls.callWith_builtin rfl (PySem.evalArgs_none (hm pins s1 σ H1 x [] v [] Q I1 r1 .nil q1))⟩
theorem pe_bm (pa : PlainAttrs T) (slot : Slot T name id) (hty : typeOf (.builtin id) = pure (.type "method_descriptor")) (hm : MtR X id r) (ho : PE X o to) (ha : PA X (e :: es) t)
    (hbase : attributeBase o name X.env (eval o X.env) = eval o X.env := by rfl)
    (hfew : ((backTo cpos (starEach (e :: es) X.env)).all (fun x => !x.1) && (backToKw cpos (keywordEach [] X.env)).all (fun x => x.1.isSome)
      && decide ((e :: es).length + ([] : List Keyword).length + (if ([] : List Keyword).isEmpty then 0 else 1) < 30)) = true := by rfl)
    (hline : (apos.endLine == cpos.line) = true := by rfl) (hs : starEach (e :: es) X.env = (false, eval e X.env) :: starEach es X.env := by rfl) (hplain : (backTo cpos (starEach es X.env)).any (·.1) = false := by rfl) :
    PE X (.Call (.Attribute o name apos) (e :: es) [] cpos) (tBM X.K T r to t) := by
  intro pins s σ H Q I h
  refine wpAny_Call_method_late hbase hfew hline rfl (thn (ho pins s σ H _ I h) fun v s1 ⟨x, H1, I1, r1, ty, q1⟩ => ?_)
  obtain ⟨h1, h2⟩ := tyV_is I1 r1 ty
  refine ⟨T, id, pa, slot, hty, h1, h2, ?_⟩
  have hA := ha cpos pins s1 σ H1 _ I1 q1
  rw [hs] at hA ⊢
  refine Calls.callWith_builtin (by show (false || (backTo cpos (starEach es X.env)).any (·.1)) = false; rw [hplain] <;> rfl) (Calls.evalArgs_plain ?_)
  exact thn hA fun us s2 ⟨vs, H2, I2, r2, q2⟩ => hm pins s2 σ H2 x vs v us Q I2 r1 r2 q2
/- xs.append(e), list.index on a module's tuple .. are MtR facts of 06m -/
end
end L2

namespace L2
open PySem PySem.Spec PyProof.Rows

def MtM (X : Cx) (id : String) (r : V → List V → Hp → VK → Prop) : Prop :=
  ∀ (pins : List (Addr × Obj)) (s : Shared) (σ : St) (H : Hp) (x : V) (xs : List V) (v : Value) (us : List Value) (Q : VK), Inv X pins σ H s → RelV x v → Vals xs us → r x xs H Q →
    wpAny (model X.prog X.w) X.A (call (.builtin id) (v :: us)) (EP X pins σ Q) X.xe s

theorem Vals.one : ∀ {x : V} {us : List Value}, Vals [x] us → ∃ u, us = [u] ∧ RelV x u
  | _, _, .cons r .nil => ⟨_, rfl, r⟩
theorem Vals.zero : ∀ {us : List Value}, Vals [] us → us = []
  | _, .nil => rfl
section
variable {X : Cx} {pins : List (Addr × Obj)} {σ : St} {H : Hp} {s : Shared} {l b : Addr} {xs ys zs : List V}

theorem Inv.lset {its its' : List Value} {n : Nat} {f : Array Value → Array Value} {t' : Nat} (I : Inv X pins σ H s) (hH : H l = some (.lst xs))
    (e : s.heap.get? l = some { cls := .type "list", data := .seq its.toArray n }) (hf : f its.toArray = its'.toArray) (hv : Vals ys its') (hz : ys.length ≤ sizeLine) :
    Inv X pins σ (upd H l (.lst ys)) { s with heap := s.heap.update l (Obj.mapSeq f), toks := t' } := by
  have q := PySem.IsL.update e f
  rw [hf] at q
  refine I.write (x := l) (e := l) (by rw [hH]; exact trivial) (.inl rfl) (fun b' u hb hu => (Heap.get?_update_other s.heap (Obj.mapSeq f) (Ne.symm hb)).trans hu) ⟨_, q⟩ ?_
  exact ⟨hz, its', _, hv, q⟩
theorem Inv.lnew {its : List Value} {t' : Nat} (I : Inv X pins σ H s) (hv : Vals ys its) (hz : ys.length ≤ sizeLine) :
    Inv X pins σ (upd H s.heap.objs.size (.lst ys)) { s with heap := s.heap.push { cls := .type "list", data := .seq its.toArray }, toks := t' } :=
  I.laid (fun _ _ q => Heap.get?_push_of_some _ q) (Nat.le_refl _) ⟨hz, its, 0, hv, Heap.get?_push_size _ rfl⟩
theorem Inv.fresh (I : Inv X pins σ H s) : H s.heap.objs.size = none := I.hok.fresh (Nat.le_refl _)
theorem Inv.lstM (I : Inv X pins σ H s) (hH : H l = some (.lst xs)) : xs.length ≤ sizeLine ∧ ∃ (its : List Value) (n : Nat), Vals xs its ∧ xs.length = its.length ∧ s.heap.get? l = some { cls := .type "list", data := .seq its.toArray n } := by
  obtain ⟨z, its, n, r, e⟩ := I.hok l _ hH
  exact ⟨z, its, n, r, r.length, e⟩

end

section
variable {X : Cx}

def rAppend : V → List V → Hp → VK → Prop := fun x vs H Q => ∃ l xs y, x = .ref l ∧ vs = [y] ∧ H l = some (.lst xs) ∧ xs.length < sizeLine ∧ Q .non (upd H l (.lst (xs ++ [y])))
theorem mt_append : MtM X "list.append" rAppend := by
  intro pins s σ H x vs v us Q I rx rv h
  obtain ⟨l, xs, y, rfl, rfl, hH, hz, q⟩ := h
  cases rx
  obtain ⟨u, rfl, ru⟩ := rv.one
  obtain ⟨z, its, n, r, hl, e⟩ := I.lstM hH
  refine call_meets F.slot_list_append ⟨_, e, rfl⟩ F.entry_list_append (F.args_list_append_2 _ _) (PySem.list_append l its.toArray n u (by rw [List.size_toArray]; omega)) ⟨e, ?_⟩
  refine ⟨.non, _, I.lset (its' := its ++ [u]) hH e (by simp) (r.append (.cons ru .nil)) ?_, rfl, q⟩
  rw [List.length_append, List.length_singleton]
  omega

def rClear : V → List V → Hp → VK → Prop := fun x vs H Q => ∃ l xs, x = .ref l ∧ vs = [] ∧ H l = some (.lst xs) ∧ Q .non (upd H l (.lst []))
theorem mt_clear : MtM X "list.clear" rClear := by
  intro pins s σ H x vs v us Q I rx rv h
  obtain ⟨l, xs, rfl, rfl, hH, q⟩ := h
  cases rx
  have hus := rv.zero
  subst hus
  obtain ⟨z, its, n, r, hl, e⟩ := I.lstM hH
  refine call_meets F.slot_list_clear ⟨_, e, rfl⟩ F.entry_list_clear (F.args_list_clear_1 _) (AutoSeq1.list_clear_list_0 l its.toArray n (by rw [List.size_toArray]; omega)) ⟨e, ?_⟩
  exact ⟨.non, _, I.lset (its' := []) (ys := []) hH e rfl .nil (Nat.zero_le _), rfl, q⟩

def rCat : R2 := fun x y H Q => ∃ l b xs zs, x = .ref l ∧ y = .ref b ∧ H l = some (.lst xs) ∧ H b = some (.lst zs) ∧ xs.length + zs.length ≤ sizeLine ∧ ∀ p, H p = none → Q (.ref p) (upd H p (.lst (xs ++ zs)))
theorem op_cat : OpR X (binaryOp .Add) rCat := by
  intro pins s σ H x y v u Q I rx ry h
  obtain ⟨l, b, xs, zs, rfl, rfl, hH, hB, hz, q⟩ := h
  cases rx
  cases ry
  obtain ⟨z, its, n, r, hl, e⟩ := I.lstM hH
  obtain ⟨z2, its2, n2, r2, hl2, e2⟩ := I.lstM hB
  refine PySem.P.add_list e e2 ?_ (by rw [List.size_toArray, List.size_toArray]; omega)
  have ea : its.toArray ++ its2.toArray = (its ++ its2).toArray := by simp
  rw [ea]
  exact ⟨.ref _, _, I.lnew (t' := s.toks) (r.append r2) (by rw [List.length_append]; omega), rfl, q _ I.fresh⟩
end

section
variable {prog : Program} {w : World} {A : Around} {E : Value → Shared → Prop} {s : Shared}
end

section
variable {X : Cx}
end
end L2

namespace L2
open PySem PySem.Spec PyProof.Rows

section
variable {κ : Type} [DecidableEq κ]
end


section
variable {P : Program} {w : World} {H : Hp} {h : Heap} {a : Addr}
end

section
variable {X : Cx} {pins : List (Addr × Obj)} {σ : St} {H : Hp} {s : Shared} {a : Addr} {y v : V} {u r : Value} {o : Option V} {A : Around} {E : Value → Shared → Prop}

end

section
variable {X : Cx} {pins : List (Addr × Obj)} {σ : St} {H : Hp} {s : Shared} {a : Addr} {kvs : List (Key × V)} {k : Key} {u : Value} {A : Around} {E : Value → Shared → Prop}
end


section
variable {X : Cx} {o i e value : Expr} {pos pos' tpos : Pos} {td ty tv : TE}
end


section
variable {X : Cx} {pos : Pos}
end

section
variable {X : Cx} {pins : List (Addr × Obj)} {σ : St} {H : Hp} {s : Shared} {a : Addr} {y d : V} {u r : Value} {o : Option V} {A : Around} {E : Value → Shared → Prop}
end

section
variable {X : Cx} {o e f : Expr} {apos cpos : Pos} {td ty tx : TE}
end

section
variable {X : Cx} {pins : List (Addr × Obj)} {σ : St} {H : Hp} {s : Shared} {a : Addr} {kvs : List (Key × V)} {A : Around} {E : Value → Shared → Prop}
end


section
variable {X : Cx} {pins : List (Addr × Obj)} {σ : St} {H : Hp} {s : Shared} {a : Addr} {y : V} {u : Value} {A : Around} {E : Value → Shared → Prop}
end
end L2

namespace Att
open PySem PySem.W PySem.Calls PyProof.Rows

theorem ints_of_wellAll {P : Params} {h : Heap} : ∀ (ns : List Int) (vs : List Value), WellAll P h vs (ns.map WData.int) → IntsAre vs ns := by
  intro ns
  induction ns with
  | nil =>
    intro vs w
    rw [List.map_nil] at w
    cases w
    exact .nil
  | cons n ns ih =>
    intro vs w
    rw [List.map_cons] at w
    cases w with
    | cons a b =>
      cases a
      exact .cons _ _ (ih _ b)

theorem script_of {l : OpenLaw} {n : Nat} (hn : l.most = some n) {P : Params} {h : Heap} {args : List WData} {vals : List Value}
    (hpre : l.row.toRowW.claim.pre args = true) (hwl : WellAll P h vals args) :
    ∃ a vs ns, vals = [Value.ref a] ∧ args = [WData.list (ns.map WData.int)] ∧ h.get? a = some { cls := .type "list", data := .seq vs.toArray } ∧ IntsAre vs ns ∧ ns.length ≤ n := by
  have hsh : WShape.hasAll [] args [.list .int] = true := (pre_splitW hpre).1
  have hc : l.pre.holds [] { args := args } = true := (pre_splitW hpre).2
  obtain ⟨d, r, rfl, h1, h2⟩ := hasAllW_cons hsh
  obtain rfl := hasAllW_nil h2
  obtain ⟨xs, rfl, h3⟩ := hasW_list h1
  obtain ⟨ns, rfl⟩ := items_int h3
  have hlen : ns.length ≤ n := by
    unfold OpenLaw.pre at hc
    have h4 : (WTm.not (.lt (.lit (.int (n : Int))) (.len (.arg 0)))).holds [] { args := [.list (ns.map .int)] } = true := by
      have h4 := (holds_andW hc).1
      rw [hn] at h4
      exact h4
    have h5 := condW_of h4 (w_not (w_lt w_lit (w_len_list (w_arg rfl))))
    rw [List.length_map] at h5
    refine Nat.le_of_not_lt fun q => ?_
    have q' : (n : Int) < ((ns.length : Nat) : Int) := by omega
    first
      | (rw [decide_eq_true q'] at h5; exact absurd h5 (by decide))
      | (simp at h5; omega)
  cases hwl with
  | cons w1 w2 =>
    cases w2
    cases w1 with
    | list ho hall => exact ⟨_, _, ns, rfl, rfl, ho, ints_of_wellAll ns _ hall, hlen⟩

theorem post_true (l : OpenLaw) (args : List WData) : l.row.toRowW.claim.post args (.bool true) args = true :=
  postW_of (r := l.row.toRowW) (X := (true == true))
    (show WShape.has [] (.bool true) .bool = true by first | rfl | decide | simp [WShape.has, WShape.arms, WShape.armsAll])
    (show (WTm.eq .res (.lit (.bool true))).value [] { args := args, res := some (.bool true), after := args } = some (.bool (true == true)) from w_eq_bool (w_res rfl) w_lit) rfl

/-- the same from a codeAny of the CALL (for a layer whose function contracts speak of calls) -/
theorem attach_call {l : OpenLaw} {n : Nat} {q : Program} {loose : List Str} {XP : (Str → Option Value) → Heap → Prop} {YP : World → Heap → Prop} {d : DefRec}
    (hn : l.most = some n) (hdf : d.params.defaults = [])
    (call : ∀ (w : World) (s₀ s₁ : Shared) (mg mb : Str → Option Value) (fa : Addr) (o : Obj) (pm cd doc : Value) (a : Addr) (vs : List Value) (ns : List Int),
      Ground q loose [] XP w s₀ mg mb s₁.heap → YP w s₁.heap →
      s₁.heap.get? fa = some o → o.data = .func (docDef d.name d.params d.body d.scope pm cd doc) → s₁.heap.CodeRec cd d.name → mg d.name = some (.ref fa) →
      s₁.heap.get? a = some { cls := .type "list", data := .seq vs.toArray } → IntsAre vs ns → ns.length ≤ n → s₁.gens = #[] →
      codeAny (model l.prog w) callerA (.call (.ref fa) ⟨[.ref a], []⟩) (fun r s' => r = .ok (.ret (.bool true)) ∧ OldK s₁.heap s'.heap ∧ s'.os = s₁.os ∧ AllBare s'.gens) s₁) :
    WalkO q loose XP YP l.row.toRowW d [] (fun f vs => PySem.call f vs) := by
  intro w s₀ s₁ mg mb G Y fa o pm cd doc dV kV ho hd hcd hD hmg hg args vals as hpre hlay hrd hwl hlo
  obtain rfl : dV = .none := Dflts.none hD hdf
  obtain rfl : kV = .none := Dflts.noKw hD
  obtain ⟨a, vs, ns, rfl, rfl, hobj, hints, hlen⟩ := script_of hn hpre hwl
  refine enter_call (codeAny_mono (call w s₀ s₁ mg mb fa o pm cd doc a vs ns G Y ho (fd_plain hd) hcd hmg hobj hints hlen hg) fun r s' hq => ?_)
  obtain ⟨rfl, h2, h3, h4⟩ := hq
  exact ⟨.inl ⟨.bool true, .bool true, [], rfl, fun _ => rfl, .bool true, post_true l _, fun _ => ⟨List.Pairwise.nil, fun _ hm => (nomatch hm)⟩⟩, h2, h3, h4⟩

section
variable {prog : Program} {w : World} {A : Around} {E : Value → Shared → Prop} {s : Shared} {K : Frag}

end
end Att

namespace L2
open PySem PySem.Spec PyProof.Rows

theorem vals_ints : ∀ {vs : List Value} {ns : List Int}, IntsAre vs ns → Vals (ns.map V.int) vs
  | _, _, .nil => .nil
  | _, _, .cons n t h => .cons ⟨t, rfl⟩ (vals_ints h)

/-- nothing is tracked but the script, known to the object (or it is an object of the module) -/
def Only (H : Hp) : Prop := ∀ b, H b = none ∨ ∃ o xs, H b = some (.frz o (.lst xs))

/-- THE HEAD: the law's promise, at the heap behind the top. F, the promise of the law's def, may use that base is part of the heap (so K.In base, base.Ns mainGlobals mg stand in Mod) -/
theorem law_call {P : Program} {w : World} {K : PySem.W.Frag} {mg mb : Str → Option Value} {CX : CXT} {k : Nat} {fa a : Addr} {fd : FuncData} {x : Str} {sp : Sp} {s₁ : Shared} {vs : List Value} {ns : List Int}
    (KX : K.In s₁.heap) (hns : s₁.heap.Ns mainGlobals mg) (hb : s₁.heap.Ns builtinsNs mb) (hbb : ∀ x : Str, x ≠ "__name__" → mb x = bootBuiltins x) (hlim : s₁.heap.NoLimit) (hg : s₁.gens = #[])
    (ha : s₁.heap.get? a = some { cls := .type "list", data := .seq vs.toArray }) (hi : IntsAre vs ns) (hl : ns.length ≤ sizeLine) (hr : Room k callerA)
    (F : ∀ base : Heap, K.In base → base.Ns mainGlobals mg → FnOk P w K mg base CX k fa fd [x] sp) (hbind : ∀ (s : Shared) (u : Value), BindsTo s fd ⟨[u], []⟩ [(x, u)])
    (hsp : ∀ H : Hp, Only H → SqL K H a (ns.map V.int) → sp [.ref a] H (fun v _ => v = .bl true) fun _ _ _ => False)
    (hCX : ∀ H e s', CX [] H s₁ (fun _ _ _ => False) e s' → False) :
    codeAny (model P w) callerA (.call (.ref fa) ⟨[.ref a], []⟩) (fun r s' => r = .ok (.ret (.bool true)) ∧ OldK s₁.heap s'.heap ∧ s'.os = s₁.os ∧ AllBare s'.gens) s₁ := by
  have rv := vals_ints hi
  have lenV := hi.length
  -- from an abstract heap in which nothing but the script may be tracked
  have core : ∀ H : Hp, Only H → SqL K H a (ns.map V.int) → HOk P w H s₁.heap → (∀ b, H b ≠ none → b = a) → (H a ≠ none → K.lookup a = none) →
      codeAny (model P w) callerA (.call (.ref fa) ⟨[.ref a], []⟩) (fun r s' => r = .ok (.ret (.bool true)) ∧ OldK s₁.heap s'.heap ∧ s'.os = s₁.os ∧ AllBare s'.gens) s₁ := by
    intro H hO hS hok hA hK
    have base_of : ∀ {b : Addr} {o : Obj}, s₁.heap.get? b = some o → H b = none → (hidT s₁.heap H).get? b = some o := fun e n => hidT_get e n
    have noA : ∀ {b : Addr} {o : Obj} {es : Array DictEntry} {ep : Nat}, s₁.heap.get? b = some o → o.data = .dict es ep → H b = none := fun {b o es ep} e d => by
      cases q : H b with
      | none => rfl
      | some u =>
        have e' : b = a := hA b (by rw [q]; simp)
        subst e'
        rw [ha] at e; cases e
        have d' : Data.seq vs.toArray _ = Data.dict es ep := d
        cases d'
    have nsK : ∀ {b : Addr} {m : Str → Option Value}, s₁.heap.Ns b m → (hidT s₁.heap H).Ns b m := fun {b m} ⟨o, es, ep, e, d, r⟩ => ⟨o, es, ep, base_of e (noA e d), d, r⟩
    have hKb : K.In (hidT s₁.heap H) := fun b o e => base_of (KX b o e) (by
      cases q : H b with
      | none => rfl
      | some u =>
        have e' : b = a := hA b (by rw [q]; simp)
        subst e'
        rw [hK (by rw [q]; simp)] at e; cases e)
    have hM : Mod K mg (hidT s₁.heap H) := ⟨hKb, nsK hns, ⟨mb, nsK hb, hbb⟩, let ⟨mc, h1, h2⟩ := hlim; ⟨mc, nsK h1, h2⟩⟩
    have e0 : Env0 P w K mg (hidT s₁.heap H) callerA [] s₁ H := ⟨rfl, hM, fun b o e => of_hidT e, Nat.le_of_eq (hidT_size _ _), trivial, fun b hb => absurd (show b ∈ ([] : List Addr) from hb) (by simp), hok, .of_eq hg⟩
    refine codeAny_mono ((F _ hKb (nsK hns)).run callerA [] s₁ H ⟨[.ref a], []⟩ [.ref a] [.ref a] _ _ hr e0 (hbind s₁ (.ref a)) (.cons rfl .nil) (hsp H hO hS)) fun r s' h => ?_
    cases r with
    | error e => exact (hCX H e s' h).elim
    | ok fl =>
      cases fl with
      | next => exact False.elim h
      | brk => exact False.elim h
      | cont => exact False.elim h
      | ret u =>
        obtain ⟨v, H', os, bare, un, hok', r', q⟩ := h
        have q' : v = .bl true := q
        subst q'
        obtain rfl : u = Value.bool true := r'
        refine ⟨rfl, OldK.of_keep fun b o e => ?_, os, bare⟩
        cases q : H b with
        | none => exact un.keep b o e q (by intro z; exact absurd (show b ∈ ([] : List Addr) from z) (by simp)) (by simp)
        | some u =>
          rcases hO b with z | ⟨ob, xs, z⟩
          · rw [q] at z; cases z
          · have z2 := un.frzs b ob _ z
            obtain ⟨e1, _⟩ := hok b _ z
            obtain ⟨e2, _⟩ := hok' b _ z2
            rw [e] at e1; cases e1
            exact e2
  cases hk : K.lookup a with
  | some o =>
    -- the script is one of the module's own objects
    have e := KX a o hk
    rw [ha] at e
    cases e
    refine core (fun _ => none) (fun _ => .inl rfl) (.inr ⟨_, vs.toArray, _, hk, rfl, rfl, rfl, by rw [List.size_toArray, lenV]; exact hl, by simpa using rv⟩) (fun b u z => by have z' : (none : Option HO) = some u := z; cases z') (fun b z => absurd rfl z) fun z => absurd rfl z
  | none =>
    refine core (fun b => if b = a then some (.frz { cls := .type "list", data := .seq vs.toArray } (.lst (ns.map V.int))) else none) (fun b => ?_) (.inl (.inr ⟨{ cls := .type "list", data := .seq vs.toArray }, if_pos rfl⟩)) (fun b u z => ?_) (fun b z => ?_) fun _ => hk
    · by_cases hb : b = a
      · exact .inr ⟨_, _, if_pos hb⟩
      · exact .inl (if_neg hb)
    · by_cases hb : b = a
      · have z' := (if_pos hb).symm.trans z
        cases z'
        subst hb
        exact ⟨ha, by rw [List.length_map]; exact hl, vs, _, rv, ha⟩
      · have z' := (if_neg hb).symm.trans z
        cases z'
    · by_cases hb : b = a
      · exact hb
      · exact absurd (if_neg hb) z
end L2

namespace L2
open PySem PySem.Spec PyProof.Rows

abbrev KOf {K : PySem.W.Frag} {h : Heap} (_ : K.In h) : PySem.W.Frag := K

/-- the goal that k_head leaves (case hc), from the law's promise. F gives the function object fd (K's own) once, then the promise over every base -/
theorem walk_of {l : PySem.W.OpenLaw} {n k : Nat} {q : Program} {loose : List Str} {XP : (Str → Option Value) → Heap → Prop} {YP : World → Heap → Prop} {d : DefRec} {K : Params → PySem.W.Frag} {CX : World → CXT} {sp : World → Sp} {x : Str}
    (hn : l.most = some n) (hn2 : n ≤ sizeLine) (hdf : d.params.defaults = []) (hr : Room k callerA)
    (hY : ∀ (w : World) (h : Heap), YP w h → (K w.params).In h)
    (F : ∀ (w : World) (mg : Str → Option Value) (fa : Addr) (h : Heap), (K w.params).In h → h.Ns mainGlobals mg → mg d.name = some (.ref fa) →
      ∃ fd : FuncData, (∀ (s : Shared) (u : Value), BindsTo s fd ⟨[u], []⟩ [(x, u)]) ∧
        ∀ base : Heap, (K w.params).In base → base.Ns mainGlobals mg → FnOk l.prog w (K w.params) mg base (CX w) k fa fd [x] (sp w))
    (hsp : ∀ (w : World) (H : Hp) (a : Addr) (ns : List Int), ns.length ≤ n → Only H → SqL (K w.params) H a (ns.map V.int) → sp w [.ref a] H (fun v _ => v = .bl true) fun _ _ _ => False)
    (hCX : ∀ (w : World) (H : Hp) (s : Shared) (e : Value) (s' : Shared), CX w [] H s (fun _ _ _ => False) e s' → False) :
    PySem.W.WalkO q loose XP YP l.row.toRowW d [] (fun f vs => PySem.call f vs) := by
  refine Att.attach_call hn hdf fun w s₀ s₁ mg mb fa o pm cd doc a vs ns G Y ho hd hcd hmg hobj hints hlen hg => ?_
  have KX := hY w _ Y
  obtain ⟨fd, hb, hF⟩ := F w mg fa _ KX G.T.g hmg
  exact law_call KX G.T.g G.T.b G.T.builtins G.T.nolimit hg hobj hints (Nat.le_trans hlen hn2) hr hF hb (fun H hO hS => hsp w H a ns hlen hO hS) fun H e s' => hCX w H s₁ e s'
/-- the same where the promise hangs on the written part alone: (sp := My.sp_law), no hole under a binder -/
theorem walk_ofK {l : PySem.W.OpenLaw} {n k : Nat} {q : Program} {loose : List Str} {XP : (Str → Option Value) → Heap → Prop} {YP : World → Heap → Prop} {d : DefRec} {K : Params → PySem.W.Frag} {CX : CXT} {sp : PySem.W.Frag → Sp} {x : Str}
    (hn : l.most = some n) (hn2 : n ≤ sizeLine) (hdf : d.params.defaults = []) (hr : Room k callerA)
    (hY : ∀ (w : World) (h : Heap), YP w h → (K w.params).In h)
    (F : ∀ (w : World) (mg : Str → Option Value) (fa : Addr) (h : Heap), (K w.params).In h → h.Ns mainGlobals mg → mg d.name = some (.ref fa) →
      ∃ fd : FuncData, (∀ (s : Shared) (u : Value), BindsTo s fd ⟨[u], []⟩ [(x, u)]) ∧
        ∀ base : Heap, (K w.params).In base → base.Ns mainGlobals mg → FnOk l.prog w (K w.params) mg base CX k fa fd [x] (sp (K w.params)))
    (hsp : ∀ (K : PySem.W.Frag) (H : Hp) (a : Addr) (ns : List Int), ns.length ≤ n → Only H → SqL K H a (ns.map V.int) → sp K [.ref a] H (fun v _ => v = .bl true) fun _ _ _ => False)
    (hCX : ∀ (H : Hp) (s : Shared) (e : Value) (s' : Shared), CX [] H s (fun _ _ _ => False) e s' → False) :
    PySem.W.WalkO q loose XP YP l.row.toRowW d [] (fun f vs => PySem.call f vs) :=
  walk_of (K := K) (CX := fun _ => CX) (sp := fun w => sp (K w.params)) hn hn2 hdf hr hY F (fun w H a ns h1 h2 h3 => hsp (K w.params) H a ns h1 h2 h3) fun _ H s e s' => hCX H s e s'
end L2

namespace L2
open PySem PySem.Spec PyProof.Rows

/-- the j-th statement of a class's body -/
def inClass (s : Stmt) (j : Nat) : Stmt := match s with
  | .ClassDef _ _ _ body _ _ _ _ _ _ _ => body.getD j (.Pass ⟨0, 0, 0, 0⟩)
  | _ => .Pass ⟨0, 0, 0, 0⟩
def defArgs (s : Stmt) : Arguments := match s with
  | .FunctionDef _ a _ _ _ _ _ _ _ _ => a
  | _ => { posonlyargs := [], args := [], vararg := none, kwonlyargs := [], kw_defaults := [], kwarg := none, defaults := [] }
def defBody (s : Stmt) : List Stmt := match s with
  | .FunctionDef _ _ b _ _ _ _ _ _ _ => b
  | _ => []
def defScope (s : Stmt) : Scope := match s with
  | .FunctionDef _ _ _ _ _ _ sc _ _ _ => sc
  | _ => { kind := .function, names := [], isGenerator := false, isCoroutine := false }

abbrev CX0 : CXT := fun _ _ _ _ _ _ => False
abbrev E0 : XK := fun _ _ _ => False
theorem pass0 {X : Cx} : Passes CX0 X E0 := fun _ _ _ _ _ _ _ h => h.elim

structure Fun (K : PySem.W.Frag) (x qual : Str) (st : Stmt) (f : Addr) (fd : FuncData) : Prop where
  ex : ∃ (oc : Value) (od : Option Addr) (kV doc pm : Value) (an : Option Addr) (cdv ct : Value) (osl : Array (Option Value)),
    fd = PySem.W.fnOf x qual (defArgs st) (defBody st) (defScope st) .none kV doc pm an cdv ct ∧ K.lookup f = some ⟨oc, od, .func fd, osl⟩ ∧ PySem.W.codeIn K cdv qual = true
  kp : PySem.W.keepIn K (.ref f) = true
section
variable {P : Program} {w : World} {K : PySem.W.Frag} {mg : Str → Option Value} {base : Heap}
/-- THE RULE for a def: its body as a term of rules, and the reading of that term -/
theorem Fun.ok {x qual : Str} {st : Stmt} {f : Addr} {fd : FuncData} {N ps : List Str} {k : Nat} {sp : Sp} (F : Fun K x qual st f fd) (S : FnScope N ps (defScope st)) (len : ∀ vs H Q E, sp vs H Q E → vs.length = ps.length)
    (hbody : ∀ (cdv : Value) (A : Around) (outer : List Env) (s : Shared) (H : Hp) (vs : List V) (Q : VK) (E : XK), Room k (A.deeper (envOfC qual (defScope st) s.heap.objs.size f cdv)) → sp vs H Q E →
      ∃ t, PSs (cxOf CX0 P w K mg base N qual (defScope st) f cdv A outer s H E).nox (defBody st) t ∧ t { nx := fun _ H' => Q .non H', rt := Q } (start N vs) H) : FnOk P w K mg base CX0 (k + 1) f fd ps sp := by
  obtain ⟨oc, od, kV, doc, pm, an, cdv, ct, osl, rfl, lk, hcd⟩ := F.ex
  refine fn_of lk hcd S len fun A outer s H vs Q E hr hsp => ?_
  obtain ⟨t, h, q⟩ := hbody cdv A outer s H vs Q E hr hsp
  exact ⟨t, h.nox, q⟩
/-- how its arguments bind (no defaults): h is «fun _ _ _ _ _ _ us hl => match us, hl with | [_, _], _ => rfl», one _ a parameter -/
theorem Fun.binds {x qual : Str} {st : Stmt} {f : Addr} {fd : FuncData} {ps : List Str} (F : Fun K x qual st f fd)
    (h : ∀ (kV doc pm : Value) (an : Option Addr) (cdv ct : Value) (us : List Value), us.length = ps.length → bindArgs (PySem.W.fnOf x qual (defArgs st) (defBody st) (defScope st) .none kV doc pm an cdv ct) ⟨us, []⟩ = pure (ps.zip us)) : Binds K fd ps [] := by
  obtain ⟨oc, od, kV, doc, pm, an, cdv, ct, osl, rfl, lk, hcd⟩ := F.ex
  exact .all (h kV doc pm an cdv ct)
theorem fun_mk {x qual : Str} {st : Stmt} {f : Addr} {oc : Value} {od an : Option Addr} {osl : Array (Option Value)} {kV doc pm cdv ct : Value} (l : K.lookup f = some ⟨oc, od, .func (PySem.W.fnOf x qual (defArgs st) (defBody st) (defScope st) .none kV doc pm an cdv ct), osl⟩)
    (c : PySem.W.codeIn K cdv qual = true) (k : PySem.W.keepIn K (.ref f) = true) : Fun K x qual st f (PySem.W.fnOf x qual (defArgs st) (defBody st) (defScope st) .none kV doc pm an cdv ct) := ⟨⟨oc, od, kV, doc, pm, an, cdv, ct, osl, rfl, l, c⟩, k⟩
end
section
variable {X : Cx}
theorem pv (i : Nat) {x : Str} {pos : Pos} (hN : X.N[i]? = some x := by rfl) (hv : Vis X.env.scope x := by first | exact Or.inl rfl | exact Or.inr (Or.inl rfl) | exact Or.inr (Or.inr rfl)) (hd : (x == ("__debug__" : Str)) = false := by decide)
    (hcd : (x == ("__classdict__" : Str)) = false := by decide) : PE X (.Name x pos) (tVar i) := pe_var hN hv hd hcd
end

/-- all that was tracked is as it was -/
abbrev Same (H H' : Hp) : Prop := ∀ b o, H b = some o → H' b = some o
theorem Same.refl (H : Hp) : Same H H := fun _ _ h => h
theorem Same.trans {H H1 H2 : Hp} (a : Same H H1) (b : Same H1 H2) : Same H H2 := fun c o h => b c o (a c o h)
theorem Same.free {H H' : Hp} (e : Same H H') {l : Addr} (h : H' l = Option.none) : H l = Option.none := by
  cases q : H l with
  | none => rfl
  | some o =>
    rw [e l o q] at h
    cases h
theorem Same.seq {K : PySem.W.Frag} {H H' : Hp} {a : Addr} {xs : List V} (e : Same H H') (h : SqL K H a xs) : SqL K H' a xs := by
  rcases h with (h | ⟨o, h⟩) | h
  · exact .inl (.inl (e _ _ h))
  · exact .inl (.inr ⟨o, e _ _ h⟩)
  · exact .inr h

section
variable {X : Cx}
end
section
variable {κ : Type} [DecidableEq κ]
end
end L2


namespace EM
/-- the number whose bits below n are those of f -/
def bits (f : Nat → Bool) : Nat → Nat
  | 0 => 0
  | n + 1 => bits f n + (if f n then 2 ^ n else 0)
theorem bits_lt (f : Nat → Bool) : ∀ n, bits f n < 2 ^ n
  | 0 => by simp [bits]
  | n + 1 => by
    have h := bits_lt f n
    simp only [bits]
    have e : (2 : Nat) ^ (n + 1) = 2 ^ n + 2 ^ n := by rw [Nat.pow_succ]; omega
    split <;> omega
theorem testBit_bits (f : Nat → Bool) (i : Nat) : ∀ n, (bits f n).testBit i = (decide (i < n) && f i)
  | 0 => by simp [bits]
  | n + 1 => by
    have ih := testBit_bits f i n
    have hl := bits_lt f n
    simp only [bits]
    by_cases hf : f n = true
    · rw [if_pos hf, Nat.add_comm]
      rcases Nat.lt_trichotomy i n with h | h | h
      · rw [Nat.testBit_two_pow_add_gt h, ih]
        simp [h, Nat.lt_succ_of_lt h]
      · subst h
        rw [Nat.testBit_two_pow_add_eq, ih]
        simp [hf]
      · have : (2 : Nat) ^ n + bits f n < 2 ^ i := by
          have e : (2 : Nat) ^ (n + 1) = 2 ^ n + 2 ^ n := by rw [Nat.pow_succ]; omega
          have : (2 : Nat) ^ (n + 1) ≤ 2 ^ i := Nat.pow_le_pow_right (by decide) h
          omega
        rw [Nat.testBit_lt_two_pow this]
        have : ¬ i < n + 1 := by omega
        simp [this]
    · rw [if_neg hf, Nat.add_zero, ih]
      by_cases h : i = n
      · subst h
        have : f i = false := by simpa using hf
        simp [this]
      · have : (i < n + 1) ↔ (i < n) := by omega
        simp [this]
theorem bits_ext {f g : Nat → Bool} {n : Nat} (h : ∀ i, i < n → f i = g i) : bits f n = bits g n := by
  apply Nat.eq_of_testBit_eq
  intro i
  rw [testBit_bits, testBit_bits]
  by_cases hi : i < n
  · simp [hi, h i hi]
  · simp [hi]
theorem bits_and (f g : Nat → Bool) (n : Nat) : bits f n &&& bits g n = bits (fun i => f i && g i) n := by
  apply Nat.eq_of_testBit_eq
  intro i
  rw [Nat.testBit_and, testBit_bits, testBit_bits, testBit_bits]
  cases decide (i < n) <;> simp
theorem bits_or (f g : Nat → Bool) (n : Nat) : bits f n ||| bits g n = bits (fun i => f i || g i) n := by
  apply Nat.eq_of_testBit_eq
  intro i
  rw [Nat.testBit_or, testBit_bits, testBit_bits, testBit_bits]
  cases decide (i < n) <;> simp
theorem bits_xor (f g : Nat → Bool) (n : Nat) : bits f n ^^^ bits g n = bits (fun i => xor (f i) (g i)) n := by
  apply Nat.eq_of_testBit_eq
  intro i
  rw [Nat.testBit_xor, testBit_bits, testBit_bits, testBit_bits]
  cases decide (i < n) <;> simp
theorem bits_true (n : Nat) : bits (fun _ => true) n = 2 ^ n - 1 := by
  apply Nat.eq_of_testBit_eq
  intro i
  rw [testBit_bits, Nat.testBit_two_pow_sub_one]
  simp
theorem bits_false (n : Nat) : bits (fun _ => false) n = 0 := by
  apply Nat.eq_of_testBit_eq
  intro i
  rw [testBit_bits]
  simp
theorem bits_skip (f : Nat → Bool) (n : Nat) (h : f n = false) : bits f (n + 1) = bits f n := by
  simp [bits, h]
theorem bits_add (f : Nat → Bool) (n : Nat) (h : f n = true) : bits f (n + 1) = bits f n + 2 ^ n := by
  simp [bits, h]
theorem lit_iff (s k : Nat) : s.testBit k = decide (s / 2 ^ k % 2 = 1) := Nat.testBit_eq_decide_div_mod_eq
theorem or_split : ∀ (n x y : Nat), x < n → (x ||| y) = (x &&& y) + (x ^^^ y)
  | 0, x, y, h => absurd h (by omega)
  | n + 1, x, y, h => by
    by_cases hx : x = 0
    · subst hx; simp
    · have ih := or_split n (x / 2) (y / 2) (by omega)
      have e1 := Nat.div_add_mod (x ||| y) 2
      have e2 := Nat.div_add_mod (x &&& y) 2
      have e3 := Nat.div_add_mod (x ^^^ y) 2
      rw [Nat.or_div_two] at e1
      rw [Nat.and_div_two] at e2
      rw [Nat.xor_div_two] at e3
      have m1 : (x ||| y) % 2 = (x % 2 ||| y % 2) := Nat.or_mod_two_pow (n := 1)
      have m2 : (x &&& y) % 2 = (x % 2 &&& y % 2) := Nat.and_mod_two_pow (n := 1)
      have m3 : (x ^^^ y) % 2 = (x % 2 ^^^ y % 2) := Nat.xor_mod_two_pow (n := 1)
      have m4 : (x % 2 ||| y % 2) = (x % 2 &&& y % 2) + (x % 2 ^^^ y % 2) := by
        rcases Nat.mod_two_eq_zero_or_one x with a | a <;> rcases Nat.mod_two_eq_zero_or_one y with b | b <;> rw [a, b] <;> rfl
      omega
end EM

namespace EM
/-- the words that join -/
inductive W3 where
  | a | e | o
  deriving DecidableEq
/-- a formula -/
inductive Fm where
  | lamp (k : Nat)
  | sure (b : Bool)
  | neg (f : Fm)
  | join (w : W3) (fs : List Fm)
def comb : W3 → List Bool → Bool
  | .a, bs => bs.all id
  | .o, bs => bs.any id
  | .e, bs => bs.foldl xor false
mutual
def Fm.holds (s : Nat) : Fm → Bool
  | .lamp k => s.testBit k
  | .sure b => b
  | .neg f => !(f.holds s)
  | .join w fs => comb w (Fm.holdsL s fs)
def Fm.holdsL (s : Nat) : List Fm → List Bool
  | [] => []
  | f :: fs => f.holds s :: Fm.holdsL s fs
end
theorem holdsL_eq (s : Nat) : ∀ fs : List Fm, Fm.holdsL s fs = fs.map (Fm.holds s)
  | [] => by simp [Fm.holdsL]
  | f :: fs => by simp [Fm.holdsL, holdsL_eq s fs]
theorem holds_join (s : Nat) (w : W3) (fs : List Fm) : (Fm.join w fs).holds s = comb w (fs.map (Fm.holds s)) := by
  simp [Fm.holds, holdsL_eq]
theorem comb_snoc_e (bs : List Bool) (b : Bool) : comb .e (bs ++ [b]) = xor (comb .e bs) b := by simp [comb]
theorem comb_snoc_a (bs : List Bool) (b : Bool) : comb .a (bs ++ [b]) = (comb .a bs && b) := by simp [comb]
theorem comb_snoc_o (bs : List Bool) (b : Bool) : comb .o (bs ++ [b]) = (comb .o bs || b) := by simp [comb]
/-- the crowd of the first n stands -/
def Fm.crowd (f : Fm) (n : Nat) : Nat := bits (fun s => f.holds s) n
def bcomb : W3 → Nat → Nat → Nat
  | .a, x, y => x &&& y
  | .o, x, y => x ||| y
  | .e, x, y => x ^^^ y
def b2 : W3 → Bool → Bool → Bool
  | .a, x, y => x && y
  | .o, x, y => x || y
  | .e, x, y => xor x y
theorem comb_snoc (w : W3) (bs : List Bool) (b : Bool) : comb w (bs ++ [b]) = b2 w (comb w bs) b := by
  cases w
  · exact comb_snoc_a bs b
  · exact comb_snoc_e bs b
  · exact comb_snoc_o bs b
theorem bits_bcomb (w : W3) (f g : Nat → Bool) (n : Nat) : bcomb w (bits f n) (bits g n) = bits (fun i => b2 w (f i) (g i)) n := by
  cases w
  · exact bits_and f g n
  · exact bits_xor f g n
  · exact bits_or f g n
theorem crowd_join_snoc (w : W3) (fs : List Fm) (f : Fm) (n : Nat) : (Fm.join w (fs ++ [f])).crowd n = bcomb w ((Fm.join w fs).crowd n) (f.crowd n) := by
  unfold Fm.crowd
  rw [bits_bcomb]
  apply bits_ext
  intro i _
  rw [holds_join, holds_join, List.map_append, List.map_cons, List.map_nil, comb_snoc]
theorem crowd_join_one (w : W3) (f : Fm) (n : Nat) : (Fm.join w [f]).crowd n = f.crowd n := by
  unfold Fm.crowd
  apply bits_ext
  intro i _
  rw [holds_join]
  cases w <;> simp [comb]
theorem crowd_sure (b : Bool) (n : Nat) : (Fm.sure b).crowd n = if b then 2 ^ n - 1 else 0 := by
  unfold Fm.crowd
  cases b
  · simp only [Fm.holds]; exact bits_false n
  · simp only [Fm.holds]; exact bits_true n
end EM

set_option maxRecDepth 100000
set_option maxHeartbeats 4000000
namespace L2
open PySem PySem.Spec PyProof.Rows

section
variable {σ : St} {H : Hp} {Q : VK} {D : Ends} {K : PySem.W.Frag} {BQ : Bool → Hp → Prop}
theorem i_var {i : Nat} {v : V} (h : σ[i]? = some (some v)) (k : Q v H) : tVar i σ H Q := ⟨v, h, k⟩
theorem i_c {v : V} (k : Q v H) : tC v σ H Q := k
theorem i_op {r : R2} {ta tb : TE} (h : ta σ H fun x H1 => tb σ H1 fun y H2 => r x y H2 Q) : tOp r ta tb σ H Q := h
theorem i_un {r : V → Hp → VK → Prop} {ta : TE} (h : ta σ H fun x H1 => r x H1 Q) : tUn r ta σ H Q := h
theorem i_rI0 {g : Int → Int → V} {i j : Int} (h : Q (g i j) H) : rI0 g (.int i) (.int j) H Q := ⟨i, j, rfl, rfl, h⟩
theorem i_rI {C : Int → Int → Prop} {g : Int → Int → V} {i j : Int} (c : C i j) (h : Q (g i j) H) : rI C g (.int i) (.int j) H Q := ⟨i, j, rfl, rfl, c, h⟩
theorem i_rU {g : Int → V} {i : Int} (h : Q (g i) H) : rU g (.int i) H Q := ⟨i, rfl, h⟩
theorem i_eqI {i j : Int} (h : Q (.bl (decide (i = j))) H) : rEq (.int i) (.int j) H Q := by
  refine ⟨rfl, ?_⟩
  have e : decide (V.int i = V.int j) = decide (i = j) := by simp
  rw [e]; exact h
theorem i_eqB {i j : Bool} (h : Q (.bl (decide (i = j))) H) : rEq (.bl i) (.bl j) H Q := by
  refine ⟨rfl, ?_⟩
  have e : decide (V.bl i = V.bl j) = decide (i = j) := by simp
  rw [e]; exact h
theorem i_test {t : TE} (h : t σ H fun x H' => ∃ k, x = .bl k ∧ BQ k H') : tTest t σ H BQ := h
theorem i_exb {b : Bool} {R : Bool → Prop} (h : R b) : ∃ k, V.bl b = V.bl k ∧ R k := ⟨b, rfl, h⟩
theorem i_and {t u : TT} (h : t σ H fun c H1 => if c = true then u σ H1 BQ else BQ false H1) : tAnd t u σ H BQ := h
theorem i_or {t u : TT} (h : t σ H fun c H1 => if c = true then BQ true H1 else u σ H1 BQ) : tOr t u σ H BQ := h
theorem i_not {t : TT} (h : t σ H fun c H1 => BQ (!c) H1) : tNot t σ H BQ := h
theorem i_andV {t u : TE} (h : t σ H fun x H1 => ∃ c, x = .bl c ∧ if c = true then u σ H1 Q else Q (.bl false) H1) : tAndV t u σ H Q := h
theorem i_seq {t u : TS} (h : t { D with nx := u D } σ H) : tSeq t u D σ H := h
theorem i_next (h : D.nx σ H) : tNext D σ H := h
theorem i_drop {te : TE} (h : te σ H fun _ H1 => D.nx σ H1) : tDrop te D σ H := h
theorem i_ret {te : TE} (h : te σ H D.rt) : tRet te D σ H := h
theorem i_ifs {c : TT} {t u : TS} (h : c σ H fun b H1 => if b = true then t D σ H1 else u D σ H1) : tIfS c t u D σ H := h
theorem i_asg {te : TE} {g : TG} (h : te σ H fun x H1 => g x σ H1 D.nx) : tAsg te g D σ H := h
theorem i_name {i : Nat} {v : V} {R : St → Hp → Prop} (h : R (σ.set i (some v)) H) : gName i v σ H R := h
theorem i_nil {R : List V → Hp → Prop} (h : R [] H) : tNil σ H R := h
theorem i_cons {ta : TE} {tr : TA} {R : List V → Hp → Prop} (h : ta σ H fun x H1 => tr σ H1 fun xs H2 => R (x :: xs) H2) : tCons ta tr σ H R := h
theorem i_cb {r : List V → Hp → VK → Prop} {t : TA} (h : t σ H fun vs H1 => r vs H1 Q) : tCB r t σ H Q := h
/-- a new list, a new tuple -/
abbrev NewL (xs : List V) (H : Hp) (Q : VK) : Prop := xs.length ≤ sizeLine ∧ ∀ p, H p = none → Q (.ref p) (upd H p (.lst xs))
abbrev NewT (xs : List V) (H : Hp) (Q : VK) : Prop := xs.length ≤ sizeLine ∧ ∀ p, H p = none → Q (.ref p) (upd H p (.tup xs))
theorem i_tup {t : TA} (h : t σ H fun xs H1 => NewT xs H1 Q) : tTup t σ H Q := h
theorem i_lst {t : TA} (h : t σ H fun xs H1 => NewL xs H1 Q) : tLst t σ H Q := h
theorem i_bm {T : String} {r : V → List V → Hp → VK → Prop} {to : TE} {t : TA} (h : to σ H fun x H1 => tyV K T x H1 ∧ t σ H1 fun xs H2 => r x xs H2 Q) : tBM K T r to t σ H Q := h
theorem i_bm0 {T : String} {r : V → List V → Hp → VK → Prop} {to : TE} (h : to σ H fun x H1 => tyV K T x H1 ∧ r x [] H1 Q) : tBM0 K T r to σ H Q := h
theorem i_fld {ta : TE} {f : Str} (h : ta σ H fun x H1 => ∃ a C dx fs v, x = .ref a ∧ H1 a = some (.ins C dx fs) ∧ Cls K C ∧ NoAttr K C f ∧ fs.lookup f = some v ∧ Q v H1) : tFld K ta f σ H Q := h
theorem i_sfld {ta tv : TE} {f : Str} (h : tv σ H fun y H1 => ta σ H1 fun x H2 => ∃ a C dx fs, x = .ref a ∧ H2 a = some (.ins C dx fs) ∧ Cls K C ∧ NoAttr K C f ∧ fs.length < 1000 ∧ D.nx σ (upd H2 a (.ins C dx (putF f y fs)))) : sFld K ta tv f D σ H := h
theorem i_sl {r : V → Option Int → Option Int → Hp → VK → Prop} {te : TE} {tl th : TO} (h : te σ H fun x H1 => tl σ H1 fun l H2 => th σ H2 fun u H3 => r x l u H3 Q) : tSl r te tl th σ H Q := h
theorem i_part {t : TE} {R : Option Int → Hp → Prop} (h : t σ H fun x H1 => ∃ i, x = .int i ∧ R (some i) H1) : tPart t σ H R := h
theorem i_exi {b : Int} {R : Int → Prop} (h : R b) : ∃ k, V.int b = V.int k ∧ R k := ⟨b, rfl, h⟩
theorem i_noPart {R : Option Int → Hp → Prop} (h : R none H) : tNoPart σ H R := h
/-- a test by a value's truth -/
theorem i_truB {b : Bool} {R : Bool → Prop} (h : R b) : ∃ k, TruV K (.bl b) H k ∧ R k := ⟨b, rfl, h⟩
/-- ifs -/
theorem i_ifd {c A B : Prop} [Decidable c] (h1 : c → A) (h2 : ¬ c → B) : if decide c = true then A else B := by
  by_cases h : c
  · rw [if_pos (decide_eq_true h)]; exact h1 h
  · rw [if_neg (by simp [h])]; exact h2 h
theorem i_ifb {b : Bool} {A B : Prop} (h1 : b = true → A) (h2 : b = false → B) : if b = true then A else B := by
  cases b
  · rw [if_neg Bool.false_ne_true]; exact h2 rfl
  · rw [if_pos rfl]; exact h1 rfl
theorem i_ifT {b : Bool} {A B : Prop} (h : b = true) (k : A) : if b = true then A else B := by rw [if_pos h]; exact k
theorem i_ifF {b : Bool} {A B : Prop} (h : b = false) (k : B) : if b = true then A else B := by rw [if_neg (by rw [h]; exact Bool.false_ne_true)]; exact k
end

def LoopR (lo : Int) (n : Nat) (g : TG) (tb : TS) (D : Ends) (σ : St) (H : Hp) : Prop :=
  ∃ W : Nat → Nat → St → Hp → Prop, (∃ m, W 0 m σ H) ∧ ∀ i m σ H, W i m σ H →
      ((Itr lo n).stop i H ∧ D.nx σ H) ∨ ((Itr lo n).go i H ∧ ∃ N : St → Hp → Prop, (∀ σ' H', N σ' H' → ∃ m', m' < m ∧ W (i + 1) m' σ' H') ∧ ∀ x H', (Itr lo n).yld i H x H' → g x σ H' fun σ2 H2 => tb { D with nx := N, ct := N, bk := D.nx } σ2 H2)
def LoopL (K : PySem.W.Frag) (a : Addr) (g : TG) (tb : TS) (D : Ends) (σ : St) (H : Hp) : Prop :=
  ∃ W : Nat → Nat → St → Hp → Prop, (∃ m, W 0 m σ H) ∧ ∀ i m σ H, W i m σ H →
      ((Itl K a).stop i H ∧ D.nx σ H) ∨ ((Itl K a).go i H ∧ ∃ N : St → Hp → Prop, (∀ σ' H', N σ' H' → ∃ m', m' < m ∧ W (i + 1) m' σ' H') ∧ ∀ x H', (Itl K a).yld i H x H' → g x σ H' fun σ2 H2 => tb { D with nx := N, ct := N, bk := D.nx } σ2 H2)
def LoopT (K : PySem.W.Frag) (a : Addr) (g : TG) (tb : TS) (D : Ends) (σ : St) (H : Hp) : Prop :=
  ∃ W : Nat → Nat → St → Hp → Prop, (∃ m, W 0 m σ H) ∧ ∀ i m σ H, W i m σ H →
      ((Itt K a).stop i H ∧ D.nx σ H) ∨ ((Itt K a).go i H ∧ ∃ N : St → Hp → Prop, (∀ σ' H', N σ' H' → ∃ m', m' < m ∧ W (i + 1) m' σ' H') ∧ ∀ x H', (Itt K a).yld i H x H' → g x σ H' fun σ2 H2 => tb { D with nx := N, ct := N, bk := D.nx } σ2 H2)
section
variable {σ : St} {H : Hp} {D : Ends} {K : PySem.W.Frag} {g : TG} {tb : TS}
theorem i_forR1 {ta : TA} (h : ta σ H fun vs H1 => ∃ j : Int, vs = [.int j] ∧ -(2 ^ 62) ≤ j ∧ j < 2 ^ 62 ∧ LoopR 0 j.toNat g tb D σ H1) : tFor (iRng1 ta) g tb D σ H := h
theorem loopR {lo : Int} {n : Nat} (Pv : Nat → St → Hp → Prop) (h0 : Pv 0 σ H) (hs : ∀ i σ H, i < n → Pv i σ H → g (.int (lo + i)) σ H fun σ2 H2 => tb { D with nx := Pv (i + 1), ct := Pv (i + 1), bk := D.nx } σ2 H2) (hd : ∀ σ H, Pv n σ H → D.nx σ H) : LoopR lo n g tb D σ H := for_range Pv h0 hs hd
theorem loopL {a : Addr} {xs : List V} (Pv : Nat → St → Hp → Prop) (h0 : Pv 0 σ H) (hl : ∀ i σ H, i ≤ xs.length → Pv i σ H → SqL K H a xs) (hs : ∀ i x σ H, xs[i]? = some x → Pv i σ H → g x σ H fun σ2 H2 => tb { D with nx := Pv (i + 1), ct := Pv (i + 1), bk := D.nx } σ2 H2) (hd : ∀ σ H, Pv xs.length σ H → D.nx σ H) : LoopL K a g tb D σ H := for_list Pv h0 hl hs hd
theorem loopT {a : Addr} {xs : List V} (Pv : Nat → St → Hp → Prop) (h0 : Pv 0 σ H) (hl : ∀ i σ H, i ≤ xs.length → Pv i σ H → SqT K H a xs) (hs : ∀ i x σ H, xs[i]? = some x → Pv i σ H → g x σ H fun σ2 H2 => tb { D with nx := Pv (i + 1), ct := Pv (i + 1), bk := D.nx } σ2 H2) (hd : ∀ σ H, Pv xs.length σ H → D.nx σ H) : LoopT K a g tb D σ H := for_tup Pv h0 hl hs hd
end

def Its (x : Str) : It := ⟨fun i _ => i < x.cps.size, fun i H v H' => H' = H ∧ ∃ c, x.cps[i]? = some c ∧ v = .str ⟨#[c]⟩, fun i _ => x.cps.size ≤ i⟩
theorem turn_strA {P : Program} {w : World} {K : PySem.W.Frag} {tg : Expr} (x : Str) (t : Tok) (it : Addr) : Turn P w K tg (Its x) [it] it (fun i h => h.IsStrIter it "str_ascii_iterator" x t i) where
  mem := by simp
  obj := fun i h st b hb => by
    have e : b = it := by simpa using hb
    subst e
    obtain ⟨o, e, c, d⟩ := st
    exact ⟨o, e, fun v z => by rw [d] at z; cases z⟩
  keep := fun i h h' st k => let ⟨o, ho, r⟩ := st; ⟨o, k it (by simp) o ho, r⟩
  item := by
    intro X hP hw hK hc i pins s σ H E I hf st hg
    subst hP hw hK
    obtain ⟨f0, f1, f2, f3, f4, f5⟩ := hf it (by simp)
    have hg : i < x.cps.size := hg
    refine wpAny_pyNext_ascii_item st (c := x.cps[i]) (by simp [hg]) fun h' st' sb => ?_
    have I1 : Inv X pins σ H { s with heap := h', toks := s.toks + 1 } := I.turned (fun b o hb e => (sb.2 b hb).trans e) f0 f1 f3 f4 f5
    obtain ⟨o, e, c, d⟩ := id st'
    exact ⟨_, rfl, go_of (s := { s with heap := h', toks := s.toks + 1 }) e c d (by decide) ⟨.str ⟨#[x.cps[i]]⟩, H, I1, ⟨_, rfl⟩, ⟨rfl, _, by simp [hg], rfl⟩, st', fun b hb => (hf b hb).1⟩⟩
  done := by
    intro X hP hw hK hc i pins s σ H E I hf st hg
    subst hP hw hK
    obtain ⟨f0, f1, f2, f3, f4, f5⟩ := hf it (by simp)
    have hg : x.cps.size ≤ i := hg
    exact wpAny_pyNext_ascii_end (I.ok.hd hc) st (by simp [hg]) fun h' eb => ⟨rfl, I.turned (t' := s.toks) (fun b o hb e => eb b o hb e) f0 f1 f3 f4 f5⟩
  self := fun _ _ _ _ _ st h => wpAny_pyIter_striter_ascii st h
theorem turn_strW {P : Program} {w : World} {K : PySem.W.Frag} {tg : Expr} (x : Str) (t : Tok) (it : Addr) : Turn P w K tg (Its x) [it] it (fun i h => h.IsStrIter it "str_iterator" x t i) where
  mem := by simp
  obj := fun i h st b hb => by
    have e : b = it := by simpa using hb
    subst e
    obtain ⟨o, e, c, d⟩ := st
    exact ⟨o, e, fun v z => by rw [d] at z; cases z⟩
  keep := fun i h h' st k => let ⟨o, ho, r⟩ := st; ⟨o, k it (by simp) o ho, r⟩
  item := by
    intro X hP hw hK hc i pins s σ H E I hf st hg
    subst hP hw hK
    obtain ⟨f0, f1, f2, f3, f4, f5⟩ := hf it (by simp)
    have hg : i < x.cps.size := hg
    refine wpAny_pyNext_wide_item st (c := x.cps[i]) (by simp [hg]) fun h' st' sb => ?_
    have I1 : Inv X pins σ H { s with heap := h', toks := s.toks + 1 } := I.turned (fun b o hb e => (sb.2 b hb).trans e) f0 f1 f3 f4 f5
    obtain ⟨o, e, c, d⟩ := id st'
    exact ⟨_, rfl, go_of (s := { s with heap := h', toks := s.toks + 1 }) e c d (by decide) ⟨.str ⟨#[x.cps[i]]⟩, H, I1, ⟨_, rfl⟩, ⟨rfl, _, by simp [hg], rfl⟩, st', fun b hb => (hf b hb).1⟩⟩
  done := by
    intro X hP hw hK hc i pins s σ H E I hf st hg
    subst hP hw hK
    obtain ⟨f0, f1, f2, f3, f4, f5⟩ := hf it (by simp)
    have hg : x.cps.size ≤ i := hg
    exact wpAny_pyNext_wide_end (I.ok.hd hc) st (by simp [hg]) fun h' eb => ⟨rfl, I.turned (t' := s.toks) (fun b o hb e => eb b o hb e) f0 f1 f3 f4 f5⟩
  self := fun _ _ _ _ _ st h => wpAny_pyIter_striter_wide st h
def iSeq (K : PySem.W.Frag) (tl : TE) : TI := fun σ H R => tl σ H fun x H1 => (∃ a xs, x = .ref a ∧ SqL K H1 a xs ∧ R (Itl K a) H1) ∨ (∃ a xs, x = .ref a ∧ SqT K H1 a xs ∧ R (Itt K a) H1) ∨ (∃ z, x = .str z ∧ R (Its z) H1)
theorem pi_seq {X : Cx} {tg : Expr} {l : Expr} {tl : TE} (hl : PE X l tl) : PI X tg l (iSeq X.K tl) := by
  intro pins s σ H R I h
  refine thn (hl pins s σ H _ I h) fun v s1 ⟨x, H1, I1, r1, q1⟩ => ?_
  have fp : ∀ b ∈ [s1.heap.objs.size], FpOk X pins H1 b := fun b hb => by
    have e : b = s1.heap.objs.size := by simpa using hb
    subst e
    exact I1.fpOk (Nat.le_refl _) (I1.hok.fresh (Nat.le_refl _))
  rcases q1 with ⟨a, xs, e, hq, q⟩ | ⟨a, xs, e, hq, q⟩ | ⟨z, e, q⟩
  · subst e
    cases r1
    obtain ⟨its, rv, p, hz⟩ := I1.list hq
    refine wpAny_pyIter_list p.isList ?_
    exact ⟨s1.heap.objs.size, [s1.heap.objs.size], _, _, H1, rfl, I1.kept (t' := s1.toks) fun b o e => Heap.get?_push_of_some _ e, turn_list a _, ⟨_, Heap.get?_push_size _ rfl, rfl, rfl⟩, fp, q⟩
  · subst e
    cases r1
    obtain ⟨its, rv, p, hz⟩ := I1.tuple hq
    refine wpAny_pyIter_tuple (show s1.heap.IsTuple a its.toArray from p) ?_
    exact ⟨s1.heap.objs.size, [s1.heap.objs.size], _, _, H1, rfl, I1.kept (t' := s1.toks) fun b o e => Heap.get?_push_of_some _ e, turn_tuple a _, ⟨_, Heap.get?_push_size _ rfl, rfl, rfl⟩, fp, q⟩
  · subst e
    obtain ⟨t, rfl⟩ := r1
    cases ha : z.cps.all (· < 128) with
    | false =>
      refine wpAny_pyIter_wide ha ?_
      exact ⟨s1.heap.objs.size, [s1.heap.objs.size], _, _, H1, rfl, I1.kept (t' := s1.toks) fun b o e => Heap.get?_push_of_some _ e, turn_strW z t _, ⟨_, Heap.get?_push_size _ rfl, rfl, rfl⟩, fp, q⟩
    | true =>
      refine wpAny_pyIter_ascii ha ?_
      exact ⟨s1.heap.objs.size, [s1.heap.objs.size], _, _, H1, rfl, I1.kept (t' := s1.toks) fun b o e => Heap.get?_push_of_some _ e, turn_strA z t _, ⟨_, Heap.get?_push_size _ rfl, rfl, rfl⟩, fp, q⟩
def LoopX (x : Str) (g : TG) (tb : TS) (D : Ends) (σ : St) (H : Hp) : Prop :=
  ∃ W : Nat → Nat → St → Hp → Prop, (∃ m, W 0 m σ H) ∧ ∀ i m σ H, W i m σ H →
      ((Its x).stop i H ∧ D.nx σ H) ∨ ((Its x).go i H ∧ ∃ N : St → Hp → Prop, (∀ σ' H', N σ' H' → ∃ m', m' < m ∧ W (i + 1) m' σ' H') ∧ ∀ x' H', (Its x).yld i H x' H' → g x' σ H' fun σ2 H2 => tb { D with nx := N, ct := N, bk := D.nx } σ2 H2)
def SeqW (K : PySem.W.Frag) (x : V) (g : TG) (tb : TS) (D : Ends) (σ : St) (H1 : Hp) : Prop :=
  (∃ a xs, x = .ref a ∧ SqL K H1 a xs ∧ LoopL K a g tb D σ H1) ∨ (∃ a xs, x = .ref a ∧ SqT K H1 a xs ∧ LoopT K a g tb D σ H1) ∨ (∃ z, x = .str z ∧ LoopX z g tb D σ H1)
section
variable {σ : St} {H : Hp} {D : Ends} {K : PySem.W.Frag} {g : TG} {tb : TS}
theorem i_forS {tl : TE} (h : tl σ H fun x H1 => SeqW K x g tb D σ H1) : tFor (iSeq K tl) g tb D σ H := h
theorem seqL {a : Addr} {xs : List V} (Pv : Nat → St → Hp → Prop) (h0 : Pv 0 σ H) (hl : ∀ i σ H, i ≤ xs.length → Pv i σ H → SqL K H a xs) (hs : ∀ i x σ H, xs[i]? = some x → Pv i σ H → g x σ H fun σ2 H2 => tb { D with nx := Pv (i + 1), ct := Pv (i + 1), bk := D.nx } σ2 H2) (hd : ∀ σ H, Pv xs.length σ H → D.nx σ H) : SeqW K (.ref a) g tb D σ H := .inl ⟨a, xs, rfl, hl 0 σ H (Nat.zero_le _) h0, loopL Pv h0 hl hs hd⟩
theorem seqT {a : Addr} {xs : List V} (Pv : Nat → St → Hp → Prop) (h0 : Pv 0 σ H) (hl : ∀ i σ H, i ≤ xs.length → Pv i σ H → SqT K H a xs) (hs : ∀ i x σ H, xs[i]? = some x → Pv i σ H → g x σ H fun σ2 H2 => tb { D with nx := Pv (i + 1), ct := Pv (i + 1), bk := D.nx } σ2 H2) (hd : ∀ σ H, Pv xs.length σ H → D.nx σ H) : SeqW K (.ref a) g tb D σ H := .inr (.inl ⟨a, xs, rfl, hl 0 σ H (Nat.zero_le _) h0, loopT Pv h0 hl hs hd⟩)
end

section
variable (P : Program) (w : World) (K : PySem.W.Frag) (mg : Str → Option Value) (base : Heap)
def FnS (k : Nat) (x : Str) (ps : List Str) (sp : Sp) : Prop := ∃ f fd, FnOk P w K mg base CX0 k f fd ps sp ∧ Binds K fd ps [] ∧ PySem.W.keepIn K (.ref f) = true ∧ mg x = some (.ref f)
def MeS (k : Nat) (C : Addr) (m : Str) (ps : List Str) (sp : Sp) : Prop := Cls K C ∧ ∃ f fd, FnOk P w K mg base CX0 k f fd ps sp ∧ Binds K fd ps [] ∧ Meth K C m f
def MkS (k : Nat) (x : Str) (C : Addr) (ps : List Str) (sp : Sp) : Prop := mg x = some (.ref C) ∧ ∃ f fd, Mk K C f ∧ FnOk P w K mg base CX0 k f fd ps sp ∧ Binds K fd ps []
end
def tFn (sp : Sp) (t : TA) : TE := fun σ H Q => t σ H fun vs H1 => sp vs H1 Q E0
def MkG (C : Addr) (sp : Sp) (vs : List V) (H1 : Hp) (Q : VK) : Prop := ∀ x dx, H1 x = none → H1 dx = none → dx ≠ x →
  sp (.ref x :: vs) (upd (upd H1 dx (.own x)) x (.ins C dx [])) (fun v H2 => v = .non ∧ Q (.ref x) H2) E0
def tMk (C : Addr) (sp : Sp) (t : TA) : TE := fun σ H Q => t σ H fun vs H1 => MkG C sp vs H1 Q
/-- o.m(..) of an instance of one of several classes: D tells which, each keeps sp for its own instances -/
def tDy (D : Addr → Prop) (m : Str) (sp : Sp) (ta : TE) (t : TA) : TE := fun σ H Q => ta σ H fun x H1 => ∃ a C dx fs, x = .ref a ∧ H1 a = some (.ins C dx fs) ∧ D C ∧ fs.lookup m = none ∧
  t σ H1 fun vs H2 => H2 a = some (.ins C dx fs) ∧ sp (x :: vs) H2 Q E0
/-- .. the promise of the class at C -/
def spAt (sp : Sp) (C : Addr) : Sp := fun vs H Q E => sp vs H Q E ∧ ∃ a dx fs r, vs = V.ref a :: r ∧ H a = some (.ins C dx fs)
theorem i_fn {sp : Sp} {t : TA} {σ : St} {H : Hp} {Q : VK} (h : t σ H fun vs H1 => sp vs H1 Q E0) : tFn sp t σ H Q := h
theorem i_mk {C : Addr} {sp : Sp} {t : TA} {σ : St} {H : Hp} {Q : VK} (h : t σ H fun vs H1 => MkG C sp vs H1 Q) : tMk C sp t σ H Q := h
theorem i_dy {D : Addr → Prop} {m : Str} {sp : Sp} {ta : TE} {t : TA} {σ : St} {H : Hp} {Q : VK} (h : ta σ H fun x H1 => ∃ a C dx fs, x = .ref a ∧ H1 a = some (.ins C dx fs) ∧ D C ∧ fs.lookup m = none ∧
  t σ H1 fun vs H2 => H2 a = some (.ins C dx fs) ∧ sp (x :: vs) H2 Q E0) : tDy D m sp ta t σ H Q := h
theorem tCall_nil (sp : Sp) (t : TA) : tCall sp [] E0 t = tFn sp t := by
  funext σ H Q
  unfold tCall tFn
  have e : (fun (vs : List V) (H1 : Hp) => sp (vs ++ []) H1 Q E0) = fun vs H1 => sp vs H1 Q E0 := by
    funext vs H1; rw [List.append_nil]
  rw [e]
theorem tMake_nil (C : Addr) (sp : Sp) (t : TA) : tMake C sp [] E0 t = tMk C sp t := by
  funext σ H Q
  unfold tMake tMk MkG
  congr 1
  funext vs H1
  rw [List.append_nil]
section
variable {X : Cx} {k k' : Nat} {x m : Str} {C : Addr} {ps : List Str} {sp : Sp} {e o : Expr} {es : List Expr} {ta : TE} {t : TA} {p pos apos : Pos}
theorem pe_fn (G : FnS X.prog X.w X.K X.mg X.base k x ps sp) (hr : Room k' X.A) (ha : PA X (e :: es) t) (hk : k ≤ k' := by omega) (hg : Gl X x := by rfl) (hdb : (x == ("__debug__" : Str)) = false := by decide)
    (he : starEach (e :: es) X.env = (false, eval e X.env) :: starEach es X.env := by rfl) (hpl : (backTo pos (starEach es X.env)).any (·.1) = false := by rfl) : PE X (.Call (.Name x p) (e :: es) [] pos) (tFn sp t) := by
  obtain ⟨f, fd, F, hb, kp, hm⟩ := G
  rw [← tCall_nil]
  exact pe_call F (hr.mono hk) hg hm kp hb .nil pass0 ha hdb he hpl
theorem pe_mk (G : MkS X.prog X.w X.K X.mg X.base k x C ps sp) (hr : Room k' X.A) (ha : PA X (e :: es) t) (hk : k + 1 ≤ k' := by omega) (hg : Gl X x := by rfl) (hdb : (x == ("__debug__" : Str)) = false := by decide)
    (he : starEach (e :: es) X.env = (false, eval e X.env) :: starEach es X.env := by rfl) (hpl : (backTo pos (starEach es X.env)).any (·.1) = false := by rfl) : PE X (.Call (.Name x p) (e :: es) [] pos) (tMk C sp t) := by
  obtain ⟨hm, f, fd, M, F, hb⟩ := G
  rw [← tMake_nil]
  exact pe_make M F (hr.mono hk) hg hm hb .nil pass0 ha hdb he hpl
theorem pe_dy {pl : Sem Bool} {D : Addr → Prop} (hD : ∀ C, D C → MeS X.prog X.w X.K X.mg X.base k C m ps (spAt sp C)) (hr : Room k' X.A) (ho : PE X o ta) (ha : PA X (e :: es) t) (hk : k ≤ k' := by omega)
    (hst : starEach (e :: es) X.env = (false, eval e X.env) :: starEach es X.env := by rfl) (hpl : (backTo pos (starEach es X.env)).any (·.1) = false := by rfl)
    (ht : eval (.Call (.Attribute o m apos) (e :: es) [] pos) X.env = (do
      let ov ← eval o X.env
      standAt apos.atName
      let (f, first) ← holding [ov] (getMethod ov m pl)
      callWith pos f first (backTo pos (starEach (e :: es) X.env)) (backToKw pos (keywordEach [] X.env))) := by rfl) :
    PE X (.Call (.Attribute o m apos) (e :: es) [] pos) (tDy D m sp ta t) := by
  intro pins s σ H Q I h
  refine PySem.W.methodCall_KW (pl := pl) (thn (ho pins s σ H _ I h) fun u s1 ⟨x, H1, I1, rx, a, C, dx, fs, ex, ea, hC, l, q⟩ => ?_) ht
  subst ex
  obtain rfl : u = Value.ref a := rx
  obtain ⟨c, f, fd, F, hb, hm⟩ := hD C hC
  refine getmeth_ok I1 ea c hm l ?_
  refine PySem.W.callWith_K (first := [.ref a]) (h₀ := X.base) I.ok.mod.kin hm.kp (thn (ha pos pins s1 σ H1 _ I1 q) fun us s2 ⟨vs, H2, I2, r, eb, q2⟩ => ⟨I2.kIn, ?_⟩) hst hpl
  exact run_fn (us := .ref a :: us) (vs := .ref a :: vs) (dvs := []) (E := E0) F (hr.mono hk) hb .nil pass0 I2 (.cons rfl r) (by rw [List.append_nil]; exact ⟨q2, a, dx, fs, vs, rfl, eb⟩)
/-- name = value, the slot i -/
theorem ss (i : Nat) {x : Str} {e : Expr} {te : TE} {pos pos' : Pos} (hN : X.N.Nodup) (he : PE X e te) (hi : X.N[i]? = some x := by rfl) (hx : Loc X.env.scope x := by first | exact Or.inl rfl | exact Or.inr rfl)
    (hs : swapsWith e (some (.Name x pos')) pos.line X.env = pure false := by rfl) (hf : X.fn x = true ∨ X.env.scope.names.lookup x = some .local := by first | exact .inl rfl | exact .inr rfl) : PS X (.Assign [.Name x pos'] e pos) (tAsg te (gName i)) :=
  ps_set hN hi hx he hs hf
theorem sg (i : Nat) {x : Str} {pos : Pos} (hN : X.N.Nodup) (hi : X.N[i]? = some x := by rfl) (hx : Loc X.env.scope x := by first | exact Or.inl rfl | exact Or.inr rfl) (hf : X.fn x = true ∨ X.env.scope.names.lookup x = some .local := by first | exact .inl rfl | exact .inr rfl) : PG X (.Name x pos) (gName i) := pg_name hN hi hx hf
def rIsi (K : PySem.W.Frag) : List V → Hp → VK → Prop := fun xs H Q => ∃ x t b, TyOf K H x t ∧ ((∃ n, xs = [x, .ty n] ∧ PySem.W.kitOne K t (.type n) = some b) ∨ (∃ c, xs = [x, .ref c] ∧ PySem.W.kitOne K t (.ref c) = some b)) ∧ Q (.bl b) H
theorem call_isi : CallR X (.builtin "isinstance") (rIsi X.K) := by
  intro pins s σ H xs us Q I r h
  obtain ⟨x, t, b, ty, h, q⟩ := h
  rcases h with ⟨n, rfl, e⟩ | ⟨c, rfl, e⟩
  · obtain ⟨u, v, rfl, ru, rv⟩ := vals2 r
    obtain rfl : v = Value.type n := rv
    exact isinst_ok I ru ty e fun tk => ⟨.bl b, H, I.tok tk, rfl, q⟩
  · obtain ⟨u, v, rfl, ru, rv⟩ := vals2 r
    obtain rfl : v = Value.ref c := rv
    exact isinst_ok I ru ty e fun tk => ⟨.bl b, H, I.tok tk, rfl, q⟩
theorem i_isiT {K : PySem.W.Frag} {x : V} {n : String} {t : Value} {b : Bool} {H : Hp} {Q : VK} (ty : TyOf K H x t) (e : PySem.W.kitOne K t (.type n) = some b) (h : Q (.bl b) H) : rIsi K [x, .ty n] H Q := ⟨x, t, b, ty, .inl ⟨n, rfl, e⟩, h⟩
def rAddG : R2 := fun x y H Q => rI0 (fun i j => V.int (i + j)) x y H Q ∨ (∃ i j, x = .str i ∧ y = .str j ∧ i.length + j.length ≤ sizeLine ∧ Q (.str (i ++ j)) H) ∨ rCat x y H Q
theorem op_addG : OpR X (binaryOp .Add) rAddG := OpR.or op_add (OpR.or op_add_str op_cat)
theorem i_addI {i j : Int} {H : Hp} {Q : VK} (h : Q (.int (i + j)) H) : rAddG (.int i) (.int j) H Q := .inl ⟨i, j, rfl, rfl, h⟩
theorem i_addL {l b : Addr} {xs zs : List V} {H : Hp} {Q : VK} (h1 : H l = some (.lst xs)) (h2 : H b = some (.lst zs)) (z : xs.length + zs.length ≤ sizeLine) (h : ∀ p, H p = none → Q (.ref p) (upd H p (.lst (xs ++ zs)))) : rAddG (.ref l) (.ref b) H Q := .inr (.inr ⟨l, b, xs, zs, rfl, rfl, h1, h2, z, h⟩)
end

section
variable {X : Cx} {K : PySem.W.Frag} {H : Hp} {Q : VK} {a : Expr} {ta : TE} {pos : Pos}
theorem bt_len : bootBuiltins "len" = some (.builtin "len") := by decide +kernel
theorem bt_isinstance : bootBuiltins "isinstance" = some (.builtin "isinstance") := by decide +kernel
theorem bt_max : bootBuiltins "max" = some (.builtin "max") := by decide +kernel
theorem bt_sum : bootBuiltins "sum" = some (.builtin "sum") := by decide +kernel
theorem bt_int : bootBuiltins "int" = some (.type "int") := by decide +kernel
theorem bt_bool : bootBuiltins "bool" = some (.type "bool") := by decide +kernel
theorem bt_tuple : bootBuiltins "tuple" = some (.type "tuple") := by decide +kernel
/-- not of any value -/
def tNotG (K : PySem.W.Frag) (ta : TE) : TE := fun σ H Q => ta σ H fun x H1 => ∃ k, TruV K x H1 k ∧ Q (.bl (!k)) H1
theorem pe_notG (ha : PE X a ta) : PE X (.UnaryOp .Not a pos) (tNotG X.K ta) := by
  intro pins s σ H Q I h
  refine UnaryOp_ (thn (ha pins s σ H _ I h) fun v s1 ⟨x, H1, I1, r1, q1⟩ => ?_)
  exact not_of (thn (tru_ok pins s1 σ H1 x v (fun k H2 => Q (.bl (!k)) H2) I1 r1 q1) fun b s2 ⟨H2, I2, q2⟩ => ⟨.bl (!b), H2, I2, rfl, q2⟩)
theorem i_notG {σ : St} (h : ta σ H fun x H1 => ∃ k, TruV K x H1 k ∧ Q (.bl (!k)) H1) : tNotG K ta σ H Q := h
/-- len -/
def rLen (K : PySem.W.Frag) : List V → Hp → VK → Prop := fun xs H Q => ∃ x n, xs = [x] ∧ LenV K x H n ∧ Q (.int n) H
theorem call_lenG : CallR X (.builtin "len") (rLen X.K) := call_len
theorem i_lenS {p : Addr} {xs : List V} (h : SqL K H p xs) (k : Q (.int xs.length) H) : rLen K [.ref p] H Q := ⟨_, _, rfl, .inl ⟨xs, h, rfl⟩, k⟩
theorem i_lenL {p : Addr} {xs : List V} (h : H p = some (.lst xs)) (k : Q (.int xs.length) H) : rLen K [.ref p] H Q := ⟨_, _, rfl, .inl ⟨xs, SqL.of h, rfl⟩, k⟩
/-- max, min of two ints -/
def rMax2 : List V → Hp → VK → Prop := fun xs H Q => ∃ i j, xs = [.int i, .int j] ∧ Q (.int (if j > i then j else i)) H
theorem call_maxG (hc : X.calm = true) : CallR X (.builtin "max") rMax2 := call_max2 hc
theorem i_max {i j : Int} (h : Q (.int (max i j)) H) : rMax2 [.int i, .int j] H Q := by
  refine ⟨i, j, rfl, ?_⟩
  have e : (if j > i then j else i) = max i j := by split <;> omega
  rw [e]; exact h
/-- int() -/
def rInt1 : List V → Hp → VK → Prop := fun xs H Q => (∃ i, xs = [.int i] ∧ Q (.int i) H) ∨ ∃ k, xs = [.bl k] ∧ Q (.int (if k then 1 else 0)) H
theorem call_intG : CallR X (.type "int") rInt1 := call_int1
theorem i_intB {b : Bool} (h : Q (.int (if b then 1 else 0)) H) : rInt1 [.bl b] H Q := .inr ⟨b, rfl, h⟩
def rTupOf (K : PySem.W.Frag) : List V → Hp → VK → Prop := fun xs H Q => ∃ p ys, xs = [.ref p] ∧ ((SqL K H p ys ∧ ∀ l, H l = none → Q (.ref l) (upd H l (.tup ys))) ∨ (SqT K H p ys ∧ Q (.ref p) H))
theorem call_tupleG : CallR X (.type "tuple") (rTupOf X.K) := call_tuple_of
theorem i_tupL {p : Addr} {ys : List V} (h : H p = some (.lst ys)) (k : ∀ l, H l = none → Q (.ref l) (upd H l (.tup ys))) : rTupOf K [.ref p] H Q := ⟨p, ys, rfl, .inl ⟨SqL.of h, k⟩⟩
/-- index -/
theorem i_ixS {p : Addr} {xs : List V} {j : Nat} {v : V} (h : SqL K H p xs) (e : xs[j]? = some v) (k : Q v H) : rIx K (.ref p) (.int (j : Int)) H Q := .inl ⟨p, xs, j, v, rfl, rfl, h, atI_nat e, k⟩
theorem i_ixL {p : Addr} {xs : List V} {j : Nat} {v : V} (h : H p = some (.lst xs)) (e : xs[j]? = some v) (k : Q v H) : rIx K (.ref p) (.int (j : Int)) H Q := .inl ⟨p, xs, j, v, rfl, rfl, SqL.of h, atI_nat e, k⟩
theorem i_ixLi {p : Addr} {xs : List V} {i : Int} {v : V} (h : H p = some (.lst xs)) (e : atI xs i = some v) (k : Q v H) : rIx K (.ref p) (.int i) H Q := .inl ⟨p, xs, i, v, rfl, rfl, SqL.of h, e, k⟩
theorem i_ixT {p : Addr} {xs : List V} {i : Int} {v : V} (h : H p = some (.tup xs)) (e : atI xs i = some v) (k : Q v H) : rIx K (.ref p) (.int i) H Q := .inr (.inl ⟨p, xs, i, v, rfl, rfl, SqT.of h, e, k⟩)
/-- slices of lists and tuples -/
def rSlG (K : PySem.W.Frag) : V → Option Int → Option Int → Hp → VK → Prop := fun x lo hi H Q => rSlL K x lo hi H Q ∨ rSlT K x lo hi H Q
theorem sl_seq : SlR X (rSlG X.K) := SlR.or sl_list sl_tup
theorem i_slS {p : Addr} {xs : List V} {lo hi : Option Int} (h : SqL K H p xs) (k : ∀ l, H l = none → Q (.ref l) (upd H l (.lst (cutV xs lo hi)))) : rSlG K (.ref p) lo hi H Q := .inl ⟨p, xs, rfl, h, k⟩
/-- a times b -/
def rMulG : R2 := rI CMul fun i j => V.int (i * j)
theorem op_mulG : OpR X (binaryOp .Mult) rMulG := op_mul
theorem i_mulI {i j : Int} (c : CMul i j) (h : Q (.int (i * j)) H) : rMulG (.int i) (.int j) H Q := ⟨i, j, rfl, rfl, c, h⟩
/-- list methods -/
theorem i_append {l : Addr} {xs : List V} {y : V} (h : H l = some (.lst xs)) (z : xs.length < sizeLine) (k : Q .non (upd H l (.lst (xs ++ [y])))) : rAppend (.ref l) [y] H Q := ⟨l, xs, y, rfl, rfl, h, z, k⟩
theorem i_clear {l : Addr} {xs : List V} (h : H l = some (.lst xs)) (k : Q .non (upd H l (.lst []))) : rClear (.ref l) [] H Q := ⟨l, xs, rfl, rfl, h, k⟩
theorem tyL {l : Addr} {xs : List V} (h : H l = some (.lst xs)) : tyV K "list" (.ref l) H := .inl ⟨rfl, xs, SqL.of h⟩
end
theorem small {n : Nat} (h : n ≤ 1000000) : n ≤ sizeLine := Nat.le_trans h (by decide)
theorem smallL {n : Nat} (h : n < 1000000) : n < sizeLine := Nat.lt_of_lt_of_le h (by decide)
theorem nd_ne {l : List Addr} (h : l.Nodup) {i j : Nat} {a b : Addr} (ha : l[i]? = some a) (hb : l[j]? = some b) (hij : i ≠ j) : a ≠ b := by
  intro e
  subst e
  obtain ⟨h1, e1⟩ := List.getElem?_eq_some_iff.mp ha
  obtain ⟨h2, e2⟩ := List.getElem?_eq_some_iff.mp hb
  exact hij ((List.getElem_inj h).mp (e1.trans e2.symm))
theorem kit_self (K : PySem.W.Frag) (n : String) : PySem.W.kitOne K (.type n) (.type n) = some true := by
  unfold PySem.W.kitOne
  rw [if_pos (by simp)]
theorem same_new {H : Hp} {p : Addr} (h : H p = none) (o : HO) : Same H (upd H p o) := fun b u q => by rw [upd_ne (ne_of_none q h)]; exact q
theorem same_new2 {H : Hp} {p q : Addr} (hp : H p = none) (hq : H q = none) (o u : HO) : Same H (upd (upd H q u) p o) := fun b v e => by rw [upd_ne (ne_of_none e hp), upd_ne (ne_of_none e hq)]; exact e
theorem kit_prim {K : PySem.W.Frag} {t c : String} {b : Bool} (h1 : t ≠ c) (h2 : PySem.W.kitMeta c = true) (h3 : (PySem.fastBuiltinMro t).map (·.contains (Value.type c)) = some b) : PySem.W.kitOne K (.type t) (.type c) = some b := by
  unfold PySem.W.kitOne
  rw [if_neg (by simp [h1])]
  unfold PySem.W.kitCls
  dsimp only
  rw [if_pos h2]
  exact h3
theorem kit_int_bool (K : PySem.W.Frag) : PySem.W.kitOne K (.type "int") (.type "bool") = some false := kit_prim (by decide) (by decide +kernel) (by decide +kernel)
/-- an __init__ that stores its one argument -/
def spInit1 (C : Addr) (f : Str) : Sp := fun vs H Q _ => ∃ p dx v, vs = [.ref p, v] ∧ H p = some (.ins C dx []) ∧ Q .non (upd H p (.ins C dx [(f, v)]))
theorem i_init1 {C : Addr} {f : Str} {v : V} {H : Hp} {Q : VK} (h : ∀ (x dx : Addr) (H' : Hp), Same H H' → H x = none → H' x = some (.ins C dx [(f, v)]) → Q (.ref x) H') :
    MkG C (spInit1 C f) [v] H Q := by
  intro x dx hx hdx ne
  refine ⟨x, dx, v, rfl, upd_same, rfl, ?_⟩
  rw [upd_upd]
  exact h x dx _ (same_new2 hx hdx _ _) hx upd_same
theorem lk1 (f : Str) (v : V) : List.lookup f [(f, v)] = some v := by
  have h := lookup_putF f f v []
  rw [if_pos rfl] at h
  exact h
theorem lk0 {f g : Str} (v : V) (h : ¬ g = f) : List.lookup g [(f, v)] = none := by
  have e := lookup_putF f g v []
  rw [if_neg h] at e
  exact e
/-- the built-in names that the text does not bind -/
structure Bt (mg : Str → Option Value) : Prop where
  len : mg "len" = none
  range : mg "range" = none
  isinstance : mg "isinstance" = none
  int : mg "int" = none
  bool : mg "bool" = none
  str : mg "str" = none
  list : mg "list" = none
  tuple : mg "tuple" = none
  dict : mg "dict" = none
  set : mg "set" = none
  sorted : mg "sorted" = none
  max : mg "max" = none
  min : mg "min" = none
  sum : mg "sum" = none
  any : mg "any" = none
  all : mg "all" = none
  abs : mg "abs" = none
  reversed : mg "reversed" = none
  enumerate : mg "enumerate" = none
  zip : mg "zip" = none
/-- all but lists stay: what FmAt and its like lean on -/
def Ext (H H' : Hp) : Prop := ∀ b o, H b = some o → (∀ xs, o ≠ .lst xs) → H' b = some o
theorem Ext.refl (H : Hp) : Ext H H := fun _ _ h _ => h
theorem Ext.trans {H H1 H2 : Hp} (a : Ext H H1) (b : Ext H1 H2) : Ext H H2 := fun c o h n => b c o (a c o h n) n
theorem Ext.of {H H' : Hp} (a : Same H H') : Ext H H' := fun b o h _ => a b o h
theorem cut_to {xs : List V} {k : Nat} (h : k ≤ xs.length) : cutV xs none (some (k : Int)) = xs.take k := by
  unfold cutV
  rw [HT.sIx_none, HT.sIx_nat, Nat.min_eq_left h]
  simp
theorem cut_from {xs : List V} {k : Nat} (h : k ≤ xs.length) : cutV xs (some (k : Int)) none = xs.drop k := by
  unfold cutV
  rw [HT.sIx_none, HT.sIx_nat, Nat.min_eq_left h]
  rw [List.take_of_length_le (by rw [List.length_drop]; omega)]
theorem cut_init (xs : List V) (v : V) : cutV (xs ++ [v]) none (some (-1)) = xs := by
  unfold cutV
  rw [HT.sIx_none]
  have e : HT.sIx (xs ++ [v]).length (xs ++ [v]).length (some (-1)) = xs.length := by
    have h : HT.sIx (xs ++ [v]).length (xs ++ [v]).length (some (-1)) = (if (-1 : Int) < 0 then ((-1 : Int) + ((xs ++ [v]).length : Int)).toNat else min (-1 : Int).toNat (xs ++ [v]).length) := rfl
    rw [h, if_pos (by decide), List.length_append, List.length_singleton]
    omega
  rw [e]
  simp
theorem cut_mid (xs : List V) (i j : Nat) : cutV xs (some (i : Int)) (some (j : Int)) = (xs.drop i).take (j - i) := by
  unfold cutV
  rw [HT.sIx_nat, HT.sIx_nat]
  by_cases hi : i ≤ xs.length
  · rw [Nat.min_eq_left hi]
    by_cases hj : j ≤ xs.length
    · rw [Nat.min_eq_left hj]
    · rw [Nat.min_eq_right (by omega), List.take_of_length_le (by rw [List.length_drop]; omega), List.take_of_length_le (by rw [List.length_drop]; omega)]
  · rw [Nat.min_eq_right (show xs.length ≤ i by omega), List.drop_eq_nil_of_le (Nat.le_refl _), List.drop_eq_nil_of_le (show xs.length ≤ i by omega)]
    simp
theorem map_int_mid (ns : List Int) (i j : Nat) : ((ns.map V.int).drop i).take j = ((ns.drop i).take j).map V.int := by
  rw [List.map_take, List.map_drop]
theorem get_int {ns : List Int} {i : Nat} {x : V} (h : (ns.map V.int)[i]? = some x) : ∃ n, x = V.int n ∧ ns[i]? = some n := by
  rw [List.getElem?_map] at h
  cases e : ns[i]? with
  | none => rw [e] at h; cases h
  | some n => rw [e] at h; exact ⟨n, (Option.some.inj h).symm, rfl⟩
theorem snoc_of {α : Type} {l : List α} (h : l ≠ []) : ∃ r x, l = r ++ [x] := ⟨l.dropLast, l.getLast h, (List.dropLast_concat_getLast h).symm⟩
section
variable {K : PySem.W.Frag} {H : Hp} {Q : VK}
theorem j_lst {xs : List V} (z : xs.length ≤ 1000000) (h : ∀ (p : Addr) (H' : Hp), Same H H' → H p = none → H' p = some (.lst xs) → Q (.ref p) H') : NewL xs H Q :=
  ⟨small z, fun p hp => h p _ (same_new hp _) hp upd_same⟩
theorem j_tup {xs : List V} (z : xs.length ≤ 1000000) (h : ∀ (p : Addr) (H' : Hp), Same H H' → H p = none → H' p = some (.tup xs) → Q (.ref p) H') : NewT xs H Q :=
  ⟨small z, fun p hp => h p _ (same_new hp _) hp upd_same⟩
theorem j_sl {p : Addr} {xs ys : List V} {lo hi : Option Int} (h : SqL K H p xs) (e : cutV xs lo hi = ys) (k : ∀ (l : Addr) (H' : Hp), Same H H' → H l = none → H' l = some (.lst ys) → Q (.ref l) H') : rSlG K (.ref p) lo hi H Q :=
  i_slS h fun l hl => by rw [e]; exact k l _ (same_new hl _) hl upd_same
theorem j_add {l b : Addr} {xs zs : List V} (h1 : H l = some (.lst xs)) (h2 : H b = some (.lst zs)) (z : xs.length + zs.length ≤ 1000000) (h : ∀ (p : Addr) (H' : Hp), Same H H' → H p = none → H' p = some (.lst (xs ++ zs)) → Q (.ref p) H') : rAddG (.ref l) (.ref b) H Q :=
  i_addL h1 h2 (small z) fun p hp => h p _ (same_new hp _) hp upd_same
/-- all but the list at l stays -/
def But (l : Addr) (H H' : Hp) : Prop := ∀ b o, b ≠ l → H b = some o → H' b = some o
theorem But.ext {l : Addr} {H H' : Hp} {xs : List V} (h : H l = some (.lst xs)) (s : But l H H') : Ext H H' := fun b o e n => s b o (ne_of e h (n xs)) e
theorem But.same {l : Addr} {H0 H H' : Hp} (s : But l H H') (h0 : H0 l = none) (s0 : Same H0 H) : Same H0 H' := fun b o e => s b o (ne_of_none e h0) (s0 b o e)
theorem but_upd {l : Addr} {H : Hp} {o : HO} : But l H (upd H l o) := fun b u n e => by rw [upd_ne n]; exact e
theorem j_append {l : Addr} {xs : List V} {y : V} (h : H l = some (.lst xs)) (z : xs.length < 1000000) (k : ∀ H' : Hp, But l H H' → H' l = some (.lst (xs ++ [y])) → Q .non H') : rAppend (.ref l) [y] H Q := i_append h (smallL z) (k _ but_upd upd_same)
theorem j_clear {l : Addr} {xs : List V} (h : H l = some (.lst xs)) (k : ∀ H' : Hp, But l H H' → H' l = some (.lst []) → Q .non H') : rClear (.ref l) [] H Q := i_clear h (k _ but_upd upd_same)
end
end L2

set_option maxRecDepth 100000
set_option maxHeartbeats 4000000
namespace L2
open PySem PySem.Spec PyProof.Rows
def cxComp (X : Cx) (x : Str) (ns : List Str) (scope : Scope) (cl : List (Str × Addr)) (s : Shared) (H : Hp) (ex : List Addr) : Cx where
  prog := X.prog
  w := X.w
  K := X.K
  mg := X.mg
  base := X.base
  A := X.A
  N := x :: ns
  s₀ := s
  H₀ := H
  env := compEnvC scope cl s.heap.objs.size X.env
  outer := X.stack
  stack := X.stack
  ex := ex
  fn := fun _ => false
  calm := X.calm
  pn := []
  xe := fun _ _ => False
/-- the slots that the block takes from around -/
def subS (σ : St) (ix : List Nat) : St := ix.map fun k => (σ[k]?).join
/-- the block's names: its own one, x; those it takes from around, ns, at the places ix of the frame around -/
def CompOk (sc : Scope) (N : List Str) (x : Str) (ns : List Str) (ix : List Nat) (scope : Scope) : Prop :=
  scope.kind = .function ∧ (∀ y ∈ scope.names, y.2 ≠ .cell ∧ (y.2 = .local → scope.names.lookup y.1 = some .local) ∧ (y.2 = .free → sc.names.lookup y.1 = some .cell ∨ sc.names.lookup y.1 = some .free)) ∧
  scope.names.lookup x = some .local ∧ (∀ y ∈ ns, scope.names.lookup y = some .free) ∧ (ix.map fun k => N[k]?) = ns.map some ∧ (x :: ns).Nodup
instance (sc : Scope) (N : List Str) (x : Str) (ns : List Str) (ix : List Nat) (scope : Scope) : Decidable (CompOk sc N x ns ix scope) := by unfold CompOk; infer_instance
/-- what the walk of the block is to show, the iterator J in hand -/
def CompG (J : It) (ix : List Nat) (tc : TT) (te : TE) (σ : St) (Q : VK) (H1 : Hp) : Prop := ∀ acc, H1 acc = none → ∃ W : Nat → Nat → List V → Hp → Prop, (∃ m, W 0 m [] (upd H1 acc (.lst []))) ∧
  ∀ i m ys H, W i m ys H → (J.stop i H ∧ Q (.ref acc) H) ∨ (J.go i H ∧ ∀ x H', J.yld i H x H' → tc (some x :: subS σ ix) H' fun b H2 =>
    if b = true then te (some x :: subS σ ix) H2 fun y H3 => H3 acc = some (.lst ys) ∧ ys.length < sizeLine ∧ ∃ m', m' < m ∧ W (i + 1) m' (ys ++ [y]) (upd H3 acc (.lst (ys ++ [y]))) else ∃ m', m' < m ∧ W (i + 1) m' ys H2)
def tComp (wi : TI) (ix : List Nat) (tc : TT) (te : TE) : TE := fun σ H Q => wi σ H fun J H1 => CompG J ix tc te σ Q H1
theorem lookup_mem {α β : Type} [BEq α] [LawfulBEq α] : ∀ {l : List (α × β)} {a : α} {b : β}, l.lookup a = some b → (a, b) ∈ l
  | [], _, _, h => by simp at h
  | (k, v) :: r, a, b, h => by
    rw [List.lookup_cons] at h
    cases e : a == k with
    | true =>
      rw [e] at h
      have : a = k := by simpa using e
      subst this
      cases h
      exact List.mem_cons_self
    | false =>
      rw [e] at h
      exact List.mem_cons_of_mem _ (lookup_mem h)
theorem closure_go {env : Env} : ∀ (names : List (Str × NameKind)) (acc : List (Str × Addr)), (∀ y ∈ names, y.2 = .free → ∃ c, env.cells.lookup y.1 = some c) → (∀ y c, acc.lookup y = some c → env.cells.lookup y = some c) →
    ∃ cl, (forIn names acc fun x r => match x with | (name, kind) => if (kind == NameKind.free) = true then (do let a ← cellOf env name; pure (ForInStep.yield ((name, a) :: r))) else pure (ForInStep.yield r) : Sem (List (Str × Addr))) = pure cl ∧
      (∀ y c, cl.lookup y = some c → env.cells.lookup y = some c) ∧ (∀ y, (∃ c, acc.lookup y = some c) → ∃ c, cl.lookup y = some c) ∧ ∀ y ∈ names, y.2 = .free → ∃ c, cl.lookup y.1 = some c
  | [], acc, _, ha => ⟨acc, rfl, ha, fun _ h => h, fun _ h => nomatch h⟩
  | (name, kind) :: r, acc, hn, ha => by
    cases hk : kind == NameKind.free with
    | false =>
      obtain ⟨cl, e, h1, h2, h3⟩ := closure_go r acc (fun y hy => hn y (List.mem_cons_of_mem _ hy)) ha
      refine ⟨cl, ?_, h1, h2, fun y hy hf => ?_⟩
      · rw [List.forIn_cons]
        simp only [hk, Bool.false_eq_true, if_false]
        exact e
      · rcases List.mem_cons.mp hy with rfl | hy
        · have : kind = .free := hf
          subst this
          simp at hk
        · exact h3 y hy hf
    | true =>
      have hkf : kind = .free := by simpa using hk
      obtain ⟨c, hc⟩ := hn (name, kind) List.mem_cons_self hkf
      have hc : env.cells.lookup name = some c := hc
      obtain ⟨cl, e, h1, h2, h3⟩ := closure_go r ((name, c) :: acc) (fun y hy => hn y (List.mem_cons_of_mem _ hy)) (fun y c' hy => by
        rw [List.lookup_cons] at hy
        cases e : y == name with
        | true =>
          rw [e] at hy
          have : y = name := by simpa using e
          subst this
          cases hy
          exact hc
        | false =>
          rw [e] at hy
          exact ha y c' hy)
      refine ⟨cl, ?_, h1, fun y hy => h2 y ?_, fun y hy hf => ?_⟩
      · rw [List.forIn_cons]
        simp only [hk, if_true]
        have : cellOf env name = pure c := by unfold cellOf; rw [hc]
        rw [this]
        exact e
      · obtain ⟨c', hc'⟩ := hy
        rw [List.lookup_cons]
        cases y == name
        · exact ⟨c', hc'⟩
        · exact ⟨c, rfl⟩
      · rcases List.mem_cons.mp hy with rfl | hy
        · exact h2 _ ⟨c, by rw [List.lookup_cons]; simp⟩
        · exact h3 y hy hf
theorem closure_ok {env : Env} (scope : Scope) (h : ∀ y ∈ scope.names, y.2 = .free → ∃ c, env.cells.lookup y.1 = some c) :
    ∃ cl, closureFor scope env = pure cl ∧ (∀ y c, cl.lookup y = some c → env.cells.lookup y = some c) ∧ ∀ y ∈ scope.names, y.2 = .free → ∃ c, cl.lookup y.1 = some c := by
  obtain ⟨cl, e, h1, _, h3⟩ := closure_go (env := env) scope.names [] h (fun _ _ z => by simp at z)
  refine ⟨cl, ?_, h1, h3⟩
  show ((forIn scope.names [] fun x r => match x with | (name, kind) => if (kind == NameKind.free) = true then (do let a ← cellOf env name; pure (ForInStep.yield ((name, a) :: r))) else pure (ForInStep.yield r) : Sem (List (Str × Addr))) >>= fun s => pure s) = pure cl
  rw [e]
  rfl
/-- a name's kind within the block -/
theorem relabel_kind {env : Env} : ∀ (names : List (Str × NameKind)) (y : Str), (names.map fun (n, k) => if (k == NameKind.free && env.scope.kind == .function && env.kindOf n == some .cell) then (n, NameKind.cell) else (n, k)).lookup y =
    (names.lookup y).map fun k => if (k == NameKind.free && env.scope.kind == .function && env.kindOf y == some .cell) = true then NameKind.cell else k
  | [], y => by simp
  | (n, k) :: r, y => by
    have ih := relabel_kind (env := env) r y
    rw [List.map_cons, List.lookup_cons]
    cases e : y == n with
    | true =>
      have ey : y = n := by simpa using e
      subst ey
      by_cases hc : (k == NameKind.free && env.scope.kind == .function && env.kindOf y == some .cell) = true
      · simp only [hc, if_true, List.lookup_cons, beq_self_eq_true, Option.map_some]
      · simp only [hc, if_false, List.lookup_cons, beq_self_eq_true, Option.map_some, Bool.false_eq_true]
    | false =>
      by_cases hc : (k == NameKind.free && env.scope.kind == .function && env.kindOf n == some .cell) = true
      · simp only [hc, if_true, List.lookup_cons, e]; exact ih
      · simp only [hc, if_false, List.lookup_cons, e, Bool.false_eq_true]; exact ih
section
variable {X : Cx} {pins : List (Addr × Obj)} {σ : St} {H : Hp} {s : Shared} {cl : List (Str × Addr)} {x : Str} {ns : List Str} {ix : List Nat} {sc scope : Scope} {N : List Str} {fp : List Addr}
theorem fp_comp (I : Inv X pins σ H s) (f : ∀ b ∈ fp, FpOk X pins H b) (hlt : ∀ b ∈ fp, b < s.heap.objs.size) (hcl : ∀ y c, cl.lookup y = some c → X.env.cells.lookup y = some c) {H' : Hp} (hn : ∀ b ∈ fp, H' b = none) : ∀ b ∈ fp, FpOk (cxComp X x ns scope cl s H fp) [] H' b := fun b hb => by
  obtain ⟨f0, f1, f2, f3, f4, f5⟩ := f b hb
  refine ⟨hn b hb, Nat.ne_of_lt (hlt b hb), fun z => ?_, .inl hb, fun y c e => f4 y c (hcl y c e), fun p hp => ?_⟩
  · rcases List.mem_cons.mp (I.stkSub b z) with z | z
    · exact f1 z
    · exact f2 z
  · exact absurd (show p ∈ ([] : List (Addr × Obj)) from hp) (by simp)
theorem inv_comp {h1 : Heap} {m : Str → Option Value} {t' : Nat} (I : Inv X pins σ H s) (hsc : X.env.scope = sc) (hN : X.N = N) (C : CompOk sc N x ns ix scope) (hcl : ∀ y c, cl.lookup y = some c → X.env.cells.lookup y = some c)
    (hcla : ∀ y ∈ scope.names, y.2 = .free → ∃ c, cl.lookup y.1 = some c) (f : ∀ b ∈ fp, FpOk X pins H b) (hlt : ∀ b ∈ fp, b < s.heap.objs.size) (hn : h1.Ns s.heap.objs.size m) (hk : ∀ b o, s.heap.get? b = some o → h1.get? b = some o) :
    Inv (cxComp X x ns scope cl s H fp) [] (none :: subS σ ix) H { s with heap := h1, toks := t' } := by
  obtain ⟨c1, c2, c3, c4, c5, c6⟩ := C
  have kind : ∀ y, (relabel scope X.env).names.lookup y = (scope.names.lookup y).map fun k => if (k == NameKind.free && X.env.scope.kind == .function && X.env.kindOf y == some .cell) = true then NameKind.cell else k := fun y => relabel_kind scope.names y
  have fr : ∀ y, ((relabel scope X.env).names.lookup y = some .cell ∨ (relabel scope X.env).names.lookup y = some .free) → scope.names.lookup y = some .free := fun y h => by
    rw [kind y] at h
    cases e : scope.names.lookup y with
    | none => rw [e] at h; simp at h
    | some k =>
      rw [e] at h
      have hm := lookup_mem e
      cases k with
      | free => rfl
      | cell => exact absurd rfl (c2 _ hm).1
      | «local» => simp at h
      | globalExplicit => simp at h
      | globalImplicit => simp at h
  have fr' : ∀ y, scope.names.lookup y = some .free → (relabel scope X.env).names.lookup y = some .cell ∨ (relabel scope X.env).names.lookup y = some .free := fun y h => by
    rw [kind y, h]
    by_cases hc : (NameKind.free == NameKind.free && X.env.scope.kind == .function && X.env.kindOf y == some .cell) = true
    · left; rw [Option.map_some, if_pos hc]
    · right; rw [Option.map_some, if_neg hc]
  have noC : ∀ p : Addr × Obj, p ∉ (cxComp X x ns scope cl s H fp).pn ++ [] := fun p hp => absurd (show p ∈ ([] : List (Addr × Obj)) from hp) (by simp)
  have lenE : ix.length = ns.length := by
    have := congrArg List.length c5
    rwa [List.length_map, List.length_map] at this
  refine ⟨⟨I.ok.mod, c1, I.ok.glob, I.ok.blt, Nat.le_refl _, fun y z c h1 h2 => I.ok.inj y z c (hcl y c h1) (hcl z c h2), fun y hy => ?_, fun y c hy => absurd hy (by simp [cxComp]), I.ok.hd, I.ok.frames, .inl rfl, fun b hb => ?_, I.bs,
    Nat.le_trans I.ok.bsz I.sz, fun b o e hb => ?_, fun b hb => ?_, I.stack, I.stkFree⟩, rfl, I.bare, Un.kept hk, ⟨m, hn, fun i y v e1 e2 e3 => ?_⟩, fun y c e => ?_, I.hok.fresh (Nat.le_refl _), fun y c e => I.freeC y c (hcl y c e), fun p hp => absurd hp (noC p), I.hok.kept hk, ?_⟩
  · exact hcla _ (lookup_mem (fr y hy)) rfl
  · obtain ⟨f0, f1, f2, f3, f4, f5⟩ := f b hb
    exact ⟨Nat.ne_of_lt (hlt b hb), fun y c e => f4 y c (hcl y c e)⟩
  · obtain ⟨f0, f1, f2, f3, f4, f5⟩ := f b hb
    rcases f3 with z | z
    · exact I.ok.noex b o e z
    · exact absurd (Nat.lt_of_lt_of_le (Heap.lt_size (I.ok.bs b o e).1) z) (Nat.lt_irrefl _)
  · obtain ⟨f0, f1, f2, f3, f4, f5⟩ := f b hb
    intro z
    rcases List.mem_cons.mp (I.stkSub b z) with z | z
    · exact f1 z
    · exact f2 z
  · cases i with
    | zero => cases e2
    | succ j =>
      have e1' : ns[j]? = some y := e1
      have e2' : (ix.map fun k => (σ[k]?).join)[j]? = some (some v) := e2
      have e5 := congrArg (fun l => l[j]?) c5
      simp only [List.getElem?_map, e1', Option.map_some] at e5 e2'
      cases ek : ix[j]? with
      | none => rw [ek] at e5; cases e5
      | some k =>
        rw [ek] at e5 e2'
        have eN : N[k]? = some y := by simpa using e5
        have eσ : (σ[k]?).join = some v := by simpa using e2'
        have eσ' : σ[k]? = some (some v) := by
          cases q : σ[k]? with
          | none => rw [q] at eσ; cases eσ
          | some w => rw [q] at eσ; have : w = some v := eσ; rw [this]
        have hy := c4 y (List.mem_of_getElem? e1')
        have hk' := (c2 _ (lookup_mem hy)).2.2 rfl
        rw [← hsc] at hk'
        obtain ⟨m0, hn0, hl⟩ := I.loc
        obtain ⟨u, r, l⟩ := hl k y v (by rw [hN]; exact eN) eσ' (.inr hk')
        refine ⟨u, r, ?_⟩
        rcases l with ⟨kl, _⟩ | ⟨_, c, ec, z⟩
        · exfalso
          have kl : X.env.scope.names.lookup y = some .local := kl
          rw [kl] at hk'
          rcases hk' with z | z <;> cases z
        · obtain ⟨c', ec'⟩ := hcla _ (lookup_mem hy) rfl
          have ee : c' = c := by
            have := hcl y c' ec'
            rw [ec] at this
            exact (Option.some.inj this).symm
          subst ee
          obtain ⟨o, ho, hd⟩ := z
          exact .inr ⟨fr' y hy, c', ec', ⟨o, hk _ _ ho, hd⟩⟩
  · obtain ⟨v, o, ho, hd⟩ := I.cell y c (hcl y c e)
    exact ⟨v, o, hk _ _ ho, hd⟩
  · show (none :: subS σ ix).length = (x :: ns).length
    rw [List.length_cons, List.length_cons]
    unfold subS
    rw [List.length_map, lenE]
end
theorem wp_of_pure {α β : Type} {M : Model} {A : Around} {a : α} {P : α → Shared → Prop} {E E' : Value → Shared → Prop} {s s' : Shared} {t : Sem β} {Q : β → Shared → Prop} (h : wpAny M A (pure a) P E s) (k : P a s → wpAny M A t Q E' s') : wpAny M A t Q E' s' :=
  fun Γ p hi => k (h Γ p hi) Γ p hi
/-- the tests of a comprehension -/
def PTs (X : Cx) (ifs : List Expr) (t : TT) : Prop :=
  ∀ (pins : List (Addr × Obj)) (s : Shared) (σ : St) (H : Hp) (Q : Bool → Hp → Prop), Inv X pins σ H s → t σ H Q →
    wpAny (model X.prog X.w) X.A (forIn ifs true fun c r => if r = true then do let ok ← isTrue c X.env (eval c X.env); pure (ForInStep.yield ok) else pure (ForInStep.yield r)) (TP X pins σ Q) X.xe s
def tNoIf : TT := fun _ H Q => Q true H
theorem pts_nil {X : Cx} : PTs X [] tNoIf := fun _ _ _ H _ I h => wpAny_tests_nil ⟨H, I, h⟩
theorem pts_one {X : Cx} {c : Expr} {t : TT} (h : PT X c t) : PTs X [c] t := fun pins s σ H Q I q => wpAny_tests_one (h pins s σ H Q I q)
section
variable {X : Cx} {pins : List (Addr × Obj)} {σ : St} {H : Hp} {s : Shared} {cl : List (Str × Addr)} {x : Str} {ns : List Str} {ix : List Nat} {sc scope : Scope} {N : List Str} {fp : List Addr} {elt iter : Expr} {px pos : Pos} {ifs : List Expr} {tc : TT} {te : TE} {wi : TI}
theorem comp_run {E : Value → Shared → Prop} {J : It} {it : Addr} {tn : Nat → Heap → Prop} {Q : VK} {RR : Value → Addr → Result → Shared → Prop} (hsc : X.env.scope = sc) (hN : X.N = N) (C : CompOk sc N x ns ix scope) (hc : X.calm = true)
    (ht : ∀ cl s H ex, PTs (cxComp X x ns scope cl s H ex) ifs tc) (he : ∀ cl s H ex, PE (cxComp X x ns scope cl s H ex) elt te) (I : Inv X pins σ H s) (hcl : ∀ y c, cl.lookup y = some c → X.env.cells.lookup y = some c)
    (hcla : ∀ y ∈ scope.names, y.2 = .free → ∃ c, cl.lookup y.1 = some c) (T : Turn X.prog X.w X.K (.Name x px) J fp it tn) (st : tn 0 s.heap) (f : ∀ b ∈ fp, FpOk X pins H b) (h : CompG J ix tc te σ Q H)
    (fin : ∀ D C m s' H', Inv X pins σ H' s' → s'.heap.Ns C m → FpOk X pins H' C → Q (.ref D) H' → RR (.ref D) C (.ok .next) s') :
    wpAny (model X.prog X.w) X.A (newList []) (fun ja s3 => wpAny (model X.prog X.w) X.A (newFunctionEnv scope X.env.globals cl [] X.env.qual none .none (some X.env)) (fun ce s4 =>
      codeAny (model X.prog X.w) X.A (.compStart (.ListComp elt [⟨.Name x px, iter, ifs, 0⟩] scope pos) 0 (.ref it) ja { ce with scope := relabel scope X.env }) (RR ja ce.locals) s4) E s3) E s := by
  have hC := C
  obtain ⟨c1, c2, c3, c4, c5, c6⟩ := C
  have hfr : H s.heap.objs.size = none := I.hok.fresh (Nat.le_refl _)
  obtain ⟨W, ⟨m0, w0⟩, turn⟩ := h _ hfr
  refine wpAny_newObj_type (wpAny_newFunctionEnv (fun y hy => (c2 y hy).1) (by intro y hy; simp at hy) (fun h1 hn1 hs1 => ?_) c1)
  have I3 := I.lnew (its := []) (ys := []) (t' := s.toks) .nil (Nat.zero_le _)
  have hlt0 : ∀ b ∈ fp, b < s.heap.objs.size := fun b hb => by
    obtain ⟨o, ho, _⟩ := T.obj _ _ st b hb
    exact Heap.lt_size ho
  generalize hs3 : ({ s with heap := s.heap.push { cls := .type "list", data := .seq ([] : List Value).toArray }, toks := s.toks } : Shared) = s3 at I3
  have e3 : s3.heap = s.heap.push { cls := .type "list", data := .seq ([] : List Value).toArray } := by rw [← hs3]
  have sz3 : s3.heap.objs.size = s.heap.objs.size + 1 := by rw [e3, Heap.size_push]
  have f3 : ∀ b ∈ fp, FpOk X pins (upd H s.heap.objs.size (.lst [])) b := fun b hb => ⟨by rw [upd_ne (Nat.ne_of_lt (hlt0 b hb))]; exact (f b hb).1, (f b hb).2⟩
  have hlt : ∀ b ∈ fp, b < s3.heap.objs.size := fun b hb => by rw [sz3]; exact Nat.lt_succ_of_lt (hlt0 b hb)
  have hk : ∀ b o, s3.heap.get? b = some o → h1.get? b = some o := fun b o e => by
    refine (hs1.2 b ?_).trans (Heap.get?_push_of_some _ ?_)
    · have := Heap.lt_size e
      rw [sz3] at this
      show b ≠ (s.heap.push _).objs.size
      rw [Heap.size_push]
      exact Nat.ne_of_lt this
    · rw [e3] at e; exact e
  have hn3 : h1.Ns s3.heap.objs.size (fun y => ([] : List (Str × Value)).reverse.lookup y) := by rw [e3]; exact hn1
  have I4 := inv_comp (t' := s3.toks + ([] : List (Str × Value)).length) I3 hsc hN hC hcl hcla f3 hlt hn3 hk
  have st4 : tn 0 h1 := T.keep _ _ _ st fun b hb o e => hk b o (by rw [e3]; exact Heap.get?_push_of_some _ e)
  have stat : ∀ {H' : Hp}, (∀ b ∈ fp, H' b = none) → ∀ b ∈ fp, FpOk (cxComp X x ns scope cl s3 (upd H s.heap.objs.size (.lst [])) fp) [] H' b := fun {H'} hn => fp_comp I3 f3 hlt hcl hn
  have loop : ∀ s4 : Shared, s4 = { s3 with heap := h1, toks := s3.toks + ([] : List (Str × Value)).length } →
      codeAny (model X.prog X.w) X.A (.compLoop (.ListComp elt [⟨.Name x px, iter, ifs, 0⟩] scope pos) 0 (.ref it) (.ref s.heap.objs.size) (compEnvC scope cl s3.heap.objs.size X.env)) (RR (.ref s.heap.objs.size) s3.heap.objs.size) s4 := by
    rintro s4 rfl
    refine codeAny_compLoop_tests (fun n s' => ∃ i v0 ys H', Inv (cxComp X x ns scope cl s3 (upd H s.heap.objs.size (.lst [])) fp) [] (v0 :: subS σ ix) H' s' ∧ tn i s'.heap ∧ (∀ b ∈ fp, H' b = none) ∧ W i n ys H') ?_ m0 ⟨0, none, [], _, I4, st4, fun b hb => (f3 b hb).1, w0⟩
    rintro n s5 ⟨i, v0, ys, H5, I5, st5, fr5, w5⟩
    rcases turn i n ys H5 w5 with ⟨stop, q⟩ | ⟨go, step⟩
    · refine wpAny_mono (T.done (cxComp X x ns scope cl s3 (upd H s.heap.objs.size (.lst [])) fp) rfl rfl rfl hc i [] s5 _ H5 _ I5 (stat fr5) st5 stop) (fun r s6 hr => ?_) fun _ _ e => e
      obtain ⟨hr, I6⟩ := hr
      subst hr
      obtain ⟨m6, hn6, _⟩ := id I6.loc
      refine fin _ _ m6 s6 H5 (I3.call' I6.os I6.base I6.hok I6.bare fun b hb => ?_) hn6 (I3.fpOk (Nat.le_refl _) I6.free) q
      obtain ⟨g0, g1, g2, g3, g4, g5⟩ := f3 b hb
      exact ⟨g3, g1, g4, g5⟩
    · refine wpAny_mono (T.item (cxComp X x ns scope cl s3 (upd H s.heap.objs.size (.lst [])) fp) rfl rfl rfl hc i [] s5 _ H5 _ I5 (stat fr5) st5 go) (fun r s6 hr => ?_) fun _ _ e => e
      obtain ⟨u, hr, h6⟩ := hr
      subst hr
      refine wp_of_pure (a := ()) h6 fun q6 => ?_
      obtain ⟨xv, H6, I6, r6, y6, st6, fr6⟩ := q6
      have I6' := I6.pinned (stat fr6) (T.obj _ _ st6)
      have again : ∀ {m' : Nat} {ys' : List V} {H7 : Hp} {s7 : Shared}, Inv (cxComp X x ns scope cl s3 (upd H s.heap.objs.size (.lst [])) fp) ([] ++ pinsAt fp s6.heap) (some xv :: subS σ ix) H7 s7 → W (i + 1) m' ys' H7 →
          ∃ i v0 ys H', Inv (cxComp X x ns scope cl s3 (upd H s.heap.objs.size (.lst [])) fp) [] (v0 :: subS σ ix) H' s7 ∧ tn i s7.heap ∧ (∀ b ∈ fp, H' b = none) ∧ W i m' ys H' := fun {m' ys' H7 s7} I7 w7 => by
        refine ⟨i + 1, some xv, ys', H7, I7.unpinned, T.keep _ _ _ st6 fun b hb o e => (I7.pin (b, o) (List.mem_append_right _ (List.mem_append_right _ (mem_pinsAt hb e)))).1, fun b hb => ?_, w7⟩
        obtain ⟨o, e, d⟩ := T.obj _ _ st6 b hb
        exact (I7.pin (b, o) (List.mem_append_right _ (List.mem_append_right _ (mem_pinsAt hb e)))).2.1
      have lx : (relabel scope X.env).names.lookup x = some .local := lookup_relabel_local c3
      refine wpAny_mono (pg_name (X := cxComp X x ns scope cl s3 (upd H s.heap.objs.size (.lst [])) fp) (i := 0) (x := x) (pos := px) c6 rfl (.inl lx) (.inr lx) _ s6 _ H6 xv u (fun σ' H' => σ' = some xv :: subS σ ix ∧ H' = H6) I6' r6 ⟨rfl, rfl⟩) (fun _ s7 h7 => ?_) fun _ _ e => e.elim
      obtain ⟨σ7, H7, I7, rfl, rfl⟩ := h7
      refine wpAny_mono (ht cl s3 _ fp _ s7 _ _ _ I7 (step xv _ y6)) (fun b s8 h8 => ?_) fun _ _ e => e.elim
      obtain ⟨H8, I8, q8⟩ := h8
      cases b with
      | false =>
        rw [if_neg Bool.false_ne_true] at q8 ⊢
        obtain ⟨m', hm, w8⟩ := q8
        exact ⟨m', hm, again I8 w8⟩
      | true =>
        rw [if_pos rfl] at q8 ⊢
        refine wpAny_mono (he cl s3 _ fp _ s8 _ _ _ I8 q8) (fun uy s9 h9 => ?_) fun _ _ e => e.elim
        obtain ⟨y, H9, I9, r9, hacc, hz, m', hm, w9⟩ := h9
        refine wpAny_mono (mt_append (X := cxComp X x ns scope cl s3 (upd H s.heap.objs.size (.lst [])) fp) _ s9 _ H9 (.ref s.heap.objs.size) [y] _ [uy] (fun v H' => H' = upd H9 s.heap.objs.size (.lst (ys ++ [y]))) I9 rfl (.cons r9 .nil) ⟨_, ys, y, rfl, rfl, hacc, hz, rfl⟩) (fun _ s10 h10 => ?_) fun _ _ e => e.elim
        obtain ⟨v, H10, I10, _, rfl⟩ := h10
        exact ⟨m', hm, again I10 w9⟩
  exact codeAny_compStart_list (loop _ rfl) (T.self _ 0 _ _ _ st4 (loop _ rfl))
theorem pe_comp (hsc : X.env.scope = sc) (hN : X.N = N) (C : CompOk sc N x ns ix scope) (hc : X.calm = true) (hi : PI X (.Name x px) iter wi) (ht : ∀ cl s H ex, PTs (cxComp X x ns scope cl s H ex) ifs tc) (he : ∀ cl s H ex, PE (cxComp X x ns scope cl s H ex) elt te)
    (hs : ∀ v, foldedSetIterable iter X.env v = pure v := by intro _; rfl) : PE X (.ListComp elt [⟨.Name x px, iter, ifs, 0⟩] scope pos) (tComp wi ix tc te) := by
  intro pins s σ H Q I h
  obtain ⟨cl, hclos, hcl, hcla⟩ := closure_ok (env := X.env) scope fun y hy hf => I.ok.has y.1 (by
    have := (C.2.1 y hy).2.2 hf
    rw [← hsc] at this
    exact this)
  rw [eval_ListComp]
  refine wpAny_comprehension_free (use := none) rfl hs hclos C.1 (fun y hy => (C.2.1 y hy).2.1) (thn (hi pins s σ H _ I h) fun v s1 h1 => thn h1 fun itv s2 h2 => ?_)
  obtain ⟨it, fp, tn, J, H2, rfl, I2, T, st2, f2, hg⟩ := h2
  refine comp_run (RR := fun ja C => compPost (model X.prog X.w) X.A X.xe none (EP X pins σ Q) ja C) hsc hN C hc ht he I2 hcl hcla T st2 f2 hg ?_
  intro D C' m s' H' I' hn' fC q
  obtain ⟨g0, g1, g2, g3, g4, g5⟩ := fC
  exact ⟨m, hn', fun h' hs' => ⟨.ref D, H', I'.turned (t' := s'.toks) (fun b o hb e => hs'.extBut b o hb e) g0 (Ne.symm (Ne.symm g1)) g3 g4 g5, rfl, q⟩⟩
/-- y = [..] where the name is no cell -/
theorem ps_comp {y : Str} {py spos : Pos} (i : Nat) (hNd : X.N.Nodup) (hsc : X.env.scope = sc) (hN : X.N = N) (C : CompOk sc N x ns ix scope) (hc : X.calm = true) (hi : PI X (.Name x px) iter wi) (ht : ∀ cl s H ex, PTs (cxComp X x ns scope cl s H ex) ifs tc) (he : ∀ cl s H ex, PE (cxComp X x ns scope cl s H ex) elt te)
    (hs : ∀ v, foldedSetIterable iter X.env v = pure v := by intro _; rfl) (hy : X.N[i]? = some y := by rfl) (hl : X.env.scope.names.lookup y = some .local := by rfl)
    (hsw : swapsWith (.ListComp elt [⟨.Name x px, iter, ifs, 0⟩] scope pos) (some (.Name y py)) spos.line X.env = pure true := by rfl) :
    PS X (.Assign [.Name y py] (.ListComp elt [⟨.Name x px, iter, ifs, 0⟩] scope pos) spos) (tAsg (tComp wi ix tc te) (gName i)) := by
  intro pins s σ H D I h
  obtain ⟨cl, hclos, hcl, hcla⟩ := closure_ok (env := X.env) scope fun y hy hf => I.ok.has y.1 (by
    have := (C.2.1 y hy).2.2 hf
    rw [← hsc] at this
    exact this)
  rw [exec_Assign_Name_used _ _ _ _ hsw]
  refine wpAny_bind (wpAny_standAt (wpAny_bind ?_))
  show wpAny _ X.A (do let _ ← comprehension (.ListComp elt [⟨.Name x px, iter, ifs, 0⟩] scope pos) scope X.env _ (newList []) false (eval iter X.env) (some (assign (.Name y py) X.env))) _ _ s
  refine wpAny_bind (wpAny_mono (wpAny_comprehension_free (use := some (assign (.Name y py) X.env)) (Q := fun _ s' => SP X pins D .next s') rfl hs hclos C.1 (fun y hy => (C.2.1 y hy).2.1)
    (thn (hi pins s σ H _ I h) fun v s1 h1 => thn h1 fun itv s2 h2 => ?_)) (fun _ s' hq => wpAny_pure (wpAny_pure hq)) fun _ _ e => e)
  obtain ⟨it, fp, tn, J, H2, rfl, I2, T, st2, f2, hg⟩ := h2
  refine comp_run (RR := fun ja C => compPost (model X.prog X.w) X.A X.xe (some (assign (.Name y py) X.env)) (fun _ s' => SP X pins D .next s') ja C) hsc hN C hc ht he I2 hcl hcla T st2 f2 hg ?_
  intro D' C' m s' H' I' hn' fC q
  obtain ⟨g0, g1, g2, g3, g4, g5⟩ := fC
  refine wpAny_assign_Name (store_ok2 I' hNd hy (.inl hl) (v := .ref D') rfl (fun s'' I'' hs'' => ?_) (.inr hl))
  obtain ⟨a, sb, ha⟩ := hs''
  have hne : C' ≠ a := by
    rcases ha with ha | ha
    · rw [ha]; exact g1
    · intro z; exact g4 y a ha z.symm
  exact ⟨m, hn'.sameBut sb hne, fun h' hs' => ⟨_, H', I''.turned (t' := s''.toks) (fun b o hb e => hs'.extBut b o hb e) g0 g1 g3 g4 g5, q⟩⟩
end
section
variable {wi : TI} {ix : List Nat} {tc : TT} {te : TE} {σ : St} {H : Hp} {Q : VK} {K : PySem.W.Frag}
theorem i_compR1 {ta : TA} (h : ta σ H fun vs H1 => ∃ j : Int, vs = [.int j] ∧ -(2 ^ 62) ≤ j ∧ j < 2 ^ 62 ∧ CompG (Itr 0 j.toNat) ix tc te σ Q H1) : tComp (iRng1 ta) ix tc te σ H Q := h
def CompS (K : PySem.W.Frag) (x : V) (ix : List Nat) (tc : TT) (te : TE) (σ : St) (Q : VK) (H1 : Hp) : Prop :=
  (∃ a xs, x = .ref a ∧ SqL K H1 a xs ∧ CompG (Itl K a) ix tc te σ Q H1) ∨ (∃ a xs, x = .ref a ∧ SqT K H1 a xs ∧ CompG (Itt K a) ix tc te σ Q H1) ∨ (∃ z, x = .str z ∧ CompG (Its z) ix tc te σ Q H1)
theorem i_compS {tl : TE} (h : tl σ H fun x H1 => CompS K x ix tc te σ Q H1) : tComp (iSeq K tl) ix tc te σ H Q := h
theorem i_noif {BQ : Bool → Hp → Prop} (h : BQ true H) : tNoIf σ H BQ := h
/-- J tells the values xs, one by one, as long as what was tracked at H1 stays -/
def Wk (J : It) (xs : List V) (H1 : Hp) : Prop := ∀ H', Same H1 H' → (∀ i, i < xs.length → J.go i H' ∧ ∀ x H2, J.yld i H' x H2 → H2 = H' ∧ xs[i]? = some x) ∧ J.stop xs.length H'
theorem wk_range (lo : Int) (n : Nat) (H : Hp) : Wk (Itr lo n) ((List.range n).map fun i : Nat => V.int (lo + (i : Int))) H := fun H' _ => by
  refine ⟨fun i hi => ?_, ?_⟩
  · rw [List.length_map, List.length_range] at hi
    refine ⟨hi, fun x H2 y => ?_⟩
    obtain ⟨e, y⟩ := y
    refine ⟨e, ?_⟩
    rw [List.getElem?_map, List.getElem?_range hi, y]
    rfl
  · rw [List.length_map, List.length_range]
    exact Nat.le_refl n
theorem wk_list {a : Addr} {xs : List V} (h : SqL K H a xs) : Wk (Itl K a) xs H := fun H' s => by
  have h' := s.seq h
  refine ⟨fun i hi => ⟨⟨xs, xs[i], h', by simp [hi]⟩, fun x H2 y => ?_⟩, ⟨xs, h', Nat.le_refl _⟩⟩
  obtain ⟨e, y⟩ := y
  exact ⟨e, y xs h'⟩
/-- the loop of a block whose turns leave what was tracked as it was: Pv says what the told list is -/
theorem comp_by {J : It} {xs : List V} (Pv : Nat → List V → Prop) (hw : Wk J xs H) (hz : xs.length ≤ 1000000) (h0 : Pv 0 [])
    (hs : ∀ (i : Nat) (x : V) (ys : List V) (acc : Addr) (H' : Hp), xs[i]? = some x → Same H H' → H acc = none → H' acc = some (.lst ys) → Pv i ys → ys.length ≤ i →
      ∀ R : Bool → Hp → Prop, (∀ b H2, Same H' H2 → (b = false → Pv (i + 1) ys) → (b = true → ∀ R2 : V → Hp → Prop, (∀ y H3, Same H2 H3 → Pv (i + 1) (ys ++ [y]) → R2 y H3) → te (some x :: subS σ ix) H2 R2) → R b H2) → tc (some x :: subS σ ix) H' R)
    (hd : ∀ (acc : Addr) (ys : List V) (H' : Hp), H acc = none → Same H H' → H' acc = some (.lst ys) → Pv xs.length ys → Q (.ref acc) H') : CompG J ix tc te σ Q H := by
  intro acc hacc
  have sU : ∀ {H2 : Hp} (o : HO), Same H H2 → Same H (upd H2 acc o) := fun o s b u e => by rw [upd_ne (ne_of_none e hacc)]; exact s b u e
  refine ⟨fun i m ys H' => m = xs.length - i ∧ i ≤ xs.length ∧ Same H H' ∧ H' acc = some (.lst ys) ∧ Pv i ys ∧ ys.length ≤ i, ⟨xs.length, by simp, Nat.zero_le _, same_new hacc _, upd_same, h0, Nat.le_refl _⟩, ?_⟩
  rintro i m ys H' ⟨rfl, hi, sm, ea, pv, hy⟩
  by_cases hlt : i < xs.length
  · obtain ⟨go, yl⟩ := (hw H' sm).1 i hlt
    refine .inr ⟨go, fun x H2 y => ?_⟩
    obtain ⟨rfl, hx⟩ := yl x H2 y
    refine hs i x ys acc _ hx sm hacc ea pv hy _ fun b H3 s3 pf pt => ?_
    cases b with
    | false =>
      rw [if_neg Bool.false_ne_true]
      exact ⟨xs.length - (i + 1), by omega, rfl, hlt, sm.trans s3, s3 _ _ ea, pf rfl, Nat.le_succ_of_le hy⟩
    | true =>
      rw [if_pos rfl]
      refine pt rfl _ fun y H4 s4 py => ⟨s4 _ _ (s3 _ _ ea), smallL (by omega), xs.length - (i + 1), by omega, rfl, hlt, sU _ (sm.trans (s3.trans s4)), upd_same, py, ?_⟩
      rw [List.length_append, List.length_singleton]
      omega
  · have e : i = xs.length := by omega
    subst e
    exact .inl ⟨(hw H' sm).2, hd acc ys H' hacc sm ea pv⟩
end
section
variable {X : Cx} {K : PySem.W.Frag} {a o : Expr} {ta : TE} {pos : Pos}
theorem ix_seqK (hK : X.K = K) : IxR X (rIx K) := by subst hK; exact ix_seq
end
end L2

namespace EM
theorem sub_and (x y : Nat) : x - (x &&& y) = (x &&& y) ^^^ x := by
  have h := or_split (x + 1) (x &&& y) x (by have := Nat.and_le_left (n := x) (m := y); omega)
  have e1 : (x &&& y) ||| x = x := by
    apply Nat.eq_of_testBit_eq; intro i; rw [Nat.testBit_or, Nat.testBit_and]; cases x.testBit i <;> simp
  have e2 : (x &&& y) &&& x = x &&& y := by
    apply Nat.eq_of_testBit_eq; intro i; rw [Nat.testBit_and, Nat.testBit_and]; cases x.testBit i <;> simp
  rw [e1, e2] at h
  omega
theorem testBit_sub_and (x y i : Nat) : (x - (x &&& y)).testBit i = (x.testBit i && !y.testBit i) := by
  rw [sub_and, Nat.testBit_xor, Nat.testBit_and]
  cases x.testBit i <;> cases y.testBit i <;> rfl
end EM

set_option maxRecDepth 100000
set_option maxHeartbeats 4000000
namespace L2
open PySem PySem.Spec PyProof.Rows
section
variable {X : Cx} {K : PySem.W.Frag} {σ : St} {H : Hp} {Q : VK} {a : Expr} {ta : TE} {pos : Pos}
/-- a slice -/
def rSlX : V → Option Int → Option Int → Hp → VK → Prop := fun x lo hi H Q => ∃ z, x = .str z ∧ z.length ≤ sizeLine ∧ Q (.str (Txt.slice z lo hi)) H
theorem sl_str : SlR X rSlX := by
  intro pins s σ H x v vl vu lo hi sl Q I rx hs pl pu h
  obtain ⟨z, rfl, hz, q⟩ := h
  obtain ⟨t, rfl⟩ := rx
  refine ⟨"str", _, F.slot_str_getitem.lookup, typeIs_str _ _ _, ?_⟩
  obtain ⟨o, ho, hc, hd⟩ := hs
  have fin : ∀ (l u : Option (Int × Tok)), vl = partValue l → vu = partValue u → l.map (·.1) = lo → u.map (·.1) = hi → wpAny (model X.prog X.w) X.A (getItem (.str z t) (.ref sl)) (EP X pins σ Q) X.xe s := fun l u e1 e2 e3 e4 => by
    subst e1 e2 e3 e4
    exact wpAny_getItem_str_slice (l := l) (u := u) (st := none) ⟨o, ho, hc, hd⟩ rfl
      (post_val_or_str ⟨Nat.le_trans (Txt.slice_le z _ _) hz, fun t' k => ⟨.str _, H, I.tok k, ⟨t', rfl⟩, q⟩⟩)
  have pv : ∀ {v : Value} {o : Option Int}, IsPart v o → ∃ l : Option (Int × Tok), v = partValue l ∧ l.map (·.1) = o := fun {v o} h => by
    cases h <;> first | exact ⟨none, rfl, rfl⟩ | exact ⟨some (_, _), rfl, rfl⟩
  obtain ⟨l, e1, e3⟩ := pv pl
  obtain ⟨u, e2, e4⟩ := pv pu
  exact fin l u e1 e2 e3 e4
/-- slices of lists, tuples, texts -/
def rSlA (K : PySem.W.Frag) : V → Option Int → Option Int → Hp → VK → Prop := fun x lo hi H Q => rSlG K x lo hi H Q ∨ rSlX x lo hi H Q
theorem sl_any : SlR X (rSlA X.K) := SlR.or sl_seq sl_str
end
end L2

set_option maxRecDepth 100000
set_option maxHeartbeats 4000000
namespace L2
open PySem PySem.Spec PyProof.Rows
mutual
def DV (H : Hp) : PyData → V → Prop
  | .none, v => v = .non
  | .bool b, v => v = .bl b
  | .int i, v => v = .int i
  | .str x, v => v = .str x
  | .list ds, v => ∃ p xs, v = .ref p ∧ H p = some (.lst xs) ∧ DVs H ds xs
  | .tuple ds, v => ∃ p xs, v = .ref p ∧ H p = some (.tup xs) ∧ DVs H ds xs
  | .dict _, _ => False
def DVs (H : Hp) : List PyData → List V → Prop
  | [], xs => xs = []
  | d :: ds, xs => ∃ v r, xs = v :: r ∧ DV H d v ∧ DVs H ds r
end
section
variable {X : Cx} {pins : List (Addr × Obj)} {σ : St} {H : Hp} {s : Shared}
mutual
theorem reads_of (I : Inv X pins σ H s) : ∀ (d : PyData) (v : V) (u : Value), DV H d v → RelV v u → ∃ as, Reads s.heap u d as
  | .none, v, u, h, r => by
    rw [DV] at h; subst h; cases r; exact ⟨_, .none⟩
  | .bool b, v, u, h, r => by
    rw [DV] at h; subst h; cases r; exact ⟨_, .bool b⟩
  | .int i, v, u, h, r => by
    rw [DV] at h; subst h; obtain ⟨t, rfl⟩ := r; exact ⟨_, .int i t⟩
  | .str x, v, u, h, r => by
    rw [DV] at h; subst h; obtain ⟨t, rfl⟩ := r; exact ⟨_, .str x t⟩
  | .list ds, v, u, h, r => by
    rw [DV] at h
    obtain ⟨p, xs, rfl, e, hs⟩ := h
    cases r
    obtain ⟨z, its, n, r', e'⟩ := I.hok p _ e
    obtain ⟨as, ra⟩ := reads_all I ds xs its hs r'
    exact ⟨_, .list e' rfl rfl (by simpa using ra)⟩
  | .tuple ds, v, u, h, r => by
    rw [DV] at h
    obtain ⟨p, xs, rfl, e, hs⟩ := h
    cases r
    obtain ⟨z, its, r', o, e', hc, n, hd⟩ := I.hok p _ e
    obtain ⟨as, ra⟩ := reads_all I ds xs its hs r'
    exact ⟨_, .tuple e' hc hd (by simpa using ra)⟩
  | .dict _, v, u, h, r => by rw [DV] at h; exact h.elim
theorem reads_all (I : Inv X pins σ H s) : ∀ (ds : List PyData) (xs : List V) (us : List Value), DVs H ds xs → Vals xs us → ∃ as, ReadsAll s.heap us ds as
  | [], xs, us, h, r => by
    rw [DVs] at h; subst h; cases r; exact ⟨_, .nil⟩
  | d :: ds, xs, us, h, r => by
    rw [DVs] at h
    obtain ⟨v, r0, rfl, h1, h2⟩ := h
    cases r with
    | cons r1 r2 =>
      obtain ⟨a1, q1⟩ := reads_of I d v _ h1 r1
      obtain ⟨a2, q2⟩ := reads_all I ds r0 _ h2 r2
      exact ⟨_, .cons q1 q2⟩
end
def rEqD : R2 := fun x y H Q => ∃ d1 d2, DV H d1 x ∧ DV H d2 y ∧ d1.canLay0 = true ∧ d2.canLay0 = true ∧ d1.depth ≤ 60 ∧ Q (.bl (PyData.eqv d1 d2)) H
theorem op_eqD (hu : X.A.units + 64 < cLine) : OpR X (compareOp .Eq) rEqD := by
  intro pins s σ H x y v u Q I rx ry h
  obtain ⟨d1, d2, h1, h2, c1, c2, hd, q⟩ := h
  obtain ⟨a1, q1⟩ := reads_of I d1 x v h1 rx
  obtain ⟨a2, q2⟩ := reads_of I d2 y u h2 ry
  exact SeqAt.compareEq_reads q1 q2 c1 c2 (Nat.lt_of_le_of_lt (Nat.add_le_add_left (Nat.le_trans (Nat.min_le_left _ _) hd) _) (by omega)) ⟨.bl _, H, I, rfl, q⟩
def rEqA : R2 := fun x y H Q => rEq x y H Q ∨ rEqD x y H Q
theorem op_eqA (hu : X.A.units + 64 < cLine) : OpR X (compareOp .Eq) rEqA := OpR.or op_eq (op_eqD hu)
/-- != of two lists -/
def rNeD : R2 := fun x y H Q => ∃ d1 d2, DV H (.list d1) x ∧ DV H (.list d2) y ∧ PyData.canLayAll0 d1 = true ∧ PyData.canLayAll0 d2 = true ∧ PyData.depthAll d1 ≤ 60 ∧ Q (.bl (!PyData.eqvAll d1 d2)) H
theorem op_neD (hu : X.A.units + 64 < cLine) : OpR X (compareOp .NotEq) rNeD := by
  intro pins s σ H x y v u Q I rx ry h
  obtain ⟨d1, d2, h1, h2, c1, c2, hd, q⟩ := h
  obtain ⟨a1, q1⟩ := reads_of I (.list d1) x v h1 rx
  obtain ⟨a2, q2⟩ := reads_of I (.list d2) y u h2 ry
  cases q1 with
  | @list b1 o vs n _ as1 g1 g2 g3 g4 =>
    cases q2 with
    | @list b2 o' vs' n' _ as2 k1 k2 k3 k4 =>
      have hl : s.heap.IsList _ vs := ⟨_, g1, g2, _, g3⟩
      have hl' : s.heap.IsList _ vs' := ⟨_, k1, k2, _, k3⟩
      have n1 : vs.size = d1.length := by simpa using SeqAt.ReadsAll.length _ _ _ g4
      have n2 : vs'.size = d2.length := by simpa using SeqAt.ReadsAll.length _ _ _ k4
      have fin : EP X pins σ Q (.bool (!PyData.eqvAll d1 d2)) s := ⟨.bl _, H, I, rfl, q⟩
      by_cases hz : vs.size = vs'.size
      · refine SeqAt.RcNeAt.lists hl hl' hz (by omega) (e := SeqAt.pairEq d1 d2) (fun j j1 j2 => ?_) _ _ _ _ ?_
        · have := SeqAt.eqAt_readsAll d1 d2 X.A.in1 s vs.toList vs'.toList _ _ g4 k4 c1 c2 (by
            have : X.A.in1.units = X.A.units + 1 ∨ X.A.in1.units = X.A.units := by first | exact .inl rfl | exact .inr rfl
            have h3 := Nat.min_le_left (PyData.depthAll d1) (PyData.depthAll d2)
            omega) j (by simpa using j1) (by simpa using j2)
          simpa using this
        · have e := SeqAt.eqvAll_eq d1 d2
          rw [← n1, ← n2, ← hz, Nat.min_self, beq_self_eq_true, Bool.and_true] at e
          rw [e]; exact fin
      · refine SeqAt.RcNeAt.lists_lengths hl hl' (by simpa using hz) (by omega) _ _ _ _ ?_
        have e := SeqAt.eqvAll_eq d1 d2
        have hb : (d1.length == d2.length) = false := by
          rw [← n1, ← n2]; simpa using hz
        rw [hb, Bool.and_false] at e
        rw [← e] at fin
        exact fin
/-- != of two tuples -/
def rNeT : R2 := fun x y H Q => ∃ d1 d2, DV H (.tuple d1) x ∧ DV H (.tuple d2) y ∧ PyData.canLayAll0 d1 = true ∧ PyData.canLayAll0 d2 = true ∧ PyData.depthAll d1 ≤ 60 ∧ Q (.bl (!PyData.eqvAll d1 d2)) H
theorem op_neT (hu : X.A.units + 64 < cLine) : OpR X (compareOp .NotEq) rNeT := by
  intro pins s σ H x y v u Q I rx ry h
  obtain ⟨d1, d2, h1, h2, c1, c2, hd, q⟩ := h
  obtain ⟨a1, q1⟩ := reads_of I (.tuple d1) x v h1 rx
  obtain ⟨a2, q2⟩ := reads_of I (.tuple d2) y u h2 ry
  cases q1 with
  | @tuple b1 o vs n _ as1 g1 g2 g3 g4 =>
    cases q2 with
    | @tuple b2 o' vs' n' _ as2 k1 k2 k3 k4 =>
      have hl : s.heap.IsTuple _ vs := ⟨_, g1, g2, _, g3⟩
      have hl' : s.heap.IsTuple _ vs' := ⟨_, k1, k2, _, k3⟩
      have n1 : vs.size = d1.length := by simpa using SeqAt.ReadsAll.length _ _ _ g4
      have n2 : vs'.size = d2.length := by simpa using SeqAt.ReadsAll.length _ _ _ k4
      refine SeqAt.RcNeAt.tuples hl hl' (by omega) (e := SeqAt.pairEq d1 d2) (fun j j1 j2 => ?_) _ _ _ _ ?_
      · have := SeqAt.eqAt_readsAll d1 d2 X.A.in1 s vs.toList vs'.toList _ _ g4 k4 c1 c2 (by
          have : X.A.in1.units = X.A.units + 1 ∨ X.A.in1.units = X.A.units := by first | exact .inl rfl | exact .inr rfl
          have h3 := Nat.min_le_left (PyData.depthAll d1) (PyData.depthAll d2)
          omega) j (by simpa using j1) (by simpa using j2)
        simpa using this
      · rw [n1, n2, SeqAt.eqvAll_eq d1 d2]
        exact ⟨.bl _, H, I, rfl, q⟩
def rNeA : R2 := fun x y H Q => rNe x y H Q ∨ rNeD x y H Q ∨ rNeT x y H Q
theorem op_neA (hu : X.A.units + 64 < cLine) : OpR X (compareOp .NotEq) rNeA := OpR.or op_ne (OpR.or (op_neD hu) (op_neT hu))
end
theorem eqvAll_ints : ∀ a b : List Int, PyData.eqvAll (a.map .int) (b.map .int) = decide (a = b)
  | [], [] => rfl
  | [], _ :: _ => by simp [PyData.eqvAll]
  | _ :: _, [] => by simp [PyData.eqvAll]
  | x :: a, y :: b => by
    simp only [List.map_cons, PyData.eqvAll, PyData.eqv, eqvAll_ints a b, List.cons.injEq]
    by_cases h : x = y
    · subst h; simp
    · simp [h]
theorem lay_ints : ∀ a : List Int, PyData.canLayAll0 (a.map .int) = true
  | [] => rfl
  | _ :: a => by simp [PyData.canLayAll0, PyData.canLay0, lay_ints a]
theorem dep_ints : ∀ a : List Int, PyData.depthAll (a.map .int) ≤ 60
  | [] => by simp [PyData.depthAll]
  | _ :: a => by
    have := dep_ints a
    simp only [List.map_cons, PyData.depthAll, PyData.depth]; omega
theorem dvs_ints (H : Hp) : ∀ a : List Int, DVs H (a.map .int) (a.map V.int)
  | [] => by rw [List.map_nil, DVs]; rfl
  | x :: a => by
    rw [List.map_cons, DVs]
    exact ⟨.int x, a.map V.int, rfl, by rw [DV], dvs_ints H a⟩
section
variable {K : PySem.W.Frag} {H : Hp} {Q : VK}
theorem i_neLI {l l' : Addr} {a b : List Int} (h : H l = some (.lst (a.map V.int))) (h' : H l' = some (.lst (b.map V.int))) (q : Q (.bl (!decide (a = b))) H) : rNeA (.ref l) (.ref l') H Q := by
  refine .inr (.inl ⟨a.map .int, b.map .int, ?_, ?_, lay_ints a, lay_ints b, dep_ints a, ?_⟩)
  · rw [DV]; exact ⟨l, _, rfl, h, dvs_ints H a⟩
  · rw [DV]; exact ⟨l', _, rfl, h', dvs_ints H b⟩
  · rw [eqvAll_ints]; exact q
theorem i_eqAI {i j : Int} (h : Q (.bl (decide (i = j))) H) : rEqA (.int i) (.int j) H Q := .inl (i_eqI h)
theorem i_eqAB {i j : Bool} (h : Q (.bl (decide (i = j))) H) : rEqA (.bl i) (.bl j) H Q := .inl (i_eqB h)
end
end L2

namespace PySem
open Sem (wp)
set_option maxRecDepth 100000
section
variable {prog : Program} {w : World} {A : Around} {s : Shared} {R : Result → Shared → Prop}
variable {I : Addr} {fp wr : List Addr} {G : Array GenState → Array GenState → Prop} {n : Nat} {P : Nat → Value → Prop} {St : Nat → Shared → Prop}
end
section
variable {prog : Program} {w : World} {A : Around} {E : Value → Shared → Prop} {s : Shared}
variable {I : Addr} {fp wr : List Addr} {G : Array GenState → Array GenState → Prop} {n : Nat} {P : Nat → Value → Prop} {St : Nat → Shared → Prop}
end
end PySem
namespace L2
open PySem PySem.Spec PyProof.Rows
section
variable {X : Cx} {tg : Expr}
def rSum (K : PySem.W.Frag) : List V → Hp → VK → Prop := fun xs H Q => ∃ (p : Addr) (ns : List Int), xs = [.ref p] ∧ SqL K H p (ns.map V.int) ∧ Q (.int ns.sum) H
theorem int_items : ∀ {ns : List Int} {us : List Value}, Vals (ns.map V.int) us → ∃ xs : List (Int × Tok), us = xs.map (fun x => Value.int x.1 x.2) ∧ xs.map (·.1) = ns
  | [], _, r => by
    cases r
    exact ⟨[], rfl, rfl⟩
  | n :: ns, _, r => by
    cases r with
    | cons r rr =>
      obtain ⟨t, rfl⟩ := r
      obtain ⟨xs, rfl, e⟩ := int_items rr
      exact ⟨(n, t) :: xs, rfl, by rw [List.map_cons, e]⟩
theorem call_sumG (hc : X.calm = true) : CallR X (.builtin "sum") (rSum X.K) := by
  intro pins s σ H xs us Q I r h
  obtain ⟨p, ns, rfl, hq, q⟩ := h
  cases r with
  | cons r rr =>
    cases rr
    cases r
    obtain ⟨its, rv, pl, hz⟩ := I.list hq
    obtain ⟨zs, e, en⟩ := int_items rv
    have pl' : s.heap.IsList p (intItems zs.toArray) := by
      have e' : intItems zs.toArray = its.toArray := by rw [e]; simp [intItems]
      rw [e']; exact pl.isList
    refine sum_intListG (I.ok.hd hc) pl' fun h' tk t' k => ⟨.int ns.sum, H, I.kept k, ⟨t', ?_⟩, q⟩
    rw [preSum_eq, List.take_of_length_le (by simp), ← en]
end
section
variable {σ : St} {H : Hp} {Q : VK} {D : Ends} {K : PySem.W.Frag} {g : TG} {tb : TS} {ix : List Nat} {tc : TT} {te : TE}
theorem i_sum {p : Addr} {ns : List Int} (h : SqL K H p (ns.map V.int)) (q : Q (.int ns.sum) H) : rSum K [.ref p] H Q := ⟨p, ns, rfl, h, q⟩
end
end L2

set_option maxRecDepth 100000
namespace PySem
open Sem (wp)
open AutoSeq1 (wpAny_loadPart')
section
variable {prog : Program} {w : World} {A : Around} {E : Value → Shared → Prop} {s : Shared}
end
end PySem
namespace L2
open PySem PySem.Spec PyProof.Rows
section
variable {X : Cx} {pins : List (Addr × Obj)} {σ : List (Option V)} {H : Hp} {s : Shared} {h' : Heap}
end
section
variable {X : Cx}
end
section
variable {σ : St} {H : Hp} {Q : VK} {D : Ends} {K : PySem.W.Frag} {g : TG} {tb : TS}
theorem i_gN2 {T : Addr} {x y : V} {i j : Nat} {R : St → Hp → Prop} (e : H T = some (.tup [x, y])) (h : R ((σ.set i (some x)).set j (some y)) H) : gTup K 2 (gCons (gName i) (gCons (gName j) gNil)) (.ref T) σ H R :=
  ⟨T, [x, y], rfl, SqT.of e, rfl, x, [y], rfl, y, [], rfl, rfl, h⟩
theorem i_chain {r r' : R2} {ta tb tc : TE} (h : ta σ H fun x H1 => tb σ H1 fun y H2 => r x y H2 fun z H3 => ∃ k, z = .bl k ∧ (if k = true then tc σ H3 fun w' H4 => r' y w' H4 Q else Q (.bl false) H3)) : tChain r r' ta tb tc σ H Q := h
end
end L2

set_option maxRecDepth 100000
namespace L2
open PySem PySem.Spec PyProof.Rows
section
variable {X : Cx}
end
section
open PySem.SeqAt
open PySem.AutoSeq1 (wpAny_loadPart')
open PySem.MeetsSeq PySem.MeetsSeq2 PySem.MeetsSeq3
end
def CDivG (i j : Int) : Prop := 0 < j ∧ j ≤ 18446744073709551616
theorem op_fdivG {X : Cx} : OpR X (binaryOp .FloorDiv) (rI CDivG fun i j => .int (i / j)) := opI fun i j _ _ _ _ _ hc q => by
  have h1 : (0 : Int) < j := hc.1
  have h2 : j ≤ 18446744073709551616 := hc.2
  refine floordiv_int (by omega) (by rw [Int.fdiv_eq_ediv_of_nonneg i (by omega)]; exact q) (.inl (PyProof.noPylong_of_log2 ?_))
  have h3 : j.natAbs.log2 < 65 := (Nat.log2_lt (by omega)).mpr (by omega)
  omega
section
variable {σ : St} {H : Hp} {Q : VK} {D : Ends} {K : PySem.W.Frag} {g : TG} {tb : TS}
/-- comp_by where Pv speaks of the heap: it stays as objects that are no lists stay -/
theorem comp_byH {ix : List Nat} {tc : TT} {te : TE} {J : It} {xs : List V} (Pv : Nat → List V → Hp → Prop) (hw : Wk J xs H) (hz : xs.length ≤ 1000000) (h0 : ∀ H', Same H H' → Pv 0 [] H')
    (hm : ∀ i ys H1 H2, Ext H1 H2 → Pv i ys H1 → Pv i ys H2)
    (hs : ∀ (i : Nat) (x : V) (ys : List V) (acc : Addr) (H' : Hp), xs[i]? = some x → Same H H' → H acc = none → H' acc = some (.lst ys) → Pv i ys H' → ys.length ≤ i →
      ∀ R : Bool → Hp → Prop, (∀ b H2, Same H' H2 → (b = false → Pv (i + 1) ys H2) → (b = true → ∀ R2 : V → Hp → Prop, (∀ y H3, Same H2 H3 → Pv (i + 1) (ys ++ [y]) H3 → R2 y H3) → te (some x :: subS σ ix) H2 R2) → R b H2) → tc (some x :: subS σ ix) H' R)
    (hd : ∀ (acc : Addr) (ys : List V) (H' : Hp), H acc = none → Same H H' → H' acc = some (.lst ys) → Pv xs.length ys H' → Q (.ref acc) H') : CompG J ix tc te σ Q H := by
  intro acc hacc
  have sU : ∀ {H2 : Hp} (o : HO), Same H H2 → Same H (upd H2 acc o) := fun o s b u e => by rw [upd_ne (ne_of_none e hacc)]; exact s b u e
  refine ⟨fun i m ys H' => m = xs.length - i ∧ i ≤ xs.length ∧ Same H H' ∧ H' acc = some (.lst ys) ∧ Pv i ys H' ∧ ys.length ≤ i, ⟨xs.length, by simp, Nat.zero_le _, same_new hacc _, upd_same, h0 _ (same_new hacc _), Nat.le_refl _⟩, ?_⟩
  rintro i m ys H' ⟨rfl, hi, sm, ea, pv, hy⟩
  by_cases hlt : i < xs.length
  · obtain ⟨go, yl⟩ := (hw H' sm).1 i hlt
    refine .inr ⟨go, fun x H2 y => ?_⟩
    obtain ⟨rfl, hx⟩ := yl x H2 y
    refine hs i x ys acc _ hx sm hacc ea pv hy _ fun b H3 s3 pf pt => ?_
    cases b with
    | false =>
      rw [if_neg Bool.false_ne_true]
      exact ⟨xs.length - (i + 1), by omega, rfl, hlt, sm.trans s3, s3 _ _ ea, pf rfl, Nat.le_succ_of_le hy⟩
    | true =>
      rw [if_pos rfl]
      refine pt rfl _ fun y H4 s4 py => ⟨s4 _ _ (s3 _ _ ea), smallL (by omega), xs.length - (i + 1), by omega, rfl, hlt, sU _ (sm.trans (s3.trans s4)), upd_same, hm _ _ _ _ (But.ext (l := acc) (s4 _ _ (s3 _ _ ea)) but_upd) py, ?_⟩
      rw [List.length_append, List.length_singleton]
      omega
  · have e : i = xs.length := by omega
    subst e
    exact .inl ⟨(hw H' sm).2, hd acc ys H' hacc sm ea pv⟩
end
end L2

open PySem L2
local macro_rules | `(tactic| walk_at "side") => `(tactic| first | omega | (show (_ : Int) < _; omega) | exact ⟨by omega, by omega⟩ | exact ⟨by omega, by omega, by decide⟩)
local macro_rules | `(tactic| walk_at "rd1") => `(tactic| first
  | (with_reducible first | refine i_seq ?_ | refine i_asg ?_ | refine i_op ?_ | refine i_c ?_ | refine i_cons ?_ | refine i_nil ?_ | refine i_ifs ?_ | refine i_ret ?_ | refine i_fn ?_ | refine i_cb ?_ | refine i_test ?_ | refine i_exb ?_ | refine i_exi ?_ | refine i_truB ?_ | refine i_dy ?_ | refine i_mk ?_ | refine i_fld ?_ | refine i_sfld ?_ | refine i_drop ?_ | refine i_next ?_ | refine i_retN ?_ | refine i_brk ?_ | refine i_cont ?_ | refine i_un ?_ | refine i_and ?_ | refine i_or ?_ | refine i_not ?_ | refine i_andV ?_ | refine i_orV ?_ | refine i_notG ?_ | refine i_if ?_ | refine i_tup ?_ | refine i_lst ?_ | refine i_bm ?_ | refine i_bm0 ?_ | refine i_sl ?_ | refine i_part ?_ | refine i_noPart ?_ | refine i_forR1 ?_ | refine i_forR2 ?_ | refine i_forR3 ?_ | refine i_compR3 ?_ | refine i_listrev ?_ | refine i_forS ?_ | refine i_forE ?_ | refine i_forEX ?_ | refine i_forRep ?_ | refine i_forD ?_ | refine i_compD ?_ | refine i_compS2 ?_ | refine i_dyP ?_ | refine i_listrng ?_ | refine i_frz ?_ | refine i_addF ?_ | refine i_forZ ?_ | refine i_forV ?_ | refine i_bitlen ?_ | refine i_chain ?_ | refine i_truI ?_ | refine i_compR1 ?_ | refine i_compR2 ?_ | refine i_compS ?_ | refine i_noif ?_ | refine i_rI0 ?_ | refine i_addI ?_ | refine i_rU ?_ | refine i_eqAI ?_ | refine i_eqAS ?_ | refine i_eqAB ?_ | refine i_neAI ?_ | refine i_neAS ?_ | refine i_neAB ?_ | refine i_fs ?_ | refine i_gsub ?_ | refine i_jc ?_ | refine i_fmt ?_ | refine i_fmtR ?_ | refine i_eqI ?_ | refine i_eqS ?_ | refine i_eqB ?_ | refine i_neI ?_ | refine i_neS ?_ | refine i_neB ?_ | refine i_intI ?_ | refine i_intB ?_ | refine i_max ?_ | refine i_min ?_)
  | ((with_reducible refine i_name ?_); (try dsimp only [List.set_cons_succ, List.set_cons_zero]))
  | ((with_reducible refine' i_var ?hv ?_); (case hv => exact rfl))
  | ((with_reducible refine i_rI ?hc ?_); (case hc => walk_at "side"))
  | ((with_reducible refine' i_lenS ?hc ?_); (case hc => assumption))
  | ((with_reducible refine' i_lenL ?hc ?_); (case hc => assumption))
  | ((with_reducible refine' i_lenT ?hc ?_); (case hc => assumption))
  | ((with_reducible refine' i_isiT ?ht ?he ?_); (case ht => first | exact TyOf.bl _ | exact TyOf.int _ | exact TyOf.str _ | exact TyOf.non | exact TyOf.lst (by assumption) | exact TyOf.tup (by assumption)); (case he => first | exact kit_self _ _ | exact kit_int_bool _ | exact kit_bool_int _ | exact kit_str_bool _ | exact kit_str_int _ | exact kit_list_int _ | exact kit_list_bool _ | exact kit_none_int _ | exact kit_none_list _ | exact kit_none_str _ | exact kit_none_tuple _ | exact kit_list_tuple _ | exact kit_tuple_list _ | exact kit_str_list _ | exact kit_int_str _ | exact kit_int_list _ | exact kit_bool_str _ | exact kit_bool_list _ | exact kit_int_tuple _ | exact kit_str_tuple _ | exact kit_bool_tuple _ | exact kit_tuple_int _ | exact kit_tuple_bool _ | exact kit_tuple_str _ | exact kit_list_str _ | exact kit_none_bool _)))
local macro_rules | `(tactic| walk_at "rs1") => `(tactic| first
  | (with_reducible first | refine i_asg ?_ | refine i_op ?_ | refine i_c ?_ | refine i_cons ?_ | refine i_nil ?_ | refine i_ifs ?_ | refine i_ret ?_ | refine i_fn ?_ | refine i_cb ?_ | refine i_test ?_ | refine i_exb ?_ | refine i_exi ?_ | refine i_truB ?_ | refine i_dy ?_ | refine i_mk ?_ | refine i_fld ?_ | refine i_sfld ?_ | refine i_drop ?_ | refine i_next ?_ | refine i_retN ?_ | refine i_brk ?_ | refine i_cont ?_ | refine i_un ?_ | refine i_and ?_ | refine i_or ?_ | refine i_not ?_ | refine i_andV ?_ | refine i_orV ?_ | refine i_notG ?_ | refine i_if ?_ | refine i_tup ?_ | refine i_lst ?_ | refine i_bm ?_ | refine i_bm0 ?_ | refine i_sl ?_ | refine i_part ?_ | refine i_noPart ?_ | refine i_forR1 ?_ | refine i_forR2 ?_ | refine i_forR3 ?_ | refine i_compR3 ?_ | refine i_listrev ?_ | refine i_forS ?_ | refine i_forE ?_ | refine i_forEX ?_ | refine i_forRep ?_ | refine i_forD ?_ | refine i_compD ?_ | refine i_compS2 ?_ | refine i_dyP ?_ | refine i_listrng ?_ | refine i_frz ?_ | refine i_addF ?_ | refine i_forZ ?_ | refine i_forV ?_ | refine i_bitlen ?_ | refine i_chain ?_ | refine i_truI ?_ | refine i_compR1 ?_ | refine i_compR2 ?_ | refine i_compS ?_ | refine i_noif ?_ | refine i_rI0 ?_ | refine i_addI ?_ | refine i_rU ?_ | refine i_eqAI ?_ | refine i_eqAS ?_ | refine i_eqAB ?_ | refine i_neAI ?_ | refine i_neAS ?_ | refine i_neAB ?_ | refine i_fs ?_ | refine i_gsub ?_ | refine i_jc ?_ | refine i_fmt ?_ | refine i_fmtR ?_ | refine i_eqI ?_ | refine i_eqS ?_ | refine i_eqB ?_ | refine i_neI ?_ | refine i_neS ?_ | refine i_neB ?_ | refine i_intI ?_ | refine i_intB ?_ | refine i_max ?_ | refine i_min ?_)
  | ((with_reducible refine i_name ?_); (try dsimp only [List.set_cons_succ, List.set_cons_zero]))
  | ((with_reducible refine' i_var ?hv ?_); (case hv => exact rfl))
  | ((with_reducible refine i_rI ?hc ?_); (case hc => walk_at "side"))
  | ((with_reducible refine' i_lenS ?hc ?_); (case hc => assumption))
  | ((with_reducible refine' i_lenL ?hc ?_); (case hc => assumption))
  | ((with_reducible refine' i_lenT ?hc ?_); (case hc => assumption))
  | ((with_reducible refine' i_isiT ?ht ?he ?_); (case ht => first | exact TyOf.bl _ | exact TyOf.int _ | exact TyOf.str _ | exact TyOf.non | exact TyOf.lst (by assumption) | exact TyOf.tup (by assumption)); (case he => first | exact kit_self _ _ | exact kit_int_bool _ | exact kit_bool_int _ | exact kit_str_bool _ | exact kit_str_int _ | exact kit_list_int _ | exact kit_list_bool _ | exact kit_none_int _ | exact kit_none_list _ | exact kit_none_str _ | exact kit_none_tuple _ | exact kit_list_tuple _ | exact kit_tuple_list _ | exact kit_str_list _ | exact kit_int_str _ | exact kit_int_list _ | exact kit_bool_str _ | exact kit_bool_list _ | exact kit_int_tuple _ | exact kit_str_tuple _ | exact kit_bool_tuple _ | exact kit_tuple_int _ | exact kit_tuple_bool _ | exact kit_tuple_str _ | exact kit_list_str _ | exact kit_none_bool _)))
local macro_rules | `(tactic| walk_at "rs") => `(tactic| repeat walk_at "rs1")
local macro_rules | `(tactic| walk_at "hp") => `(tactic| first | assumption | solve_by_elim (maxDepth := 16) only [*, ne_of_none])
local macro_rules | `(tactic| walk_at "rd0") => `(tactic| ((try dsimp only [cxOf]); (try simp only [L2.start, List.map_cons, List.map_nil, List.length_cons, List.length_nil, Nat.reduceAdd, Nat.reduceSub, List.replicate_zero, List.append_nil, List.cons_append, List.nil_append, List.replicate_succ]); (repeat walk_at "rd1")))
local macro_rules | `(tactic| walk_at "rd") => `(tactic| repeat walk_at "rd1")
local macro_rules | `(tactic| walk_at "tst") => `(tactic| repeat first | walk_at "rd1" | refine i_ifT (decide_eq_true (by omega)) ?_ | refine i_ifF (decide_eq_false (by omega)) ?_ | refine i_ifF rfl ?_ | refine i_ifT rfl ?_ | refine ⟨_, rfl, ?_⟩)

set_option maxRecDepth 100000
set_option maxHeartbeats 4000000
open PySem L2

namespace LW
open PySem L2 EM
def top (i : Nat) : Stmt := PySem.Challenge.pw_evernever_k14_a_move.main.body.getD i (.Pass ⟨0, 0, 0, 0⟩)
abbrev s__law_cell_at : Stmt := top 13
abbrev s__law_lit : Stmt := top 14
abbrev s__law_leaf : Stmt := top 15
abbrev s__law_joined : Stmt := top 16
abbrev s__law_pile : Stmt := top 17
abbrev s__law_due : Stmt := top 18
abbrev s__law_holds_at : Stmt := top 19
abbrev s_law : Stmt := top 20
abbrev s_Move_init : Stmt := inClass (top 2) 0
abbrev s_Move_fits : Stmt := inClass (top 2) 1
abbrev s_Move_onward : Stmt := inClass (top 2) 2
abbrev s_Lamp_init : Stmt := inClass (top 5) 0
abbrev s_Lamp_holds : Stmt := inClass (top 5) 1
abbrev s_Sure_init : Stmt := inClass (top 6) 0
abbrev s_Sure_holds : Stmt := inClass (top 6) 1
abbrev s_Not_init : Stmt := inClass (top 7) 0
abbrev s_Not_holds : Stmt := inClass (top 7) 1
abbrev s_Joined_init : Stmt := inClass (top 8) 0
abbrev s_And_holds : Stmt := inClass (top 9) 2
abbrev s_Either_holds : Stmt := inClass (top 10) 2
abbrev s_Or_holds : Stmt := inClass (top 11) 2
theorem sc__law_cell_at : FnScope ["_law_script", "_law_k"] ["_law_script", "_law_k"] (defScope s__law_cell_at) := ⟨rfl, rfl, rfl, by decide +kernel, rfl, by decide +kernel, by decide +kernel⟩
theorem sc__law_lit : FnScope ["_law_lamp", "_law_many"] ["_law_lamp", "_law_many"] (defScope s__law_lit) := ⟨rfl, rfl, rfl, by decide +kernel, rfl, by decide +kernel, by decide +kernel⟩
theorem sc__law_leaf : FnScope ["_law_kind", "_law_more", "_law_many", "_law_every", "_law_lamp"] ["_law_kind", "_law_more", "_law_many"] (defScope s__law_leaf) := ⟨rfl, rfl, rfl, by decide +kernel, rfl, by decide +kernel, by decide +kernel⟩
theorem sc__law_joined : FnScope ["_law_kind", "_law_pairs", "_law_parts", "_law_due_here", "_law_pair"] ["_law_kind", "_law_pairs"] (defScope s__law_joined) := ⟨rfl, rfl, rfl, by decide +kernel, rfl, by decide +kernel, by decide +kernel⟩
theorem sc__law_pile : FnScope ["_law_cells", "_law_many", "_law_pile_here", "_law_cell", "_law_kind", "_law_more", "_law_left", "_law_top"] ["_law_cells", "_law_many"] (defScope s__law_pile) := ⟨rfl, rfl, rfl, by decide +kernel, rfl, by decide +kernel, by decide +kernel⟩
theorem sc__law_due : FnScope ["_law_stand", "_law_changes", "_law_many", "_law_there", "_law_lamp", "_law_lit_here", "_law_change"] ["_law_stand", "_law_changes", "_law_many"] (defScope s__law_due) := ⟨rfl, rfl, rfl, by decide +kernel, rfl, by decide +kernel, by decide +kernel⟩
theorem sc__law_holds_at : FnScope ["_law_move", "_law_stand", "_law_guard", "_law_changes", "_law_many", "_law_fits", "_law_there"] ["_law_move", "_law_stand", "_law_guard", "_law_changes", "_law_many"] (defScope s__law_holds_at) := ⟨rfl, rfl, rfl, by decide +kernel, rfl, by decide +kernel, by decide +kernel⟩
theorem sc_law : FnScope ["_law_script", "_law_first", "_law_many", "_law_count", "_law_step", "_law_pile_here", "_law_changes", "_law_k", "_law_handed", "_law_move", "_law_stand"] ["_law_script"] (defScope s_law) := ⟨rfl, rfl, rfl, by decide +kernel, rfl, by decide +kernel, by decide +kernel⟩
theorem sc_Move_init : FnScope ["self", "guard", "changes"] ["self", "guard", "changes"] (defScope s_Move_init) := ⟨rfl, rfl, rfl, by decide +kernel, rfl, by decide +kernel, by decide +kernel⟩
theorem sc_Move_fits : FnScope ["self", "stand"] ["self", "stand"] (defScope s_Move_fits) := ⟨rfl, rfl, rfl, by decide +kernel, rfl, by decide +kernel, by decide +kernel⟩
theorem sc_Move_onward : FnScope ["self", "stand", "found", "lamp", "formula"] ["self", "stand"] (defScope s_Move_onward) := ⟨rfl, rfl, rfl, by decide +kernel, rfl, by decide +kernel, by decide +kernel⟩
theorem sc_Lamp_init : FnScope ["self", "at"] ["self", "at"] (defScope s_Lamp_init) := ⟨rfl, rfl, rfl, by decide +kernel, rfl, by decide +kernel, by decide +kernel⟩
theorem sc_Lamp_holds : FnScope ["self", "stand"] ["self", "stand"] (defScope s_Lamp_holds) := ⟨rfl, rfl, rfl, by decide +kernel, rfl, by decide +kernel, by decide +kernel⟩
theorem sc_Sure_init : FnScope ["self", "truth"] ["self", "truth"] (defScope s_Sure_init) := ⟨rfl, rfl, rfl, by decide +kernel, rfl, by decide +kernel, by decide +kernel⟩
theorem sc_Sure_holds : FnScope ["self", "stand"] ["self", "stand"] (defScope s_Sure_holds) := ⟨rfl, rfl, rfl, by decide +kernel, rfl, by decide +kernel, by decide +kernel⟩
theorem sc_Not_init : FnScope ["self", "part"] ["self", "part"] (defScope s_Not_init) := ⟨rfl, rfl, rfl, by decide +kernel, rfl, by decide +kernel, by decide +kernel⟩
theorem sc_Not_holds : FnScope ["self", "stand"] ["self", "stand"] (defScope s_Not_holds) := ⟨rfl, rfl, rfl, by decide +kernel, rfl, by decide +kernel, by decide +kernel⟩
theorem sc_Joined_init : FnScope ["self", "parts"] ["self", "parts"] (defScope s_Joined_init) := ⟨rfl, rfl, rfl, by decide +kernel, rfl, by decide +kernel, by decide +kernel⟩
theorem sc_And_holds : FnScope ["self", "stand", "part"] ["self", "stand"] (defScope s_And_holds) := ⟨rfl, rfl, rfl, by decide +kernel, rfl, by decide +kernel, by decide +kernel⟩
theorem sc_Either_holds : FnScope ["self", "stand", "odd", "part"] ["self", "stand"] (defScope s_Either_holds) := ⟨rfl, rfl, rfl, by decide +kernel, rfl, by decide +kernel, by decide +kernel⟩
theorem sc_Or_holds : FnScope ["self", "stand", "part"] ["self", "stand"] (defScope s_Or_holds) := ⟨rfl, rfl, rfl, by decide +kernel, rfl, by decide +kernel, by decide +kernel⟩
/-- the addresses of what the top has made -/
structure Ad where
  f__law_cell_at : Addr
  d__law_cell_at : FuncData
  f__law_lit : Addr
  d__law_lit : FuncData
  f__law_leaf : Addr
  d__law_leaf : FuncData
  f__law_joined : Addr
  d__law_joined : FuncData
  f__law_pile : Addr
  d__law_pile : FuncData
  f__law_due : Addr
  d__law_due : FuncData
  f__law_holds_at : Addr
  d__law_holds_at : FuncData
  f_law : Addr
  d_law : FuncData
  f_Move_init : Addr
  d_Move_init : FuncData
  f_Move_fits : Addr
  d_Move_fits : FuncData
  f_Move_onward : Addr
  d_Move_onward : FuncData
  f_Lamp_init : Addr
  d_Lamp_init : FuncData
  f_Lamp_holds : Addr
  d_Lamp_holds : FuncData
  f_Sure_init : Addr
  d_Sure_init : FuncData
  f_Sure_holds : Addr
  d_Sure_holds : FuncData
  f_Not_init : Addr
  d_Not_init : FuncData
  f_Not_holds : Addr
  d_Not_holds : FuncData
  f_Joined_init : Addr
  d_Joined_init : FuncData
  f_And_holds : Addr
  d_And_holds : FuncData
  f_Either_holds : Addr
  d_Either_holds : FuncData
  f_Or_holds : Addr
  d_Or_holds : FuncData
  C_Move : Addr
  C_Formula : Addr
  C_Lamp : Addr
  C_Sure : Addr
  C_Not : Addr
  C_Joined : Addr
  C_And : Addr
  C_Either : Addr
  C_Or : Addr
/-- what the top has written -/
structure Txt (K : PySem.W.Frag) (mg : Str → Option Value) (t : Ad) : Prop where
  F__law_cell_at : Fun K "_law_cell_at" "_law_cell_at" s__law_cell_at t.f__law_cell_at t.d__law_cell_at
  b__law_cell_at : Binds K t.d__law_cell_at ["_law_script", "_law_k"] []
  m__law_cell_at : mg "_law_cell_at" = some (.ref t.f__law_cell_at)
  F__law_lit : Fun K "_law_lit" "_law_lit" s__law_lit t.f__law_lit t.d__law_lit
  b__law_lit : Binds K t.d__law_lit ["_law_lamp", "_law_many"] []
  m__law_lit : mg "_law_lit" = some (.ref t.f__law_lit)
  F__law_leaf : Fun K "_law_leaf" "_law_leaf" s__law_leaf t.f__law_leaf t.d__law_leaf
  b__law_leaf : Binds K t.d__law_leaf ["_law_kind", "_law_more", "_law_many"] []
  m__law_leaf : mg "_law_leaf" = some (.ref t.f__law_leaf)
  F__law_joined : Fun K "_law_joined" "_law_joined" s__law_joined t.f__law_joined t.d__law_joined
  b__law_joined : Binds K t.d__law_joined ["_law_kind", "_law_pairs"] []
  m__law_joined : mg "_law_joined" = some (.ref t.f__law_joined)
  F__law_pile : Fun K "_law_pile" "_law_pile" s__law_pile t.f__law_pile t.d__law_pile
  b__law_pile : Binds K t.d__law_pile ["_law_cells", "_law_many"] []
  m__law_pile : mg "_law_pile" = some (.ref t.f__law_pile)
  F__law_due : Fun K "_law_due" "_law_due" s__law_due t.f__law_due t.d__law_due
  b__law_due : Binds K t.d__law_due ["_law_stand", "_law_changes", "_law_many"] []
  m__law_due : mg "_law_due" = some (.ref t.f__law_due)
  F__law_holds_at : Fun K "_law_holds_at" "_law_holds_at" s__law_holds_at t.f__law_holds_at t.d__law_holds_at
  b__law_holds_at : Binds K t.d__law_holds_at ["_law_move", "_law_stand", "_law_guard", "_law_changes", "_law_many"] []
  m__law_holds_at : mg "_law_holds_at" = some (.ref t.f__law_holds_at)
  F_law : Fun K "law" "law" s_law t.f_law t.d_law
  b_law : Binds K t.d_law ["_law_script"] []
  m_law : mg "law" = some (.ref t.f_law)
  F_Move_init : Fun K "__init__" "Move.__init__" s_Move_init t.f_Move_init t.d_Move_init
  b_Move_init : Binds K t.d_Move_init ["self", "guard", "changes"] []
  F_Move_fits : Fun K "fits" "Move.fits" s_Move_fits t.f_Move_fits t.d_Move_fits
  b_Move_fits : Binds K t.d_Move_fits ["self", "stand"] []
  F_Move_onward : Fun K "onward" "Move.onward" s_Move_onward t.f_Move_onward t.d_Move_onward
  b_Move_onward : Binds K t.d_Move_onward ["self", "stand"] []
  F_Lamp_init : Fun K "__init__" "Lamp.__init__" s_Lamp_init t.f_Lamp_init t.d_Lamp_init
  b_Lamp_init : Binds K t.d_Lamp_init ["self", "at"] []
  F_Lamp_holds : Fun K "holds" "Lamp.holds" s_Lamp_holds t.f_Lamp_holds t.d_Lamp_holds
  b_Lamp_holds : Binds K t.d_Lamp_holds ["self", "stand"] []
  F_Sure_init : Fun K "__init__" "Sure.__init__" s_Sure_init t.f_Sure_init t.d_Sure_init
  b_Sure_init : Binds K t.d_Sure_init ["self", "truth"] []
  F_Sure_holds : Fun K "holds" "Sure.holds" s_Sure_holds t.f_Sure_holds t.d_Sure_holds
  b_Sure_holds : Binds K t.d_Sure_holds ["self", "stand"] []
  F_Not_init : Fun K "__init__" "Not.__init__" s_Not_init t.f_Not_init t.d_Not_init
  b_Not_init : Binds K t.d_Not_init ["self", "part"] []
  F_Not_holds : Fun K "holds" "Not.holds" s_Not_holds t.f_Not_holds t.d_Not_holds
  b_Not_holds : Binds K t.d_Not_holds ["self", "stand"] []
  F_Joined_init : Fun K "__init__" "Joined.__init__" s_Joined_init t.f_Joined_init t.d_Joined_init
  b_Joined_init : Binds K t.d_Joined_init ["self", "parts"] []
  F_And_holds : Fun K "holds" "And.holds" s_And_holds t.f_And_holds t.d_And_holds
  b_And_holds : Binds K t.d_And_holds ["self", "stand"] []
  F_Either_holds : Fun K "holds" "Either.holds" s_Either_holds t.f_Either_holds t.d_Either_holds
  b_Either_holds : Binds K t.d_Either_holds ["self", "stand"] []
  F_Or_holds : Fun K "holds" "Or.holds" s_Or_holds t.f_Or_holds t.d_Or_holds
  b_Or_holds : Binds K t.d_Or_holds ["self", "stand"] []
  m_Move : mg "Move" = some (.ref t.C_Move)
  c_Move : Cls K t.C_Move
  y_Move : ∀ (H : Hp) (a dx : Addr) (fs : List (Str × V)), H a = some (.ins t.C_Move dx fs) → TyOf K H (.ref a) (.ref t.C_Move)
  k_Move : Mk K t.C_Move t.f_Move_init
  n_Move_guard : NoAttr K t.C_Move "guard"
  n_Move_changes : NoAttr K t.C_Move "changes"
  n_Move_at : NoAttr K t.C_Move "at"
  n_Move_truth : NoAttr K t.C_Move "truth"
  n_Move_part : NoAttr K t.C_Move "part"
  n_Move_parts : NoAttr K t.C_Move "parts"
  h_Move_fits : Meth K t.C_Move "fits" t.f_Move_fits
  h_Move_onward : Meth K t.C_Move "onward" t.f_Move_onward
  m_Formula : mg "Formula" = some (.ref t.C_Formula)
  c_Formula : Cls K t.C_Formula
  y_Formula : ∀ (H : Hp) (a dx : Addr) (fs : List (Str × V)), H a = some (.ins t.C_Formula dx fs) → TyOf K H (.ref a) (.ref t.C_Formula)
  n_Formula_guard : NoAttr K t.C_Formula "guard"
  n_Formula_changes : NoAttr K t.C_Formula "changes"
  n_Formula_at : NoAttr K t.C_Formula "at"
  n_Formula_truth : NoAttr K t.C_Formula "truth"
  n_Formula_part : NoAttr K t.C_Formula "part"
  n_Formula_parts : NoAttr K t.C_Formula "parts"
  m_Lamp : mg "Lamp" = some (.ref t.C_Lamp)
  c_Lamp : Cls K t.C_Lamp
  y_Lamp : ∀ (H : Hp) (a dx : Addr) (fs : List (Str × V)), H a = some (.ins t.C_Lamp dx fs) → TyOf K H (.ref a) (.ref t.C_Lamp)
  k_Lamp : Mk K t.C_Lamp t.f_Lamp_init
  n_Lamp_guard : NoAttr K t.C_Lamp "guard"
  n_Lamp_changes : NoAttr K t.C_Lamp "changes"
  n_Lamp_at : NoAttr K t.C_Lamp "at"
  n_Lamp_truth : NoAttr K t.C_Lamp "truth"
  n_Lamp_part : NoAttr K t.C_Lamp "part"
  n_Lamp_parts : NoAttr K t.C_Lamp "parts"
  h_Lamp_holds : Meth K t.C_Lamp "holds" t.f_Lamp_holds
  m_Sure : mg "Sure" = some (.ref t.C_Sure)
  c_Sure : Cls K t.C_Sure
  y_Sure : ∀ (H : Hp) (a dx : Addr) (fs : List (Str × V)), H a = some (.ins t.C_Sure dx fs) → TyOf K H (.ref a) (.ref t.C_Sure)
  k_Sure : Mk K t.C_Sure t.f_Sure_init
  n_Sure_guard : NoAttr K t.C_Sure "guard"
  n_Sure_changes : NoAttr K t.C_Sure "changes"
  n_Sure_at : NoAttr K t.C_Sure "at"
  n_Sure_truth : NoAttr K t.C_Sure "truth"
  n_Sure_part : NoAttr K t.C_Sure "part"
  n_Sure_parts : NoAttr K t.C_Sure "parts"
  h_Sure_holds : Meth K t.C_Sure "holds" t.f_Sure_holds
  m_Not : mg "Not" = some (.ref t.C_Not)
  c_Not : Cls K t.C_Not
  y_Not : ∀ (H : Hp) (a dx : Addr) (fs : List (Str × V)), H a = some (.ins t.C_Not dx fs) → TyOf K H (.ref a) (.ref t.C_Not)
  k_Not : Mk K t.C_Not t.f_Not_init
  n_Not_guard : NoAttr K t.C_Not "guard"
  n_Not_changes : NoAttr K t.C_Not "changes"
  n_Not_at : NoAttr K t.C_Not "at"
  n_Not_truth : NoAttr K t.C_Not "truth"
  n_Not_part : NoAttr K t.C_Not "part"
  n_Not_parts : NoAttr K t.C_Not "parts"
  h_Not_holds : Meth K t.C_Not "holds" t.f_Not_holds
  m_Joined : mg "Joined" = some (.ref t.C_Joined)
  c_Joined : Cls K t.C_Joined
  y_Joined : ∀ (H : Hp) (a dx : Addr) (fs : List (Str × V)), H a = some (.ins t.C_Joined dx fs) → TyOf K H (.ref a) (.ref t.C_Joined)
  k_Joined : Mk K t.C_Joined t.f_Joined_init
  n_Joined_guard : NoAttr K t.C_Joined "guard"
  n_Joined_changes : NoAttr K t.C_Joined "changes"
  n_Joined_at : NoAttr K t.C_Joined "at"
  n_Joined_truth : NoAttr K t.C_Joined "truth"
  n_Joined_part : NoAttr K t.C_Joined "part"
  n_Joined_parts : NoAttr K t.C_Joined "parts"
  m_And : mg "And" = some (.ref t.C_And)
  c_And : Cls K t.C_And
  y_And : ∀ (H : Hp) (a dx : Addr) (fs : List (Str × V)), H a = some (.ins t.C_And dx fs) → TyOf K H (.ref a) (.ref t.C_And)
  k_And : Mk K t.C_And t.f_Joined_init
  n_And_guard : NoAttr K t.C_And "guard"
  n_And_changes : NoAttr K t.C_And "changes"
  n_And_at : NoAttr K t.C_And "at"
  n_And_truth : NoAttr K t.C_And "truth"
  n_And_part : NoAttr K t.C_And "part"
  n_And_parts : NoAttr K t.C_And "parts"
  h_And_holds : Meth K t.C_And "holds" t.f_And_holds
  m_Either : mg "Either" = some (.ref t.C_Either)
  c_Either : Cls K t.C_Either
  y_Either : ∀ (H : Hp) (a dx : Addr) (fs : List (Str × V)), H a = some (.ins t.C_Either dx fs) → TyOf K H (.ref a) (.ref t.C_Either)
  k_Either : Mk K t.C_Either t.f_Joined_init
  n_Either_guard : NoAttr K t.C_Either "guard"
  n_Either_changes : NoAttr K t.C_Either "changes"
  n_Either_at : NoAttr K t.C_Either "at"
  n_Either_truth : NoAttr K t.C_Either "truth"
  n_Either_part : NoAttr K t.C_Either "part"
  n_Either_parts : NoAttr K t.C_Either "parts"
  h_Either_holds : Meth K t.C_Either "holds" t.f_Either_holds
  m_Or : mg "Or" = some (.ref t.C_Or)
  c_Or : Cls K t.C_Or
  y_Or : ∀ (H : Hp) (a dx : Addr) (fs : List (Str × V)), H a = some (.ins t.C_Or dx fs) → TyOf K H (.ref a) (.ref t.C_Or)
  k_Or : Mk K t.C_Or t.f_Joined_init
  n_Or_guard : NoAttr K t.C_Or "guard"
  n_Or_changes : NoAttr K t.C_Or "changes"
  n_Or_at : NoAttr K t.C_Or "at"
  n_Or_truth : NoAttr K t.C_Or "truth"
  n_Or_part : NoAttr K t.C_Or "part"
  n_Or_parts : NoAttr K t.C_Or "parts"
  h_Or_holds : Meth K t.C_Or "holds" t.f_Or_holds
  x_Move_Formula : t.C_Move ≠ t.C_Formula
  x_Move_Lamp : t.C_Move ≠ t.C_Lamp
  x_Move_Sure : t.C_Move ≠ t.C_Sure
  x_Move_Not : t.C_Move ≠ t.C_Not
  x_Move_Joined : t.C_Move ≠ t.C_Joined
  x_Move_And : t.C_Move ≠ t.C_And
  x_Move_Either : t.C_Move ≠ t.C_Either
  x_Move_Or : t.C_Move ≠ t.C_Or
  x_Formula_Lamp : t.C_Formula ≠ t.C_Lamp
  x_Formula_Sure : t.C_Formula ≠ t.C_Sure
  x_Formula_Not : t.C_Formula ≠ t.C_Not
  x_Formula_Joined : t.C_Formula ≠ t.C_Joined
  x_Formula_And : t.C_Formula ≠ t.C_And
  x_Formula_Either : t.C_Formula ≠ t.C_Either
  x_Formula_Or : t.C_Formula ≠ t.C_Or
  x_Lamp_Sure : t.C_Lamp ≠ t.C_Sure
  x_Lamp_Not : t.C_Lamp ≠ t.C_Not
  x_Lamp_Joined : t.C_Lamp ≠ t.C_Joined
  x_Lamp_And : t.C_Lamp ≠ t.C_And
  x_Lamp_Either : t.C_Lamp ≠ t.C_Either
  x_Lamp_Or : t.C_Lamp ≠ t.C_Or
  x_Sure_Not : t.C_Sure ≠ t.C_Not
  x_Sure_Joined : t.C_Sure ≠ t.C_Joined
  x_Sure_And : t.C_Sure ≠ t.C_And
  x_Sure_Either : t.C_Sure ≠ t.C_Either
  x_Sure_Or : t.C_Sure ≠ t.C_Or
  x_Not_Joined : t.C_Not ≠ t.C_Joined
  x_Not_And : t.C_Not ≠ t.C_And
  x_Not_Either : t.C_Not ≠ t.C_Either
  x_Not_Or : t.C_Not ≠ t.C_Or
  x_Joined_And : t.C_Joined ≠ t.C_And
  x_Joined_Either : t.C_Joined ≠ t.C_Either
  x_Joined_Or : t.C_Joined ≠ t.C_Or
  x_And_Either : t.C_And ≠ t.C_Either
  x_And_Or : t.C_And ≠ t.C_Or
  x_Either_Or : t.C_Either ≠ t.C_Or
  bl : ∀ (s : Shared) (u : Value), BindsTo s t.d_law ⟨[u], []⟩ [("_law_script", u)]
  B : Bt mg
theorem txt_mk {K : PySem.W.Frag} {h : Heap} {mg : Str → Option Value} (X : K.In h) (G : h.Ns mainGlobals mg)
    {f__law_cell_at : Addr} {od__law_cell_at an__law_cell_at : Option Addr} {sl__law_cell_at : Array (Option Value)} {oc__law_cell_at kV__law_cell_at dc__law_cell_at pm__law_cell_at cd__law_cell_at ct__law_cell_at : Value}
    {f__law_lit : Addr} {od__law_lit an__law_lit : Option Addr} {sl__law_lit : Array (Option Value)} {oc__law_lit kV__law_lit dc__law_lit pm__law_lit cd__law_lit ct__law_lit : Value}
    {f__law_leaf : Addr} {od__law_leaf an__law_leaf : Option Addr} {sl__law_leaf : Array (Option Value)} {oc__law_leaf kV__law_leaf dc__law_leaf pm__law_leaf cd__law_leaf ct__law_leaf : Value}
    {f__law_joined : Addr} {od__law_joined an__law_joined : Option Addr} {sl__law_joined : Array (Option Value)} {oc__law_joined kV__law_joined dc__law_joined pm__law_joined cd__law_joined ct__law_joined : Value}
    {f__law_pile : Addr} {od__law_pile an__law_pile : Option Addr} {sl__law_pile : Array (Option Value)} {oc__law_pile kV__law_pile dc__law_pile pm__law_pile cd__law_pile ct__law_pile : Value}
    {f__law_due : Addr} {od__law_due an__law_due : Option Addr} {sl__law_due : Array (Option Value)} {oc__law_due kV__law_due dc__law_due pm__law_due cd__law_due ct__law_due : Value}
    {f__law_holds_at : Addr} {od__law_holds_at an__law_holds_at : Option Addr} {sl__law_holds_at : Array (Option Value)} {oc__law_holds_at kV__law_holds_at dc__law_holds_at pm__law_holds_at cd__law_holds_at ct__law_holds_at : Value}
    {f_law : Addr} {od_law an_law : Option Addr} {sl_law : Array (Option Value)} {oc_law kV_law dc_law pm_law cd_law ct_law : Value}
    {f_Move_init : Addr} {od_Move_init an_Move_init : Option Addr} {sl_Move_init : Array (Option Value)} {oc_Move_init kV_Move_init dc_Move_init pm_Move_init cd_Move_init ct_Move_init : Value}
    {f_Move_fits : Addr} {od_Move_fits an_Move_fits : Option Addr} {sl_Move_fits : Array (Option Value)} {oc_Move_fits kV_Move_fits dc_Move_fits pm_Move_fits cd_Move_fits ct_Move_fits : Value}
    {f_Move_onward : Addr} {od_Move_onward an_Move_onward : Option Addr} {sl_Move_onward : Array (Option Value)} {oc_Move_onward kV_Move_onward dc_Move_onward pm_Move_onward cd_Move_onward ct_Move_onward : Value}
    {f_Lamp_init : Addr} {od_Lamp_init an_Lamp_init : Option Addr} {sl_Lamp_init : Array (Option Value)} {oc_Lamp_init kV_Lamp_init dc_Lamp_init pm_Lamp_init cd_Lamp_init ct_Lamp_init : Value}
    {f_Lamp_holds : Addr} {od_Lamp_holds an_Lamp_holds : Option Addr} {sl_Lamp_holds : Array (Option Value)} {oc_Lamp_holds kV_Lamp_holds dc_Lamp_holds pm_Lamp_holds cd_Lamp_holds ct_Lamp_holds : Value}
    {f_Sure_init : Addr} {od_Sure_init an_Sure_init : Option Addr} {sl_Sure_init : Array (Option Value)} {oc_Sure_init kV_Sure_init dc_Sure_init pm_Sure_init cd_Sure_init ct_Sure_init : Value}
    {f_Sure_holds : Addr} {od_Sure_holds an_Sure_holds : Option Addr} {sl_Sure_holds : Array (Option Value)} {oc_Sure_holds kV_Sure_holds dc_Sure_holds pm_Sure_holds cd_Sure_holds ct_Sure_holds : Value}
    {f_Not_init : Addr} {od_Not_init an_Not_init : Option Addr} {sl_Not_init : Array (Option Value)} {oc_Not_init kV_Not_init dc_Not_init pm_Not_init cd_Not_init ct_Not_init : Value}
    {f_Not_holds : Addr} {od_Not_holds an_Not_holds : Option Addr} {sl_Not_holds : Array (Option Value)} {oc_Not_holds kV_Not_holds dc_Not_holds pm_Not_holds cd_Not_holds ct_Not_holds : Value}
    {f_Joined_init : Addr} {od_Joined_init an_Joined_init : Option Addr} {sl_Joined_init : Array (Option Value)} {oc_Joined_init kV_Joined_init dc_Joined_init pm_Joined_init cd_Joined_init ct_Joined_init : Value}
    {f_And_holds : Addr} {od_And_holds an_And_holds : Option Addr} {sl_And_holds : Array (Option Value)} {oc_And_holds kV_And_holds dc_And_holds pm_And_holds cd_And_holds ct_And_holds : Value}
    {f_Either_holds : Addr} {od_Either_holds an_Either_holds : Option Addr} {sl_Either_holds : Array (Option Value)} {oc_Either_holds kV_Either_holds dc_Either_holds pm_Either_holds cd_Either_holds ct_Either_holds : Value}
    {f_Or_holds : Addr} {od_Or_holds an_Or_holds : Option Addr} {sl_Or_holds : Array (Option Value)} {oc_Or_holds kV_Or_holds dc_Or_holds pm_Or_holds cd_Or_holds ct_Or_holds : Value}
    {C_Move : Addr}
    {C_Formula : Addr}
    {C_Lamp : Addr}
    {C_Sure : Addr}
    {C_Not : Addr}
    {C_Joined : Addr}
    {C_And : Addr}
    {C_Either : Addr}
    {C_Or : Addr}
    (a__law_cell_at : PySem.W.nsIn K mainGlobals "_law_cell_at" = some (some (.ref f__law_cell_at)))
    (a__law_lit : PySem.W.nsIn K mainGlobals "_law_lit" = some (some (.ref f__law_lit)))
    (a__law_leaf : PySem.W.nsIn K mainGlobals "_law_leaf" = some (some (.ref f__law_leaf)))
    (a__law_joined : PySem.W.nsIn K mainGlobals "_law_joined" = some (some (.ref f__law_joined)))
    (a__law_pile : PySem.W.nsIn K mainGlobals "_law_pile" = some (some (.ref f__law_pile)))
    (a__law_due : PySem.W.nsIn K mainGlobals "_law_due" = some (some (.ref f__law_due)))
    (a__law_holds_at : PySem.W.nsIn K mainGlobals "_law_holds_at" = some (some (.ref f__law_holds_at)))
    (a_law : PySem.W.nsIn K mainGlobals "law" = some (some (.ref f_law)))
    (a_Move : PySem.W.nsIn K mainGlobals "Move" = some (some (.ref C_Move)))
    (a_Formula : PySem.W.nsIn K mainGlobals "Formula" = some (some (.ref C_Formula)))
    (a_Lamp : PySem.W.nsIn K mainGlobals "Lamp" = some (some (.ref C_Lamp)))
    (a_Sure : PySem.W.nsIn K mainGlobals "Sure" = some (some (.ref C_Sure)))
    (a_Not : PySem.W.nsIn K mainGlobals "Not" = some (some (.ref C_Not)))
    (a_Joined : PySem.W.nsIn K mainGlobals "Joined" = some (some (.ref C_Joined)))
    (a_And : PySem.W.nsIn K mainGlobals "And" = some (some (.ref C_And)))
    (a_Either : PySem.W.nsIn K mainGlobals "Either" = some (some (.ref C_Either)))
    (a_Or : PySem.W.nsIn K mainGlobals "Or" = some (some (.ref C_Or)))
    (e_Move_init : PySem.W.findIn K (.ref C_Move) "__init__" = some (some (.ref f_Move_init)))
    (e_Move_fits : PySem.W.findIn K (.ref C_Move) "fits" = some (some (.ref f_Move_fits)))
    (e_Move_onward : PySem.W.findIn K (.ref C_Move) "onward" = some (some (.ref f_Move_onward)))
    (e_Lamp_init : PySem.W.findIn K (.ref C_Lamp) "__init__" = some (some (.ref f_Lamp_init)))
    (e_Lamp_holds : PySem.W.findIn K (.ref C_Lamp) "holds" = some (some (.ref f_Lamp_holds)))
    (e_Sure_init : PySem.W.findIn K (.ref C_Sure) "__init__" = some (some (.ref f_Sure_init)))
    (e_Sure_holds : PySem.W.findIn K (.ref C_Sure) "holds" = some (some (.ref f_Sure_holds)))
    (e_Not_init : PySem.W.findIn K (.ref C_Not) "__init__" = some (some (.ref f_Not_init)))
    (e_Not_holds : PySem.W.findIn K (.ref C_Not) "holds" = some (some (.ref f_Not_holds)))
    (e_Joined_init : PySem.W.findIn K (.ref C_Joined) "__init__" = some (some (.ref f_Joined_init)))
    (e_And_holds : PySem.W.findIn K (.ref C_And) "holds" = some (some (.ref f_And_holds)))
    (e_And_init : PySem.W.findIn K (.ref C_And) "__init__" = some (some (.ref f_Joined_init)))
    (e_Either_holds : PySem.W.findIn K (.ref C_Either) "holds" = some (some (.ref f_Either_holds)))
    (e_Either_init : PySem.W.findIn K (.ref C_Either) "__init__" = some (some (.ref f_Joined_init)))
    (e_Or_holds : PySem.W.findIn K (.ref C_Or) "holds" = some (some (.ref f_Or_holds)))
    (e_Or_init : PySem.W.findIn K (.ref C_Or) "__init__" = some (some (.ref f_Joined_init)))
    (l__law_cell_at : K.lookup f__law_cell_at = some ⟨oc__law_cell_at, od__law_cell_at, .func (PySem.W.fnOf "_law_cell_at" "_law_cell_at" (defArgs s__law_cell_at) (defBody s__law_cell_at) (defScope s__law_cell_at) .none kV__law_cell_at dc__law_cell_at pm__law_cell_at an__law_cell_at cd__law_cell_at ct__law_cell_at), sl__law_cell_at⟩)
    (c__law_cell_at : PySem.W.codeIn K cd__law_cell_at "_law_cell_at" = true)
    (k__law_cell_at : PySem.W.keepIn K (.ref f__law_cell_at) = true)
    (l__law_lit : K.lookup f__law_lit = some ⟨oc__law_lit, od__law_lit, .func (PySem.W.fnOf "_law_lit" "_law_lit" (defArgs s__law_lit) (defBody s__law_lit) (defScope s__law_lit) .none kV__law_lit dc__law_lit pm__law_lit an__law_lit cd__law_lit ct__law_lit), sl__law_lit⟩)
    (c__law_lit : PySem.W.codeIn K cd__law_lit "_law_lit" = true)
    (k__law_lit : PySem.W.keepIn K (.ref f__law_lit) = true)
    (l__law_leaf : K.lookup f__law_leaf = some ⟨oc__law_leaf, od__law_leaf, .func (PySem.W.fnOf "_law_leaf" "_law_leaf" (defArgs s__law_leaf) (defBody s__law_leaf) (defScope s__law_leaf) .none kV__law_leaf dc__law_leaf pm__law_leaf an__law_leaf cd__law_leaf ct__law_leaf), sl__law_leaf⟩)
    (c__law_leaf : PySem.W.codeIn K cd__law_leaf "_law_leaf" = true)
    (k__law_leaf : PySem.W.keepIn K (.ref f__law_leaf) = true)
    (l__law_joined : K.lookup f__law_joined = some ⟨oc__law_joined, od__law_joined, .func (PySem.W.fnOf "_law_joined" "_law_joined" (defArgs s__law_joined) (defBody s__law_joined) (defScope s__law_joined) .none kV__law_joined dc__law_joined pm__law_joined an__law_joined cd__law_joined ct__law_joined), sl__law_joined⟩)
    (c__law_joined : PySem.W.codeIn K cd__law_joined "_law_joined" = true)
    (k__law_joined : PySem.W.keepIn K (.ref f__law_joined) = true)
    (l__law_pile : K.lookup f__law_pile = some ⟨oc__law_pile, od__law_pile, .func (PySem.W.fnOf "_law_pile" "_law_pile" (defArgs s__law_pile) (defBody s__law_pile) (defScope s__law_pile) .none kV__law_pile dc__law_pile pm__law_pile an__law_pile cd__law_pile ct__law_pile), sl__law_pile⟩)
    (c__law_pile : PySem.W.codeIn K cd__law_pile "_law_pile" = true)
    (k__law_pile : PySem.W.keepIn K (.ref f__law_pile) = true)
    (l__law_due : K.lookup f__law_due = some ⟨oc__law_due, od__law_due, .func (PySem.W.fnOf "_law_due" "_law_due" (defArgs s__law_due) (defBody s__law_due) (defScope s__law_due) .none kV__law_due dc__law_due pm__law_due an__law_due cd__law_due ct__law_due), sl__law_due⟩)
    (c__law_due : PySem.W.codeIn K cd__law_due "_law_due" = true)
    (k__law_due : PySem.W.keepIn K (.ref f__law_due) = true)
    (l__law_holds_at : K.lookup f__law_holds_at = some ⟨oc__law_holds_at, od__law_holds_at, .func (PySem.W.fnOf "_law_holds_at" "_law_holds_at" (defArgs s__law_holds_at) (defBody s__law_holds_at) (defScope s__law_holds_at) .none kV__law_holds_at dc__law_holds_at pm__law_holds_at an__law_holds_at cd__law_holds_at ct__law_holds_at), sl__law_holds_at⟩)
    (c__law_holds_at : PySem.W.codeIn K cd__law_holds_at "_law_holds_at" = true)
    (k__law_holds_at : PySem.W.keepIn K (.ref f__law_holds_at) = true)
    (l_law : K.lookup f_law = some ⟨oc_law, od_law, .func (PySem.W.fnOf "law" "law" (defArgs s_law) (defBody s_law) (defScope s_law) .none kV_law dc_law pm_law an_law cd_law ct_law), sl_law⟩)
    (c_law : PySem.W.codeIn K cd_law "law" = true)
    (k_law : PySem.W.keepIn K (.ref f_law) = true)
    (l_Move_init : K.lookup f_Move_init = some ⟨oc_Move_init, od_Move_init, .func (PySem.W.fnOf "__init__" "Move.__init__" (defArgs s_Move_init) (defBody s_Move_init) (defScope s_Move_init) .none kV_Move_init dc_Move_init pm_Move_init an_Move_init cd_Move_init ct_Move_init), sl_Move_init⟩)
    (c_Move_init : PySem.W.codeIn K cd_Move_init "Move.__init__" = true)
    (k_Move_init : PySem.W.keepIn K (.ref f_Move_init) = true)
    (i_Move_init : PySem.W.isFn K (.ref f_Move_init) = true)
    (l_Move_fits : K.lookup f_Move_fits = some ⟨oc_Move_fits, od_Move_fits, .func (PySem.W.fnOf "fits" "Move.fits" (defArgs s_Move_fits) (defBody s_Move_fits) (defScope s_Move_fits) .none kV_Move_fits dc_Move_fits pm_Move_fits an_Move_fits cd_Move_fits ct_Move_fits), sl_Move_fits⟩)
    (c_Move_fits : PySem.W.codeIn K cd_Move_fits "Move.fits" = true)
    (k_Move_fits : PySem.W.keepIn K (.ref f_Move_fits) = true)
    (i_Move_fits : PySem.W.isFn K (.ref f_Move_fits) = true)
    (l_Move_onward : K.lookup f_Move_onward = some ⟨oc_Move_onward, od_Move_onward, .func (PySem.W.fnOf "onward" "Move.onward" (defArgs s_Move_onward) (defBody s_Move_onward) (defScope s_Move_onward) .none kV_Move_onward dc_Move_onward pm_Move_onward an_Move_onward cd_Move_onward ct_Move_onward), sl_Move_onward⟩)
    (c_Move_onward : PySem.W.codeIn K cd_Move_onward "Move.onward" = true)
    (k_Move_onward : PySem.W.keepIn K (.ref f_Move_onward) = true)
    (i_Move_onward : PySem.W.isFn K (.ref f_Move_onward) = true)
    (l_Lamp_init : K.lookup f_Lamp_init = some ⟨oc_Lamp_init, od_Lamp_init, .func (PySem.W.fnOf "__init__" "Lamp.__init__" (defArgs s_Lamp_init) (defBody s_Lamp_init) (defScope s_Lamp_init) .none kV_Lamp_init dc_Lamp_init pm_Lamp_init an_Lamp_init cd_Lamp_init ct_Lamp_init), sl_Lamp_init⟩)
    (c_Lamp_init : PySem.W.codeIn K cd_Lamp_init "Lamp.__init__" = true)
    (k_Lamp_init : PySem.W.keepIn K (.ref f_Lamp_init) = true)
    (i_Lamp_init : PySem.W.isFn K (.ref f_Lamp_init) = true)
    (l_Lamp_holds : K.lookup f_Lamp_holds = some ⟨oc_Lamp_holds, od_Lamp_holds, .func (PySem.W.fnOf "holds" "Lamp.holds" (defArgs s_Lamp_holds) (defBody s_Lamp_holds) (defScope s_Lamp_holds) .none kV_Lamp_holds dc_Lamp_holds pm_Lamp_holds an_Lamp_holds cd_Lamp_holds ct_Lamp_holds), sl_Lamp_holds⟩)
    (c_Lamp_holds : PySem.W.codeIn K cd_Lamp_holds "Lamp.holds" = true)
    (k_Lamp_holds : PySem.W.keepIn K (.ref f_Lamp_holds) = true)
    (i_Lamp_holds : PySem.W.isFn K (.ref f_Lamp_holds) = true)
    (l_Sure_init : K.lookup f_Sure_init = some ⟨oc_Sure_init, od_Sure_init, .func (PySem.W.fnOf "__init__" "Sure.__init__" (defArgs s_Sure_init) (defBody s_Sure_init) (defScope s_Sure_init) .none kV_Sure_init dc_Sure_init pm_Sure_init an_Sure_init cd_Sure_init ct_Sure_init), sl_Sure_init⟩)
    (c_Sure_init : PySem.W.codeIn K cd_Sure_init "Sure.__init__" = true)
    (k_Sure_init : PySem.W.keepIn K (.ref f_Sure_init) = true)
    (i_Sure_init : PySem.W.isFn K (.ref f_Sure_init) = true)
    (l_Sure_holds : K.lookup f_Sure_holds = some ⟨oc_Sure_holds, od_Sure_holds, .func (PySem.W.fnOf "holds" "Sure.holds" (defArgs s_Sure_holds) (defBody s_Sure_holds) (defScope s_Sure_holds) .none kV_Sure_holds dc_Sure_holds pm_Sure_holds an_Sure_holds cd_Sure_holds ct_Sure_holds), sl_Sure_holds⟩)
    (c_Sure_holds : PySem.W.codeIn K cd_Sure_holds "Sure.holds" = true)
    (k_Sure_holds : PySem.W.keepIn K (.ref f_Sure_holds) = true)
    (i_Sure_holds : PySem.W.isFn K (.ref f_Sure_holds) = true)
    (l_Not_init : K.lookup f_Not_init = some ⟨oc_Not_init, od_Not_init, .func (PySem.W.fnOf "__init__" "Not.__init__" (defArgs s_Not_init) (defBody s_Not_init) (defScope s_Not_init) .none kV_Not_init dc_Not_init pm_Not_init an_Not_init cd_Not_init ct_Not_init), sl_Not_init⟩)
    (c_Not_init : PySem.W.codeIn K cd_Not_init "Not.__init__" = true)
    (k_Not_init : PySem.W.keepIn K (.ref f_Not_init) = true)
    (i_Not_init : PySem.W.isFn K (.ref f_Not_init) = true)
    (l_Not_holds : K.lookup f_Not_holds = some ⟨oc_Not_holds, od_Not_holds, .func (PySem.W.fnOf "holds" "Not.holds" (defArgs s_Not_holds) (defBody s_Not_holds) (defScope s_Not_holds) .none kV_Not_holds dc_Not_holds pm_Not_holds an_Not_holds cd_Not_holds ct_Not_holds), sl_Not_holds⟩)
    (c_Not_holds : PySem.W.codeIn K cd_Not_holds "Not.holds" = true)
    (k_Not_holds : PySem.W.keepIn K (.ref f_Not_holds) = true)
    (i_Not_holds : PySem.W.isFn K (.ref f_Not_holds) = true)
    (l_Joined_init : K.lookup f_Joined_init = some ⟨oc_Joined_init, od_Joined_init, .func (PySem.W.fnOf "__init__" "Joined.__init__" (defArgs s_Joined_init) (defBody s_Joined_init) (defScope s_Joined_init) .none kV_Joined_init dc_Joined_init pm_Joined_init an_Joined_init cd_Joined_init ct_Joined_init), sl_Joined_init⟩)
    (c_Joined_init : PySem.W.codeIn K cd_Joined_init "Joined.__init__" = true)
    (k_Joined_init : PySem.W.keepIn K (.ref f_Joined_init) = true)
    (i_Joined_init : PySem.W.isFn K (.ref f_Joined_init) = true)
    (l_And_holds : K.lookup f_And_holds = some ⟨oc_And_holds, od_And_holds, .func (PySem.W.fnOf "holds" "And.holds" (defArgs s_And_holds) (defBody s_And_holds) (defScope s_And_holds) .none kV_And_holds dc_And_holds pm_And_holds an_And_holds cd_And_holds ct_And_holds), sl_And_holds⟩)
    (c_And_holds : PySem.W.codeIn K cd_And_holds "And.holds" = true)
    (k_And_holds : PySem.W.keepIn K (.ref f_And_holds) = true)
    (i_And_holds : PySem.W.isFn K (.ref f_And_holds) = true)
    (l_Either_holds : K.lookup f_Either_holds = some ⟨oc_Either_holds, od_Either_holds, .func (PySem.W.fnOf "holds" "Either.holds" (defArgs s_Either_holds) (defBody s_Either_holds) (defScope s_Either_holds) .none kV_Either_holds dc_Either_holds pm_Either_holds an_Either_holds cd_Either_holds ct_Either_holds), sl_Either_holds⟩)
    (c_Either_holds : PySem.W.codeIn K cd_Either_holds "Either.holds" = true)
    (k_Either_holds : PySem.W.keepIn K (.ref f_Either_holds) = true)
    (i_Either_holds : PySem.W.isFn K (.ref f_Either_holds) = true)
    (l_Or_holds : K.lookup f_Or_holds = some ⟨oc_Or_holds, od_Or_holds, .func (PySem.W.fnOf "holds" "Or.holds" (defArgs s_Or_holds) (defBody s_Or_holds) (defScope s_Or_holds) .none kV_Or_holds dc_Or_holds pm_Or_holds an_Or_holds cd_Or_holds ct_Or_holds), sl_Or_holds⟩)
    (c_Or_holds : PySem.W.codeIn K cd_Or_holds "Or.holds" = true)
    (k_Or_holds : PySem.W.keepIn K (.ref f_Or_holds) = true)
    (i_Or_holds : PySem.W.isFn K (.ref f_Or_holds) = true)
    (pg_Move : PySem.W.plainGet K C_Move Str.empty = true)
    (hd_Move : PySem.W.hasDictIn K C_Move = true)
    (po_Move : PySem.W.plainOver K C_Move = true)
    (sa_Move : PySem.W.findIn K (.ref C_Move) "__setattr__" = some (some (.builtin "object.__setattr__")))
    (kc_Move : PySem.W.keepIn K (.ref C_Move) = true)
    (ha_Move : PySem.W.findIn K (.ref C_Move) "__class__" = some (some (.builtin "object.__class__")))
    (hm_Move : PySem.W.mroIn K C_Move (.type "object") = some true)
    (mk_Move : PySem.W.makesIn K C_Move = true)
    (n_Move_guard : PySem.W.findIn K (.ref C_Move) "guard" = some none)
    (n_Move_changes : PySem.W.findIn K (.ref C_Move) "changes" = some none)
    (n_Move_at : PySem.W.findIn K (.ref C_Move) "at" = some none)
    (n_Move_truth : PySem.W.findIn K (.ref C_Move) "truth" = some none)
    (n_Move_part : PySem.W.findIn K (.ref C_Move) "part" = some none)
    (n_Move_parts : PySem.W.findIn K (.ref C_Move) "parts" = some none)
    (pg_Formula : PySem.W.plainGet K C_Formula Str.empty = true)
    (hd_Formula : PySem.W.hasDictIn K C_Formula = true)
    (po_Formula : PySem.W.plainOver K C_Formula = true)
    (sa_Formula : PySem.W.findIn K (.ref C_Formula) "__setattr__" = some (some (.builtin "object.__setattr__")))
    (kc_Formula : PySem.W.keepIn K (.ref C_Formula) = true)
    (ha_Formula : PySem.W.findIn K (.ref C_Formula) "__class__" = some (some (.builtin "object.__class__")))
    (hm_Formula : PySem.W.mroIn K C_Formula (.type "object") = some true)
    (n_Formula_guard : PySem.W.findIn K (.ref C_Formula) "guard" = some none)
    (n_Formula_changes : PySem.W.findIn K (.ref C_Formula) "changes" = some none)
    (n_Formula_at : PySem.W.findIn K (.ref C_Formula) "at" = some none)
    (n_Formula_truth : PySem.W.findIn K (.ref C_Formula) "truth" = some none)
    (n_Formula_part : PySem.W.findIn K (.ref C_Formula) "part" = some none)
    (n_Formula_parts : PySem.W.findIn K (.ref C_Formula) "parts" = some none)
    (pg_Lamp : PySem.W.plainGet K C_Lamp Str.empty = true)
    (hd_Lamp : PySem.W.hasDictIn K C_Lamp = true)
    (po_Lamp : PySem.W.plainOver K C_Lamp = true)
    (sa_Lamp : PySem.W.findIn K (.ref C_Lamp) "__setattr__" = some (some (.builtin "object.__setattr__")))
    (kc_Lamp : PySem.W.keepIn K (.ref C_Lamp) = true)
    (ha_Lamp : PySem.W.findIn K (.ref C_Lamp) "__class__" = some (some (.builtin "object.__class__")))
    (hm_Lamp : PySem.W.mroIn K C_Lamp (.type "object") = some true)
    (mk_Lamp : PySem.W.makesIn K C_Lamp = true)
    (n_Lamp_guard : PySem.W.findIn K (.ref C_Lamp) "guard" = some none)
    (n_Lamp_changes : PySem.W.findIn K (.ref C_Lamp) "changes" = some none)
    (n_Lamp_at : PySem.W.findIn K (.ref C_Lamp) "at" = some none)
    (n_Lamp_truth : PySem.W.findIn K (.ref C_Lamp) "truth" = some none)
    (n_Lamp_part : PySem.W.findIn K (.ref C_Lamp) "part" = some none)
    (n_Lamp_parts : PySem.W.findIn K (.ref C_Lamp) "parts" = some none)
    (pg_Sure : PySem.W.plainGet K C_Sure Str.empty = true)
    (hd_Sure : PySem.W.hasDictIn K C_Sure = true)
    (po_Sure : PySem.W.plainOver K C_Sure = true)
    (sa_Sure : PySem.W.findIn K (.ref C_Sure) "__setattr__" = some (some (.builtin "object.__setattr__")))
    (kc_Sure : PySem.W.keepIn K (.ref C_Sure) = true)
    (ha_Sure : PySem.W.findIn K (.ref C_Sure) "__class__" = some (some (.builtin "object.__class__")))
    (hm_Sure : PySem.W.mroIn K C_Sure (.type "object") = some true)
    (mk_Sure : PySem.W.makesIn K C_Sure = true)
    (n_Sure_guard : PySem.W.findIn K (.ref C_Sure) "guard" = some none)
    (n_Sure_changes : PySem.W.findIn K (.ref C_Sure) "changes" = some none)
    (n_Sure_at : PySem.W.findIn K (.ref C_Sure) "at" = some none)
    (n_Sure_truth : PySem.W.findIn K (.ref C_Sure) "truth" = some none)
    (n_Sure_part : PySem.W.findIn K (.ref C_Sure) "part" = some none)
    (n_Sure_parts : PySem.W.findIn K (.ref C_Sure) "parts" = some none)
    (pg_Not : PySem.W.plainGet K C_Not Str.empty = true)
    (hd_Not : PySem.W.hasDictIn K C_Not = true)
    (po_Not : PySem.W.plainOver K C_Not = true)
    (sa_Not : PySem.W.findIn K (.ref C_Not) "__setattr__" = some (some (.builtin "object.__setattr__")))
    (kc_Not : PySem.W.keepIn K (.ref C_Not) = true)
    (ha_Not : PySem.W.findIn K (.ref C_Not) "__class__" = some (some (.builtin "object.__class__")))
    (hm_Not : PySem.W.mroIn K C_Not (.type "object") = some true)
    (mk_Not : PySem.W.makesIn K C_Not = true)
    (n_Not_guard : PySem.W.findIn K (.ref C_Not) "guard" = some none)
    (n_Not_changes : PySem.W.findIn K (.ref C_Not) "changes" = some none)
    (n_Not_at : PySem.W.findIn K (.ref C_Not) "at" = some none)
    (n_Not_truth : PySem.W.findIn K (.ref C_Not) "truth" = some none)
    (n_Not_part : PySem.W.findIn K (.ref C_Not) "part" = some none)
    (n_Not_parts : PySem.W.findIn K (.ref C_Not) "parts" = some none)
    (pg_Joined : PySem.W.plainGet K C_Joined Str.empty = true)
    (hd_Joined : PySem.W.hasDictIn K C_Joined = true)
    (po_Joined : PySem.W.plainOver K C_Joined = true)
    (sa_Joined : PySem.W.findIn K (.ref C_Joined) "__setattr__" = some (some (.builtin "object.__setattr__")))
    (kc_Joined : PySem.W.keepIn K (.ref C_Joined) = true)
    (ha_Joined : PySem.W.findIn K (.ref C_Joined) "__class__" = some (some (.builtin "object.__class__")))
    (hm_Joined : PySem.W.mroIn K C_Joined (.type "object") = some true)
    (mk_Joined : PySem.W.makesIn K C_Joined = true)
    (n_Joined_guard : PySem.W.findIn K (.ref C_Joined) "guard" = some none)
    (n_Joined_changes : PySem.W.findIn K (.ref C_Joined) "changes" = some none)
    (n_Joined_at : PySem.W.findIn K (.ref C_Joined) "at" = some none)
    (n_Joined_truth : PySem.W.findIn K (.ref C_Joined) "truth" = some none)
    (n_Joined_part : PySem.W.findIn K (.ref C_Joined) "part" = some none)
    (n_Joined_parts : PySem.W.findIn K (.ref C_Joined) "parts" = some none)
    (pg_And : PySem.W.plainGet K C_And Str.empty = true)
    (hd_And : PySem.W.hasDictIn K C_And = true)
    (po_And : PySem.W.plainOver K C_And = true)
    (sa_And : PySem.W.findIn K (.ref C_And) "__setattr__" = some (some (.builtin "object.__setattr__")))
    (kc_And : PySem.W.keepIn K (.ref C_And) = true)
    (ha_And : PySem.W.findIn K (.ref C_And) "__class__" = some (some (.builtin "object.__class__")))
    (hm_And : PySem.W.mroIn K C_And (.type "object") = some true)
    (mk_And : PySem.W.makesIn K C_And = true)
    (n_And_guard : PySem.W.findIn K (.ref C_And) "guard" = some none)
    (n_And_changes : PySem.W.findIn K (.ref C_And) "changes" = some none)
    (n_And_at : PySem.W.findIn K (.ref C_And) "at" = some none)
    (n_And_truth : PySem.W.findIn K (.ref C_And) "truth" = some none)
    (n_And_part : PySem.W.findIn K (.ref C_And) "part" = some none)
    (n_And_parts : PySem.W.findIn K (.ref C_And) "parts" = some none)
    (pg_Either : PySem.W.plainGet K C_Either Str.empty = true)
    (hd_Either : PySem.W.hasDictIn K C_Either = true)
    (po_Either : PySem.W.plainOver K C_Either = true)
    (sa_Either : PySem.W.findIn K (.ref C_Either) "__setattr__" = some (some (.builtin "object.__setattr__")))
    (kc_Either : PySem.W.keepIn K (.ref C_Either) = true)
    (ha_Either : PySem.W.findIn K (.ref C_Either) "__class__" = some (some (.builtin "object.__class__")))
    (hm_Either : PySem.W.mroIn K C_Either (.type "object") = some true)
    (mk_Either : PySem.W.makesIn K C_Either = true)
    (n_Either_guard : PySem.W.findIn K (.ref C_Either) "guard" = some none)
    (n_Either_changes : PySem.W.findIn K (.ref C_Either) "changes" = some none)
    (n_Either_at : PySem.W.findIn K (.ref C_Either) "at" = some none)
    (n_Either_truth : PySem.W.findIn K (.ref C_Either) "truth" = some none)
    (n_Either_part : PySem.W.findIn K (.ref C_Either) "part" = some none)
    (n_Either_parts : PySem.W.findIn K (.ref C_Either) "parts" = some none)
    (pg_Or : PySem.W.plainGet K C_Or Str.empty = true)
    (hd_Or : PySem.W.hasDictIn K C_Or = true)
    (po_Or : PySem.W.plainOver K C_Or = true)
    (sa_Or : PySem.W.findIn K (.ref C_Or) "__setattr__" = some (some (.builtin "object.__setattr__")))
    (kc_Or : PySem.W.keepIn K (.ref C_Or) = true)
    (ha_Or : PySem.W.findIn K (.ref C_Or) "__class__" = some (some (.builtin "object.__class__")))
    (hm_Or : PySem.W.mroIn K C_Or (.type "object") = some true)
    (mk_Or : PySem.W.makesIn K C_Or = true)
    (n_Or_guard : PySem.W.findIn K (.ref C_Or) "guard" = some none)
    (n_Or_changes : PySem.W.findIn K (.ref C_Or) "changes" = some none)
    (n_Or_at : PySem.W.findIn K (.ref C_Or) "at" = some none)
    (n_Or_truth : PySem.W.findIn K (.ref C_Or) "truth" = some none)
    (n_Or_part : PySem.W.findIn K (.ref C_Or) "part" = some none)
    (n_Or_parts : PySem.W.findIn K (.ref C_Or) "parts" = some none)
    (nd_ : [C_Move, C_Formula, C_Lamp, C_Sure, C_Not, C_Joined, C_And, C_Either, C_Or].Nodup)
    (hn_ : PySem.W.specialIn K (.builtin "object.__class__") "__get__" = some (some (.builtin "getset_descriptor.__get__")))
    (htk_ : PySem.W.takesIn K (.builtin "object.__class__") = some true)
    (b_len : PySem.W.nsIn K mainGlobals "len" = some none)
    (b_range : PySem.W.nsIn K mainGlobals "range" = some none)
    (b_isinstance : PySem.W.nsIn K mainGlobals "isinstance" = some none)
    (b_int : PySem.W.nsIn K mainGlobals "int" = some none)
    (b_bool : PySem.W.nsIn K mainGlobals "bool" = some none)
    (b_str : PySem.W.nsIn K mainGlobals "str" = some none)
    (b_list : PySem.W.nsIn K mainGlobals "list" = some none)
    (b_tuple : PySem.W.nsIn K mainGlobals "tuple" = some none)
    (b_dict : PySem.W.nsIn K mainGlobals "dict" = some none)
    (b_set : PySem.W.nsIn K mainGlobals "set" = some none)
    (b_sorted : PySem.W.nsIn K mainGlobals "sorted" = some none)
    (b_max : PySem.W.nsIn K mainGlobals "max" = some none)
    (b_min : PySem.W.nsIn K mainGlobals "min" = some none)
    (b_sum : PySem.W.nsIn K mainGlobals "sum" = some none)
    (b_any : PySem.W.nsIn K mainGlobals "any" = some none)
    (b_all : PySem.W.nsIn K mainGlobals "all" = some none)
    (b_abs : PySem.W.nsIn K mainGlobals "abs" = some none)
    (b_reversed : PySem.W.nsIn K mainGlobals "reversed" = some none)
    (b_enumerate : PySem.W.nsIn K mainGlobals "enumerate" = some none)
    (b_zip : PySem.W.nsIn K mainGlobals "zip" = some none)
    : ∃ t : Ad, Txt K mg t := by
  refine ⟨⟨f__law_cell_at, PySem.W.fnOf "_law_cell_at" "_law_cell_at" (defArgs s__law_cell_at) (defBody s__law_cell_at) (defScope s__law_cell_at) .none kV__law_cell_at dc__law_cell_at pm__law_cell_at an__law_cell_at cd__law_cell_at ct__law_cell_at, f__law_lit, PySem.W.fnOf "_law_lit" "_law_lit" (defArgs s__law_lit) (defBody s__law_lit) (defScope s__law_lit) .none kV__law_lit dc__law_lit pm__law_lit an__law_lit cd__law_lit ct__law_lit, f__law_leaf, PySem.W.fnOf "_law_leaf" "_law_leaf" (defArgs s__law_leaf) (defBody s__law_leaf) (defScope s__law_leaf) .none kV__law_leaf dc__law_leaf pm__law_leaf an__law_leaf cd__law_leaf ct__law_leaf, f__law_joined, PySem.W.fnOf "_law_joined" "_law_joined" (defArgs s__law_joined) (defBody s__law_joined) (defScope s__law_joined) .none kV__law_joined dc__law_joined pm__law_joined an__law_joined cd__law_joined ct__law_joined, f__law_pile, PySem.W.fnOf "_law_pile" "_law_pile" (defArgs s__law_pile) (defBody s__law_pile) (defScope s__law_pile) .none kV__law_pile dc__law_pile pm__law_pile an__law_pile cd__law_pile ct__law_pile, f__law_due, PySem.W.fnOf "_law_due" "_law_due" (defArgs s__law_due) (defBody s__law_due) (defScope s__law_due) .none kV__law_due dc__law_due pm__law_due an__law_due cd__law_due ct__law_due, f__law_holds_at, PySem.W.fnOf "_law_holds_at" "_law_holds_at" (defArgs s__law_holds_at) (defBody s__law_holds_at) (defScope s__law_holds_at) .none kV__law_holds_at dc__law_holds_at pm__law_holds_at an__law_holds_at cd__law_holds_at ct__law_holds_at, f_law, PySem.W.fnOf "law" "law" (defArgs s_law) (defBody s_law) (defScope s_law) .none kV_law dc_law pm_law an_law cd_law ct_law, f_Move_init, PySem.W.fnOf "__init__" "Move.__init__" (defArgs s_Move_init) (defBody s_Move_init) (defScope s_Move_init) .none kV_Move_init dc_Move_init pm_Move_init an_Move_init cd_Move_init ct_Move_init, f_Move_fits, PySem.W.fnOf "fits" "Move.fits" (defArgs s_Move_fits) (defBody s_Move_fits) (defScope s_Move_fits) .none kV_Move_fits dc_Move_fits pm_Move_fits an_Move_fits cd_Move_fits ct_Move_fits, f_Move_onward, PySem.W.fnOf "onward" "Move.onward" (defArgs s_Move_onward) (defBody s_Move_onward) (defScope s_Move_onward) .none kV_Move_onward dc_Move_onward pm_Move_onward an_Move_onward cd_Move_onward ct_Move_onward, f_Lamp_init, PySem.W.fnOf "__init__" "Lamp.__init__" (defArgs s_Lamp_init) (defBody s_Lamp_init) (defScope s_Lamp_init) .none kV_Lamp_init dc_Lamp_init pm_Lamp_init an_Lamp_init cd_Lamp_init ct_Lamp_init, f_Lamp_holds, PySem.W.fnOf "holds" "Lamp.holds" (defArgs s_Lamp_holds) (defBody s_Lamp_holds) (defScope s_Lamp_holds) .none kV_Lamp_holds dc_Lamp_holds pm_Lamp_holds an_Lamp_holds cd_Lamp_holds ct_Lamp_holds, f_Sure_init, PySem.W.fnOf "__init__" "Sure.__init__" (defArgs s_Sure_init) (defBody s_Sure_init) (defScope s_Sure_init) .none kV_Sure_init dc_Sure_init pm_Sure_init an_Sure_init cd_Sure_init ct_Sure_init, f_Sure_holds, PySem.W.fnOf "holds" "Sure.holds" (defArgs s_Sure_holds) (defBody s_Sure_holds) (defScope s_Sure_holds) .none kV_Sure_holds dc_Sure_holds pm_Sure_holds an_Sure_holds cd_Sure_holds ct_Sure_holds, f_Not_init, PySem.W.fnOf "__init__" "Not.__init__" (defArgs s_Not_init) (defBody s_Not_init) (defScope s_Not_init) .none kV_Not_init dc_Not_init pm_Not_init an_Not_init cd_Not_init ct_Not_init, f_Not_holds, PySem.W.fnOf "holds" "Not.holds" (defArgs s_Not_holds) (defBody s_Not_holds) (defScope s_Not_holds) .none kV_Not_holds dc_Not_holds pm_Not_holds an_Not_holds cd_Not_holds ct_Not_holds, f_Joined_init, PySem.W.fnOf "__init__" "Joined.__init__" (defArgs s_Joined_init) (defBody s_Joined_init) (defScope s_Joined_init) .none kV_Joined_init dc_Joined_init pm_Joined_init an_Joined_init cd_Joined_init ct_Joined_init, f_And_holds, PySem.W.fnOf "holds" "And.holds" (defArgs s_And_holds) (defBody s_And_holds) (defScope s_And_holds) .none kV_And_holds dc_And_holds pm_And_holds an_And_holds cd_And_holds ct_And_holds, f_Either_holds, PySem.W.fnOf "holds" "Either.holds" (defArgs s_Either_holds) (defBody s_Either_holds) (defScope s_Either_holds) .none kV_Either_holds dc_Either_holds pm_Either_holds an_Either_holds cd_Either_holds ct_Either_holds, f_Or_holds, PySem.W.fnOf "holds" "Or.holds" (defArgs s_Or_holds) (defBody s_Or_holds) (defScope s_Or_holds) .none kV_Or_holds dc_Or_holds pm_Or_holds an_Or_holds cd_Or_holds ct_Or_holds, C_Move, C_Formula, C_Lamp, C_Sure, C_Not, C_Joined, C_And, C_Either, C_Or⟩, ?_⟩
  exact {
    F__law_cell_at := fun_mk (st := s__law_cell_at) l__law_cell_at c__law_cell_at k__law_cell_at,
    b__law_cell_at := (fun_mk (st := s__law_cell_at) l__law_cell_at c__law_cell_at k__law_cell_at).binds (ps := ["_law_script", "_law_k"]) fun _ _ _ _ _ _ us hl => match us, hl with | [_, _], _ => rfl,
    m__law_cell_at := PySem.W.mg_of X G a__law_cell_at,
    F__law_lit := fun_mk (st := s__law_lit) l__law_lit c__law_lit k__law_lit,
    b__law_lit := (fun_mk (st := s__law_lit) l__law_lit c__law_lit k__law_lit).binds (ps := ["_law_lamp", "_law_many"]) fun _ _ _ _ _ _ us hl => match us, hl with | [_, _], _ => rfl,
    m__law_lit := PySem.W.mg_of X G a__law_lit,
    F__law_leaf := fun_mk (st := s__law_leaf) l__law_leaf c__law_leaf k__law_leaf,
    b__law_leaf := (fun_mk (st := s__law_leaf) l__law_leaf c__law_leaf k__law_leaf).binds (ps := ["_law_kind", "_law_more", "_law_many"]) fun _ _ _ _ _ _ us hl => match us, hl with | [_, _, _], _ => rfl,
    m__law_leaf := PySem.W.mg_of X G a__law_leaf,
    F__law_joined := fun_mk (st := s__law_joined) l__law_joined c__law_joined k__law_joined,
    b__law_joined := (fun_mk (st := s__law_joined) l__law_joined c__law_joined k__law_joined).binds (ps := ["_law_kind", "_law_pairs"]) fun _ _ _ _ _ _ us hl => match us, hl with | [_, _], _ => rfl,
    m__law_joined := PySem.W.mg_of X G a__law_joined,
    F__law_pile := fun_mk (st := s__law_pile) l__law_pile c__law_pile k__law_pile,
    b__law_pile := (fun_mk (st := s__law_pile) l__law_pile c__law_pile k__law_pile).binds (ps := ["_law_cells", "_law_many"]) fun _ _ _ _ _ _ us hl => match us, hl with | [_, _], _ => rfl,
    m__law_pile := PySem.W.mg_of X G a__law_pile,
    F__law_due := fun_mk (st := s__law_due) l__law_due c__law_due k__law_due,
    b__law_due := (fun_mk (st := s__law_due) l__law_due c__law_due k__law_due).binds (ps := ["_law_stand", "_law_changes", "_law_many"]) fun _ _ _ _ _ _ us hl => match us, hl with | [_, _, _], _ => rfl,
    m__law_due := PySem.W.mg_of X G a__law_due,
    F__law_holds_at := fun_mk (st := s__law_holds_at) l__law_holds_at c__law_holds_at k__law_holds_at,
    b__law_holds_at := (fun_mk (st := s__law_holds_at) l__law_holds_at c__law_holds_at k__law_holds_at).binds (ps := ["_law_move", "_law_stand", "_law_guard", "_law_changes", "_law_many"]) fun _ _ _ _ _ _ us hl => match us, hl with | [_, _, _, _, _], _ => rfl,
    m__law_holds_at := PySem.W.mg_of X G a__law_holds_at,
    F_law := fun_mk (st := s_law) l_law c_law k_law,
    b_law := (fun_mk (st := s_law) l_law c_law k_law).binds (ps := ["_law_script"]) fun _ _ _ _ _ _ us hl => match us, hl with | [_], _ => rfl,
    m_law := PySem.W.mg_of X G a_law,
    F_Move_init := fun_mk (st := s_Move_init) l_Move_init c_Move_init k_Move_init,
    b_Move_init := (fun_mk (st := s_Move_init) l_Move_init c_Move_init k_Move_init).binds (ps := ["self", "guard", "changes"]) fun _ _ _ _ _ _ us hl => match us, hl with | [_, _, _], _ => rfl,
    F_Move_fits := fun_mk (st := s_Move_fits) l_Move_fits c_Move_fits k_Move_fits,
    b_Move_fits := (fun_mk (st := s_Move_fits) l_Move_fits c_Move_fits k_Move_fits).binds (ps := ["self", "stand"]) fun _ _ _ _ _ _ us hl => match us, hl with | [_, _], _ => rfl,
    F_Move_onward := fun_mk (st := s_Move_onward) l_Move_onward c_Move_onward k_Move_onward,
    b_Move_onward := (fun_mk (st := s_Move_onward) l_Move_onward c_Move_onward k_Move_onward).binds (ps := ["self", "stand"]) fun _ _ _ _ _ _ us hl => match us, hl with | [_, _], _ => rfl,
    F_Lamp_init := fun_mk (st := s_Lamp_init) l_Lamp_init c_Lamp_init k_Lamp_init,
    b_Lamp_init := (fun_mk (st := s_Lamp_init) l_Lamp_init c_Lamp_init k_Lamp_init).binds (ps := ["self", "at"]) fun _ _ _ _ _ _ us hl => match us, hl with | [_, _], _ => rfl,
    F_Lamp_holds := fun_mk (st := s_Lamp_holds) l_Lamp_holds c_Lamp_holds k_Lamp_holds,
    b_Lamp_holds := (fun_mk (st := s_Lamp_holds) l_Lamp_holds c_Lamp_holds k_Lamp_holds).binds (ps := ["self", "stand"]) fun _ _ _ _ _ _ us hl => match us, hl with | [_, _], _ => rfl,
    F_Sure_init := fun_mk (st := s_Sure_init) l_Sure_init c_Sure_init k_Sure_init,
    b_Sure_init := (fun_mk (st := s_Sure_init) l_Sure_init c_Sure_init k_Sure_init).binds (ps := ["self", "truth"]) fun _ _ _ _ _ _ us hl => match us, hl with | [_, _], _ => rfl,
    F_Sure_holds := fun_mk (st := s_Sure_holds) l_Sure_holds c_Sure_holds k_Sure_holds,
    b_Sure_holds := (fun_mk (st := s_Sure_holds) l_Sure_holds c_Sure_holds k_Sure_holds).binds (ps := ["self", "stand"]) fun _ _ _ _ _ _ us hl => match us, hl with | [_, _], _ => rfl,
    F_Not_init := fun_mk (st := s_Not_init) l_Not_init c_Not_init k_Not_init,
    b_Not_init := (fun_mk (st := s_Not_init) l_Not_init c_Not_init k_Not_init).binds (ps := ["self", "part"]) fun _ _ _ _ _ _ us hl => match us, hl with | [_, _], _ => rfl,
    F_Not_holds := fun_mk (st := s_Not_holds) l_Not_holds c_Not_holds k_Not_holds,
    b_Not_holds := (fun_mk (st := s_Not_holds) l_Not_holds c_Not_holds k_Not_holds).binds (ps := ["self", "stand"]) fun _ _ _ _ _ _ us hl => match us, hl with | [_, _], _ => rfl,
    F_Joined_init := fun_mk (st := s_Joined_init) l_Joined_init c_Joined_init k_Joined_init,
    b_Joined_init := (fun_mk (st := s_Joined_init) l_Joined_init c_Joined_init k_Joined_init).binds (ps := ["self", "parts"]) fun _ _ _ _ _ _ us hl => match us, hl with | [_, _], _ => rfl,
    F_And_holds := fun_mk (st := s_And_holds) l_And_holds c_And_holds k_And_holds,
    b_And_holds := (fun_mk (st := s_And_holds) l_And_holds c_And_holds k_And_holds).binds (ps := ["self", "stand"]) fun _ _ _ _ _ _ us hl => match us, hl with | [_, _], _ => rfl,
    F_Either_holds := fun_mk (st := s_Either_holds) l_Either_holds c_Either_holds k_Either_holds,
    b_Either_holds := (fun_mk (st := s_Either_holds) l_Either_holds c_Either_holds k_Either_holds).binds (ps := ["self", "stand"]) fun _ _ _ _ _ _ us hl => match us, hl with | [_, _], _ => rfl,
    F_Or_holds := fun_mk (st := s_Or_holds) l_Or_holds c_Or_holds k_Or_holds,
    b_Or_holds := (fun_mk (st := s_Or_holds) l_Or_holds c_Or_holds k_Or_holds).binds (ps := ["self", "stand"]) fun _ _ _ _ _ _ us hl => match us, hl with | [_, _], _ => rfl,
    m_Move := PySem.W.mg_of X G a_Move,
    c_Move := ⟨pg_Move, hd_Move, po_Move, sa_Move⟩,
    y_Move := fun H a dx fs e => TyOf.ins e ⟨pg_Move, hd_Move, po_Move, sa_Move⟩ ha_Move hn_ htk_ hm_Move,
    k_Move := ⟨mk_Move, e_Move_init, i_Move_init, kc_Move⟩,
    n_Move_guard := n_Move_guard,
    n_Move_changes := n_Move_changes,
    n_Move_at := n_Move_at,
    n_Move_truth := n_Move_truth,
    n_Move_part := n_Move_part,
    n_Move_parts := n_Move_parts,
    h_Move_fits := ⟨e_Move_fits, i_Move_fits, k_Move_fits⟩,
    h_Move_onward := ⟨e_Move_onward, i_Move_onward, k_Move_onward⟩,
    m_Formula := PySem.W.mg_of X G a_Formula,
    c_Formula := ⟨pg_Formula, hd_Formula, po_Formula, sa_Formula⟩,
    y_Formula := fun H a dx fs e => TyOf.ins e ⟨pg_Formula, hd_Formula, po_Formula, sa_Formula⟩ ha_Formula hn_ htk_ hm_Formula,
    n_Formula_guard := n_Formula_guard,
    n_Formula_changes := n_Formula_changes,
    n_Formula_at := n_Formula_at,
    n_Formula_truth := n_Formula_truth,
    n_Formula_part := n_Formula_part,
    n_Formula_parts := n_Formula_parts,
    m_Lamp := PySem.W.mg_of X G a_Lamp,
    c_Lamp := ⟨pg_Lamp, hd_Lamp, po_Lamp, sa_Lamp⟩,
    y_Lamp := fun H a dx fs e => TyOf.ins e ⟨pg_Lamp, hd_Lamp, po_Lamp, sa_Lamp⟩ ha_Lamp hn_ htk_ hm_Lamp,
    k_Lamp := ⟨mk_Lamp, e_Lamp_init, i_Lamp_init, kc_Lamp⟩,
    n_Lamp_guard := n_Lamp_guard,
    n_Lamp_changes := n_Lamp_changes,
    n_Lamp_at := n_Lamp_at,
    n_Lamp_truth := n_Lamp_truth,
    n_Lamp_part := n_Lamp_part,
    n_Lamp_parts := n_Lamp_parts,
    h_Lamp_holds := ⟨e_Lamp_holds, i_Lamp_holds, k_Lamp_holds⟩,
    m_Sure := PySem.W.mg_of X G a_Sure,
    c_Sure := ⟨pg_Sure, hd_Sure, po_Sure, sa_Sure⟩,
    y_Sure := fun H a dx fs e => TyOf.ins e ⟨pg_Sure, hd_Sure, po_Sure, sa_Sure⟩ ha_Sure hn_ htk_ hm_Sure,
    k_Sure := ⟨mk_Sure, e_Sure_init, i_Sure_init, kc_Sure⟩,
    n_Sure_guard := n_Sure_guard,
    n_Sure_changes := n_Sure_changes,
    n_Sure_at := n_Sure_at,
    n_Sure_truth := n_Sure_truth,
    n_Sure_part := n_Sure_part,
    n_Sure_parts := n_Sure_parts,
    h_Sure_holds := ⟨e_Sure_holds, i_Sure_holds, k_Sure_holds⟩,
    m_Not := PySem.W.mg_of X G a_Not,
    c_Not := ⟨pg_Not, hd_Not, po_Not, sa_Not⟩,
    y_Not := fun H a dx fs e => TyOf.ins e ⟨pg_Not, hd_Not, po_Not, sa_Not⟩ ha_Not hn_ htk_ hm_Not,
    k_Not := ⟨mk_Not, e_Not_init, i_Not_init, kc_Not⟩,
    n_Not_guard := n_Not_guard,
    n_Not_changes := n_Not_changes,
    n_Not_at := n_Not_at,
    n_Not_truth := n_Not_truth,
    n_Not_part := n_Not_part,
    n_Not_parts := n_Not_parts,
    h_Not_holds := ⟨e_Not_holds, i_Not_holds, k_Not_holds⟩,
    m_Joined := PySem.W.mg_of X G a_Joined,
    c_Joined := ⟨pg_Joined, hd_Joined, po_Joined, sa_Joined⟩,
    y_Joined := fun H a dx fs e => TyOf.ins e ⟨pg_Joined, hd_Joined, po_Joined, sa_Joined⟩ ha_Joined hn_ htk_ hm_Joined,
    k_Joined := ⟨mk_Joined, e_Joined_init, i_Joined_init, kc_Joined⟩,
    n_Joined_guard := n_Joined_guard,
    n_Joined_changes := n_Joined_changes,
    n_Joined_at := n_Joined_at,
    n_Joined_truth := n_Joined_truth,
    n_Joined_part := n_Joined_part,
    n_Joined_parts := n_Joined_parts,
    m_And := PySem.W.mg_of X G a_And,
    c_And := ⟨pg_And, hd_And, po_And, sa_And⟩,
    y_And := fun H a dx fs e => TyOf.ins e ⟨pg_And, hd_And, po_And, sa_And⟩ ha_And hn_ htk_ hm_And,
    k_And := ⟨mk_And, e_And_init, i_Joined_init, kc_And⟩,
    n_And_guard := n_And_guard,
    n_And_changes := n_And_changes,
    n_And_at := n_And_at,
    n_And_truth := n_And_truth,
    n_And_part := n_And_part,
    n_And_parts := n_And_parts,
    h_And_holds := ⟨e_And_holds, i_And_holds, k_And_holds⟩,
    m_Either := PySem.W.mg_of X G a_Either,
    c_Either := ⟨pg_Either, hd_Either, po_Either, sa_Either⟩,
    y_Either := fun H a dx fs e => TyOf.ins e ⟨pg_Either, hd_Either, po_Either, sa_Either⟩ ha_Either hn_ htk_ hm_Either,
    k_Either := ⟨mk_Either, e_Either_init, i_Joined_init, kc_Either⟩,
    n_Either_guard := n_Either_guard,
    n_Either_changes := n_Either_changes,
    n_Either_at := n_Either_at,
    n_Either_truth := n_Either_truth,
    n_Either_part := n_Either_part,
    n_Either_parts := n_Either_parts,
    h_Either_holds := ⟨e_Either_holds, i_Either_holds, k_Either_holds⟩,
    m_Or := PySem.W.mg_of X G a_Or,
    c_Or := ⟨pg_Or, hd_Or, po_Or, sa_Or⟩,
    y_Or := fun H a dx fs e => TyOf.ins e ⟨pg_Or, hd_Or, po_Or, sa_Or⟩ ha_Or hn_ htk_ hm_Or,
    k_Or := ⟨mk_Or, e_Or_init, i_Joined_init, kc_Or⟩,
    n_Or_guard := n_Or_guard,
    n_Or_changes := n_Or_changes,
    n_Or_at := n_Or_at,
    n_Or_truth := n_Or_truth,
    n_Or_part := n_Or_part,
    n_Or_parts := n_Or_parts,
    h_Or_holds := ⟨e_Or_holds, i_Or_holds, k_Or_holds⟩,
    x_Move_Formula := nd_ne nd_ (i := 0) (j := 1) rfl rfl (by decide),
    x_Move_Lamp := nd_ne nd_ (i := 0) (j := 2) rfl rfl (by decide),
    x_Move_Sure := nd_ne nd_ (i := 0) (j := 3) rfl rfl (by decide),
    x_Move_Not := nd_ne nd_ (i := 0) (j := 4) rfl rfl (by decide),
    x_Move_Joined := nd_ne nd_ (i := 0) (j := 5) rfl rfl (by decide),
    x_Move_And := nd_ne nd_ (i := 0) (j := 6) rfl rfl (by decide),
    x_Move_Either := nd_ne nd_ (i := 0) (j := 7) rfl rfl (by decide),
    x_Move_Or := nd_ne nd_ (i := 0) (j := 8) rfl rfl (by decide),
    x_Formula_Lamp := nd_ne nd_ (i := 1) (j := 2) rfl rfl (by decide),
    x_Formula_Sure := nd_ne nd_ (i := 1) (j := 3) rfl rfl (by decide),
    x_Formula_Not := nd_ne nd_ (i := 1) (j := 4) rfl rfl (by decide),
    x_Formula_Joined := nd_ne nd_ (i := 1) (j := 5) rfl rfl (by decide),
    x_Formula_And := nd_ne nd_ (i := 1) (j := 6) rfl rfl (by decide),
    x_Formula_Either := nd_ne nd_ (i := 1) (j := 7) rfl rfl (by decide),
    x_Formula_Or := nd_ne nd_ (i := 1) (j := 8) rfl rfl (by decide),
    x_Lamp_Sure := nd_ne nd_ (i := 2) (j := 3) rfl rfl (by decide),
    x_Lamp_Not := nd_ne nd_ (i := 2) (j := 4) rfl rfl (by decide),
    x_Lamp_Joined := nd_ne nd_ (i := 2) (j := 5) rfl rfl (by decide),
    x_Lamp_And := nd_ne nd_ (i := 2) (j := 6) rfl rfl (by decide),
    x_Lamp_Either := nd_ne nd_ (i := 2) (j := 7) rfl rfl (by decide),
    x_Lamp_Or := nd_ne nd_ (i := 2) (j := 8) rfl rfl (by decide),
    x_Sure_Not := nd_ne nd_ (i := 3) (j := 4) rfl rfl (by decide),
    x_Sure_Joined := nd_ne nd_ (i := 3) (j := 5) rfl rfl (by decide),
    x_Sure_And := nd_ne nd_ (i := 3) (j := 6) rfl rfl (by decide),
    x_Sure_Either := nd_ne nd_ (i := 3) (j := 7) rfl rfl (by decide),
    x_Sure_Or := nd_ne nd_ (i := 3) (j := 8) rfl rfl (by decide),
    x_Not_Joined := nd_ne nd_ (i := 4) (j := 5) rfl rfl (by decide),
    x_Not_And := nd_ne nd_ (i := 4) (j := 6) rfl rfl (by decide),
    x_Not_Either := nd_ne nd_ (i := 4) (j := 7) rfl rfl (by decide),
    x_Not_Or := nd_ne nd_ (i := 4) (j := 8) rfl rfl (by decide),
    x_Joined_And := nd_ne nd_ (i := 5) (j := 6) rfl rfl (by decide),
    x_Joined_Either := nd_ne nd_ (i := 5) (j := 7) rfl rfl (by decide),
    x_Joined_Or := nd_ne nd_ (i := 5) (j := 8) rfl rfl (by decide),
    x_And_Either := nd_ne nd_ (i := 6) (j := 7) rfl rfl (by decide),
    x_And_Or := nd_ne nd_ (i := 6) (j := 8) rfl rfl (by decide),
    x_Either_Or := nd_ne nd_ (i := 7) (j := 8) rfl rfl (by decide),
    bl := fun s u => .of_eq rfl,
    B := ⟨PySem.W.mg_none_of X G b_len, PySem.W.mg_none_of X G b_range, PySem.W.mg_none_of X G b_isinstance, PySem.W.mg_none_of X G b_int, PySem.W.mg_none_of X G b_bool, PySem.W.mg_none_of X G b_str, PySem.W.mg_none_of X G b_list, PySem.W.mg_none_of X G b_tuple, PySem.W.mg_none_of X G b_dict, PySem.W.mg_none_of X G b_set, PySem.W.mg_none_of X G b_sorted, PySem.W.mg_none_of X G b_max, PySem.W.mg_none_of X G b_min, PySem.W.mg_none_of X G b_sum, PySem.W.mg_none_of X G b_any, PySem.W.mg_none_of X G b_all, PySem.W.mg_none_of X G b_abs, PySem.W.mg_none_of X G b_reversed, PySem.W.mg_none_of X G b_enumerate, PySem.W.mg_none_of X G b_zip⟩ }
theorem and_nat (x y : Nat) : Builtin.bitAnd (x : Int) (y : Int) = ((x &&& y : Nat) : Int) := by simp [Builtin.bitAnd]
theorem not_not (x : Int) : Builtin.bitNot (Builtin.bitNot x) = x := by unfold Builtin.bitNot; omega
theorem or_nat (x y : Nat) : Builtin.bitOr (x : Int) (y : Int) = ((x ||| y : Nat) : Int) := by
  show Builtin.bitNot (Builtin.bitAnd (Builtin.bitNot x) (Builtin.bitNot y)) = _
  rw [PyProof.Rows.bitAnd_nn (by unfold Builtin.bitNot; omega) (by unfold Builtin.bitNot; omega), not_not, not_not, not_not]
  simp
theorem xor_nat (x y : Nat) : Builtin.bitXor (x : Int) (y : Int) = ((x ^^^ y : Nat) : Int) := by
  show Builtin.bitOr x y - Builtin.bitAnd x y = _
  rw [or_nat, and_nat, or_split (x + 1) x y (by omega)]
  omega

def cell (ns : List Int) (k : Nat) : Int := ns.getD k 0
def spLaw (K : PySem.W.Frag) : Sp := fun vs H Q _ => ∃ (a : Addr) (ns : List Int), vs = [.ref a] ∧ SqL K H a (ns.map V.int) ∧ ns.length ≤ 63 ∧ Only H ∧ ∀ H', Q (.bl true) H'
def spCell (K : PySem.W.Frag) : Sp := fun vs H Q _ => ∃ (a : Addr) (ns : List Int) (k : Nat), vs = [.ref a, .int (k : Int)] ∧ SqL K H a (ns.map V.int) ∧ Q (.int (cell ns k)) H
section
variable {P : Program} {w : World} {K : PySem.W.Frag} {mg : Str → Option Value} {base : Heap} {t : Ad}
theorem ok_cell_at (T : Txt K mg t) : FnS P w K mg base 1 "_law_cell_at" ["_law_script", "_law_k"] (spCell K) := by
  refine ⟨_, _, T.F__law_cell_at.ok sc__law_cell_at (fun vs H Q E h => ?_) (fun cdv A outer s H vs Q E hr h => ?_), T.b__law_cell_at, T.F__law_cell_at.kp, T.m__law_cell_at⟩
  · obtain ⟨a, ns, k, rfl, _⟩ := h
    rfl
  · obtain ⟨a, ns, k, rfl, hS, q⟩ := h
    refine ⟨_, (pss_cons (ps_if (pt_cmpR op_lt (pv 1) (pe_callB call_lenG rfl T.B.len bt_len (pa_cons (pv 0) pa_nil)) (nomark _))
      (pss_one (ps_ret (pe_ix ix_seq (pv 0) (pv 1) (fun _ _ => rfl))))
      pss_nil)
      (pss_one (ps_ret pe_int))), ?_⟩
    walk_at "rd0"
    refine i_ifd (fun h => ?_) (fun h => ?_)
    · rw [List.length_map] at h
      have hk : k < ns.length := by omega
      walk_at "rd"
      refine i_ixS (j := k) (v := .int (cell ns k)) hS ?_ q
      rw [List.getElem?_map, List.getElem?_eq_getElem hk]
      simp [cell, List.getD_eq_getElem?_getD, List.getElem?_eq_getElem hk]
    · rw [List.length_map] at h
      walk_at "rd"
      have e : cell ns k = 0 := by
        simp only [cell, List.getD_eq_getElem?_getD]
        rw [List.getElem?_eq_none (by omega)]
        rfl
      rw [e] at q
      exact q
end

def cw (t : Ad) : W3 → Addr
  | .a => t.C_And
  | .e => t.C_Either
  | .o => t.C_Or
def FmAt (t : Ad) (H : Hp) : Nat → Addr → Fm → Prop
  | 0, _, _ => False
  | n + 1, p, f => match f with
    | .lamp k => ∃ dx, H p = some (.ins t.C_Lamp dx [(("at" : Str), .int (k : Int))])
    | .sure b => ∃ dx, H p = some (.ins t.C_Sure dx [(("truth" : Str), .bl b)])
    | .neg g => ∃ dx q, H p = some (.ins t.C_Not dx [(("part" : Str), .ref q)]) ∧ FmAt t H n q g
    | .join w gs => ∃ dx tp ps, H p = some (.ins (cw t w) dx [(("parts" : Str), .ref tp)]) ∧ H tp = some (.tup (ps.map V.ref)) ∧ Paired (FmAt t H n) ps gs
def isFm (t : Ad) (C : Addr) : Prop := C = t.C_Lamp ∨ C = t.C_Sure ∨ C = t.C_Not ∨ C = t.C_And ∨ C = t.C_Either ∨ C = t.C_Or
theorem paired_imp {α β : Type} {F G : α → β → Prop} (h : ∀ a b, F a b → G a b) : ∀ {xs : List α} {ys : List β}, Paired F xs ys → Paired G xs ys
  | _, _, .nil => .nil
  | _, _, .cons r s => .cons (h _ _ r) (paired_imp h s)
theorem paired_get {α β : Type} {F : α → β → Prop} : ∀ {xs : List α} {ys : List β} {i : Nat} {x : α}, Paired F xs ys → xs[i]? = some x → ∃ y, ys[i]? = some y ∧ F x y
  | _, _, _, _, .nil, e => by simp at e
  | _, _, 0, _, .cons r _, e => by simp at e; subst e; exact ⟨_, rfl, r⟩
  | _, _, i + 1, x, .cons _ s, e => by
    obtain ⟨u, h1, h2⟩ := paired_get (i := i) (x := x) s (by simpa using e)
    exact ⟨u, by simpa using h1, h2⟩
theorem paired_append {α β : Type} {F : α → β → Prop} : ∀ {xs xs' : List α} {ys ys' : List β}, Paired F xs ys → Paired F xs' ys' → Paired F (xs ++ xs') (ys ++ ys')
  | _, _, _, _, .nil, s => s
  | _, _, _, _, .cons r q, s => .cons r (paired_append q s)
theorem paired_take {α β : Type} {F : α → β → Prop} : ∀ {xs : List α} {ys : List β} (n : Nat), Paired F xs ys → Paired F (xs.take n) (ys.take n)
  | _, _, 0, _ => by rw [List.take_zero, List.take_zero]; exact .nil
  | _, _, _ + 1, .nil => by rw [List.take_nil, List.take_nil]; exact .nil
  | _, _, n + 1, .cons r q => by rw [List.take_succ_cons, List.take_succ_cons]; exact .cons r (paired_take n q)
theorem paired_drop {α β : Type} {F : α → β → Prop} : ∀ {xs : List α} {ys : List β} (n : Nat), Paired F xs ys → Paired F (xs.drop n) (ys.drop n)
  | _, _, 0, q => q
  | _, _, _ + 1, .nil => by rw [List.drop_nil, List.drop_nil]; exact .nil
  | _, _, n + 1, .cons r q => by rw [List.drop_succ_cons, List.drop_succ_cons]; exact paired_drop n q
theorem paired_len {α β : Type} {F : α → β → Prop} {xs : List α} {ys : List β} (h : Paired F xs ys) : xs.length = ys.length := Paired.length h
theorem paired_snoc {α β : Type} {F : α → β → Prop} {xs : List α} {ys : List β} {x : α} {y : β} (h : Paired F (xs ++ [x]) (ys ++ [y])) : Paired F xs ys ∧ F x y := by
  have hl : xs.length = ys.length := by have := paired_len h; simpa using this
  have a := paired_take xs.length h
  have b := paired_drop xs.length h
  rw [List.take_left, hl, List.take_left] at a
  rw [List.drop_left, hl, List.drop_left] at b
  cases b with
  | cons r _ => exact ⟨a, r⟩
theorem get_ref {ps : List Addr} {i : Nat} {x : V} (h : (ps.map V.ref)[i]? = some x) : ∃ p, x = V.ref p ∧ ps[i]? = some p := by
  rw [List.getElem?_map] at h
  cases e : ps[i]? with
  | none => rw [e] at h; cases h
  | some p => rw [e] at h; exact ⟨p, (Option.some.inj h).symm, rfl⟩
theorem take_snoc {α : Type} {l : List α} {i : Nat} {x : α} (h : l[i]? = some x) : l.take (i + 1) = l.take i ++ [x] := by
  rw [List.take_add_one, h]; rfl
section
variable {P : Program} {w : World} {K : PySem.W.Frag} {mg : Str → Option Value} {base : Heap} {t : Ad} {H H' : Hp} {n : Nat} {p : Addr} {f : Fm}
theorem FmAt.mono (s : Ext H H') : ∀ {n : Nat} {p : Addr} {f : Fm}, FmAt t H n p f → FmAt t H' n p f
  | 0, _, _, h => h
  | n + 1, p, f, h => by
    cases f with
    | lamp k => obtain ⟨dx, e⟩ := h; exact ⟨dx, s _ _ e (fun _ z => nomatch z)⟩
    | sure b => obtain ⟨dx, e⟩ := h; exact ⟨dx, s _ _ e (fun _ z => nomatch z)⟩
    | neg g => obtain ⟨dx, q, e, h⟩ := h; exact ⟨dx, q, s _ _ e (fun _ z => nomatch z), FmAt.mono s h⟩
    | join w gs => obtain ⟨dx, tp, ps, e, e2, h⟩ := h; exact ⟨dx, tp, ps, s _ _ e (fun _ z => nomatch z), s _ _ e2 (fun _ z => nomatch z), paired_imp (fun a b h => FmAt.mono s h) h⟩
theorem FmAt.le : ∀ {n m : Nat} {p : Addr} {f : Fm}, n ≤ m → FmAt t H n p f → FmAt t H m p f
  | 0, _, _, _, _, h => h.elim
  | n + 1, 0, _, _, hm, _ => absurd hm (by omega)
  | n + 1, m + 1, p, f, hm, h => by
    have hm' : n ≤ m := by omega
    cases f with
    | lamp k => exact h
    | sure b => exact h
    | neg g => obtain ⟨dx, q, e, h⟩ := h; exact ⟨dx, q, e, FmAt.le hm' h⟩
    | join w gs => obtain ⟨dx, tp, ps, e, e2, h⟩ := h; exact ⟨dx, tp, ps, e, e2, paired_imp (fun a b h => FmAt.le hm' h) h⟩
theorem isFm_cw (t : Ad) (w : W3) : isFm t (cw t w) := by
  cases w
  · exact .inr (.inr (.inr (.inl rfl)))
  · exact .inr (.inr (.inr (.inr (.inl rfl))))
  · exact .inr (.inr (.inr (.inr (.inr rfl))))
theorem FmAt.ins (h : FmAt t H n p f) (m : Str) (h1 : ¬ m = "at") (h2 : ¬ m = "truth") (h3 : ¬ m = "part") (h4 : ¬ m = "parts") : ∃ C dx fs, H p = some (.ins C dx fs) ∧ isFm t C ∧ fs.lookup m = none := by
  cases n with
  | zero => exact h.elim
  | succ n =>
    cases f with
    | lamp k => obtain ⟨dx, e⟩ := h; exact ⟨_, dx, _, e, .inl rfl, lk0 _ h1⟩
    | sure b => obtain ⟨dx, e⟩ := h; exact ⟨_, dx, _, e, .inr (.inl rfl), lk0 _ h2⟩
    | neg g => obtain ⟨dx, q, e, h⟩ := h; exact ⟨_, dx, _, e, .inr (.inr (.inl rfl)), lk0 _ h3⟩
    | join w gs => obtain ⟨dx, tp, ps, e, e2, h⟩ := h; exact ⟨_, dx, _, e, isFm_cw t w, lk0 _ h4⟩
theorem FmAt.lamp {dx : Addr} {fs : List (Str × V)} (T : Txt K mg t) (h : FmAt t H (n + 1) p f) (e : H p = some (.ins t.C_Lamp dx fs)) : ∃ k : Nat, f = .lamp k ∧ fs = [(("at" : Str), .int (k : Int))] := by
  cases f with
  | lamp k => obtain ⟨dx', e'⟩ := h; rw [e] at e'; injection e' with e'; injection e' with _ _ e'; exact ⟨k, rfl, e'⟩
  | sure b => obtain ⟨dx', e'⟩ := h; rw [e] at e'; injection e' with e'; injection e' with e' _ _; exact absurd e' T.x_Lamp_Sure
  | neg g => obtain ⟨dx', q, e', _⟩ := h; rw [e] at e'; injection e' with e'; injection e' with e' _ _; exact absurd e' T.x_Lamp_Not
  | join w gs => obtain ⟨dx', tp, ps, e', _⟩ := h; rw [e] at e'; injection e' with e'; injection e' with e' _ _; cases w; exact absurd e' T.x_Lamp_And; exact absurd e' T.x_Lamp_Either; exact absurd e' T.x_Lamp_Or
theorem FmAt.sure {dx : Addr} {fs : List (Str × V)} (T : Txt K mg t) (h : FmAt t H (n + 1) p f) (e : H p = some (.ins t.C_Sure dx fs)) : ∃ b : Bool, f = .sure b ∧ fs = [(("truth" : Str), .bl b)] := by
  cases f with
  | lamp k => obtain ⟨dx', e'⟩ := h; rw [e] at e'; injection e' with e'; injection e' with e' _ _; exact absurd e'.symm T.x_Lamp_Sure
  | sure b => obtain ⟨dx', e'⟩ := h; rw [e] at e'; injection e' with e'; injection e' with _ _ e'; exact ⟨b, rfl, e'⟩
  | neg g => obtain ⟨dx', q, e', _⟩ := h; rw [e] at e'; injection e' with e'; injection e' with e' _ _; exact absurd e' T.x_Sure_Not
  | join w gs => obtain ⟨dx', tp, ps, e', _⟩ := h; rw [e] at e'; injection e' with e'; injection e' with e' _ _; cases w; exact absurd e' T.x_Sure_And; exact absurd e' T.x_Sure_Either; exact absurd e' T.x_Sure_Or
theorem FmAt.neg {dx : Addr} {fs : List (Str × V)} (T : Txt K mg t) (h : FmAt t H (n + 1) p f) (e : H p = some (.ins t.C_Not dx fs)) : ∃ g q, f = .neg g ∧ fs = [(("part" : Str), .ref q)] ∧ FmAt t H n q g := by
  cases f with
  | lamp k => obtain ⟨dx', e'⟩ := h; rw [e] at e'; injection e' with e'; injection e' with e' _ _; exact absurd e'.symm T.x_Lamp_Not
  | sure b => obtain ⟨dx', e'⟩ := h; rw [e] at e'; injection e' with e'; injection e' with e' _ _; exact absurd e'.symm T.x_Sure_Not
  | neg g => obtain ⟨dx', q, e', h⟩ := h; rw [e] at e'; injection e' with e'; injection e' with _ _ e'; exact ⟨g, q, rfl, e', h⟩
  | join w gs => obtain ⟨dx', tp, ps, e', _⟩ := h; rw [e] at e'; injection e' with e'; injection e' with e' _ _; cases w; exact absurd e' T.x_Not_And; exact absurd e' T.x_Not_Either; exact absurd e' T.x_Not_Or
theorem cw_inj (T : Txt K mg t) {v w : W3} (e : cw t v = cw t w) : v = w := by
  cases v <;> cases w <;> first
    | rfl
    | exact absurd e T.x_And_Either
    | exact absurd e T.x_And_Or
    | exact absurd e T.x_Either_Or
    | exact absurd e.symm T.x_And_Either
    | exact absurd e.symm T.x_And_Or
    | exact absurd e.symm T.x_Either_Or
theorem FmAt.join {dx : Addr} {fs : List (Str × V)} {w : W3} (T : Txt K mg t) (h : FmAt t H (n + 1) p f) (e : H p = some (.ins (cw t w) dx fs)) :
    ∃ gs tp ps, f = .join w gs ∧ fs = [(("parts" : Str), .ref tp)] ∧ H tp = some (.tup (ps.map V.ref)) ∧ Paired (FmAt t H n) ps gs := by
  cases f with
  | lamp k => obtain ⟨dx', e'⟩ := h; rw [e] at e'; injection e' with e'; injection e' with e' _ _; cases w; exact absurd e'.symm T.x_Lamp_And; exact absurd e'.symm T.x_Lamp_Either; exact absurd e'.symm T.x_Lamp_Or
  | sure b => obtain ⟨dx', e'⟩ := h; rw [e] at e'; injection e' with e'; injection e' with e' _ _; cases w; exact absurd e'.symm T.x_Sure_And; exact absurd e'.symm T.x_Sure_Either; exact absurd e'.symm T.x_Sure_Or
  | neg g => obtain ⟨dx', q, e', _⟩ := h; rw [e] at e'; injection e' with e'; injection e' with e' _ _; cases w; exact absurd e'.symm T.x_Not_And; exact absurd e'.symm T.x_Not_Either; exact absurd e'.symm T.x_Not_Or
  | join v gs =>
    obtain ⟨dx', tp, ps, e', e2, h⟩ := h
    rw [e] at e'; injection e' with e'; injection e' with e1 _ e3
    obtain rfl := cw_inj T e1
    exact ⟨gs, tp, ps, rfl, e3, e2, h⟩
theorem ok_Lamp (T : Txt K mg t) : MkS P w K mg base 1 "Lamp" t.C_Lamp ["self", "at"] (spInit1 t.C_Lamp "at") := by
  refine ⟨T.m_Lamp, _, _, T.k_Lamp, T.F_Lamp_init.ok sc_Lamp_init (fun vs H Q E h => ?_) (fun cdv A outer s H vs Q E hr h => ?_), T.b_Lamp_init⟩
  · obtain ⟨p, dx, v, rfl, _⟩ := h
    rfl
  · obtain ⟨p, dx, v, rfl, hp, q⟩ := h
    refine ⟨_, (pss_one (ps_fld (pv 0) (pv 1) rfl)), ?_⟩
    walk_at "rd0"
    exact ⟨p, _, _, _, rfl, hp, T.c_Lamp, T.n_Lamp_at, by decide, q⟩
theorem ok_Sure (T : Txt K mg t) : MkS P w K mg base 1 "Sure" t.C_Sure ["self", "truth"] (spInit1 t.C_Sure "truth") := by
  refine ⟨T.m_Sure, _, _, T.k_Sure, T.F_Sure_init.ok sc_Sure_init (fun vs H Q E h => ?_) (fun cdv A outer s H vs Q E hr h => ?_), T.b_Sure_init⟩
  · obtain ⟨p, dx, v, rfl, _⟩ := h
    rfl
  · obtain ⟨p, dx, v, rfl, hp, q⟩ := h
    refine ⟨_, (pss_one (ps_fld (pv 0) (pv 1) rfl)), ?_⟩
    walk_at "rd0"
    exact ⟨p, _, _, _, rfl, hp, T.c_Sure, T.n_Sure_truth, by decide, q⟩
theorem ok_Not (T : Txt K mg t) : MkS P w K mg base 1 "Not" t.C_Not ["self", "part"] (spInit1 t.C_Not "part") := by
  refine ⟨T.m_Not, _, _, T.k_Not, T.F_Not_init.ok sc_Not_init (fun vs H Q E h => ?_) (fun cdv A outer s H vs Q E hr h => ?_), T.b_Not_init⟩
  · obtain ⟨p, dx, v, rfl, _⟩ := h
    rfl
  · obtain ⟨p, dx, v, rfl, hp, q⟩ := h
    refine ⟨_, (pss_one (ps_fld (pv 0) (pv 1) rfl)), ?_⟩
    walk_at "rd0"
    exact ⟨p, _, _, _, rfl, hp, T.c_Not, T.n_Not_part, by decide, q⟩
def spInitJ (C : Addr) : Sp := fun vs H Q _ => ∃ p dx l ys, vs = [.ref p, .ref l] ∧ H p = some (.ins C dx []) ∧ H l = some (.lst ys) ∧ ∀ tp, H tp = none → Q .non (upd (upd H tp (.tup ys)) p (.ins C dx [(("parts" : Str), .ref tp)]))
theorem ok_JoinedC {C : Addr} (T : Txt K mg t) (cl : Cls K C) (na : NoAttr K C "parts") : FnOk P w K mg base CX0 1 t.f_Joined_init t.d_Joined_init ["self", "parts"] (spInitJ C) := by
  refine T.F_Joined_init.ok sc_Joined_init (fun vs H Q E h => ?_) (fun cdv A outer s H vs Q E hr h => ?_)
  · obtain ⟨p, dx, l, ys, rfl, _⟩ := h
    rfl
  · obtain ⟨p, dx, l, ys, rfl, hp, hl, q⟩ := h
    refine ⟨_, (pss_one (ps_fld (pv 0) (pe_callTy call_tupleG rfl T.B.tuple bt_tuple (pa_cons (pv 1) pa_nil)) rfl)), ?_⟩
    walk_at "rd0"
    refine i_tupL hl fun tp htp => ?_
    walk_at "rd"
    exact ⟨p, _, _, _, rfl, by rw [upd_ne (ne_of_none hp htp)]; exact hp, cl, na, by decide, q tp htp⟩
theorem ok_And (T : Txt K mg t) : MkS P w K mg base 1 "And" t.C_And ["self", "parts"] (spInitJ t.C_And) := ⟨T.m_And, _, _, T.k_And, ok_JoinedC T T.c_And T.n_And_parts, T.b_Joined_init⟩
theorem ok_Either (T : Txt K mg t) : MkS P w K mg base 1 "Either" t.C_Either ["self", "parts"] (spInitJ t.C_Either) := ⟨T.m_Either, _, _, T.k_Either, ok_JoinedC T T.c_Either T.n_Either_parts, T.b_Joined_init⟩
theorem ok_Or (T : Txt K mg t) : MkS P w K mg base 1 "Or" t.C_Or ["self", "parts"] (spInitJ t.C_Or) := ⟨T.m_Or, _, _, T.k_Or, ok_JoinedC T T.c_Or T.n_Or_parts, T.b_Joined_init⟩
theorem i_initJ {C l : Addr} {ys : List V} {H : Hp} {Q : VK} (hl : H l = some (.lst ys)) (h : ∀ (x dx tp : Addr) (H' : Hp), Same H H' → H x = none → H' x = some (.ins C dx [(("parts" : Str), .ref tp)]) → H' tp = some (.tup ys) → Q (.ref x) H') :
    MkG C (spInitJ C) [.ref l] H Q := by
  intro x dx hx hdx ne
  have s2 := same_new2 hx hdx (.ins C dx []) (.own x)
  refine ⟨x, dx, l, ys, rfl, upd_same, s2 _ _ hl, fun tp htp => ⟨rfl, ?_⟩⟩
  have hxt : tp ≠ x := by
    intro e; subst e; rw [upd_same] at htp; cases htp
  have htp0 : H tp = none := s2.free htp
  refine h x dx tp _ (fun b o e => ?_) hx upd_same (by rw [upd_ne hxt, upd_same])
  rw [upd_ne (ne_of_none e hx), upd_ne (ne_of_none e htp0), upd_ne (ne_of_none e hx), upd_ne (ne_of_none e hdx)]
  exact e
end

def spHolds (t : Ad) (n : Nat) : Sp := fun vs H Q _ => ∃ (p : Addr) (s : Nat) (f : Fm), vs = [.ref p, .int (s : Int)] ∧ FmAt t H n p f ∧ Q (.bl (f.holds s)) H
theorem lit_eq (s k : Nat) : decide (Builtin.bitAnd ((s : Int) / 2 ^ ((k : Int)).toNat) 1 = 1) = s.testBit k := by
  have e : ((s : Int) / 2 ^ ((k : Int)).toNat) = ((s / 2 ^ k : Nat) : Int) := by simp
  have h : Builtin.bitAnd ((s : Int) / 2 ^ ((k : Int)).toNat) 1 = ((s / 2 ^ k % 2 : Nat) : Int) := by
    rw [e, show (1 : Int) = ((1 : Nat) : Int) from rfl, and_nat, Nat.and_one_is_mod]
  rw [h, lit_iff]
  exact decide_eq_decide.mpr (by omega)
section
variable {P : Program} {w : World} {K : PySem.W.Frag} {mg : Str → Option Value} {base : Heap} {t : Ad} {n : Nat}
theorem ok_Lamp_holds (T : Txt K mg t) : MeS P w K mg base (n + 1) t.C_Lamp "holds" ["self", "stand"] (spAt (spHolds t (n + 1)) t.C_Lamp) := by
  refine ⟨T.c_Lamp, _, _, T.F_Lamp_holds.ok sc_Lamp_holds (fun vs H Q E h => ?_) (fun cdv A outer s H vs Q E hr h => ?_), T.b_Lamp_holds, T.h_Lamp_holds⟩
  · obtain ⟨⟨p, s, f, rfl, _⟩, _⟩ := h
    rfl
  · obtain ⟨⟨p, s, f, rfl, hf, q⟩, a, dx, fs, r, e, ea⟩ := h
    cases e
    obtain ⟨k, rfl, rfl⟩ := hf.lamp T ea
    refine ⟨_, (pss_one (ps_ret (pe_cmpR (op_eqA hr.units) (pe_op op_and (pe_op op_shr (pv 1) (pe_fld (pv 0) rfl)) pe_int) pe_int (nomark _)))), ?_⟩
    walk_at "rd0"
    refine ⟨p, _, _, _, _, rfl, ea, T.c_Lamp, T.n_Lamp_at, lk1 _ _, ?_⟩
    walk_at "rd"
    rw [lit_eq]
    simpa [Fm.holds] using q
theorem ok_Sure_holds (T : Txt K mg t) : MeS P w K mg base (n + 1) t.C_Sure "holds" ["self", "stand"] (spAt (spHolds t (n + 1)) t.C_Sure) := by
  refine ⟨T.c_Sure, _, _, T.F_Sure_holds.ok sc_Sure_holds (fun vs H Q E h => ?_) (fun cdv A outer s H vs Q E hr h => ?_), T.b_Sure_holds, T.h_Sure_holds⟩
  · obtain ⟨⟨p, s, f, rfl, _⟩, _⟩ := h
    rfl
  · obtain ⟨⟨p, s, f, rfl, hf, q⟩, a, dx, fs, r, e, ea⟩ := h
    cases e
    obtain ⟨b, rfl, rfl⟩ := hf.sure T ea
    refine ⟨_, (pss_one (ps_ret (pe_fld (pv 0) rfl))), ?_⟩
    walk_at "rd0"
    exact ⟨p, _, _, _, _, rfl, ea, T.c_Sure, T.n_Sure_truth, lk1 _ _, by simpa [Fm.holds] using q⟩
theorem ok_Not_holds (T : Txt K mg t) (D_holds : ∀ C, isFm t C → MeS P w K mg base n C "holds" ["self", "stand"] (spAt (spHolds t n) C)) : MeS P w K mg base (n + 1) t.C_Not "holds" ["self", "stand"] (spAt (spHolds t (n + 1)) t.C_Not) := by
  refine ⟨T.c_Not, _, _, T.F_Not_holds.ok sc_Not_holds (fun vs H Q E h => ?_) (fun cdv A outer s H vs Q E hr h => ?_), T.b_Not_holds, T.h_Not_holds⟩
  · obtain ⟨⟨p, s, f, rfl, _⟩, _⟩ := h
    rfl
  · obtain ⟨⟨p, s, f, rfl, hf, q⟩, a, dx, fs, r, e, ea⟩ := h
    cases e
    obtain ⟨g, p', rfl, rfl, hg⟩ := hf.neg T ea
    obtain ⟨C, dx', fs', e', hC, hl⟩ := hg.ins "holds" (by decide +kernel) (by decide +kernel) (by decide +kernel) (by decide +kernel)
    refine ⟨_, (pss_one (ps_ret (pe_notG (pe_dy D_holds hr (pe_fld (pv 0) rfl) (pa_cons (pv 1) pa_nil))))), ?_⟩
    walk_at "rd0"
    refine ⟨p, _, _, _, _, rfl, ea, T.c_Not, T.n_Not_part, lk1 _ _, ?_⟩
    walk_at "rd"
    refine ⟨p', C, dx', fs', rfl, e', hC, hl, ?_⟩
    walk_at "rd"
    refine ⟨e', p', s, g, rfl, hg, ?_⟩
    walk_at "rd"
    simpa [Fm.holds] using q
theorem ok_And_holds (T : Txt K mg t) (D_holds : ∀ C, isFm t C → MeS P w K mg base n C "holds" ["self", "stand"] (spAt (spHolds t n) C)) : MeS P w K mg base (n + 1) t.C_And "holds" ["self", "stand"] (spAt (spHolds t (n + 1)) t.C_And) := by
  refine ⟨T.c_And, _, _, T.F_And_holds.ok sc_And_holds (fun vs H Q E h => ?_) (fun cdv A outer s H vs Q E hr h => ?_), T.b_And_holds, T.h_And_holds⟩
  · obtain ⟨⟨p, s, f, rfl, _⟩, _⟩ := h
    rfl
  · obtain ⟨⟨p, s, f, rfl, hf, q⟩, a, dx, fs, r, e, ea⟩ := h
    cases e
    obtain ⟨gs, tp, ps, rfl, rfl, htp, hg⟩ := hf.join (w := .a) T ea
    refine ⟨_, (pss_cons (ps_for PassesOwn.never rfl (pi_seq (pe_fld (pv 0) rfl)) (sg 2 sc_And_holds.nd)
      (pss_one (ps_if (pt_not (pt_truth (pe_dy D_holds hr (pv 2) (pa_cons (pv 1) pa_nil)) (fun _ => rfl)))
      (pss_one (ps_ret pe_bl))
      pss_nil)))
      (pss_one (ps_ret pe_bl))), ?_⟩
    walk_at "rd0"
    refine ⟨p, _, _, _, _, rfl, ea, T.c_And, T.n_And_parts, lk1 _ _, ?_⟩
    refine seqT (xs := ps.map V.ref) (fun i σ H' => H' = H ∧ comb .a ((gs.take i).map (Fm.holds s)) = true ∧ ∃ v, σ = [some (.ref p), some (.int (s : Int)), v]) ⟨rfl, rfl, _, rfl⟩ (fun i σ H' _ hp => by obtain ⟨rfl, _⟩ := hp; exact SqT.of htp) ?_ ?_
    · rintro i x σ H' hx ⟨rfl, hc, v, rfl⟩
      obtain ⟨p', rfl, hx'⟩ := get_ref hx
      obtain ⟨g, hgi, hf'⟩ := paired_get hg hx'
      obtain ⟨C, dx', fs', e', hC, hl⟩ := hf'.ins "holds" (by decide +kernel) (by decide +kernel) (by decide +kernel) (by decide +kernel)
      walk_at "rd"
      refine ⟨p', C, dx', fs', rfl, e', hC, hl, ?_⟩
      walk_at "rd"
      refine ⟨e', p', s, g, rfl, hf', ?_⟩
      walk_at "rd"
      refine i_ifb (fun hb => ?_) (fun hb => ?_)
      · walk_at "rd"
        have hz : (Fm.join .a gs).holds s = false := by
          rw [holds_join]
          have hm : g ∈ gs := List.mem_of_getElem? hgi
          have hgf : g.holds s = false := by simpa using hb
          simp only [comb]
          rw [List.all_eq_false]
          exact ⟨_, List.mem_map_of_mem hm, by simp [hgf]⟩
        rw [hz] at q
        exact q
      · walk_at "rd"
        refine ⟨rfl, ?_, _, rfl⟩
        have hgt : g.holds s = true := by simpa using hb
        rw [take_snoc hgi, List.map_append, List.map_cons, List.map_nil, comb_snoc_a, hc, hgt]
        rfl
    · rintro σ H' ⟨rfl, hc, v, rfl⟩
      walk_at "rd"
      rw [List.length_map, paired_len hg, List.take_length] at hc
      rw [holds_join, hc] at q
      exact q
theorem ok_Or_holds (T : Txt K mg t) (D_holds : ∀ C, isFm t C → MeS P w K mg base n C "holds" ["self", "stand"] (spAt (spHolds t n) C)) : MeS P w K mg base (n + 1) t.C_Or "holds" ["self", "stand"] (spAt (spHolds t (n + 1)) t.C_Or) := by
  refine ⟨T.c_Or, _, _, T.F_Or_holds.ok sc_Or_holds (fun vs H Q E h => ?_) (fun cdv A outer s H vs Q E hr h => ?_), T.b_Or_holds, T.h_Or_holds⟩
  · obtain ⟨⟨p, s, f, rfl, _⟩, _⟩ := h
    rfl
  · obtain ⟨⟨p, s, f, rfl, hf, q⟩, a, dx, fs, r, e, ea⟩ := h
    cases e
    obtain ⟨gs, tp, ps, rfl, rfl, htp, hg⟩ := hf.join (w := .o) T ea
    refine ⟨_, (pss_cons (ps_for PassesOwn.never rfl (pi_seq (pe_fld (pv 0) rfl)) (sg 2 sc_Or_holds.nd)
      (pss_one (ps_if (pt_truth (pe_dy D_holds hr (pv 2) (pa_cons (pv 1) pa_nil)) (fun _ => rfl))
      (pss_one (ps_ret pe_bl))
      pss_nil)))
      (pss_one (ps_ret pe_bl))), ?_⟩
    walk_at "rd0"
    refine ⟨p, _, _, _, _, rfl, ea, T.c_Or, T.n_Or_parts, lk1 _ _, ?_⟩
    refine seqT (xs := ps.map V.ref) (fun i σ H' => H' = H ∧ comb .o ((gs.take i).map (Fm.holds s)) = false ∧ ∃ v, σ = [some (.ref p), some (.int (s : Int)), v]) ⟨rfl, rfl, _, rfl⟩ (fun i σ H' _ hp => by obtain ⟨rfl, _⟩ := hp; exact SqT.of htp) ?_ ?_
    · rintro i x σ H' hx ⟨rfl, hc, v, rfl⟩
      obtain ⟨p', rfl, hx'⟩ := get_ref hx
      obtain ⟨g, hgi, hf'⟩ := paired_get hg hx'
      obtain ⟨C, dx', fs', e', hC, hl⟩ := hf'.ins "holds" (by decide +kernel) (by decide +kernel) (by decide +kernel) (by decide +kernel)
      walk_at "rd"
      refine ⟨p', C, dx', fs', rfl, e', hC, hl, ?_⟩
      walk_at "rd"
      refine ⟨e', p', s, g, rfl, hf', ?_⟩
      walk_at "rd"
      refine i_ifb (fun hb => ?_) (fun hb => ?_)
      · walk_at "rd"
        have hz : (Fm.join .o gs).holds s = true := by
          rw [holds_join]
          have hm : g ∈ gs := List.mem_of_getElem? hgi
          simp only [comb]
          rw [List.any_eq_true]
          exact ⟨_, List.mem_map_of_mem hm, by simp [hb]⟩
        rw [hz] at q
        exact q
      · walk_at "rd"
        refine ⟨rfl, ?_, _, rfl⟩
        rw [take_snoc hgi, List.map_append, List.map_cons, List.map_nil, comb_snoc_o, hc, hb]
        rfl
    · rintro σ H' ⟨rfl, hc, v, rfl⟩
      walk_at "rd"
      rw [List.length_map, paired_len hg, List.take_length] at hc
      rw [holds_join, hc] at q
      exact q
theorem ok_Either_holds (T : Txt K mg t) (D_holds : ∀ C, isFm t C → MeS P w K mg base n C "holds" ["self", "stand"] (spAt (spHolds t n) C)) : MeS P w K mg base (n + 1) t.C_Either "holds" ["self", "stand"] (spAt (spHolds t (n + 1)) t.C_Either) := by
  refine ⟨T.c_Either, _, _, T.F_Either_holds.ok sc_Either_holds (fun vs H Q E h => ?_) (fun cdv A outer s H vs Q E hr h => ?_), T.b_Either_holds, T.h_Either_holds⟩
  · obtain ⟨⟨p, s, f, rfl, _⟩, _⟩ := h
    rfl
  · obtain ⟨⟨p, s, f, rfl, hf, q⟩, a, dx, fs, r, e, ea⟩ := h
    cases e
    obtain ⟨gs, tp, ps, rfl, rfl, htp, hg⟩ := hf.join (w := .e) T ea
    refine ⟨_, (pss_cons (ss 2 sc_Either_holds.nd pe_bl)
      (pss_cons (ps_for PassesOwn.never rfl (pi_seq (pe_fld (pv 0) rfl)) (sg 3 sc_Either_holds.nd)
      (pss_one (ps_if (pt_truth (pe_dy D_holds hr (pv 3) (pa_cons (pv 1) pa_nil)) (fun _ => rfl))
      (pss_one (ss 2 sc_Either_holds.nd (pe_notG (pv 2))))
      pss_nil)))
      (pss_one (ps_ret (pv 2))))), ?_⟩
    walk_at "rd0"
    refine ⟨p, _, _, _, _, rfl, ea, T.c_Either, T.n_Either_parts, lk1 _ _, ?_⟩
    refine seqT (xs := ps.map V.ref) (fun i σ H' => H' = H ∧ ∃ v, σ = [some (.ref p), some (.int (s : Int)), some (.bl (comb .e ((gs.take i).map (Fm.holds s)))), v]) ⟨rfl, _, rfl⟩ (fun i σ H' _ hp => by obtain ⟨rfl, _⟩ := hp; exact SqT.of htp) ?_ ?_
    · rintro i x σ H' hx ⟨rfl, v, rfl⟩
      obtain ⟨p', rfl, hx'⟩ := get_ref hx
      obtain ⟨g, hgi, hf'⟩ := paired_get hg hx'
      obtain ⟨C, dx', fs', e', hC, hl⟩ := hf'.ins "holds" (by decide +kernel) (by decide +kernel) (by decide +kernel) (by decide +kernel)
      have hs : comb .e ((gs.take (i + 1)).map (Fm.holds s)) = xor (comb .e ((gs.take i).map (Fm.holds s))) (g.holds s) := by
        rw [take_snoc hgi, List.map_append, List.map_cons, List.map_nil, comb_snoc_e]
      walk_at "rd"
      refine ⟨p', C, dx', fs', rfl, e', hC, hl, ?_⟩
      walk_at "rd"
      refine ⟨e', p', s, g, rfl, hf', ?_⟩
      walk_at "rd"
      refine i_ifb (fun hb => ?_) (fun hb => ?_)
      · walk_at "rd"
        refine ⟨rfl, some (.ref p'), ?_⟩
        rw [hs, hb, Bool.xor_true]
      · walk_at "rd"
        refine ⟨rfl, some (.ref p'), ?_⟩
        rw [hs, hb, Bool.xor_false]
    · rintro σ H' ⟨rfl, v, rfl⟩
      walk_at "rd"
      rw [List.length_map, paired_len hg, List.take_length]
      rw [holds_join] at q
      exact q
theorem me_none {C f : Addr} {fd : FuncData} {m : Str} {ps : List Str} {sp : Sp} (no : ∀ vs H Q E, ¬ sp vs H Q E) (c : Cls K C) (b : Binds K fd ps []) (h : Meth K C m f) : MeS P w K mg base 0 C m ps sp :=
  ⟨c, f, fd, ⟨fun vs H Q E h => absurd h (no vs H Q E), fun A outer s H args us vs Q E _ _ _ _ h => absurd h (no vs H Q E)⟩, b, h⟩
theorem D_holds_of (T : Txt K mg t) : ∀ n : Nat, ∀ C, isFm t C → MeS P w K mg base n C "holds" ["self", "stand"] (spAt (spHolds t n) C)
  | 0 => by
    have no : ∀ C vs H Q E, ¬ spAt (spHolds t 0) C vs H Q E := fun C vs H Q E h => by
      obtain ⟨⟨p, s, f, _, h, _⟩, _⟩ := h
      exact h
    rintro C (rfl | rfl | rfl | rfl | rfl | rfl)
    · exact me_none (no _) T.c_Lamp T.b_Lamp_holds T.h_Lamp_holds
    · exact me_none (no _) T.c_Sure T.b_Sure_holds T.h_Sure_holds
    · exact me_none (no _) T.c_Not T.b_Not_holds T.h_Not_holds
    · exact me_none (no _) T.c_And T.b_And_holds T.h_And_holds
    · exact me_none (no _) T.c_Either T.b_Either_holds T.h_Either_holds
    · exact me_none (no _) T.c_Or T.b_Or_holds T.h_Or_holds
  | n + 1 => by
    have ih := D_holds_of T n
    rintro C (rfl | rfl | rfl | rfl | rfl | rfl)
    · exact ok_Lamp_holds T
    · exact ok_Sure_holds T
    · exact ok_Not_holds T ih
    · exact ok_And_holds T ih
    · exact ok_Either_holds T ih
    · exact ok_Or_holds T ih
end

theorem get_range {n i : Nat} {lo : Int} {x : V} (h : ((List.range n).map fun i : Nat => V.int (lo + (i : Int)))[i]? = some x) : i < n ∧ x = .int (lo + (i : Int)) := by
  rw [List.getElem?_map] at h
  by_cases hi : i < n
  · rw [List.getElem?_range hi] at h
    exact ⟨hi, (Option.some.inj h).symm⟩
  · rw [List.getElem?_eq_none (by rw [List.length_range]; omega)] at h
    cases h
theorem pow_small {m : Nat} (h : m ≤ 6) : (2 : Nat) ^ m ≤ 64 := Nat.le_trans (Nat.pow_le_pow_right (by decide) h) (by decide)
theorem shl_nat (m : Nat) : (1 : Int) * 2 ^ ((m : Int)).toNat = ((2 ^ m : Nat) : Int) := by
  simp
theorem andnot_nat (x y : Nat) : Builtin.bitAnd (x : Int) (Builtin.bitNot (y : Int)) = ((x - (x &&& y) : Nat) : Int) := by
  rw [PyProof.Rows.bitAnd_not, and_nat]
  have := Nat.and_le_left (n := x) (m := y)
  omega
theorem bits_not (f : Nat → Bool) : ∀ n, bits (fun s => !f s) n + bits f n = 2 ^ n - 1
  | 0 => rfl
  | n + 1 => by
    have ih := bits_not f n
    have hp := Nat.two_pow_pos n
    rw [Nat.pow_succ]
    by_cases h : f n = true
    · rw [bits_add f n h, bits_skip (fun s => !f s) n (by simp [h])]; omega
    · rw [bits_skip f n (by simpa using h), bits_add (fun s => !f s) n (by simpa using h)]; omega
theorem crowd_not (f : Fm) (n : Nat) : (((Fm.neg f).crowd n : Nat) : Int) = ((2 ^ n - 1 : Nat) : Int) - ((f.crowd n : Nat) : Int) := by
  have h := bits_not (fun s => f.holds s) n
  have e : (Fm.neg f).crowd n = bits (fun s => !(f.holds s)) n := by
    unfold Fm.crowd
    apply bits_ext
    intro i _
    simp [Fm.holds]
  have e2 : f.crowd n = bits (fun s => f.holds s) n := rfl
  omega
theorem every_nat (m : Nat) : ((2 ^ 2 ^ m : Nat) : Int) - 1 = ((2 ^ 2 ^ m - 1 : Nat) : Int) := by
  have : 1 ≤ 2 ^ 2 ^ m := Nat.one_le_two_pow
  omega
theorem div_lit (s k : Nat) : (s : Int) / ((2 ^ k : Nat) : Int) % 2 = if s.testBit k = true then 1 else 0 := by
  have e1 : (s : Int) / ((2 ^ k : Nat) : Int) % 2 = ((s / 2 ^ k % 2 : Nat) : Int) := by rw [← Int.natCast_ediv]; omega
  rw [e1, lit_iff]
  by_cases h : s / 2 ^ k % 2 = 1
  · rw [decide_eq_true h, if_pos rfl, h]; rfl
  · rw [decide_eq_false h, if_neg Bool.false_ne_true]
    have : s / 2 ^ k % 2 = 0 := by omega
    rw [this]; rfl
def cI (m : Nat) (f : Fm) : V := .int ((f.crowd (2 ^ m) : Nat) : Int)
/-- a pair at q: the formula's place and its crowd; the formula stands -/
def PqAt (t : Ad) (m : Nat) (H : Hp) (n : Nat) (q : Addr) (pg : Addr × Fm) : Prop := H q = some (.tup [.ref pg.1, cI m pg.2]) ∧ FmAt t H n pg.1 pg.2
section
variable {P : Program} {w : World} {K : PySem.W.Frag} {mg : Str → Option Value} {base : Heap} {t : Ad} {n : Nat}
theorem PqAt.up {m : Nat} {H H' : Hp} {n k : Nat} {q : Addr} {pg : Addr × Fm} (s : Ext H H') (h : n ≤ k) (f : PqAt t m H n q pg) : PqAt t m H' k q pg := ⟨s _ _ f.1 (fun _ z => nomatch z), FmAt.le h (f.2.mono s)⟩
theorem pq_up {m : Nat} {H H' : Hp} {n k : Nat} {qs : List Addr} {pgs : List (Addr × Fm)} (s : Ext H H') (h : n ≤ k) (f : Paired (PqAt t m H n) qs pgs) : Paired (PqAt t m H' k) qs pgs := paired_imp (fun _ _ q => q.up s h) f
theorem pq_fm {m : Nat} {H : Hp} {n : Nat} : ∀ {qs : List Addr} {pgs : List (Addr × Fm)}, Paired (PqAt t m H n) qs pgs → Paired (FmAt t H n) (pgs.map Prod.fst) (pgs.map Prod.snd)
  | _, _, .nil => .nil
  | _, _, .cons r s => .cons r.2 (pq_fm s)
def spLit : Sp := fun vs H Q _ => ∃ (k m : Nat), vs = [.int (k : Int), .int (m : Int)] ∧ m ≤ 6 ∧ k ≤ 6 ∧ ∀ H', Same H H' → Q (cI m (.lamp k)) H'
theorem ok_lit (T : Txt K mg t) : FnS P w K mg base 2 "_law_lit" ["_law_lamp", "_law_many"] (spLit) := by
  refine ⟨_, _, T.F__law_lit.ok sc__law_lit (fun vs H Q E h => ?_) (fun cdv A outer s H vs Q E hr h => ?_), T.b__law_lit, T.F__law_lit.kp, T.m__law_lit⟩
  · obtain ⟨k, m, rfl, hm, hk, q⟩ := h
    rfl
  obtain ⟨k, m, rfl, hm, hk, q⟩ := h
  have hp := pow_small hm
  have hp0 := Int.natCast_nonneg (2 ^ m)
  have hm0 : (0 : Int) ≤ (m : Int) := Int.natCast_nonneg m
  have hpk : 0 < 2 ^ k := Nat.two_pow_pos k
  have hpk6 := pow_small hk
  refine ⟨_, (pss_one (ps_ret (pe_callB (call_sumG rfl) rfl T.B.sum bt_sum (pa_cons (pe_comp (sc := defScope s__law_lit) (N := ["_law_lamp", "_law_many"]) (ns := ["_law_lamp"]) (ix := [0]) rfl rfl (by decide +kernel) rfl (pi_range1 rfl T.B.range (pa_cons (pe_op op_shl pe_int (pv 1)) pa_nil)) (fun _ _ _ _ => (pts_one (pt_cmpR (op_eqA hr.units) (pe_op op_mod (pe_op op_fdivG (pv 0) (pe_op op_shl pe_int (pv 1))) pe_int) pe_int (nomark _)))) (fun _ _ _ _ => (pe_op op_shl pe_int (pv 0)))) pa_nil)))), ?_⟩
  walk_at "rd0"
  rw [shl_nat]
  refine ⟨_, rfl, by omega, by omega, ?_⟩
  rw [Int.toNat_natCast]
  refine comp_by (fun i ys => ∃ ns : List Int, ys = ns.map V.int ∧ ns.sum = (((Fm.lamp k).crowd i : Nat) : Int)) (wk_range 0 (2 ^ m) H) (by simp; omega) ⟨[], rfl, rfl⟩ ?_ ?_
  · rintro i x ys acc H' hx s1 hacc ea ⟨ns, rfl, hy⟩ _ R kk
    obtain ⟨hi, rfl⟩ := get_range hx
    rw [Int.zero_add] at kk ⊢
    simp only [subS, List.map_cons, List.map_nil]
    walk_at "rd"
    rw [shl_nat]
    refine i_rI ⟨by omega, by omega⟩ ?_
    walk_at "rd"
    rw [div_lit]
    refine kk _ H' (Same.refl _) (fun z => ⟨ns, rfl, ?_⟩) fun z R2 k2 => ?_
    · have z' : i.testBit k = false := by
        cases e : i.testBit k with
        | false => rfl
        | true => rw [e] at z; exact absurd z (by decide)
      rw [hy]
      unfold Fm.crowd
      rw [bits_skip (fun s => (Fm.lamp k).holds s) i (by simpa [Fm.holds] using z')]
    · have z' : i.testBit k = true := by
        cases e : i.testBit k with
        | true => rfl
        | false => rw [e] at z; exact absurd z (by decide)
      walk_at "rd"
      rw [shl_nat]
      refine k2 _ H' (Same.refl _) ⟨ns ++ [((2 ^ i : Nat) : Int)], by rw [List.map_append]; rfl, ?_⟩
      unfold Fm.crowd
      rw [bits_add (fun s => (Fm.lamp k).holds s) i (by simpa [Fm.holds] using z'), List.sum_append, hy]
      simp [Fm.crowd]
  · rintro acc ys H' hacc s1 ea ⟨ns, rfl, hy⟩
    rw [List.length_map, List.length_range] at hy
    refine i_sum (SqL.of ea) ?_
    rw [hy]
    exact q H' s1
def spLeaf (t : Ad) : Sp := fun vs H Q _ => ∃ (kd mo : Int) (m : Nat), vs = [.int kd, .int mo, .int (m : Int)] ∧ 1 ≤ m ∧ m ≤ 6 ∧ ∀ q pg H', Same H H' → H q = none → PqAt t m H' 2 q pg → Q (.ref q) H'
theorem ok_leaf (T : Txt K mg t) : FnS P w K mg base 4 "_law_leaf" ["_law_kind", "_law_more", "_law_many"] (spLeaf t) := by
  refine ⟨_, _, T.F__law_leaf.ok sc__law_leaf (fun vs H Q E h => ?_) (fun cdv A outer s H vs Q E hr h => ?_), T.b__law_leaf, T.F__law_leaf.kp, T.m__law_leaf⟩
  · obtain ⟨kd, mo, m, rfl, h1, hm, q⟩ := h
    rfl
  obtain ⟨kd, mo, m, rfl, h1, hm, q⟩ := h
  have G__law_lit := ok_lit (P := P) (w := w) (base := base) T
  have M_Lamp := ok_Lamp (P := P) (w := w) (base := base) T
  have M_Sure := ok_Sure (P := P) (w := w) (base := base) T
  have M_Not := ok_Not (P := P) (w := w) (base := base) T
  have hp := pow_small hm
  have hp0 := Int.natCast_nonneg (2 ^ m)
  obtain ⟨k, hk, hk6⟩ : ∃ k : Nat, mo % (m : Int) = (k : Int) ∧ k ≤ 6 := by
    have a := Int.emod_nonneg mo (show (m : Int) ≠ 0 by omega)
    have b := Int.emod_lt_of_pos mo (show (0 : Int) < (m : Int) by omega)
    exact ⟨(mo % (m : Int)).toNat, by omega, by omega⟩
  refine ⟨_, (pss_cons (ss 3 sc__law_leaf.nd (pe_op op_sub (pe_op op_shl pe_int (pe_op op_shl pe_int (pv 2))) pe_int))
      (pss_cons (ss 4 sc__law_leaf.nd (pe_op op_mod (pv 1) (pv 2)))
      (pss_cons (ps_if (pt_cmpR (op_eqA hr.units) (pv 0) pe_int (nomark _))
      (pss_one (ps_ret (pe_tup (pa_cons (pe_mk M_Sure hr (pa_cons (pe_cmpR (op_eqA hr.units) (pe_op op_mod (pv 1) pe_int) pe_int (nomark _)) pa_nil)) (pa_cons (pe_op op_mulG (pv 3) (pe_callTy call_intG rfl T.B.int bt_int (pa_cons (pe_cmpR (op_eqA hr.units) (pe_op op_mod (pv 1) pe_int) pe_int (nomark _)) pa_nil))) pa_nil)))))
      pss_nil)
      (pss_cons (ps_if (pt_cmpR (op_eqA hr.units) (pv 0) pe_int (nomark _))
      (pss_one (ps_ret (pe_tup (pa_cons (pe_mk M_Not hr (pa_cons (pe_mk M_Lamp hr (pa_cons (pv 4) pa_nil)) pa_nil)) (pa_cons (pe_op op_sub (pv 3) (pe_fn G__law_lit hr (pa_cons (pv 4) (pa_cons (pv 2) pa_nil)))) pa_nil)))))
      pss_nil)
      (pss_one (ps_ret (pe_tup (pa_cons (pe_mk M_Lamp hr (pa_cons (pv 4) pa_nil)) (pa_cons (pe_fn G__law_lit hr (pa_cons (pv 4) (pa_cons (pv 2) pa_nil))) pa_nil))))))))), ?_⟩
  walk_at "rd0"
  rw [shl_nat]
  refine i_rI ⟨by omega, by omega, by decide⟩ ?_
  walk_at "rd"
  rw [shl_nat, every_nat, hk]
  refine i_ifd (fun h => ?_) (fun h => ?_)
  · walk_at "rd"
    refine i_init1 fun x dx H1 s1 nx e1 => ?_
    walk_at "rd"
    refine i_mulI (.inr ⟨by split <;> decide, by split <;> decide⟩) ?_
    walk_at "rd"
    refine j_tup (by simp) fun p H2 s2 np e2 => q p (x, .sure (decide (mo % 2 = 0))) H2 (s1.trans s2) (s1.free np) ⟨?_, dx, s2 _ _ e1⟩
    have e : ((2 ^ 2 ^ m - 1 : Nat) : Int) * (if decide (mo % 2 = 0) = true then 1 else 0) = (((Fm.sure (decide (mo % 2 = 0))).crowd (2 ^ m) : Nat) : Int) := by
      rw [crowd_sure]
      split
      · rw [Int.mul_one]
      · rw [Int.mul_zero]; rfl
    rw [e2, e]
    rfl
  · walk_at "rd"
    refine i_ifd (fun h' => ?_) (fun h' => ?_)
    · walk_at "rd"
      refine i_init1 fun x dx H1 s1 nx e1 => ?_
      walk_at "rd"
      refine i_init1 fun y dy H2 s2 ny e2 => ?_
      walk_at "rd"
      refine ⟨k, m, rfl, hm, hk6, fun H3 s3 => ?_⟩
      unfold cI
      walk_at "rd"
      rw [← crowd_not]
      refine j_tup (by simp) fun p H4 s4 np e4 => q p (y, .neg (.lamp k)) H4 (s1.trans (s2.trans (s3.trans s4))) ((s1.trans (s2.trans s3)).free np) ⟨e4, dy, x, s4 _ _ (s3 _ _ e2), dx, s4 _ _ (s3 _ _ (s2 _ _ e1))⟩
    · walk_at "rd"
      refine i_init1 fun x dx H1 s1 nx e1 => ?_
      walk_at "rd"
      refine ⟨k, m, rfl, hm, hk6, fun H3 s3 => ?_⟩
      refine j_tup (by simp) fun p H4 s4 np e4 => q p (x, .lamp k) H4 (s1.trans (s3.trans s4)) ((s1.trans s3).free np) ⟨e4, dx, s4 _ _ (s3 _ _ e1)⟩
def wd (i : Int) : W3 := if i = 8 then .a else if i = 9 then .e else .o
def spJoined (t : Ad) : Sp := fun vs H Q _ => ∃ (kd : Int) (m : Nat) (l : Addr) (qs : List Addr) (pgs : List (Addr × Fm)) (n : Nat), vs = [.int kd, .ref l] ∧ H l = some (.lst (qs.map V.ref)) ∧ qs.length ≤ 100 ∧ pgs ≠ [] ∧ Paired (PqAt t m H n) qs pgs ∧
  ∀ q pg H', Same H H' → H q = none → PqAt t m H' (n + 1) q pg → Q (.ref q) H'
theorem ok_joined (T : Txt K mg t) : FnS P w K mg base 3 "_law_joined" ["_law_kind", "_law_pairs"] (spJoined t) := by
  refine ⟨_, _, T.F__law_joined.ok sc__law_joined (fun vs H Q E h => ?_) (fun cdv A outer s H vs Q E hr h => ?_), T.b__law_joined, T.F__law_joined.kp, T.m__law_joined⟩
  · obtain ⟨kd, m, l, qs, pgs, n, rfl, hl, hz, hne, hg, q⟩ := h
    rfl
  obtain ⟨kd, m, l, qs, pgs, n, rfl, hl, hz, hne, hg, q⟩ := h
  have M_And := ok_And (P := P) (w := w) (base := base) T
  have M_Or := ok_Or (P := P) (w := w) (base := base) T
  have M_Either := ok_Either (P := P) (w := w) (base := base) T
  refine ⟨_, (pss_cons (ps_comp 2 sc__law_joined.nd (sc := defScope s__law_joined) (N := ["_law_kind", "_law_pairs", "_law_parts", "_law_due_here", "_law_pair"]) (ns := []) (ix := []) rfl rfl (by decide +kernel) rfl (pi_seq (pv 1)) (fun _ _ _ _ => pts_nil) (fun _ _ _ _ => (pe_ix (ix_seqK (K := K) rfl) (pv 0) pe_int (fun _ _ => rfl))))
      (pss_cons (ss 3 sc__law_joined.nd (pe_ix ix_seq (pe_ix ix_seq (pv 1) pe_int (fun _ _ => rfl)) pe_int (fun _ _ => rfl)))
      (pss_cons (ps_for PassesOwn.never rfl (pi_seq (pe_slice sl_any (pv 1) (po_some pe_int) po_none)) (sg 4 sc__law_joined.nd)
      (pss_one (ps_if (pt_cmpR (op_eqA hr.units) (pv 0) pe_int (nomark _))
      (pss_one (ss 3 sc__law_joined.nd (pe_op op_and (pv 3) (pe_ix ix_seq (pv 4) pe_int (fun _ _ => rfl)))))
      (pss_one (ps_if (pt_cmpR (op_eqA hr.units) (pv 0) pe_int (nomark _))
      (pss_one (ss 3 sc__law_joined.nd (pe_op op_xor (pv 3) (pe_ix ix_seq (pv 4) pe_int (fun _ _ => rfl)))))
      (pss_one (ss 3 sc__law_joined.nd (pe_op op_or (pv 3) (pe_ix ix_seq (pv 4) pe_int (fun _ _ => rfl))))))))))
      (pss_cons (ps_if (pt_cmpR (op_eqA hr.units) (pv 0) pe_int (nomark _))
      (pss_one (ps_ret (pe_tup (pa_cons (pe_mk M_And hr (pa_cons (pv 2) pa_nil)) (pa_cons (pv 3) pa_nil)))))
      pss_nil)
      (pss_cons (ps_if (pt_cmpR (op_eqA hr.units) (pv 0) pe_int (nomark _))
      (pss_one (ps_ret (pe_tup (pa_cons (pe_mk M_Either hr (pa_cons (pv 2) pa_nil)) (pa_cons (pv 3) pa_nil)))))
      pss_nil)
      (pss_one (ps_ret (pe_tup (pa_cons (pe_mk M_Or hr (pa_cons (pv 2) pa_nil)) (pa_cons (pv 3) pa_nil)))))))))), ?_⟩
  walk_at "rd0"
  refine .inl ⟨l, _, rfl, SqL.of hl, ?_⟩
  refine comp_by (fun i ys => ys = ((pgs.take i).map Prod.fst).map V.ref) (wk_list (SqL.of hl)) (by rw [List.length_map]; omega) rfl ?_ ?_
  · intro i x ys acc H' hx s1 hacc ea hy _ R kk
    obtain ⟨q', rfl, hx'⟩ := get_ref hx
    obtain ⟨pg, hgi, h1, h2⟩ := paired_get hg hx'
    simp only [subS, List.map_nil]
    walk_at "rd"
    refine kk true H' (Same.refl _) (fun z => by cases z) fun _ R2 k2 => ?_
    walk_at "rd"
    refine i_ixT (s1 _ _ h1) (v := .ref pg.1) rfl ?_
    refine k2 _ H' (Same.refl _) ?_
    rw [take_snoc hgi, List.map_append, List.map_append, hy]
    rfl
  intro acc ys H1 nacc s1 ea hy
  rw [List.length_map, paired_len hg, List.take_length] at hy
  subst hy
  cases hg with
  | nil => exact absurd rfl hne
  | @cons q0 pg0 qr pgr h0 hr' =>
    obtain ⟨p0, g0⟩ := pg0
    have hl1 := s1 _ _ hl
    walk_at "rd"
    refine i_ixL (j := 0) hl1 (v := .ref q0) rfl ?_
    walk_at "rd"
    refine i_ixT (s1 _ _ h0.1) (v := cI m g0) rfl ?_
    walk_at "rd"
    refine .inl (j_sl (SqL.of hl1) (ys := qr.map V.ref) (cut_from (k := 1) (by simp)) fun l2 H2 s2 n2 e2 => ?_)
    have s12 : Same H H2 := s1.trans s2
    have hp1 := s2 _ _ ea
    have hgA := pq_fm (Paired.cons h0 hr')
    refine seqL (xs := qr.map V.ref) (fun j σ H' => H' = H2 ∧ ∃ v, σ = [some (.int kd), some (.ref l), some (.ref acc), some (cI m (.join (wd kd) (g0 :: (pgr.take j).map Prod.snd))), v]) ⟨rfl, none, by unfold cI; rw [List.take_zero, List.map_nil, crowd_join_one]⟩ (fun j σ H' _ hp => by obtain ⟨rfl, _⟩ := hp; exact SqL.of e2) ?_ ?_
    · rintro j x σ H' hx ⟨rfl, v, rfl⟩
      obtain ⟨q', rfl, hx'⟩ := get_ref hx
      obtain ⟨⟨pi, gi⟩, hgi, h1, h2⟩ := paired_get hr' hx'
      have es : ∀ u : W3, (Fm.join u (g0 :: (pgr.take (j + 1)).map Prod.snd)).crowd (2 ^ m) = bcomb u ((Fm.join u (g0 :: (pgr.take j).map Prod.snd)).crowd (2 ^ m)) (gi.crowd (2 ^ m)) := fun u => by
        rw [take_snoc hgi, List.map_append, ← List.cons_append]
        exact crowd_join_snoc u _ gi _
      unfold cI
      walk_at "rd"
      refine i_ifd (fun h => ?_) (fun h => ?_)
      · walk_at "rd"
        refine i_ixT (s12 _ _ h1) (v := .int ((gi.crowd (2 ^ m) : Nat) : Int)) rfl ?_
        walk_at "rd"
        have ew : wd kd = .a := by unfold wd; rw [if_pos h]
        refine ⟨rfl, some (.ref q'), ?_⟩
        rw [and_nat, es, ew]
        all_goals rfl
      · walk_at "rd"
        refine i_ifd (fun h' => ?_) (fun h' => ?_)
        · walk_at "rd"
          refine i_ixT (s12 _ _ h1) (v := .int ((gi.crowd (2 ^ m) : Nat) : Int)) rfl ?_
          walk_at "rd"
          have ew : wd kd = .e := by unfold wd; rw [if_neg h, if_pos h']
          refine ⟨rfl, some (.ref q'), ?_⟩
          rw [xor_nat, es, ew]
          all_goals rfl
        · walk_at "rd"
          refine i_ixT (s12 _ _ h1) (v := .int ((gi.crowd (2 ^ m) : Nat) : Int)) rfl ?_
          walk_at "rd"
          have ew : wd kd = .o := by unfold wd; rw [if_neg h, if_neg h']
          refine ⟨rfl, some (.ref q'), ?_⟩
          rw [or_nat, es, ew]
          all_goals rfl
    · rintro σ H' ⟨rfl, v, rfl⟩
      rw [List.length_map, paired_len hr', List.take_length]
      have fin : ∀ (u : W3), u = wd kd → ∀ (x dx tp : Addr) (H3 : Hp), Same H' H3 → H3 x = some (.ins (cw t u) dx [(("parts" : Str), .ref tp)]) → H3 tp = some (.tup ((((p0, g0) :: pgr).map Prod.fst).map V.ref)) → ∀ y H4, Same H3 H4 → H3 y = none → H4 y = some (.tup [.ref x, cI m (.join (wd kd) (g0 :: pgr.map Prod.snd))]) → Q (.ref y) H4 := by
        rintro u rfl x dx tp H3 s3 ex et y H4 s4 ny ey
        exact q y (x, .join (wd kd) (g0 :: pgr.map Prod.snd)) H4 (s12.trans (s3.trans s4)) ((s12.trans s3).free ny) ⟨ey, dx, tp, _, s4 _ _ ex, s4 _ _ et, paired_imp (fun a b h => FmAt.mono (Ext.of (s12.trans (s3.trans s4))) h) hgA⟩
      walk_at "rd"
      refine i_ifd (fun h => ?_) (fun h => ?_)
      · walk_at "rd"
        refine i_initJ hp1 fun x dx tp H3 s3 hx ex et => ?_
        walk_at "rd"
        exact j_tup (by simp) fun y H4 s4 ny ey => fin .a (by unfold wd; rw [if_pos h]) x dx tp H3 s3 ex et y H4 s4 ny ey
      · walk_at "rd"
        refine i_ifd (fun h' => ?_) (fun h' => ?_)
        · walk_at "rd"
          refine i_initJ hp1 fun x dx tp H3 s3 hx ex et => ?_
          walk_at "rd"
          exact j_tup (by simp) fun y H4 s4 ny ey => fin .e (by unfold wd; rw [if_neg h, if_pos h']) x dx tp H3 s3 ex et y H4 s4 ny ey
        · walk_at "rd"
          refine i_initJ hp1 fun x dx tp H3 s3 hx ex et => ?_
          walk_at "rd"
          exact j_tup (by simp) fun y H4 s4 ny ey => fin .o (by unfold wd; rw [if_neg h, if_neg h']) x dx tp H3 s3 ex et y H4 s4 ny ey
/-- between two turns -/
structure PL (t : Ad) (m n : Nat) (H0 H : Hp) (mp : Addr) (qs : List Addr) (pgs : List (Addr × Fm)) : Prop where
  sm : Same H0 H
  nm : H0 mp = none
  fm : H mp = some (.lst (qs.map V.ref))
  ff : Paired (PqAt t m H n) qs pgs
theorem PL.app {m n k : Nat} {H0 H H' H'' : Hp} {mp q : Addr} {pg : Addr × Fm} {qs : List Addr} {pgs : List (Addr × Fm)} (L : PL t m n H0 H mp qs pgs) (h : n ≤ k) (s : Same H H') (b : But mp H' H'') (e : H'' mp = some (.lst (qs.map V.ref ++ [.ref q]))) (f : PqAt t m H' k q pg) : PL t m k H0 H'' mp (qs ++ [q]) (pgs ++ [pg]) := by
  have x : Ext H' H'' := b.ext (s _ _ L.fm)
  exact ⟨b.same L.nm (L.sm.trans s), L.nm, by rw [e, List.map_append]; rfl, paired_append (pq_up ((Ext.of s).trans x) h L.ff) (.cons (f.up x (Nat.le_refl _)) .nil)⟩
def spPile (t : Ad) : Sp := fun vs H Q _ => ∃ (l : Addr) (cs : List Int) (m : Nat), vs = [.ref l, .int (m : Int)] ∧ H l = some (.lst (cs.map V.int)) ∧ cs.length ≤ 60 ∧ 1 ≤ m ∧ m ≤ 6 ∧
  ∀ l' qs pgs H', PL t m 62 H H' l' qs pgs → qs ≠ [] → qs.length ≤ 61 → Q (.ref l') H'
theorem ok_pile (T : Txt K mg t) : FnS P w K mg base 6 "_law_pile" ["_law_cells", "_law_many"] (spPile t) := by
  refine ⟨_, _, T.F__law_pile.ok sc__law_pile (fun vs H Q E h => ?_) (fun cdv A outer s H vs Q E hr h => ?_), T.b__law_pile, T.F__law_pile.kp, T.m__law_pile⟩
  · obtain ⟨l, cs, m, rfl, hl, hz, h1, hm, q⟩ := h
    rfl
  obtain ⟨l, cs, m, rfl, hl, hz, h1, hm, q⟩ := h
  have G__law_leaf := ok_leaf (P := P) (w := w) (base := base) T
  have G__law_joined := ok_joined (P := P) (w := w) (base := base) T
  have M_Not := ok_Not (P := P) (w := w) (base := base) T
  have hp := pow_small hm
  have hp0 := Int.natCast_nonneg (2 ^ m)
  refine ⟨_, (pss_cons (ss 2 sc__law_pile.nd (pe_lst pa_nil))
      (pss_cons (ps_for PassesOwn.never rfl (pi_seq (pv 0)) (sg 3 sc__law_pile.nd)
      (pss_cons (ss 4 sc__law_pile.nd (pe_op op_mod (pv 3) pe_int))
      (pss_cons (ss 5 sc__law_pile.nd (pe_op op_fdivG (pv 3) pe_int))
      (pss_one (ps_if (PW.pt (pw_and (pt_chain op_le op_le pe_int (pv 4) pe_int) (pw_and1 (pt_cmpR op_gt (pe_callB call_lenG rfl T.B.len bt_len (pa_cons (pv 2) pa_nil)) pe_int (nomark _)))))
      (pss_cons (ss 6 sc__law_pile.nd (pe_callB (call_maxG rfl) rfl T.B.max bt_max (pa_cons pe_int (pa_cons (pe_op op_sub (pe_op op_sub (pe_callB call_lenG rfl T.B.len bt_len (pa_cons (pv 2) pa_nil)) pe_int) (pe_op op_fdivG (pe_op op_mod (pv 5) pe_int) pe_int)) pa_nil))))
      (pss_one (ss 2 sc__law_pile.nd (pe_op op_addG (pe_slice sl_any (pv 2) po_none (po_some (pv 6))) (pe_lst (pa_cons (pe_fn G__law_joined hr (pa_cons (pv 4) (pa_cons (pe_slice sl_any (pv 2) (po_some (pv 6)) po_none) pa_nil))) pa_nil))))))
      (pss_one (ps_if (PW.pt (pw_and (pt_chain op_le op_le pe_int (pv 4) pe_int) (pw_and1 (pt_cmpR op_gt (pe_callB call_lenG rfl T.B.len bt_len (pa_cons (pv 2) pa_nil)) pe_int (nomark _)))))
      (pss_cons (ss 7 sc__law_pile.nd (pe_ix ix_seq (pv 2) (pe_un un_neg pe_int) (fun _ _ => rfl)))
      (pss_one (ss 2 sc__law_pile.nd (pe_op op_addG (pe_slice sl_any (pv 2) po_none (po_some (pe_un un_neg pe_int))) (pe_lst (pa_cons (pe_tup (pa_cons (pe_mk M_Not hr (pa_cons (pe_ix ix_seq (pv 7) pe_int (fun _ _ => rfl)) pa_nil)) (pa_cons (pe_op op_sub (pe_op op_sub (pe_op op_shl pe_int (pe_op op_shl pe_int (pv 1))) pe_int) (pe_ix ix_seq (pv 7) pe_int (fun _ _ => rfl))) pa_nil))) pa_nil))))))
      (pss_one (ps_expr (pe_bm PySem.F.plainAttrs_list PySem.F.slot_list_append PySem.F.type_list_append mt_append (pv 2) (pa_cons (pe_fn G__law_leaf hr (pa_cons (pv 4) (pa_cons (pv 5) (pa_cons (pv 1) pa_nil)))) pa_nil)))))))))))
      (pss_cons (ps_if (pt_cmpR (op_eqA hr.units) (pe_callB call_lenG rfl T.B.len bt_len (pa_cons (pv 2) pa_nil)) pe_int (nomark _))
      (pss_one (ps_expr (pe_bm PySem.F.plainAttrs_list PySem.F.slot_list_append PySem.F.type_list_append mt_append (pv 2) (pa_cons (pe_fn G__law_leaf hr (pa_cons pe_int (pa_cons (pe_callB call_lenG rfl T.B.len bt_len (pa_cons (pv 0) pa_nil)) (pa_cons (pv 1) pa_nil)))) pa_nil))))
      pss_nil)
      (pss_one (ps_ret (pv 2)))))), ?_⟩
  walk_at "rd0"
  refine j_lst (by simp) fun mp0 H0 s0 n0 e0 => ?_
  walk_at "rd"
  refine seqL (xs := cs.map V.int) (fun i σ H' => ∃ mp qs pgs v3 v4 v5 v6 v7, σ = [some (.ref l), some (.int (m : Int)), some (.ref mp), v3, v4, v5, v6, v7] ∧ qs.length ≤ i ∧ PL t m (i + 2) H H' mp qs pgs)
    ⟨mp0, [], [], _, _, _, _, _, rfl, Nat.le_refl _, s0, n0, e0, .nil⟩ (fun i σ H' _ hp => by obtain ⟨mp, qs, pgs, v3, v4, v5, v6, v7, _, _, L⟩ := hp; exact SqL.of (L.sm _ _ hl)) ?_ ?_
  · rintro i x σ H1 hx ⟨mp, qs, pgs, v3, v4, v5, v6, v7, rfl, hi, L⟩
    obtain ⟨c, rfl, hci⟩ := get_int hx
    have hil : i < cs.length := (List.getElem?_eq_some_iff.mp hci).1
    have hlen : (qs.map V.ref).length = qs.length := List.length_map _
    have hgl := paired_len L.ff
    have hc0 := Int.emod_nonneg c (show (12 : Int) ≠ 0 by decide)
    have hc1 := Int.emod_lt_of_pos c (show (0 : Int) < 12 by decide)
    have hmp := L.fm
    have leafE : ∀ (y : Addr) (pg : Addr × Fm) (H2 H3 : Hp), Same H1 H2 → PqAt t m H2 2 y pg → But mp H2 H3 → H3 mp = some (.lst (qs.map V.ref ++ [.ref y])) → PL t m (i + 1 + 2) H H3 mp (qs ++ [y]) (pgs ++ [pg]) ∧ (qs ++ [y]).length ≤ i + 1 := fun y pg H2 H3 s2 f2 b3 e3 =>
      ⟨L.app (by omega) s2 b3 e3 (f2.up (Ext.refl _) (by omega)), by rw [List.length_append, List.length_singleton]; omega⟩
    by_cases hA : 8 ≤ c % 12 ∧ c % 12 ≤ 10 ∧ 1 < qs.length
    · obtain ⟨hA1, hA2, hA3⟩ := hA
      have hD0 := Int.emod_nonneg (c / 12) (show (5 : Int) ≠ 0 by decide)
      walk_at "tst"
      obtain ⟨k, hk, hk2⟩ : ∃ k : Nat, max 0 (((qs.map V.ref).length : Int) - 2 - c / 12 % 5 / 4) = (k : Int) ∧ k + 2 ≤ qs.length := by
        rw [hlen]
        exact ⟨(max 0 ((qs.length : Int) - 2 - c / 12 % 5 / 4)).toNat, by omega, by omega⟩
      rw [hk]
      refine .inl (j_sl (SqL.of hmp) (cut_to (by rw [hlen]; omega)) fun a1 H2 s2 n2 e2 => ?_)
      walk_at "rd"
      refine .inl (j_sl (SqL.of (s2 _ _ hmp)) (cut_from (by rw [hlen]; omega)) fun a2 H3 s3 n3 e3 => ?_)
      rw [← List.map_drop] at e3
      walk_at "rd"
      have hne : pgs.drop k ≠ [] := fun e => by
        have := congrArg List.length e
        rw [List.length_drop] at this
        simp at this
        omega
      refine ⟨c % 12, m, a2, qs.drop k, pgs.drop k, i + 2, rfl, e3, by rw [List.length_drop]; omega, hne, paired_drop k (pq_up (Ext.of (s2.trans s3)) (Nat.le_refl _) L.ff), fun y pg H4 s4 ny f4 => ?_⟩
      walk_at "rd"
      refine j_lst (by simp) fun a3 H5 s5 n5 e5 => ?_
      refine j_add (s5 _ _ (s4 _ _ (s3 _ _ e2))) e5 (by rw [List.length_take, hlen]; simp; omega) fun a4 H6 s6 n6 e6 => ?_
      walk_at "rd"
      have w6 : Same H1 H6 := s2.trans (s3.trans (s4.trans (s5.trans s6)))
      refine ⟨a4, qs.take k ++ [y], pgs.take k ++ [pg], _, _, _, _, _, rfl, by rw [List.length_append, List.length_take]; simp; omega, L.sm.trans w6, L.sm.free ((s2.trans (s3.trans (s4.trans s5))).free n6), ?_, paired_append (paired_take k (pq_up (Ext.of w6) (by omega) L.ff)) (.cons (f4.up (Ext.of (s5.trans s6)) (by omega)) .nil)⟩
      rw [e6, List.map_append, List.map_take]
      rfl
    · by_cases hB : 6 ≤ c % 12 ∧ c % 12 ≤ 7 ∧ 0 < qs.length
      · obtain ⟨hB1, hB2, hB3⟩ := hB
        obtain ⟨qs0, ql, rfl⟩ := snoc_of (l := qs) (fun e => by rw [e] at hB3; exact absurd hB3 (by decide))
        obtain ⟨pgs0, pgl, rfl⟩ := snoc_of (l := pgs) (fun e => by rw [e] at hgl; simp at hgl)
        obtain ⟨f0, fl⟩ := paired_snoc L.ff
        obtain ⟨p, g⟩ := pgl
        have hmp' := hmp
        rw [List.map_append, List.map_cons, List.map_nil] at hmp'
        have hz0 : qs0.length + 1 ≤ i := by simpa using hi
        have hlen2 : (List.map V.ref qs0 ++ [V.ref ql]).length = qs0.length + 1 := by simp
        walk_at "tst"
        refine i_ixLi hmp' (atI_last _ _) ?_
        walk_at "rd"
        refine .inl (j_sl (SqL.of hmp') (cut_init _ _) fun a1 H2 s2 n2 e2 => ?_)
        walk_at "rd"
        refine i_ixT (s2 _ _ fl.1) (v := .ref p) rfl ?_
        walk_at "rd"
        refine i_init1 fun x dx H3 s3 nx e3 => ?_
        walk_at "rd"
        rw [shl_nat]
        refine i_rI ⟨by omega, by omega, by decide⟩ ?_
        walk_at "rd"
        refine i_ixT (s3 _ _ (s2 _ _ fl.1)) (v := .int ((g.crowd (2 ^ m) : Nat) : Int)) rfl ?_
        walk_at "rd"
        rw [shl_nat, every_nat, ← crowd_not]
        refine j_tup (by simp) fun y H4 s4 ny e4 => ?_
        walk_at "rd"
        refine j_lst (by simp) fun a3 H5 s5 n5 e5 => ?_
        refine j_add (s5 _ _ (s4 _ _ (s3 _ _ e2))) e5 (by rw [List.length_map]; simp; omega) fun a4 H6 s6 n6 e6 => ?_
        walk_at "rd"
        have w6 : Same H1 H6 := s2.trans (s3.trans (s4.trans (s5.trans s6)))
        refine ⟨a4, qs0 ++ [y], pgs0 ++ [(x, Fm.neg g)], _, _, _, _, _, rfl, by simp; omega, L.sm.trans w6, L.sm.free ((s2.trans (s3.trans (s4.trans s5))).free n6), by rw [e6, List.map_append]; rfl, paired_append (pq_up (Ext.of w6) (by omega) f0) (.cons ⟨s6 _ _ (s5 _ _ e4), dx, p, s6 _ _ (s5 _ _ (s4 _ _ e3)), fl.2.mono (Ext.of w6)⟩ .nil)⟩
      · rcases Nat.eq_zero_or_pos qs.length with hq | hq <;> rcases (show c % 12 < 6 ∨ (6 ≤ c % 12 ∧ c % 12 ≤ 7) ∨ (8 ≤ c % 12 ∧ c % 12 ≤ 10) ∨ c % 12 = 11 by omega) with hc | hc | hc | hc
        all_goals first
          | exact absurd (show 6 ≤ c % 12 ∧ c % 12 ≤ 7 ∧ 0 < qs.length by omega) hB
          | (walk_at "tst"
             refine ⟨tyL hmp, ?_⟩
             walk_at "rd"
             refine ⟨c % 12, c / 12, m, rfl, h1, hm, fun y pg H2 s2 ny f2 => ?_⟩
             walk_at "rd"
             refine j_append (s2 _ _ hmp) (by rw [hlen]; omega) fun H3 b3 e3 => ?_
             walk_at "rd"
             obtain ⟨L3, z3⟩ := leafE y pg H2 H3 s2 f2 b3 e3
             exact ⟨mp, _, _, _, _, _, _, _, rfl, z3, L3⟩)
  · rintro σ H1 ⟨mp, qs, pgs, v3, v4, v5, v6, v7, rfl, hi, L⟩
    rw [List.length_map] at hi L
    have hlen : (qs.map V.ref).length = qs.length := List.length_map _
    have hmp := L.fm
    walk_at "rd"
    refine i_ifd (fun h => ?_) (fun h => ?_)
    · have hl1 := L.sm _ _ hl
      walk_at "rd"
      refine ⟨tyL hmp, ?_⟩
      walk_at "rd"
      refine ⟨_, _, m, rfl, h1, hm, fun y pg H2 s2 ny f2 => ?_⟩
      walk_at "rd"
      refine j_append (s2 _ _ hmp) (by rw [hlen]; omega) fun H3 b3 e3 => ?_
      walk_at "rd"
      exact q mp _ _ H3 (L.app (by omega) s2 b3 e3 (f2.up (Ext.refl _) (by omega))) (by simp) (by rw [List.length_append, List.length_singleton]; omega)
    · walk_at "rd"
      exact q mp qs pgs H1 ⟨L.sm, L.nm, L.fm, pq_up (Ext.refl _) (by omega) L.ff⟩ (fun e => by rw [e] at h; exact h rfl) (by omega)
end


end LW

set_option maxRecDepth 100000
set_option maxHeartbeats 4000000
open PySem L2

namespace LW
open PySem L2 EM
abbrev Chg := Nat × (Addr × Fm)
def litAt (s : Nat) (cs : List Chg) (i : Nat) : Bool := cs.foldl (fun b c => if c.1 = i then c.2.2.holds s else b) (s.testBit i)
def onN (s : Nat) (cs : List Chg) : Nat := cs.foldl (fun f c => if c.2.2.holds s then f ||| 2 ^ c.1 else f - (f &&& 2 ^ c.1)) s
theorem litAt_snoc (s : Nat) (cs : List Chg) (c : Chg) (i : Nat) : litAt s (cs ++ [c]) i = if c.1 = i then c.2.2.holds s else litAt s cs i := by
  unfold litAt
  rw [List.foldl_append]
  rfl
theorem onN_snoc (s : Nat) (cs : List Chg) (c : Chg) : onN s (cs ++ [c]) = if c.2.2.holds s then onN s cs ||| 2 ^ c.1 else onN s cs - (onN s cs &&& 2 ^ c.1) := by
  unfold onN
  rw [List.foldl_append]
  rfl
theorem testBit_onN (s i : Nat) : ∀ (n : Nat) (cs : List Chg), cs.length = n → (onN s cs).testBit i = litAt s cs i
  | 0, cs, h => by rw [List.length_eq_zero_iff.mp h]; rfl
  | n + 1, cs, h => by
    obtain ⟨r, c, rfl⟩ := snoc_of (l := cs) (fun e => by rw [e] at h; exact absurd h (by simp))
    have ih := testBit_onN s i n r (by simpa using h)
    rw [onN_snoc, litAt_snoc]
    by_cases hb : c.2.2.holds s = true
    · rw [if_pos hb, Nat.testBit_or, ih, Nat.testBit_two_pow, hb]
      by_cases e : c.1 = i
      · rw [if_pos e, decide_eq_true e, Bool.or_true]
      · rw [if_neg e, decide_eq_false e, Bool.or_false]
    · have hb' : c.2.2.holds s = false := by simpa using hb
      rw [if_neg hb, testBit_sub_and, ih, Nat.testBit_two_pow, hb']
      by_cases e : c.1 = i
      · rw [if_pos e, decide_eq_true e, Bool.not_true, Bool.and_false]
      · rw [if_neg e, decide_eq_false e, Bool.not_false, Bool.and_true]
theorem litAt_out {s m i : Nat} (hs : s < 2 ^ m) (hi : m ≤ i) : ∀ (n : Nat) (cs : List Chg), cs.length = n → (∀ c ∈ cs, c.1 < m) → litAt s cs i = false
  | 0, cs, h, _ => by
    rw [List.length_eq_zero_iff.mp h]
    exact Nat.testBit_lt_two_pow (Nat.lt_of_lt_of_le hs (Nat.pow_le_pow_right (by decide) hi))
  | n + 1, cs, h, hc => by
    obtain ⟨r, c, rfl⟩ := snoc_of (l := cs) (fun e => by rw [e] at h; exact absurd h (by simp))
    rw [litAt_snoc, if_neg (by have := hc c (by simp); omega)]
    exact litAt_out hs hi n r (by simpa using h) fun c' h' => hc c' (by simp [h'])
theorem onN_due {s m : Nat} {cs : List Chg} (hs : s < 2 ^ m) (hc : ∀ c ∈ cs, c.1 < m) : onN s cs = bits (fun i => litAt s cs i) m := by
  apply Nat.eq_of_testBit_eq
  intro i
  rw [testBit_onN s i _ cs rfl, testBit_bits]
  by_cases hi : i < m
  · rw [decide_eq_true hi, Bool.true_and]
  · rw [decide_eq_false hi, Bool.false_and]
    exact litAt_out hs (by omega) _ cs rfl hc
section
variable {P : Program} {w : World} {K : PySem.W.Frag} {mg : Str → Option Value} {base : Heap} {t : Ad} {n : Nat}
def moveF (g tp : Addr) : List (Str × V) := putF "changes" (.ref tp) (putF "guard" (.ref g) [])
theorem lk_changes (g tp : Addr) : (moveF g tp).lookup ("changes" : Str) = some (.ref tp) := by
  unfold moveF
  rw [lookup_putF, if_pos rfl]
theorem lk_guard (g tp : Addr) : (moveF g tp).lookup ("guard" : Str) = some (.ref g) := by
  unfold moveF
  rw [lookup_putF, if_neg (by decide), lookup_putF, if_pos rfl]
theorem lk_noF (g tp : Addr) (f : Str) (h1 : ¬ f = "changes") (h2 : ¬ f = "guard") : (moveF g tp).lookup f = none := by
  unfold moveF
  rw [lookup_putF, if_neg h1, lookup_putF, if_neg h2]
  rfl
/-- a change as it is handed in: the lamp and the formula -/
def HdAt (t : Ad) (H : Hp) (n : Nat) (h : Addr) (c : Chg) : Prop := H h = some (.tup [.int (c.1 : Int), .ref c.2.1]) ∧ FmAt t H n c.2.1 c.2.2
/-- a change with its crowd -/
def ChAt (t : Ad) (m : Nat) (H : Hp) (n : Nat) (h : Addr) (c : Chg) : Prop := ∃ q, H h = some (.tup [.int (c.1 : Int), .ref q]) ∧ PqAt t m H n q c.2
theorem HdAt.ext {H H' : Hp} {h : Addr} {c : Chg} (s : Ext H H') (a : HdAt t H n h c) : HdAt t H' n h c := ⟨s _ _ a.1 (fun _ z => nomatch z), a.2.mono s⟩
theorem ChAt.ext {m : Nat} {H H' : Hp} {h : Addr} {c : Chg} (s : Ext H H') (a : ChAt t m H n h c) : ChAt t m H' n h c := by
  obtain ⟨q, e, f⟩ := a
  exact ⟨q, s _ _ e (fun _ z => nomatch z), f.up s (Nat.le_refl _)⟩
def MvAt (t : Ad) (H : Hp) (n : Nat) (x g : Addr) (f : Fm) (cs : List Chg) : Prop := ∃ dx tp hs, H x = some (.ins t.C_Move dx (moveF g tp)) ∧ H tp = some (.tup (hs.map V.ref)) ∧ FmAt t H n g f ∧ Paired (HdAt t H n) hs cs
theorem MvAt.ext {H H' : Hp} {x g : Addr} {f : Fm} {cs : List Chg} (s : Ext H H') (a : MvAt t H n x g f cs) : MvAt t H' n x g f cs := by
  obtain ⟨dx, tp, hs, e1, e2, f1, p⟩ := a
  exact ⟨dx, tp, hs, s _ _ e1 (fun _ z => nomatch z), s _ _ e2 (fun _ z => nomatch z), f1.mono s, paired_imp (fun _ _ q => q.ext s) p⟩
def spInitM (C : Addr) : Sp := fun vs H Q _ => ∃ (p dx g l : Addr) (ys : List V), vs = [.ref p, .ref g, .ref l] ∧ H p = some (.ins C dx []) ∧ H l = some (.lst ys) ∧ ∀ tp H', (∀ b o, b ≠ p → H b = some o → H' b = some o) → H' tp = some (.tup ys) → H' p = some (.ins C dx (moveF g tp)) → Q .non H'
theorem len_putF (f : Str) (v : V) : ∀ fs : List (Str × V), (putF f v fs).length ≤ fs.length + 1
  | [] => Nat.le_refl _
  | (g, x) :: r => by
    unfold putF
    by_cases h : g = f
    · rw [if_pos h]; exact Nat.le_succ _
    · rw [if_neg h]; exact Nat.succ_le_succ (len_putF f v r)
theorem ok_Move (T : Txt K mg t) : MkS P w K mg base 2 "Move" t.C_Move ["self", "guard", "changes"] (spInitM t.C_Move) := by
  refine ⟨T.m_Move, _, _, T.k_Move, T.F_Move_init.ok sc_Move_init (fun vs H Q E h => ?_) (fun cdv A outer s H vs Q E hr h => ?_), T.b_Move_init⟩
  · obtain ⟨p, dx, g, l, ys, rfl, _⟩ := h
    rfl
  obtain ⟨p, dx, g, l, ys, rfl, hp, hl, q⟩ := h
  have z1 := len_putF "guard" (.ref g) []
  rw [List.length_nil] at z1
  have hlp : l ≠ p := fun e => by rw [e, hp] at hl; cases hl
  refine ⟨_, (pss_cons (ps_fld (pv 0) (pv 1) rfl)
      (pss_one (ps_fld (pv 0) (pe_callTy call_tupleG rfl T.B.tuple bt_tuple (pa_cons (pv 2) pa_nil)) rfl))), ?_⟩
  walk_at "rd0"
  refine ⟨p, _, _, _, rfl, hp, T.c_Move, T.n_Move_guard, by decide, ?_⟩
  walk_at "rd"
  refine i_tupL (ys := ys) (by rw [upd_ne hlp]; exact hl) fun tp htp => ?_
  have hpt : tp ≠ p := fun e => by rw [e, upd_same] at htp; cases htp
  walk_at "rd"
  refine ⟨p, _, _, _, rfl, by rw [upd_ne (Ne.symm hpt)]; exact upd_same, T.c_Move, T.n_Move_changes, by omega, ?_⟩
  refine q tp _ (fun b o hb e => ?_) (by rw [upd_ne hpt]; exact upd_same) upd_same
  have hb' : b ≠ tp := fun z => by rw [← z, upd_ne hb, e] at htp; cases htp
  rw [upd_ne hb, upd_ne hb', upd_ne hb]
  exact e
theorem i_move {l g : Addr} {hs : List Addr} {f : Fm} {cs : List Chg} {H : Hp} {Q : VK} (hl : H l = some (.lst (hs.map V.ref))) (hf : FmAt t H n g f) (hc : Paired (HdAt t H n) hs cs) (h : ∀ (x : Addr) (H' : Hp), Same H H' → H x = none → MvAt t H' n x g f cs → Q (.ref x) H') :
    MkG t.C_Move (spInitM t.C_Move) [.ref g, .ref l] H Q := by
  intro x dx hx hdx ne
  have s2 := same_new2 hx hdx (.ins t.C_Move dx []) (.own x)
  refine ⟨x, dx, g, l, _, rfl, upd_same, s2 _ _ hl, fun tp H' s3 h1 h2 => ⟨rfl, ?_⟩⟩
  have s4 : Same H H' := fun b o e => s3 b o (ne_of_none e hx) (s2 b o e)
  exact h x H' s4 hx ⟨dx, tp, hs, h2, h1, hf.mono (Ext.of s4), paired_imp (fun _ _ q => q.ext (Ext.of s4)) hc⟩
def isMv (t : Ad) (C : Addr) : Prop := C = t.C_Move
theorem MvAt.ins {H : Hp} {x g : Addr} {f : Fm} {cs : List Chg} (h : MvAt t H n x g f cs) (m : Str) (h1 : ¬ m = "changes") (h2 : ¬ m = "guard") : ∃ C dx fs, H x = some (.ins C dx fs) ∧ isMv t C ∧ fs.lookup m = none := by
  obtain ⟨dx, tp, hs, e, _⟩ := h
  exact ⟨_, dx, _, e, rfl, lk_noF _ _ _ h1 h2⟩
def spFits (t : Ad) (n : Nat) : Sp := fun vs H Q _ => ∃ (x g : Addr) (s : Nat) (f : Fm) (cs : List Chg), vs = [.ref x, .int (s : Int)] ∧ MvAt t H n x g f cs ∧ Q (.bl (f.holds s)) H
theorem D_fits_of (T : Txt K mg t) : ∀ C, isMv t C → MeS P w K mg base (n + 1) C "fits" ["self", "stand"] (spAt (spFits t n) C) := by
  rintro C rfl
  refine ⟨T.c_Move, _, _, T.F_Move_fits.ok sc_Move_fits (fun vs H Q E h => ?_) (fun cdv A outer s H vs Q E hr h => ?_), T.b_Move_fits, T.h_Move_fits⟩
  · obtain ⟨⟨x, g, s, f, cs, rfl, _⟩, _⟩ := h
    rfl
  obtain ⟨⟨x, g, s, f, cs, rfl, ⟨dx, tp, hs, e1, e2, f1, p⟩, q⟩, _⟩ := h
  have D_holds := D_holds_of (P := P) (w := w) (base := base) T n
  obtain ⟨C, dx', fs', e', hC, hl⟩ := f1.ins "holds" (by decide +kernel) (by decide +kernel) (by decide +kernel) (by decide +kernel)
  refine ⟨_, (pss_one (ps_ret (pe_dy D_holds hr (pe_fld (pv 0) rfl) (pa_cons (pv 1) pa_nil)))), ?_⟩
  walk_at "rd0"
  refine ⟨x, _, _, _, _, rfl, e1, T.c_Move, T.n_Move_guard, lk_guard _ _, ?_⟩
  walk_at "rd"
  refine ⟨g, C, dx', fs', rfl, e', hC, hl, ?_⟩
  walk_at "rd"
  exact ⟨e', g, s, f, rfl, f1, q⟩
def spOnward (t : Ad) (n : Nat) : Sp := fun vs H Q _ => ∃ (x g : Addr) (s : Nat) (f : Fm) (cs : List Chg), vs = [.ref x, .int (s : Int)] ∧ MvAt t H n x g f cs ∧ (∀ c ∈ cs, c.1 ≤ 6) ∧ Q (.int ((onN s cs : Nat) : Int)) H
theorem D_onward_of (T : Txt K mg t) : ∀ C, isMv t C → MeS P w K mg base (n + 1) C "onward" ["self", "stand"] (spAt (spOnward t n) C) := by
  rintro C rfl
  refine ⟨T.c_Move, _, _, T.F_Move_onward.ok sc_Move_onward (fun vs H Q E h => ?_) (fun cdv A outer s H vs Q E hr h => ?_), T.b_Move_onward, T.h_Move_onward⟩
  · obtain ⟨⟨x, g, s, f, cs, rfl, _⟩, _⟩ := h
    rfl
  obtain ⟨⟨x, g, s, f, cs, rfl, ⟨dx, tp, hs, e1, e2, f1, p⟩, h6, q⟩, _⟩ := h
  have D_holds := D_holds_of (P := P) (w := w) (base := base) T n
  refine ⟨_, (pss_cons (ss 2 sc_Move_onward.nd (pv 1))
      (pss_cons (ps_for PassesOwn.never rfl (pi_seq (pe_fld (pv 0) rfl)) (pg_tup rfl (pgs_cons (sg 3 sc_Move_onward.nd) (pgs_cons (sg 4 sc_Move_onward.nd) pgs_nil)))
      (pss_one (ps_if (pt_truth (pe_dy D_holds hr (pv 4) (pa_cons (pv 1) pa_nil)) (fun _ => rfl))
      (pss_one (ss 2 sc_Move_onward.nd (pe_op op_or (pv 2) (pe_op op_shl pe_int (pv 3)))))
      (pss_one (ss 2 sc_Move_onward.nd (pe_op op_and (pv 2) (pe_un un_inv (pe_op op_shl pe_int (pv 3)))))))))
      (pss_one (ps_ret (pv 2))))), ?_⟩
  walk_at "rd0"
  refine ⟨x, _, _, _, _, rfl, e1, T.c_Move, T.n_Move_changes, lk_changes _ _, ?_⟩
  refine seqT (xs := hs.map V.ref) (fun i σ H' => H' = H ∧ ∃ v v', σ = [some (.ref x), some (.int (s : Int)), some (.int ((onN s (cs.take i) : Nat) : Int)), v, v']) ⟨rfl, _, _, rfl⟩ (fun i σ H' _ hp => by obtain ⟨rfl, _⟩ := hp; exact SqT.of e2) ?_ ?_
  · rintro i y σ H' hy ⟨rfl, v, v', rfl⟩
    obtain ⟨h, rfl, hx'⟩ := get_ref hy
    obtain ⟨c, hgi, ht, hf⟩ := paired_get p hx'
    have hc6 := h6 c (List.mem_of_getElem? hgi)
    obtain ⟨C, dx', fs', e', hC, hl⟩ := hf.ins "holds" (by decide +kernel) (by decide +kernel) (by decide +kernel) (by decide +kernel)
    have hs' := onN_snoc s (cs.take i) c
    rw [← take_snoc hgi] at hs'
    refine i_gN2 ht ?_
    walk_at "rd"
    refine ⟨c.2.1, C, dx', fs', rfl, e', hC, hl, ?_⟩
    walk_at "rd"
    refine ⟨e', c.2.1, s, c.2.2, rfl, hf, ?_⟩
    walk_at "rd"
    refine i_ifb (fun hb => ?_) (fun hb => ?_)
    · walk_at "rd"
      rw [shl_nat, or_nat]
      refine ⟨rfl, some (.int (c.1 : Int)), some (.ref c.2.1), ?_⟩
      rw [hs', if_pos hb]
      all_goals rfl
    · walk_at "rd"
      rw [shl_nat, andnot_nat]
      refine ⟨rfl, some (.int (c.1 : Int)), some (.ref c.2.1), ?_⟩
      rw [hs', if_neg (by rw [hb]; exact Bool.false_ne_true)]
      all_goals rfl
  · rintro σ H' ⟨rfl, v, v', rfl⟩
    rw [List.length_map, paired_len p, List.take_length]
    walk_at "rd"
    exact q
end

section
variable {P : Program} {w : World} {K : PySem.W.Frag} {mg : Str → Option Value} {base : Heap} {t : Ad} {n : Nat}
theorem litI_snoc (s j : Nat) (cs : List Chg) (c : Chg) : (if litAt s (cs ++ [c]) j = true then (1 : Int) else 0) = if c.1 = j then (if c.2.2.holds s = true then 1 else 0) else (if litAt s cs j = true then 1 else 0) := by
  rw [litAt_snoc]
  by_cases e : c.1 = j
  · rw [if_pos e, if_pos e]
  · rw [if_neg e, if_neg e]
def spDue (t : Ad) : Sp := fun vs H Q _ => ∃ (s m n : Nat) (l : Addr) (hs : List Addr) (cs : List Chg), vs = [.int (s : Int), .ref l, .int (m : Int)] ∧ m ≤ 6 ∧ s < 2 ^ m ∧ H l = some (.lst (hs.map V.ref)) ∧ Paired (ChAt t m H n) hs cs ∧ Q (.int ((bits (fun i => litAt s cs i) m : Nat) : Int)) H
theorem ok_due (T : Txt K mg t) : FnS P w K mg base 1 "_law_due" ["_law_stand", "_law_changes", "_law_many"] (spDue t) := by
  refine ⟨_, _, T.F__law_due.ok sc__law_due (fun vs H Q E h => ?_) (fun cdv A outer s H vs Q E hr h => ?_), T.b__law_due, T.F__law_due.kp, T.m__law_due⟩
  · obtain ⟨s0, m, n, l, hs, cs, rfl, hm, hs0, hl, hg, q⟩ := h
    rfl
  obtain ⟨s0, m, n, l, hs, cs, rfl, hm, hs0, hl, hg, q⟩ := h
  have hp := pow_small hm
  have hs64 : 2 ^ s0 ≤ 2 ^ 64 := Nat.pow_le_pow_right (by decide) (by omega)
  have hsp : 0 < 2 ^ s0 := Nat.two_pow_pos s0
  refine ⟨_, (pss_cons (ss 3 sc__law_due.nd pe_int)
      (pss_cons (ps_for PassesOwn.never rfl (pi_range1 rfl T.B.range (pa_cons (pv 2) pa_nil)) (sg 4 sc__law_due.nd)
      (pss_cons (ss 5 sc__law_due.nd (pe_op op_mod (pe_op op_fdivG (pv 0) (pe_op op_shl pe_int (pv 4))) pe_int))
      (pss_cons (ps_for PassesOwn.never rfl (pi_seq (pv 1)) (sg 6 sc__law_due.nd)
      (pss_one (ps_if (pt_cmpR (op_eqA hr.units) (pe_ix ix_seq (pv 6) pe_int (fun _ _ => rfl)) (pv 4) (nomark _))
      (pss_one (ss 5 sc__law_due.nd (pe_op op_mod (pe_op op_fdivG (pe_ix ix_seq (pe_ix ix_seq (pv 6) pe_int (fun _ _ => rfl)) pe_int (fun _ _ => rfl)) (pe_op op_shl pe_int (pv 0))) pe_int)))
      pss_nil)))
      (pss_one (ss 3 sc__law_due.nd (pe_op op_addG (pv 3) (pe_op op_mulG (pv 5) (pe_op op_shl pe_int (pv 4)))))))))
      (pss_one (ps_ret (pv 3))))), ?_⟩
  walk_at "rd0"
  refine ⟨_, rfl, by omega, by omega, ?_⟩
  rw [Int.toNat_natCast]
  refine loopR (fun j σ H' => H' = H ∧ ∃ v4 v5 v6, σ = [some (.int (s0 : Int)), some (.ref l), some (.int (m : Int)), some (.int ((bits (fun i => litAt s0 cs i) j : Nat) : Int)), v4, v5, v6]) ⟨rfl, _, _, _, rfl⟩ ?_ ?_
  · rintro j σ H' hj ⟨rfl, v4, v5, v6, rfl⟩
    have hpj : 0 < 2 ^ j := Nat.two_pow_pos j
    have hpj6 := pow_small (show j ≤ 6 by omega)
    rw [Int.zero_add]
    walk_at "rd"
    rw [shl_nat]
    refine i_rI ⟨by omega, by omega⟩ ?_
    walk_at "rd"
    rw [div_lit]
    refine seqL (xs := hs.map V.ref) (fun k σ H'' => H'' = H' ∧ ∃ v6, σ = [some (.int (s0 : Int)), some (.ref l), some (.int (m : Int)), some (.int ((bits (fun i => litAt s0 cs i) j : Nat) : Int)), some (.int (j : Int)), some (.int (if litAt s0 (cs.take k) j = true then 1 else 0)), v6]) ⟨rfl, _, rfl⟩ (fun k σ H'' _ hp => by obtain ⟨rfl, _⟩ := hp; exact SqL.of hl) ?_ ?_
    · rintro k y σ H'' hy ⟨rfl, v6, rfl⟩
      obtain ⟨h, rfl, hx'⟩ := get_ref hy
      obtain ⟨c, hgi, q', ht, hq1, hq2⟩ := paired_get hg hx'
      have hs' := litI_snoc s0 j (cs.take k) c
      rw [← take_snoc hgi] at hs'
      walk_at "rd"
      refine i_ixT ht (v := .int (c.1 : Int)) rfl ?_
      walk_at "rd"
      refine i_ifd (fun h0 => ?_) (fun h0 => ?_)
      · walk_at "rd"
        refine i_ixT ht (v := .ref q') rfl ?_
        walk_at "rd"
        refine i_ixT hq1 (v := .int ((c.2.2.crowd (2 ^ m) : Nat) : Int)) rfl ?_
        walk_at "rd"
        rw [shl_nat]
        refine i_rI ⟨by omega, by omega⟩ ?_
        walk_at "rd"
        rw [div_lit]
        have eb : (c.2.2.crowd (2 ^ m)).testBit s0 = c.2.2.holds s0 := by
          unfold Fm.crowd
          rw [testBit_bits, decide_eq_true hs0, Bool.true_and]
        refine ⟨rfl, some (.ref h), ?_⟩
        rw [hs', if_pos (show c.1 = j by omega), eb]
        all_goals rfl
      · walk_at "rd"
        refine ⟨rfl, some (.ref h), ?_⟩
        rw [hs', if_neg (show ¬ c.1 = j by omega)]
        all_goals rfl
    · rintro σ H'' ⟨rfl, v6, rfl⟩
      rw [List.length_map, paired_len hg, List.take_length]
      walk_at "rd"
      refine i_mulI (.inl ⟨by split <;> decide, by split <;> decide⟩) ?_
      walk_at "rd"
      rw [shl_nat]
      refine ⟨rfl, some (.int (j : Int)), some (.int (if litAt s0 cs j = true then 1 else 0)), v6, ?_⟩
      have e : ((bits (fun i => litAt s0 cs i) j : Nat) : Int) + (if litAt s0 cs j = true then 1 else 0) * ((2 ^ j : Nat) : Int) = ((bits (fun i => litAt s0 cs i) (j + 1) : Nat) : Int) := by
        by_cases hb : litAt s0 cs j = true
        · rw [if_pos hb, bits_add (fun i => litAt s0 cs i) j hb, Int.one_mul, Int.natCast_add]
        · rw [if_neg hb, bits_skip (fun i => litAt s0 cs i) j (by simpa using hb), Int.zero_mul, Int.add_zero]
      rw [e]
      all_goals rfl
  · rintro σ H' ⟨rfl, v4, v5, v6, rfl⟩
    walk_at "rd"
    exact q
def spHoldsAt (t : Ad) (n : Nat) : Sp := fun vs H Q _ => ∃ (x g gq l : Addr) (s m : Nat) (f : Fm) (hs : List Addr) (cs : List Chg), vs = [.ref x, .int (s : Int), .ref gq, .ref l, .int (m : Int)] ∧ m ≤ 6 ∧ s < 2 ^ m ∧ MvAt t H n x g f cs ∧ PqAt t m H n gq (g, f) ∧ H l = some (.lst (hs.map V.ref)) ∧ Paired (ChAt t m H n) hs cs ∧ (∀ c ∈ cs, c.1 < m) ∧ Q (.bl true) H
theorem ok_holds_at (T : Txt K mg t) : FnS P w K mg base (n+2) "_law_holds_at" ["_law_move", "_law_stand", "_law_guard", "_law_changes", "_law_many"] (spHoldsAt t n) := by
  refine ⟨_, _, T.F__law_holds_at.ok sc__law_holds_at (fun vs H Q E h => ?_) (fun cdv A outer s H vs Q E hr h => ?_), T.b__law_holds_at, T.F__law_holds_at.kp, T.m__law_holds_at⟩
  · obtain ⟨x, g, gq, l, s0, m, f, hs, cs, rfl, hm, hs0, hv, hq, hl, hg, hc, q⟩ := h
    rfl
  obtain ⟨x, g, gq, l, s0, m, f, hs, cs, rfl, hm, hs0, hv, hq, hl, hg, hc, q⟩ := h
  have G__law_due := ok_due (P := P) (w := w) (base := base) T
  have D_fits := D_fits_of (P := P) (w := w) (base := base) (n := n) T
  have D_onward := D_onward_of (P := P) (w := w) (base := base) (n := n) T
  have hp := pow_small hm
  have hs64 : 2 ^ s0 ≤ 2 ^ 64 := Nat.pow_le_pow_right (by decide) (by omega)
  have hsp : 0 < 2 ^ s0 := Nat.two_pow_pos s0
  obtain ⟨C, dx', fs', e', hC, hl'⟩ := hv.ins "fits" (by decide +kernel) (by decide +kernel)
  obtain ⟨C2, dx2, fs2, e2, hC2, hl2⟩ := hv.ins "onward" (by decide +kernel) (by decide +kernel)
  refine ⟨_, (pss_cons (ss 5 sc__law_holds_at.nd (pe_dy D_fits hr (pv 0) (pa_cons (pv 1) pa_nil)))
      (pss_cons (ss 6 sc__law_holds_at.nd (pe_dy D_onward hr (pv 0) (pa_cons (pv 1) pa_nil)))
      (pss_cons (ps_if (PW.pt (pw_or (pt_not (pt_truth (pe_callB call_isi rfl T.B.isinstance bt_isinstance (pa_cons (pv 5) (pa_cons (pe_bltn (v := .ty "bool") rfl T.B.bool bt_bool rfl) pa_nil))) (fun _ => rfl))) (pw_or (pt_not (pt_truth (pe_callB call_isi rfl T.B.isinstance bt_isinstance (pa_cons (pv 6) (pa_cons (pe_bltn (v := .ty "int") rfl T.B.int bt_int rfl) pa_nil))) (fun _ => rfl))) (pw_or1 (pt_truth (pe_callB call_isi rfl T.B.isinstance bt_isinstance (pa_cons (pv 6) (pa_cons (pe_bltn (v := .ty "bool") rfl T.B.bool bt_bool rfl) pa_nil))) (fun _ => rfl))))))
      (pss_one (ps_ret pe_bl))
      pss_nil)
      (pss_one (ps_ret (pe_and (pe_cmpR (op_eqA hr.units) (pv 5) (pe_cmpR (op_eqA hr.units) (pe_op op_mod (pe_op op_fdivG (pe_ix ix_seq (pv 2) pe_int (fun _ _ => rfl)) (pe_op op_shl pe_int (pv 1))) pe_int) pe_int (nomark _)) (nomark _)) (pe_one (pe_cmpR (op_eqA hr.units) (pv 6) (pe_fn G__law_due hr (pa_cons (pv 1) (pa_cons (pv 3) (pa_cons (pv 4) pa_nil)))) (nomark _))))))))), ?_⟩
  walk_at "rd0"
  refine ⟨x, C, dx', fs', rfl, e', hC, hl', ?_⟩
  walk_at "rd"
  refine ⟨e', x, g, s0, f, cs, rfl, hv, ?_⟩
  walk_at "rd"
  refine ⟨x, C2, dx2, fs2, rfl, e2, hC2, hl2, ?_⟩
  walk_at "rd"
  refine ⟨e2, x, g, s0, f, cs, rfl, hv, fun c h => by have := hc c h; omega, ?_⟩
  walk_at "rd"
  refine i_ifF rfl ?_
  walk_at "rd"
  refine i_ifF rfl ?_
  walk_at "rd"
  refine i_ifF rfl ?_
  walk_at "rd"
  refine i_ixT hq.1 (v := .int ((f.crowd (2 ^ m) : Nat) : Int)) rfl ?_
  walk_at "rd"
  rw [shl_nat]
  refine i_rI ⟨by omega, by omega⟩ ?_
  walk_at "rd"
  have eb : (f.crowd (2 ^ m)).testBit s0 = f.holds s0 := by
    unfold Fm.crowd
    rw [testBit_bits, decide_eq_true hs0, Bool.true_and]
  have ed : decide ((if f.holds s0 = true then (1 : Int) else 0) = 1) = f.holds s0 := by
    cases f.holds s0 <;> rfl
  rw [div_lit, eb, ed]
  refine i_ifT (by simp) ?_
  walk_at "rd"
  refine ⟨s0, m, n, l, hs, cs, rfl, hm, hs0, hl, hg, ?_⟩
  walk_at "rd"
  rw [onN_due hs0 hc, decide_eq_true rfl]
  exact q
structure LC (t : Ad) (m : Nat) (H0 H : Hp) (l : Addr) (hs : List Addr) (cs : List Chg) : Prop where
  sm : Same H0 H
  nl : H0 l = none
  fl : H l = some (.lst (hs.map V.ref))
  ff : Paired (ChAt t m H 62) hs cs
  lo : ∀ c ∈ cs, c.1 < m
theorem LC.app {m : Nat} {H0 H H' H'' : Hp} {l h : Addr} {c : Chg} {hs : List Addr} {cs : List Chg} (L : LC t m H0 H l hs cs) (s : Same H H') (b : But l H' H'') (e : H'' l = some (.lst (hs.map V.ref ++ [.ref h]))) (f : ChAt t m H' 62 h c) (hc : c.1 < m) : LC t m H0 H'' l (hs ++ [h]) (cs ++ [c]) := by
  have x : Ext H' H'' := b.ext (s _ _ L.fl)
  refine ⟨b.same L.nl (L.sm.trans s), L.nl, by rw [e, List.map_append]; rfl, paired_append (paired_imp (fun _ _ q => q.ext ((Ext.of s).trans x)) L.ff) (.cons (f.ext x) .nil), fun c' h' => ?_⟩
  rcases List.mem_append.mp h' with h' | h'
  · exact L.lo c' h'
  · rw [List.mem_singleton.mp h']; exact hc
theorem ok_law (T : Txt K mg t) : FnOk P w K mg base CX0 68 t.f_law t.d_law ["_law_script"] (spLaw K) := by
  refine T.F_law.ok sc_law (fun vs H Q E h => ?_) (fun cdv A outer s H vs Q E hr h => ?_)
  · obtain ⟨a, ns, rfl, _⟩ := h
    rfl
  obtain ⟨sc, ns, rfl, hS, h63, hO, q⟩ := h
  have G__law_cell_at := ok_cell_at (P := P) (w := w) (base := base) T
  have G__law_pile := ok_pile (P := P) (w := w) (base := base) T
  have G__law_holds_at := ok_holds_at (P := P) (w := w) (base := base) (n := 62) T
  have M_Move := ok_Move (P := P) (w := w) (base := base) T
  refine ⟨_, (pss_cons (ss 1 sc_law.nd (pe_fn G__law_cell_at hr (pa_cons (pv 0) (pa_cons pe_int pa_nil))))
      (pss_cons (ss 2 sc_law.nd (pe_op op_addG pe_int (pe_op op_mod (pv 1) pe_int)))
      (pss_cons (ss 3 sc_law.nd (pe_op op_addG pe_int (pe_op op_mod (pe_fn G__law_cell_at hr (pa_cons (pv 0) (pa_cons pe_int pa_nil))) (pv 2))))
      (pss_cons (ss 4 sc_law.nd (pe_op op_addG pe_int (pe_op op_mulG (pe_op op_sub (pv 2) pe_int) (pe_op op_mod (pe_op op_fdivG (pe_fn G__law_cell_at hr (pa_cons (pv 0) (pa_cons pe_int pa_nil))) pe_int) pe_int))))
      (pss_cons (ss 5 sc_law.nd (pe_fn G__law_pile hr (pa_cons (pe_slice sl_any (pv 0) (po_some pe_int) (po_some pe_int)) (pa_cons (pv 2) pa_nil))))
      (pss_cons (ss 6 sc_law.nd (pe_lst pa_nil))
      (pss_cons (ps_for PassesOwn.never rfl (pi_range1 rfl T.B.range (pa_cons (pv 3) pa_nil)) (sg 7 sc_law.nd)
      (pss_one (ps_expr (pe_bm PySem.F.plainAttrs_list PySem.F.slot_list_append PySem.F.type_list_append mt_append (pv 6) (pa_cons (pe_tup (pa_cons (pe_op op_mod (pe_op op_addG (pe_op op_fdivG (pv 1) pe_int) (pe_op op_mulG (pv 4) (pv 7))) (pv 2)) (pa_cons (pe_ix ix_seq (pv 5) (pe_op op_mod (pe_op op_sub (pe_op op_sub (pe_callB call_lenG rfl T.B.len bt_len (pa_cons (pv 5) pa_nil)) pe_int) (pv 7)) (pe_callB call_lenG rfl T.B.len bt_len (pa_cons (pv 5) pa_nil))) (fun _ _ => rfl)) pa_nil))) pa_nil)))))
      (pss_cons (ps_comp 8 sc_law.nd (sc := defScope s_law) (N := ["_law_script", "_law_first", "_law_many", "_law_count", "_law_step", "_law_pile_here", "_law_changes", "_law_k", "_law_handed", "_law_move", "_law_stand"]) (ns := []) (ix := []) rfl rfl (by decide +kernel) rfl (pi_seq (pv 6)) (fun _ _ _ _ => pts_nil) (fun _ _ _ _ => (pe_tup (pa_cons (pe_ix (ix_seqK (K := K) rfl) (pv 0) pe_int (fun _ _ => rfl)) (pa_cons (pe_ix (ix_seqK (K := K) rfl) (pe_ix (ix_seqK (K := K) rfl) (pv 0) pe_int (fun _ _ => rfl)) pe_int (fun _ _ => rfl)) pa_nil)))))
      (pss_cons (ss 9 sc_law.nd (pe_mk M_Move hr (pa_cons (pe_ix ix_seq (pe_ix ix_seq (pv 5) (pe_un un_neg pe_int) (fun _ _ => rfl)) pe_int (fun _ _ => rfl)) (pa_cons (pv 8) pa_nil))))
      (pss_cons (ps_if (pt_cmpR (op_neA hr.units) (pe_comp (sc := defScope s_law) (N := ["_law_script", "_law_first", "_law_many", "_law_count", "_law_step", "_law_pile_here", "_law_changes", "_law_k", "_law_handed", "_law_move", "_law_stand"]) (ns := []) (ix := []) rfl rfl (by decide +kernel) rfl (pi_seq (pv 8)) (fun _ _ _ _ => pts_nil) (fun _ _ _ _ => (pe_ix (ix_seqK (K := K) rfl) (pv 0) pe_int (fun _ _ => rfl)))) (pe_comp (sc := defScope s_law) (N := ["_law_script", "_law_first", "_law_many", "_law_count", "_law_step", "_law_pile_here", "_law_changes", "_law_k", "_law_handed", "_law_move", "_law_stand"]) (ns := []) (ix := []) rfl rfl (by decide +kernel) rfl (pi_seq (pv 6)) (fun _ _ _ _ => pts_nil) (fun _ _ _ _ => (pe_ix (ix_seqK (K := K) rfl) (pv 0) pe_int (fun _ _ => rfl)))) (nomark _))
      (pss_one (ps_ret pe_bl))
      pss_nil)
      (pss_cons (ps_for PassesOwn.never rfl (pi_range1 rfl T.B.range (pa_cons (pe_op op_shl pe_int (pv 2)) pa_nil)) (sg 10 sc_law.nd)
      (pss_cons (ps_if (pt_not (pt_truth (pe_fn G__law_holds_at hr (pa_cons (pv 9) (pa_cons (pv 10) (pa_cons (pe_ix ix_seq (pv 5) (pe_un un_neg pe_int) (fun _ _ => rfl)) (pa_cons (pv 6) (pa_cons (pv 2) pa_nil)))))) (fun _ => rfl)))
      (pss_one (ps_ret pe_bl))
      pss_nil)
      (pss_one (ps_if (pt_cmpR (op_eqA hr.units) (pv 10) (pe_op op_mod (pe_op op_fdivG (pv 1) pe_int) (pe_op op_shl pe_int (pv 2))) (nomark _))
      (pss_one (ps_expr (pe_bm0 PySem.F.plainAttrs_list PySem.F.slot_list_clear PySem.F.type_list_clear mt_clear (pv 8))))
      pss_nil))))
      (pss_one (ps_ret (pe_fn G__law_holds_at hr (pa_cons (pv 9) (pa_cons pe_int (pa_cons (pe_ix ix_seq (pv 5) (pe_un un_neg pe_int) (fun _ _ => rfl)) (pa_cons (pv 6) (pa_cons (pv 2) pa_nil))))))))))))))))))), ?_⟩
  obtain ⟨m, hm, hm1, hm6⟩ : ∃ m : Nat, 1 + cell ns 0 % 6 = (m : Int) ∧ 1 ≤ m ∧ m ≤ 6 := ⟨(1 + cell ns 0 % 6).toNat, by omega, by omega, by omega⟩
  have hp := pow_small hm6
  have hp0 := Int.natCast_nonneg (2 ^ m)
  obtain ⟨ct, hct, hct6⟩ : ∃ ct : Nat, 1 + cell ns 1 % (m : Int) = (ct : Int) ∧ ct ≤ 6 := by
    have a := Int.emod_nonneg (cell ns 1) (show (m : Int) ≠ 0 by omega)
    have b := Int.emod_lt_of_pos (cell ns 1) (show (0 : Int) < (m : Int) by omega)
    exact ⟨(1 + cell ns 1 % (m : Int)).toNat, by omega, by omega⟩
  walk_at "rd0"
  refine ⟨sc, ns, 0, rfl, hS, ?_⟩
  walk_at "rd"
  rw [hm]
  walk_at "rd"
  refine ⟨sc, ns, 1, rfl, hS, ?_⟩
  walk_at "rd"
  rw [hct]
  refine ⟨sc, ns, 1, rfl, hS, ?_⟩
  walk_at "rd"
  refine i_mulI (.inl ⟨by omega, by omega⟩) ?_
  walk_at "rd"
  generalize 1 + ((m : Int) - 2) * (cell ns 1 / 6 % 2) = st
  refine .inl (j_sl hS ((cut_mid _ 2 62).trans (map_int_mid ns 2 60)) fun l0 H1 s1 n1 e1 => ?_)
  walk_at "rd"
  refine ⟨l0, _, m, rfl, e1, by rw [List.length_take]; omega, hm1, hm6, fun pl qs pgs H2 L hne hz => ?_⟩
  have sm2 : Same H H2 := s1.trans L.sm
  have ePl := L.fm
  have hgl := paired_len L.ff
  have fQ := L.ff
  have hlen : (qs.map V.ref).length = qs.length := List.length_map _
  have hq1 : 0 < qs.length := Nat.pos_of_ne_zero fun e => hne (List.length_eq_zero_iff.mp e)
  clear L
  walk_at "rd"
  refine j_lst (by simp) fun lc H3 s3 n3 e3 => ?_
  walk_at "rd"
  refine ⟨_, rfl, by omega, by omega, ?_⟩
  rw [Int.toNat_natCast]
  refine loopR (fun j σ H' => ∃ hs cs v7, σ = [some (.ref sc), some (.int (cell ns 0)), some (.int (m : Int)), some (.int (ct : Int)), some (.int st), some (.ref pl), some (.ref lc), v7, none, none, none] ∧ hs.length = j ∧ LC t m H2 H' lc hs cs) ⟨[], [], _, rfl, rfl, s3, n3, e3, .nil, fun c h => by cases h⟩ ?_ ?_
  · rintro j σ H4 hj ⟨hs, cs, v7, rfl, hj', L⟩
    rw [Int.zero_add]
    have e4 := L.sm _ _ ePl
    have eL := L.fl
    walk_at "rd"
    refine ⟨tyL eL, ?_⟩
    walk_at "rd"
    refine i_mulI (.inr ⟨by omega, by omega⟩) ?_
    walk_at "rd"
    obtain ⟨k, hk, hkm⟩ : ∃ k : Nat, (cell ns 0 / 6 + st * (j : Int)) % (m : Int) = (k : Int) ∧ k < m := by
      have a := Int.emod_nonneg (cell ns 0 / 6 + st * (j : Int)) (show (m : Int) ≠ 0 by omega)
      have b := Int.emod_lt_of_pos (cell ns 0 / 6 + st * (j : Int)) (show (0 : Int) < (m : Int) by omega)
      exact ⟨((cell ns 0 / 6 + st * (j : Int)) % (m : Int)).toNat, by omega, by omega⟩
    rw [hk]
    obtain ⟨i, hi, hiq⟩ : ∃ i : Nat, (((qs.map V.ref).length : Int) - 2 - (j : Int)) % ((qs.map V.ref).length : Int) = (i : Int) ∧ i < qs.length := by
      rw [hlen]
      have a := Int.emod_nonneg ((qs.length : Int) - 2 - (j : Int)) (show (qs.length : Int) ≠ 0 by omega)
      have b := Int.emod_lt_of_pos ((qs.length : Int) - 2 - (j : Int)) (show (0 : Int) < (qs.length : Int) by omega)
      exact ⟨(((qs.length : Int) - 2 - (j : Int)) % (qs.length : Int)).toNat, by omega, by omega⟩
    rw [hi]
    obtain ⟨q', hq'⟩ : ∃ q', qs[i]? = some q' := ⟨_, List.getElem?_eq_getElem hiq⟩
    obtain ⟨pg, hpg, fpg⟩ := paired_get fQ hq'
    refine i_ixL (j := i) e4 (v := .ref q') (by rw [List.getElem?_map, hq']; rfl) ?_
    walk_at "rd"
    refine j_tup (by simp) fun h H5 s5 n5 e5 => ?_
    walk_at "rd"
    refine j_append (s5 _ _ eL) (by rw [List.length_map]; omega) fun H6 b6 e6 => ?_
    walk_at "rd"
    exact ⟨hs ++ [h], cs ++ [(k, pg)], _, rfl, by rw [List.length_append, List.length_singleton, hj'], L.app s5 b6 e6 ⟨q', e5, fpg.up (Ext.of (L.sm.trans s5)) (Nat.le_refl _)⟩ hkm⟩
  rintro σ H4 ⟨hs, cs, v7, rfl, hj', L⟩
  obtain ⟨qs0, ql, rfl⟩ := snoc_of hne
  obtain ⟨pgs0, ⟨g, f⟩, rfl⟩ := snoc_of (l := pgs) (fun e => by rw [e] at hgl; simp at hgl)
  obtain ⟨_, fl⟩ := paired_snoc fQ
  rw [List.map_append, List.map_cons, List.map_nil] at ePl
  have eL := L.fl
  have hcl := paired_len L.ff
  walk_at "rd"
  refine .inl ⟨lc, _, rfl, SqL.of eL, ?_⟩
  refine comp_byH (fun i ys H' => ∃ ds, ys = ds.map V.ref ∧ Paired (HdAt t H' 62) ds (cs.take i)) (wk_list (SqL.of eL)) (by rw [List.length_map]; omega) (fun H' _ => ⟨[], rfl, .nil⟩) (by rintro i ys H1 H2 x ⟨ds, e, p⟩; exact ⟨ds, e, paired_imp (fun _ _ q => q.ext x) p⟩) ?_ ?_
  · rintro i x ys acc H5 hx s5 hacc ea ⟨ds, rfl, pd⟩ _ R kk
    obtain ⟨h, rfl, hx'⟩ := get_ref hx
    obtain ⟨c, hgi, q', ht, hq1', hq2⟩ := paired_get L.ff hx'
    simp only [subS, List.map_nil]
    walk_at "rd"
    refine kk true H5 (Same.refl _) (fun z => by cases z) fun _ R2 k2 => ?_
    walk_at "rd"
    refine i_ixT (s5 _ _ ht) (v := .int (c.1 : Int)) rfl ?_
    walk_at "rd"
    refine i_ixT (s5 _ _ ht) (v := .ref q') rfl ?_
    walk_at "rd"
    refine i_ixT (s5 _ _ hq1') (v := .ref c.2.1) rfl ?_
    walk_at "rd"
    refine j_tup (by simp) fun d H6 s6 n6 e6 => ?_
    refine k2 _ H6 s6 ⟨ds ++ [d], by rw [List.map_append]; rfl, ?_⟩
    rw [take_snoc hgi]
    exact paired_append (paired_imp (fun _ _ q => q.ext (Ext.of s6)) pd) (.cons ⟨e6, hq2.mono (Ext.of (s5.trans s6))⟩ .nil)
  rintro hd ys H5 nhd s5 ehd ⟨ds, rfl, pd⟩
  rw [List.length_map, hcl, List.take_length] at pd
  have w5 : Same H2 H5 := L.sm.trans s5
  have pH := w5 _ _ ePl
  have fg := fl.2.mono (Ext.of w5)
  have hgq := fl.1
  walk_at "rd"
  refine i_ixLi pH (atI_last _ _) ?_
  walk_at "rd"
  refine i_ixT (w5 _ _ hgq) (v := .ref g) rfl ?_
  walk_at "rd"
  refine i_move ehd fg pd fun x H6 s6 nx hv => ?_
  walk_at "rd"
  have hd6 := s6 _ _ ehd
  refine .inl ⟨hd, _, rfl, SqL.of hd6, ?_⟩
  refine comp_by (fun i ys => ys = ((cs.take i).map fun c : Chg => (c.1 : Int)).map V.int) (wk_list (SqL.of hd6)) (by rw [List.length_map, paired_len pd]; omega) rfl ?_ ?_
  · intro i x ys acc H' hx s1 hacc ea hy _ R kk
    obtain ⟨h, rfl, hx'⟩ := get_ref hx
    obtain ⟨c, hgi, ht, hq2⟩ := paired_get pd hx'
    simp only [subS, List.map_nil]
    walk_at "rd"
    refine kk true H' (Same.refl _) (fun z => by cases z) fun _ R2 k2 => ?_
    walk_at "rd"
    refine i_ixT (s1 _ _ (s6 _ _ ht)) (v := .int (c.1 : Int)) rfl ?_
    refine k2 _ H' (Same.refl _) ?_
    rw [take_snoc hgi, List.map_append, List.map_append, hy]
    rfl
  intro a7 ys H7 n7 s7 e7 hy
  rw [List.length_map, paired_len pd, List.take_length] at hy
  subst hy
  have eL7 := s7 _ _ (s6 _ _ (s5 _ _ eL))
  walk_at "rd"
  refine .inl ⟨lc, _, rfl, SqL.of eL7, ?_⟩
  refine comp_by (fun i ys => ys = ((cs.take i).map fun c : Chg => (c.1 : Int)).map V.int) (wk_list (SqL.of eL7)) (by rw [List.length_map]; omega) rfl ?_ ?_
  · intro i x ys acc H' hx s1 hacc ea hy _ R kk
    obtain ⟨h, rfl, hx'⟩ := get_ref hx
    obtain ⟨c, hgi, q', ht, hq1', hq2⟩ := paired_get L.ff hx'
    simp only [subS, List.map_nil]
    walk_at "rd"
    refine kk true H' (Same.refl _) (fun z => by cases z) fun _ R2 k2 => ?_
    walk_at "rd"
    refine i_ixT (s1 _ _ (s7 _ _ (s6 _ _ (s5 _ _ ht)))) (v := .int (c.1 : Int)) rfl ?_
    refine k2 _ H' (Same.refl _) ?_
    rw [take_snoc hgi, List.map_append, List.map_append, hy]
    rfl
  intro a8 ys H8 n8 s8 e8 hy
  rw [List.length_map, hcl, List.take_length] at hy
  subst hy
  walk_at "rd"
  refine i_neLI (s8 _ _ e7) e8 ?_
  rw [decide_eq_true rfl]
  walk_at "rd"
  refine i_ifF rfl ?_
  walk_at "rd"
  rw [shl_nat]
  refine ⟨_, rfl, by omega, by omega, ?_⟩
  rw [Int.toNat_natCast]
  have w8 : Same H4 H8 := s5.trans (s6.trans (s7.trans s8))
  have v8 : MvAt t H8 62 x g f cs := hv.ext (Ext.of (s7.trans s8))
  have f8 : PqAt t m H8 62 ql (g, f) := fl.up (Ext.of (L.sm.trans w8)) (Nat.le_refl _)
  have c8 : Paired (ChAt t m H8 62) hs cs := paired_imp (fun _ _ q => q.ext (Ext.of w8)) L.ff
  have l8 := w8 _ _ eL
  have p8 := w8 _ _ (L.sm _ _ ePl)
  have d8 := s8 _ _ (s7 _ _ hd6)
  have n1' : lc ≠ hd := ne_of_none eL nhd
  have n2' : pl ≠ hd := ne_of_none (L.sm _ _ ePl) nhd
  refine loopR (fun j σ H9 => Ext H8 H9 ∧ H9 lc = some (.lst (hs.map V.ref)) ∧ H9 pl = some (.lst (qs0.map V.ref ++ [.ref ql])) ∧ (∃ ds, H9 hd = some (.lst ds)) ∧ ∃ v7 v10, σ = [some (.ref sc), some (.int (cell ns 0)), some (.int (m : Int)), some (.int (ct : Int)), some (.int st), some (.ref pl), some (.ref lc), v7, some (.ref hd), some (.ref x), v10]) ⟨Ext.refl _, l8, p8, ⟨_, d8⟩, _, _, rfl⟩ ?_ ?_
  · rintro j σ H9 hj ⟨x9, l9, p9, ⟨ds', d9⟩, v7', v10, rfl⟩
    rw [Int.zero_add]
    walk_at "rd"
    refine i_ixLi p9 (atI_last _ _) ?_
    walk_at "rd"
    refine ⟨x, g, ql, lc, j, m, f, hs, cs, rfl, hm6, hj, v8.ext x9, f8.up x9 (Nat.le_refl _), l9, paired_imp (fun _ _ q => q.ext x9) c8, L.lo, ?_⟩
    walk_at "rd"
    refine i_ifF rfl ?_
    walk_at "rd"
    rw [shl_nat]
    refine i_rI (by omega) ?_
    walk_at "rd"
    refine i_ifd (fun h => ?_) (fun h => ?_)
    · walk_at "rd"
      refine ⟨tyL d9, ?_⟩
      walk_at "rd"
      refine j_clear d9 fun H10 b10 e10 => ?_
      walk_at "rd"
      exact ⟨x9.trans (b10.ext d9), b10 _ _ n1' l9, b10 _ _ n2' p9, ⟨_, e10⟩, _, _, rfl⟩
    · walk_at "rd"
      exact ⟨x9, l9, p9, ⟨_, d9⟩, _, _, rfl⟩
  · rintro σ H9 ⟨x9, l9, p9, ⟨ds', d9⟩, v7', v10, rfl⟩
    walk_at "rd"
    refine i_ixLi p9 (atI_last _ _) ?_
    walk_at "rd"
    refine ⟨x, g, ql, lc, 0, m, f, hs, cs, rfl, hm6, Nat.two_pow_pos m, v8.ext x9, f8.up x9 (Nat.le_refl _), l9, paired_imp (fun _ _ q => q.ext x9) c8, L.lo, ?_⟩
    exact q _
end


end LW
theorem PySem.W.Fast.tw15322032264770234887 : True := trivial
theorem PySem.W.Fast.tw5168165914376356700 : True := trivial
theorem PySem.W.Fast.tw3296099952497536264 : True := trivial
theorem PySem.W.Fast.tw7807281345081382860 : True := trivial
theorem PySem.W.Fast.tw16347924902977150865 : True := trivial
theorem PySem.W.Fast.tw3745088275787419389 : True := trivial
theorem PySem.W.Fast.tw10755786802541422464 : True := trivial
theorem PySem.W.Fast.tw7589972504902679283 : True := trivial
theorem PySem.W.Fast.tw5358589932833057052 : True := trivial
theorem PySem.W.Fast.tw12292219178686832000 : True := trivial
theorem PySem.W.Fast.tw18345381226353800688 : True := trivial
theorem PySem.W.Fast.tw12208886608088210766 : True := trivial
theorem PySem.W.Fast.tw8001946272154814472 : True := trivial
theorem PySem.W.Fast.tw18136010794018338468 : True := trivial
theorem PySem.W.Fast.tw4284396079173397733 : True := trivial
theorem PySem.W.Fast.tw842515753157060381 : True := trivial
theorem PySem.W.Fast.tw13591428375265979837 : True := trivial
theorem PySem.W.Fast.tw783982508399310454 : True := trivial
theorem PySem.W.Fast.tw10630006002632767209 : True := trivial
theorem PySem.W.Fast.tw9822759732701831109 : True := trivial
theorem PySem.W.Fast.tw7493286890652251683 : True := trivial
theorem PySem.W.Fast.tw12193242158418262583 : True := trivial
theorem PySem.W.Fast.tw17936856575055568263 : True := trivial
theorem PySem.W.Fast.tw16138206047849548953 : True := trivial
theorem PySem.W.Fast.tw3275421880419780222 : True := trivial
theorem PySem.W.Fast.tw13499401377118394277 : True := trivial
theorem PySem.W.Fast.tw12296718763562466773 : True := trivial
theorem PySem.W.Fast.tw7826152046680572042 : True := trivial
theorem PySem.W.Fast.tw6132403090861873592 : True := trivial
theorem PySem.W.Fast.tw16477862172321843204 : True := trivial
theorem PySem.W.Fast.tw1999788949670347428 : True := trivial
theorem PySem.W.Fast.tw8974624501044037521 : True := trivial
theorem PySem.W.Fast.tw14142843076516206140 : True := trivial
theorem PySem.W.Fast.tw346105429471771280 : True := trivial
theorem PySem.W.Fast.tw15193136430325211378 : True := trivial
theorem PySem.W.Fast.tw4264033737112805545 : True := trivial
theorem PySem.W.Fast.tw10693047609316058462 : True := trivial
theorem PySem.W.Fast.tw3435880959865190986 : True := trivial
theorem PySem.W.Fast.tw8119219849632502737 : True := trivial
theorem PySem.W.Fast.tw3405884422810332653 : True := trivial
theorem PySem.W.Fast.tw3677979978078241813 : True := trivial
theorem PySem.W.Fast.tw3430669089138693881 : True := trivial
theorem PySem.W.Fast.tw697049087057756008 : True := trivial
theorem PySem.W.Fast.tw6776152196661194111 : True := trivial
theorem PySem.W.Fast.tw6831622916118094256 : True := trivial
theorem PySem.W.Fast.tw18215122974867634259 : True := trivial
theorem PySem.W.Fast.tw9606497520298797228 : True := trivial
theorem PySem.W.Fast.tw8044209476130822509 : True := trivial
theorem PySem.W.Fast.tw9287852947667846686 : True := trivial
theorem PySem.W.Fast.tw3792364703259148680 : True := trivial
theorem PySem.W.Fast.tw15713575729662180466 : True := trivial
theorem PySem.W.Fast.tw253286480963958116 : True := trivial
theorem PySem.W.Fast.tw6369020251588149361 : True := trivial
theorem PySem.W.Fast.tw18003019467533139160 : True := trivial
theorem PySem.W.Fast.tw11440700537026499335 : True := trivial
theorem PySem.W.Fast.tw17696550905280411076 : True := trivial
theorem PySem.W.Fast.tw4803184225220441171 : True := trivial
theorem PySem.W.Fast.tw5985062115664443017 : True := trivial
theorem PySem.W.Fast.tw1176057000259772716 : True := trivial
theorem PySem.W.Fast.tw11484010327710116569 : True := trivial
theorem PySem.W.Fast.tw12405821517743863511 : True := trivial
theorem PySem.W.Fast.tw7698905169005091820 : True := trivial
theorem PySem.W.Fast.tw4953164485512776014 : True := trivial
theorem PySem.W.Fast.tw10837256086375590598 : True := trivial
theorem PySem.W.Fast.tw17884098243833185543 : True := trivial
theorem PySem.W.Fast.tw15375053849279527989 : True := trivial
theorem PySem.W.Fast.tw6683654900603755249 : True := trivial
theorem PySem.W.Fast.tw12227136558587901688 : True := trivial
theorem PySem.W.Fast.tw6567321255098344538 : True := trivial
theorem PySem.W.Fast.tw501489304845012298 : True := trivial
theorem PySem.W.Fast.tw8256482688726399200 : True := trivial
theorem PySem.W.Fast.tw612483272433435969 : True := trivial
theorem PySem.W.Fast.tw6423774184884866659 : True := trivial
theorem PySem.W.Fast.tw7902828426145220846 : True := trivial
theorem PySem.W.Fast.tw5560601357886870377 : True := trivial
theorem PySem.W.Fast.tw3985661433623585671 : True := trivial
theorem PySem.W.Fast.tw7014245399432085405 : True := trivial
theorem PySem.W.Fast.tw13838407263848277458 : True := trivial
theorem PySem.W.Fast.tw12632426956258126380 : True := trivial
theorem PySem.W.Fast.tw5730950824865133703 : True := trivial
theorem PySem.W.Fast.tw17428293400666732272 : True := trivial
theorem PySem.W.Fast.tw6647714992928952757 : True := trivial
theorem PySem.W.Fast.tw13880416667992909175 : True := trivial
theorem PySem.W.Fast.tw2663394335360907986 : True := trivial
theorem PySem.W.Fast.tw5657283810012474180 : True := trivial
theorem PySem.W.Fast.tw15385024715034948253 : True := trivial
theorem PySem.W.Fast.tw15849552078110339736 : True := trivial
theorem PySem.W.Fast.tw13375326285885823017 : True := trivial
theorem PySem.W.Fast.tw11672354567135776257 : True := trivial
theorem PySem.W.Fast.tw15053334414541596999 : True := trivial
theorem PySem.W.Fast.tw1110229610308965168 : True := trivial
theorem PySem.W.Fast.tw3968864462052751856 : True := trivial
theorem PySem.W.Fast.tw1840763733236728866 : True := trivial
theorem PySem.W.Fast.tw3174836567013006968 : True := trivial
theorem PySem.W.Fast.tw11595450219129538073 : True := trivial
theorem PySem.W.Fast.tw8279319346912659399 : True := trivial
theorem PySem.W.Fast.tw4214584846123526853 : True := trivial
theorem PySem.W.Fast.tw5905099318512792329 : True := trivial
theorem PySem.W.Fast.tw7424354010587576184 : True := trivial
theorem PySem.W.Fast.tw13891916455051589244 : True := trivial
theorem PySem.W.Fast.tw7858871377577924237 : True := trivial
theorem PySem.W.Fast.tw4299721629187911578 : True := trivial
theorem PySem.W.Fast.tw14351881482824936080 : True := trivial
theorem PySem.W.Fast.tw7363373888428991775 : True := trivial
theorem PySem.W.Fast.tw9086382865469898814 : True := trivial
theorem PySem.W.Fast.tw16040984033229537351 : True := trivial
theorem PySem.W.Fast.tw16329457559746271196 : True := trivial
theorem PySem.W.Fast.tw14256718040704625472 : True := trivial
theorem PySem.W.Fast.tw1151634179971174689 : True := trivial
theorem PySem.W.Fast.tw9722915323182873715 : True := trivial
theorem PySem.W.Fast.tw2923101467412259872 : True := trivial
theorem PySem.W.Fast.tw6411909962191166562 : True := trivial
theorem PySem.W.Fast.tw9090588961952508847 : True := trivial
theorem PySem.W.Fast.tw13008460601913778776 : True := trivial
theorem PySem.W.Fast.tw12345758942353671784 : True := trivial
theorem PySem.W.Fast.tw11110904860116013116 : True := trivial
theorem PySem.W.Fast.tw10476931005973574163 : True := trivial
theorem PySem.W.Fast.tw15585307405905741178 : True := trivial
theorem PySem.W.Fast.tw3818240962519087044 : True := trivial
theorem PySem.W.Fast.tw5936537840446012921 : True := trivial
theorem PySem.W.Fast.tw5832525507101459440 : True := trivial
theorem PySem.W.Fast.tw14746111893432613793 : True := trivial
theorem PySem.W.Fast.tw15374364812488238313 : True := trivial
theorem PySem.W.Fast.tw12295987974425906231 : True := trivial
theorem PySem.W.Fast.tw11392689350027186505 : True := trivial
theorem PySem.W.Fast.tw11078123236104916116 : True := trivial
theorem PySem.W.Fast.tw2681936297756305031 : True := trivial
theorem PySem.W.Fast.tw16922156391300791129 : True := trivial
theorem PySem.W.Fast.tw3394287412466510414 : True := trivial
theorem PySem.W.Fast.tw13977847440421576642 : True := trivial
theorem PySem.W.Fast.tw17038416319860557281 : True := trivial
theorem PySem.W.Fast.tw14074621719155743203 : True := trivial
theorem PySem.W.Fast.tw4227377494342027356 : True := trivial
theorem PySem.W.Fast.tw17869198376468852186 : True := trivial
theorem PySem.W.Fast.tw12850459935730496025 : True := trivial
theorem PySem.W.Fast.tw10708176205304525756 : True := trivial
theorem PySem.W.Fast.tw18280348433951011681 : True := trivial
theorem PySem.W.Fast.tw12012275169838937666 : True := trivial
theorem PySem.W.Fast.tw4406542394758410686 : True := trivial
theorem PySem.W.Fast.tw4858041843598723406 : True := trivial
theorem PySem.W.Fast.tw5800864320574215993 : True := trivial
theorem PySem.W.Fast.tw4041999407943260443 : True := trivial
theorem PySem.W.Fast.tw16952976812403461380 : True := trivial
theorem PySem.W.Fast.tw9875278855546639291 : True := trivial
theorem PySem.W.Fast.tw855194065567419283 : True := trivial
theorem PySem.W.Fast.tw14805881138815041596 : True := trivial
theorem PySem.W.Fast.tw3057114769776344932 : True := trivial
theorem PySem.W.Fast.tw13596713331672854932 : True := trivial
theorem PySem.W.Fast.tw15448715260610795616 : True := trivial
theorem PySem.W.Fast.tw6340897115597048308 : True := trivial
theorem PySem.W.Fast.tw6818955464054133345 : True := trivial
theorem PySem.W.Fast.tw16746064311131768657 : True := trivial
theorem PySem.W.Fast.tw13586541023340179444 : True := trivial
theorem PySem.W.Fast.tw4601638145877097177 : True := trivial
theorem PySem.W.Fast.tw4480956472439699182 : True := trivial
theorem PySem.W.Fast.tw4557179230733203970 : True := trivial
theorem PySem.W.Fast.tw6666585381992915881 : True := trivial
theorem PySem.W.Fast.tw16062646584535313989 : True := trivial
theorem PySem.W.Fast.tw14129006186718356146 : True := trivial
theorem PySem.W.Fast.tw2452903958397789417 : True := trivial
theorem PySem.W.Fast.tw17861192065064244964 : True := trivial
theorem PySem.W.Fast.tw15927493137436356848 : True := trivial
theorem PySem.W.Fast.tw262748008876654967 : True := trivial
theorem PySem.W.Fast.tw9879249099392652658 : True := trivial
theorem PySem.W.Fast.tw12429607253880532869 : True := trivial
theorem PySem.W.Fast.tw7412886735211806694 : True := trivial
theorem PySem.W.Fast.tw5743882736382701713 : True := trivial
theorem PySem.W.Fast.tw4513470205192896047 : True := trivial
theorem PySem.W.Fast.tw3644559401074248693 : True := trivial
theorem PySem.W.Fast.tw16151626672795884787 : True := trivial
theorem PySem.W.Fast.tw514634603711980350 : True := trivial
theorem PySem.W.Fast.tw8241046995729492631 : True := trivial
theorem PySem.W.Fast.tw12952973546848236506 : True := trivial
theorem PySem.W.Fast.tw7102669816366550815 : True := trivial
theorem PySem.W.Fast.tw4611730566311159643 : True := trivial
theorem PySem.W.Fast.tw14039613840545410151 : True := trivial
theorem PySem.W.Fast.tw1297061516314777181 : True := trivial
theorem PySem.W.Fast.tw17276897363750815292 : True := trivial
theorem PySem.W.Fast.tw13917283091136486399 : True := trivial
theorem PySem.W.Fast.tw606552103149638733 : True := trivial
theorem PySem.W.Fast.tw12773050372309435262 : True := trivial
theorem PySem.W.Fast.tw1593964006071546522 : True := trivial
theorem PySem.W.Fast.tw14454641168658872478 : True := trivial
theorem PySem.W.Fast.tw14416758442119749629 : True := trivial
theorem PySem.W.Fast.tw12827961410003502445 : True := trivial
theorem PySem.W.Fast.tw14039746519466507712 : True := trivial
theorem PySem.W.Fast.tw10121644666023719702 : True := trivial
theorem PySem.W.Fast.tw4429870520442146733 : True := trivial
theorem PySem.W.Fast.tw881898958338671376 : True := trivial
theorem PySem.W.Fast.tw7284902072716101623 : True := trivial
theorem PySem.W.Fast.tw6230859391966396267 : True := trivial
theorem PySem.W.Fast.tw15108742854212209474 : True := trivial
theorem PySem.W.Fast.tw17145256824521274818 : True := trivial
theorem PySem.W.Fast.tw5964847012313937199 : True := trivial
theorem PySem.W.Fast.tw3726022634023681804 : True := trivial
theorem PySem.W.Fast.tw14518073563655222779 : True := trivial
theorem PySem.W.Fast.tw4187471720113470583 : True := trivial
theorem PySem.W.Fast.tw1906871201182617396 : True := trivial
theorem PySem.W.Fast.tw5644335503020613407 : True := trivial
theorem PySem.W.Fast.tw9990131826184755492 : True := trivial
theorem PySem.W.Fast.tw5738340971369822349 : True := trivial
theorem PySem.W.Fast.tw9554980347392021065 : True := trivial
theorem PySem.W.Fast.tw13025454378119160205 : True := trivial
theorem PySem.W.Fast.tw12489820697998084235 : True := trivial
theorem PySem.W.Fast.tw15761813207261065923 : True := trivial
theorem PySem.W.Fast.tw5417665073359891106 : True := trivial
theorem PySem.W.Fast.tw9079755347815634458 : True := trivial
theorem PySem.W.Fast.tw9227409851029626722 : True := trivial
theorem PySem.W.Fast.tw5588313013820096783 : True := trivial
theorem PySem.W.Fast.tw5123041446329870984 : True := trivial
theorem PySem.W.Fast.tw17384784202152133561 : True := trivial
theorem PySem.W.Fast.tw1016924128318161932 : True := trivial
theorem PySem.W.Fast.tw275791787069518197 : True := trivial
theorem PySem.W.Fast.tw11812418046867884835 : True := trivial
theorem PySem.W.Fast.tw14692504202820198199 : True := trivial
theorem PySem.W.Fast.tw17048210283944285278 : True := trivial
theorem PySem.W.Fast.tw2412176239075142678 : True := trivial
theorem PySem.W.Fast.tw4747463303454029423 : True := trivial
theorem PySem.W.Fast.tw481432428463141265 : True := trivial
theorem PySem.W.Fast.tw14164752306381594007 : True := trivial
theorem PySem.W.Fast.tw11152712773810703667 : True := trivial
theorem PySem.W.Fast.tw14964383395066298982 : True := trivial
theorem PySem.W.Fast.tw7136987282647094329 : True := trivial
theorem PySem.W.Fast.tw13410539493785795206 : True := trivial
theorem PySem.W.Fast.tw11398972722151654392 : True := trivial
theorem PySem.W.Fast.tw3408747516028089526 : True := trivial
theorem PySem.W.Fast.tw11024806903195278253 : True := trivial
theorem PySem.W.Fast.tw11331390048764884315 : True := trivial
theorem PySem.W.Fast.tw1972829647470353715 : True := trivial
theorem PySem.W.Fast.tw11227546843534354972 : True := trivial
theorem PySem.W.Fast.tw11471731595270040636 : True := trivial
theorem PySem.W.Fast.tw18248469661652624546 : True := trivial
theorem PySem.W.Fast.tw9397443096209688456 : True := trivial
theorem PySem.W.Fast.tw15927264055062304603 : True := trivial
theorem PySem.W.Fast.tw14606956347657399802 : True := trivial
theorem PySem.W.Fast.tw2946401705639688891 : True := trivial
theorem PySem.W.Fast.tw13700372719884691842 : True := trivial
theorem PySem.W.Fast.tw12094301812143205021 : True := trivial
theorem PySem.W.Fast.tw9709008949677313473 : True := trivial
theorem PySem.W.Fast.tw238466162247996513 : True := trivial
theorem PySem.W.Fast.tw8697756929979249214 : True := trivial
theorem PySem.W.Fast.tw9593142586101745984 : True := trivial
theorem PySem.W.Fast.tw18298092185573924275 : True := trivial
theorem PySem.W.Fast.tw12973577599286916419 : True := trivial
theorem PySem.W.Fast.tw18316802226794770232 : True := trivial
theorem PySem.W.Fast.tw4217938345875419168 : True := trivial
theorem PySem.W.Fast.tw7454913759505550928 : True := trivial
theorem PySem.W.Fast.tw6971354866103168382 : True := trivial
theorem PySem.W.Fast.tw13201783741416025409 : True := trivial
theorem PySem.W.Fast.tw11817372729121628710 : True := trivial
theorem PySem.W.Fast.tw2228612710562986986 : True := trivial
theorem PySem.W.Fast.tw17346715618391835968 : True := trivial
theorem PySem.W.Fast.tw6132468704095160714 : True := trivial
theorem PySem.W.Fast.tw14114691821028916674 : True := trivial
theorem PySem.W.Fast.tw4031650655216080228 : True := trivial
theorem PySem.W.Fast.tw13511248580884749217 : True := trivial
theorem PySem.W.Fast.tw8483775882381353831 : True := trivial
theorem PySem.W.Fast.tw34304383622380109 : True := trivial
theorem PySem.W.Fast.tw16842955869882041921 : True := trivial
theorem PySem.W.Fast.tw4244030380141711310 : True := trivial
theorem PySem.W.Fast.tw7349971752337873986 : True := trivial
theorem PySem.W.Fast.tw14029335401267298081 : True := trivial
theorem PySem.W.Fast.tw13415331956643560618 : True := trivial
theorem PySem.W.Fast.tw15782352624179764662 : True := trivial
theorem PySem.W.Fast.tw6168432608865625414 : True := trivial
theorem PySem.W.Fast.tw17281131016147624385 : True := trivial
theorem PySem.W.Fast.tw18311729565443064474 : True := trivial
theorem PySem.W.Fast.tw11038685216350599571 : True := trivial
theorem PySem.W.Fast.tw7330929182702580742 : True := trivial
theorem PySem.W.Fast.tw9001666729787913120 : True := trivial
theorem PySem.W.Fast.tw909990432780507448 : True := trivial
theorem PySem.W.Fast.tw15473430703747978636 : True := trivial
theorem PySem.W.Fast.tw12981858393859491222 : True := trivial
theorem PySem.W.Fast.tw7959555060879091024 : True := trivial
theorem PySem.W.Fast.tw11019436202480555187 : True := trivial
theorem PySem.W.Fast.tw12395429032903281552 : True := trivial
theorem PySem.W.Fast.tw16028124825630503907 : True := trivial
theorem PySem.W.Fast.tw1880672122559981729 : True := trivial
theorem PySem.W.Fast.tw12819400729775289483 : True := trivial
theorem PySem.W.Fast.tw7513675146741826279 : True := trivial
theorem PySem.W.Fast.tw16283607145855830064 : True := trivial
theorem PySem.W.Fast.tw7039843107734340316 : True := trivial
theorem PySem.W.Fast.tw6097877711883448621 : True := trivial
theorem PySem.W.Fast.tw16863604053609096903 : True := trivial
theorem PySem.W.Fast.tw14399962281074360008 : True := trivial
theorem PySem.W.Fast.tw8777200026877745639 : True := trivial
theorem PySem.W.Fast.tw9526875731384710083 : True := trivial
theorem PySem.W.Fast.tw7906567162041548525 : True := trivial
theorem PySem.W.Fast.tw10017292760381198424 : True := trivial
theorem PySem.W.Fast.tw6510367355276192844 : True := trivial
theorem PySem.W.Fast.tw11513447863567848466 : True := trivial
theorem PySem.W.Fast.tw3925697878504186933 : True := trivial
theorem PySem.W.Fast.tw18178318072539517087 : True := trivial
theorem PySem.W.Fast.tw13541619041302459824 : True := trivial
theorem PySem.W.Fast.tw5049087344596146785 : True := trivial
theorem PySem.W.Fast.tw2901991600322759147 : True := trivial
theorem PySem.W.Fast.tw10569703206006670079 : True := trivial
theorem PySem.W.Fast.tw208646704574941054 : True := trivial
theorem PySem.W.Fast.tw318510876532704918 : True := trivial
theorem PySem.W.Fast.tw2556929535428143080 : True := trivial
theorem PySem.W.Fast.tw15765833892237521702 : True := trivial
theorem PySem.W.Fast.tw5701343394609646139 : True := trivial
theorem PySem.W.Fast.tw3523042326542176252 : True := trivial
theorem PySem.W.Fast.tw3679772866873514157 : True := trivial
theorem PySem.W.Fast.tw7284348463474713018 : True := trivial
theorem PySem.W.Fast.tw8521831722841549682 : True := trivial
theorem PySem.W.Fast.tw16204729082933951028 : True := trivial
theorem PySem.W.Fast.tw17753645957906408256 : True := trivial
theorem PySem.W.Fast.tw1016665786692385113 : True := trivial
theorem PySem.W.Fast.tw16828132697935916865 : True := trivial
theorem PySem.W.Fast.tw14471768784789770817 : True := trivial
theorem PySem.W.Fast.tw5135655655099517915 : True := trivial
theorem PySem.W.Fast.tw820315558729727967 : True := trivial
theorem PySem.W.Fast.tw17179004269388309151 : True := trivial
theorem PySem.W.Fast.tw11597885445841383009 : True := trivial
theorem PySem.W.Fast.tw18210522226218081269 : True := trivial
theorem PySem.W.Fast.tw17623969525848262031 : True := trivial
theorem PySem.W.Fast.tw7048946330436823788 : True := trivial
theorem PySem.W.Fast.tw11335969396143219682 : True := trivial
theorem PySem.W.Fast.tw17746095644277040320 : True := trivial
theorem PySem.W.Fast.tw1640533064824930872 : True := trivial
theorem PySem.W.Fast.tw8424802686837223896 : True := trivial
theorem PySem.W.Fast.tw2220806323027100807 : True := trivial
theorem PySem.W.Fast.tw6673090533442334184 : True := trivial
theorem PySem.W.Fast.tw264739618987480903 : True := trivial
theorem PySem.W.Fast.tw8335794976349420875 : True := trivial
theorem PySem.W.Fast.tw14277079680917272104 : True := trivial
theorem PySem.W.Fast.tw12904888831674604606 : True := trivial
theorem PySem.W.Fast.tw10711141960866673065 : True := trivial
theorem PySem.W.Fast.tw15239634628918207498 : True := trivial
theorem PySem.W.Fast.tw4475912442017206556 : True := trivial
theorem PySem.W.Fast.tw17254542478900269997 : True := trivial
theorem PySem.W.Fast.tw2085195248360437699 : True := trivial
theorem PySem.W.Fast.tw18103178234697743608 : True := trivial
theorem PySem.W.Fast.tw11876945749323232130 : True := trivial
theorem PySem.W.Fast.tw18298976288825957805 : True := trivial
theorem PySem.W.Fast.tw4970444063312231011 : True := trivial
theorem PySem.W.Fast.tw14590466169206573653 : True := trivial
theorem PySem.W.Fast.tw13295824691117100140 : True := trivial
theorem PySem.W.Fast.tw7113010524002499628 : True := trivial
theorem PySem.W.Fast.tw8295562873733137905 : True := trivial
theorem PySem.W.Fast.tw2434977059379742400 : True := trivial
theorem PySem.W.Fast.tw15355516783451607059 : True := trivial
theorem PySem.W.Fast.tw7162692591963168754 : True := trivial
theorem PySem.W.Fast.tw14028891430173623495 : True := trivial
theorem PySem.W.Fast.tw13256076770512275120 : True := trivial
theorem PySem.W.Fast.tw3042204697137519048 : True := trivial
theorem PySem.W.Fast.tw886695889876106541 : True := trivial
theorem PySem.W.Fast.tw5522658195352694323 : True := trivial
theorem PySem.W.Fast.tw12774663615325115208 : True := trivial
theorem PySem.W.Fast.tw11139140267241272968 : True := trivial
theorem PySem.W.Fast.tw3445884998064168455 : True := trivial
theorem PySem.W.Fast.tw10358205749137714618 : True := trivial
theorem PySem.W.Fast.tw7659882518397630715 : True := trivial
theorem PySem.W.Fast.tw18157883256471372739 : True := trivial
theorem PySem.W.Fast.tw1678470010486211737 : True := trivial
theorem PySem.W.Fast.tw12219899689768567121 : True := trivial
theorem PySem.W.Fast.tw8262043439069555568 : True := trivial
theorem PySem.W.Fast.tw10468111871823209761 : True := trivial
theorem PySem.W.Fast.tw12329964137778260810 : True := trivial
theorem PySem.W.Fast.tw7529281490673350152 : True := trivial
theorem PySem.W.Fast.tw2093610999733767709 : True := trivial
theorem PySem.W.Fast.tw13231708549698194911 : True := trivial
theorem PySem.W.Fast.tw2734772211463497464 : True := trivial
theorem PySem.W.Fast.tw17028973233774139556 : True := trivial
theorem PySem.W.Fast.tw14737764046383835690 : True := trivial
theorem PySem.W.Fast.tw14072264214173584663 : True := trivial
theorem PySem.W.Fast.tw4065919893142738225 : True := trivial
theorem PySem.W.Fast.tw17699802228628173346 : True := trivial
theorem PySem.W.Fast.tw7325417587727249129 : True := trivial
theorem PySem.W.Fast.tw2472878667129747967 : True := trivial
theorem PySem.W.Fast.tw335948319423697664 : True := trivial
theorem PySem.W.Fast.tw11974948382387586112 : True := trivial
theorem PySem.W.Fast.tw8608167306297227449 : True := trivial
theorem PySem.W.Fast.tw2068394375990126040 : True := trivial
theorem PySem.W.Fast.tw11192200873524856966 : True := trivial
theorem PySem.W.Fast.tw5325840148483284557 : True := trivial
theorem PySem.W.Fast.tw13482500351054982163 : True := trivial
theorem PySem.W.Fast.tw18147387818101674598 : True := trivial
theorem PySem.W.Fast.tw9863511382373161440 : True := trivial
theorem PySem.W.Fast.tw5947554586761449429 : True := trivial
theorem PySem.W.Fast.tw5637294357615719979 : True := trivial
theorem PySem.W.Fast.tw16877179127200027103 : True := trivial
theorem PySem.W.Fast.tw8820547097450610500 : True := trivial
theorem PySem.W.Fast.tw6109597702948106452 : True := trivial
theorem PySem.W.Fast.tw7558788618077304401 : True := trivial
theorem PySem.W.Fast.tw7698741657164217917 : True := trivial
theorem PySem.W.Fast.tw12818455887466023381 : True := trivial
theorem PySem.W.Fast.tw10150364610000047639 : True := trivial
theorem PySem.W.Fast.tw13488859783398929922 : True := trivial
theorem PySem.W.Fast.tw6528329348505547783 : True := trivial
theorem PySem.W.Fast.tw15600091641864946836 : True := trivial
theorem PySem.W.Fast.tw9688202850173755941 : True := trivial
theorem PySem.W.Fast.tw4765973395824458278 : True := trivial
theorem PySem.W.Fast.tw6032389652742230520 : True := trivial
theorem PySem.W.Fast.tw17995438238149193005 : True := trivial
theorem PySem.W.Fast.tw6260282791074510415 : True := trivial
theorem PySem.W.Fast.tw7964292987823231175 : True := trivial
theorem PySem.W.Fast.tw13502719071088752709 : True := trivial
theorem PySem.W.Fast.tw17935421369215941288 : True := trivial
theorem PySem.W.Fast.tw3841669403902644076 : True := trivial
theorem PySem.W.Fast.tw16251006485643496734 : True := trivial
theorem PySem.W.Fast.tw5636645477021190670 : True := trivial
theorem PySem.W.Fast.tw11106756382374089427 : True := trivial
theorem PySem.W.Fast.tw1576541514240418761 : True := trivial
theorem PySem.W.Fast.tw6997867468120962263 : True := trivial
theorem PySem.W.Fast.tw17730989564701475341 : True := trivial
theorem PySem.W.Fast.tw13367692786307636940 : True := trivial
theorem PySem.W.Fast.tw14940095198276094729 : True := trivial
theorem PySem.W.Fast.tw12160275826509833601 : True := trivial
theorem PySem.W.Fast.tw17066001529302905606 : True := trivial
theorem PySem.W.Fast.tw4716093008411877634 : True := trivial
theorem PySem.W.Fast.tw14726059166528249211 : True := trivial
theorem PySem.W.Fast.tw1459895836789321550 : True := trivial
theorem PySem.W.Fast.tw12047620493871257929 : True := trivial
theorem PySem.W.Fast.tw9688894596404121919 : True := trivial
theorem PySem.W.Fast.tw379075191810627969 : True := trivial
theorem PySem.W.Fast.tw9661181023879011017 : True := trivial
theorem PySem.W.Fast.tw14456682953050348236 : True := trivial
theorem PySem.W.Fast.tw17835974287015473552 : True := trivial
theorem PySem.W.Fast.tw10979496132138592324 : True := trivial
theorem PySem.W.Fast.tw11501940190632078273 : True := trivial
theorem PySem.W.Fast.tw9775177363940556873 : True := trivial
theorem PySem.W.Fast.tw15976465289617062137 : True := trivial
theorem PySem.W.Fast.tw10230329087627523889 : True := trivial
theorem PySem.W.Fast.tw10916971895535297470 : True := trivial
theorem PySem.W.Fast.tw11207287010778005802 : True := trivial
theorem PySem.W.Fast.tw5371068765937334657 : True := trivial
theorem PySem.W.Fast.tw7773278778402583524 : True := trivial
theorem PySem.W.Fast.tw7343370322253842307 : True := trivial
theorem PySem.W.Fast.tw5317734388744199980 : True := trivial
theorem PySem.W.Fast.tw6357723071544488180 : True := trivial
theorem PySem.W.Fast.tw7657472459796300750 : True := trivial
theorem PySem.W.Fast.tw17905124599459310830 : True := trivial
theorem PySem.W.Fast.tw12137491971805103598 : True := trivial
theorem PySem.W.Fast.tw4350677946451993543 : True := trivial
theorem PySem.W.Fast.tw11347222113888082497 : True := trivial
theorem PySem.W.Fast.tw3948089718059824285 : True := trivial
theorem PySem.W.Fast.tw8897587405796961029 : True := trivial
theorem PySem.W.Fast.tw7402949286326002113 : True := trivial
theorem PySem.W.Fast.tw13476406851436508261 : True := trivial
theorem PySem.W.Fast.tw10550442141276948947 : True := trivial
theorem PySem.W.Fast.tw16052878658978169676 : True := trivial
theorem PySem.W.Fast.tw4844956731892972778 : True := trivial
theorem PySem.W.Fast.tw4188614132594406762 : True := trivial
theorem PySem.W.Fast.tw5764965285024028574 : True := trivial
theorem PySem.W.Fast.tw3906992529800233640 : True := trivial
theorem PySem.W.Fast.tw16879557063962713352 : True := trivial
theorem PySem.W.Fast.tw6987430838218288718 : True := trivial
theorem PySem.W.Fast.tw10107383365142576983 : True := trivial
theorem PySem.W.Fast.tw5275174960838203953 : True := trivial
theorem PySem.W.Fast.tw17006189337969605966 : True := trivial
theorem PySem.W.Fast.tw18172941523120557778 : True := trivial
theorem PySem.W.Fast.tw5509262983444613478 : True := trivial
theorem PySem.W.Fast.tw2926253259541729570 : True := trivial
theorem PySem.W.Fast.tw17504292911566618029 : True := trivial
theorem PySem.W.Fast.tw6557627520250169868 : True := trivial
theorem PySem.W.Fast.tw9499712451741312462 : True := trivial
theorem PySem.W.Fast.tw10090722432932620337 : True := trivial
theorem PySem.W.Fast.tw12505006191390873616 : True := trivial
theorem PySem.W.Fast.tw13672400783238087717 : True := trivial
theorem PySem.W.Fast.tw1482025349910618719 : True := trivial
theorem PySem.W.Fast.tw12205781736939081780 : True := trivial
theorem PySem.W.Fast.tw599366946956322609 : True := trivial
theorem PySem.W.Fast.tw13228439856096823586 : True := trivial
theorem PySem.W.Fast.tw4947570657566242487 : True := trivial
theorem PySem.W.Fast.tw11200845118049090362 : True := trivial
theorem PySem.W.Fast.tw17971413284698360143 : True := trivial
theorem PySem.W.Fast.tw17555309432322783659 : True := trivial
theorem PySem.W.Fast.tw7467604154380418012 : True := trivial
theorem PySem.W.Fast.tw6510618170276548444 : True := trivial
theorem PySem.W.Fast.tw8181115635386700092 : True := trivial
theorem PySem.W.Fast.tw13791609933256230644 : True := trivial
theorem PySem.W.Fast.tw11271346607921202644 : True := trivial
theorem PySem.W.Fast.tw2401485236788029009 : True := trivial
theorem PySem.W.Fast.tw8341266632831893184 : True := trivial
theorem PySem.W.Fast.tw1089655682156425323 : True := trivial
theorem PySem.W.Fast.tw8852256978158170305 : True := trivial
theorem PySem.W.Fast.tw573686581072741753 : True := trivial
theorem PySem.W.Fast.tw13818084807393722898 : True := trivial
theorem PySem.W.Fast.tw5911208808655963621 : True := trivial
theorem PySem.W.Fast.tw11714313202455710799 : True := trivial
theorem PySem.W.Fast.tw15528808871934111366 : True := trivial
theorem PySem.W.Fast.tw1618987694370914492 : True := trivial
theorem PySem.W.Fast.tw628671485084140454 : True := trivial
theorem PySem.W.Fast.tw9678015150164566177 : True := trivial
theorem PySem.W.Fast.tw5328058265309022223 : True := trivial
theorem PySem.W.Fast.tw3759180151731562226 : True := trivial
theorem PySem.W.Fast.tw14802165236689843360 : True := trivial
theorem PySem.W.Fast.tw18370122279366333721 : True := trivial
theorem PySem.W.Fast.tw6896256750886737987 : True := trivial
theorem PySem.W.Fast.tw17754206325511559500 : True := trivial
theorem PySem.W.Fast.tw13698905415561633960 : True := trivial
theorem PySem.W.Fast.tw12315989642797373644 : True := trivial
theorem PySem.W.Fast.tw13661997623889790940 : True := trivial
theorem PySem.W.Fast.tw16171872695875111614 : True := trivial
theorem PySem.W.Fast.tw7663036044070459626 : True := trivial
theorem PySem.W.Fast.tw6066852961625696880 : True := trivial
theorem PySem.W.Fast.tw10253750499830526782 : True := trivial
theorem PySem.W.Fast.tw10462164021945962012 : True := trivial
theorem PySem.W.Fast.tw3354682306897387833 : True := trivial
theorem PySem.W.Fast.tw15817197254932859084 : True := trivial
theorem PySem.W.Fast.tw17266817408488036560 : True := trivial
theorem PySem.W.Fast.tw16340740319118069643 : True := trivial
theorem PySem.W.Fast.tw13865593678529205266 : True := trivial
theorem PySem.W.Fast.tw17753682451763791697 : True := trivial
theorem PySem.W.Fast.tw17816258355706903724 : True := trivial
theorem PySem.W.Fast.tw18293231625654739913 : True := trivial
theorem PySem.W.Fast.tw1459525533665143592 : True := trivial
theorem PySem.W.Fast.tw17550026880135361016 : True := trivial
theorem PySem.W.Fast.tw12990647832043410762 : True := trivial
theorem PySem.W.Fast.tw1759020337843320306 : True := trivial
theorem PySem.W.Fast.tw13845218496588288373 : True := trivial
theorem PySem.W.Fast.tw9771577803259467820 : True := trivial
theorem PySem.W.Fast.tw8142397705671670776 : True := trivial
theorem PySem.W.Fast.tw10807434814604036399 : True := trivial
theorem PySem.W.Fast.tw7119280447444842903 : True := trivial
theorem PySem.W.Fast.tw11118992446244551693 : True := trivial
theorem PySem.W.Fast.tw12213203484106813961 : True := trivial
theorem PySem.W.Fast.tw15316073583353476964 : True := trivial
theorem PySem.W.Fast.tw6621923967758872793 : True := trivial
theorem PySem.W.Fast.tw14664350248879706098 : True := trivial
theorem PySem.W.Fast.tw14361044620696017590 : True := trivial
theorem PySem.W.Fast.tw15895412828999647870 : True := trivial
theorem PySem.W.Fast.tw11485154123139847871 : True := trivial
theorem PySem.W.Fast.tw14695998259232688968 : True := trivial
theorem PySem.W.Fast.tw10188025216242569542 : True := trivial
theorem PySem.W.Fast.tw2874873428141953045 : True := trivial
theorem PySem.W.Fast.tw184465902941850095 : True := trivial
theorem PySem.W.Fast.tw6685436527065980478 : True := trivial
theorem PySem.W.Fast.tw10414185566328090519 : True := trivial
theorem PySem.W.Fast.tw5249965417347507013 : True := trivial
theorem PySem.W.Fast.tw10579373186119475047 : True := trivial
theorem PySem.W.Fast.tw6767537823775573177 : True := trivial
theorem PySem.W.Fast.tw897816703011023636 : True := trivial
theorem PySem.W.Fast.tw13431991627908197229 : True := trivial
theorem PySem.W.Fast.tw17819998843197197545 : True := trivial
theorem PySem.W.Fast.tw1474795936611078067 : True := trivial
theorem PySem.W.Fast.tw181368762342632152 : True := trivial
theorem PySem.W.Fast.tw10046555974956562615 : True := trivial
theorem PySem.W.Fast.tw1048841421175233934 : True := trivial
theorem PySem.W.Fast.tw15182699896626686615 : True := trivial
theorem PySem.W.Fast.tw2168278533732209739 : True := trivial
theorem PySem.W.Fast.tw17466082104524778477 : True := trivial
theorem PySem.W.Fast.tw11478628440972647754 : True := trivial
theorem PySem.W.Fast.tw16167316229412001350 : True := trivial
theorem PySem.W.Fast.tw16750292017754850131 : True := trivial
theorem PySem.W.Fast.tw14536059642447218845 : True := trivial
theorem PySem.W.Fast.tw9927363305238678201 : True := trivial
theorem PySem.W.Fast.tw3130192657626817401 : True := trivial
theorem PySem.W.Fast.tw14341934085694074066 : True := trivial
theorem PySem.W.Fast.tw15366937338939390776 : True := trivial
theorem PySem.W.Fast.tw2280374347729385252 : True := trivial
theorem PySem.W.Fast.tw7630208890607734154 : True := trivial
theorem PySem.W.Fast.tw2491435771670788780 : True := trivial
theorem PySem.W.Fast.tw6936107141484216842 : True := trivial
theorem PySem.W.Fast.tw13182114637830590646 : True := trivial
theorem PySem.W.Fast.tw9463279074423194985 : True := trivial
theorem PySem.W.Fast.tw9171431180577016032 : True := trivial
theorem PySem.W.Fast.tw17875521715796159709 : True := trivial
theorem PySem.W.Fast.tw9218335656179971336 : True := trivial
theorem PySem.W.Fast.tw16222893724213677830 : True := trivial
theorem PySem.W.Fast.tw16796326216992407315 : True := trivial
theorem PySem.W.Fast.tw13638325416344847471 : True := trivial
theorem PySem.W.Fast.tw7876176539687445938 : True := trivial
theorem PySem.W.Fast.tw7293613336210653504 : True := trivial
theorem PySem.W.Fast.tw6817351065374744101 : True := trivial
theorem PySem.W.Fast.tw12811450381421623243 : True := trivial
theorem PySem.W.Fast.tw16222934813507572169 : True := trivial
theorem PySem.W.Fast.tw834870853402808501 : True := trivial
theorem PySem.W.Fast.tw15962137232821160174 : True := trivial
theorem PySem.W.Fast.tw4884727037034801636 : True := trivial
theorem PySem.W.Fast.tw13240130718708638314 : True := trivial
theorem PySem.W.Fast.tw11706101252721895022 : True := trivial
theorem PySem.W.Fast.tw4881154214602993517 : True := trivial
theorem PySem.W.Fast.tw8022290442304367119 : True := trivial
theorem PySem.W.Fast.tw10666766757769791434 : True := trivial
theorem PySem.W.Fast.tw2818856292011927851 : True := trivial
theorem PySem.W.Fast.tw4005962493251121404 : True := trivial
theorem PySem.W.Fast.tw8281941092218734739 : True := trivial
theorem PySem.W.Fast.tw5186107645455186775 : True := trivial
theorem PySem.W.Fast.tw6022482511103794906 : True := trivial
theorem PySem.W.Fast.tw3730807743220169086 : True := trivial
theorem PySem.W.Fast.tw14448905560818003638 : True := trivial
theorem PySem.W.Fast.tw16360599299474421348 : True := trivial
theorem PySem.W.Fast.tw14996907521599898789 : True := trivial
theorem PySem.W.Fast.tw14080604894488441187 : True := trivial
theorem PySem.W.Fast.tw17037357725524316913 : True := trivial
theorem PySem.W.Fast.tw915909946431218035 : True := trivial
theorem PySem.W.Fast.tw7280874450482146002 : True := trivial
theorem PySem.W.Fast.tw6366512081979667684 : True := trivial
theorem PySem.W.Fast.tw4945371403040269708 : True := trivial
theorem PySem.W.Fast.tw8656418591452200472 : True := trivial
theorem PySem.W.Fast.tw2793614103505048006 : True := trivial
theorem PySem.W.Fast.tw13428329951028801838 : True := trivial
theorem PySem.W.Fast.tw13084788772697798518 : True := trivial
theorem PySem.W.Fast.tw1095920166644613295 : True := trivial
theorem PySem.W.Fast.tw3509594801256383179 : True := trivial
theorem PySem.W.Fast.tw17681381023006568918 : True := trivial
theorem PySem.W.Fast.tw11239838229512660799 : True := trivial
open PySem PySem.W PyProof.Rows
set_option maxRecDepth 100000 in
set_option maxHeartbeats 0 in
theorem PySem.Challenge.cw_evernever_k14_a_move_holds : PySem.Challenge.rw_evernever_k14_a_move.Holds := by
  w_on; o_law; k_head; (case hw => w_witness2)
  k_fill
  refine L2.walk_ofK (l := PySem.Challenge.rw_evernever_k14_a_move) (n := 63) (k := 68) (x := "_law_script") (CX := L2.CX0) (sp := LW.spLaw) rfl (by decide) rfl ⟨rfl, by decide, by decide⟩ (fun w h Y => PySem.W.kIn_of Y) ?F ?S ?C
  case F =>
    intro w mg fa h KX G hmg
    have T : ∃ t, LW.Txt (L2.KOf KX) mg t := by
      dsimp only [L2.KOf]
      refine' LW.txt_mk KX G ?a__law_cell_at ?a__law_lit ?a__law_leaf ?a__law_joined ?a__law_pile ?a__law_due ?a__law_holds_at ?a_law ?a_Move ?a_Formula ?a_Lamp ?a_Sure ?a_Not ?a_Joined ?a_And ?a_Either ?a_Or ?e_Move_init ?e_Move_fits ?e_Move_onward ?e_Lamp_init ?e_Lamp_holds ?e_Sure_init ?e_Sure_holds ?e_Not_init ?e_Not_holds ?e_Joined_init ?e_And_holds ?e_And_init ?e_Either_holds ?e_Either_init ?e_Or_holds ?e_Or_init ?l__law_cell_at ?c__law_cell_at ?k__law_cell_at ?l__law_lit ?c__law_lit ?k__law_lit ?l__law_leaf ?c__law_leaf ?k__law_leaf ?l__law_joined ?c__law_joined ?k__law_joined ?l__law_pile ?c__law_pile ?k__law_pile ?l__law_due ?c__law_due ?k__law_due ?l__law_holds_at ?c__law_holds_at ?k__law_holds_at ?l_law ?c_law ?k_law ?l_Move_init ?c_Move_init ?k_Move_init ?i_Move_init ?l_Move_fits ?c_Move_fits ?k_Move_fits ?i_Move_fits ?l_Move_onward ?c_Move_onward ?k_Move_onward ?i_Move_onward ?l_Lamp_init ?c_Lamp_init ?k_Lamp_init ?i_Lamp_init ?l_Lamp_holds ?c_Lamp_holds ?k_Lamp_holds ?i_Lamp_holds ?l_Sure_init ?c_Sure_init ?k_Sure_init ?i_Sure_init ?l_Sure_holds ?c_Sure_holds ?k_Sure_holds ?i_Sure_holds ?l_Not_init ?c_Not_init ?k_Not_init ?i_Not_init ?l_Not_holds ?c_Not_holds ?k_Not_holds ?i_Not_holds ?l_Joined_init ?c_Joined_init ?k_Joined_init ?i_Joined_init ?l_And_holds ?c_And_holds ?k_And_holds ?i_And_holds ?l_Either_holds ?c_Either_holds ?k_Either_holds ?i_Either_holds ?l_Or_holds ?c_Or_holds ?k_Or_holds ?i_Or_holds ?pg_Move ?hd_Move ?po_Move ?sa_Move ?kc_Move ?ha_Move ?hm_Move ?mk_Move ?n_Move_guard ?n_Move_changes ?n_Move_at ?n_Move_truth ?n_Move_part ?n_Move_parts ?pg_Formula ?hd_Formula ?po_Formula ?sa_Formula ?kc_Formula ?ha_Formula ?hm_Formula ?n_Formula_guard ?n_Formula_changes ?n_Formula_at ?n_Formula_truth ?n_Formula_part ?n_Formula_parts ?pg_Lamp ?hd_Lamp ?po_Lamp ?sa_Lamp ?kc_Lamp ?ha_Lamp ?hm_Lamp ?mk_Lamp ?n_Lamp_guard ?n_Lamp_changes ?n_Lamp_at ?n_Lamp_truth ?n_Lamp_part ?n_Lamp_parts ?pg_Sure ?hd_Sure ?po_Sure ?sa_Sure ?kc_Sure ?ha_Sure ?hm_Sure ?mk_Sure ?n_Sure_guard ?n_Sure_changes ?n_Sure_at ?n_Sure_truth ?n_Sure_part ?n_Sure_parts ?pg_Not ?hd_Not ?po_Not ?sa_Not ?kc_Not ?ha_Not ?hm_Not ?mk_Not ?n_Not_guard ?n_Not_changes ?n_Not_at ?n_Not_truth ?n_Not_part ?n_Not_parts ?pg_Joined ?hd_Joined ?po_Joined ?sa_Joined ?kc_Joined ?ha_Joined ?hm_Joined ?mk_Joined ?n_Joined_guard ?n_Joined_changes ?n_Joined_at ?n_Joined_truth ?n_Joined_part ?n_Joined_parts ?pg_And ?hd_And ?po_And ?sa_And ?kc_And ?ha_And ?hm_And ?mk_And ?n_And_guard ?n_And_changes ?n_And_at ?n_And_truth ?n_And_part ?n_And_parts ?pg_Either ?hd_Either ?po_Either ?sa_Either ?kc_Either ?ha_Either ?hm_Either ?mk_Either ?n_Either_guard ?n_Either_changes ?n_Either_at ?n_Either_truth ?n_Either_part ?n_Either_parts ?pg_Or ?hd_Or ?po_Or ?sa_Or ?kc_Or ?ha_Or ?hm_Or ?mk_Or ?n_Or_guard ?n_Or_changes ?n_Or_at ?n_Or_truth ?n_Or_part ?n_Or_parts ?nd_ ?hn_ ?htk_ ?b_len ?b_range ?b_isinstance ?b_int ?b_bool ?b_str ?b_list ?b_tuple ?b_dict ?b_set ?b_sorted ?b_max ?b_min ?b_sum ?b_any ?b_all ?b_abs ?b_reversed ?b_enumerate ?b_zip
      (case a__law_cell_at => k_is)
      (case a__law_lit => k_is)
      (case a__law_leaf => k_is)
      (case a__law_joined => k_is)
      (case a__law_pile => k_is)
      (case a__law_due => k_is)
      (case a__law_holds_at => k_is)
      (case a_law => k_is)
      (case a_Move => k_is)
      (case a_Formula => k_is)
      (case a_Lamp => k_is)
      (case a_Sure => k_is)
      (case a_Not => k_is)
      (case a_Joined => k_is)
      (case a_And => k_is)
      (case a_Either => k_is)
      (case a_Or => k_is)
      (case e_Move_init => k_is)
      (case e_Move_fits => k_is)
      (case e_Move_onward => k_is)
      (case e_Lamp_init => k_is)
      (case e_Lamp_holds => k_is)
      (case e_Sure_init => k_is)
      (case e_Sure_holds => k_is)
      (case e_Not_init => k_is)
      (case e_Not_holds => k_is)
      (case e_Joined_init => k_is)
      (case e_And_holds => k_is)
      (case e_And_init => k_is)
      (case e_Either_holds => k_is)
      (case e_Either_init => k_is)
      (case e_Or_holds => k_is)
      (case e_Or_init => k_is)
      (case l__law_cell_at => k_is)
      (case c__law_cell_at => k_is)
      (case k__law_cell_at => k_is)
      (case l__law_lit => k_is)
      (case c__law_lit => k_is)
      (case k__law_lit => k_is)
      (case l__law_leaf => k_is)
      (case c__law_leaf => k_is)
      (case k__law_leaf => k_is)
      (case l__law_joined => k_is)
      (case c__law_joined => k_is)
      (case k__law_joined => k_is)
      (case l__law_pile => k_is)
      (case c__law_pile => k_is)
      (case k__law_pile => k_is)
      (case l__law_due => k_is)
      (case c__law_due => k_is)
      (case k__law_due => k_is)
      (case l__law_holds_at => k_is)
      (case c__law_holds_at => k_is)
      (case k__law_holds_at => k_is)
      (case l_law => k_is)
      (case c_law => k_is)
      (case k_law => k_is)
      (case l_Move_init => k_is)
      (case c_Move_init => k_is)
      (case k_Move_init => k_is)
      (case i_Move_init => k_is)
      (case l_Move_fits => k_is)
      (case c_Move_fits => k_is)
      (case k_Move_fits => k_is)
      (case i_Move_fits => k_is)
      (case l_Move_onward => k_is)
      (case c_Move_onward => k_is)
      (case k_Move_onward => k_is)
      (case i_Move_onward => k_is)
      (case l_Lamp_init => k_is)
      (case c_Lamp_init => k_is)
      (case k_Lamp_init => k_is)
      (case i_Lamp_init => k_is)
      (case l_Lamp_holds => k_is)
      (case c_Lamp_holds => k_is)
      (case k_Lamp_holds => k_is)
      (case i_Lamp_holds => k_is)
      (case l_Sure_init => k_is)
      (case c_Sure_init => k_is)
      (case k_Sure_init => k_is)
      (case i_Sure_init => k_is)
      (case l_Sure_holds => k_is)
      (case c_Sure_holds => k_is)
      (case k_Sure_holds => k_is)
      (case i_Sure_holds => k_is)
      (case l_Not_init => k_is)
      (case c_Not_init => k_is)
      (case k_Not_init => k_is)
      (case i_Not_init => k_is)
      (case l_Not_holds => k_is)
      (case c_Not_holds => k_is)
      (case k_Not_holds => k_is)
      (case i_Not_holds => k_is)
      (case l_Joined_init => k_is)
      (case c_Joined_init => k_is)
      (case k_Joined_init => k_is)
      (case i_Joined_init => k_is)
      (case l_And_holds => k_is)
      (case c_And_holds => k_is)
      (case k_And_holds => k_is)
      (case i_And_holds => k_is)
      (case l_Either_holds => k_is)
      (case c_Either_holds => k_is)
      (case k_Either_holds => k_is)
      (case i_Either_holds => k_is)
      (case l_Or_holds => k_is)
      (case c_Or_holds => k_is)
      (case k_Or_holds => k_is)
      (case i_Or_holds => k_is)
      (case pg_Move => k_is)
      (case hd_Move => k_is)
      (case po_Move => k_is)
      (case sa_Move => k_is)
      (case kc_Move => k_is)
      (case ha_Move => k_is)
      (case hm_Move => k_is)
      (case mk_Move => k_is)
      (case n_Move_guard => k_is)
      (case n_Move_changes => k_is)
      (case n_Move_at => k_is)
      (case n_Move_truth => k_is)
      (case n_Move_part => k_is)
      (case n_Move_parts => k_is)
      (case pg_Formula => k_is)
      (case hd_Formula => k_is)
      (case po_Formula => k_is)
      (case sa_Formula => k_is)
      (case kc_Formula => k_is)
      (case ha_Formula => k_is)
      (case hm_Formula => k_is)
      (case n_Formula_guard => k_is)
      (case n_Formula_changes => k_is)
      (case n_Formula_at => k_is)
      (case n_Formula_truth => k_is)
      (case n_Formula_part => k_is)
      (case n_Formula_parts => k_is)
      (case pg_Lamp => k_is)
      (case hd_Lamp => k_is)
      (case po_Lamp => k_is)
      (case sa_Lamp => k_is)
      (case kc_Lamp => k_is)
      (case ha_Lamp => k_is)
      (case hm_Lamp => k_is)
      (case mk_Lamp => k_is)
      (case n_Lamp_guard => k_is)
      (case n_Lamp_changes => k_is)
      (case n_Lamp_at => k_is)
      (case n_Lamp_truth => k_is)
      (case n_Lamp_part => k_is)
      (case n_Lamp_parts => k_is)
      (case pg_Sure => k_is)
      (case hd_Sure => k_is)
      (case po_Sure => k_is)
      (case sa_Sure => k_is)
      (case kc_Sure => k_is)
      (case ha_Sure => k_is)
      (case hm_Sure => k_is)
      (case mk_Sure => k_is)
      (case n_Sure_guard => k_is)
      (case n_Sure_changes => k_is)
      (case n_Sure_at => k_is)
      (case n_Sure_truth => k_is)
      (case n_Sure_part => k_is)
      (case n_Sure_parts => k_is)
      (case pg_Not => k_is)
      (case hd_Not => k_is)
      (case po_Not => k_is)
      (case sa_Not => k_is)
      (case kc_Not => k_is)
      (case ha_Not => k_is)
      (case hm_Not => k_is)
      (case mk_Not => k_is)
      (case n_Not_guard => k_is)
      (case n_Not_changes => k_is)
      (case n_Not_at => k_is)
      (case n_Not_truth => k_is)
      (case n_Not_part => k_is)
      (case n_Not_parts => k_is)
      (case pg_Joined => k_is)
      (case hd_Joined => k_is)
      (case po_Joined => k_is)
      (case sa_Joined => k_is)
      (case kc_Joined => k_is)
      (case ha_Joined => k_is)
      (case hm_Joined => k_is)
      (case mk_Joined => k_is)
      (case n_Joined_guard => k_is)
      (case n_Joined_changes => k_is)
      (case n_Joined_at => k_is)
      (case n_Joined_truth => k_is)
      (case n_Joined_part => k_is)
      (case n_Joined_parts => k_is)
      (case pg_And => k_is)
      (case hd_And => k_is)
      (case po_And => k_is)
      (case sa_And => k_is)
      (case kc_And => k_is)
      (case ha_And => k_is)
      (case hm_And => k_is)
      (case mk_And => k_is)
      (case n_And_guard => k_is)
      (case n_And_changes => k_is)
      (case n_And_at => k_is)
      (case n_And_truth => k_is)
      (case n_And_part => k_is)
      (case n_And_parts => k_is)
      (case pg_Either => k_is)
      (case hd_Either => k_is)
      (case po_Either => k_is)
      (case sa_Either => k_is)
      (case kc_Either => k_is)
      (case ha_Either => k_is)
      (case hm_Either => k_is)
      (case mk_Either => k_is)
      (case n_Either_guard => k_is)
      (case n_Either_changes => k_is)
      (case n_Either_at => k_is)
      (case n_Either_truth => k_is)
      (case n_Either_part => k_is)
      (case n_Either_parts => k_is)
      (case pg_Or => k_is)
      (case hd_Or => k_is)
      (case po_Or => k_is)
      (case sa_Or => k_is)
      (case kc_Or => k_is)
      (case ha_Or => k_is)
      (case hm_Or => k_is)
      (case mk_Or => k_is)
      (case n_Or_guard => k_is)
      (case n_Or_changes => k_is)
      (case n_Or_at => k_is)
      (case n_Or_truth => k_is)
      (case n_Or_part => k_is)
      (case n_Or_parts => k_is)
      (case nd_ => decide)
      (case hn_ => k_is)
      (case htk_ => k_is)
      (case b_len => k_is)
      (case b_range => k_is)
      (case b_isinstance => k_is)
      (case b_int => k_is)
      (case b_bool => k_is)
      (case b_str => k_is)
      (case b_list => k_is)
      (case b_tuple => k_is)
      (case b_dict => k_is)
      (case b_set => k_is)
      (case b_sorted => k_is)
      (case b_max => k_is)
      (case b_min => k_is)
      (case b_sum => k_is)
      (case b_any => k_is)
      (case b_all => k_is)
      (case b_abs => k_is)
      (case b_reversed => k_is)
      (case b_enumerate => k_is)
      (case b_zip => k_is)
    obtain ⟨t, T⟩ := T
    have e0 := hmg.symm.trans T.m_law
    cases e0
    exact ⟨_, T.bl, fun base _ _ => LW.ok_law T⟩
  case S => exact fun K H a ns hl hO hS => ⟨a, ns, rfl, hS, hl, hO, fun _ => rfl⟩
  case C => exact fun _ _ _ _ z => z
#print axioms PySem.Challenge.cw_evernever_k14_a_move_holds

