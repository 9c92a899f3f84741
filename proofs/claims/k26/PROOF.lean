import PyProof.Rows.All
import Wide.All
import OpenK.AllK
import Wide.FinOn
import Lean
import PyProof.EqAt
import PyProof.EqKinds
import PyProof.TupleCall
import PyProof.P3Eq
import PyProof.NeKinds
import KE.KRevIter
import PyProof.EnumMake
import PyProof.EnumFor
import PyProof.Draws
import PyProof.ZipIter
import PyProof.ConsumeWalk
import PyProof.RaisesMany
import PyProof.ExcClass3
import PyProof.ExcBaseAll.ValueError
import PyProof.RulesAs
import PyProof.ExcAttrAll.ValueError
import PyProof.ReprStr
import PyProof.PassesOwn
import PyProof.ToksMono
import PyProof.DictItems
import PyProof.MeetsIn
import PyProof.StrCalls6
import PyProof.StrCalls2
import PyProof.StrBlock2
import PyProof.StrLawsWords
import PyProof.StrLawsTight
import PyProof.StrLawsChain
import PyProof.ListRange
import PyProof.NsDelKeeps
import PyProof.P3In
import PySem.Challenge.RW_evernever_k26_bars_as_a_formula
set_option Elab.async false
set_option linter.all false
set_option maxRecDepth 100000
set_option maxHeartbeats 4000000
set_option maxRecDepth 100000
namespace L2
open PySem PySem.Spec PyProof.Rows

/-- a key: an int or a str -/
abbrev Key := Sum Int Str
def keyIs : Key → Value → Bool
  | .inl k, v => Value.isInt k v
  | .inr x, v => Value.isStrOf x v
def keyH (w : World) : Key → Int
  | .inl k => hashInt k
  | .inr x => hashStr w x
theorem keyIs_shape : ∀ {k : Key} {v : Value}, keyIs k v = true → (∃ i t, k = Sum.inl i ∧ v = Value.int i t) ∨ (∃ x t, k = Sum.inr x ∧ v = Value.str x t)
  | .inl i, v, h => by
    obtain ⟨t, e⟩ := Value.isInt_shape (k := i) (v := v) h
    exact .inl ⟨i, t, rfl, e⟩
  | .inr x, v, h => by
    obtain ⟨t, e⟩ := Value.isStrOf_shape (x := x) (v := v) h
    exact .inr ⟨x, t, rfl, e⟩
theorem key_ll (a b : Int) : decide ((Sum.inl a : Key) = Sum.inl b) = (a == b) := by
  by_cases e : a = b
  · subst e; simp
  · have h : ¬ (Sum.inl a : Key) = Sum.inl b := fun q => e (Sum.inl.inj q)
    rw [decide_eq_false h]
    exact (beq_eq_false_iff_ne.mpr e).symm
theorem key_rr (a b : Str) : decide ((Sum.inr a : Key) = Sum.inr b) = decide (a = b) := by
  by_cases e : a = b
  · subst e; simp
  · have h : ¬ (Sum.inr a : Key) = Sum.inr b := fun q => e (Sum.inr.inj q)
    rw [decide_eq_false h, decide_eq_false e]
theorem key_lr (a : Int) (b : Str) : decide ((Sum.inl a : Key) = Sum.inr b) = false := decide_eq_false (fun q => nomatch q)
theorem key_rl (a : Str) (b : Int) : decide ((Sum.inr a : Key) = Sum.inl b) = false := decide_eq_false (fun q => nomatch q)

def mixKind (prog : Program) (w : World) : PySem.KeyKind prog w Key where
  is := keyIs
  hash := keyH w
  inj := fun v a b ha hb => by
    rcases keyIs_shape ha with ⟨i, t, rfl, rfl⟩ | ⟨x, t, rfl, rfl⟩
    · rcases keyIs_shape hb with ⟨j, u, rfl, e⟩ | ⟨y, u, rfl, e⟩
      · injection e with e1 _; rw [e1]
      · exact nomatch e
    · rcases keyIs_shape hb with ⟨j, u, rfl, e⟩ | ⟨y, u, rfl, e⟩
      · exact nomatch e
      · injection e with e1 _; rw [e1]
  byValue := fun k v h => by
    rcases keyIs_shape h with ⟨i, t, rfl, rfl⟩ | ⟨x, t, rfl, rfl⟩ <;> rfl
  pyHash := fun hv h => by
    rcases keyIs_shape hv with ⟨i, t, rfl, rfl⟩ | ⟨x, t, rfl, rfl⟩
    · exact wpAny_pyHash_int h
    · exact wpAny_pyHash_str h
  eqBool := fun hu hv h => by
    rcases keyIs_shape hu with ⟨i, t, rfl, rfl⟩ | ⟨x, t, rfl, rfl⟩
    · rcases keyIs_shape hv with ⟨j, u, rfl, rfl⟩ | ⟨y, u, rfl, rfl⟩
      · rw [key_ll] at h; exact wpAny_eqBool_int h
      · rw [key_lr] at h; exact SeqAt.EqAt.int_str i t y u _ _ _ _ h
    · rcases keyIs_shape hv with ⟨j, u, rfl, rfl⟩ | ⟨y, u, rfl, rfl⟩
      · rw [key_rl] at h; exact SeqAt.EqAt.str_int x t j u _ _ _ _ h
      · rw [key_rr] at h; exact wpAny_eqBool_str h
  «strs» := fun k x t v h => by
    rcases keyIs_shape h with ⟨i, u, rfl, e⟩ | ⟨y, u, rfl, e⟩
    · exact nomatch e
    · injection e with e1 _
      subst e1
      cases v <;> rfl

end L2

namespace L2
open PySem PySem.Spec PyProof.Rows

/-- a value, without the heap -/
inductive V where
  | non | bl (b : Bool) | int (i : Int) | str (x : Str) | byt (b : Array UInt8) | flt (b : UInt64) | ref (a : Addr) | ty (n : String)
  deriving DecidableEq

def RelV : V → Value → Prop
  | .non, u => u = Value.none
  | .bl b, u => u = Value.bool b
  | .int i, u => ∃ t, u = Value.int i t
  | .str x, u => ∃ t, u = Value.str x t
  | .byt b, u => ∃ t, u = Value.bytes b t
  | .flt b, u => ∃ t, u = Value.float b t
  | .ref a, u => u = Value.ref a
  | .ty n, u => u = Value.type n

abbrev Vals : List V → List Value → Prop := Paired RelV
theorem Vals.length {xs : List V} {us : List Value} (r : Vals xs us) : xs.length = us.length := Paired.length r
theorem Vals.get : ∀ {xs : List V} {us : List Value} {i : Nat} {x : V}, Vals xs us → xs[i]? = some x → ∃ u, us[i]? = some u ∧ RelV x u
  | _, _, _, _, .nil, e => by simp at e
  | _, _, 0, _, .cons r _, e => by simp at e; subst e; exact ⟨_, rfl, r⟩
  | _, _, i + 1, x, .cons _ t, e => by
    obtain ⟨u, h1, h2⟩ := Vals.get (i := i) (x := x) t (by simpa using e)
    exact ⟨u, by simpa using h1, h2⟩
theorem Vals.append : ∀ {xs ys : List V} {us ws : List Value}, Vals xs us → Vals ys ws → Vals (xs ++ ys) (us ++ ws)
  | _, _, _, _, .nil, s => s
  | _, _, _, _, .cons r t, s => .cons r (Vals.append t s)
theorem Vals.take : ∀ {xs : List V} {us : List Value} (n : Nat), Vals xs us → Vals (xs.take n) (us.take n)
  | _, _, 0, _ => .nil
  | _, _, _ + 1, .nil => .nil
  | _, _, n + 1, .cons r t => .cons r (Vals.take n t)
theorem Vals.drop : ∀ {xs : List V} {us : List Value} (n : Nat), Vals xs us → Vals (xs.drop n) (us.drop n)
  | _, _, 0, r => r
  | _, _, _ + 1, .nil => .nil
  | _, _, n + 1, .cons _ t => Vals.drop n t
def RelO : Option V → Option Value → Prop
  | some v, some u => RelV v u
  | none, none => True
  | _, _ => False
def KV {κ : Type} : List (κ × V) → List (κ × Value) → Prop := Paired fun (p : κ × V) (q : κ × Value) => p.1 = q.1 ∧ RelV p.2 q.2

/-- a key of a dict (00_mix): an int or a text -/
def kV : Key → V
  | .inl i => .int i
  | .inr x => .str x

/-- what stands at a tracked address -/
inductive HO where
  /-- a list -/
  | lst (xs : List V)
  /-- a tuple (never changes) -/
  | tup (xs : List V)
  /-- a dict whose keys are ints and texts; one whose keys are tuples of ints and texts (the empty one is both) -/
  | dK (kvs : List (Key × V)) | dT (kvs : List (List Key × V))
  /-- a set of ints: its members, its size -/
  | set (S : Int → Bool) (n : Nat)
  /-- an instance of the class at C, its dict at dx, its attributes -/
  | ins (C dx : Addr) (fs : List (Str × V))
  /-- the dict of the instance at x -/
  | own (x : Addr)
  /-- the dict of an exception -/
  | xd (fs : List (Str × V))
  /-- a bound method, f of x -/
  | met (f x : Addr)
  /-- a range object lo, lo + 1, .. below hi -/
  | rng (lo hi : Int)
  /-- a thing that is known to the object (the script; a dict while a loop walks it): read, never written while it is so -/
  | frz (o : Obj) (u : HO)
  /-- a code object's table -/
  | tbl (ps : Array Value)
  /-- any other thing, by what is true of its one object (a def of one's own: SetO a S n := HO.ext fun h => ..) -/
  | ext (φ : Heap → Prop)

abbrev Hp := Addr → Option HO
def upd (H : Hp) (a : Addr) (o : HO) : Hp := fun b => if b = a then some o else H b
theorem upd_same {H : Hp} {a : Addr} {o : HO} : upd H a o a = some o := by unfold upd; rw [if_pos rfl]
theorem upd_ne {H : Hp} {a b : Addr} {o : HO} (h : b ≠ a) : upd H a o b = H b := by unfold upd; rw [if_neg h]
theorem upd_upd {H : Hp} {a : Addr} {o u : HO} : upd (upd H a o) a u = upd H a u := by
  funext b; unfold upd; split <;> rfl
/-- two objects of different content stand apart -/
theorem ne_of {H : Hp} {a b : Addr} {o u : HO} (h : H a = some o) (h' : H b = some u) (d : o ≠ u) : a ≠ b := by
  intro e; subst e; rw [h] at h'; exact d (Option.some.inj h')
theorem ne_of_none {H : Hp} {a b : Addr} {o : HO} (h : H a = some o) (h' : H b = none) : a ≠ b := by
  intro e; subst e; rw [h] at h'; cases h'

section
variable (P : Program) (w : World)
def ObjOk (H : Hp) (h : Heap) (a : Addr) : HO → Prop
  | .lst xs => xs.length ≤ sizeLine ∧ ∃ (its : List Value) (n : Nat), Vals xs its ∧ h.get? a = some { cls := .type "list", data := .seq its.toArray n }
  | .tup xs => xs.length ≤ sizeLine ∧ ∃ its : List Value, Vals xs its ∧ IsTup h a its.toArray
  | .dK kvs => kvs.length ≤ sizeLine ∧ (a == sysModules) = false ∧ ∃ vs, KV kvs vs ∧ h.DictOf (mixKind P w) a vs
  | .dT kvs => kvs.length ≤ sizeLine ∧ (a == sysModules) = false ∧ ∃ xs : List (List Key × Addr × Value),
      Paired (fun (p : List Key × V) (q : List Key × Addr × Value) => p.1 = q.1 ∧ H q.2.1 = some (.tup (p.1.map kV)) ∧ RelV p.2 q.2.2) kvs xs ∧
      ∃ o es ep, h.get? a = some o ∧ o.ExactDict ∧ o.data = .dict es ep ∧ es.toList = xs.map (entryOfKey (tupleKind (mixKind P w))) ∧ (xs.map (·.1)).Nodup
  | .set S n => h.SetOf (intKind P w) a S n
  | .ins C dx fs => H dx = some (.own a) ∧ fs.length ≤ 1000 ∧ dx ≠ a ∧ h.get? a = some (PySem.W.instObj C dx) ∧
      ∃ mA, h.Ns1 dx mA ∧ (∀ f, RelO (fs.lookup f) (mA f)) ∧ PySem.Within mA (fs.map (·.1))
  | .own _ => ∃ o, h.get? a = some o
  | .xd fs => ∃ mA, h.Ns1 a mA ∧ ∀ f, RelO (fs.lookup f) (mA f)
  | .rng lo hi => ∃ t u v, h.get? a = some { cls := .type "range", data := .fields #[.int lo t, .int hi u, .int 1 v] }
  | .frz o u => h.get? a = some o ∧ ObjOk H h a u
  | .tbl ps => h.get? a = some { cls := .none, data := .fields ps }
  | .met f x => h.get? a = some (PySem.W.methodObj (.ref f) (.ref x))
  | .ext φ => φ h ∧ (∃ o, h.get? a = some o) ∧ ∀ h1 h2 : Heap, φ h1 → (∀ o, h1.get? a = some o → h2.get? a = some o) → φ h2
/-- the abstract heap is held -/
def HOk (H : Hp) (h : Heap) : Prop := ∀ a o, H a = some o → ObjOk P w H h a o
end

section
variable {P : Program} {w : World} {H H' : Hp} {h h' : Heap} {a : Addr} {o : HO}
theorem ObjOk.lt (x : ObjOk P w H h a o) : a < h.objs.size := by
  cases o with
  | lst xs => obtain ⟨_, _, _, _, e⟩ := x; exact Heap.lt_size e
  | tup xs => obtain ⟨_, _, _, p⟩ := x; exact p.lt
  | dK kvs => obtain ⟨_, _, _, _, o, _, _, e, _⟩ := x; exact Heap.lt_size e
  | dT kvs => obtain ⟨_, _, _, _, o, _, _, e, _⟩ := x; exact Heap.lt_size e
  | set S n => obtain ⟨o, _, _, _, e, _⟩ := x; exact Heap.lt_size e
  | ins C dx fs => obtain ⟨_, _, _, e, _⟩ := x; exact Heap.lt_size e
  | own y => obtain ⟨_, e⟩ := x; exact Heap.lt_size e
  | xd fs => obtain ⟨_, ⟨_, _, _, e, _⟩, _⟩ := x; exact Heap.lt_size e
  | rng lo hi => obtain ⟨_, _, _, e⟩ := x; exact Heap.lt_size e
  | frz ob u => obtain ⟨e, _⟩ := x; exact Heap.lt_size e
  | tbl ps => exact Heap.lt_size (show h.get? a = some _ from x)
  | met f y => exact Heap.lt_size (show h.get? a = some _ from x)
  | ext φ => obtain ⟨_, ⟨_, e⟩, _⟩ := x; exact Heap.lt_size e
theorem Paired.mapP {α β : Type} {F G : α → β → Prop} : ∀ {l₁ : List α} {l₂ : List β}, Paired F l₁ l₂ → (∀ a b, F a b → G a b) → Paired G l₁ l₂
  | _, _, .nil, _ => .nil
  | _, _, .cons r t, f => .cons (f _ _ r) (Paired.mapP t f)
/-- what an object's description leans on: its own object, its own dict, the tuples -/
theorem ObjOk.stay (x : ObjOk P w H h a o) (k : ∀ b u, (b = a ∨ H b = some (.own a)) → h.get? b = some u → h'.get? b = some u)
    (ho : ∀ b, H b = some (.own a) → H' b = some (.own a)) (ht : ∀ b xs, H b = some (.tup xs) → H' b = some (.tup xs)) : ObjOk P w H' h' a o := by
  induction o with
  | lst xs => obtain ⟨z, its, n, r, e⟩ := x; exact ⟨z, its, n, r, k _ _ (.inl rfl) e⟩
  | tup xs => obtain ⟨z, its, r, ob, e, c⟩ := x; exact ⟨z, its, r, ob, k _ _ (.inl rfl) e, c⟩
  | dK kvs => obtain ⟨z, y, vs, r, ob, es, ep, e, c⟩ := x; exact ⟨z, y, vs, r, ob, es, ep, k _ _ (.inl rfl) e, c⟩
  | dT kvs =>
    obtain ⟨z, y, xs, r, ob, es, ep, e, c⟩ := x
    exact ⟨z, y, xs, Paired.mapP r fun p q z => ⟨z.1, ht _ _ z.2.1, z.2.2⟩, ob, es, ep, k _ _ (.inl rfl) e, c⟩
  | set S n => obtain ⟨ob, es, ep, t, e, c⟩ := x; exact ⟨ob, es, ep, t, k _ _ (.inl rfl) e, c⟩
  | ins C dx fs =>
    obtain ⟨d, z, ne, e, mA, ⟨od, es, ep, e2, c⟩, r⟩ := x
    exact ⟨ho _ d, z, ne, k _ _ (.inl rfl) e, mA, ⟨od, es, ep, k _ _ (.inr d) e2, c⟩, r⟩
  | own y => obtain ⟨ob, e⟩ := x; exact ⟨ob, k _ _ (.inl rfl) e⟩
  | xd fs => obtain ⟨mA, ⟨od, es, ep, e, c⟩, r⟩ := x; exact ⟨mA, ⟨od, es, ep, k _ _ (.inl rfl) e, c⟩, r⟩
  | rng lo hi => obtain ⟨t, u, v, e⟩ := x; exact ⟨t, u, v, k _ _ (.inl rfl) e⟩
  | frz ob u ih => obtain ⟨e, q⟩ := x; exact ⟨k _ _ (.inl rfl) e, ih q⟩
  | tbl ps =>
    have e : h.get? a = some { cls := .none, data := .fields ps } := x
    show h'.get? a = some { cls := .none, data := .fields ps }
    exact k a _ (.inl rfl) e
  | met f y =>
    have e : h.get? a = some (PySem.W.methodObj (.ref f) (.ref y)) := x
    show h'.get? a = some (PySem.W.methodObj (.ref f) (.ref y))
    exact k a _ (.inl rfl) e
  | ext φ => obtain ⟨p, ⟨o, e⟩, st⟩ := x; exact ⟨st _ _ p fun o q => k _ _ (.inl rfl) q, ⟨o, k _ _ (.inl rfl) e⟩, st⟩
theorem HOk.lt (x : HOk P w H h) (e : H a = some o) : a < h.objs.size := (x a o e).lt
theorem HOk.fresh (x : HOk P w H h) (e : h.objs.size ≤ a) : H a = none := by
  cases q : H a with
  | none => rfl
  | some u => exact absurd (Nat.lt_of_lt_of_le (x.lt q) e) (Nat.lt_irrefl _)
/-- every object of the heap is kept -/
theorem HOk.kept (x : HOk P w H h) (k : ∀ b u, h.get? b = some u → h'.get? b = some u) : HOk P w H h' := fun a o e =>
  (x a o e).stay (fun b u _ q => k b u q) (fun _ q => q) fun _ _ q => q
/-- a new object is laid and tracked -/
theorem HOk.laid (x : HOk P w H h) (k : ∀ b u, h.get? b = some u → h'.get? b = some u) (hp : h.objs.size ≤ a) (new : ObjOk P w (upd H a o) h' a o) : HOk P w (upd H a o) h' := fun b u e => by
  have hn := x.fresh hp
  by_cases hb : b = a
  · subst hb; rw [upd_same] at e; cases e; exact new
  · rw [upd_ne hb] at e
    exact (x b u e).stay (fun c v _ q => k c v q) (fun c q => by rw [upd_ne (ne_of_none q hn)]; exact q) fun c xs q => by rw [upd_ne (ne_of_none q hn)]; exact q
end

/-- what may be read as u: it is u, or a known u -/
def Rd (H : Hp) (a : Addr) (u : HO) : Prop := H a = some u ∨ ∃ o, H a = some (.frz o u)
theorem Rd.ok {P : Program} {w : World} {H : Hp} {h : Heap} {a : Addr} {u : HO} (r : Rd H a u) (x : HOk P w H h) : ObjOk P w H h a u := by
  rcases r with r | ⟨o, r⟩
  · exact x a u r
  · obtain ⟨_, q⟩ := x a _ r
    exact q
/-- what may be written -/
def Mut : Option HO → Prop
  | some (.lst _) => True
  | some (.dK _) => True
  | some (.dT _) => True
  | some (.set _ _) => True
  | some (.ins _ _ _) => True
  | some (.ext _) => True
  | _ => False
section
variable {P : Program} {w : World} {H : Hp} {h h' : Heap} {x e : Addr} {o' : HO}
/-- the object at e is changed: x itself, or the dict of the instance x -/
theorem HOk.write (ok : HOk P w H h) (mu : Mut (H x)) (he : e = x ∨ H e = some (.own x)) (k : ∀ b u, b ≠ e → h.get? b = some u → h'.get? b = some u) (heo : ∃ u, h'.get? e = some u)
    (new : ObjOk P w (upd H x o') h' x o') : HOk P w (upd H x o') h' := fun b u q => by
  have nown : ∀ c y, H c = some (.own y) → c ≠ x := fun c y r z => by subst z; rw [r] at mu; exact mu
  have ntup : ∀ c xs, H c = some (.tup xs) → c ≠ x := fun c xs r z => by subst z; rw [r] at mu; exact mu
  by_cases hb : b = x
  · subst hb; rw [upd_same] at q; cases q; exact new
  · rw [upd_ne hb] at q
    by_cases hbe : b = e
    · have q' : H b = some (.own x) := by
        rcases he with z | z
        · exact absurd (hbe.trans z) hb
        · rw [hbe]; exact z
      rw [q] at q'; cases q'
      obtain ⟨v, hv⟩ := heo
      exact ⟨v, by rw [hbe]; exact hv⟩
    · refine (ok b u q).stay (fun c v hc r => k c v ?_ r) (fun c r => by rw [upd_ne (nown c b r)]; exact r) fun c xs r => by rw [upd_ne (ntup c xs r)]; exact r
      rcases hc with rfl | hc
      · exact hbe
      · rintro rfl
        rcases he with z | z
        · exact nown c b hc z
        · rw [hc] at z; cases z; exact hb rfl
end

structure Un (fs ex : List Addr) (H H' : Hp) (h h' : Heap) : Prop where
  keep : ∀ b o, h.get? b = some o → H b = none → b ∉ fs → b ∉ ex → h'.get? b = some o
  slot : ∀ b o, h.get? b = some o → H b = none → b ∈ fs → b ∉ ex → ∃ sl, h'.get? b = some { o with slots := sl }
  free : ∀ b o, h.get? b = some o → H b = none → b ∉ ex → H' b = none
  there : ∀ b o, h.get? b = some o → b ∉ ex → ∃ o', h'.get? b = some o'
  tups : ∀ b xs, H b = some (.tup xs) → H' b = some (.tup xs)
  frzs : ∀ b o u, H b = some (.frz o u) → H' b = some (.frz o u)
  tbls : ∀ b ps, H b = some (.tbl ps) → ∃ more, H' b = some (.tbl (ps ++ more))
section
variable {fs fs' ex ex' : List Addr} {H H1 H2 : Hp} {h h1 h2 h' : Heap} {a x e : Addr} {o : HO}
theorem Un.any (u : Un fs ex H H1 h h1) {b : Addr} {ob : Obj} (q : h.get? b = some ob) (n : H b = none) (hx : b ∉ ex) : ∃ sl, h1.get? b = some { ob with slots := sl } := by
  by_cases hb : b ∈ fs
  · exact u.slot b ob q n hb hx
  · exact ⟨ob.slots, u.keep b ob q n hb hx⟩
theorem Un.kept (k : ∀ b u, h.get? b = some u → h'.get? b = some u) : Un fs ex H H h h' :=
  ⟨fun b ob q _ _ _ => k b ob q, fun b ob q _ _ _ => ⟨ob.slots, k b ob q⟩, fun _ _ _ n _ => n, fun b ob q _ => ⟨ob, k b ob q⟩, fun _ _ q => q, fun _ _ _ q => q, fun _ ps q => ⟨#[], by rw [q]; simp⟩⟩
theorem Un.refl : Un fs ex H H h h := Un.kept fun _ _ q => q
theorem Un.laid (k : ∀ b u, h.get? b = some u → h'.get? b = some u) (hp : h.objs.size ≤ a) (hn : H a = none) : Un fs ex H (upd H a o) h h' where
  keep := fun b u q _ _ _ => k b u q
  slot := fun b u q _ _ _ => ⟨u.slots, k b u q⟩
  free := fun b u q n _ => by rw [upd_ne (Nat.ne_of_lt (Nat.lt_of_lt_of_le (Heap.lt_size q) hp))]; exact n
  there := fun b u q _ => ⟨u, k b u q⟩
  tups := fun b xs q => by rw [upd_ne (ne_of_none q hn)]; exact q
  frzs := fun b u xs q => by rw [upd_ne (ne_of_none q hn)]; exact q
  tbls := fun b ps q => ⟨#[], by rw [upd_ne (ne_of_none q hn), q]; simp⟩
theorem Un.write (mu : Mut (H x)) (he : e = x ∨ H e = some (.own x)) (k : ∀ b u, b ≠ e → h.get? b = some u → h'.get? b = some u) (heo : ∃ u, h'.get? e = some u) : Un fs ex H (upd H x o) h h' := by
  have hx : ∀ b, H b = none → b ≠ x := fun b n z => by subst z; rw [n] at mu; exact mu
  have hb : ∀ b, H b = none → b ≠ e := fun b n z => by
    subst z
    rcases he with r | r
    · exact hx b n r
    · rw [n] at r; cases r
  have hm : ∀ b u, H b = some u → ¬ Mut (some u) → b ≠ x := fun b u q nm z => by subst z; rw [q] at mu; exact nm mu
  refine ⟨fun b u q n _ _ => k b u (hb b n) q, fun b u q n _ _ => ⟨u.slots, k b u (hb b n) q⟩, fun b u q n _ => by rw [upd_ne (hx b n)]; exact n, fun b u q _ => ?_,
    fun b xs q => by rw [upd_ne (hm b _ q fun z => z)]; exact q, fun b u xs q => by rw [upd_ne (hm b _ q fun z => z)]; exact q, fun b ps q => ⟨#[], by rw [upd_ne (hm b _ q fun z => z), q]; simp⟩⟩
  by_cases hbe : b = e
  · subst hbe; exact heo
  · exact ⟨u, k b u hbe q⟩
end

def trk (h : Heap) (H : Hp) : List Addr := (List.range h.objs.size).filter fun a => (H a).isSome
def hidT (h : Heap) (H : Hp) : Heap := PySem.W.hideAll h (trk h H)
theorem hidT_size (h : Heap) (H : Hp) : (hidT h H).objs.size = h.objs.size := PySem.W.hideAll_size _ _
theorem hidT_get {h : Heap} {H : Hp} {b : Addr} {o : Obj} (e : h.get? b = some o) (n : H b = none) : (hidT h H).get? b = some o :=
  PySem.W.hideAll_get _ e fun hm => by
    have q : (H b).isSome = true := (List.mem_filter.mp hm).2
    rw [n] at q; simp at q
theorem of_hidT {h : Heap} {H : Hp} {b : Addr} {o : Obj} (e : (hidT h H).get? b = some o) : h.get? b = some o ∧ H b = none := by
  have e' : h.get? b = some o := PySem.W.of_hideAll (trk h H) e
  refine ⟨e', ?_⟩
  cases q : H b with
  | none => rfl
  | some x =>
    have hm : b ∈ trk h H := List.mem_filter.mpr ⟨List.mem_range.mpr (Heap.lt_size e'), by simp [q]⟩
    have z : (hidT h H).get? b = none := PySem.W.hideAll_none (trk h H) hm
    rw [z] at e; cases e

end L2

namespace L2
open PySem PySem.Spec PyProof.Rows

/-- the module's facts, over the base: the heap at the law's entry without what is tracked there -/
structure Mod (K : PySem.W.Frag) (mg : Str → Option Value) (base : Heap) : Prop where
  kin : K.In base
  glob : base.Ns mainGlobals mg
  blt : ∃ mb, base.Ns builtinsNs mb ∧ ∀ x : Str, x ≠ "__name__" → mb x = bootBuiltins x
  nolimit : base.NoLimit

/-- the context: a def's body (or a comprehension's block) running. base: fixed through the whole law; s₀, H₀: the entry; outer: the frames whose slots others may change (a def's callers); stack: all frames that run;
   ex: iterators that were made ahead of the entry and are walked here (a comprehension's); fn: the names whose cells were made at the entry (a def: all; a comprehension's block: its own); calm: not within an except suite; pn: pins that every state bears; xe: what is wanted of an exception that leaves the code -/
structure Cx where
  prog : Program
  w : World
  K : PySem.W.Frag
  mg : Str → Option Value
  base : Heap
  A : Around
  N : List Str
  s₀ : Shared
  H₀ : Hp
  env : Env
  outer : List Env
  stack : List Env
  ex : List Addr
  fn : Str → Bool
  calm : Bool
  pn : List (Addr × Obj)
  xe : Value → Shared → Prop
/-- the callers' frames -/
def frs (l : List Env) : List Addr := l.filterMap (·.frame)
abbrev Cx.fs (X : Cx) : List Addr := frs X.outer

def Vis (sc : Scope) (x : Str) : Prop := sc.names.lookup x = some .local ∨ sc.names.lookup x = some .cell ∨ sc.names.lookup x = some .free
def Loc (sc : Scope) (x : Str) : Prop := sc.names.lookup x = some .local ∨ sc.names.lookup x = some .cell
def Look (env : Env) (h : Heap) (m : Str → Option Value) (x : Str) (u : Value) : Prop :=
  (env.kindOf x = some .local ∧ m x = some u) ∨ ((env.kindOf x = some .cell ∨ env.kindOf x = some .free) ∧ ∃ c, env.cells.lookup x = some c ∧ h.IsCell c (some u))

structure Cx.Ok (X : Cx) : Prop where
  mod : Mod X.K X.mg X.base
  kind : X.env.scope.kind = .function
  glob : X.env.globals = mainGlobals
  blt : X.env.builtins = builtinsNs
  above : X.s₀.heap.objs.size ≤ X.env.locals
  inj : ∀ x y c, X.env.cells.lookup x = some c → X.env.cells.lookup y = some c → x = y
  has : ∀ x, (X.env.kindOf x = some .cell ∨ X.env.kindOf x = some .free) → ∃ c, X.env.cells.lookup x = some c
  cab : ∀ x c, X.fn x = true → X.env.cells.lookup x = some c → X.s₀.heap.objs.size ≤ c
  hd : X.calm = true → X.A.handled = none
  frames : X.A.frames = some X.stack
  stk : X.stack = X.outer ∨ (X.stack = X.env :: X.outer ∧ X.env.frame = some X.env.locals)
  exf : ∀ b ∈ X.ex, b ≠ X.env.locals ∧ ∀ x c, X.env.cells.lookup x = some c → c ≠ b
  bs : ∀ b o, X.base.get? b = some o → X.s₀.heap.get? b = some o ∧ X.H₀ b = none
  bsz : X.base.objs.size ≤ X.s₀.heap.objs.size
  noex : ∀ b o, X.base.get? b = some o → b ∉ X.ex
  exfs : ∀ b ∈ X.ex, b ∉ X.fs
  funs : X.s₀.heap.FunFrames X.base X.outer
  frf : ∀ b ∈ X.fs, X.H₀ b = none

structure Inv (X : Cx) (pins : List (Addr × Obj)) (σ : List (Option V)) (H : Hp) (s : Shared) : Prop where
  ok : X.Ok
  os : s.os = X.s₀.os
  bare : AllBare s.gens
  base : Un X.fs X.ex X.H₀ H X.s₀.heap s.heap
  loc : ∃ m, s.heap.Ns X.env.locals m ∧ ∀ (i : Nat) (x : Str) (v : V), X.N[i]? = some x → σ[i]? = some (some v) → Vis X.env.scope x → ∃ u, RelV v u ∧ Look X.env s.heap m x u
  cell : ∀ x c, X.env.cells.lookup x = some c → ∃ v, s.heap.IsCell c v
  free : H X.env.locals = none
  freeC : ∀ x c, X.env.cells.lookup x = some c → H c = none
  pin : ∀ p ∈ X.pn ++ pins, s.heap.get? p.1 = some p.2 ∧ H p.1 = none ∧ p.1 ≠ X.env.locals ∧ p.1 ∉ X.fs ∧ ∀ v, p.2.data ≠ .cell v
  hok : HOk X.prog X.w H s.heap
  len : σ.length = X.N.length

section
variable {X : Cx} {pins : List (Addr × Obj)} {σ : List (Option V)} {H H' : Hp} {s : Shared} {h' : Heap}

theorem Cx.Ok.nofr (ok : X.Ok) {b : Addr} {o : Obj} (e : X.base.get? b = some o) : b ∉ X.fs := fun hb => by
  have := (ok.funs.mem hb).1
  rw [e] at this; cases this
theorem Inv.bs (I : Inv X pins σ H s) : ∀ b o, X.base.get? b = some o → s.heap.get? b = some o ∧ H b = none := fun b o e =>
  ⟨I.base.keep b o (I.ok.bs b o e).1 (I.ok.bs b o e).2 (I.ok.nofr e) (I.ok.noex b o e), I.base.free b o (I.ok.bs b o e).1 (I.ok.bs b o e).2 (I.ok.noex b o e)⟩
theorem Inv.bk (I : Inv X pins σ H s) : ∀ b o, X.base.get? b = some o → s.heap.get? b = some o := fun b o e => (I.bs b o e).1
theorem Inv.mod (I : Inv X pins σ H s) : Mod X.K X.mg X.base := I.ok.mod
theorem Inv.kIn (I : Inv X pins σ H s) : X.K.In s.heap := I.ok.mod.kin.keeps I.bk
theorem Inv.lt (I : Inv X pins σ H s) : X.env.locals < s.heap.objs.size := let ⟨_, hn, _⟩ := I.loc; hn.lt
theorem Inv.sz (I : Inv X pins σ H s) : X.s₀.heap.objs.size ≤ s.heap.objs.size := Nat.le_trans I.ok.above (Nat.le_of_lt I.lt)
theorem Inv.nofs (I : Inv X pins σ H s) {a : Addr} (h : s.heap.objs.size ≤ a) : a ∉ X.fs := fun hb => by
  obtain ⟨_, o, ho, _⟩ := I.ok.funs.mem hb
  exact absurd (Nat.lt_of_lt_of_le (Heap.lt_size ho) (Nat.le_trans I.sz h)) (Nat.lt_irrefl _)
theorem Inv.cne (I : Inv X pins σ H s) : ∀ x c, X.env.cells.lookup x = some c → c ≠ X.env.locals := fun x c e z => by
  obtain ⟨v, o, ho, hd⟩ := I.cell x c e
  obtain ⟨m, ⟨o', es, ep, ho', hd', _⟩, _⟩ := I.loc
  rw [z, ho'] at ho; cases ho; rw [hd'] at hd; cases hd
theorem Inv.funs (I : Inv X pins σ H s) : s.heap.FunFrames X.base X.outer := by
  have all : ∀ (l : List Env), (∀ b ∈ frs l, b ∈ X.fs) → X.s₀.heap.FunFrames X.base l → s.heap.FunFrames X.base l := by
    intro l
    induction l with
    | nil => intro _ _; trivial
    | cons env r ih =>
      intro hs hl
      obtain ⟨hk, ⟨L, o, hf, hn, ho, hd⟩, hr⟩ := hl
      have hL : L ∈ X.fs := hs L (by unfold frs; rw [List.filterMap_cons, hf]; exact List.mem_cons_self)
      obtain ⟨sl, e⟩ := I.base.slot L o ho (I.ok.frf L hL) hL fun z => I.ok.exfs L z hL
      exact ⟨hk, ⟨L, _, hf, hn, e, hd⟩, ih (fun b hb => hs b (by unfold frs; rw [List.filterMap_cons, hf]; exact List.mem_cons_of_mem _ hb)) hr⟩
  exact all X.outer (fun _ hb => hb) I.ok.funs

/-- the frames that run, for a call -/
theorem Inv.stack (I : Inv X pins σ H s) : s.heap.FunFrames X.base X.stack := by
  rcases I.ok.stk with e | ⟨e, hf⟩
  · rw [e]; exact I.funs
  · rw [e]
    obtain ⟨m, hn, _⟩ := I.loc
    refine .cons (by rw [I.ok.kind]; decide) hf hn ?_ I.funs
    exact Heap.get?_none_of_le (Nat.le_trans I.ok.bsz I.ok.above)
theorem Inv.stkSub (I : Inv X pins σ H s) : ∀ b ∈ frs X.stack, b ∈ X.env.locals :: X.fs := fun b hb => by
  rcases I.ok.stk with e | ⟨e, hf⟩
  · rw [e] at hb; exact List.mem_cons_of_mem _ hb
  · rw [e] at hb
    unfold frs at hb
    rw [List.filterMap_cons, hf] at hb
    exact hb
theorem Inv.stkFree (I : Inv X pins σ H s) : ∀ b ∈ frs X.stack, H b = none := fun b hb => by
  rcases List.mem_cons.mp (I.stkSub b hb) with e | hb
  · rw [e]; exact I.free
  · obtain ⟨_, o, ho, _⟩ := I.ok.funs.mem hb
    exact I.base.free b o ho (I.ok.frf b hb) fun z => I.ok.exfs b z hb

/-- THE STEP: the untracked objects but the frame and the records at ch are kept (the callers' frames up to slots), the frame's map is kept, the new abstract heap is held -/
theorem Inv.step {g' : Array GenState} {t' : Nat} {d' : Drawn} {ch : List Addr} (I : Inv X pins σ H s)
    (hch : ∀ b ∈ ch, (b ∈ X.ex ∨ X.s₀.heap.objs.size ≤ b) ∧ b ≠ X.env.locals ∧ (∀ x c, X.env.cells.lookup x = some c → c ≠ b) ∧ ∀ p ∈ X.pn ++ pins, p.1 ≠ b)
    (keep : ∀ b o, b ≠ X.env.locals → b ∉ X.fs → b ∉ ch → s.heap.get? b = some o → H b = none → h'.get? b = some o)
    (slot : ∀ b o, b ≠ X.env.locals → b ∈ X.fs → b ∉ ch → s.heap.get? b = some o → H b = none → ∃ sl, h'.get? b = some { o with slots := sl }) (free : ∀ b o, b ∉ ch → s.heap.get? b = some o → H b = none → H' b = none)
    (there : ∀ b o, b ∉ ch → s.heap.get? b = some o → ∃ o', h'.get? b = some o')
    (tups : ∀ b xs, H b = some (.tup xs) → H' b = some (.tup xs)) (frzs : ∀ b o u, H b = some (.frz o u) → H' b = some (.frz o u)) (tbls : ∀ b ps, H b = some (.tbl ps) → ∃ more, H' b = some (.tbl (ps ++ more)))
    (ns : ∀ m, s.heap.Ns X.env.locals m → h'.Ns X.env.locals m) (hok : HOk X.prog X.w H' h') (hg : AllBare g') :
    Inv X pins σ H' { s with heap := h', gens := g', drawn := d', toks := t' } := by
  have neL : ∀ b o, X.s₀.heap.get? b = some o → b ≠ X.env.locals := fun b o e => Nat.ne_of_lt (Nat.lt_of_lt_of_le (Heap.lt_size e) I.ok.above)
  have neC : ∀ b o, X.s₀.heap.get? b = some o → b ∉ X.ex → b ∉ ch := fun b o e hx hb => by
    rcases (hch b hb).1 with z | z
    · exact hx z
    · exact absurd (Nat.lt_of_lt_of_le (Heap.lt_size e) z) (Nat.lt_irrefl _)
  have cellK : ∀ x c, X.env.cells.lookup x = some c → ∀ v, s.heap.IsCell c v → h'.IsCell c v := fun x c e v ⟨o, ho, hd⟩ => by
    have nch : c ∉ ch := fun z => (hch c z).2.2.1 x c e rfl
    by_cases hc : c ∈ X.fs
    · obtain ⟨sl, q⟩ := slot c o (I.cne x c e) hc nch ho (I.freeC x c e)
      exact ⟨_, q, hd⟩
    · exact ⟨o, keep c o (I.cne x c e) hc nch ho (I.freeC x c e), hd⟩
  refine ⟨I.ok, I.os, hg, ⟨fun b o e n hb hx => ?_, fun b o e n hb hx => ?_, fun b o e n hx => ?_, fun b o e hx => ?_, fun b xs e => tups b xs (I.base.tups b xs e), fun b o xs e => frzs b o xs (I.base.frzs b o xs e), fun b ps e => ?_⟩, ?_, fun x c e => ?_, ?_, fun x c e => ?_, fun p hp => ?_, hok, I.len⟩
  · exact keep b o (neL b o e) hb (neC b o e hx) (I.base.keep b o e n hb hx) (I.base.free b o e n hx)
  · obtain ⟨sl, e1⟩ := I.base.slot b o e n hb hx
    obtain ⟨sl', e2⟩ := slot b _ (neL b o e) hb (neC b o e hx) e1 (I.base.free b o e n hx)
    exact ⟨sl', e2⟩
  · obtain ⟨o', e1⟩ := I.base.there b o e hx
    exact free b o' (neC b o e hx) e1 (I.base.free b o e n hx)
  · obtain ⟨o', e1⟩ := I.base.there b o e hx
    exact there b o' (neC b o e hx) e1
  · obtain ⟨m1, e1⟩ := I.base.tbls b ps e
    obtain ⟨m2, e2⟩ := tbls b _ e1
    exact ⟨m1 ++ m2, by rw [e2, Array.append_assoc]⟩
  · obtain ⟨m, hn, hl⟩ := I.loc
    refine ⟨m, ns m hn, fun i x v e1 e2 e3 => ?_⟩
    obtain ⟨u, r, l⟩ := hl i x v e1 e2 e3
    refine ⟨u, r, ?_⟩
    rcases l with l | ⟨k, c, e, z⟩
    · exact .inl l
    · exact .inr ⟨k, c, e, cellK x c e _ z⟩
  · obtain ⟨v, z⟩ := I.cell x c e
    exact ⟨v, cellK x c e v z⟩
  · obtain ⟨m, ⟨o, _, _, ho, _⟩, _⟩ := I.loc
    exact free _ o (fun z => (hch _ z).2.1 rfl) ho I.free
  · obtain ⟨v, o, ho, hd⟩ := I.cell x c e
    exact free c o (fun z => (hch c z).2.2.1 x c e rfl) ho (I.freeC x c e)
  · obtain ⟨e, n, ne, nf, d⟩ := I.pin p hp
    have nch : p.1 ∉ ch := fun z => (hch p.1 z).2.2.2 p hp rfl
    exact ⟨keep p.1 p.2 ne nf nch e n, free p.1 p.2 nch e n, ne, nf, d⟩
/-- .. where the frame's own object is kept too -/
theorem Inv.un {t' : Nat} (I : Inv X pins σ H s) (u : Un X.fs [] H H' s.heap h') (hok : HOk X.prog X.w H' h') : Inv X pins σ H' { s with heap := h', toks := t' } := by
  obtain ⟨m, ⟨o, es, ep, ho, r⟩, _⟩ := id I.loc
  obtain ⟨sl, hL⟩ := u.any ho I.free (by simp)
  exact I.step (g' := s.gens) (d' := s.drawn) (ch := []) (fun _ z => nomatch z) (fun b o _ hb _ e n => u.keep b o e n hb (by simp)) (fun b o _ hb _ e n => u.slot b o e n hb (by simp)) (fun b o _ e n => u.free b o e n (by simp)) (fun b o _ e => u.there b o e (by simp)) u.tups u.frzs u.tbls (fun m' hm => by
    obtain ⟨o', es', ep', ho', r'⟩ := hm
    rw [ho] at ho'; cases ho'
    exact ⟨_, es', ep', hL, r'⟩) hok I.bare
/-- behind a call (or a comprehension's block): the slots of this frame may have changed too, the records at ch may have turned -/
theorem Inv.call {g' : Array GenState} {t' : Nat} {d' : Drawn} {ch : List Addr} (I : Inv X pins σ H s) (u : Un (frs X.stack) ch H H' s.heap h') (hok : HOk X.prog X.w H' h') (hg : AllBare g')
    (hch : ∀ b ∈ ch, (b ∈ X.ex ∨ X.s₀.heap.objs.size ≤ b) ∧ b ≠ X.env.locals ∧ (∀ x c, X.env.cells.lookup x = some c → c ≠ b) ∧ ∀ p ∈ X.pn ++ pins, p.1 ≠ b) :
    Inv X pins σ H' { s with heap := h', gens := g', drawn := d', toks := t' } := by
  obtain ⟨m, ⟨o, es, ep, ho, r⟩, _⟩ := id I.loc
  obtain ⟨sl, hL⟩ := u.any ho I.free fun z => (hch _ z).2.1 rfl
  exact I.step (ch := ch) hch (fun b o hL hb hc e n => u.keep b o e n (fun z => (List.mem_cons.mp (I.stkSub b z)).elim hL hb) hc) (fun b o _ _ hc e n => u.any e n hc) (fun b o hc e n => u.free b o e n hc) (fun b o hc e => u.there b o e hc) u.tups u.frzs u.tbls (fun m' hm => by
    obtain ⟨o', es', ep', ho', r'⟩ := hm
    rw [ho] at ho'; cases ho'
    exact ⟨_, es', ep', hL, r'⟩) hok hg
/-- an untracked record of ours (an iterator) has turned -/
theorem Inv.turned {t' : Nat} {it : Addr} (I : Inv X pins σ H s) (k : ∀ b o, b ≠ it → s.heap.get? b = some o → h'.get? b = some o) (hn : H it = none) (hL : it ≠ X.env.locals)
    (h1 : it ∈ X.ex ∨ X.s₀.heap.objs.size ≤ it) (h2 : ∀ x c, X.env.cells.lookup x = some c → c ≠ it) (h3 : ∀ p ∈ X.pn ++ pins, p.1 ≠ it) : Inv X pins σ H { s with heap := h', toks := t' } := by
  have nit : ∀ b u, H b = some u → b ≠ it := fun b u e z => by rw [z, hn] at e; cases e
  refine I.step (g' := s.gens) (d' := s.drawn) (ch := [it]) (fun b hb => ?_) (fun b o _ _ hc e _ => k b o (fun z => hc (by simp [z])) e) (fun b o _ _ hc e _ => ⟨o.slots, k b o (fun z => hc (by simp [z])) e⟩) (fun _ _ _ _ n => n)
    (fun b o hc e => ⟨o, k b o (fun z => hc (by simp [z])) e⟩) (fun _ _ e => e) (fun _ _ _ e => e) (fun b ps e => ⟨#[], by rw [e]; simp⟩) (fun m hm => ?_) (fun b u e => ?_) I.bare
  · have e : b = it := by simpa using hb
    subst e
    exact ⟨h1, hL, h2, h3⟩
  · obtain ⟨o, es, ep, ho, r⟩ := hm
    exact ⟨o, es, ep, k _ o (Ne.symm hL) ho, r⟩
  · refine (I.hok b u e).stay (fun c v hc q => k c v ?_ q) (fun _ q => q) fun _ _ q => q
    rcases hc with z | z
    · rw [z]; exact nit b u e
    · exact nit c _ z
theorem Inv.tok (I : Inv X pins σ H s) (t : Nat) : Inv X pins σ H { s with toks := t } := I.un (h' := s.heap) (t' := t) Un.refl I.hok
/-- all objects kept -/
theorem Inv.kept {t' : Nat} (I : Inv X pins σ H s) (k : ∀ b u, s.heap.get? b = some u → h'.get? b = some u) : Inv X pins σ H { s with heap := h', toks := t' } := I.un (Un.kept k) (I.hok.kept k)
/-- a new object laid and tracked -/
theorem Inv.laid {a : Addr} {o : HO} {t' : Nat} (I : Inv X pins σ H s) (k : ∀ b u, s.heap.get? b = some u → h'.get? b = some u) (hp : s.heap.objs.size ≤ a) (new : ObjOk X.prog X.w (upd H a o) h' a o) :
    Inv X pins σ (upd H a o) { s with heap := h', toks := t' } := I.un (Un.laid k hp (I.hok.fresh hp)) (I.hok.laid k hp new)
/-- an object written -/
theorem Inv.write {x e : Addr} {o : HO} {t' : Nat} (I : Inv X pins σ H s) (mu : Mut (H x)) (he : e = x ∨ H e = some (.own x)) (k : ∀ b u, b ≠ e → s.heap.get? b = some u → h'.get? b = some u) (heo : ∃ u, h'.get? e = some u)
    (new : ObjOk X.prog X.w (upd H x o) h' x o) : Inv X pins σ (upd H x o) { s with heap := h', toks := t' } := I.un (Un.write mu he k heo) (I.hok.write mu he k heo new)
theorem Inv.pins_of {pins' : List (Addr × Obj)} (I : Inv X pins σ H s) (h : ∀ p ∈ pins', s.heap.get? p.1 = some p.2 ∧ H p.1 = none ∧ p.1 ≠ X.env.locals ∧ p.1 ∉ X.fs ∧ ∀ v, p.2.data ≠ .cell v) : Inv X pins' σ H s :=
  ⟨I.ok, I.os, I.bare, I.base, I.loc, I.cell, I.free, I.freeC, fun p hp => (List.mem_append.mp hp).elim (fun z => I.pin p (List.mem_append_left _ z)) (h p), I.hok, I.len⟩

theorem nodup_ix {N : List Str} (hN : N.Nodup) {i j : Nat} {x : Str} (a : N[i]? = some x) (b : N[j]? = some x) : i = j := by
  obtain ⟨h1, e1⟩ := List.getElem?_eq_some_iff.mp a
  obtain ⟨h2, e2⟩ := List.getElem?_eq_some_iff.mp b
  exact (List.getElem_inj hN).mp (e1.trans e2.symm)

/-- a name is stored; what changed -/
theorem store_ok2 {M : Model} {A : Around} {E : Value → Shared → Prop} {i : Nat} {x : Str} {v : V} {u : Value} {Q : Unit → Shared → Prop} (I : Inv X pins σ H s) (hN : X.N.Nodup) (hi : X.N[i]? = some x) (hx : Loc X.env.scope x) (r : RelV v u)
    (h : ∀ s', Inv X pins (σ.set i (some v)) H s' → (∃ a, Heap.SameBut a s.heap s'.heap ∧ (a = X.env.locals ∨ X.env.cells.lookup x = some a)) → Q () s') (hf : X.fn x = true ∨ X.env.scope.names.lookup x = some .local := by first | exact .inl rfl | exact .inr rfl | assumption) : wpAny M A (storeName X.env x u) Q E s := by
  obtain ⟨m, hn, hl⟩ := id I.loc
  have hcls : (X.env.scope.kind == .class || (X.env.scope.kind == .module && X.env.locals != X.env.globals)) = false := by rw [I.ok.kind]; rfl
  have hiσ : i < σ.length := by rw [I.len]; exact (List.getElem?_eq_some_iff.mp hi).1
  have cne := I.cne
  have tracked : ∀ {a : Addr} {h' : Heap}, (∃ o, s.heap.get? a = some o ∧ H a = none) → Heap.SameBut a s.heap h' → HOk X.prog X.w H h' := fun {a h'} ha hs b ob e => by
    obtain ⟨_, _, hfree⟩ := ha
    refine (I.hok b ob e).stay (fun c w' hc q => (hs.2 c ?_).trans q) (fun _ q => q) fun _ _ q => q
    rintro rfl
    rcases hc with rfl | hc
    · rw [hfree] at e; cases e
    · rw [hfree] at hc; cases hc
  rcases hx with hk | hk
  · refine wpAny_storeName_local hk hn (fun h' hn' hs => ?_) hcls
    obtain ⟨oL, _, _, hoL, _⟩ := id hn
    refine h _ ⟨I.ok, I.os, I.bare, ⟨fun b o e n hb hx => ?_, fun b o e n hb hx => ?_, I.base.free, fun b o e hx => ?_, I.base.tups, I.base.frzs, I.base.tbls⟩, ⟨_, hn', fun j y v' e1 e2 e3 => ?_⟩, fun y c e => ?_, I.free, I.freeC, fun p hp => ?_, tracked ⟨oL, hoL, I.free⟩ hs, by simpa using I.len⟩ ⟨_, hs, .inl rfl⟩
    · exact (hs.2 b (Nat.ne_of_lt (Nat.lt_of_lt_of_le (Heap.lt_size e) I.ok.above))).trans (I.base.keep b o e n hb hx)
    · obtain ⟨sl, e1⟩ := I.base.slot b o e n hb hx
      exact ⟨sl, (hs.2 b (Nat.ne_of_lt (Nat.lt_of_lt_of_le (Heap.lt_size e) I.ok.above))).trans e1⟩
    · obtain ⟨o', e1⟩ := I.base.there b o e hx
      exact ⟨o', (hs.2 b (Nat.ne_of_lt (Nat.lt_of_lt_of_le (Heap.lt_size e) I.ok.above))).trans e1⟩
    · by_cases hj : j = i
      · subst hj
        rw [hi] at e1; cases e1
        rw [List.getElem?_set_self hiσ] at e2
        cases e2
        exact ⟨u, r, .inl ⟨hk, by simp⟩⟩
      · rw [List.getElem?_set_ne (Ne.symm hj)] at e2
        obtain ⟨u', r', q⟩ := hl j y v' e1 e2 e3
        refine ⟨u', r', ?_⟩
        rcases q with ⟨k, e⟩ | ⟨k, c, e, z⟩
        · refine .inl ⟨k, ?_⟩
          have : y ≠ x := fun e => hj (nodup_ix hN e1 (e ▸ hi))
          simp [this, e]
        · exact .inr ⟨k, c, e, z.sameBut hs (cne y c e)⟩
    · obtain ⟨w', z⟩ := I.cell y c e
      exact ⟨w', z.sameBut hs (cne y c e)⟩
    · obtain ⟨e, n, ne, nf, d⟩ := I.pin p hp
      exact ⟨(hs.2 p.1 ne).trans e, n, ne, nf, d⟩
  · have hfn : X.fn x = true := by
      rcases hf with z | z
      · exact z
      · rw [z] at hk; cases hk
    obtain ⟨c, hc⟩ := I.ok.has x (.inl hk)
    obtain ⟨w', z⟩ := I.cell x c hc
    refine wpAny_storeName_cell I.ok.kind hk hc z (fun h' hc' hs => ?_)
    obtain ⟨oc, hoc, hocd⟩ := id z
    refine h { s with heap := h' } ⟨I.ok, I.os, I.bare, ⟨fun b o e n hb hx => ?_, fun b o e n hb hx => ?_, I.base.free, fun b o e hx => ?_, I.base.tups, I.base.frzs, I.base.tbls⟩, ⟨m, hn.sameBut hs (Ne.symm (cne x c hc)), fun j y v' e1 e2 e3 => ?_⟩, fun y c' e => ?_, I.free, I.freeC, fun p hp => ?_, tracked ⟨oc, hoc, I.freeC x c hc⟩ hs, by simpa using I.len⟩ ⟨c, hs, .inr hc⟩
    · exact (hs.2 b (Nat.ne_of_lt (Nat.lt_of_lt_of_le (Heap.lt_size e) (I.ok.cab x c hfn hc)))).trans (I.base.keep b o e n hb hx)
    · obtain ⟨sl, e1⟩ := I.base.slot b o e n hb hx
      exact ⟨sl, (hs.2 b (Nat.ne_of_lt (Nat.lt_of_lt_of_le (Heap.lt_size e) (I.ok.cab x c hfn hc)))).trans e1⟩
    · obtain ⟨o', e1⟩ := I.base.there b o e hx
      exact ⟨o', (hs.2 b (Nat.ne_of_lt (Nat.lt_of_lt_of_le (Heap.lt_size e) (I.ok.cab x c hfn hc)))).trans e1⟩
    · by_cases hj : j = i
      · subst hj
        rw [hi] at e1; cases e1
        rw [List.getElem?_set_self hiσ] at e2
        cases e2
        exact ⟨u, r, .inr ⟨.inl hk, c, hc, hc'⟩⟩
      · rw [List.getElem?_set_ne (Ne.symm hj)] at e2
        obtain ⟨u', r', q⟩ := hl j y v' e1 e2 e3
        refine ⟨u', r', ?_⟩
        rcases q with q | ⟨k, c', e, z'⟩
        · exact .inl q
        · refine .inr ⟨k, c', e, z'.sameBut hs ?_⟩
          rintro rfl
          exact hj (nodup_ix hN e1 (I.ok.inj _ _ _ e hc ▸ hi))
    · by_cases hcc : c' = c
      · subst hcc; exact ⟨_, hc'⟩
      · obtain ⟨w2, z2⟩ := I.cell y c' e
        exact ⟨w2, z2.sameBut hs hcc⟩
    · obtain ⟨e, n, ne, nf, d⟩ := I.pin p hp
      refine ⟨(hs.2 p.1 ?_).trans e, n, ne, nf, d⟩
      intro q
      rw [q, hoc] at e
      have q' : oc = p.2 := Option.some.inj e
      exact d w' (by rw [← q']; exact hocd)
theorem store_ok {M : Model} {A : Around} {E : Value → Shared → Prop} {i : Nat} {x : Str} {v : V} {u : Value} {Q : Unit → Shared → Prop} (I : Inv X pins σ H s) (hN : X.N.Nodup) (hi : X.N[i]? = some x) (hx : Loc X.env.scope x) (r : RelV v u)
    (h : ∀ s', Inv X pins (σ.set i (some v)) H s' → Q () s') (hf : X.fn x = true ∨ X.env.scope.names.lookup x = some .local := by first | exact .inl rfl | exact .inr rfl | assumption) : wpAny M A (storeName X.env x u) Q E s :=
  store_ok2 I hN hi hx r (fun s' I' _ => h s' I') hf
/-- behind a call or a block, the state as it is -/
theorem Inv.call' {s' : Shared} {ch : List Addr} (I : Inv X pins σ H s) (ho : s'.os = s.os) (u : Un (frs X.stack) ch H H' s.heap s'.heap) (hok : HOk X.prog X.w H' s'.heap) (hg : AllBare s'.gens)
    (hch : ∀ b ∈ ch, (b ∈ X.ex ∨ X.s₀.heap.objs.size ≤ b) ∧ b ≠ X.env.locals ∧ (∀ x c, X.env.cells.lookup x = some c → c ≠ b) ∧ ∀ p ∈ X.pn ++ pins, p.1 ≠ b) : Inv X pins σ H' s' := by
  obtain ⟨h', g', d', t', o'⟩ := s'
  have e : o' = s.os := ho
  subst e
  exact I.call (g' := g') (t' := t') (d' := d') u hok hg hch
end

/-- an exception: its class, its own dict's address (where it has one), the abstract heap behind it -/
abbrev XK := Value → Option Addr → Hp → Prop
abbrev St := List (Option V)
abbrev VK := V → Hp → Prop
/-- an expression's reading; a test's; an argument list's -/
abbrev TE := St → Hp → VK → Prop
abbrev TT := St → Hp → (Bool → Hp → Prop) → Prop
abbrev TA := St → Hp → (List V → Hp → Prop) → Prop
/-- what is wanted behind a statement -/
structure Ends where
  nx : St → Hp → Prop
  rt : VK
  bk : St → Hp → Prop := fun _ _ => False
  ct : St → Hp → Prop := fun _ _ => False
abbrev TS := Ends → St → Hp → Prop

def EP (X : Cx) (pins : List (Addr × Obj)) (σ : St) (Q : VK) (u : Value) (s' : Shared) : Prop := ∃ v H', Inv X pins σ H' s' ∧ RelV v u ∧ Q v H'
def TP (X : Cx) (pins : List (Addr × Obj)) (σ : St) (Q : Bool → Hp → Prop) (b : Bool) (s' : Shared) : Prop := ∃ H', Inv X pins σ H' s' ∧ Q b H'
def AP (X : Cx) (pins : List (Addr × Obj)) (σ : St) (Q : List V → Hp → Prop) (us : List Value) (s' : Shared) : Prop := ∃ vs H', Inv X pins σ H' s' ∧ Vals vs us ∧ Q vs H'
def SP (X : Cx) (pins : List (Addr × Obj)) (D : Ends) (f : Flow) (s' : Shared) : Prop :=
  match f with
  | .next => ∃ σ' H', Inv X pins σ' H' s' ∧ D.nx σ' H'
  | .brk => ∃ σ' H', Inv X pins σ' H' s' ∧ D.bk σ' H'
  | .cont => ∃ σ' H', Inv X pins σ' H' s' ∧ D.ct σ' H'
  | .ret u => ∃ v σ' H', Inv X pins σ' H' s' ∧ RelV v u ∧ D.rt v H'

def PE (X : Cx) (e : Expr) (t : TE) : Prop :=
  ∀ (pins : List (Addr × Obj)) (s : Shared) (σ : St) (H : Hp) (Q : VK), Inv X pins σ H s → t σ H Q → wpAny (model X.prog X.w) X.A (eval e X.env) (EP X pins σ Q) X.xe s
def PT (X : Cx) (e : Expr) (t : TT) : Prop :=
  ∀ (pins : List (Addr × Obj)) (s : Shared) (σ : St) (H : Hp) (Q : Bool → Hp → Prop), Inv X pins σ H s → t σ H Q → wpAny (model X.prog X.w) X.A (isTrue e X.env (eval e X.env)) (TP X pins σ Q) X.xe s
/-- a test whatever its 'whole' is (and, or) -/
def PW (X : Cx) (e : Expr) (t : TT) : Prop :=
  ∀ (whole : Sem Value) (pins : List (Addr × Obj)) (s : Shared) (σ : St) (H : Hp) (Q : Bool → Hp → Prop), Inv X pins σ H s → t σ H Q → wpAny (model X.prog X.w) X.A (isTrue e X.env whole) (TP X pins σ Q) X.xe s
theorem PW.pt {X : Cx} {e : Expr} {t : TT} (h : PW X e t) : PT X e t := h _
/-- an argument list (no star), from the left -/
def PA (X : Cx) (es : List Expr) (t : TA) : Prop :=
  ∀ (pos : Pos) (pins : List (Addr × Obj)) (s : Shared) (σ : St) (H : Hp) (Q : List V → Hp → Prop), Inv X pins σ H s → t σ H Q → wpAny (model X.prog X.w) X.A (spliced (backTo pos (starEach es X.env))) (AP X pins σ Q) X.xe s
def PS (X : Cx) (st : Stmt) (t : TS) : Prop :=
  ∀ (pins : List (Addr × Obj)) (s : Shared) (σ : St) (H : Hp) (D : Ends), Inv X pins σ H s → t D σ H → wpAny (model X.prog X.w) X.A (exec st X.env) (SP X pins D) X.xe s
def PSs (X : Cx) (st : List Stmt) (t : TS) : Prop :=
  ∀ (pins : List (Addr × Obj)) (s : Shared) (σ : St) (H : Hp) (D : Ends), Inv X pins σ H s → t D σ H → wpAny (model X.prog X.w) X.A (execs st X.env) (SP X pins D) X.xe s
/-- weaken the end -/
theorem thn {α : Type} {t : Sem α} {Q Q' : α → Shared → Prop} {M : Model} {A : Around} {E : Value → Shared → Prop} {s : Shared} (h : wpAny M A t Q E s) (hQ : ∀ a s, Q a s → Q' a s) : wpAny M A t Q' E s := wpAny_mono h hQ fun _ _ x => x
end L2

namespace L2
open PySem PySem.Spec PyProof.Rows
section
variable {X : Cx}

def tVar (i : Nat) : TE := fun σ H Q => ∃ v, σ[i]? = some (some v) ∧ Q v H
def tC (v : V) : TE := fun _ H Q => Q v H
theorem pe_var {i : Nat} {x : Str} {pos : Pos} (hN : X.N[i]? = some x) (hv : Vis X.env.scope x) (hd : (x == ("__debug__" : Str)) = false := by decide) (hcd : (x == ("__classdict__" : Str)) = false := by decide) : PE X (.Name x pos) (tVar i) := by
  intro pins s σ H Q I h
  obtain ⟨v, e, h⟩ := h
  obtain ⟨m, hn, hl⟩ := I.loc
  obtain ⟨u, r, l⟩ := hl i x v hN e hv
  have fin : EP X pins σ Q u s := ⟨v, H, I, r, h⟩
  rcases l with ⟨hk, hm⟩ | ⟨hk, c, hc, hcell⟩
  · exact wpAny_Name (wpAny_loadName_local I.ok.kind hk hn hm fin) hd
  · rcases hk with hk | hk
    · exact wpAny_Name (wpAny_loadName_cell I.ok.kind hk hc hcell fin) hd
    · exact wpAny_Name (wpAny_loadName_free I.ok.kind hk hc hcell fin hcd) hd
theorem pe_int {i j pos} : PE X (.Constant (.int i) j pos) (tC (.int i)) := fun _ _ _ H _ I h => wpAny_Constant_int ⟨.int i, H, I.tok _, ⟨_, rfl⟩, h⟩
theorem pe_bl {b j pos} : PE X (.Constant (.bool b) j pos) (tC (.bl b)) := fun _ _ _ H _ I h => Constant_bool ⟨.bl b, H, I, rfl, h⟩
theorem pe_str {x j pos} : PE X (.Constant (.str x) j pos) (tC (.str x)) := fun _ _ _ H _ I h => Calls.Constant_str ⟨.str x, H, I.tok _, ⟨_, rfl⟩, h⟩

/-- a global name of the def -/
def Gl (X : Cx) (x : Str) : Prop := X.env.kindOf x = some .globalImplicit
theorem ld_glob {E : Value → Shared → Prop} {pins : List (Addr × Obj)} {s : Shared} {σ : St} {H : Hp} {x : Str} {u : Value} {pos : Pos} {Q : Value → Shared → Prop} (I : Inv X pins σ H s) (hg : Gl X x) (hm : X.mg x = some u) (h : Q u s)
    (hd : (x == ("__debug__" : Str)) = false := by decide) : wpAny (model X.prog X.w) X.A (eval (.Name x pos) X.env) Q E s :=
  Calls.Name_function_global I.ok.kind hg (Calls.loadGlobal_global (by rw [I.ok.glob]; exact I.mod.glob.keeps I.bk) hm h) hd
theorem ld_blt {E : Value → Shared → Prop} {pins : List (Addr × Obj)} {s : Shared} {σ : St} {H : Hp} {x : Str} {u : Value} {pos : Pos} {Q : Value → Shared → Prop} (I : Inv X pins σ H s) (hg : Gl X x) (hm : X.mg x = none) (hv : bootBuiltins x = some u) (h : Q u s)
    (hn : x ≠ "__name__" := by decide) (hd : (x == ("__debug__" : Str)) = false := by decide) : wpAny (model X.prog X.w) X.A (eval (.Name x pos) X.env) Q E s := by
  obtain ⟨mb, h1, h2⟩ := I.mod.blt
  exact Calls.Name_function_global I.ok.kind hg (Calls.loadGlobal_builtin (by rw [I.ok.glob]; exact I.mod.glob.keeps I.bk) hm (by rw [I.ok.blt]; exact h1.keeps I.bk) ((h2 x hn).trans hv) h) hd
/-- a module's constant, a class, a function, as a value -/
theorem pe_glob {x : Str} {v : V} {u : Value} {pos : Pos} (hg : Gl X x) (hm : X.mg x = some u) (r : RelV v u) (hd : (x == ("__debug__" : Str)) = false := by decide) : PE X (.Name x pos) (tC v) :=
  fun _ _ _ H _ I h => ld_glob I hg hm ⟨v, H, I, r, h⟩ hd
theorem pe_bltn {x : Str} {v : V} {u : Value} {pos : Pos} (hg : Gl X x) (hm : X.mg x = none) (hv : bootBuiltins x = some u) (r : RelV v u) (hn : x ≠ "__name__" := by decide) (hd : (x == ("__debug__" : Str)) = false := by decide) : PE X (.Name x pos) (tC v) :=
  fun _ _ _ H _ I h => ld_blt I hg hm hv ⟨v, H, I, r, h⟩ hn hd

variable {a b : Expr} {ta tb : TE} {pos : Pos}
variable {tA tB' : TT} {rest : List Expr}
def tOr (t u : TT) : TT := fun σ H Q => t σ H fun c H1 => if c = true then Q true H1 else u σ H1 Q
def tNot (t : TT) : TT := fun σ H Q => t σ H fun c H1 => Q (!c) H1
theorem pw_or1 (ha : PT X a tA) : PW X (.BoolOp .Or [a] pos) tA := by
  intro wh pins s σ H Q I h
  refine isTrue_or (thn (ha pins s σ H Q I h) fun c s1 e => ?_)
  cases c with
  | false => exact isTrue_or_nil e
  | true => exact e
theorem pw_or (ha : PT X a tA) (hb : PW X (.BoolOp .Or (b :: rest) pos) tB') : PW X (.BoolOp .Or (a :: b :: rest) pos) (tOr tA tB') := by
  intro wh pins s σ H Q I h
  refine isTrue_or (thn (ha pins s σ H _ I h) fun c s1 ⟨H1, I1, q1⟩ => ?_)
  cases c with
  | true => exact ⟨H1, I1, q1⟩
  | false => exact hb wh pins s1 σ H1 Q I1 q1
theorem pt_not (ha : PT X a tA) : PT X (.UnaryOp .Not a pos) (tNot tA) := by
  intro pins s σ H Q I h
  exact isTrue_not (ha pins s σ H (fun c H1 => Q (!c) H1) I h)
/-- .. as values (bools) -/
def tAndV (ta tb : TE) : TE := fun σ H Q => ta σ H fun x H1 => ∃ c, x = .bl c ∧ if c = true then tb σ H1 Q else Q (.bl false) H1
theorem pe_one {op} {t : TE} (h : PE X a t) : PE X (.BoolOp op [a] pos) t := fun pins s σ H Q I hw => BoolOp_one (h pins s σ H Q I hw)
theorem pe_and (ha : PE X a ta) (hb : PE X (.BoolOp .And (b :: rest) pos) tb) : PE X (.BoolOp .And (a :: b :: rest) pos) (tAndV ta tb) := by
  intro pins s σ H Q I h
  refine BoolOp_and (thn (ha pins s σ H _ I h) fun v s1 ⟨x, H1, I1, r1, q1⟩ => ?_)
  obtain ⟨c, rfl, q1⟩ := q1
  cases r1
  refine wpAny_truthy_bool ?_
  cases c with
  | true => exact hb pins s1 σ H1 Q I1 q1
  | false => exact ⟨.bl false, H1, I1, rfl, q1⟩
/-- a if t else b -/
def tIf (t : TT) (ta tb : TE) : TE := fun σ H Q => t σ H fun c H1 => if c = true then ta σ H1 Q else tb σ H1 Q
theorem pe_ifExp {c : Expr} (hc : PT X c tA) (ha : PE X a ta) (hb : PE X b tb) : PE X (.IfExp c a b pos) (tIf tA ta tb) := by
  intro pins s σ H Q I h
  refine wpAny_IfExp (thn (hc pins s σ H _ I h) fun d s1 ⟨H1, I1, q1⟩ => ?_)
  cases d with
  | true => exact ha pins s1 σ H1 Q I1 q1
  | false => exact hb pins s1 σ H1 Q I1 q1
end
end L2

namespace L2
open PySem PySem.Spec PyProof.Rows

def SqL (K : PySem.W.Frag) (H : Hp) (a : Addr) (xs : List V) : Prop :=
  Rd H a (.lst xs) ∨
    ∃ (o : Obj) (its : Array Value) (n : Nat), K.lookup a = some o ∧ o.cls = .type "list" ∧ o.dict = none ∧ o.data = .seq its n ∧ its.size ≤ sizeLine ∧ Vals xs its.toList
def SqT (K : PySem.W.Frag) (H : Hp) (a : Addr) (xs : List V) : Prop :=
  Rd H a (.tup xs) ∨
    ∃ (o : Obj) (its : Array Value) (n : Nat), K.lookup a = some o ∧ o.cls = .type "tuple" ∧ o.data = .seq its n ∧ its.size ≤ sizeLine ∧ Vals xs its.toList
def absV : Value → Option V
  | .none => some .non
  | .bool b => some (.bl b)
  | .int i _ => some (.int i)
  | .str x _ => some (.str x)
  | .bytes b _ => some (.byt b)
  | .float b _ => some (.flt b)
  | .ref a => some (.ref a)
  | .type n => some (.ty n)
  | _ => none
theorem RelV.abs {x : V} {u : Value} (r : RelV x u) : absV u = some x := by
  cases x with
  | non => cases r; rfl
  | bl _ => cases r; rfl
  | int _ => obtain ⟨t, rfl⟩ := r; rfl
  | str _ => obtain ⟨t, rfl⟩ := r; rfl
  | byt _ => obtain ⟨t, rfl⟩ := r; rfl
  | flt _ => obtain ⟨t, rfl⟩ := r; rfl
  | ref _ => cases r; rfl
  | ty _ => cases r; rfl
theorem RelV.inj {x y : V} {u : Value} (r : RelV x u) (q : RelV y u) : x = y := Option.some.inj (r.abs.symm.trans q.abs)
theorem Vals.inj : ∀ {xs ys : List V} {us : List Value}, Vals xs us → Vals ys us → xs = ys
  | _, _, _, .nil, .nil => rfl
  | _, _, _, .cons r t, .cons r' t' => by rw [r.inj r', Vals.inj t t']
section
variable {X : Cx} {pins : List (Addr × Obj)} {σ : St} {H : Hp} {s : Shared} {a : Addr} {xs ys : List V}
theorem SqL.of {K : PySem.W.Frag} (h : H a = some (.lst xs)) : SqL K H a xs := .inl (.inl h)
theorem SqT.of {K : PySem.W.Frag} (h : H a = some (.tup xs)) : SqT K H a xs := .inl (.inl h)
theorem Inv.list (I : Inv X pins σ H s) (h : SqL X.K H a xs) : ∃ its : List Value, Vals xs its ∧ PlainL s.heap a its.toArray ∧ xs.length ≤ sizeLine := by
  rcases h with h | ⟨o, its, n, hk, hc, hd, hs, hz, r⟩
  · obtain ⟨z, its, n, r, e⟩ := h.ok I.hok
    exact ⟨its, r, ⟨_, n, e, rfl, rfl, rfl⟩, z⟩
  · refine ⟨its.toList, r, ⟨o, n, I.kIn a o hk, hc, hd, by simpa using hs⟩, ?_⟩
    have e := r.length
    simp only [Array.length_toList] at e
    omega
theorem Inv.tuple (I : Inv X pins σ H s) (h : SqT X.K H a xs) : ∃ its : List Value, Vals xs its ∧ IsTup s.heap a its.toArray ∧ xs.length ≤ sizeLine := by
  rcases h with h | ⟨o, its, n, hk, hc, hs, hz, r⟩
  · obtain ⟨z, its, r, p⟩ := h.ok I.hok
    exact ⟨its, r, p, z⟩
  · refine ⟨its.toList, r, ⟨o, I.kIn a o hk, hc, n, by simpa using hs⟩, ?_⟩
    have e := r.length
    simp only [Array.length_toList] at e
    omega
theorem Inv.list_inj (I : Inv X pins σ H s) (h : SqL X.K H a xs) (h' : SqL X.K H a ys) : xs = ys := by
  obtain ⟨its, r, ⟨o, n, e, _, _, d⟩, _⟩ := I.list h
  obtain ⟨its', r', ⟨o', n', e', _, _, d'⟩, _⟩ := I.list h'
  rw [e] at e'; cases e'
  rw [d] at d'
  injection d' with d1 _
  have : its = its' := by simpa using congrArg Array.toList d1
  subst this
  exact r.inj r'
theorem Inv.tuple_inj (I : Inv X pins σ H s) (h : SqT X.K H a xs) (h' : SqT X.K H a ys) : xs = ys := by
  obtain ⟨its, r, ⟨o, e, _, n, d⟩, _⟩ := I.tuple h
  obtain ⟨its', r', ⟨o', e', _, n', d'⟩, _⟩ := I.tuple h'
  rw [e] at e'; cases e'
  rw [d] at d'
  injection d' with d1 _
  have : its = its' := by simpa using congrArg Array.toList d1
  subst this
  exact r.inj r'
end

abbrev Cx.wish (X : Cx) (E : Value → Shared → Prop) : Cx := { X with xe := E }
/-- no exception leaves -/
abbrev Cx.nox (X : Cx) : Cx := X.wish fun _ _ => False
theorem Cx.Ok.wish {X : Cx} (ok : X.Ok) (E : Value → Shared → Prop) : (X.wish E).Ok :=
  ⟨ok.mod, ok.kind, ok.glob, ok.blt, ok.above, ok.inj, ok.has, ok.cab, ok.hd, ok.frames, ok.stk, ok.exf, ok.bs, ok.bsz, ok.noex, ok.exfs, ok.funs, ok.frf⟩
theorem Cx.Ok.unwish {X : Cx} {E : Value → Shared → Prop} (ok : (X.wish E).Ok) : X.Ok :=
  ⟨ok.mod, ok.kind, ok.glob, ok.blt, ok.above, ok.inj, ok.has, ok.cab, ok.hd, ok.frames, ok.stk, ok.exf, ok.bs, ok.bsz, ok.noex, ok.exfs, ok.funs, ok.frf⟩
section
variable {X : Cx} {pins : List (Addr × Obj)} {σ : St} {H : Hp} {s : Shared} {E : Value → Shared → Prop}
theorem Inv.wish (I : Inv X pins σ H s) (E : Value → Shared → Prop) : Inv (X.wish E) pins σ H s := ⟨I.ok.wish E, I.os, I.bare, I.base, I.loc, I.cell, I.free, I.freeC, I.pin, I.hok, I.len⟩
theorem Inv.unwish (I : Inv (X.wish E) pins σ H s) : Inv X pins σ H s := ⟨I.ok.unwish, I.os, I.bare, I.base, I.loc, I.cell, I.free, I.freeC, I.pin, I.hok, I.len⟩
theorem SP.unwish {D : Ends} {f : Flow} {s' : Shared} (h : SP (X.wish E) pins D f s') : SP X pins D f s' := by
  cases f with
  | next => obtain ⟨σ', H', I, q⟩ := h; exact ⟨σ', H', I.unwish, q⟩
  | brk => obtain ⟨σ', H', I, q⟩ := h; exact ⟨σ', H', I.unwish, q⟩
  | cont => obtain ⟨σ', H', I, q⟩ := h; exact ⟨σ', H', I.unwish, q⟩
  | ret u => obtain ⟨v, σ', H', I, r, q⟩ := h; exact ⟨v, σ', H', I.unwish, r, q⟩
theorem PSs.nox {st : List Stmt} {t : TS} (h : PSs X.nox st t) : PSs X st t := fun pins s σ H D I hw =>
  wpAny_mono (h pins s σ H D (I.wish _) hw) (fun _ _ q => q.unwish) fun _ _ z => False.elim z
end

section
variable {X : Cx} {st : Stmt} {rest : List Stmt} {t u : TS} {e : Expr} {te : TE} {pos : Pos}
def tNext : TS := fun D σ H => D.nx σ H
def tSeq (t u : TS) : TS := fun D σ H => t { D with nx := u D } σ H
theorem pss_nil : PSs X [] tNext := fun _ _ σ H _ I h => wpAny_execs_nil ⟨σ, H, I, h⟩
theorem pss_cons (h1 : PS X st t) (h2 : PSs X rest u) : PSs X (st :: rest) (tSeq t u) := by
  intro pins s σ H D I h
  refine wpAny_execs_cons (thn (h1 pins s σ H { D with nx := u D } I h) fun f s1 q => ?_)
  cases f with
  | next =>
    obtain ⟨σ', H', I', q⟩ := q
    exact h2 pins s1 σ' H' D I' q
  | ret v => exact q
  | brk => exact q
  | cont => exact q
theorem pss_one (h1 : PS X st t) : PSs X [st] t := by
  intro pins s σ H D I h
  refine wpAny_execs_cons (thn (h1 pins s σ H D I h) fun f s1 q => ?_)
  cases f with
  | next => exact wpAny_execs_nil q
  | ret v => exact q
  | brk => exact q
  | cont => exact q
/-- in a def's body nothing is shown -/
theorem Inv.quiet {pins : List (Addr × Obj)} {σ : St} {H : Hp} {s : Shared} (I : Inv X pins σ H s) : interactive X.env = false := by simp [interactive, I.ok.kind]
/-- an expression whose value is dropped -/
def tDrop (te : TE) : TS := fun D σ H => te σ H fun _ H1 => D.nx σ H1
theorem ps_expr (he : PE X e te) (hs : swapsWith e none pos.line X.env = pure false := by rfl) : PS X (.Expr e pos) (tDrop te) := by
  intro pins s σ H D I h
  exact wpAny_Expr_any (thn (he pins s σ H _ I h) fun v s1 ⟨x, H1, I1, r1, q1⟩ => ⟨σ, H1, I1, q1⟩) I.quiet hs
def tRet (te : TE) : TS := fun D σ H => te σ H D.rt
theorem ps_ret (he : PE X e te) : PS X (.Return (some e) pos) (tRet te) := by
  intro pins s σ H D I h
  exact wpAny_Return_some (thn (he pins s σ H _ I h) fun v s1 ⟨x, H1, I1, r1, q1⟩ => ⟨x, σ, H1, I1, r1, q1⟩)
def tIfS (c : TT) (t u : TS) : TS := fun D σ H => c σ H fun b H1 => if b = true then t D σ H1 else u D σ H1
theorem ps_if {c : Expr} {a b : List Stmt} {tc : TT} (hc : PT X c tc) (ha : PSs X a t) (hb : PSs X b u) : PS X (.If c a b pos) (tIfS tc t u) := by
  intro pins s σ H D I h
  refine wpAny_If (thn (hc pins s σ H _ I h) fun d s1 ⟨H1, I1, q1⟩ => ?_)
  cases d with
  | true => exact ha pins s1 σ H1 D I1 q1
  | false => exact hb pins s1 σ H1 D I1 q1
end

abbrev TG := V → St → Hp → (St → Hp → Prop) → Prop
def PG (X : Cx) (target : Expr) (t : TG) : Prop :=
  ∀ (pins : List (Addr × Obj)) (s : Shared) (σ : St) (H : Hp) (v : V) (u : Value) (Q : St → Hp → Prop), Inv X pins σ H s → RelV v u → t v σ H Q →
    wpAny (model X.prog X.w) X.A (assign target X.env u) (fun _ s' => ∃ σ' H', Inv X pins σ' H' s' ∧ Q σ' H') X.xe s
section
variable {X : Cx} {pos : Pos}
def gName (i : Nat) : TG := fun v σ H Q => Q (σ.set i (some v)) H
theorem pg_name {i : Nat} {x : Str} (hN : X.N.Nodup) (hi : X.N[i]? = some x) (hx : Loc X.env.scope x) (hf : X.fn x = true ∨ X.env.scope.names.lookup x = some .local := by first | exact .inl rfl | exact .inr rfl | assumption) : PG X (.Name x pos) (gName i) := by
  intro pins s σ H v u Q I r h
  exact wpAny_assign_Name (store_ok I hN hi hx r (fun s' I' => ⟨_, H, I', h⟩) hf)
/-- target = value -/
def tAsg (te : TE) (g : TG) : TS := fun D σ H => te σ H fun x H1 => g x σ H1 D.nx
/-- name = value -/
theorem ps_set {i : Nat} {x : Str} {e : Expr} {te : TE} {pos' : Pos} (hN : X.N.Nodup) (hi : X.N[i]? = some x) (hx : Loc X.env.scope x) (he : PE X e te) (hs : swapsWith e (some (.Name x pos')) pos.line X.env = pure false := by rfl) (hf : X.fn x = true ∨ X.env.scope.names.lookup x = some .local := by first | exact .inl rfl | exact .inr rfl | assumption) :
    PS X (.Assign [.Name x pos'] e pos) (tAsg te (gName i)) := by
  intro pins s σ H D I h
  refine wpAny_Assign_Name (thn (he pins s σ H _ I h) fun v s1 ⟨y, H1, I1, r1, q1⟩ => ?_) hs
  exact store_ok I1 hN hi hx r1 (fun s2 I2 => ⟨_, H1, I2, q1⟩) hf
end

section
variable {X : Cx} {pos : Pos}
end

/-- at turn i: it yields x (the heap may grow), or it stops -/
structure It where
  go : Nat → Hp → Prop
  yld : Nat → Hp → V → Hp → Prop
  stop : Nat → Hp → Prop
/-- the iterator's own objects may turn: they are not the frame's, not pinned, younger than the entry (or a comprehension's own) -/
def FpOk (X : Cx) (pins : List (Addr × Obj)) (H : Hp) (b : Addr) : Prop :=
  H b = none ∧ b ≠ X.env.locals ∧ b ∉ X.fs ∧ (b ∈ X.ex ∨ X.s₀.heap.objs.size ≤ b) ∧ (∀ x c, X.env.cells.lookup x = some c → c ≠ b) ∧ ∀ p ∈ X.pn ++ pins, p.1 ≠ b
theorem Inv.fpOk {X : Cx} {pins : List (Addr × Obj)} {σ : St} {H H' : Hp} {s : Shared} {b : Addr} (I : Inv X pins σ H s) (hb : s.heap.objs.size ≤ b) (hn : H' b = none) : FpOk X pins H' b := by
  refine ⟨hn, Nat.ne_of_gt (Nat.lt_of_lt_of_le I.lt hb), I.nofs hb, .inr (Nat.le_trans I.sz hb), fun x c e z => ?_, fun p hp z => ?_⟩
  · obtain ⟨v, q⟩ := I.cell x c e
    exact absurd (Nat.lt_of_lt_of_le q.lt (by rw [z]; exact hb)) (Nat.lt_irrefl _)
  · exact absurd (Nat.lt_of_lt_of_le (Heap.lt_size (I.pin p hp).1) (by rw [z]; exact hb)) (Nat.lt_irrefl _)
structure Turn (P : Program) (w : World) (K : PySem.W.Frag) (tg : Expr) (J : It) (fp : List Addr) (it : Addr) (tn : Nat → Heap → Prop) : Prop where
  mem : it ∈ fp
  obj : ∀ i h, tn i h → ∀ b ∈ fp, ∃ o, h.get? b = some o ∧ ∀ v, o.data ≠ .cell v
  keep : ∀ i h h', tn i h → (∀ b ∈ fp, ∀ o, h.get? b = some o → h'.get? b = some o) → tn i h'
  item : ∀ (X : Cx), X.prog = P → X.w = w → X.K = K → X.calm = true → ∀ (i : Nat) (pins : List (Addr × Obj)) (s : Shared) (σ : St) (H : Hp) (E : Value → Shared → Prop), Inv X pins σ H s → (∀ b ∈ fp, FpOk X pins H b) → tn i s.heap → J.go i H →
    wpAny (model P w) X.A (pyNext (.ref it)) (fun r s1 => ∃ u, r = some u ∧
      wpAny (model P w) X.A (letOwnedTupleGo tg (.ref it) u) (fun _ s2 => ∃ x H', Inv X pins σ H' s2 ∧ RelV x u ∧ J.yld i H x H' ∧ tn (i + 1) s2.heap ∧ ∀ b ∈ fp, H' b = none) E s1) E s
  done : ∀ (X : Cx), X.prog = P → X.w = w → X.K = K → X.calm = true → ∀ (i : Nat) (pins : List (Addr × Obj)) (s : Shared) (σ : St) (H : Hp) (E : Value → Shared → Prop), Inv X pins σ H s → (∀ b ∈ fp, FpOk X pins H b) → tn i s.heap → J.stop i H →
    wpAny (model P w) X.A (pyNext (.ref it)) (fun r s1 => r = none ∧ Inv X pins σ H s1) E s
  self : ∀ (A : Around) (i : Nat) (s : Shared) (Q : Value → Shared → Prop) (E : Value → Shared → Prop), tn i s.heap → Q (.ref it) s → wpAny (model P w) A (pyIter (.ref it)) Q E s
abbrev TI := St → Hp → (It → Hp → Prop) → Prop
/-- an iterator has come -/
def PIE (X : Cx) (pins : List (Addr × Obj)) (σ : St) (tg : Expr) (R : It → Hp → Prop) (itv : Value) (s2 : Shared) : Prop :=
  ∃ (it : Addr) (fp : List Addr) (tn : Nat → Heap → Prop) (J : It) (H' : Hp), itv = .ref it ∧ Inv X pins σ H' s2 ∧ Turn X.prog X.w X.K tg J fp it tn ∧ tn 0 s2.heap ∧ (∀ b ∈ fp, FpOk X pins H' b) ∧ R J H'
def PI (X : Cx) (tg iter : Expr) (wi : TI) : Prop :=
  ∀ (pins : List (Addr × Obj)) (s : Shared) (σ : St) (H : Hp) (R : It → Hp → Prop), Inv X pins σ H s → wi σ H R →
    wpAny (model X.prog X.w) X.A (eval iter X.env) (fun v s1 => wpAny (model X.prog X.w) X.A (pyIter v) (PIE X pins σ tg R) X.xe s1) X.xe s

/-- the step ahead of the store is nothing for an iterator that keeps no tuple -/
theorem go_of {M : Model} {A : Around} {E : Value → Shared → Prop} {s : Shared} {tg : Expr} {it : Addr} {u : Value} {o : Obj} {n : String} {vs : Array Value} {Q : Unit → Shared → Prop} (ho : s.heap.get? it = some o) (hc : o.cls = .type n) (hd : o.data = .fields vs)
    (hn : ["enumerate", "zip", "dict_itemiterator", "dict_reverseitemiterator", "odict_iterator", "itertools.zip_longest", "itertools.pairwise"].contains n = false) (hQ : Q () s) : wpAny M A (letOwnedTupleGo tg (.ref it) u) Q E s := by
  unfold letOwnedTupleGo
  cases tg <;> first
    | exact wpAny_pure hQ
    | (cases u <;> first
        | exact wpAny_pure hQ
        | (refine wpAny_bind (wpAny_load ho ?_)
           rw [hc, hd]
           show wpAny M A (if (["enumerate", "zip", "dict_itemiterator", "dict_reverseitemiterator", "odict_iterator", "itertools.zip_longest", "itertools.pairwise"].contains n && vs[0]? == some (rawInt _)) = true then _ else _) Q E s
           rw [if_neg (by intro h; rw [hn, Bool.false_and] at h; cases h)]
           exact wpAny_pure hQ))

/-- the list at a, as it stands at each turn (a loop may append to it) -/
def Itl (K : PySem.W.Frag) (a : Addr) : It :=
  ⟨fun i H => ∃ xs x, SqL K H a xs ∧ xs[i]? = some x, fun i H x H' => H' = H ∧ ∀ xs, SqL K H a xs → xs[i]? = some x, fun i H => ∃ xs, SqL K H a xs ∧ xs.length ≤ i⟩
def Itt (K : PySem.W.Frag) (a : Addr) : It :=
  ⟨fun i H => ∃ xs x, SqT K H a xs ∧ xs[i]? = some x, fun i H x H' => H' = H ∧ ∀ xs, SqT K H a xs → xs[i]? = some x, fun i H => ∃ xs, SqT K H a xs ∧ xs.length ≤ i⟩
/-- lo, lo + 1, .. (n of them) -/
def Itr (lo : Int) (n : Nat) : It := ⟨fun i _ => i < n, fun i H x H' => H' = H ∧ x = .int (lo + i), fun i _ => n ≤ i⟩
theorem turn_list {P : Program} {w : World} {K : PySem.W.Frag} {tg : Expr} (a it : Addr) : Turn P w K tg (Itl K a) [it] it (fun i h => h.IsListIter it a i) where
  mem := by simp
  obj := fun i h st b hb => by
    have e : b = it := by simpa using hb
    subst e
    obtain ⟨o, e, c, d⟩ := st
    exact ⟨o, e, fun v z => by rw [d] at z; cases z⟩
  keep := fun i h h' st k => st.at fun o e => k it (by simp) o e
  item := by
    intro X hP hw hK hc i pins s σ H E I hf st hg
    subst hP hw hK
    obtain ⟨xs, x, hq, hx⟩ := hg
    obtain ⟨its, rv, p, hz⟩ := I.list hq
    obtain ⟨u, hu, ru⟩ := rv.get hx
    obtain ⟨f0, f1, f2, f3, f4, f5⟩ := hf it (by simp)
    refine wpAny_pyNext_list_item st p.isList (x := u) (by simpa using hu) fun h' st' sb => ?_
    have I1 : Inv X pins σ H { s with heap := h' } := I.turned (t' := s.toks) (fun b o hb e => (sb.2 b hb).trans e) f0 f1 f3 f4 f5
    obtain ⟨o, e, c, d⟩ := id st'
    exact ⟨u, rfl, go_of (s := { s with heap := h' }) e c d (by decide) ⟨x, H, I1, ru, ⟨rfl, fun ys hy => by rw [I.list_inj hy hq]; exact hx⟩, st', fun b hb => (hf b hb).1⟩⟩
  done := by
    intro X hP hw hK hc i pins s σ H E I hf st hg
    subst hP hw hK
    obtain ⟨xs, hq, hx⟩ := hg
    obtain ⟨its, rv, p, hz⟩ := I.list hq
    obtain ⟨f0, f1, f2, f3, f4, f5⟩ := hf it (by simp)
    have hl := rv.length
    exact wpAny_pyNext_list_end (I.ok.hd hc) st p.isList (by simp; omega) fun h' eb => ⟨rfl, I.turned (t' := s.toks) (fun b o hb e => eb b o hb e) f0 f1 f3 f4 f5⟩
  self := fun _ _ _ _ _ st h => wpAny_pyIter_listiter st h
theorem turn_tuple {P : Program} {w : World} {K : PySem.W.Frag} {tg : Expr} (a it : Addr) : Turn P w K tg (Itt K a) [it] it (fun i h => h.IsTupleIter it a i) where
  mem := by simp
  obj := fun i h st b hb => by
    have e : b = it := by simpa using hb
    subst e
    obtain ⟨o, e, c, d⟩ := st
    exact ⟨o, e, fun v z => by rw [d] at z; cases z⟩
  keep := fun i h h' st k => st.at fun o e => k it (by simp) o e
  item := by
    intro X hP hw hK hc i pins s σ H E I hf st hg
    subst hP hw hK
    obtain ⟨xs, x, hq, hx⟩ := hg
    obtain ⟨its, rv, p, hz⟩ := I.tuple hq
    obtain ⟨u, hu, ru⟩ := rv.get hx
    obtain ⟨f0, f1, f2, f3, f4, f5⟩ := hf it (by simp)
    refine wpAny_pyNext_tuple_item st (show s.heap.IsTuple a its.toArray from p) (x := u) (by simpa using hu) fun h' st' sb => ?_
    have I1 : Inv X pins σ H { s with heap := h' } := I.turned (t' := s.toks) (fun b o hb e => (sb.2 b hb).trans e) f0 f1 f3 f4 f5
    obtain ⟨o, e, c, d⟩ := id st'
    exact ⟨u, rfl, go_of (s := { s with heap := h' }) e c d (by decide) ⟨x, H, I1, ru, ⟨rfl, fun ys hy => by rw [I.tuple_inj hy hq]; exact hx⟩, st', fun b hb => (hf b hb).1⟩⟩
  done := by
    intro X hP hw hK hc i pins s σ H E I hf st hg
    subst hP hw hK
    obtain ⟨xs, hq, hx⟩ := hg
    obtain ⟨its, rv, p, hz⟩ := I.tuple hq
    obtain ⟨f0, f1, f2, f3, f4, f5⟩ := hf it (by simp)
    have hl := rv.length
    exact wpAny_pyNext_tuple_end (I.ok.hd hc) st (show s.heap.IsTuple a its.toArray from p) (by simp; omega) fun h' eb => ⟨rfl, I.turned (t' := s.toks) (fun b o hb e => eb b o hb e) f0 f1 f3 f4 f5⟩
  self := fun _ _ _ _ _ st h => wpAny_pyIter_tupleiter st h
theorem turn_range {P : Program} {w : World} {K : PySem.W.Frag} {tg : Expr} (it : Addr) (lo : Int) (n : Nat) : Turn P w K tg (Itr lo n) [it] it (fun i h => IsRangeIter h it (lo + (i : Nat) * 1) ((n : Int) - (i : Nat)) 1) where
  mem := by simp
  obj := fun i h st b hb => by
    have e : b = it := by simpa using hb
    subst e
    exact ⟨_, st, fun v z => by
      have z' : Data.fields _ = Data.cell v := z
      cases z'⟩
  keep := fun i h h' st k => k it (by simp) _ st
  item := by
    intro X hP hw hK hc i pins s σ H E I hf st hg
    subst hP hw hK
    obtain ⟨f0, f1, f2, f3, f4, f5⟩ := hf it (by simp)
    have W := Walks.range (prog := X.prog) (w := X.w) (I.ok.hd hc) it lo 1 n
    refine W.item i s _ _ hg st fun v h' tk hv st' kk => ?_
    obtain ⟨t, rfl⟩ := hv
    have I1 : Inv X pins σ H { s with heap := h', toks := tk } := I.turned (fun b o hb e => kk b o (by simpa using hb) e) f0 f1 f3 f4 f5
    refine ⟨_, rfl, go_of (s := { s with heap := h', toks := tk }) (n := "range_iterator") st' rfl rfl (by decide) ⟨.int (lo + i), H, I1, ⟨t, ?_⟩, ⟨rfl, rfl⟩, st', fun b hb => (hf b hb).1⟩⟩
    rw [Int.mul_one]
  done := by
    intro X hP hw hK hc i pins s σ H E I hf st hg
    subst hP hw hK
    obtain ⟨f0, f1, f2, f3, f4, f5⟩ := hf it (by simp)
    exact wpAny_pyNext_range_end (I.ok.hd hc) st (by have : n ≤ i := hg; omega) fun h' eb => ⟨rfl, I.turned (t' := s.toks) (fun b o hb e => eb b o hb e) f0 f1 f3 f4 f5⟩
  self := fun _ _ _ _ _ st h => wpAny_pyIter_rangeiter st h
end L2

namespace L2
open PySem PySem.Spec PyProof.Rows
section
variable {X : Cx} {tg : Expr}
/-- a range object just made, walked -/
theorem range_it {pins : List (Addr × Obj)} {σ : St} {H : Hp} {s : Shared} {R : It → Hp → Prop} {E : Value → Shared → Prop} {lo hi : Int} {t u v : Tok} {tk : Nat} (I : Inv X pins σ H s) (h1 : -(2 ^ 62) ≤ lo) (h2 : lo < 2 ^ 62) (h3 : -(2 ^ 62) ≤ hi) (h4 : hi < 2 ^ 62)
    (q : R (Itr lo (hi - lo).toNat) H) : wpAny (model X.prog X.w) X.A (pyIter (.ref s.heap.objs.size)) (PIE X pins σ tg R) E { s with heap := s.heap.push { cls := .type "range", data := .fields #[.int lo t, .int hi u, .int 1 v] }, toks := tk } := by
  refine wpAny_pyIter_range (IsRange.new ..) (small_one h1 h2 h3 h4) ?_
  have I1 : Inv X pins σ H { s with heap := s.heap.push { cls := .type "range", data := .fields #[.int lo t, .int hi u, .int 1 v] }, toks := tk } := I.kept fun b o e => Heap.get?_push_of_some _ e
  refine ⟨(s.heap.push { cls := .type "range", data := .fields #[.int lo t, .int hi u, .int 1 v] }).objs.size, [(s.heap.push { cls := .type "range", data := .fields #[.int lo t, .int hi u, .int 1 v] }).objs.size], _, _, H, rfl,
    I1.kept (t' := tk) fun b o e => Heap.get?_push_of_some _ e, turn_range _ lo (hi - lo).toNat, ?_, fun b hb => ?_, q⟩
  · have e1 : lo + ((0 : Nat) : Int) * 1 = lo := by simp
    have e2 : (((hi - lo).toNat : Nat) : Int) - ((0 : Nat) : Int) = Builtin.Range.rangeSize lo hi 1 := by rw [rangeSize_one]; split <;> omega
    show IsRangeIter _ _ (lo + ((0 : Nat) : Int) * 1) ((((hi - lo).toNat : Nat) : Int) - ((0 : Nat) : Int)) 1
    rw [e1, e2]
    exact Heap.get?_push_size _ rfl
  · have e : b = (s.heap.push { cls := .type "range", data := .fields #[.int lo t, .int hi u, .int 1 v] }).objs.size := by simpa using hb
    subst e
    exact I1.fpOk (Nat.le_refl _) (I1.hok.fresh (Nat.le_refl _))
def iRng1 (ta : TA) : TI := fun σ H R => ta σ H fun vs H1 => ∃ j : Int, vs = [.int j] ∧ -(2 ^ 62) ≤ j ∧ j < 2 ^ 62 ∧ R (Itr 0 j.toNat) H1
theorem pi_range1 {a : Expr} {ta : TA} {p pos : Pos} (hg : Gl X "range") (hm : X.mg "range" = none) (ha : PA X [a] ta) (hs : starEach [a] X.env = [(false, eval a X.env)] := by rfl) : PI X tg (.Call (.Name "range" p) [a] [] pos) (iRng1 ta) := by
  intro pins s σ H R I h
  refine Call_ (ld_blt I hg hm boot_range (PyProof.Rows.callWith_type1 (thn (ha pos pins s σ H _ I h) fun us s1 ⟨vs, H1, I1, r1, q1⟩ => ?_) hs rfl))
  obtain ⟨j, e, q1, q2, q⟩ := q1
  subst e
  cases r1 with
  | cons r rr =>
    cases rr
    obtain ⟨t, rfl⟩ := r
    exact call_range_1 (range_it I1 (by omega) (by omega) q1 q2 (by simpa using q))
/-- W: the invariant by the turn and a measure; N: what the body is to reach -/
def tFor (wi : TI) (g : TG) (tb : TS) : TS := fun D σ H => wi σ H fun J H1 => ∃ W : Nat → Nat → St → Hp → Prop, (∃ m, W 0 m σ H1) ∧ ∀ i m σ H, W i m σ H →
  (J.stop i H ∧ D.nx σ H) ∨ (J.go i H ∧ ∃ N : St → Hp → Prop, (∀ σ' H', N σ' H' → ∃ m', m' < m ∧ W (i + 1) m' σ' H') ∧ ∀ x H', J.yld i H x H' → g x σ H' fun σ2 H2 => tb { D with nx := N, ct := N, bk := D.nx } σ2 H2)
/-- the records at fp as they stand -/
def pinsAt (fp : List Addr) (h : Heap) : List (Addr × Obj) := fp.filterMap fun b => (h.get? b).map fun o => (b, o)
theorem mem_pinsAt {fp : List Addr} {h : Heap} {b : Addr} {o : Obj} (hb : b ∈ fp) (e : h.get? b = some o) : (b, o) ∈ pinsAt fp h := List.mem_filterMap.mpr ⟨b, hb, by rw [e]; rfl⟩
theorem of_pinsAt {fp : List Addr} {h : Heap} {p : Addr × Obj} (hp : p ∈ pinsAt fp h) : p.1 ∈ fp ∧ h.get? p.1 = some p.2 := by
  obtain ⟨b, hb, e⟩ := List.mem_filterMap.mp hp
  cases q : h.get? b with
  | none => rw [q] at e; cases e
  | some o =>
    rw [q] at e
    have e' : (b, o) = p := Option.some.inj e
    subst e'
    exact ⟨hb, q⟩
theorem Inv.pinned {pins : List (Addr × Obj)} {σ : St} {H : Hp} {s : Shared} {fp : List Addr} (I : Inv X pins σ H s) (hf : ∀ b ∈ fp, FpOk X pins H b) (ho : ∀ b ∈ fp, ∃ o, s.heap.get? b = some o ∧ ∀ v, o.data ≠ .cell v) : Inv X (pins ++ pinsAt fp s.heap) σ H s :=
  I.pins_of fun p hp => (List.mem_append.mp hp).elim (fun z => I.pin p (List.mem_append_right _ z)) fun z => by
    obtain ⟨hb, e⟩ := of_pinsAt z
    obtain ⟨f0, f1, f2, _⟩ := hf p.1 hb
    obtain ⟨o, e', d⟩ := ho p.1 hb
    rw [e] at e'; cases e'
    exact ⟨e, f0, f1, f2, d⟩
theorem Inv.unpinned {pins pl : List (Addr × Obj)} {σ : St} {H : Hp} {s : Shared} (I : Inv X (pins ++ pl) σ H s) : Inv X pins σ H s := I.pins_of fun p hp => I.pin p (List.mem_append_right _ (List.mem_append_left _ hp))
theorem ps_for {iter : Expr} {body : List Stmt} {wi : TI} {g : TG} {tb : TS} {pos : Pos} (hp : PassesOwn (model X.prog X.w) X.A X.env X.xe) (hc : X.calm = true) (hi : PI X tg iter wi) (hg : PG X tg g) (hb : PSs X body tb)
    (hs : ∀ x, foldedSetIterable iter X.env x = pure x := by intro _; rfl) : PS X (.For tg iter body [] pos) (tFor wi g tb) := by
  intro pins s σ H D I h
  refine wpAny_For (thn (hi pins s σ H _ I h) fun v s1 h1 => thn h1 fun itv s2 h2 => ?_) hs
  obtain ⟨it, fp, tn, J, H2, e, I2, T, st2, f2, W, ⟨m0, w0⟩, turn⟩ := h2
  subst e
  -- what stays true of the iterator's objects through the loop
  have stat : ∀ {H' : Hp}, (∀ b ∈ fp, H' b = none) → ∀ b ∈ fp, FpOk X pins H' b := fun hn b hb => ⟨hn b hb, (f2 b hb).2⟩
  refine codeAny_forLoop_any (fun n s' => ∃ i σ' H', Inv X pins σ' H' s' ∧ tn i s'.heap ∧ (∀ b ∈ fp, H' b = none) ∧ W i n σ' H') ?_ m0 ⟨0, σ, H2, I2, st2, fun b hb => (f2 b hb).1, w0⟩
  rintro n s3 ⟨i, σ3, H3, I3, st3, fr3, w3⟩
  rcases turn i n σ3 H3 w3 with ⟨stop, qn⟩ | ⟨go, N, hN, step⟩
  · refine wpAny_passesOwn hp (thn (T.done X rfl rfl rfl hc i pins s3 σ3 H3 X.xe I3 (stat fr3) st3 stop) fun r s4 ⟨hr, I4⟩ => ?_)
    subst hr
    exact wpAny_execs_nil ⟨σ3, H3, I4, qn⟩
  · refine wpAny_passesOwn hp (thn (T.item X rfl rfl rfl hc i pins s3 σ3 H3 X.xe I3 (stat fr3) st3 go) fun r s4 ⟨u, hr, h4⟩ => ?_)
    subst hr
    refine wpAny_passesOwn hp (thn h4 fun _ s5 ⟨x, H5, I5, r5, y5, st5, fr5⟩ => ?_)
    have I5' := I5.pinned (stat fr5) (T.obj _ _ st5)
    refine wpAny_passesOwn hp (thn (hg _ s5 σ3 H5 x u _ I5' r5 (step x H5 y5)) fun _ s6 ⟨σ6, H6, I6, q6⟩ => ?_)
    refine wpAny_passesOwn hp (thn (hb _ s6 σ6 H6 _ I6 q6) fun f s7 q7 => ?_)
    have again : ∀ {σ7 : St} {H7 : Hp}, Inv X (pins ++ pinsAt fp s5.heap) σ7 H7 s7 → N σ7 H7 → ∃ m, m < n ∧ ∃ i σ' H', Inv X pins σ' H' s7 ∧ tn i s7.heap ∧ (∀ b ∈ fp, H' b = none) ∧ W i m σ' H' := fun {σ7 H7} I7 n7 => by
      obtain ⟨m', hm, w7⟩ := hN σ7 H7 n7
      refine ⟨m', hm, i + 1, σ7, H7, I7.unpinned, T.keep _ _ _ st5 fun b hb o e => (I7.pin (b, o) (List.mem_append_right _ (List.mem_append_right _ (mem_pinsAt hb e)))).1, fun b hb => ?_, w7⟩
      obtain ⟨o, e, d⟩ := T.obj _ _ st5 b hb
      exact (I7.pin (b, o) (List.mem_append_right _ (List.mem_append_right _ (mem_pinsAt hb e)))).2.1
    cases f with
    | next => obtain ⟨σ7, H7, I7, n7⟩ := q7; exact again I7 n7
    | cont => obtain ⟨σ7, H7, I7, n7⟩ := q7; exact again I7 n7
    | brk => obtain ⟨σ7, H7, I7, q7⟩ := q7; exact ⟨σ7, H7, I7.unpinned, q7⟩
    | ret v => obtain ⟨x7, σ7, H7, I7, r7, q7⟩ := q7; exact ⟨x7, σ7, H7, I7.unpinned, r7, q7⟩
end

/-- over a list that the body leaves as it is -/
theorem for_list {K : PySem.W.Frag} {a : Addr} {xs : List V} {g : TG} {tb : TS} {D : Ends} {σ : St} {H : Hp} (Pv : Nat → St → Hp → Prop) (h0 : Pv 0 σ H) (hl : ∀ i σ H, i ≤ xs.length → Pv i σ H → SqL K H a xs)
    (hs : ∀ i x σ H, xs[i]? = some x → Pv i σ H → g x σ H fun σ2 H2 => tb { D with nx := Pv (i + 1), ct := Pv (i + 1), bk := D.nx } σ2 H2) (hd : ∀ σ H, Pv xs.length σ H → D.nx σ H) :
    ∃ W : Nat → Nat → St → Hp → Prop, (∃ m, W 0 m σ H) ∧ ∀ i m σ H, W i m σ H →
      ((Itl K a).stop i H ∧ D.nx σ H) ∨ ((Itl K a).go i H ∧ ∃ N : St → Hp → Prop, (∀ σ' H', N σ' H' → ∃ m', m' < m ∧ W (i + 1) m' σ' H') ∧ ∀ x H', (Itl K a).yld i H x H' → g x σ H' fun σ2 H2 => tb { D with nx := N, ct := N, bk := D.nx } σ2 H2) := by
  refine ⟨fun i m σ H => m = xs.length - i ∧ i ≤ xs.length ∧ Pv i σ H, ⟨xs.length, by simp, Nat.zero_le _, h0⟩, ?_⟩
  rintro i m σ H ⟨rfl, hi, p⟩
  have q := hl i σ H hi p
  by_cases hlt : i < xs.length
  · refine .inr ⟨⟨xs, xs[i], q, by simp [hlt]⟩, Pv (i + 1), fun σ' H' p' => ⟨xs.length - (i + 1), by omega, rfl, hlt, p'⟩, fun x H' y => ?_⟩
    obtain ⟨e, y⟩ := y
    subst e
    exact hs i x σ _ (y xs q) p
  · have e : i = xs.length := by omega
    subst e
    exact .inl ⟨⟨xs, q, Nat.le_refl _⟩, hd σ H p⟩
theorem for_tup {K : PySem.W.Frag} {a : Addr} {xs : List V} {g : TG} {tb : TS} {D : Ends} {σ : St} {H : Hp} (Pv : Nat → St → Hp → Prop) (h0 : Pv 0 σ H) (hl : ∀ i σ H, i ≤ xs.length → Pv i σ H → SqT K H a xs)
    (hs : ∀ i x σ H, xs[i]? = some x → Pv i σ H → g x σ H fun σ2 H2 => tb { D with nx := Pv (i + 1), ct := Pv (i + 1), bk := D.nx } σ2 H2) (hd : ∀ σ H, Pv xs.length σ H → D.nx σ H) :
    ∃ W : Nat → Nat → St → Hp → Prop, (∃ m, W 0 m σ H) ∧ ∀ i m σ H, W i m σ H →
      ((Itt K a).stop i H ∧ D.nx σ H) ∨ ((Itt K a).go i H ∧ ∃ N : St → Hp → Prop, (∀ σ' H', N σ' H' → ∃ m', m' < m ∧ W (i + 1) m' σ' H') ∧ ∀ x H', (Itt K a).yld i H x H' → g x σ H' fun σ2 H2 => tb { D with nx := N, ct := N, bk := D.nx } σ2 H2) := by
  refine ⟨fun i m σ H => m = xs.length - i ∧ i ≤ xs.length ∧ Pv i σ H, ⟨xs.length, by simp, Nat.zero_le _, h0⟩, ?_⟩
  rintro i m σ H ⟨rfl, hi, p⟩
  have q := hl i σ H hi p
  by_cases hlt : i < xs.length
  · refine .inr ⟨⟨xs, xs[i], q, by simp [hlt]⟩, Pv (i + 1), fun σ' H' p' => ⟨xs.length - (i + 1), by omega, rfl, hlt, p'⟩, fun x H' y => ?_⟩
    obtain ⟨e, y⟩ := y
    subst e
    exact hs i x σ _ (y xs q) p
  · have e : i = xs.length := by omega
    subst e
    exact .inl ⟨⟨xs, q, Nat.le_refl _⟩, hd σ H p⟩
theorem for_range {lo : Int} {n : Nat} {g : TG} {tb : TS} {D : Ends} {σ : St} {H : Hp} (Pv : Nat → St → Hp → Prop) (h0 : Pv 0 σ H)
    (hs : ∀ i σ H, i < n → Pv i σ H → g (.int (lo + i)) σ H fun σ2 H2 => tb { D with nx := Pv (i + 1), ct := Pv (i + 1), bk := D.nx } σ2 H2) (hd : ∀ σ H, Pv n σ H → D.nx σ H) :
    ∃ W : Nat → Nat → St → Hp → Prop, (∃ m, W 0 m σ H) ∧ ∀ i m σ H, W i m σ H →
      ((Itr lo n).stop i H ∧ D.nx σ H) ∨ ((Itr lo n).go i H ∧ ∃ N : St → Hp → Prop, (∀ σ' H', N σ' H' → ∃ m', m' < m ∧ W (i + 1) m' σ' H') ∧ ∀ x H', (Itr lo n).yld i H x H' → g x σ H' fun σ2 H2 => tb { D with nx := N, ct := N, bk := D.nx } σ2 H2) := by
  refine ⟨fun i m σ H => m = n - i ∧ i ≤ n ∧ Pv i σ H, ⟨n, by simp, Nat.zero_le _, h0⟩, ?_⟩
  rintro i m σ H ⟨rfl, hi, p⟩
  by_cases hlt : i < n
  · refine .inr ⟨hlt, Pv (i + 1), fun σ' H' p' => ⟨n - (i + 1), by omega, rfl, hlt, p'⟩, fun x H' y => ?_⟩
    obtain ⟨e, y⟩ := y
    subst e y
    exact hs i σ _ hlt p
  · have e : i = n := by omega
    subst e
    exact .inl ⟨Nat.le_refl _, hd σ H p⟩
end L2

namespace L2
open PySem PySem.Spec PyProof.Rows

abbrev R2 := V → V → Hp → VK → Prop
/-- a two-place operation on values: f is binaryOp op, inplaceOp op or compareOp op -/
def OpR (X : Cx) (f : Value → Value → Sem Value) (r : R2) : Prop :=
  ∀ (pins : List (Addr × Obj)) (s : Shared) (σ : St) (H : Hp) (x y : V) (v u : Value) (Q : VK), Inv X pins σ H s → RelV x v → RelV y u → r x y H Q →
    wpAny (model X.prog X.w) X.A (f v u) (EP X pins σ Q) X.xe s
/-- a call of a value that is known (a builtin, a type) with values -/
def CallR (X : Cx) (f : Value) (r : List V → Hp → VK → Prop) : Prop :=
  ∀ (pins : List (Addr × Obj)) (s : Shared) (σ : St) (H : Hp) (xs : List V) (us : List Value) (Q : VK), Inv X pins σ H s → Vals xs us → r xs H Q →
    wpAny (model X.prog X.w) X.A (call f us) (EP X pins σ Q) X.xe s
/-- a value's truth -/
def TruR (X : Cx) (r : V → Hp → (Bool → Hp → Prop) → Prop) : Prop :=
  ∀ (pins : List (Addr × Obj)) (s : Shared) (σ : St) (H : Hp) (x : V) (v : Value) (Q : Bool → Hp → Prop), Inv X pins σ H s → RelV x v → r x H Q →
    wpAny (model X.prog X.w) X.A (truthy v) (TP X pins σ Q) X.xe s

def tOp (r : R2) (ta tb : TE) : TE := fun σ H Q => ta σ H fun x H1 => tb σ H1 fun y H2 => r x y H2 Q
/-- ints in, under C, and a value out -/
def rI (C : Int → Int → Prop) (g : Int → Int → V) : R2 := fun x y H Q => ∃ i j, x = .int i ∧ y = .int j ∧ C i j ∧ Q (g i j) H
def rI0 (g : Int → Int → V) : R2 := fun x y H Q => ∃ i j, x = .int i ∧ y = .int j ∧ Q (g i j) H
section
variable {X : Cx} {a b c : Expr} {ta tb tc : TE} {pos : Pos}

theorem binT (ha : PE X a ta) (hb : PE X b tb) {pins : List (Addr × Obj)} {s : Shared} {σ : St} {H : Hp} {R : V → V → Hp → Prop} (I : Inv X pins σ H s)
    (h : ta σ H fun x H1 => tb σ H1 fun y H2 => R x y H2) {Q : Value → Shared → Prop} {f : Value → Value → Sem Value}
    (hf : ∀ v u s2 x y H2, Inv X pins σ H2 s2 → RelV x v → RelV y u → R x y H2 → wpAny (model X.prog X.w) X.A (f v u) Q X.xe s2) :
    wpAny (model X.prog X.w) X.A (eval a X.env) (fun v s₁ => wpAny (model X.prog X.w) X.A (eval b X.env) (fun u s₂ => wpAny (model X.prog X.w) X.A (f v u) Q X.xe s₂) X.xe s₁) X.xe s := by
  refine thn (ha pins s σ H _ I h) fun v s1 ⟨x, H1, I1, r1, q1⟩ => ?_
  refine thn (hb pins s1 σ H1 _ I1 q1) fun u s2 ⟨y, H2, I2, r2, q2⟩ => ?_
  exact hf v u s2 x y H2 I2 r1 r2 q2

theorem pe_op {op : Operator} {r : R2} (ho : OpR X (binaryOp op) r) (ha : PE X a ta) (hb : PE X b tb) : PE X (.BinOp a op b pos) (tOp r ta tb) := by
  intro pins s σ H Q I h
  exact wpAny_BinOp (binT ha hb I h fun v u s2 x y H2 I2 rx ry q => ho pins s2 σ H2 x y v u Q I2 rx ry q)
theorem opI {f : Value → Value → Sem Value} {C : Int → Int → Prop} {g : Int → Int → Int}
    (rule : ∀ (i j : Int) (t u : Tok) (s : Shared) (Q : Value → Shared → Prop) (E : Value → Shared → Prop), C i j → Q (.int (g i j) s.toks) { s with toks := s.toks + 1 } → wpAny (model X.prog X.w) X.A (f (.int i t) (.int j u)) Q E s) :
    OpR X f (rI C fun i j => .int (g i j)) := by
  intro pins s σ H x y v u Q I rx ry h
  obtain ⟨i, j, rfl, rfl, hc, q⟩ := h
  obtain ⟨t, rfl⟩ := rx
  obtain ⟨t', rfl⟩ := ry
  exact rule i j t t' s _ _ hc ⟨.int (g i j), H, I.tok _, ⟨_, rfl⟩, q⟩
theorem opI0 {f : Value → Value → Sem Value} {g : Int → Int → Int}
    (rule : ∀ (i j : Int) (t u : Tok) (s : Shared) (Q : Value → Shared → Prop) (E : Value → Shared → Prop), Q (.int (g i j) s.toks) { s with toks := s.toks + 1 } → wpAny (model X.prog X.w) X.A (f (.int i t) (.int j u)) Q E s) :
    OpR X f (rI0 fun i j => .int (g i j)) := by
  intro pins s σ H x y v u Q I rx ry h
  obtain ⟨i, j, rfl, rfl, q⟩ := h
  obtain ⟨t, rfl⟩ := rx
  obtain ⟨t', rfl⟩ := ry
  exact rule i j t t' s _ _ ⟨.int (g i j), H, I.tok _, ⟨_, rfl⟩, q⟩
theorem opB0 {f : Value → Value → Sem Value} {g : Int → Int → Bool}
    (rule : ∀ (i j : Int) (t u : Tok) (s : Shared) (Q : Value → Shared → Prop) (E : Value → Shared → Prop), Q (.bool (g i j)) s → wpAny (model X.prog X.w) X.A (f (.int i t) (.int j u)) Q E s) :
    OpR X f (rI0 fun i j => .bl (g i j)) := by
  intro pins s σ H x y v u Q I rx ry h
  obtain ⟨i, j, rfl, rfl, q⟩ := h
  obtain ⟨t, rfl⟩ := rx
  obtain ⟨t', rfl⟩ := ry
  exact rule i j t t' s _ _ ⟨.bl (g i j), H, I, rfl, q⟩

def CPow (i j : Int) : Prop := 0 ≤ j ∧ j ≤ 1000000 ∧ i.natAbs < 2 ^ 64
def CMul (i j : Int) : Prop := (-(2 ^ 64) < i ∧ i < 2 ^ 64) ∨ (-(2 ^ 64) < j ∧ j < 2 ^ 64)
theorem CMul.ok {i j : Int} (h : CMul i j) : IntMulOk i j := by
  rcases h with ⟨h1, h2⟩ | ⟨h1, h2⟩
  · exact .of_left (intBits_le_64 h1 h2)
  · exact .of_right (intBits_le_64 h1 h2)
theorem two_pow_nn (k : Nat) : (0 : Int) ≤ 2 ^ k := by
  rw [two_pow_cast]
  exact Int.natCast_nonneg _

theorem op_add : OpR X (binaryOp .Add) (rI0 fun i j => .int (i + j)) := opI0 fun _ _ _ _ _ _ _ q => add_int q
theorem op_sub : OpR X (binaryOp .Sub) (rI0 fun i j => .int (i - j)) := opI0 fun _ _ _ _ _ _ _ q => sub_int q
theorem op_mul : OpR X (binaryOp .Mult) (rI CMul fun i j => .int (i * j)) := opI fun _ _ _ _ _ _ _ hc q => mul_int q hc.ok
/-- % by a positive divisor of any size -/
theorem op_mod : OpR X (binaryOp .Mod) (rI (fun _ j => 0 < j) fun i j => .int (i % j)) := opI fun i j _ _ _ _ _ hc q => by
  have h1 : (0 : Int) < j := hc
  exact mod_int' (by omega) (by rw [Int.fmod_eq_emod_of_nonneg i (by omega)]; exact q)
theorem op_shl : OpR X (binaryOp .LShift) (rI CPow fun i j => .int (i * 2 ^ j.toNat)) := opI fun _ _ _ _ _ _ _ hc q => lshift_int_small hc.1 hc.2.1 hc.2.2 q
theorem op_shr : OpR X (binaryOp .RShift) (rI (fun _ j => 0 ≤ j) fun i j => .int (i / 2 ^ j.toNat)) := opI fun i j _ _ _ _ _ hc q =>
  rshift_int hc (by rw [Int.fdiv_eq_ediv_of_nonneg i (two_pow_nn _)]; exact q)
theorem op_and : OpR X (binaryOp .BitAnd) (rI0 fun i j => .int (Builtin.bitAnd i j)) := opI0 fun _ _ _ _ _ _ _ q => and_int q
theorem op_or : OpR X (binaryOp .BitOr) (rI0 fun i j => .int (Builtin.bitOr i j)) := opI0 fun _ _ _ _ _ _ _ q => or_int q
theorem op_xor : OpR X (binaryOp .BitXor) (rI0 fun i j => .int (Builtin.bitXor i j)) := opI0 fun _ _ _ _ _ _ _ q => xor_int q

end

/-- the scalars that == tells apart as data does -/
def scal : V → V → Bool
  | .non, .non => true | .non, .int _ => true | .int _, .non => true | .non, .bl _ => true | .bl _, .non => true | .non, .str _ => true | .str _, .non => true
  | .int _, .int _ => true | .bl _, .bl _ => true | .str _, .str _ => true | .byt _, .byt _ => true
  | .int _, .str _ => true | .str _, .int _ => true | .bl _, .str _ => true | .str _, .bl _ => true
  | _, _ => false
def rEq : R2 := fun x y H Q => scal x y = true ∧ Q (.bl (decide (x = y))) H
def rNe : R2 := fun x y H Q => scal x y = true ∧ Q (.bl (!decide (x = y))) H

theorem dec_int {i j : Int} : decide (V.int i = V.int j) = (i == j) := by
  rw [Bool.eq_iff_iff]
  simp
theorem dec_bl {i j : Bool} : decide (V.bl i = V.bl j) = (i == j) := by
  rw [Bool.eq_iff_iff]
  simp
theorem dec_str {i j : Str} : decide (V.str i = V.str j) = (i == j) := by
  rw [Bool.eq_iff_iff]
  simp
theorem dec_byt {i j : Array UInt8} : decide (V.byt i = V.byt j) = (i.toList == j.toList) := by
  rw [Bool.eq_iff_iff]
  cases i
  cases j
  simp

section
variable {X : Cx} {a b c : Expr} {ta tb tc : TE} {pos : Pos}
theorem fin_bl {pins : List (Addr × Obj)} {σ : St} {H : Hp} {s : Shared} {Q : VK} {k k' : Bool} (I : Inv X pins σ H s) (q : Q (.bl k) H) (e : k = k') : EP X pins σ Q (.bool k') s := by
  subst e
  exact ⟨.bl k, H, I, rfl, q⟩
theorem op_eq : OpR X (compareOp .Eq) rEq := by
  intro pins s σ H x y v u Q I rx ry h
  obtain ⟨hs, q⟩ := h
  cases x with
  | non =>
    cases rx
    cases y with
    | non => cases ry; exact PySem.EqNone.eq_none_none (fin_bl I q (by simp))
    | bl j => cases ry; exact PySem.EqNone.eq_none_bool (fin_bl I q (by simp))
    | int j => obtain ⟨t', rfl⟩ := ry; exact PySem.EqNone.eq_none_int (fin_bl I q (by simp))
    | str j => obtain ⟨t', rfl⟩ := ry; exact PySem.EqNone.eq_none_str (fin_bl I q (by simp))
    | _ => exact absurd (show false = true from hs) Bool.false_ne_true
  | bl i =>
    cases rx
    cases y with
    | non => cases ry; exact PySem.EqNone.eq_bool_none (fin_bl I q (by simp))
    | bl j => cases ry; exact eq_bool (fin_bl I q dec_bl)
    | str j => obtain ⟨t', rfl⟩ := ry; exact PySem.EqMixed.eq_bool_str (fin_bl I q (by simp))
    | _ => exact absurd (show false = true from hs) Bool.false_ne_true
  | int i =>
    obtain ⟨t, rfl⟩ := rx
    cases y with
    | non => cases ry; exact PySem.EqNone.eq_int_none (fin_bl I q (by simp))
    | int j => obtain ⟨t', rfl⟩ := ry; exact eq_int (fin_bl I q dec_int)
    | str j => obtain ⟨t', rfl⟩ := ry; exact PySem.EqMixed.eq_int_str (fin_bl I q (by simp))
    | _ => exact absurd (show false = true from hs) Bool.false_ne_true
  | str i =>
    obtain ⟨t, rfl⟩ := rx
    cases y with
    | non => cases ry; exact PySem.EqNone.eq_str_none (fin_bl I q (by simp))
    | bl j => cases ry; exact PySem.EqMixed.eq_str_bool (fin_bl I q (by simp))
    | int j => obtain ⟨t', rfl⟩ := ry; exact PySem.EqMixed.eq_str_int (fin_bl I q (by simp))
    | str j => obtain ⟨t', rfl⟩ := ry; exact eq_str (fin_bl I q dec_str)
    | _ => exact absurd (show false = true from hs) Bool.false_ne_true
  | byt i =>
    obtain ⟨t, rfl⟩ := rx
    cases y with
    | byt j => obtain ⟨t', rfl⟩ := ry; exact PySem.W.eq_bytes (fin_bl I q dec_byt)
    | _ => exact absurd (show false = true from hs) Bool.false_ne_true
  | _ => cases y <;> exact absurd (show false = true from hs) Bool.false_ne_true
theorem op_ne : OpR X (compareOp .NotEq) rNe := by
  intro pins s σ H x y v u Q I rx ry h
  obtain ⟨hs, q⟩ := h
  cases x with
  | non =>
    cases rx
    cases y with
    | non => cases ry; exact PySem.EqNone.ne_none_none (fin_bl I q (by simp))
    | bl j => cases ry; exact PySem.EqNone.ne_none_bool (fin_bl I q (by simp))
    | int j => obtain ⟨t', rfl⟩ := ry; exact PySem.EqNone.ne_none_int (fin_bl I q (by simp))
    | str j => obtain ⟨t', rfl⟩ := ry; exact PySem.EqNone.ne_none_str (fin_bl I q (by simp))
    | _ => exact absurd (show false = true from hs) Bool.false_ne_true
  | bl i =>
    cases rx
    cases y with
    | non => cases ry; exact PySem.EqNone.ne_bool_none (fin_bl I q (by simp))
    | bl j => cases ry; exact ne_bool (fin_bl I q (congrArg not dec_bl))
    | str j => obtain ⟨t', rfl⟩ := ry; exact PySem.EqMixed.ne_bool_str (fin_bl I q (by simp))
    | _ => exact absurd (show false = true from hs) Bool.false_ne_true
  | int i =>
    obtain ⟨t, rfl⟩ := rx
    cases y with
    | non => cases ry; exact PySem.EqNone.ne_int_none (fin_bl I q (by simp))
    | int j => obtain ⟨t', rfl⟩ := ry; exact ne_int (fin_bl I q (congrArg not dec_int))
    | str j => obtain ⟨t', rfl⟩ := ry; exact PySem.EqMixed.ne_int_str (fin_bl I q (by simp))
    | _ => exact absurd (show false = true from hs) Bool.false_ne_true
  | str i =>
    obtain ⟨t, rfl⟩ := rx
    cases y with
    | non => cases ry; exact PySem.EqNone.ne_str_none (fin_bl I q (by simp))
    | bl j => cases ry; exact PySem.EqMixed.ne_str_bool (fin_bl I q (by simp))
    | int j => obtain ⟨t', rfl⟩ := ry; exact PySem.EqMixed.ne_str_int (fin_bl I q (by simp))
    | str j => obtain ⟨t', rfl⟩ := ry; exact ne_str (fin_bl I q (congrArg not dec_str))
    | _ => exact absurd (show false = true from hs) Bool.false_ne_true
  | byt i =>
    obtain ⟨t, rfl⟩ := rx
    cases y with
    | byt j => obtain ⟨t', rfl⟩ := ry; exact PySem.W.ne_bytes (fin_bl I q (congrArg not dec_byt))
    | _ => exact absurd (show false = true from hs) Bool.false_ne_true
  | _ => cases y <;> exact absurd (show false = true from hs) Bool.false_ne_true

theorem op_lt : OpR X (compareOp .Lt) (rI0 fun i j => .bl (decide (i < j))) := opB0 fun _ _ _ _ _ _ _ q => lt_int q
theorem op_gt : OpR X (compareOp .Gt) (rI0 fun i j => .bl (decide (j < i))) := opB0 fun _ _ _ _ _ _ _ q => gt_int q
theorem op_ge : OpR X (compareOp .GtE) (rI0 fun i j => .bl (decide (j ≤ i))) := opB0 fun _ _ _ _ _ _ _ q => ge_int q
/-- the one string within the other -/
theorem op_in_str : OpR X (compareOp .In) (fun x y H Q => ∃ i j, x = .str i ∧ y = .str j ∧ Q (.bl (!(Builtin.Str.occurrences j i 0 j.length 1).isEmpty)) H) := by
  intro pins s σ H x y v u Q I rx ry h
  obtain ⟨i, j, rfl, rfl, q⟩ := h
  obtain ⟨t, rfl⟩ := rx
  obtain ⟨t', rfl⟩ := ry
  exact in_str (fin_bl I q rfl)

/-- two rules for one operation: by cases -/
theorem OpR.or {f : Value → Value → Sem Value} {r r' : R2} (h : OpR X f r) (h' : OpR X f r') : OpR X f (fun x y H Q => r x y H Q ∨ r' x y H Q) := by
  intro pins s σ H x y v u Q I rx ry q
  rcases q with q | q
  · exact h pins s σ H x y v u Q I rx ry q
  · exact h' pins s σ H x y v u Q I rx ry q

theorem nomark (b : Expr) {op : CmpOp} (h : op ≠ .In := by decide) (h2 : op ≠ .NotIn := by decide) : behindInMarks op b = false := by
  have e1 : (op == CmpOp.In) = false := by cases op <;> first | rfl | exact absurd rfl h
  have e2 : (op == CmpOp.NotIn) = false := by cases op <;> first | rfl | exact absurd rfl h2
  cases b <;> simp [behindInMarks, e1, e2]
/-- a comparison as a value; hm: nomark b, or (for in, not in) by with_unfolding_all rfl -/
theorem pe_cmpR {op : CmpOp} {r : R2} (ho : OpR X (compareOp op) r) (ha : PE X a ta) (hb : PE X b tb) (hm : behindInMarks op b = false) : PE X (.Compare a [op] [b] pos) (tOp r ta tb) := by
  intro pins s σ H Q I h
  exact wpAny_Compare1 (binT ha hb I h fun v u s2 x y H2 I2 rx ry q => ho pins s2 σ H2 x y v u Q I2 rx ry q) hm
/-- a reading of a value as a test -/
def tTest (t : TE) : TT := fun σ H Q => t σ H fun x H' => ∃ k, x = .bl k ∧ Q k H'
theorem pt_cmpR {op : CmpOp} {r : R2} (ho : OpR X (compareOp op) r) (ha : PE X a ta) (hb : PE X b tb) (hm : behindInMarks op b = false) : PT X (.Compare a [op] [b] pos) (tTest (tOp r ta tb)) := by
  intro pins s σ H Q I h
  refine wpAny_isTrue_Compare1 (thn (ha pins s σ H _ I h) fun v s1 ⟨x, H1, I1, r1, q1⟩ => thn (hb pins s1 σ H1 _ I1 q1) fun u s2 ⟨y, H2, I2, r2, q2⟩ =>
    thn (ho pins s2 σ H2 x y v u _ I2 r1 r2 q2) fun c s3 ⟨z, H3, I3, r3, k, e, q3⟩ => ?_) hm
  subst e
  cases r3
  exact wpAny_truthy_bool ⟨H3, I3, q3⟩
/-- a value's truth by the abstract heap -/
def TruV (K : PySem.W.Frag) (x : V) (H : Hp) (k : Bool) : Prop :=
  match x with
  | .non => k = false
  | .bl b => k = b
  | .int i => k = (i != 0)
  | .str y => y.length ≤ sizeLine ∧ k = ((y.length : Int) != 0)
  | .byt y => y.size ≤ sizeLine ∧ k = ((y.size : Int) != 0)
  | .ref p => (∃ xs, SqL K H p xs ∧ k = !xs.isEmpty) ∨ (∃ xs, SqT K H p xs ∧ k = !xs.isEmpty) ∨ ∃ kvs, H p = some (.dK kvs) ∧ k = !kvs.isEmpty
  | _ => False
theorem isEmpty_kv {κ : Type} {kvs : List (κ × V)} {vs : List (κ × Value)} (r : KV kvs vs) : (!vs.isEmpty) = !kvs.isEmpty := by
  cases r <;> rfl
theorem isEmpty_of {xs : List V} {its : List Value} (r : Vals xs its) : (!its.toArray.isEmpty) = !xs.isEmpty := by
  cases r <;> simp
theorem line63 : (sizeLine : Nat) < 2 ^ 63 := by rw [sizeLine_eq]; decide
theorem tru_ok : TruR X (fun x H Q => ∃ k, TruV X.K x H k ∧ Q k H) := by
  intro pins s σ H x v Q I rx h
  obtain ⟨k, e, q⟩ := h
  have hl := line63
  have hs : sizeLine = 16777216 := sizeLine_eq
  cases x with
  | non =>
    cases rx
    have e' : k = false := e
    subst e'
    exact truthy_none ⟨H, I, q⟩
  | bl b =>
    cases rx
    have e' : k = b := e
    subst e'
    exact wpAny_truthy_bool ⟨H, I, q⟩
  | int i =>
    obtain ⟨t, rfl⟩ := rx
    have e' : k = (i != 0) := e
    subst e'
    exact PySem.P.truthy_int ⟨H, I, q⟩
  | str y =>
    obtain ⟨t, rfl⟩ := rx
    obtain ⟨hy, e'⟩ : y.length ≤ sizeLine ∧ k = ((y.length : Int) != 0) := e
    subst e'
    exact PySem.P.truthy_str (by omega) ⟨H, I.tok _, q⟩
  | byt y =>
    obtain ⟨t, rfl⟩ := rx
    obtain ⟨hy, e'⟩ : y.size ≤ sizeLine ∧ k = ((y.size : Int) != 0) := e
    subst e'
    exact PySem.W.truthy_bytes (by omega) ⟨H, I.tok _, q⟩
  | ref p =>
    cases rx
    have e' : (∃ xs, SqL X.K H p xs ∧ k = !xs.isEmpty) ∨ (∃ xs, SqT X.K H p xs ∧ k = !xs.isEmpty) ∨ ∃ kvs, H p = some (.dK kvs) ∧ k = !kvs.isEmpty := e
    rcases e' with ⟨xs, hx, e'⟩ | ⟨xs, hx, e'⟩ | ⟨kvs, hx, e'⟩
    · subst e'
      obtain ⟨its, r, pl, hz⟩ := I.list hx
      have hlen := r.length
      exact wpAny_truthy_list pl.isList (by simp only [List.size_toArray]; omega) ⟨H, I.tok _, by rw [isEmpty_of r]; exact q⟩
    · subst e'
      obtain ⟨its, r, pl, hz⟩ := I.tuple hx
      have hlen := r.length
      exact truthy_tuple pl (by simp only [List.size_toArray]; omega) ⟨H, I.tok _, by rw [isEmpty_of r]; exact q⟩
    · subst e'
      obtain ⟨hz, hS, vs, r, m⟩ : kvs.length ≤ sizeLine ∧ (p == sysModules) = false ∧ ∃ vs, KV kvs vs ∧ s.heap.DictOf (mixKind X.prog X.w) p vs := I.hok p _ hx
      have hlen : kvs.length = vs.length := Paired.length r
      exact wpAny_truthy_dict hS m (by omega) ⟨H, I.tok _, by rw [isEmpty_kv r]; exact q⟩
  | _ => exact (show False from e).elim
/-- any expression whose test is its value's truth (a name, a call, a subscript, a field ..: he by fun _ => rfl) -/
theorem pt_truth (ha : PE X a ta) (he : ∀ whole, isTrue a X.env whole = (do let v ← whole; standAt a.pos; holding [v] (truthy v))) :
    PT X a (fun σ H Q => ta σ H fun x H' => ∃ k, TruV X.K x H' k ∧ Q k H') := by
  intro pins s σ H Q I h
  exact isTrue_plain (thn (ha pins s σ H _ I h) fun v s1 ⟨x, H1, I1, r1, q1⟩ => tru_ok pins s1 σ H1 x v Q I1 r1 q1) (he _)

theorem op_add_str : OpR X (binaryOp .Add) (fun x y H Q => ∃ i j, x = .str i ∧ y = .str j ∧ i.length + j.length ≤ sizeLine ∧ Q (.str (i ++ j)) H) := by
  intro pins s σ H x y v u Q I rx ry h
  obtain ⟨i, j, rfl, rfl, hz, q⟩ := h
  obtain ⟨t, rfl⟩ := rx
  obtain ⟨t', rfl⟩ := ry
  exact add_str (fun t' tk => ⟨.str (i ++ j), H, I.tok _, ⟨_, rfl⟩, q⟩) hz
theorem vals1 {x : V} {us : List Value} (r : Vals [x] us) : ∃ u, us = [u] ∧ RelV x u := by
  cases r with
  | cons r1 r2 => cases r2; exact ⟨_, rfl, r1⟩
theorem vals2 {x y : V} {us : List Value} (r : Vals [x, y] us) : ∃ u w', us = [u, w'] ∧ RelV x u ∧ RelV y w' := by
  cases r with
  | cons r1 r2 =>
    cases r2 with
    | cons r3 r4 => cases r4; exact ⟨_, _, rfl, r1, r3⟩
/-- len of a str, a bytes, a list, a tuple -/
def LenV (K : PySem.W.Frag) (x : V) (H : Hp) (n : Nat) : Prop :=
  match x with
  | .str y => y.length ≤ sizeLine ∧ n = y.length
  | .byt y => y.size ≤ sizeLine ∧ n = y.size
  | .ref p => (∃ xs, SqL K H p xs ∧ n = xs.length) ∨ ∃ xs, SqT K H p xs ∧ n = xs.length
  | _ => False
theorem call_len : CallR X (.builtin "len") (fun xs H Q => ∃ x n, xs = [x] ∧ LenV X.K x H n ∧ Q (.int n) H) := by
  intro pins s σ H xs us Q I r h
  obtain ⟨x, n, rfl, e, q⟩ := h
  obtain ⟨u, rfl, rx⟩ := vals1 r
  have hl := line63
  have hs : sizeLine = 16777216 := sizeLine_eq
  cases x with
  | str y =>
    obtain ⟨t, rfl⟩ := rx
    obtain ⟨hy, e'⟩ : y.length ≤ sizeLine ∧ n = y.length := e
    subst e'
    exact len_str (by omega) ⟨.int _, H, I.tok _, ⟨_, rfl⟩, q⟩
  | byt y =>
    obtain ⟨t, rfl⟩ := rx
    obtain ⟨hy, e'⟩ : y.size ≤ sizeLine ∧ n = y.size := e
    subst e'
    exact PySem.W.len_bytes (by omega) ⟨.int _, H, I.tok _, ⟨_, rfl⟩, q⟩
  | ref p =>
    cases rx
    have e' : (∃ xs, SqL X.K H p xs ∧ n = xs.length) ∨ ∃ xs, SqT X.K H p xs ∧ n = xs.length := e
    rcases e' with ⟨xs, hx, e'⟩ | ⟨xs, hx, e'⟩
    · subst e'
      obtain ⟨its, r', pl, hz⟩ := I.list hx
      have hlen := r'.length
      exact Calls.call_len_list pl.isList (by simp only [List.size_toArray]; omega) ⟨.int xs.length, H, I.tok _, ⟨_, by simp only [List.size_toArray]; rw [hlen]⟩, q⟩
    · subst e'
      obtain ⟨its, r', pl, hz⟩ := I.tuple hx
      have hlen := r'.length
      exact len_tuple pl (by simp only [List.size_toArray]; omega) ⟨.int xs.length, H, I.tok _, ⟨_, by simp only [List.size_toArray]; rw [hlen]⟩, q⟩
  | _ => exact (show False from e).elim
end
end L2

namespace L2
open PySem PySem.Spec PyProof.Rows

structure ObjM (h : Heap) (x dx C : Addr) (mA : Str → Option Value) : Prop where
  obj : h.get? x = some (PySem.W.instObj C dx)
  ns : h.Ns1 dx mA
  ne : dx ≠ x

theorem lookIn_ns {h : Heap} {dx : Addr} {mA : Str → Option Value} (n : h.Ns1 dx mA) : ∃ od, h.get? dx = some od ∧ ∀ name, PySem.W.lookIn name od = some (mA name) := by
  obtain ⟨o, es, ep, ho, hd, hk, _, hm⟩ := n
  refine ⟨o, ho, fun name => ?_⟩
  have e := hm name
  unfold nsFind findBy at e
  rw [← Array.find?_toList] at e
  unfold PySem.W.lookIn
  rw [hd]
  dsimp only
  split
  · rename_i y q
    rw [q] at e
    exact congrArg some e
  · rename_i q
    rw [q] at e
    have a : es.toList.any (·.refKey) = false := by
      rw [List.any_eq_false]
      intro y hy
      obtain ⟨z, t, hkey⟩ := hk y (Array.mem_toList_iff.mp hy)
      simp [DictEntry.refKey, hkey]
    have a' : ¬ es.toList.any (·.refKey) = true := by rw [a]; exact Bool.false_ne_true
    rw [if_neg a']
    exact congrArg some e

theorem ObjM.look {h : Heap} {x dx C : Addr} {mA : Str → Option Value} (I : ObjM h x dx C mA) : ∃ od, PySem.W.InstAt h x (PySem.W.instObj C dx) C (some od) ∧ ∀ name, PySem.W.lookIn name od = some (mA name) :=
  let ⟨od, ho, hl⟩ := lookIn_ns I.ns
  ⟨od, ⟨I.obj, rfl, rfl, ho⟩, hl⟩

section
variable {prog : Program} {w : World} {A : Around} {E : Value → Shared → Prop} {s : Shared} {K : PySem.W.Frag} {x dx C f : Addr} {mA : Str → Option Value} {name : Str} {v : Value}

theorem get_map {expr : Bool} {Q : Value → Shared → Prop} (X : K.In s.heap) (I : ObjM s.heap x dx C mA) (hg : PySem.W.plainGet K C name = true) (hh : PySem.W.hasDictIn K C = true)
    (ha : PySem.W.findIn K (.ref C) name = some none) (hv : mA name = some v) (hv' : PySem.W.handedIn v = true) (h : Q v { s with toks := s.toks + 1 }) :
    wpAny (model prog w) A (getAttr (.ref x) name expr) Q E s := by
  obtain ⟨od, J, hl⟩ := I.look
  exact PySem.W.get_value X J (PySem.W.plainGet_of hg).1 (PySem.W.findObj_own hh ha rfl (by rw [hl, hv])) hv' h

theorem get_meth {pl : Sem Bool} {Q : Value × List Value → Shared → Prop} (X : K.In s.heap) (I : ObjM s.heap x dx C mA) (hg : PySem.W.plainGet K C name = true)
    (hf : PySem.W.findIn K (.ref C) name = some (some (.ref f))) (ht : PySem.W.isFn K (.ref f) = true) (hv : mA name = none) (h : Q (.ref f, [.ref x]) s) :
    wpAny (model prog w) A (getMethod (.ref x) name pl) Q E s := by
  obtain ⟨od, J, hl⟩ := I.look
  exact PySem.W.method_fn X J (PySem.W.plainGet_of hg).1 (PySem.W.plainGet_of hg).2 hf (beq_iff_eq.mp ht) (by show (PySem.W.lookIn name od).map (·.isSome) = some false; rw [hl, hv]; rfl) h

theorem set_map {ns : List Str} {Q : Unit → Shared → Prop} (X : K.In s.heap) (I : ObjM s.heap x dx C mA)
    (hs : PySem.W.findIn K (.ref C) "__setattr__" = some (some (.builtin "object.__setattr__"))) (hp : PySem.W.plainOver K C = true) (ht : PySem.W.takerIn K C name = some none) (hh : PySem.W.hasDictIn K C = true)
    (hw : PySem.Within mA ns) (hsz : ns.length ≤ sizeLine)
    (h : ∀ h', ObjM h' x dx C (fun y => if y = name then some v else mA y) → Heap.SameBut dx s.heap h' → Q () { s with heap := h', toks := s.toks + 2 }) :
    wpAny (model prog w) A (setAttr (.ref x) name v) Q E s := by
  obtain ⟨od, J, hl⟩ := I.look
  refine PySem.W.set_plain X J hs (PySem.W.osa_open (s := { s with toks := s.toks + 1 }) (r := none) X J hp ht fun b => ?_)
  obtain ⟨cd, hc, hd'⟩ := PySem.W.any_some hh
  have hx : s.heap.get? x = some ⟨.ref C, some dx, .plain, #[]⟩ := I.obj
  refine wpAny_bind (wpAny_pure (wpAny_bind (wpAny_bind (wpAny_loadPart hx (wpAny_bind (PySem.W.Looks.here (s := { s with toks := s.toks + 1 }) (PySem.W.looks_clsIn X hc) ?_))))))
  rw [hd']
  refine wpAny_pure (a := some dx) (wpAny_bind (wpAny_pure (wpAny_bind ?_)))
  refine wpAny_nsSet1 (s := { s with toks := s.toks + 1 }) I.ns fun h' hn2 hs2 => ?_
  obtain ⟨oD, esD, epD, hoD, hdD, hcD⟩ := hn2.count (PySem.Within.cons name v hw)
  refine wpAny_bind (wpAny_lookBehind hoD (by rw [hdD]; exact pastItsLine_dict (Nat.le_trans hcD (by rw [List.length_cons]; omega))) ?_)
  exact wpAny_pure (h _ ⟨(hs2.2 _ (Ne.symm I.ne)).trans I.obj, hn2, I.ne⟩ hs2)

/-- C(..): the dict at the heap's end, the instance behind it; then its __init__ -/
theorem make_map {R : Result → Shared → Prop} {vs : List Value} {kw : List (Str × Value)} (X : K.In s.heap) (hm : PySem.W.makesIn K C = true)
    (hi : PySem.W.findIn K (.ref C) "__init__" = some (some (.ref f))) (hf : PySem.W.typeIn K (.ref f) = some (.type "function"))
    (h : codeAny (model prog w) (A.under (.builtin "type.__call__" ⟨.ref C :: vs, kw⟩)) (.call (.ref f) ⟨.ref (s.heap.objs.size + 1) :: vs, kw⟩) (PySem.W.InitBack (s.heap.objs.size + 1) R)
      { s with heap := (s.heap.push PySem.W.emptyDict).push (PySem.W.instObj C s.heap.objs.size) }) :
    codeAny (model prog w) A (.call (.ref C) ⟨vs, kw⟩) R s := by
  obtain ⟨hh, g, d, t, os⟩ := s
  exact PySem.W.make_core (PySem.W.makes_of X hm) (PySem.W.looks_findIn X hi) (fun self => PySem.W.bind_fn X self hf) (.inl rfl) h
end

def putF (f : Str) (v : V) : List (Str × V) → List (Str × V)
  | [] => [(f, v)]
  | (g, x) :: r => if g = f then (g, v) :: r else (g, x) :: putF f v r
theorem lookup_putF (f g : Str) (v : V) : ∀ fs : List (Str × V), (putF f v fs).lookup g = if g = f then some v else fs.lookup g
  | [] => by
    show List.lookup g [(f, v)] = _
    by_cases h : g = f
    · have hb : (g == f) = true := beq_iff_eq.mpr h
      simp only [List.lookup, hb, if_pos h]
    · have hb : (g == f) = false := beq_eq_false_iff_ne.mpr h
      simp only [List.lookup, hb, if_neg h]
  | (k, x) :: r => by
    have ih := lookup_putF f g v r
    rw [show putF f v ((k, x) :: r) = (if k = f then (k, v) :: r else (k, x) :: putF f v r) from rfl]
    by_cases hk : k = f
    · rw [if_pos hk]
      by_cases h : g = k
      · have hb : (g == k) = true := beq_iff_eq.mpr h
        simp only [List.lookup, hb, if_pos (h.trans hk)]
      · have hb : (g == k) = false := beq_eq_false_iff_ne.mpr h
        simp only [List.lookup, hb, if_neg (fun e : g = f => h (e.trans hk.symm))]
    · rw [if_neg hk]
      by_cases h : g = k
      · have hb : (g == k) = true := beq_iff_eq.mpr h
        simp only [List.lookup, hb, if_neg (fun e : g = f => hk (h.symm.trans e))]
      · have hb : (g == k) = false := beq_eq_false_iff_ne.mpr h
        simp only [List.lookup, hb]
        exact ih
theorem keys_putF (f : Str) (v : V) : ∀ fs : List (Str × V), f ∈ (putF f v fs).map (·.1) ∧ ∀ g, g ∈ fs.map (·.1) → g ∈ (putF f v fs).map (·.1)
  | [] => ⟨by simp [putF], fun g h => by simp at h⟩
  | (k, x) :: r => by
    obtain ⟨i1, i2⟩ := keys_putF f v r
    rw [show putF f v ((k, x) :: r) = (if k = f then (k, v) :: r else (k, x) :: putF f v r) from rfl]
    by_cases hk : k = f
    · rw [if_pos hk]
      subst hk
      exact ⟨by simp, fun g h => by simpa using h⟩
    · rw [if_neg hk]
      refine ⟨?_, fun g h => ?_⟩
      · rw [List.map_cons]
        exact List.mem_cons_of_mem _ i1
      · rw [List.map_cons] at h ⊢
        rcases List.mem_cons.mp h with e | e
        · exact List.mem_cons.mpr (.inl e)
        · exact List.mem_cons_of_mem _ (i2 g e)
theorem length_putF (f : Str) (v : V) : ∀ fs : List (Str × V), (putF f v fs).length ≤ fs.length + 1
  | [] => by simp [putF]
  | (k, x) :: r => by
    have ih := length_putF f v r
    rw [show putF f v ((k, x) :: r) = (if k = f then (k, v) :: r else (k, x) :: putF f v r) from rfl]
    by_cases hk : k = f
    · rw [if_pos hk, List.length_cons, List.length_cons]; omega
    · rw [if_neg hk, List.length_cons, List.length_cons]; omega

theorem RelO.some_of {v : V} {o : Option Value} (r : RelO (some v) o) : ∃ u, o = some u ∧ RelV v u := by
  cases o with
  | none => exact (show False from r).elim
  | some u => exact ⟨u, rfl, r⟩
theorem RelO.none_of {o : Option Value} (r : RelO none o) : o = none := by
  cases o with
  | none => rfl
  | some u => exact (show False from r).elim
theorem handed_of {v : V} {u : Value} (r : RelV v u) : PySem.W.handedIn u = true := by
  cases v with
  | non => cases (show u = Value.none from r); rfl
  | bl b => cases (show u = Value.bool b from r); rfl
  | int i => obtain ⟨t, e⟩ := (show ∃ t, u = Value.int i t from r); cases e; rfl
  | str x => obtain ⟨t, e⟩ := (show ∃ t, u = Value.str x t from r); cases e; rfl
  | byt b => obtain ⟨t, e⟩ := (show ∃ t, u = Value.bytes b t from r); cases e; rfl
  | flt b => obtain ⟨t, e⟩ := (show ∃ t, u = Value.float b t from r); cases e; rfl
  | ref a => cases (show u = Value.ref a from r); rfl
  | ty n => cases (show u = Value.type n from r); rfl

section
variable {P : Program} {w : World} {H H' : Hp} {h h' : Heap} {a C dx : Addr} {fs fs' : List (Str × V)}
theorem ins_get (hok : HOk P w H h) (e : H a = some (.ins C dx fs)) : ∃ mA, ObjM h a dx C mA ∧ (∀ f, RelO (fs.lookup f) (mA f)) ∧ PySem.Within mA (fs.map (·.1)) ∧ fs.length ≤ 1000 ∧ H dx = some (.own a) := by
  obtain ⟨d, z, ne, ob, mA, n, r, q⟩ := (show ObjOk P w H h a (.ins C dx fs) from hok a _ e)
  exact ⟨mA, ⟨ob, n, ne⟩, r, q, z, d⟩
end

structure Cls (K : PySem.W.Frag) (C : Addr) : Prop where
  pg : PySem.W.plainGet K C Str.empty = true
  hd : PySem.W.hasDictIn K C = true
  po : PySem.W.plainOver K C = true
  sa : PySem.W.findIn K (.ref C) "__setattr__" = some (some (.builtin "object.__setattr__"))
theorem Cls.get {K : PySem.W.Frag} {C : Addr} (c : Cls K C) (f : Str) : PySem.W.plainGet K C f = true := c.pg
/-- no class of it has the name -/
def NoAttr (K : PySem.W.Frag) (C : Addr) (f : Str) : Prop := PySem.W.findIn K (.ref C) f = some none
theorem NoAttr.taker {K : PySem.W.Frag} {C : Addr} {f : Str} (n : NoAttr K C f) : PySem.W.takerIn K C f = some none := by
  unfold PySem.W.takerIn
  rw [show PySem.W.findIn K (.ref C) f = some none from n]
  rfl
/-- a method: a plain def of the class or of one above it -/
structure Meth (K : PySem.W.Frag) (C : Addr) (m : Str) (f : Addr) : Prop where
  at_ : PySem.W.findIn K (.ref C) m = some (some (.ref f))
  fn : PySem.W.isFn K (.ref f) = true
  kp : PySem.W.keepIn K (.ref f) = true

section
variable {X : Cx} {pins : List (Addr × Obj)} {σ : St} {H : Hp} {s : Shared} {a C dx : Addr} {fs : List (Str × V)} {f : Str} {v : V} {A : Around} {E : Value → Shared → Prop}

theorem getattr_ok {b : Bool} {Q : Value → Shared → Prop} (I : Inv X pins σ H s) (e : H a = some (.ins C dx fs)) (c : Cls X.K C) (n : NoAttr X.K C f) (l : fs.lookup f = some v)
    (h : ∀ u s', Inv X pins σ H s' → RelV v u → Q u s') : wpAny (model X.prog X.w) A (getAttr (.ref a) f b) Q E s := by
  obtain ⟨mA, O, r, _, _, _⟩ := ins_get I.hok e
  obtain ⟨u, hu, ru⟩ := RelO.some_of (v := v) (o := mA f) (by rw [← l]; exact r f)
  exact get_map I.kIn O (c.get f) c.hd n hu (handed_of ru) (h u _ (I.tok _) ru)

theorem getmeth_ok {m : Str} {g : Addr} {pl : Sem Bool} {Q : Value × List Value → Shared → Prop} (I : Inv X pins σ H s) (e : H a = some (.ins C dx fs)) (c : Cls X.K C) (k : Meth X.K C m g) (l : fs.lookup m = none)
    (h : Q (.ref g, [.ref a]) s) : wpAny (model X.prog X.w) A (getMethod (.ref a) m pl) Q E s := by
  obtain ⟨mA, O, r, _, _, _⟩ := ins_get I.hok e
  have hn : mA m = none := RelO.none_of (by rw [← l]; exact r m)
  exact get_meth I.kIn O (c.get m) k.at_ k.fn hn h

theorem setattr_ok {y : V} {u : Value} {Q : Unit → Shared → Prop} (I : Inv X pins σ H s) (e : H a = some (.ins C dx fs)) (c : Cls X.K C) (n : NoAttr X.K C f) (hl : fs.length < 1000) (ry : RelV y u)
    (h : ∀ s', Inv X pins σ (upd H a (.ins C dx (putF f y fs))) s' → Q () s') : wpAny (model X.prog X.w) A (setAttr (.ref a) f u) Q E s := by
  obtain ⟨mA, O, r, wi, _, ho⟩ := ins_get I.hok e
  have hz : (fs.map (·.1)).length ≤ sizeLine := by rw [List.length_map, sizeLine_eq]; omega
  refine set_map I.kIn O c.sa c.po n.taker c.hd wi hz fun h' O' sb => h _ ?_
  have hd : ∃ o, h'.get? dx = some o := let ⟨o, _, _, e', _⟩ := O'.ns; ⟨o, e'⟩
  refine I.write (x := a) (e := dx) (by rw [e]; exact True.intro) (.inr ho) (fun b q hb z => (sb.2 b hb).trans z) hd ?_
  refine ⟨by rw [upd_ne O.ne]; exact ho, ?_, O.ne, O'.obj, _, O'.ns, fun g => ?_, fun g hg => ?_⟩
  · have := length_putF f y fs; omega
  · show RelO ((putF f y fs).lookup g) (if g = f then some u else mA g)
    rw [lookup_putF]
    by_cases q : g = f
    · rw [if_pos q, if_pos q]; exact ry
    · rw [if_neg q, if_neg q]; exact r g
  · by_cases q : g = f
    · rw [q]; exact (keys_putF f y fs).1
    · refine (keys_putF f y fs).2 g (wi g fun z => hg ?_)
      show (if g = f then some u else mA g) = none
      rw [if_neg q]; exact z

/-- a new instance, tracked, without attributes -/
theorem Inv.made (I : Inv X pins σ H s) : Inv X pins σ (upd (upd H s.heap.objs.size (.own (s.heap.objs.size + 1))) (s.heap.objs.size + 1) (.ins C s.heap.objs.size []))
    { s with heap := (s.heap.push PySem.W.emptyDict).push (PySem.W.instObj C s.heap.objs.size) } := by
  have e1 : (s.heap.push PySem.W.emptyDict).get? s.heap.objs.size = some PySem.W.emptyDict := Heap.get?_push_size s.heap rfl
  have e2 : ((s.heap.push PySem.W.emptyDict).push (PySem.W.instObj C s.heap.objs.size)).get? (s.heap.objs.size + 1) = some (PySem.W.instObj C s.heap.objs.size) := by
    have := Heap.get?_push_size (s.heap.push PySem.W.emptyDict) (o := PySem.W.instObj C s.heap.objs.size) rfl
    rwa [Heap.size_push] at this
  have e3 : (s.heap.push PySem.W.emptyDict).Ns s.heap.objs.size (fun _ => none) := ⟨PySem.W.emptyDict, #[], _, e1, rfl, (fun e he => absurd he (by simp)), fun _ => rfl⟩
  have I1 := I.laid (a := s.heap.objs.size) (o := .own (s.heap.objs.size + 1)) (h' := s.heap.push PySem.W.emptyDict) (t' := s.toks) (fun b u q => Heap.get?_push_of_some _ q) (Nat.le_refl _) ⟨_, e1⟩
  refine I1.laid (a := s.heap.objs.size + 1) (o := .ins C s.heap.objs.size []) (t' := s.toks) (fun b u q => Heap.get?_push_of_some _ q) (Nat.le_of_eq (Heap.size_push _ _)) ?_
  have ne : s.heap.objs.size ≠ s.heap.objs.size + 1 := Nat.ne_of_lt (Nat.lt_succ_self _)
  refine ⟨by rw [upd_ne ne, upd_same], Nat.zero_le _, ne, e2, fun _ => none, (Heap.Ns1.of_empty e3).at fun o q => Heap.get?_push_of_some _ q, fun _ => True.intro, fun y hy => absurd rfl hy⟩

/-- e.f where nothing but the object is asked: through attributeBase (super) and the last hold -/
theorem attr_of {prog : Program} {w : World} {env : Env} {e : Expr} {f : Str} {pos : Pos} {s : Shared} {Q : Value → Shared → Prop} (hb : attributeBase e f env (eval e env) = eval e env)
    (h : wpAny (model prog w) A (eval e env) (fun o s₁ => wpAny (model prog w) A (getAttr o f true) Q E s₁) E s) : wpAny (model prog w) A (eval (.Attribute e f pos) env) Q E s :=
  Attribute_any_ h (by rw [arm_eval_Attribute, hb])
end

/-- e.f, an attribute of the instance -/
def tFld (K : PySem.W.Frag) (ta : TE) (f : Str) : TE := fun σ H Q => ta σ H fun x H1 => ∃ a C dx fs v, x = .ref a ∧ H1 a = some (.ins C dx fs) ∧ Cls K C ∧ NoAttr K C f ∧ fs.lookup f = some v ∧ Q v H1
/-- e.f = value -/
def sFld (K : PySem.W.Frag) (ta tv : TE) (f : Str) : TS := fun D σ H => tv σ H fun y H1 => ta σ H1 fun x H2 => ∃ a C dx fs, x = .ref a ∧ H2 a = some (.ins C dx fs) ∧ Cls K C ∧ NoAttr K C f ∧ fs.length < 1000 ∧
  D.nx σ (upd H2 a (.ins C dx (putF f y fs)))
section
variable {X : Cx} {o e value : Expr} {f : Str} {pos pos' tpos : Pos} {ta tv : TE}
theorem pe_fld (he : PE X e ta) (hb : attributeBase e f X.env (eval e X.env) = eval e X.env) : PE X (.Attribute e f pos) (tFld X.K ta f) := by
  intro pins s σ H Q I h
  refine attr_of hb (thn (he pins s σ H _ I h) fun u s1 ⟨x, H1, I1, rx, a, C, dx, fs, v, ex, ea, c, n, l, q⟩ => ?_)
  subst ex
  obtain rfl : u = Value.ref a := rx
  exact getattr_ok I1 ea c n l fun u' s2 I2 ru => ⟨v, H1, I2, ru, q⟩
theorem ps_fld (ha : PE X o ta) (hv : PE X value tv) (hs : swapsWith value (some (.Attribute o f pos')) pos.line X.env = pure false) : PS X (.Assign [.Attribute o f pos'] value pos) (sFld X.K ta tv f) := by
  intro pins s σ H D I h
  refine plainObj_wpAny_Assign_Attribute (thn (hv pins s σ H _ I h) fun u s1 ⟨y, H1, I1, ry, q⟩ => thn (ha pins s1 σ H1 _ I1 q) fun ov s2 ⟨x, H2, I2, rx, a, C, dx, fs, ex, ea, c, n, l, q2⟩ => ?_) hs
  subst ex
  obtain rfl : ov = Value.ref a := rx
  exact setattr_ok I2 ea c n l ry fun s3 I3 => ⟨σ, _, I3, q2⟩
end

section
variable {X : Cx} {pins : List (Addr × Obj)} {σ : St} {H : Hp} {s : Shared} {A : Around} {E : Value → Shared → Prop} {Q : Value → Shared → Prop} {c : Value} {b : Bool}
/-- the type of a value, as the fragment's deciders take it; for an instance its class -/
inductive TyOf (K : PySem.W.Frag) (H : Hp) : V → Value → Prop where
  | non : TyOf K H .non (.type "NoneType")
  | bl (x : Bool) : TyOf K H (.bl x) (.type "bool")
  | int (i : Int) : TyOf K H (.int i) (.type "int")
  | str (x : Str) : TyOf K H (.str x) (.type "str")
  | flt (x : UInt64) : TyOf K H (.flt x) (.type "float")
  | lst {a : Addr} {xs : List V} (e : H a = some (.lst xs)) : TyOf K H (.ref a) (.type "list")
  | frz {a : Addr} {o : Obj} {xs : List V} (e : H a = some (.frz o (.lst xs))) : TyOf K H (.ref a) (.type "list")
  | tup {a : Addr} {xs : List V} (e : H a = some (.tup xs)) : TyOf K H (.ref a) (.type "tuple")
  | dK {a : Addr} {kvs : List (Key × V)} (e : H a = some (.dK kvs)) : TyOf K H (.ref a) (.type "dict")
  | dT {a : Addr} {kvs : List (List Key × V)} (e : H a = some (.dT kvs)) : TyOf K H (.ref a) (.type "dict")
  | ins {a C dx : Addr} {fs : List (Str × V)} (e : H a = some (.ins C dx fs)) (cl : Cls K C) (ha : PySem.W.findIn K (.ref C) "__class__" = some (some (.builtin "object.__class__")))
      (hn : PySem.W.specialIn K (.builtin "object.__class__") "__get__" = some (some (.builtin "getset_descriptor.__get__"))) (htk : PySem.W.takesIn K (.builtin "object.__class__") = some true)
      (hm : PySem.W.mroIn K C (.type "object") = some true) : TyOf K H (.ref a) (.ref C)
/-- isinstance(x, c) for one class c, a built-in or an own one: kitOne's answer -/
theorem isinst_ok {x : V} {u t : Value} (I : Inv X pins σ H s) (rx : RelV x u) (ty : TyOf X.K H x t) (e : PySem.W.kitOne X.K t c = some b) (h : ∀ tk, Q (.bool b) { s with toks := tk }) :
    wpAny (model X.prog X.w) A (call (.builtin "isinstance") [u, c]) Q E s := by
  cases ty with
  | non => cases (show u = Value.none from rx); exact PySem.W.kia_one PySem.W.kitx_none I.kIn True.intro e (fun z => nomatch z) h
  | bl y => cases (show u = Value.bool y from rx); exact PySem.W.kia_one PySem.W.kitx_bool I.kIn True.intro e (fun z => nomatch z) h
  | int i => obtain ⟨t, q⟩ := (show ∃ t, u = Value.int i t from rx); cases q; exact PySem.W.kia_one PySem.W.kitx_int I.kIn True.intro e (fun z => nomatch z) h
  | str y => obtain ⟨t, q⟩ := (show ∃ t, u = Value.str y t from rx); cases q; exact PySem.W.kia_one PySem.W.kitx_str I.kIn True.intro e (fun z => nomatch z) h
  | flt y => obtain ⟨t, q⟩ := (show ∃ t, u = Value.float y t from rx); cases q; exact PySem.W.kia_one PySem.W.kitx_float I.kIn True.intro e (fun z => nomatch z) h
  | @lst a xs ea =>
    cases (show u = Value.ref a from rx)
    obtain ⟨_, _, n, _, h1⟩ := (show ObjOk X.prog X.w H s.heap a (.lst xs) from I.hok a _ ea)
    exact PySem.W.kia_one PySem.W.kitx_list I.kIn ⟨_, h1, rfl⟩ e (fun z => nomatch z) h
  | @frz a ob xs ea =>
    cases (show u = Value.ref a from rx)
    obtain ⟨_, _, _, n, _, h1⟩ := (show ObjOk X.prog X.w H s.heap a (.frz ob (.lst xs)) from I.hok a _ ea)
    exact PySem.W.kia_one PySem.W.kitx_list I.kIn ⟨_, h1, rfl⟩ e (fun z => nomatch z) h
  | @tup a xs ea =>
    cases (show u = Value.ref a from rx)
    obtain ⟨_, _, _, p⟩ := (show ObjOk X.prog X.w H s.heap a (.tup xs) from I.hok a _ ea)
    obtain ⟨o, h1, h2, _⟩ := p
    exact PySem.W.kia_one PySem.W.kitx_tuple I.kIn ⟨o, h1, h2⟩ e (fun z => nomatch z) h
  | @dK a kvs ea =>
    cases (show u = Value.ref a from rx)
    obtain ⟨_, _, vs, _, p⟩ := (show ObjOk X.prog X.w H s.heap a (.dK kvs) from I.hok a _ ea)
    obtain ⟨o, es, ep, h1, h2, _⟩ := p
    exact PySem.W.kia_one PySem.W.kitx_dict I.kIn ⟨o, h1, h2.1⟩ e (fun z => nomatch z) h
  | @dT a kvs ea =>
    cases (show u = Value.ref a from rx)
    obtain ⟨_, _, xs, _, o, es, ep, h1, h2, _⟩ := (show ObjOk X.prog X.w H s.heap a (.dT kvs) from I.hok a _ ea)
    exact PySem.W.kia_one PySem.W.kitx_dict I.kIn ⟨o, h1, h2.1⟩ e (fun z => nomatch z) h
  | @ins a C dx fs ea cl ha hn htk hm =>
    cases (show u = Value.ref a from rx)
    obtain ⟨mA, O, _⟩ := ins_get I.hok ea
    obtain ⟨od, J, _⟩ := O.look
    exact PySem.W.kia_one (PySem.W.kitx_own (cl.get _) cl.hd ha hn htk hm) I.kIn J e (fun z => nomatch z) h
end
end L2

namespace L2
open PySem PySem.Spec PyProof.Rows

structure Room (k : Nat) (A : Around) : Prop where
  hd : A.handled = none
  dp : A.depth + 3 * k + 5 < recursionLimit
  un : A.units + 16 * k + 200 < cLine
theorem Room.mono {j k : Nat} {A : Around} (r : Room k A) (h : j ≤ k) : Room j A := ⟨r.hd, by have := r.dp; omega, by have := r.un; omega⟩
theorem Room.deeper {k : Nat} {A : Around} (r : Room (k + 1) A) (env : Env) : Room k (A.deeper env) :=
  ⟨r.hd, by have := r.dp; show A.depth + 1 + 3 * k + 5 < _; omega, by have := r.un; show A.units + 3 + 16 * k + 200 < _; omega⟩
theorem make_depth {A : Around} {C : Addr} {us : List Value} {kw : List (Str × Value)} : (A.under (.builtin "type.__call__" ⟨.ref C :: us, kw⟩)).depth = A.depth + 1 := by
  first | rfl | simp [Around.under, Code.weight, Code.isCreation, Code.isGuard, Code.isCaller, Code.frames, Code.isFrame, guardIds]
theorem make_units {A : Around} {C : Addr} {us : List Value} {kw : List (Str × Value)} : (A.under (.builtin "type.__call__" ⟨.ref C :: us, kw⟩)).units = A.units + 1 := by
  first | rfl | simp [Around.under, Code.cUnits, Code.frames, Code.isFrame]
theorem Room.make {k : Nat} {A : Around} (r : Room (k + 1) A) (C : Addr) (us : List Value) (kw : List (Str × Value)) : Room k (A.under (.builtin "type.__call__" ⟨.ref C :: us, kw⟩)) :=
  ⟨r.hd, by have := r.dp; rw [make_depth]; omega, by have := r.un; rw [make_units]; omega⟩
theorem Room.depth {k : Nat} {A : Around} (r : Room k A) : A.depth < recursionLimit := by have := r.dp; omega
theorem Room.units {k : Nat} {A : Around} (r : Room k A) : A.units + 64 < cLine := by have := r.un; omega
def tNil : TA := fun _ H Q => Q [] H
def tCons (ta : TE) (tr : TA) : TA := fun σ H Q => ta σ H fun x H1 => tr σ H1 fun xs H2 => Q (x :: xs) H2
section
variable {X : Cx} {e : Expr} {es : List Expr} {te : TE} {t : TA} {pos : Pos}
theorem pa_nil : PA X [] tNil := fun _ _ _ _ H Q I h => Calls.spliced_nil ⟨[], H, I, .nil, h⟩
theorem pa_cons (ha : PE X e te) (hr : PA X es t) (hs : starEach (e :: es) X.env = (false, eval e X.env) :: starEach es X.env := by rfl) : PA X (e :: es) (tCons te t) := by
  intro pos pins s σ H Q I h
  rw [hs]
  show wpAny _ _ (spliced ((false, eval e X.env) :: backTo pos (starEach es X.env))) _ _ s
  refine Calls.spliced_cons (thn (ha pins s σ H _ I h) fun u s1 ⟨x, H1, I1, r1, q1⟩ => ?_)
  exact thn (hr pos pins s1 σ H1 _ I1 q1) fun us s2 ⟨xs, H2, I2, r2, q2⟩ => ⟨x :: xs, H2, I2, .cons r1 r2, q2⟩

/-- a tuple, a list of written items -/
def tTup (t : TA) : TE := fun σ H Q => t σ H fun xs H1 => xs.length ≤ sizeLine ∧ ∀ p, H1 p = none → Q (.ref p) (upd H1 p (.tup xs))
def tLst (t : TA) : TE := fun σ H Q => t σ H fun xs H1 => xs.length ≤ sizeLine ∧ ∀ p, H1 p = none → Q (.ref p) (upd H1 p (.lst xs))
theorem pe_tup {x1} (h : PA X es t) : PE X (.Tuple es x1 pos) (tTup t) := by
  intro pins s σ H Q I hq
  refine wpAny_Tuple_spliced (thn (h pos pins s σ H _ I hq) fun us s1 ⟨xs, H1, I1, r, z, q⟩ => ⟨by rw [← r.length]; exact z, ?_⟩)
  have hf : H1 s1.heap.objs.size = none := I1.hok.fresh (Nat.le_refl _)
  refine ⟨.ref s1.heap.objs.size, upd H1 s1.heap.objs.size (.tup xs), I1.laid (t' := s1.toks) (fun b u e => Heap.get?_push_of_some _ e) (Nat.le_refl _) ?_, rfl, q _ hf⟩
  exact ⟨z, us, r, ⟨_, Heap.get?_push_size _ rfl, rfl, _, rfl⟩⟩
theorem pe_lst (h : PA X es t) : PE X (.List es pos) (tLst t) := by
  intro pins s σ H Q I hq
  refine wpAny_List_spliced (thn (h pos pins s σ H _ I hq) fun us s1 ⟨xs, H1, I1, r, z, q⟩ => ⟨by rw [← r.length]; exact z, ?_⟩)
  have hf : H1 s1.heap.objs.size = none := I1.hok.fresh (Nat.le_refl _)
  refine ⟨.ref s1.heap.objs.size, upd H1 s1.heap.objs.size (.lst xs), I1.laid (t' := s1.toks) (fun b u e => Heap.get?_push_of_some _ e) (Nat.le_refl _) ?_, rfl, q _ hf⟩
  exact ⟨z, us, 0, r, Heap.get?_push_size _ rfl⟩
end

/-- a def's promise: the bound arguments in the parameters' order, the heap, the wanted end, the wanted exception -/
abbrev Sp := List V → Hp → VK → XK → Prop
/-- how an exception lies behind a call (file 08 gives it): the callers' frames, abstract heap and state ahead of the call, the wish, the exception, the state -/
abbrev CXT := List Env → Hp → Shared → XK → Value → Shared → Prop

/-- the state at a call -/
structure Env0 (P : Program) (w : World) (K : PySem.W.Frag) (mg : Str → Option Value) (base : Heap) (A : Around) (outer : List Env) (s : Shared) (H : Hp) : Prop where
  frames : A.frames = some outer
  mod : Mod K mg base
  bs : ∀ b o, base.get? b = some o → s.heap.get? b = some o ∧ H b = none
  bsz : base.objs.size ≤ s.heap.objs.size
  funs : s.heap.FunFrames base outer
  frf : ∀ b ∈ frs outer, H b = none
  hok : HOk P w H s.heap
  bare : AllBare s.gens
/-- a call's end -/
def CE (outer : List Env) (P : Program) (w : World) (H : Hp) (s : Shared) (Q : VK) (u : Value) (s' : Shared) : Prop :=
  ∃ v H', s'.os = s.os ∧ AllBare s'.gens ∧ Un (frs outer) [] H H' s.heap s'.heap ∧ HOk P w H' s'.heap ∧ RelV v u ∧ Q v H'
def CR (CX : CXT) (outer : List Env) (P : Program) (w : World) (H : Hp) (s : Shared) (Q : VK) (E : XK) (r : Result) (s' : Shared) : Prop :=
  match r with
  | .ok (.ret u) => CE outer P w H s Q u s'
  | .ok _ => False
  | .error e => CX outer H s E e s'
structure FnOk (P : Program) (w : World) (K : PySem.W.Frag) (mg : Str → Option Value) (base : Heap) (CX : CXT) (k : Nat) (f : Addr) (fd : FuncData) (ps : List Str) (sp : Sp) : Prop where
  len : ∀ vs H Q E, sp vs H Q E → vs.length = ps.length
  run : ∀ (A : Around) (outer : List Env) (s : Shared) (H : Hp) (args : Args) (us : List Value) (vs : List V) (Q : VK) (E : XK), Room k A → Env0 P w K mg base A outer s H → BindsTo s fd args (ps.zip us) → Vals vs us → sp vs H Q E →
    codeAny (model P w) A (.call (.ref f) args) (CR CX outer P w H s Q E) s
theorem FnOk.mono {P : Program} {w : World} {K : PySem.W.Frag} {mg : Str → Option Value} {base : Heap} {CX : CXT} {j k : Nat} {f : Addr} {fd : FuncData} {ps : List Str} {sp : Sp} (F : FnOk P w K mg base CX j f fd ps sp) (h : j ≤ k) :
    FnOk P w K mg base CX k f fd ps sp := ⟨F.len, fun A outer s H args us vs Q E hr => F.run A outer s H args us vs Q E (hr.mono h)⟩
theorem Env0.make {P : Program} {w : World} {K : PySem.W.Frag} {mg : Str → Option Value} {base : Heap} {A : Around} {outer : List Env} {s : Shared} {H : Hp} (e : Env0 P w K mg base A outer s H) (C : Addr) (us : List Value) (kw : List (Str × Value)) :
    Env0 P w K mg base (A.under (.builtin "type.__call__" ⟨.ref C :: us, kw⟩)) outer s H := ⟨by first | exact e.frames | (simpa [Around.under, Code.envs, Code.isFrame, pushEnvs] using e.frames), e.mod, e.bs, e.bsz, e.funs, e.frf, e.hok, e.bare⟩
section
variable {X : Cx} {pins : List (Addr × Obj)} {σ : St} {H : Hp} {s s' : Shared}
/-- from a body: what a callee wants -/
theorem Inv.env0 (I : Inv X pins σ H s) : Env0 X.prog X.w X.K X.mg X.base X.A X.stack s H :=
  ⟨I.ok.frames, I.ok.mod, I.bs, Nat.le_trans I.ok.bsz I.sz, I.stack, I.stkFree, I.hok, I.bare⟩
/-- behind a call -/
theorem Inv.after {Q : VK} {u : Value} (I : Inv X pins σ H s) (h : CE X.stack X.prog X.w H s Q u s') : EP X pins σ Q u s' := by
  obtain ⟨v, H', os, bare, un, hok, r, q⟩ := h
  obtain ⟨hh, g, d, t, os'⟩ := s'
  obtain rfl : os' = s.os := os
  exact ⟨v, H', I.call (h' := hh) (g' := g) (d' := d) (t' := t) (ch := []) un hok bare (fun b z => absurd z (by simp)), r, q⟩
end

/-- f(..): the written arguments, then the defaults dvs; E: what is wanted of an exception -/
def tCall (sp : Sp) (dvs : List V) (E : XK) (t : TA) : TE := fun σ H Q => t σ H fun vs H1 => sp (vs ++ dvs) H1 Q E
/-- C(..): a new instance and its dict, then __init__ -/
def tMake (C : Addr) (sp : Sp) (dvs : List V) (E : XK) (t : TA) : TE := fun σ H Q => t σ H fun vs H1 => ∀ x dx, H1 x = none → H1 dx = none → dx ≠ x →
  sp (.ref x :: (vs ++ dvs)) (upd (upd H1 dx (.own x)) x (.ins C dx [])) (fun v H2 => v = .non ∧ Q (.ref x) H2) E

/-- how the parameters are bound: us the positional arguments, kw the keywords' values by name, ds the defaults that fill up -/
def Binds (K : PySem.W.Frag) (fd : FuncData) (ps : List Str) (ds : List Value) : Prop :=
  ∀ (s : Shared) (us : List Value), K.In s.heap → (us ++ ds).length = ps.length → BindsTo s fd ⟨us, []⟩ (ps.zip (us ++ ds))
/-- every parameter is given -/
theorem Binds.all {K : PySem.W.Frag} {fd : FuncData} {ps : List Str} (h : ∀ us : List Value, us.length = ps.length → bindArgs fd ⟨us, []⟩ = pure (ps.zip us)) : Binds K fd ps [] := fun s us _ hl => by
  rw [List.append_nil] at hl ⊢
  exact .of_eq (h us hl)

/-- an exception of a callee reaches what this body wants of exceptions -/
def Passes (CX : CXT) (X : Cx) (E : XK) : Prop := ∀ (pins : List (Addr × Obj)) (σ : St) (H : Hp) (s : Shared) (e : Value) (s' : Shared), Inv X pins σ H s → CX X.stack H s E e s' → X.xe e s'

section
variable {X : Cx} {CX : CXT} {k : Nat} {f C : Addr} {fd : FuncData} {ps : List Str} {sp : Sp} {dvs : List V} {ds : List Value} {E : XK} {x m : Str} {p pos apos : Pos} {e o : Expr} {es : List Expr} {ta : TE} {t : TA}

/-- the callee runs -/
theorem run_fn {pins : List (Addr × Obj)} {σ : St} {H : Hp} {s : Shared} {Q : VK} {us : List Value} {vs : List V} (F : FnOk X.prog X.w X.K X.mg X.base CX k f fd ps sp) (hr : Room k X.A) (hb : Binds X.K fd ps ds) (hd : Vals dvs ds) (hx : Passes CX X E)
    (I : Inv X pins σ H s) (r : Vals vs us) (h : sp (vs ++ dvs) H Q E) : wpAny (model X.prog X.w) X.A (call (.ref f) us) (EP X pins σ Q) X.xe s := by
  have r2 : Vals (vs ++ dvs) (us ++ ds) := r.append hd
  have hl : (us ++ ds).length = ps.length := by rw [← r2.length]; exact F.len _ _ _ _ h
  refine wpAny_call (codeAny_mono (F.run X.A X.stack s H ⟨us, []⟩ (us ++ ds) (vs ++ dvs) Q E hr I.env0 (hb s us I.kIn hl) r2 h) fun r s' hq => ?_)
  cases r with
  | error e => exact hx pins σ H s e s' I hq
  | ok fl =>
    cases fl with
    | ret u => exact I.after hq
    | next => exact False.elim hq
    | brk => exact False.elim hq
    | cont => exact False.elim hq

theorem pe_call (F : FnOk X.prog X.w X.K X.mg X.base CX k f fd ps sp) (hr : Room k X.A) (hg : Gl X x) (hm : X.mg x = some (.ref f)) (hk : PySem.W.keepIn X.K (.ref f) = true) (hb : Binds X.K fd ps ds) (hd : Vals dvs ds) (hx : Passes CX X E)
    (ha : PA X (e :: es) t) (hdb : (x == ("__debug__" : Str)) = false := by decide) (he : starEach (e :: es) X.env = (false, eval e X.env) :: starEach es X.env := by rfl) (hpl : (backTo pos (starEach es X.env)).any (·.1) = false := by rfl) :
    PE X (.Call (.Name x p) (e :: es) [] pos) (tCall sp dvs E t) := by
  intro pins s σ H Q I h
  refine wpAny_Call_Name_kw (ld_glob I hg hm ?_ hdb)
  refine PySem.W.callWith_K (h₀ := X.base) I.ok.mod.kin hk (thn (ha pos pins s σ H _ I h) fun us s1 ⟨vs, H1, I1, r, q⟩ => ⟨I1.kIn, ?_⟩) he hpl
  exact run_fn F hr hb hd hx I1 r q
/-- what a class must have to be made -/
structure Mk (K : PySem.W.Frag) (C f : Addr) : Prop where
  makes : PySem.W.makesIn K C = true
  init : PySem.W.findIn K (.ref C) "__init__" = some (some (.ref f))
  fn : PySem.W.isFn K (.ref f) = true
  kp : PySem.W.keepIn K (.ref C) = true

theorem run_make {pins : List (Addr × Obj)} {σ : St} {H : Hp} {s : Shared} {Q : VK} {us : List Value} {vs : List V} (M : Mk X.K C f) (F : FnOk X.prog X.w X.K X.mg X.base CX k f fd ps sp) (hr : Room (k + 1) X.A) (hb : Binds X.K fd ps ds) (hd : Vals dvs ds)
    (hx : Passes CX X E) (I : Inv X pins σ H s) (r : Vals vs us)
    (h : ∀ x dx, H x = none → H dx = none → dx ≠ x → sp (.ref x :: (vs ++ dvs)) (upd (upd H dx (.own x)) x (.ins C dx [])) (fun v H2 => v = .non ∧ Q (.ref x) H2) E) :
    wpAny (model X.prog X.w) X.A (call (.ref C) us) (EP X pins σ Q) X.xe s := by
  have hq := h (s.heap.objs.size + 1) s.heap.objs.size (I.hok.fresh (Nat.le_succ _)) (I.hok.fresh (Nat.le_refl _)) (Nat.ne_of_lt (Nat.lt_succ_self _))
  have I2 := Inv.made (C := C) I
  have r2 : Vals (V.ref (s.heap.objs.size + 1) :: (vs ++ dvs)) (Value.ref (s.heap.objs.size + 1) :: (us ++ ds)) := .cons rfl (r.append hd)
  have hl : (Value.ref (s.heap.objs.size + 1) :: us ++ ds).length = ps.length := by
    have e := r2.length
    rw [F.len _ _ _ _ hq] at e
    exact e.symm
  refine wpAny_call (make_map (f := f) I.kIn M.makes M.init (beq_iff_eq.mp M.fn) (codeAny_mono (F.run _ X.stack _ _ ⟨Value.ref (s.heap.objs.size + 1) :: us, []⟩ (Value.ref (s.heap.objs.size + 1) :: (us ++ ds)) _ _ E (hr.make C us [])
    (I2.env0.make C us []) (hb _ (Value.ref (s.heap.objs.size + 1) :: us) I2.kIn hl) r2 hq) fun r s' hq' => ?_))
  cases r with
  | error e => exact hx pins σ _ _ e s' I2 hq'
  | ok fl =>
    cases fl with
    | ret u =>
      obtain ⟨v, H', I3, rv, ev, q3⟩ := I2.after hq'
      subst ev
      exact ⟨rv, ⟨V.ref (s.heap.objs.size + 1), H', I3, rfl, q3⟩⟩
    | next => exact False.elim hq'
    | brk => exact False.elim hq'
    | cont => exact False.elim hq'
theorem pe_make (M : Mk X.K C f) (F : FnOk X.prog X.w X.K X.mg X.base CX k f fd ps sp) (hr : Room (k + 1) X.A) (hg : Gl X x) (hm : X.mg x = some (.ref C)) (hb : Binds X.K fd ps ds) (hd : Vals dvs ds) (hx : Passes CX X E)
    (ha : PA X (e :: es) t) (hdb : (x == ("__debug__" : Str)) = false := by decide) (he : starEach (e :: es) X.env = (false, eval e X.env) :: starEach es X.env := by rfl) (hpl : (backTo pos (starEach es X.env)).any (·.1) = false := by rfl) :
    PE X (.Call (.Name x p) (e :: es) [] pos) (tMake C sp dvs E t) := by
  intro pins s σ H Q I h
  refine wpAny_Call_Name_kw (ld_glob I hg hm ?_ hdb)
  refine PySem.W.callWith_K (h₀ := X.base) I.ok.mod.kin M.kp (thn (ha pos pins s σ H _ I h) fun us s1 ⟨vs, H1, I1, r, q⟩ => ⟨I1.kIn, ?_⟩) he hpl
  exact run_make M F hr hb hd hx I1 r q
end

section
variable {X : Cx} {CX : CXT} {k : Nat} {f C : Addr} {fd : FuncData} {ps ks : List Str} {sp : Sp} {E : XK} {x m : Str} {p pos apos kpos : Pos} {e o : Expr} {es : List Expr} {kws : List Keyword} {te ta : TE} {t tk : TA} {nm : Option Str}
variable {g : List Value → List Value → List Value} {gV : List V → List V → List V}
end

/-- names: the parameters first -/
structure FnScope (N P : List Str) (sc : Scope) : Prop where
  kind : sc.kind = .function
  co : sc.isCoroutine = false
  gen : sc.isGenerator = false
  nd : N.Nodup
  pre : N.take P.length = P
  par : ∀ x ∈ P, sc.names.lookup x = some .local ∨ sc.names.lookup x = some .cell
  nofree : ∀ y ∈ sc.names, y.2 ≠ .free

theorem bindL_out {kindOf : Str → Option NameKind} {x : Str} : ∀ {binds : List (Str × Value)} {m : Str → Option Value}, (∀ v, (x, v) ∉ binds) → bindL kindOf binds m x = m x
  | [], _, _ => rfl
  | (n, v) :: r, m, h => by
    unfold bindL
    rw [bindL_out fun w hw => h w (List.mem_cons_of_mem _ hw)]
    split
    · have : x ≠ n := by rintro rfl; exact h v List.mem_cons_self
      simp [this]
    · rfl
theorem bindC_out {kindOf : Str → Option NameKind} {x : Str} : ∀ {binds : List (Str × Value)} {m : Str → Option Value}, (∀ v, (x, v) ∉ binds) → bindC kindOf binds m x = m x
  | [], _, _ => rfl
  | (n, v) :: r, m, h => by
    unfold bindC
    rw [bindC_out fun w hw => h w (List.mem_cons_of_mem _ hw)]
    split
    · rfl
    · have : x ≠ n := by rintro rfl; exact h v List.mem_cons_self
      simp [this]
theorem bindL_get {kindOf : Str → Option NameKind} {x : Str} {v : Value} : ∀ {P : List Str} {vs : List Value} {i : Nat} {m : Str → Option Value}, P.Nodup → P[i]? = some x → vs[i]? = some v → kindOf x = some .local →
    bindL kindOf (P.zip vs) m x = some v
  | [], _, _, _, _, h, _, _ => by simp at h
  | _ :: _, [], _, _, _, _, h, _ => by simp at h
  | p :: P, w :: vs, 0, m, nd, h1, h2, hk => by
    simp at h1 h2; subst h1; subst h2
    show bindL kindOf ((p, w) :: P.zip vs) m p = _
    unfold bindL
    rw [bindL_out fun v hv => (List.nodup_cons.mp nd).1 (List.of_mem_zip hv).1, if_pos hk]
    simp
  | p :: P, w :: vs, i + 1, m, nd, h1, h2, hk => by
    show bindL kindOf ((p, w) :: P.zip vs) m x = _
    unfold bindL
    exact bindL_get (i := i) (List.nodup_cons.mp nd).2 (by simpa using h1) (by simpa using h2) hk
theorem bindC_get {kindOf : Str → Option NameKind} {x : Str} {v : Value} : ∀ {P : List Str} {vs : List Value} {i : Nat} {m : Str → Option Value}, P.Nodup → P[i]? = some x → vs[i]? = some v → kindOf x ≠ some .local →
    bindC kindOf (P.zip vs) m x = some v
  | [], _, _, _, _, h, _, _ => by simp at h
  | _ :: _, [], _, _, _, _, h, _ => by simp at h
  | p :: P, w :: vs, 0, m, nd, h1, h2, hk => by
    simp at h1 h2; subst h1; subst h2
    show bindC kindOf ((p, w) :: P.zip vs) m p = _
    unfold bindC
    rw [bindC_out fun v hv => (List.nodup_cons.mp nd).1 (List.of_mem_zip hv).1, if_neg hk]
    simp
  | p :: P, w :: vs, i + 1, m, nd, h1, h2, hk => by
    show bindC kindOf ((p, w) :: P.zip vs) m x = _
    unfold bindC
    exact bindC_get (i := i) (List.nodup_cons.mp nd).2 (by simpa using h1) (by simpa using h2) hk

/-- the names' values at the entry -/
def start (N : List Str) (vs : List V) : St := vs.map some ++ List.replicate (N.length - vs.length) none

/-- the context of a def's body, at its entry; an exception leaves the frame, then lies as CX says -/
def cxOf (CX : CXT) (P : Program) (w : World) (K : PySem.W.Frag) (mg : Str → Option Value) (base : Heap) (N : List Str) (qual : Str) (scope : Scope) (f : Addr) (cd : Value) (A : Around) (outer : List Env) (s : Shared) (H : Hp) (E : XK) : Cx where
  prog := P
  w := w
  K := K
  mg := mg
  base := base
  A := A.deeper (envOfC qual scope s.heap.objs.size f cd)
  N := N
  s₀ := s
  H₀ := H
  env := envOfC qual scope s.heap.objs.size f cd
  outer := outer
  stack := envOfC qual scope s.heap.objs.size f cd :: outer
  ex := []
  calm := true
  fn := fun _ => true
  pn := []
  xe := fun e s' => wpAny (model P w) (A.deeper (envOfC qual scope s.heap.objs.size f cd)) (leaving (envOfC qual scope s.heap.objs.size f cd) e) (fun _ s'' => CX outer H s E e s'') (fun e' s'' => CX outer H s E e' s'') s'

theorem cell_has {sc : Scope} {n : Nat} {x : Str} (h : sc.names.lookup x = some .cell) : ∃ c, (cellsFrom n sc.names []).lookup x = some c := by
  have q := PySem.W.cellsFrom_some sc.names n [] (.inl h)
  exact Option.isSome_iff_exists.mp q

theorem inv_start {CX : CXT} {P : Program} {w : World} {K : PySem.W.Frag} {mg : Str → Option Value} {base : Heap} {N ps : List Str} {qual : Str} {scope : Scope} {f : Addr} {cd : Value} {A : Around} {outer : List Env} {s s1 : Shared} {H : Hp} {E : XK} {us : List Value} {vs : List V}
    (S : FnScope N ps scope) (hd : A.handled = none) (e0 : Env0 P w K mg base A outer s H) (hl : vs.length = ps.length) (r : Vals vs us)
    (x : InCallC s s.heap.objs.size (bindL (envOfC qual scope s.heap.objs.size f cd).kindOf (ps.zip us) fun _ => none) (cellsFrom (s.heap.objs.size + 1) scope.names []) (bindC (envOfC qual scope s.heap.objs.size f cd).kindOf (ps.zip us) fun _ => none) s1) :
    Inv (cxOf CX P w K mg base N qual scope f cd A outer s H E) [] (start N vs) H s1 := by
  have hpl : ps.length ≤ N.length := by have := congrArg List.length S.pre; rw [List.length_take] at this; omega
  obtain ⟨h1, tk, rfl, hk⟩ := x.done
  have noA : ∀ b : Addr, b ∉ (cxOf CX P w K mg base N qual scope f cd A outer s H E).ex := fun b z => absurd (show b ∈ ([] : List Addr) from z) (by simp)
  refine ⟨⟨e0.mod, S.kind, rfl, rfl, Nat.le_refl _, fun y z c h1 h2 => ?_, fun y hy => ?_, fun y c _ h => ?_, fun _ => hd, Around.frames_deeper e0.frames, .inr ⟨rfl, rfl⟩, fun b z => absurd z (noA b), e0.bs, e0.bsz, fun b _ _ => noA b, fun b z => absurd z (noA b), e0.funs, e0.frf⟩,
    rfl, e0.bare, Un.kept hk, ⟨_, x.toInCall.ns, fun i y v h1 h2 h3 => ?_⟩, fun y c h => ⟨_, x.cell y c h⟩, e0.hok.fresh (Nat.le_refl _), fun y c h => ?_, fun p hp => absurd (show p ∈ ([] : List (Addr × Obj)) from hp) (by simp), e0.hok.kept hk, ?_⟩
  · exact name_of_addr x.apart (PySem.mem_of_lookup h1) (PySem.mem_of_lookup h2)
  · have hy : scope.names.lookup y = some .cell ∨ scope.names.lookup y = some .free := hy
    rcases hy with hy | hy
    · exact cell_has hy
    · exact absurd rfl (S.nofree _ (PySem.mem_of_lookup hy))
  · exact Nat.le_of_lt (x.above y c (PySem.mem_of_lookup h))
  · have hi : i < vs.length := by
      unfold start at h2
      by_cases hi : i < vs.length
      · exact hi
      · rw [List.getElem?_append_right (by simpa using hi)] at h2
        rw [List.getElem?_replicate] at h2
        split at h2 <;> cases h2
    have ha : vs[i]? = some v := by
      unfold start at h2
      rw [List.getElem?_append_left (by simpa using hi), List.getElem?_map] at h2
      cases e : vs[i]? with
      | none => rw [e] at h2; cases h2
      | some a => rw [e] at h2; cases h2; rfl
    obtain ⟨u, hu, rv⟩ := r.get ha
    have hp : ps[i]? = some y := by
      rw [← S.pre, List.getElem?_take_of_lt (by omega)]; exact h1
    have ndP : ps.Nodup := by rw [← S.pre]; exact S.nd.sublist (List.take_sublist _ _)
    refine ⟨u, rv, ?_⟩
    rcases S.par y (List.mem_of_getElem? hp) with k | k
    · exact .inl ⟨k, bindL_get ndP hp hu k⟩
    · obtain ⟨c, e⟩ := cell_has (n := s.heap.objs.size + 1) k
      refine .inr ⟨.inl k, c, e, ?_⟩
      have q := x.cell y c e
      rw [bindC_get ndP hp hu (by show scope.names.lookup y ≠ _; rw [k]; decide)] at q
      exact q
  · exact e0.hok.fresh (Nat.le_of_lt (x.above y c (PySem.mem_of_lookup h)))
  · unfold start
    show _ = N.length
    rw [List.length_append, List.length_map, List.length_replicate]
    omega

/-- THE RULE: a def (or a method) of the text, by its body. The body's reading t is chosen for each entry; it is run at the parameters' values -/
theorem fn_of {CX : CXT} {P : Program} {w : World} {K : PySem.W.Frag} {mg : Str → Option Value} {base : Heap} {k : Nat} {f : Addr} {name qual : Str} {params : Arguments} {body : List Stmt} {scope : Scope} {dV kV doc pm cdv ct oc : Value} {an od : Option Addr}
    {osl : Array (Option Value)} {N ps : List Str} {sp : Sp} (lk : K.lookup f = some ⟨oc, od, .func (PySem.W.fnOf name qual params body scope dV kV doc pm an cdv ct), osl⟩) (hcd : PySem.W.codeIn K cdv qual = true) (S : FnScope N ps scope)
    (len : ∀ vs H Q E, sp vs H Q E → vs.length = ps.length)
    (hbody : ∀ (A : Around) (outer : List Env) (s : Shared) (H : Hp) (vs : List V) (Q : VK) (E : XK), Room k (A.deeper (envOfC qual scope s.heap.objs.size f cdv)) → sp vs H Q E →
      ∃ t, PSs (cxOf CX P w K mg base N qual scope f cdv A outer s H E) body t ∧ t { nx := fun _ H' => Q .non H', rt := Q } (start N vs) H) :
    FnOk P w K mg base CX (k + 1) f (PySem.W.fnOf name qual params body scope dV kV doc pm an cdv ct) ps sp := by
  refine ⟨len, fun A outer s H args us vs Q E hr e0 hb r hsp => ?_⟩
  have hl := len _ _ _ _ hsp
  have KX : K.In s.heap := e0.mod.kin.keeps fun b o e => (e0.bs b o e).1
  have lim : s.heap.NoLimit := e0.mod.nolimit.keeps fun b o e => (e0.bs b o e).1
  have hkind : ∀ y ∈ ps.zip us, scope.names.lookup y.1 = some .local ∨ (scope.names.lookup y.1 = some .cell ∧ ((cellsFrom (s.heap.objs.size + 1) scope.names []).lookup y.1).isSome = true) := fun ⟨n, v⟩ hy => by
    rcases S.par n (List.of_mem_zip hy).1 with q | q
    · exact .inl q
    · exact .inr ⟨q, PySem.W.cellsFrom_some _ _ _ (.inl q)⟩
  refine codeAny_call_function hr.depth (KX _ _ lk) rfl S.co S.gen rfl (PySem.W.codeRec_of KX hcd) (hb _ _ _ _ ?_)
  refine wpAny_newFunctionEnv_cells S.kind hkind fun env he s1 x => ?_
  subst he
  refine ⟨lim.keeps x.toInCall.keep, codeAny_func ?_⟩
  obtain ⟨t, ht, hq⟩ := hbody A outer s H vs Q E (hr.deeper _) hsp
  have I : Inv (cxOf CX P w K mg base N qual scope f cdv A outer s H E) [] (start N vs) H s1 := inv_start S hr.hd e0 hl r x
  refine wpAny_mono (ht [] s1 (start N vs) H _ I hq) (fun fl s' hs => ?_) fun e s' hs => hs
  have fin : ∀ {σ' : St} {H' : Hp} {v : V} {u : Value}, Inv (cxOf CX P w K mg base N qual scope f cdv A outer s H E) [] σ' H' s' → RelV v u → Q v H' → CE outer P w H s Q u s' :=
    fun {σ' H' v u} J rv q => ⟨v, H', J.os, J.bare, J.base, J.hok, rv, q⟩
  cases fl with
  | ret u =>
    obtain ⟨v, σ', H', J, rv, q⟩ := hs
    exact fin J rv q
  | next =>
    obtain ⟨σ', H', J, q⟩ := hs
    exact fin (v := V.non) (u := Value.none) J rfl q
  | brk =>
    obtain ⟨_, _, _, q⟩ := hs
    exact False.elim q
  | cont =>
    obtain ⟨_, _, _, q⟩ := hs
    exact False.elim q
end L2

namespace L2
open PySem PySem.Spec PyProof.Rows
section
variable {X : Cx} {x : Str} {p pos : Pos} {e : Expr} {es : List Expr} {t : TA} {id T : String} {r : List V → Hp → VK → Prop}

def tCB (r : List V → Hp → VK → Prop) (t : TA) : TE := fun σ H Q => t σ H fun vs H1 => r vs H1 Q
/-- f(e, ..), f a built-in function -/
theorem pe_callB (hc : CallR X (.builtin id) r) (hg : Gl X x) (hm : X.mg x = none) (hv : bootBuiltins x = some (.builtin id)) (ha : PA X (e :: es) t) (hn : x ≠ "__name__" := by decide) (hdb : (x == ("__debug__" : Str)) = false := by decide)
    (he : starEach (e :: es) X.env = (false, eval e X.env) :: starEach es X.env := by rfl) (hpl : (backTo pos (starEach es X.env)).any (·.1) = false := by rfl) : PE X (.Call (.Name x p) (e :: es) [] pos) (tCB r t) := by
  intro pins s σ H Q I h
  refine wpAny_Call_Name_kw (ld_blt I hg hm hv ?_ hn hdb)
  exact PyProof.Rows.callWith_builtin1 (thn (ha pos pins s σ H _ I h) fun us s1 ⟨vs, H1, I1, r1, q1⟩ => hc pins s1 σ H1 vs us Q I1 r1 q1) he hpl
/-- T(e, ..), T a built-in type -/
theorem pe_callTy (hc : CallR X (.type T) r) (hg : Gl X x) (hm : X.mg x = none) (hv : bootBuiltins x = some (.type T)) (ha : PA X (e :: es) t) (hn : x ≠ "__name__" := by decide) (hdb : (x == ("__debug__" : Str)) = false := by decide)
    (he : starEach (e :: es) X.env = (false, eval e X.env) :: starEach es X.env := by rfl) (hpl : (backTo pos (starEach es X.env)).any (·.1) = false := by rfl) : PE X (.Call (.Name x p) (e :: es) [] pos) (tCB r t) := by
  intro pins s σ H Q I h
  refine wpAny_Call_Name_kw (ld_blt I hg hm hv ?_ hn hdb)
  exact PyProof.Rows.callWith_type1 (thn (ha pos pins s σ H _ I h) fun us s1 ⟨vs, H1, I1, r1, q1⟩ => hc pins s1 σ H1 vs us Q I1 r1 q1) he hpl
end
end L2

namespace HT
open PySem PyProof.Rows

section
open PySem.SeqAt
open PySem.AutoSeq1 (wpAny_loadPart')
open PySem.MeetsSeq PySem.MeetsSeq2 PySem.MeetsSeq3

end

section
variable {prog : Program} {w : World} {A : Around} {E : Value → Shared → Prop} {s : Shared}

/-- a slice's bound as a place among n (d where it is left out) -/
def sIx (n d : Nat) : Option Int → Nat
  | none => d
  | some v => if v < 0 then (v + (n : Int)).toNat else min v.toNat n
theorem sIx_nat (n d k : Nat) : sIx n d (some (k : Int)) = min k n := by
  show (if (k : Int) < 0 then ((k : Int) + (n : Int)).toNat else min (k : Int).toNat n) = min k n
  rw [if_neg (by omega), Int.toNat_natCast]
theorem sIx_le (n d : Nat) (hd : d ≤ n) (o : Option Int) : sIx n d o ≤ n := by
  cases o with
  | none => exact hd
  | some v =>
    show (if v < 0 then (v + (n : Int)).toNat else min v.toNat n) ≤ n
    by_cases hv : v < 0
    · rw [if_pos hv]; omega
    · rw [if_neg hv]; exact Nat.min_le_right _ _
theorem clip_eq (v : Int) (n d : Nat) : (if v < 0 then max (v + (n : Int)) 0 else min v (n : Int)) = ((sIx n d (some v) : Nat) : Int) := by
  show (if v < 0 then max (v + (n : Int)) 0 else min v (n : Int)) = (((if v < 0 then (v + (n : Int)).toNat else min v.toNat n) : Nat) : Int)
  by_cases hv : v < 0
  · simp only [if_pos hv]; omega
  · simp only [if_neg hv]; omega
theorem adjust_gen (lo hi : Option Int) (n : Nat) : Builtin.Slice.sliceAdjust lo hi 1 (n : Int) = (((sIx n 0 lo : Nat) : Int), ((sIx n n hi : Nat) : Int)) := by
  have h1 : ¬ ((1 : Int) < 0) := by omega
  unfold Builtin.Slice.sliceAdjust
  simp only [h1, if_false]
  refine Prod.ext ?_ ?_
  · cases lo with
    | none => rfl
    | some v => exact clip_eq v n 0
  · cases hi with
    | none => rfl
    | some v => exact clip_eq v n n
theorem places_gen (i j : Nat) : Builtin.Slice.slicePlaces (i : Int) (j : Int) 1 = j - i := by
  unfold Builtin.Slice.slicePlaces
  have h1 : (1 : Int) > 0 := by omega
  simp only [h1, if_true, Int.ediv_one]
  split <;> omega
theorem slicePart_ {v : Value} {o : Option Int} {Q : Option Int → Shared → Prop} (p : IsPart v o) (h : Q o s) : wpAny (model prog w) A (Builtin.Slice.slicePartIndex v) Q E s := by
  cases p with
  | none => exact slicePart_none h
  | int i t => exact slicePart_int h
theorem sliceApplied_gen {sl : Addr} {vl vu : Value} {lo hi : Option Int} {n : Nat} {Q : Int × Int × Nat → Shared → Prop} (hs : s.heap.IsSliceOf sl vl vu .none) (pl : IsPart vl lo) (pu : IsPart vu hi)
    (h : Q (((sIx n 0 lo : Nat) : Int), 1, sIx n n hi - sIx n 0 lo) s) : wpAny (model prog w) A (Builtin.Slice.sliceApplied (.ref sl) (pure (n : Int))) Q E s := by
  obtain ⟨os, hos, hcs, hds⟩ := id hs
  unfold Builtin.Slice.sliceApplied Builtin.Slice.sliceFields
  refine wpAny_bind (wpAny_bind (wpAny_field hos hds (x := vl) rfl (wpAny_bind (wpAny_field hos hds (x := vu) rfl (wpAny_bind (wpAny_field hos hds (x := .none) rfl (wpAny_pure ?_)))))))
  refine wpAny_bind (slicePart_none ?_)
  show wpAny _ _ (if ((1 : Int) == 0) = true then _ else _) _ _ s
  rw [if_neg (by decide)]
  refine wpAny_bind (slicePart_ pl (wpAny_bind (slicePart_ pu (wpAny_bind (wpAny_pure ?_)))))
  show wpAny _ _ (match Builtin.Slice.sliceAdjust lo hi 1 (n : Int) with | (lo, hi) => pure (lo, (1 : Int), Builtin.Slice.slicePlaces lo hi 1)) _ _ s
  rw [adjust_gen lo hi n]
  show wpAny _ _ (pure (((sIx n 0 lo : Nat) : Int), (1 : Int), Builtin.Slice.slicePlaces ((sIx n 0 lo : Nat) : Int) ((sIx n n hi : Nat) : Int) 1)) _ _ s
  rw [places_gen]
  exact wpAny_pure h
theorem pick_gen (xs : Array Value) (i k : Nat) : ((List.range k).filterMap fun (m : Nat) => xs[((i : Int) + (m : Int) * 1).toNat]?).toArray = ((xs.toList.drop i).take k).toArray := by
  have e : (fun (m : Nat) => xs[((i : Int) + (m : Int) * 1).toNat]?) = fun m => xs[i + m]? := by
    funext m
    have : ((i : Int) + (m : Int) * 1).toNat = i + m := by omega
    rw [this]
  rw [e]
  have := pick_run xs i k
  rw [List.filterMap_map] at this
  have e2 : ((fun x => xs[x]?) ∘ fun x => i + x) = fun m => xs[i + m]? := rfl
  rw [e2] at this
  rw [this]

theorem getItem_tuple_cut {t sl : Addr} {items : Array Value} {vl vu : Value} {lo hi : Option Int} {Q : Value → Shared → Prop} (ht : IsTup s.heap t items) (hs : s.heap.IsSliceOf sl vl vu .none) (pl : IsPart vl lo) (pu : IsPart vu hi)
    (hw : ¬ (sIx items.size 0 lo = 0 ∧ sIx items.size items.size hi = items.size))
    (h : Q (.ref s.heap.objs.size) { s with heap := s.heap.push { cls := .type "tuple", data := .seq ((items.toList.drop (sIx items.size 0 lo)).take (sIx items.size items.size hi - sIx items.size 0 lo)).toArray } })
    (hsz : items.size ≤ sizeLine) : wpAny (model prog w) A (getItem (.ref t) (.ref sl)) Q E s := by
  have htake : sizeOk (.seq ((items.toList.drop (sIx items.size 0 lo)).take (sIx items.size items.size hi - sIx items.size 0 lo)).toArray) := by
    show ((items.toList.drop (sIx items.size 0 lo)).take (sIx items.size items.size hi - sIx items.size 0 lo)).toArray.size ≤ sizeLine
    rw [List.size_toArray, List.length_take, List.length_drop, Array.length_toList]
    omega
  have hj : sIx items.size items.size hi ≤ items.size := sIx_le _ _ (Nat.le_refl _) hi
  obtain ⟨os, hos, hcs, hds⟩ := id hs
  have hTs : s.TypeIs (.ref sl) "slice" := ⟨os, hos, hcs⟩
  unfold getItem
  try with_reducible refine wpAny_holding ?_
  first | refine wpAny_bind (wpAny_pure ?_) | skip
  refine wpAny_bind (wpAny_sequenceKey ht.typeIs (by decide) ?_)
  refine wpAny_bind (wpAny_callSpecial?_slot (name := Str.ofString "__getitem__") ht.typeIs PyProof.Rows.slot_tuple_getitem
    (wpAny_call_entry PyProof.Rows.slot_tuple_getitem ht.typeIs entry_tuple_getitem ?_ (args_tuple_getitem _ _)))
  show wpAny _ _ (Builtin.Tuple.tupleItemsOf (.ref t) >>= _) _ _ s
  refine wpAny_bind (tupleItemsOf_ ht ?_)
  refine wpAny_bind (wpAny_typeOf hTs ?_)
  rw [if_pos (by decide)]
  refine wpAny_bind (sliceApplied_gen hs pl pu ?_)
  have hno : ¬ ((((sIx items.size 0 lo : Nat) : Int) == 0 && (1 : Int) == 1 && (sIx items.size items.size hi - sIx items.size 0 lo) == items.size) = true) := by
    intro q
    rw [Bool.and_eq_true, Bool.and_eq_true] at q
    have q1 : ((sIx items.size 0 lo : Nat) : Int) = 0 := eq_of_beq q.1.1
    have q2 : sIx items.size items.size hi - sIx items.size 0 lo = items.size := eq_of_beq q.2
    exact hw ⟨by omega, by omega⟩
  show wpAny _ _ (if (((sIx items.size 0 lo : Nat) : Int) == 0 && (1 : Int) == 1 && (sIx items.size items.size hi - sIx items.size 0 lo) == items.size) = true then _ else _) _ _ s
  rw [if_neg hno, pick_gen]
  first
    | exact wpAny_bind (m := Builtin.Tuple.tupleExact _) (wpAny_newObj_type (wpAny_pure ⟨_, rfl, wpAny_pure h⟩) htake)
    | exact wpAny_bind (m := Builtin.Tuple.tupleExact _) (wpAny_newObj_type (wpAny_bind (wpAny_pure (wpAny_pure ⟨_, rfl, wpAny_pure h⟩))) htake)
    | exact wpAny_bind (wpAny_bind (m := Builtin.Tuple.tupleExact _) (wpAny_newObj_type (wpAny_pure (wpAny_pure ⟨_, rfl, wpAny_pure h⟩)) htake))
    | exact wpAny_bind (wpAny_bind (m := Builtin.Tuple.tupleExact _) (wpAny_newObj_type (wpAny_pure ⟨_, rfl, wpAny_pure h⟩) htake))
end
end HT

namespace L2
open PySem PySem.Spec PyProof.Rows

abbrev TO := St → Hp → (Option Int → Hp → Prop) → Prop
/-- a slice's part (left out, or an int) -/
def PO (X : Cx) (e : Option Expr) (t : TO) : Prop :=
  ∀ (pins : List (Addr × Obj)) (s : Shared) (σ : St) (H : Hp) (Q : Option Int → Hp → Prop), Inv X pins σ H s → t σ H Q →
    wpAny (model X.prog X.w) X.A (evalPart e X.env) (fun u s' => ∃ o H', Inv X pins σ H' s' ∧ IsPart u o ∧ Q o H') X.xe s
def tPart (t : TE) : TO := fun σ H Q => t σ H fun x H1 => ∃ i, x = .int i ∧ Q (some i) H1

section
variable {X : Cx} {e : Expr} {te : TE} {lo hi : Option Expr} {tl th : TO} {pos p2 : Pos}

theorem po_some (h : PE X e te) : PO X (some e) (tPart te) := by
  intro pins s σ H Q I hw
  rw [evalPart_some]
  refine thn (h pins s σ H _ I hw) fun u s1 ⟨x, H1, I1, r1, q1⟩ => ?_
  obtain ⟨i, rfl, q⟩ := q1
  obtain ⟨t, rfl⟩ := r1
  exact ⟨some i, H1, I1, .int i t, q⟩

/-- what a slice of a value is, by values: the slice object stands at sl -/
def SlR (X : Cx) (r : V → Option Int → Option Int → Hp → VK → Prop) : Prop :=
  ∀ (pins : List (Addr × Obj)) (s : Shared) (σ : St) (H : Hp) (x : V) (v vl vu : Value) (lo hi : Option Int) (sl : Addr) (Q : VK), Inv X pins σ H s → RelV x v → s.heap.IsSliceOf sl vl vu .none → IsPart vl lo → IsPart vu hi → r x lo hi H Q →
    ∃ T id, typeLookup (.type T) "__getitem__" = pure (some (.builtin id)) ∧ s.TypeIs v T ∧ wpAny (model X.prog X.w) X.A (getItem v (.ref sl)) (EP X pins σ Q) X.xe s
theorem SlR.or {r r' : V → Option Int → Option Int → Hp → VK → Prop} (h : SlR X r) (h' : SlR X r') : SlR X (fun x lo hi H Q => r x lo hi H Q ∨ r' x lo hi H Q) := by
  intro pins s σ H x v vl vu lo hi sl Q I rx hs pl pu q
  rcases q with q | q
  · exact h pins s σ H x v vl vu lo hi sl Q I rx hs pl pu q
  · exact h' pins s σ H x v vl vu lo hi sl Q I rx hs pl pu q
def tSl (r : V → Option Int → Option Int → Hp → VK → Prop) (te : TE) (tl th : TO) : TE := fun σ H Q => te σ H fun x H1 => tl σ H1 fun l H2 => th σ H2 fun u H3 => r x l u H3 Q
/-- a[lo:hi], any a -/
theorem pe_slice {r : V → Option Int → Option Int → Hp → VK → Prop} (hr : SlR X r) (he : PE X e te) (hl : PO X lo tl) (hu : PO X hi th) : PE X (.Subscript e (.Slice lo hi none p2) pos) (tSl r te tl th) := by
  intro pins s σ H Q I h
  refine Subscript_ (thn (he pins s σ H _ I h) fun v s1 ⟨x, H1, I1, r1, q1⟩ => ?_)
  refine wpAny_Slice (thn (hl pins s1 σ H1 _ I1 q1) fun vl s2 ⟨l, H2, I2, pl, q2⟩ => thn (hu pins s2 σ H2 _ I2 q2) fun vu s3 ⟨u, H3, I3, pu, q3⟩ => ?_)
  rw [evalPart_none]
  refine wpAny_pure ?_
  have I4 : Inv X pins σ H3 { s3 with heap := s3.heap.push { cls := .type "slice", data := .fields #[vl, vu, .none] } } := I3.kept (t' := s3.toks) fun b ob q => Heap.get?_push_of_some _ q
  obtain ⟨T, id, hT, ht, hg⟩ := hr pins { s3 with heap := s3.heap.push { cls := .type "slice", data := .fields #[vl, vu, .none] } } σ H3 x v vl vu l u s3.heap.objs.size Q I4 r1 (Heap.IsSliceOf.new ..) pl pu q3
  show wpAny (model X.prog X.w) X.A (subscriptTail e (.Slice lo hi none p2) v (.ref s3.heap.objs.size)) (EP X pins σ Q) X.xe { s3 with heap := s3.heap.push { cls := .type "slice", data := .fields #[vl, vu, .none] } }
  exact tail_any (ops := [.ref s3.heap.objs.size, v]) ht hT hg (by with_unfolding_all rfl)

/-- the items of xs[lo:hi] -/
def cutV (xs : List V) (lo hi : Option Int) : List V := (xs.drop (HT.sIx xs.length 0 lo)).take (HT.sIx xs.length xs.length hi - HT.sIx xs.length 0 lo)
theorem cutV_length (xs : List V) (lo hi : Option Int) : (cutV xs lo hi).length ≤ xs.length := by
  unfold cutV
  rw [List.length_take, List.length_drop]
  omega
/-- t[lo:hi], not the whole of it (the whole would be t itself) -/
def rSlT (K : PySem.W.Frag) : V → Option Int → Option Int → Hp → VK → Prop := fun x lo hi H Q => ∃ a xs, x = .ref a ∧ SqT K H a xs ∧
  ¬ (HT.sIx xs.length 0 lo = 0 ∧ HT.sIx xs.length xs.length hi = xs.length) ∧ ∀ p, H p = none → Q (.ref p) (upd H p (.tup (cutV xs lo hi)))
theorem sl_tup : SlR X (rSlT X.K) := by
  intro pins s σ H x v vl vu lo hi sl Q I rx hs pl pu h
  obtain ⟨a, xs, rfl, hx, hw, q⟩ := h
  cases rx
  obtain ⟨its, r, ht, hz⟩ := I.tuple hx
  have hlen : its.toArray.size = xs.length := by rw [List.size_toArray]; exact r.length.symm
  refine ⟨"tuple", _, PyProof.Rows.slot_tuple_getitem.lookup, ht.typeIs, ?_⟩
  refine HT.getItem_tuple_cut ht hs pl pu (by rw [hlen]; exact hw) ?_ (by rw [hlen]; exact hz)
  rw [hlen]
  refine ⟨.ref s.heap.objs.size, _, I.laid (t' := s.toks) (o := .tup (cutV xs lo hi)) (fun b ob q => Heap.get?_push_of_some _ q) (Nat.le_refl _) ?_, rfl, q _ (I.hok.fresh (Nat.le_refl _))⟩
  exact ⟨Nat.le_trans (cutV_length xs lo hi) hz, _, (r.drop (HT.sIx xs.length 0 lo)).take (HT.sIx xs.length xs.length hi - HT.sIx xs.length 0 lo), IsTup.new _ _⟩

end
end L2

namespace L2
open PySem PySem.Spec PyProof.Rows

/-- the place that an index of any sign means -/
def ixN (n : Nat) (i : Int) : Option Nat := if 0 ≤ i then (if i < n then some i.toNat else none) else if -(n : Int) ≤ i then some (i + n).toNat else none
def atI {α : Type} (xs : List α) (i : Int) : Option α := (ixN xs.length i).bind fun j => xs[j]?
theorem ixN_seq {n : Nat} {i : Int} {j : Nat} (h : ixN n i = some j) : seqIndex? i n = some j ∧ j < n ∧ -(n : Int) ≤ i ∧ i < n := by
  unfold ixN at h
  by_cases h0 : 0 ≤ i
  · rw [if_pos h0] at h
    by_cases h1 : i < n
    · rw [if_pos h1] at h
      have e : i.toNat = j := Option.some.inj h
      exact ⟨by rw [seqIndex_of h0 h1, e], by omega, by omega, h1⟩
    · rw [if_neg h1] at h; cases h
  · rw [if_neg h0] at h
    by_cases h1 : -(n : Int) ≤ i
    · rw [if_pos h1] at h
      have e : (i + n).toNat = j := Option.some.inj h
      exact ⟨by rw [seqIndex_neg (by omega) h1, e], by omega, h1, by omega⟩
    · rw [if_neg h1] at h; cases h
theorem atI_get {α : Type} {xs : List α} {i : Int} {v : α} (h : atI xs i = some v) : ∃ j, seqIndex? i xs.length = some j ∧ xs[j]? = some v ∧ j < xs.length ∧ -(xs.length : Int) ≤ i ∧ i < xs.length := by
  unfold atI at h
  cases e : ixN xs.length i with
  | none => rw [e] at h; cases h
  | some j =>
    rw [e] at h
    obtain ⟨h1, h2, h3, h4⟩ := ixN_seq e
    exact ⟨j, h1, h, h2, h3, h4⟩
theorem atI_nat {α : Type} {xs : List α} {j : Nat} {v : α} (h : xs[j]? = some v) : atI xs (j : Int) = some v := by
  have hj : j < xs.length := (List.getElem?_eq_some_iff.mp h).1
  have e : ixN xs.length (j : Int) = some j := by
    unfold ixN
    rw [if_pos (by omega), if_pos (by omega)]; simp
  unfold atI; rw [e]; exact h
/-- what stands as an index of a plain subscript -/
def PlainIx (b : Expr) : Prop := ∀ o i, subscripted b false o i = operate [o, i] (getItem o i)
/-- a subscript by values -/
def IxR (X : Cx) (r : R2) : Prop :=
  ∀ (value slice : Expr) (pins : List (Addr × Obj)) (s : Shared) (σ : St) (H : Hp) (x y : V) (v u : Value) (Q : VK), Inv X pins σ H s → RelV x v → RelV y u → r x y H Q →
    subscripted slice false v u = operate [v, u] (getItem v u) → wpAny (model X.prog X.w) X.A (subscriptTail value slice v u) (EP X pins σ Q) X.xe s
/-- a call of a builtin's method by values: the receiver, the arguments -/
def MtR (X : Cx) (id : String) (r : V → List V → Hp → VK → Prop) : Prop :=
  ∀ (pins : List (Addr × Obj)) (s : Shared) (σ : St) (H : Hp) (x : V) (xs : List V) (v : Value) (us : List Value) (Q : VK), Inv X pins σ H s → RelV x v → Vals xs us → r x xs H Q →
    wpAny (model X.prog X.w) X.A (call (.builtin id) (v :: us)) (EP X pins σ Q) X.xe s
section
variable {X : Cx} {a b : Expr} {ta tb : TE} {pos : Pos}
theorem IxR.or {r r' : R2} (h : IxR X r) (h' : IxR X r') : IxR X (fun x y H Q => r x y H Q ∨ r' x y H Q) := by
  intro value slice pins s σ H x y v u Q I rx ry q hs
  rcases q with q | q
  · exact h value slice pins s σ H x y v u Q I rx ry q hs
  · exact h' value slice pins s σ H x y v u Q I rx ry q hs
/-- a[b] -/
theorem pe_ix {r : R2} (hr : IxR X r) (ha : PE X a ta) (hb : PE X b tb) (hs : PlainIx b) : PE X (.Subscript a b pos) (tOp r ta tb) := by
  intro pins s σ H Q I h
  exact Subscript_ (binT ha hb I h fun v u s2 x y H2 I2 rx ry q => hr a b pins s2 σ H2 x y v u Q I2 rx ry q (hs _ _))

def rIxL (K : PySem.W.Frag) : R2 := fun x y H Q => ∃ p xs i v, x = .ref p ∧ y = .int i ∧ SqL K H p xs ∧ atI xs i = some v ∧ Q v H
def rIxT (K : PySem.W.Frag) : R2 := fun x y H Q => ∃ p xs i v, x = .ref p ∧ y = .int i ∧ SqT K H p xs ∧ atI xs i = some v ∧ Q v H
def rIxS : R2 := fun x y H Q => ∃ z i c, x = .str z ∧ y = .int i ∧ z.length ≤ sizeLine ∧ atI z.cps.toList i = some c ∧ Q (.str ⟨#[c]⟩) H
theorem ix_list : IxR X (rIxL X.K) := by
  intro value slice pins s σ H x y v u Q I rx ry h hs
  obtain ⟨p, xs, i, z, rfl, rfl, hq, he, q⟩ := h
  cases rx
  obtain ⟨t, rfl⟩ := ry
  obtain ⟨its, r, pl, hz⟩ := I.list hq
  obtain ⟨j, h1, h2, h3, h4, h5⟩ := atI_get he
  obtain ⟨w, ew, rw'⟩ := r.get h2
  have hl := r.length
  have hn := line63
  have fin : EP X pins σ Q w s := ⟨z, H, I, rw', q⟩
  by_cases h0 : 0 ≤ i
  · have hj : i.toNat = j := by
      rw [seqIndex_of h0 h5] at h1
      exact Option.some.inj h1
    exact item_listR pl.isList h0 (by omega) (by rw [hj]; simpa using ew) fin hs
  · have hj : (i + (its.toArray.size : Int)).toNat = j := by
      rw [seqIndex_neg (by omega) h4] at h1
      rw [List.size_toArray, ← hl]
      exact Option.some.inj h1
    exact subscriptTail_builtinR (x := w) pl.isList.typeIs slot_list_getitem.lookup
      (wpAny_getItem_list_neg (Q := fun r s' => r = w ∧ EP X pins σ Q r s') pl.isList (by omega) (by rw [List.size_toArray] <;> omega) (by omega) (by rw [hj]; simpa using ew) ⟨rfl, fin⟩) hs
theorem ix_tup : IxR X (rIxT X.K) := by
  intro value slice pins s σ H x y v u Q I rx ry h hs
  obtain ⟨p, xs, i, z, rfl, rfl, hq, he, q⟩ := h
  cases rx
  obtain ⟨t, rfl⟩ := ry
  obtain ⟨its, r, pl, hz⟩ := I.tuple hq
  obtain ⟨j, h1, h2, h3, h4, h5⟩ := atI_get he
  obtain ⟨w, ew, rw'⟩ := r.get h2
  have hl := r.length
  have hn := line63
  have fin : EP X pins σ Q w s := ⟨z, H, I, rw', q⟩
  exact subscriptTail_builtinR (x := w) pl.typeIs slot_tuple_getitem.lookup
    (getItem_tuple (j := j) (Q := fun r s' => r = w ∧ EP X pins σ Q r s') pl (by omega) (by omega) (by rw [List.size_toArray, ← hl]; exact h1) (by simpa using ew) ⟨rfl, fin⟩) hs
theorem ix_str : IxR X rIxS := by
  intro value slice pins s σ H x y v u Q I rx ry h hs
  obtain ⟨z, i, c, rfl, rfl, hz, he, q⟩ := h
  obtain ⟨t, rfl⟩ := rx
  obtain ⟨t', rfl⟩ := ry
  obtain ⟨j, h1, h2, h3, h4, h5⟩ := atI_get he
  have hl : z.cps.toList.length = z.length := by simp [Str.length]
  rw [hl] at h1 h4 h5
  have hn := line63
  exact tail_any (typeIs_str s z t) slot_str_getitem.lookup (getItem_str (c := c) (by
    have e1 : decide (i < -(2 ^ 63 : Int)) = false := decide_eq_false (by omega)
    have e2 : decide (i ≥ 2 ^ 63) = false := decide_eq_false (by omega)
    rw [e1, e2, Bool.or_false]) (by rw [h1]; simpa using h2) ⟨.str ⟨#[c]⟩, H, I.tok _, ⟨_, rfl⟩, q⟩) hs
/-- list, tuple or str -/
def rIx (K : PySem.W.Frag) : R2 := fun x y H Q => rIxL K x y H Q ∨ rIxT K x y H Q ∨ rIxS x y H Q
theorem ix_seq : IxR X (rIx X.K) := ix_list.or (ix_tup.or ix_str)

theorem slice_bounds (lo hi : Option Int) (n : Nat) : (sliceBounds lo hi none n).1 = ((HT.sIx n 0 lo : Nat) : Int) ∧ (sliceBounds lo hi none n).2.1 = ((HT.sIx n n hi : Nat) : Int) ∧ (sliceBounds lo hi none n).2.2 = 1 := by
  refine ⟨?_, ?_, rfl⟩
  · cases lo with
    | none => simp [sliceBounds, HT.sIx]
    | some i =>
      simp only [sliceBounds, HT.sIx, Option.getD_none, show (1 : Int) > 0 by decide, if_true]
      by_cases h : i < 0
      · simp only [h, if_true] <;> omega
      · simp only [h, if_false] <;> omega
  · cases hi with
    | none => simp [sliceBounds, HT.sIx]
    | some i =>
      simp only [sliceBounds, HT.sIx, Option.getD_none, show (1 : Int) > 0 by decide, if_true]
      by_cases h : i < 0
      · simp only [h, if_true] <;> omega
      · simp only [h, if_false] <;> omega
theorem slicePick_cut (its : List Value) (lo hi : Option Int) : slicePick its.toArray lo hi none = ((its.drop (HT.sIx its.length 0 lo)).take (HT.sIx its.length its.length hi - HT.sIx its.length 0 lo)).toArray := by
  obtain ⟨h1, h2, h3⟩ := slice_bounds lo hi its.toArray.size
  unfold slicePick
  rw [h1, h2, h3]
  simp only [sliceRange_one, pick_run, List.size_toArray] <;> rfl
/-- xs[lo:hi] of a list: a new list -/
def rSlL (K : PySem.W.Frag) : V → Option Int → Option Int → Hp → VK → Prop := fun x lo hi H Q => ∃ a xs, x = .ref a ∧ SqL K H a xs ∧ ∀ p, H p = none → Q (.ref p) (upd H p (.lst (cutV xs lo hi)))
theorem sl_list : SlR X (rSlL X.K) := by
  intro pins s σ H x v vl vu lo hi sl Q I rx hs pl pu h
  obtain ⟨a, xs, rfl, hx, q⟩ := h
  cases rx
  obtain ⟨its, r, ht, hz⟩ := I.list hx
  have hlen := r.length
  refine ⟨"list", _, slot_list_getitem.lookup, ht.isList.typeIs, ?_⟩
  refine wpAny_getItem_list_slice ht.isList hs pl pu .none (by simp) ?_ (by rw [List.size_toArray] <;> omega)
  rw [slicePick_cut, ← hlen]
  refine ⟨.ref s.heap.objs.size, _, I.laid (t' := s.toks) (o := .lst (cutV xs lo hi)) (fun b ob q => Heap.get?_push_of_some _ q) (Nat.le_refl _) ?_, rfl, q _ (I.hok.fresh (Nat.le_refl _))⟩
  exact ⟨Nat.le_trans (cutV_length xs lo hi) hz, _, 0, (r.drop (HT.sIx xs.length 0 lo)).take (HT.sIx xs.length xs.length hi - HT.sIx xs.length 0 lo), Heap.get?_push_size _ rfl⟩

def flatV : V → Bool
  | .non => true
  | .bl _ => true
  | .int _ => true
  | .str _ => true
  | _ => false
/-- == of flat values -/
def eqV : V → V → Bool
  | .non, .non => true
  | .bl a, .bl b => a == b
  | .bl a, .int b => (if a then 1 else 0) == b
  | .int a, .bl b => a == (if b then 1 else 0)
  | .int a, .int b => a == b
  | .str a, .str b => a == b
  | _, _ => false
theorem eqAt_V {A : Around} {s : Shared} {y x : V} {u v : Value} (ry : RelV y u) (rx : RelV x v) (fy : flatV y = true) (fx : flatV x = true) : SeqAt.EqAt A s u v (eqV y x) := by
  cases y with
  | non =>
    cases ry
    cases x with
    | non => cases rx; exact SeqAt.EqAt.same _
    | bl b => cases rx; exact SeqAt.EqAt.none_bool b
    | int b => obtain ⟨t, rfl⟩ := rx; exact SeqAt.EqAt.none_int b t
    | str b => obtain ⟨t, rfl⟩ := rx; exact SeqAt.EqAt.none_str b t
    | _ => exact absurd (show false = true from fx) Bool.false_ne_true
  | bl a =>
    cases ry
    cases x with
    | non => cases rx; exact SeqAt.EqAt.bool_none a
    | bl b => cases rx; exact SeqAt.EqAt.bool_bool a b
    | int b => obtain ⟨t, rfl⟩ := rx; exact SeqAt.EqAt.bool_int a b t
    | str b => obtain ⟨t, rfl⟩ := rx; exact SeqAt.EqAt.bool_str a b t
    | _ => exact absurd (show false = true from fx) Bool.false_ne_true
  | int a =>
    obtain ⟨t', rfl⟩ := ry
    cases x with
    | non => cases rx; exact SeqAt.EqAt.int_none a t'
    | bl b => cases rx; exact SeqAt.EqAt.int_bool a t' b
    | int b => obtain ⟨t, rfl⟩ := rx; exact SeqAt.EqAt.int_int a t' b t
    | str b => obtain ⟨t, rfl⟩ := rx; exact SeqAt.EqAt.int_str a t' b t
    | _ => exact absurd (show false = true from fx) Bool.false_ne_true
  | str a =>
    obtain ⟨t', rfl⟩ := ry
    cases x with
    | non => cases rx; exact SeqAt.EqAt.str_none a t'
    | bl b => cases rx; exact SeqAt.EqAt.str_bool a t' b
    | int b => obtain ⟨t, rfl⟩ := rx; exact SeqAt.EqAt.str_int a t' b t
    | str b => obtain ⟨t, rfl⟩ := rx; exact SeqAt.EqAt.str_str a t' b t
    | _ => exact absurd (show false = true from fx) Bool.false_ne_true
  | _ => exact absurd (show false = true from fy) Bool.false_ne_true
/-- the items' answers, read off the values (a value's own answer does not lean on its token) -/
def eqU (x : V) (u : Value) : Bool := match u with
  | .none => eqV .non x
  | .bool b => eqV (.bl b) x
  | .int i _ => eqV (.int i) x
  | .str z _ => eqV (.str z) x
  | _ => false
theorem eqU_of {x y : V} {u : Value} (r : RelV y u) (f : flatV y = true) : eqU x u = eqV y x := by
  cases y with
  | non => cases r; rfl
  | bl b => cases r; rfl
  | int i => obtain ⟨t, rfl⟩ := r; rfl
  | str z => obtain ⟨t, rfl⟩ := r; rfl
  | _ => exact absurd (show false = true from f) Bool.false_ne_true
theorem any_eqU {x : V} : ∀ {xs : List V} {us : List Value}, Vals xs us → xs.all flatV = true → us.any (eqU x) = xs.any fun y => eqV y x
  | _, _, .nil, _ => rfl
  | y :: xs, u :: us, .cons r t, f => by
    rw [List.all_cons, Bool.and_eq_true] at f
    rw [List.any_cons, List.any_cons, eqU_of r f.1, any_eqU t f.2]
theorem mem_eqAt {A : Around} {s : Shared} {x : V} {v : Value} (rx : RelV x v) (fx : flatV x = true) : ∀ {xs : List V} {us : List Value}, Vals xs us → xs.all flatV = true → ∀ u ∈ us, SeqAt.EqAt A s u v (eqU x u)
  | _, _, .nil, _ => fun u hu => by cases hu
  | y :: xs, u :: us, .cons r t, f => fun u' hu => by
    rw [List.all_cons, Bool.and_eq_true] at f
    rcases List.mem_cons.mp hu with rfl | hu
    · rw [eqU_of r f.1]; exact eqAt_V r rx f.1 fx
    · exact mem_eqAt rx fx t f.2 u' hu
def inV (x : V) (xs : List V) : Bool := xs.any fun y => eqV y x
/-- x in a list or tuple of flat items -/
def rIn (K : PySem.W.Frag) (neg : Bool) : R2 := fun x y H Q => ∃ p xs, y = .ref p ∧ (SqL K H p xs ∨ SqT K H p xs) ∧ flatV x = true ∧ xs.all flatV = true ∧ Q (.bl (if neg then !inV x xs else inV x xs)) H
theorem op_in_seq : OpR X (compareOp .In) (rIn X.K false) := by
  intro pins s σ H x y v u Q I rx ry h
  obtain ⟨p, xs, rfl, hq, fx, fs, q⟩ := h
  cases ry
  rcases hq with hq | hq
  · obtain ⟨its, r, pl, hz⟩ := I.list hq
    refine SeqAt.in_listAt (eqU x) pl.isList (fun w hw => mem_eqAt rx fx r fs w (by simpa using hw)) ⟨.bl _, H, I, rfl, ?_⟩
    rw [show its.toArray.any (eqU x) = its.any (eqU x) by simp, any_eqU r fs]
    exact q
  · obtain ⟨its, r, pl, hz⟩ := I.tuple hq
    refine SeqAt.in_tupleAt (eqU x) pl (fun w hw => mem_eqAt rx fx r fs w (by simpa using hw)) ⟨.bl _, H, I, rfl, ?_⟩
    rw [show its.toArray.any (eqU x) = its.any (eqU x) by simp, any_eqU r fs]
    exact q
theorem call_list_of : CallR X (.type "list") (fun xs H Q => ∃ p ys, xs = [.ref p] ∧ (SqL X.K H p ys ∨ SqT X.K H p ys) ∧ ∀ l, H l = none → Q (.ref l) (upd H l (.lst ys))) := by
  intro pins s σ H xs us Q I r h
  obtain ⟨p, ys, rfl, hq, q⟩ := h
  obtain ⟨u, rfl, rx⟩ := vals1 r
  cases rx
  have fin : ∀ (its : List Value), Vals ys its → ys.length ≤ sizeLine → ∀ (h' : Heap) (c' : Nat), (∀ b o', s.heap.get? b = some o' → h'.get? b = some o') →
      h'.get? s.heap.objs.size = some { cls := .type "list", dict := none, data := .seq its.toArray c', slots := #[] } → EP X pins σ Q (.ref s.heap.objs.size) { s with heap := h' } := fun its r' hz h' c' kp e =>
    ⟨.ref s.heap.objs.size, _, I.laid (t' := s.toks) kp (Nat.le_refl _) (show ObjOk X.prog X.w _ h' _ (.lst ys) from ⟨hz, its, c', r', e⟩), rfl, q _ (I.hok.fresh (Nat.le_refl _))⟩
  rcases hq with hq | hq
  · obtain ⟨its, r', pl, hz⟩ := I.list hq
    have hlen := r'.length
    obtain ⟨o, ho, hc, n, hd⟩ := pl.isList
    exact call_list_seq p (.inl rfl) ho hc hd (fun h' c' kp e => fin its r' hz h' c' kp e) (by simp only [List.size_toArray] <;> omega)
  · obtain ⟨its, r', pl, hz⟩ := I.tuple hq
    have hlen := r'.length
    obtain ⟨o, ho, hc, n, hd⟩ := pl
    exact call_list_seq p (.inr rfl) ho hc hd (fun h' c' kp e => fin its r' hz h' c' kp e) (by simp only [List.size_toArray] <;> omega)
theorem call_tuple_of : CallR X (.type "tuple") (fun xs H Q => ∃ p ys, xs = [.ref p] ∧ ((SqL X.K H p ys ∧ ∀ l, H l = none → Q (.ref l) (upd H l (.tup ys))) ∨ (SqT X.K H p ys ∧ Q (.ref p) H))) := by
  intro pins s σ H xs us Q I r h
  obtain ⟨p, ys, rfl, h⟩ := h
  obtain ⟨u, rfl, rx⟩ := vals1 r
  cases rx
  rcases h with ⟨hq, q⟩ | ⟨hq, q⟩
  · obtain ⟨its, r', pl, hz⟩ := I.list hq
    have hlen := r'.length
    refine call_tuple_list pl.isList (fun h' kp => ?_) (by simp only [List.size_toArray] <;> omega)
    have I1 : Inv X pins σ H { s with heap := h' } := I.kept (t' := s.toks) kp
    have I2 : Inv X pins σ (upd H h'.objs.size (.tup ys)) { s with heap := h'.push { cls := .type "tuple", data := .seq its.toArray } } :=
      I1.laid (t' := s.toks) (fun b o e => Heap.get?_push_of_some _ e) (Nat.le_refl _) (show ObjOk X.prog X.w _ _ _ (.tup ys) from ⟨hz, its, r', IsTup.new _ _⟩)
    exact ⟨.ref h'.objs.size, _, I2, rfl, q _ (I1.hok.fresh (Nat.le_refl _))⟩
  · obtain ⟨its, r', pl, hz⟩ := I.tuple hq
    exact call_tuple_same pl ⟨.ref p, H, I, rfl, q⟩

/-- the value is of that builtin type -/
def tyV (K : PySem.W.Frag) (T : String) (x : V) (H : Hp) : Prop := match x with
  | .str _ => T = "str"
  | .int _ => T = "int"
  | .ref p => (T = "list" ∧ ∃ xs, SqL K H p xs) ∨ (T = "tuple" ∧ ∃ o, K.lookup p = some o ∧ o.cls = .type "tuple" ∧ o.dict = none) ∨
      (T = "dict" ∧ ((∃ kvs, H p = some (.dK kvs)) ∨ ∃ kvs, H p = some (.dT kvs))) ∨ (T = "set" ∧ ∃ S n, H p = some (.set S n))
  | _ => False
theorem tyV_is {pins : List (Addr × Obj)} {σ : St} {H : Hp} {s : Shared} {T : String} {x : V} {v : Value} (I : Inv X pins σ H s) (r : RelV x v) (ty : tyV X.K T x H) :
    s.TypeIs v T ∧ ∀ a, v = .ref a → ∃ ob, s.heap.get? a = some ob ∧ ob.dict = none := by
  cases x with
  | str z =>
    obtain ⟨t, rfl⟩ := r
    cases (show T = "str" from ty)
    exact ⟨typeIs_str s z t, fun _ e => nomatch e⟩
  | int i =>
    obtain ⟨t, rfl⟩ := r
    cases (show T = "int" from ty)
    exact ⟨typeIs_int s i t, fun _ e => nomatch e⟩
  | ref p =>
    cases r
    rcases ty with ⟨rfl, xs, hq⟩ | ⟨rfl, o, hk, hc, hd⟩ | ⟨rfl, hk⟩ | ⟨rfl, S, n, hk⟩
    · obtain ⟨its, _, pl, _⟩ := I.list hq
      refine ⟨pl.isList.typeIs, fun a e => ?_⟩
      cases e
      obtain ⟨o, n, e, c, hd, _⟩ := pl
      exact ⟨o, e, hd⟩
    · refine ⟨⟨o, I.kIn p o hk, hc⟩, fun a e => ?_⟩
      cases e
      exact ⟨o, I.kIn _ o hk, hd⟩
    · have z : ∃ o, s.heap.get? p = some o ∧ o.ExactDict := by
        rcases hk with ⟨kvs, hk⟩ | ⟨kvs, hk⟩
        · obtain ⟨_, _, _, _, o, _, _, e, ex, _⟩ := I.hok p _ hk
          exact ⟨o, e, ex⟩
        · obtain ⟨_, _, _, _, o, _, _, e, ex, _⟩ := I.hok p _ hk
          exact ⟨o, e, ex⟩
      obtain ⟨o, e, ex⟩ := z
      refine ⟨⟨o, e, ex.1⟩, fun a e2 => ?_⟩
      cases e2
      exact ⟨o, e, ex.2.1⟩
    · obtain ⟨o, _, _, _, e, ex, _⟩ := I.hok p _ hk
      refine ⟨⟨o, e, ex.1⟩, fun a e2 => ?_⟩
      cases e2
      exact ⟨o, e, ex.2.1⟩
  | _ => exact False.elim ty
def tBM0 (K : PySem.W.Frag) (T : String) (r : V → List V → Hp → VK → Prop) (to : TE) : TE := fun σ H Q => to σ H fun x H1 => tyV K T x H1 ∧ r x [] H1 Q
def tBM (K : PySem.W.Frag) (T : String) (r : V → List V → Hp → VK → Prop) (to : TE) (t : TA) : TE := fun σ H Q => to σ H fun x H1 => tyV K T x H1 ∧ t σ H1 fun xs H2 => r x xs H2 Q
variable {o e : Expr} {es : List Expr} {to : TE} {t : TA} {name : Str} {apos cpos : Pos} {T id : String} {r : V → List V → Hp → VK → Prop}
theorem pe_bm0 (pa : PlainAttrs T) (slot : Slot T name id) (hty : typeOf (.builtin id) = pure (.type "method_descriptor")) (hm : MtR X id r) (ho : PE X o to)
    (hbase : attributeBase o name X.env (eval o X.env) = eval o X.env := by rfl) (hline : (apos.endLine == cpos.line) = true := by rfl) : PE X (.Call (.Attribute o name apos) [] [] cpos) (tBM0 X.K T r to) := by
  intro pins s σ H Q I h
  refine wpAny_Call_method0_late hbase hline (thn (ho pins s σ H _ I h) fun v s1 ⟨x, H1, I1, r1, ty, q1⟩ => ?_)
  obtain ⟨h1, h2⟩ := tyV_is I1 r1 ty
  exact ⟨T, id, pa, slot, hty, h1, h2, Calls.callWith_builtin rfl (PySem.evalArgs_none (hm pins s1 σ H1 x [] v [] Q I1 r1 .nil q1))⟩
theorem pe_bm (pa : PlainAttrs T) (slot : Slot T name id) (hty : typeOf (.builtin id) = pure (.type "method_descriptor")) (hm : MtR X id r) (ho : PE X o to) (ha : PA X (e :: es) t)
    (hbase : attributeBase o name X.env (eval o X.env) = eval o X.env := by rfl)
    (hfew : ((backTo cpos (starEach (e :: es) X.env)).all (fun x => !x.1) && (backToKw cpos (keywordEach [] X.env)).all (fun x => x.1.isSome)
      && decide ((e :: es).length + ([] : List Keyword).length + (if ([] : List Keyword).isEmpty then 0 else 1) < 30)) = true := by rfl)
    (hline : (apos.endLine == cpos.line) = true := by rfl) (hs : starEach (e :: es) X.env = (false, eval e X.env) :: starEach es X.env := by rfl) (hplain : (backTo cpos (starEach es X.env)).any (·.1) = false := by rfl) :
    PE X (.Call (.Attribute o name apos) (e :: es) [] cpos) (tBM X.K T r to t) := by
  intro pins s σ H Q I h
  refine wpAny_Call_method_late hbase hfew hline rfl (thn (ho pins s σ H _ I h) fun v s1 ⟨x, H1, I1, r1, ty, q1⟩ => ?_)
  obtain ⟨h1, h2⟩ := tyV_is I1 r1 ty
  refine ⟨T, id, pa, slot, hty, h1, h2, ?_⟩
  have hA := ha cpos pins s1 σ H1 _ I1 q1
  rw [hs] at hA ⊢
  refine Calls.callWith_builtin (by show (false || (backTo cpos (starEach es X.env)).any (·.1)) = false; rw [hplain] <;> rfl) (Calls.evalArgs_plain ?_)
  exact thn hA fun us s2 ⟨vs, H2, I2, r2, q2⟩ => hm pins s2 σ H2 x vs v us Q I2 r1 r2 q2
/- xs.append(e), list.index on a module's tuple .. are MtR facts of 06m -/
end
end L2

namespace L2
open PySem PySem.Spec PyProof.Rows

def MtM (X : Cx) (id : String) (r : V → List V → Hp → VK → Prop) : Prop :=
  ∀ (pins : List (Addr × Obj)) (s : Shared) (σ : St) (H : Hp) (x : V) (xs : List V) (v : Value) (us : List Value) (Q : VK), Inv X pins σ H s → RelV x v → Vals xs us → r x xs H Q →
    wpAny (model X.prog X.w) X.A (call (.builtin id) (v :: us)) (EP X pins σ Q) X.xe s

theorem Vals.one : ∀ {x : V} {us : List Value}, Vals [x] us → ∃ u, us = [u] ∧ RelV x u
  | _, _, .cons r .nil => ⟨_, rfl, r⟩
theorem Vals.zero : ∀ {us : List Value}, Vals [] us → us = []
  | _, .nil => rfl
section
variable {X : Cx} {pins : List (Addr × Obj)} {σ : St} {H : Hp} {s : Shared} {l b : Addr} {xs ys zs : List V}

theorem Inv.lset {its its' : List Value} {n : Nat} {f : Array Value → Array Value} {t' : Nat} (I : Inv X pins σ H s) (hH : H l = some (.lst xs))
    (e : s.heap.get? l = some { cls := .type "list", data := .seq its.toArray n }) (hf : f its.toArray = its'.toArray) (hv : Vals ys its') (hz : ys.length ≤ sizeLine) :
    Inv X pins σ (upd H l (.lst ys)) { s with heap := s.heap.update l (Obj.mapSeq f), toks := t' } := by
  have q := PySem.IsL.update e f
  rw [hf] at q
  refine I.write (x := l) (e := l) (by rw [hH]; exact trivial) (.inl rfl) (fun b' u hb hu => (Heap.get?_update_other s.heap (Obj.mapSeq f) (Ne.symm hb)).trans hu) ⟨_, q⟩ ?_
  exact ⟨hz, its', _, hv, q⟩
theorem Inv.lnew {its : List Value} {t' : Nat} (I : Inv X pins σ H s) (hv : Vals ys its) (hz : ys.length ≤ sizeLine) :
    Inv X pins σ (upd H s.heap.objs.size (.lst ys)) { s with heap := s.heap.push { cls := .type "list", data := .seq its.toArray }, toks := t' } :=
  I.laid (fun _ _ q => Heap.get?_push_of_some _ q) (Nat.le_refl _) ⟨hz, its, 0, hv, Heap.get?_push_size _ rfl⟩
theorem Inv.fresh (I : Inv X pins σ H s) : H s.heap.objs.size = none := I.hok.fresh (Nat.le_refl _)
theorem Inv.lstM (I : Inv X pins σ H s) (hH : H l = some (.lst xs)) : xs.length ≤ sizeLine ∧ ∃ (its : List Value) (n : Nat), Vals xs its ∧ xs.length = its.length ∧ s.heap.get? l = some { cls := .type "list", data := .seq its.toArray n } := by
  obtain ⟨z, its, n, r, e⟩ := I.hok l _ hH
  exact ⟨z, its, n, r, r.length, e⟩

theorem notLongL {n : Nat} (h : n ≤ sizeLine) : Builtin.List.listTooLong n = false := by
  unfold Builtin.List.listTooLong
  exact decide_eq_false (by omega)
end

section
variable {X : Cx}

def rAppend : V → List V → Hp → VK → Prop := fun x vs H Q => ∃ l xs y, x = .ref l ∧ vs = [y] ∧ H l = some (.lst xs) ∧ xs.length < sizeLine ∧ Q .non (upd H l (.lst (xs ++ [y])))
theorem mt_append : MtM X "list.append" rAppend := by
  intro pins s σ H x vs v us Q I rx rv h
  obtain ⟨l, xs, y, rfl, rfl, hH, hz, q⟩ := h
  cases rx
  obtain ⟨u, rfl, ru⟩ := rv.one
  obtain ⟨z, its, n, r, hl, e⟩ := I.lstM hH
  refine call_meets F.slot_list_append ⟨_, e, rfl⟩ F.entry_list_append (F.args_list_append_2 _ _) (PySem.list_append l its.toArray n u (by rw [List.size_toArray]; omega)) ⟨e, ?_⟩
  refine ⟨.non, _, I.lset (its' := its ++ [u]) hH e (by simp) (r.append (.cons ru .nil)) ?_, rfl, q⟩
  rw [List.length_append, List.length_singleton]
  omega

def rExtend : V → List V → Hp → VK → Prop := fun x vs H Q => ∃ l b xs zs, x = .ref l ∧ vs = [.ref b] ∧ H l = some (.lst xs) ∧ H b = some (.lst zs) ∧ xs.length + zs.length ≤ sizeLine ∧ Q .non (upd H l (.lst (xs ++ zs)))
theorem mt_extend : MtM X "list.extend" rExtend := by
  intro pins s σ H x vs v us Q I rx rv h
  obtain ⟨l, b, xs, zs, rfl, rfl, hH, hB, hz, q⟩ := h
  cases rx
  obtain ⟨u, rfl, ru⟩ := rv.one
  cases ru
  obtain ⟨z, its, n, r, hl, e⟩ := I.lstM hH
  obtain ⟨z2, its2, n2, r2, hl2, e2⟩ := I.lstM hB
  have hsz : its.toArray.size + its2.toArray.size ≤ sizeLine := by rw [List.size_toArray, List.size_toArray]; omega
  have hlong : ¬ (!its.toArray.isEmpty && Builtin.List.listTooLong (its.toArray.size + its2.toArray.size)) = true := by
    rw [notLongL hsz, Bool.and_false]
    exact Bool.false_ne_true
  refine call_meets F.slot_list_extend ⟨_, e, rfl⟩ F.entry_list_extend (F.args_list_extend_2 _ _)
    (AutoSeq1.list_extend_list_list_0 l its.toArray n b its2.toArray n2 hlong (by rw [List.size_toArray]; omega) (by omega)) ⟨e, e2, ?_⟩
  refine ⟨.non, _, I.lset (its' := its ++ its2) hH e (by simp) (r.append r2) ?_, rfl, q⟩
  rw [List.length_append]
  omega

def rClear : V → List V → Hp → VK → Prop := fun x vs H Q => ∃ l xs, x = .ref l ∧ vs = [] ∧ H l = some (.lst xs) ∧ Q .non (upd H l (.lst []))
theorem mt_clear : MtM X "list.clear" rClear := by
  intro pins s σ H x vs v us Q I rx rv h
  obtain ⟨l, xs, rfl, rfl, hH, q⟩ := h
  cases rx
  have hus := rv.zero
  subst hus
  obtain ⟨z, its, n, r, hl, e⟩ := I.lstM hH
  refine call_meets F.slot_list_clear ⟨_, e, rfl⟩ F.entry_list_clear (F.args_list_clear_1 _) (AutoSeq1.list_clear_list_0 l its.toArray n (by rw [List.size_toArray]; omega)) ⟨e, ?_⟩
  exact ⟨.non, _, I.lset (its' := []) (ys := []) hH e rfl .nil (Nat.zero_le _), rfl, q⟩

def rCat : R2 := fun x y H Q => ∃ l b xs zs, x = .ref l ∧ y = .ref b ∧ H l = some (.lst xs) ∧ H b = some (.lst zs) ∧ xs.length + zs.length ≤ sizeLine ∧ ∀ p, H p = none → Q (.ref p) (upd H p (.lst (xs ++ zs)))
theorem op_cat : OpR X (binaryOp .Add) rCat := by
  intro pins s σ H x y v u Q I rx ry h
  obtain ⟨l, b, xs, zs, rfl, rfl, hH, hB, hz, q⟩ := h
  cases rx
  cases ry
  obtain ⟨z, its, n, r, hl, e⟩ := I.lstM hH
  obtain ⟨z2, its2, n2, r2, hl2, e2⟩ := I.lstM hB
  refine PySem.P.add_list e e2 ?_ (by rw [List.size_toArray, List.size_toArray]; omega)
  have ea : its.toArray ++ its2.toArray = (its ++ its2).toArray := by simp
  rw [ea]
  exact ⟨.ref _, _, I.lnew (t' := s.toks) (r.append r2) (by rw [List.length_append]; omega), rfl, q _ I.fresh⟩
end

section
variable {prog : Program} {w : World} {A : Around} {E : Value → Shared → Prop} {s : Shared}
end

section
variable {X : Cx}
end
end L2

namespace L2
open PySem PySem.Spec PyProof.Rows

section
variable {κ : Type} [DecidableEq κ]
end


section
variable {P : Program} {w : World} {H : Hp} {h : Heap} {a : Addr}
end

section
variable {X : Cx} {pins : List (Addr × Obj)} {σ : St} {H : Hp} {s : Shared} {a : Addr} {y v : V} {u r : Value} {o : Option V} {A : Around} {E : Value → Shared → Prop}

end

section
variable {X : Cx} {pins : List (Addr × Obj)} {σ : St} {H : Hp} {s : Shared} {a : Addr} {kvs : List (Key × V)} {k : Key} {u : Value} {A : Around} {E : Value → Shared → Prop}
end


section
variable {X : Cx} {o i e value : Expr} {pos pos' tpos : Pos} {td ty tv : TE}
end


section
variable {X : Cx} {pos : Pos}
end

section
variable {X : Cx} {pins : List (Addr × Obj)} {σ : St} {H : Hp} {s : Shared} {a : Addr} {y d : V} {u r : Value} {o : Option V} {A : Around} {E : Value → Shared → Prop}
end

section
variable {X : Cx} {o e f : Expr} {apos cpos : Pos} {td ty tx : TE}
end

section
variable {X : Cx} {pins : List (Addr × Obj)} {σ : St} {H : Hp} {s : Shared} {a : Addr} {kvs : List (Key × V)} {A : Around} {E : Value → Shared → Prop}
end


section
variable {X : Cx} {pins : List (Addr × Obj)} {σ : St} {H : Hp} {s : Shared} {a : Addr} {y : V} {u : Value} {A : Around} {E : Value → Shared → Prop}
end
end L2

namespace Att
open PySem PySem.W PySem.Calls PyProof.Rows

theorem ints_of_wellAll {P : Params} {h : Heap} : ∀ (ns : List Int) (vs : List Value), WellAll P h vs (ns.map WData.int) → IntsAre vs ns := by
  intro ns
  induction ns with
  | nil =>
    intro vs w
    rw [List.map_nil] at w
    cases w
    exact .nil
  | cons n ns ih =>
    intro vs w
    rw [List.map_cons] at w
    cases w with
    | cons a b =>
      cases a
      exact .cons _ _ (ih _ b)

theorem script_of {l : OpenLaw} {n : Nat} (hn : l.most = some n) {P : Params} {h : Heap} {args : List WData} {vals : List Value}
    (hpre : l.row.toRowW.claim.pre args = true) (hwl : WellAll P h vals args) :
    ∃ a vs ns, vals = [Value.ref a] ∧ args = [WData.list (ns.map WData.int)] ∧ h.get? a = some { cls := .type "list", data := .seq vs.toArray } ∧ IntsAre vs ns ∧ ns.length ≤ n := by
  have hsh : WShape.hasAll [] args [.list .int] = true := (pre_splitW hpre).1
  have hc : l.pre.holds [] { args := args } = true := (pre_splitW hpre).2
  obtain ⟨d, r, rfl, h1, h2⟩ := hasAllW_cons hsh
  obtain rfl := hasAllW_nil h2
  obtain ⟨xs, rfl, h3⟩ := hasW_list h1
  obtain ⟨ns, rfl⟩ := items_int h3
  have hlen : ns.length ≤ n := by
    unfold OpenLaw.pre at hc
    have h4 : (WTm.not (.lt (.lit (.int (n : Int))) (.len (.arg 0)))).holds [] { args := [.list (ns.map .int)] } = true := by
      have h4 := (holds_andW hc).1
      rw [hn] at h4
      exact h4
    have h5 := condW_of h4 (w_not (w_lt w_lit (w_len_list (w_arg rfl))))
    rw [List.length_map] at h5
    refine Nat.le_of_not_lt fun q => ?_
    have q' : (n : Int) < ((ns.length : Nat) : Int) := by omega
    first
      | (rw [decide_eq_true q'] at h5; exact absurd h5 (by decide))
      | (simp at h5; omega)
  cases hwl with
  | cons w1 w2 =>
    cases w2
    cases w1 with
    | list ho hall => exact ⟨_, _, ns, rfl, rfl, ho, ints_of_wellAll ns _ hall, hlen⟩

theorem post_true (l : OpenLaw) (args : List WData) : l.row.toRowW.claim.post args (.bool true) args = true :=
  postW_of (r := l.row.toRowW) (X := (true == true))
    (show WShape.has [] (.bool true) .bool = true by first | rfl | decide | simp [WShape.has, WShape.arms, WShape.armsAll])
    (show (WTm.eq .res (.lit (.bool true))).value [] { args := args, res := some (.bool true), after := args } = some (.bool (true == true)) from w_eq_bool (w_res rfl) w_lit) rfl

/-- the same from a codeAny of the CALL (for a layer whose function contracts speak of calls) -/
theorem attach_call {l : OpenLaw} {n : Nat} {q : Program} {loose : List Str} {XP : (Str → Option Value) → Heap → Prop} {YP : World → Heap → Prop} {d : DefRec}
    (hn : l.most = some n) (hdf : d.params.defaults = [])
    (call : ∀ (w : World) (s₀ s₁ : Shared) (mg mb : Str → Option Value) (fa : Addr) (o : Obj) (pm cd doc : Value) (a : Addr) (vs : List Value) (ns : List Int),
      Ground q loose [] XP w s₀ mg mb s₁.heap → YP w s₁.heap →
      s₁.heap.get? fa = some o → o.data = .func (docDef d.name d.params d.body d.scope pm cd doc) → s₁.heap.CodeRec cd d.name → mg d.name = some (.ref fa) →
      s₁.heap.get? a = some { cls := .type "list", data := .seq vs.toArray } → IntsAre vs ns → ns.length ≤ n → s₁.gens = #[] →
      codeAny (model l.prog w) callerA (.call (.ref fa) ⟨[.ref a], []⟩) (fun r s' => r = .ok (.ret (.bool true)) ∧ OldK s₁.heap s'.heap ∧ s'.os = s₁.os ∧ AllBare s'.gens) s₁) :
    WalkO q loose XP YP l.row.toRowW d [] (fun f vs => PySem.call f vs) := by
  intro w s₀ s₁ mg mb G Y fa o pm cd doc dV kV ho hd hcd hD hmg hg args vals as hpre hlay hrd hwl hlo
  obtain rfl : dV = .none := Dflts.none hD hdf
  obtain rfl : kV = .none := Dflts.noKw hD
  obtain ⟨a, vs, ns, rfl, rfl, hobj, hints, hlen⟩ := script_of hn hpre hwl
  refine enter_call (codeAny_mono (call w s₀ s₁ mg mb fa o pm cd doc a vs ns G Y ho (fd_plain hd) hcd hmg hobj hints hlen hg) fun r s' hq => ?_)
  obtain ⟨rfl, h2, h3, h4⟩ := hq
  exact ⟨.inl ⟨.bool true, .bool true, [], rfl, fun _ => rfl, .bool true, post_true l _, fun _ => ⟨List.Pairwise.nil, fun _ hm => (nomatch hm)⟩⟩, h2, h3, h4⟩

section
variable {prog : Program} {w : World} {A : Around} {E : Value → Shared → Prop} {s : Shared} {K : Frag}

end
end Att

namespace L2
open PySem PySem.Spec PyProof.Rows

theorem vals_ints : ∀ {vs : List Value} {ns : List Int}, IntsAre vs ns → Vals (ns.map V.int) vs
  | _, _, .nil => .nil
  | _, _, .cons n t h => .cons ⟨t, rfl⟩ (vals_ints h)

/-- nothing is tracked but the script, known to the object (or it is an object of the module) -/
def Only (H : Hp) : Prop := ∀ b, H b = none ∨ ∃ o xs, H b = some (.frz o (.lst xs))

/-- THE HEAD: the law's promise, at the heap behind the top. F, the promise of the law's def, may use that base is part of the heap (so K.In base, base.Ns mainGlobals mg stand in Mod) -/
theorem law_call {P : Program} {w : World} {K : PySem.W.Frag} {mg mb : Str → Option Value} {CX : CXT} {k : Nat} {fa a : Addr} {fd : FuncData} {x : Str} {sp : Sp} {s₁ : Shared} {vs : List Value} {ns : List Int}
    (KX : K.In s₁.heap) (hns : s₁.heap.Ns mainGlobals mg) (hb : s₁.heap.Ns builtinsNs mb) (hbb : ∀ x : Str, x ≠ "__name__" → mb x = bootBuiltins x) (hlim : s₁.heap.NoLimit) (hg : s₁.gens = #[])
    (ha : s₁.heap.get? a = some { cls := .type "list", data := .seq vs.toArray }) (hi : IntsAre vs ns) (hl : ns.length ≤ sizeLine) (hr : Room k callerA)
    (F : ∀ base : Heap, K.In base → base.Ns mainGlobals mg → FnOk P w K mg base CX k fa fd [x] sp) (hbind : ∀ (s : Shared) (u : Value), BindsTo s fd ⟨[u], []⟩ [(x, u)])
    (hsp : ∀ H : Hp, Only H → SqL K H a (ns.map V.int) → sp [.ref a] H (fun v _ => v = .bl true) fun _ _ _ => False)
    (hCX : ∀ H e s', CX [] H s₁ (fun _ _ _ => False) e s' → False) :
    codeAny (model P w) callerA (.call (.ref fa) ⟨[.ref a], []⟩) (fun r s' => r = .ok (.ret (.bool true)) ∧ OldK s₁.heap s'.heap ∧ s'.os = s₁.os ∧ AllBare s'.gens) s₁ := by
  have rv := vals_ints hi
  have lenV := hi.length
  -- from an abstract heap in which nothing but the script may be tracked
  have core : ∀ H : Hp, Only H → SqL K H a (ns.map V.int) → HOk P w H s₁.heap → (∀ b, H b ≠ none → b = a) → (H a ≠ none → K.lookup a = none) →
      codeAny (model P w) callerA (.call (.ref fa) ⟨[.ref a], []⟩) (fun r s' => r = .ok (.ret (.bool true)) ∧ OldK s₁.heap s'.heap ∧ s'.os = s₁.os ∧ AllBare s'.gens) s₁ := by
    intro H hO hS hok hA hK
    have base_of : ∀ {b : Addr} {o : Obj}, s₁.heap.get? b = some o → H b = none → (hidT s₁.heap H).get? b = some o := fun e n => hidT_get e n
    have noA : ∀ {b : Addr} {o : Obj} {es : Array DictEntry} {ep : Nat}, s₁.heap.get? b = some o → o.data = .dict es ep → H b = none := fun {b o es ep} e d => by
      cases q : H b with
      | none => rfl
      | some u =>
        have e' : b = a := hA b (by rw [q]; simp)
        subst e'
        rw [ha] at e; cases e
        have d' : Data.seq vs.toArray _ = Data.dict es ep := d
        cases d'
    have nsK : ∀ {b : Addr} {m : Str → Option Value}, s₁.heap.Ns b m → (hidT s₁.heap H).Ns b m := fun {b m} ⟨o, es, ep, e, d, r⟩ => ⟨o, es, ep, base_of e (noA e d), d, r⟩
    have hKb : K.In (hidT s₁.heap H) := fun b o e => base_of (KX b o e) (by
      cases q : H b with
      | none => rfl
      | some u =>
        have e' : b = a := hA b (by rw [q]; simp)
        subst e'
        rw [hK (by rw [q]; simp)] at e; cases e)
    have hM : Mod K mg (hidT s₁.heap H) := ⟨hKb, nsK hns, ⟨mb, nsK hb, hbb⟩, let ⟨mc, h1, h2⟩ := hlim; ⟨mc, nsK h1, h2⟩⟩
    have e0 : Env0 P w K mg (hidT s₁.heap H) callerA [] s₁ H := ⟨rfl, hM, fun b o e => of_hidT e, Nat.le_of_eq (hidT_size _ _), trivial, fun b hb => absurd (show b ∈ ([] : List Addr) from hb) (by simp), hok, .of_eq hg⟩
    refine codeAny_mono ((F _ hKb (nsK hns)).run callerA [] s₁ H ⟨[.ref a], []⟩ [.ref a] [.ref a] _ _ hr e0 (hbind s₁ (.ref a)) (.cons rfl .nil) (hsp H hO hS)) fun r s' h => ?_
    cases r with
    | error e => exact (hCX H e s' h).elim
    | ok fl =>
      cases fl with
      | next => exact False.elim h
      | brk => exact False.elim h
      | cont => exact False.elim h
      | ret u =>
        obtain ⟨v, H', os, bare, un, hok', r', q⟩ := h
        have q' : v = .bl true := q
        subst q'
        obtain rfl : u = Value.bool true := r'
        refine ⟨rfl, OldK.of_keep fun b o e => ?_, os, bare⟩
        cases q : H b with
        | none => exact un.keep b o e q (by intro z; exact absurd (show b ∈ ([] : List Addr) from z) (by simp)) (by simp)
        | some u =>
          rcases hO b with z | ⟨ob, xs, z⟩
          · rw [q] at z; cases z
          · have z2 := un.frzs b ob _ z
            obtain ⟨e1, _⟩ := hok b _ z
            obtain ⟨e2, _⟩ := hok' b _ z2
            rw [e] at e1; cases e1
            exact e2
  cases hk : K.lookup a with
  | some o =>
    -- the script is one of the module's own objects
    have e := KX a o hk
    rw [ha] at e
    cases e
    refine core (fun _ => none) (fun _ => .inl rfl) (.inr ⟨_, vs.toArray, _, hk, rfl, rfl, rfl, by rw [List.size_toArray, lenV]; exact hl, by simpa using rv⟩) (fun b u z => by have z' : (none : Option HO) = some u := z; cases z') (fun b z => absurd rfl z) fun z => absurd rfl z
  | none =>
    refine core (fun b => if b = a then some (.frz { cls := .type "list", data := .seq vs.toArray } (.lst (ns.map V.int))) else none) (fun b => ?_) (.inl (.inr ⟨{ cls := .type "list", data := .seq vs.toArray }, if_pos rfl⟩)) (fun b u z => ?_) (fun b z => ?_) fun _ => hk
    · by_cases hb : b = a
      · exact .inr ⟨_, _, if_pos hb⟩
      · exact .inl (if_neg hb)
    · by_cases hb : b = a
      · have z' := (if_pos hb).symm.trans z
        cases z'
        subst hb
        exact ⟨ha, by rw [List.length_map]; exact hl, vs, _, rv, ha⟩
      · have z' := (if_neg hb).symm.trans z
        cases z'
    · by_cases hb : b = a
      · exact hb
      · exact absurd (if_neg hb) z
end L2

namespace L2
open PySem PySem.Spec PyProof.Rows

abbrev KOf {K : PySem.W.Frag} {h : Heap} (_ : K.In h) : PySem.W.Frag := K

/-- the goal that k_head leaves (case hc), from the law's promise. F gives the function object fd (K's own) once, then the promise over every base -/
theorem walk_of {l : PySem.W.OpenLaw} {n k : Nat} {q : Program} {loose : List Str} {XP : (Str → Option Value) → Heap → Prop} {YP : World → Heap → Prop} {d : DefRec} {K : Params → PySem.W.Frag} {CX : World → CXT} {sp : World → Sp} {x : Str}
    (hn : l.most = some n) (hn2 : n ≤ sizeLine) (hdf : d.params.defaults = []) (hr : Room k callerA)
    (hY : ∀ (w : World) (h : Heap), YP w h → (K w.params).In h)
    (F : ∀ (w : World) (mg : Str → Option Value) (fa : Addr) (h : Heap), (K w.params).In h → h.Ns mainGlobals mg → mg d.name = some (.ref fa) →
      ∃ fd : FuncData, (∀ (s : Shared) (u : Value), BindsTo s fd ⟨[u], []⟩ [(x, u)]) ∧
        ∀ base : Heap, (K w.params).In base → base.Ns mainGlobals mg → FnOk l.prog w (K w.params) mg base (CX w) k fa fd [x] (sp w))
    (hsp : ∀ (w : World) (H : Hp) (a : Addr) (ns : List Int), ns.length ≤ n → Only H → SqL (K w.params) H a (ns.map V.int) → sp w [.ref a] H (fun v _ => v = .bl true) fun _ _ _ => False)
    (hCX : ∀ (w : World) (H : Hp) (s : Shared) (e : Value) (s' : Shared), CX w [] H s (fun _ _ _ => False) e s' → False) :
    PySem.W.WalkO q loose XP YP l.row.toRowW d [] (fun f vs => PySem.call f vs) := by
  refine Att.attach_call hn hdf fun w s₀ s₁ mg mb fa o pm cd doc a vs ns G Y ho hd hcd hmg hobj hints hlen hg => ?_
  have KX := hY w _ Y
  obtain ⟨fd, hb, hF⟩ := F w mg fa _ KX G.T.g hmg
  exact law_call KX G.T.g G.T.b G.T.builtins G.T.nolimit hg hobj hints (Nat.le_trans hlen hn2) hr hF hb (fun H hO hS => hsp w H a ns hlen hO hS) fun H e s' => hCX w H s₁ e s'
/-- the same where the promise hangs on the written part alone: (sp := My.sp_law), no hole under a binder -/
theorem walk_ofK {l : PySem.W.OpenLaw} {n k : Nat} {q : Program} {loose : List Str} {XP : (Str → Option Value) → Heap → Prop} {YP : World → Heap → Prop} {d : DefRec} {K : Params → PySem.W.Frag} {CX : CXT} {sp : PySem.W.Frag → Sp} {x : Str}
    (hn : l.most = some n) (hn2 : n ≤ sizeLine) (hdf : d.params.defaults = []) (hr : Room k callerA)
    (hY : ∀ (w : World) (h : Heap), YP w h → (K w.params).In h)
    (F : ∀ (w : World) (mg : Str → Option Value) (fa : Addr) (h : Heap), (K w.params).In h → h.Ns mainGlobals mg → mg d.name = some (.ref fa) →
      ∃ fd : FuncData, (∀ (s : Shared) (u : Value), BindsTo s fd ⟨[u], []⟩ [(x, u)]) ∧
        ∀ base : Heap, (K w.params).In base → base.Ns mainGlobals mg → FnOk l.prog w (K w.params) mg base CX k fa fd [x] (sp (K w.params)))
    (hsp : ∀ (K : PySem.W.Frag) (H : Hp) (a : Addr) (ns : List Int), ns.length ≤ n → Only H → SqL K H a (ns.map V.int) → sp K [.ref a] H (fun v _ => v = .bl true) fun _ _ _ => False)
    (hCX : ∀ (H : Hp) (s : Shared) (e : Value) (s' : Shared), CX [] H s (fun _ _ _ => False) e s' → False) :
    PySem.W.WalkO q loose XP YP l.row.toRowW d [] (fun f vs => PySem.call f vs) :=
  walk_of (K := K) (CX := fun _ => CX) (sp := fun w => sp (K w.params)) hn hn2 hdf hr hY F (fun w H a ns h1 h2 h3 => hsp (K w.params) H a ns h1 h2 h3) fun _ H s e s' => hCX H s e s'
end L2

namespace L2
open PySem PySem.Spec PyProof.Rows

/-- the j-th statement of a class's body -/
def inClass (s : Stmt) (j : Nat) : Stmt := match s with
  | .ClassDef _ _ _ body _ _ _ _ _ _ _ => body.getD j (.Pass ⟨0, 0, 0, 0⟩)
  | _ => .Pass ⟨0, 0, 0, 0⟩
def defArgs (s : Stmt) : Arguments := match s with
  | .FunctionDef _ a _ _ _ _ _ _ _ _ => a
  | _ => { posonlyargs := [], args := [], vararg := none, kwonlyargs := [], kw_defaults := [], kwarg := none, defaults := [] }
def defBody (s : Stmt) : List Stmt := match s with
  | .FunctionDef _ _ b _ _ _ _ _ _ _ => b
  | _ => []
def defScope (s : Stmt) : Scope := match s with
  | .FunctionDef _ _ _ _ _ _ sc _ _ _ => sc
  | _ => { kind := .function, names := [], isGenerator := false, isCoroutine := false }

abbrev CX0 : CXT := fun _ _ _ _ _ _ => False
abbrev E0 : XK := fun _ _ _ => False
theorem pass0 {X : Cx} : Passes CX0 X E0 := fun _ _ _ _ _ _ _ h => h.elim

structure Fun (K : PySem.W.Frag) (x qual : Str) (st : Stmt) (f : Addr) (fd : FuncData) : Prop where
  ex : ∃ (oc : Value) (od : Option Addr) (kV doc pm : Value) (an : Option Addr) (cdv ct : Value) (osl : Array (Option Value)),
    fd = PySem.W.fnOf x qual (defArgs st) (defBody st) (defScope st) .none kV doc pm an cdv ct ∧ K.lookup f = some ⟨oc, od, .func fd, osl⟩ ∧ PySem.W.codeIn K cdv qual = true
  kp : PySem.W.keepIn K (.ref f) = true
section
variable {P : Program} {w : World} {K : PySem.W.Frag} {mg : Str → Option Value} {base : Heap}
/-- THE RULE for a def: its body as a term of rules, and the reading of that term -/
theorem Fun.ok {x qual : Str} {st : Stmt} {f : Addr} {fd : FuncData} {N ps : List Str} {k : Nat} {sp : Sp} (F : Fun K x qual st f fd) (S : FnScope N ps (defScope st)) (len : ∀ vs H Q E, sp vs H Q E → vs.length = ps.length)
    (hbody : ∀ (cdv : Value) (A : Around) (outer : List Env) (s : Shared) (H : Hp) (vs : List V) (Q : VK) (E : XK), Room k (A.deeper (envOfC qual (defScope st) s.heap.objs.size f cdv)) → sp vs H Q E →
      ∃ t, PSs (cxOf CX0 P w K mg base N qual (defScope st) f cdv A outer s H E).nox (defBody st) t ∧ t { nx := fun _ H' => Q .non H', rt := Q } (start N vs) H) : FnOk P w K mg base CX0 (k + 1) f fd ps sp := by
  obtain ⟨oc, od, kV, doc, pm, an, cdv, ct, osl, rfl, lk, hcd⟩ := F.ex
  refine fn_of lk hcd S len fun A outer s H vs Q E hr hsp => ?_
  obtain ⟨t, h, q⟩ := hbody cdv A outer s H vs Q E hr hsp
  exact ⟨t, h.nox, q⟩
/-- how its arguments bind (no defaults): h is «fun _ _ _ _ _ _ us hl => match us, hl with | [_, _], _ => rfl», one _ a parameter -/
theorem Fun.binds {x qual : Str} {st : Stmt} {f : Addr} {fd : FuncData} {ps : List Str} (F : Fun K x qual st f fd)
    (h : ∀ (kV doc pm : Value) (an : Option Addr) (cdv ct : Value) (us : List Value), us.length = ps.length → bindArgs (PySem.W.fnOf x qual (defArgs st) (defBody st) (defScope st) .none kV doc pm an cdv ct) ⟨us, []⟩ = pure (ps.zip us)) : Binds K fd ps [] := by
  obtain ⟨oc, od, kV, doc, pm, an, cdv, ct, osl, rfl, lk, hcd⟩ := F.ex
  exact .all (h kV doc pm an cdv ct)
theorem fun_mk {x qual : Str} {st : Stmt} {f : Addr} {oc : Value} {od an : Option Addr} {osl : Array (Option Value)} {kV doc pm cdv ct : Value} (l : K.lookup f = some ⟨oc, od, .func (PySem.W.fnOf x qual (defArgs st) (defBody st) (defScope st) .none kV doc pm an cdv ct), osl⟩)
    (c : PySem.W.codeIn K cdv qual = true) (k : PySem.W.keepIn K (.ref f) = true) : Fun K x qual st f (PySem.W.fnOf x qual (defArgs st) (defBody st) (defScope st) .none kV doc pm an cdv ct) := ⟨⟨oc, od, kV, doc, pm, an, cdv, ct, osl, rfl, l, c⟩, k⟩
end
section
variable {X : Cx}
theorem pv (i : Nat) {x : Str} {pos : Pos} (hN : X.N[i]? = some x := by rfl) (hv : Vis X.env.scope x := by first | exact Or.inl rfl | exact Or.inr (Or.inl rfl) | exact Or.inr (Or.inr rfl)) (hd : (x == ("__debug__" : Str)) = false := by decide)
    (hcd : (x == ("__classdict__" : Str)) = false := by decide) : PE X (.Name x pos) (tVar i) := pe_var hN hv hd hcd
end

/-- all that was tracked is as it was -/
abbrev Same (H H' : Hp) : Prop := ∀ b o, H b = some o → H' b = some o
theorem Same.refl (H : Hp) : Same H H := fun _ _ h => h
theorem Same.trans {H H1 H2 : Hp} (a : Same H H1) (b : Same H1 H2) : Same H H2 := fun c o h => b c o (a c o h)
theorem Same.free {H H' : Hp} (e : Same H H') {l : Addr} (h : H' l = Option.none) : H l = Option.none := by
  cases q : H l with
  | none => rfl
  | some o =>
    rw [e l o q] at h
    cases h
theorem Same.seq {K : PySem.W.Frag} {H H' : Hp} {a : Addr} {xs : List V} (e : Same H H') (h : SqL K H a xs) : SqL K H' a xs := by
  rcases h with (h | ⟨o, h⟩) | h
  · exact .inl (.inl (e _ _ h))
  · exact .inl (.inr ⟨o, e _ _ h⟩)
  · exact .inr h

section
variable {X : Cx}
end
section
variable {κ : Type} [DecidableEq κ]
end
end L2


namespace EM
/-- the number whose bits below n are those of f -/
def bits (f : Nat → Bool) : Nat → Nat
  | 0 => 0
  | n + 1 => bits f n + (if f n then 2 ^ n else 0)
theorem bits_lt (f : Nat → Bool) : ∀ n, bits f n < 2 ^ n
  | 0 => by simp [bits]
  | n + 1 => by
    have h := bits_lt f n
    simp only [bits]
    have e : (2 : Nat) ^ (n + 1) = 2 ^ n + 2 ^ n := by rw [Nat.pow_succ]; omega
    split <;> omega
theorem testBit_bits (f : Nat → Bool) (i : Nat) : ∀ n, (bits f n).testBit i = (decide (i < n) && f i)
  | 0 => by simp [bits]
  | n + 1 => by
    have ih := testBit_bits f i n
    have hl := bits_lt f n
    simp only [bits]
    by_cases hf : f n = true
    · rw [if_pos hf, Nat.add_comm]
      rcases Nat.lt_trichotomy i n with h | h | h
      · rw [Nat.testBit_two_pow_add_gt h, ih]
        simp [h, Nat.lt_succ_of_lt h]
      · subst h
        rw [Nat.testBit_two_pow_add_eq, ih]
        simp [hf]
      · have : (2 : Nat) ^ n + bits f n < 2 ^ i := by
          have e : (2 : Nat) ^ (n + 1) = 2 ^ n + 2 ^ n := by rw [Nat.pow_succ]; omega
          have : (2 : Nat) ^ (n + 1) ≤ 2 ^ i := Nat.pow_le_pow_right (by decide) h
          omega
        rw [Nat.testBit_lt_two_pow this]
        have : ¬ i < n + 1 := by omega
        simp [this]
    · rw [if_neg hf, Nat.add_zero, ih]
      by_cases h : i = n
      · subst h
        have : f i = false := by simpa using hf
        simp [this]
      · have : (i < n + 1) ↔ (i < n) := by omega
        simp [this]
theorem bits_ext {f g : Nat → Bool} {n : Nat} (h : ∀ i, i < n → f i = g i) : bits f n = bits g n := by
  apply Nat.eq_of_testBit_eq
  intro i
  rw [testBit_bits, testBit_bits]
  by_cases hi : i < n
  · simp [hi, h i hi]
  · simp [hi]
theorem bits_and (f g : Nat → Bool) (n : Nat) : bits f n &&& bits g n = bits (fun i => f i && g i) n := by
  apply Nat.eq_of_testBit_eq
  intro i
  rw [Nat.testBit_and, testBit_bits, testBit_bits, testBit_bits]
  cases decide (i < n) <;> simp
theorem bits_or (f g : Nat → Bool) (n : Nat) : bits f n ||| bits g n = bits (fun i => f i || g i) n := by
  apply Nat.eq_of_testBit_eq
  intro i
  rw [Nat.testBit_or, testBit_bits, testBit_bits, testBit_bits]
  cases decide (i < n) <;> simp
theorem bits_xor (f g : Nat → Bool) (n : Nat) : bits f n ^^^ bits g n = bits (fun i => xor (f i) (g i)) n := by
  apply Nat.eq_of_testBit_eq
  intro i
  rw [Nat.testBit_xor, testBit_bits, testBit_bits, testBit_bits]
  cases decide (i < n) <;> simp
theorem bits_true (n : Nat) : bits (fun _ => true) n = 2 ^ n - 1 := by
  apply Nat.eq_of_testBit_eq
  intro i
  rw [testBit_bits, Nat.testBit_two_pow_sub_one]
  simp
theorem bits_false (n : Nat) : bits (fun _ => false) n = 0 := by
  apply Nat.eq_of_testBit_eq
  intro i
  rw [testBit_bits]
  simp
/-- one more bit by or -/
theorem bits_or_one (f : Nat → Bool) (n : Nat) (h : f n = true) : bits f n ||| 2 ^ n = bits f (n + 1) := by
  have e := Nat.two_pow_add_eq_or_of_lt (bits_lt f n) 1
  rw [Nat.mul_one] at e
  rw [Nat.or_comm, ← e]
  simp only [bits, h, if_true]
  omega
theorem bits_skip (f : Nat → Bool) (n : Nat) (h : f n = false) : bits f (n + 1) = bits f n := by
  simp [bits, h]
theorem lit_iff (s k : Nat) : s.testBit k = decide (s / 2 ^ k % 2 = 1) := Nat.testBit_eq_decide_div_mod_eq
theorem or_split : ∀ (n x y : Nat), x < n → (x ||| y) = (x &&& y) + (x ^^^ y)
  | 0, x, y, h => absurd h (by omega)
  | n + 1, x, y, h => by
    by_cases hx : x = 0
    · subst hx; simp
    · have ih := or_split n (x / 2) (y / 2) (by omega)
      have e1 := Nat.div_add_mod (x ||| y) 2
      have e2 := Nat.div_add_mod (x &&& y) 2
      have e3 := Nat.div_add_mod (x ^^^ y) 2
      rw [Nat.or_div_two] at e1
      rw [Nat.and_div_two] at e2
      rw [Nat.xor_div_two] at e3
      have m1 : (x ||| y) % 2 = (x % 2 ||| y % 2) := Nat.or_mod_two_pow (n := 1)
      have m2 : (x &&& y) % 2 = (x % 2 &&& y % 2) := Nat.and_mod_two_pow (n := 1)
      have m3 : (x ^^^ y) % 2 = (x % 2 ^^^ y % 2) := Nat.xor_mod_two_pow (n := 1)
      have m4 : (x % 2 ||| y % 2) = (x % 2 &&& y % 2) + (x % 2 ^^^ y % 2) := by
        rcases Nat.mod_two_eq_zero_or_one x with a | a <;> rcases Nat.mod_two_eq_zero_or_one y with b | b <;> rw [a, b] <;> rfl
      omega
end EM

namespace EM
/-- the words that join -/
inductive W3 where
  | a | e | o
  deriving DecidableEq
/-- a formula -/
inductive Fm where
  | lamp (k : Nat)
  | sure (b : Bool)
  | neg (f : Fm)
  | join (w : W3) (fs : List Fm)
def comb : W3 → List Bool → Bool
  | .a, bs => bs.all id
  | .o, bs => bs.any id
  | .e, bs => bs.foldl xor false
mutual
def Fm.holds (s : Nat) : Fm → Bool
  | .lamp k => s.testBit k
  | .sure b => b
  | .neg f => !(f.holds s)
  | .join w fs => comb w (Fm.holdsL s fs)
def Fm.holdsL (s : Nat) : List Fm → List Bool
  | [] => []
  | f :: fs => f.holds s :: Fm.holdsL s fs
end
theorem holdsL_eq (s : Nat) : ∀ fs : List Fm, Fm.holdsL s fs = fs.map (Fm.holds s)
  | [] => by simp [Fm.holdsL]
  | f :: fs => by simp [Fm.holdsL, holdsL_eq s fs]
theorem holds_join (s : Nat) (w : W3) (fs : List Fm) : (Fm.join w fs).holds s = comb w (fs.map (Fm.holds s)) := by
  simp [Fm.holds, holdsL_eq]
theorem comb_snoc_e (bs : List Bool) (b : Bool) : comb .e (bs ++ [b]) = xor (comb .e bs) b := by simp [comb]
theorem comb_snoc_a (bs : List Bool) (b : Bool) : comb .a (bs ++ [b]) = (comb .a bs && b) := by simp [comb]
theorem comb_snoc_o (bs : List Bool) (b : Bool) : comb .o (bs ++ [b]) = (comb .o bs || b) := by simp [comb]
/-- the crowd of the first n stands -/
def Fm.crowd (f : Fm) (n : Nat) : Nat := bits (fun s => f.holds s) n
mutual
/-- every lamp below m -/
def Fm.low (m : Nat) : Fm → Bool
  | .lamp k => decide (k < m)
  | .sure _ => true
  | .neg f => f.low m
  | .join _ fs => Fm.lowL m fs
def Fm.lowL (m : Nat) : List Fm → Bool
  | [] => true
  | f :: fs => f.low m && Fm.lowL m fs
end
theorem lowL_eq (m : Nat) : ∀ fs : List Fm, Fm.lowL m fs = fs.all (Fm.low m)
  | [] => by simp [Fm.lowL]
  | f :: fs => by simp [Fm.lowL, lowL_eq m fs]
theorem low_join (m : Nat) (w : W3) (fs : List Fm) : (Fm.join w fs).low m = fs.all (Fm.low m) := by
  simp [Fm.low, lowL_eq]
def bcomb : W3 → Nat → Nat → Nat
  | .a, x, y => x &&& y
  | .o, x, y => x ||| y
  | .e, x, y => x ^^^ y
def unit3 : W3 → Bool
  | .a => true
  | _ => false
def b2 : W3 → Bool → Bool → Bool
  | .a, x, y => x && y
  | .o, x, y => x || y
  | .e, x, y => xor x y
theorem comb_nil (w : W3) : comb w [] = unit3 w := by cases w <;> rfl
theorem comb_snoc (w : W3) (bs : List Bool) (b : Bool) : comb w (bs ++ [b]) = b2 w (comb w bs) b := by
  cases w
  · exact comb_snoc_a bs b
  · exact comb_snoc_e bs b
  · exact comb_snoc_o bs b
theorem bits_bcomb (w : W3) (f g : Nat → Bool) (n : Nat) : bcomb w (bits f n) (bits g n) = bits (fun i => b2 w (f i) (g i)) n := by
  cases w
  · exact bits_and f g n
  · exact bits_xor f g n
  · exact bits_or f g n
theorem crowd_join_nil (w : W3) (n : Nat) : (Fm.join w []).crowd n = bits (fun _ => unit3 w) n := by
  unfold Fm.crowd
  apply bits_ext
  intro i _
  rw [holds_join, List.map_nil, comb_nil]
theorem crowd_join_snoc (w : W3) (fs : List Fm) (f : Fm) (n : Nat) : (Fm.join w (fs ++ [f])).crowd n = bcomb w ((Fm.join w fs).crowd n) (f.crowd n) := by
  unfold Fm.crowd
  rw [bits_bcomb]
  apply bits_ext
  intro i _
  rw [holds_join, holds_join, List.map_append, List.map_cons, List.map_nil, comb_snoc]
theorem crowd_neg (f : Fm) (n : Nat) : (Fm.neg f).crowd n = (2 ^ n - 1) ^^^ f.crowd n := by
  unfold Fm.crowd
  rw [← bits_true, bits_xor]
  apply bits_ext
  intro i _
  simp [Fm.holds]
theorem crowd_sure (b : Bool) (n : Nat) : (Fm.sure b).crowd n = if b then 2 ^ n - 1 else 0 := by
  unfold Fm.crowd
  cases b
  · simp only [Fm.holds]; exact bits_false n
  · simp only [Fm.holds]; exact bits_true n
end EM

set_option maxRecDepth 100000
set_option maxHeartbeats 4000000
namespace L2
open PySem PySem.Spec PyProof.Rows

section
variable {σ : St} {H : Hp} {Q : VK} {D : Ends} {K : PySem.W.Frag} {BQ : Bool → Hp → Prop}
theorem i_var {i : Nat} {v : V} (h : σ[i]? = some (some v)) (k : Q v H) : tVar i σ H Q := ⟨v, h, k⟩
theorem i_c {v : V} (k : Q v H) : tC v σ H Q := k
theorem i_op {r : R2} {ta tb : TE} (h : ta σ H fun x H1 => tb σ H1 fun y H2 => r x y H2 Q) : tOp r ta tb σ H Q := h
theorem i_rI0 {g : Int → Int → V} {i j : Int} (h : Q (g i j) H) : rI0 g (.int i) (.int j) H Q := ⟨i, j, rfl, rfl, h⟩
theorem i_rI {C : Int → Int → Prop} {g : Int → Int → V} {i j : Int} (c : C i j) (h : Q (g i j) H) : rI C g (.int i) (.int j) H Q := ⟨i, j, rfl, rfl, c, h⟩
theorem i_eqI {i j : Int} (h : Q (.bl (decide (i = j))) H) : rEq (.int i) (.int j) H Q := by
  refine ⟨rfl, ?_⟩
  have e : decide (V.int i = V.int j) = decide (i = j) := by simp
  rw [e]; exact h
theorem i_eqS {i j : Str} (h : Q (.bl (decide (i = j))) H) : rEq (.str i) (.str j) H Q := by
  refine ⟨rfl, ?_⟩
  have e : decide (V.str i = V.str j) = decide (i = j) := by simp
  rw [e]; exact h
theorem i_neI {i j : Int} (h : Q (.bl (!decide (i = j))) H) : rNe (.int i) (.int j) H Q := by
  refine ⟨rfl, ?_⟩
  have e : decide (V.int i = V.int j) = decide (i = j) := by simp
  rw [e]; exact h
theorem i_neS {i j : Str} (h : Q (.bl (!decide (i = j))) H) : rNe (.str i) (.str j) H Q := by
  refine ⟨rfl, ?_⟩
  have e : decide (V.str i = V.str j) = decide (i = j) := by simp
  rw [e]; exact h
theorem i_neB {i j : Bool} (h : Q (.bl (!decide (i = j))) H) : rNe (.bl i) (.bl j) H Q := by
  refine ⟨rfl, ?_⟩
  have e : decide (V.bl i = V.bl j) = decide (i = j) := by simp
  rw [e]; exact h
theorem i_test {t : TE} (h : t σ H fun x H' => ∃ k, x = .bl k ∧ BQ k H') : tTest t σ H BQ := h
theorem i_exb {b : Bool} {R : Bool → Prop} (h : R b) : ∃ k, V.bl b = V.bl k ∧ R k := ⟨b, rfl, h⟩
theorem i_or {t u : TT} (h : t σ H fun c H1 => if c = true then BQ true H1 else u σ H1 BQ) : tOr t u σ H BQ := h
theorem i_not {t : TT} (h : t σ H fun c H1 => BQ (!c) H1) : tNot t σ H BQ := h
theorem i_andV {t u : TE} (h : t σ H fun x H1 => ∃ c, x = .bl c ∧ if c = true then u σ H1 Q else Q (.bl false) H1) : tAndV t u σ H Q := h
theorem i_if {t : TT} {ta tb : TE} (h : t σ H fun c H1 => if c = true then ta σ H1 Q else tb σ H1 Q) : tIf t ta tb σ H Q := h
theorem i_seq {t u : TS} (h : t { D with nx := u D } σ H) : tSeq t u D σ H := h
theorem i_next (h : D.nx σ H) : tNext D σ H := h
theorem i_drop {te : TE} (h : te σ H fun _ H1 => D.nx σ H1) : tDrop te D σ H := h
theorem i_ret {te : TE} (h : te σ H D.rt) : tRet te D σ H := h
theorem i_ifs {c : TT} {t u : TS} (h : c σ H fun b H1 => if b = true then t D σ H1 else u D σ H1) : tIfS c t u D σ H := h
theorem i_asg {te : TE} {g : TG} (h : te σ H fun x H1 => g x σ H1 D.nx) : tAsg te g D σ H := h
theorem i_name {i : Nat} {v : V} {R : St → Hp → Prop} (h : R (σ.set i (some v)) H) : gName i v σ H R := h
theorem i_nil {R : List V → Hp → Prop} (h : R [] H) : tNil σ H R := h
theorem i_cons {ta : TE} {tr : TA} {R : List V → Hp → Prop} (h : ta σ H fun x H1 => tr σ H1 fun xs H2 => R (x :: xs) H2) : tCons ta tr σ H R := h
theorem i_cb {r : List V → Hp → VK → Prop} {t : TA} (h : t σ H fun vs H1 => r vs H1 Q) : tCB r t σ H Q := h
/-- a new list, a new tuple -/
abbrev NewL (xs : List V) (H : Hp) (Q : VK) : Prop := xs.length ≤ sizeLine ∧ ∀ p, H p = none → Q (.ref p) (upd H p (.lst xs))
abbrev NewT (xs : List V) (H : Hp) (Q : VK) : Prop := xs.length ≤ sizeLine ∧ ∀ p, H p = none → Q (.ref p) (upd H p (.tup xs))
theorem i_tup {t : TA} (h : t σ H fun xs H1 => NewT xs H1 Q) : tTup t σ H Q := h
theorem i_lst {t : TA} (h : t σ H fun xs H1 => NewL xs H1 Q) : tLst t σ H Q := h
theorem i_bm {T : String} {r : V → List V → Hp → VK → Prop} {to : TE} {t : TA} (h : to σ H fun x H1 => tyV K T x H1 ∧ t σ H1 fun xs H2 => r x xs H2 Q) : tBM K T r to t σ H Q := h
theorem i_bm0 {T : String} {r : V → List V → Hp → VK → Prop} {to : TE} (h : to σ H fun x H1 => tyV K T x H1 ∧ r x [] H1 Q) : tBM0 K T r to σ H Q := h
theorem i_fld {ta : TE} {f : Str} (h : ta σ H fun x H1 => ∃ a C dx fs v, x = .ref a ∧ H1 a = some (.ins C dx fs) ∧ Cls K C ∧ NoAttr K C f ∧ fs.lookup f = some v ∧ Q v H1) : tFld K ta f σ H Q := h
theorem i_sfld {ta tv : TE} {f : Str} (h : tv σ H fun y H1 => ta σ H1 fun x H2 => ∃ a C dx fs, x = .ref a ∧ H2 a = some (.ins C dx fs) ∧ Cls K C ∧ NoAttr K C f ∧ fs.length < 1000 ∧ D.nx σ (upd H2 a (.ins C dx (putF f y fs)))) : sFld K ta tv f D σ H := h
theorem i_sl {r : V → Option Int → Option Int → Hp → VK → Prop} {te : TE} {tl th : TO} (h : te σ H fun x H1 => tl σ H1 fun l H2 => th σ H2 fun u H3 => r x l u H3 Q) : tSl r te tl th σ H Q := h
theorem i_part {t : TE} {R : Option Int → Hp → Prop} (h : t σ H fun x H1 => ∃ i, x = .int i ∧ R (some i) H1) : tPart t σ H R := h
theorem i_exi {b : Int} {R : Int → Prop} (h : R b) : ∃ k, V.int b = V.int k ∧ R k := ⟨b, rfl, h⟩
/-- a test by a value's truth -/
theorem i_truB {b : Bool} {R : Bool → Prop} (h : R b) : ∃ k, TruV K (.bl b) H k ∧ R k := ⟨b, rfl, h⟩
/-- ifs -/
theorem i_ifd {c A B : Prop} [Decidable c] (h1 : c → A) (h2 : ¬ c → B) : if decide c = true then A else B := by
  by_cases h : c
  · rw [if_pos (decide_eq_true h)]; exact h1 h
  · rw [if_neg (by simp [h])]; exact h2 h
theorem i_ifn {c A B : Prop} [Decidable c] (h1 : ¬ c → A) (h2 : c → B) : if (!decide c) = true then A else B := by
  by_cases h : c
  · rw [if_neg (by simp [h])]; exact h2 h
  · rw [if_pos (by simp [h])]; exact h1 h
theorem i_ifb {b : Bool} {A B : Prop} (h1 : b = true → A) (h2 : b = false → B) : if b = true then A else B := by
  cases b
  · rw [if_neg Bool.false_ne_true]; exact h2 rfl
  · rw [if_pos rfl]; exact h1 rfl
theorem i_ifT {b : Bool} {A B : Prop} (h : b = true) (k : A) : if b = true then A else B := by rw [if_pos h]; exact k
theorem i_ifF {b : Bool} {A B : Prop} (h : b = false) (k : B) : if b = true then A else B := by rw [if_neg (by rw [h]; exact Bool.false_ne_true)]; exact k
end

def LoopR (lo : Int) (n : Nat) (g : TG) (tb : TS) (D : Ends) (σ : St) (H : Hp) : Prop :=
  ∃ W : Nat → Nat → St → Hp → Prop, (∃ m, W 0 m σ H) ∧ ∀ i m σ H, W i m σ H →
      ((Itr lo n).stop i H ∧ D.nx σ H) ∨ ((Itr lo n).go i H ∧ ∃ N : St → Hp → Prop, (∀ σ' H', N σ' H' → ∃ m', m' < m ∧ W (i + 1) m' σ' H') ∧ ∀ x H', (Itr lo n).yld i H x H' → g x σ H' fun σ2 H2 => tb { D with nx := N, ct := N, bk := D.nx } σ2 H2)
def LoopL (K : PySem.W.Frag) (a : Addr) (g : TG) (tb : TS) (D : Ends) (σ : St) (H : Hp) : Prop :=
  ∃ W : Nat → Nat → St → Hp → Prop, (∃ m, W 0 m σ H) ∧ ∀ i m σ H, W i m σ H →
      ((Itl K a).stop i H ∧ D.nx σ H) ∨ ((Itl K a).go i H ∧ ∃ N : St → Hp → Prop, (∀ σ' H', N σ' H' → ∃ m', m' < m ∧ W (i + 1) m' σ' H') ∧ ∀ x H', (Itl K a).yld i H x H' → g x σ H' fun σ2 H2 => tb { D with nx := N, ct := N, bk := D.nx } σ2 H2)
def LoopT (K : PySem.W.Frag) (a : Addr) (g : TG) (tb : TS) (D : Ends) (σ : St) (H : Hp) : Prop :=
  ∃ W : Nat → Nat → St → Hp → Prop, (∃ m, W 0 m σ H) ∧ ∀ i m σ H, W i m σ H →
      ((Itt K a).stop i H ∧ D.nx σ H) ∨ ((Itt K a).go i H ∧ ∃ N : St → Hp → Prop, (∀ σ' H', N σ' H' → ∃ m', m' < m ∧ W (i + 1) m' σ' H') ∧ ∀ x H', (Itt K a).yld i H x H' → g x σ H' fun σ2 H2 => tb { D with nx := N, ct := N, bk := D.nx } σ2 H2)
section
variable {σ : St} {H : Hp} {D : Ends} {K : PySem.W.Frag} {g : TG} {tb : TS}
theorem i_forR1 {ta : TA} (h : ta σ H fun vs H1 => ∃ j : Int, vs = [.int j] ∧ -(2 ^ 62) ≤ j ∧ j < 2 ^ 62 ∧ LoopR 0 j.toNat g tb D σ H1) : tFor (iRng1 ta) g tb D σ H := h
theorem loopR {lo : Int} {n : Nat} (Pv : Nat → St → Hp → Prop) (h0 : Pv 0 σ H) (hs : ∀ i σ H, i < n → Pv i σ H → g (.int (lo + i)) σ H fun σ2 H2 => tb { D with nx := Pv (i + 1), ct := Pv (i + 1), bk := D.nx } σ2 H2) (hd : ∀ σ H, Pv n σ H → D.nx σ H) : LoopR lo n g tb D σ H := for_range Pv h0 hs hd
theorem loopR0 {n : Nat} (Pv : Nat → St → Hp → Prop) (h0 : Pv 0 σ H) (hs : ∀ (i : Nat) σ H, i < n → Pv i σ H → g (.int (i : Int)) σ H fun σ2 H2 => tb { D with nx := Pv (i + 1), ct := Pv (i + 1), bk := D.nx } σ2 H2) (hd : ∀ σ H, Pv n σ H → D.nx σ H) : LoopR 0 n g tb D σ H := for_range Pv h0 (fun i σ H hi p => by rw [Int.zero_add]; exact hs i σ H hi p) hd
theorem loopL {a : Addr} {xs : List V} (Pv : Nat → St → Hp → Prop) (h0 : Pv 0 σ H) (hl : ∀ i σ H, i ≤ xs.length → Pv i σ H → SqL K H a xs) (hs : ∀ i x σ H, xs[i]? = some x → Pv i σ H → g x σ H fun σ2 H2 => tb { D with nx := Pv (i + 1), ct := Pv (i + 1), bk := D.nx } σ2 H2) (hd : ∀ σ H, Pv xs.length σ H → D.nx σ H) : LoopL K a g tb D σ H := for_list Pv h0 hl hs hd
theorem loopT {a : Addr} {xs : List V} (Pv : Nat → St → Hp → Prop) (h0 : Pv 0 σ H) (hl : ∀ i σ H, i ≤ xs.length → Pv i σ H → SqT K H a xs) (hs : ∀ i x σ H, xs[i]? = some x → Pv i σ H → g x σ H fun σ2 H2 => tb { D with nx := Pv (i + 1), ct := Pv (i + 1), bk := D.nx } σ2 H2) (hd : ∀ σ H, Pv xs.length σ H → D.nx σ H) : LoopT K a g tb D σ H := for_tup Pv h0 hl hs hd
end

def Its (x : Str) : It := ⟨fun i _ => i < x.cps.size, fun i H v H' => H' = H ∧ ∃ c, x.cps[i]? = some c ∧ v = .str ⟨#[c]⟩, fun i _ => x.cps.size ≤ i⟩
theorem turn_strA {P : Program} {w : World} {K : PySem.W.Frag} {tg : Expr} (x : Str) (t : Tok) (it : Addr) : Turn P w K tg (Its x) [it] it (fun i h => h.IsStrIter it "str_ascii_iterator" x t i) where
  mem := by simp
  obj := fun i h st b hb => by
    have e : b = it := by simpa using hb
    subst e
    obtain ⟨o, e, c, d⟩ := st
    exact ⟨o, e, fun v z => by rw [d] at z; cases z⟩
  keep := fun i h h' st k => let ⟨o, ho, r⟩ := st; ⟨o, k it (by simp) o ho, r⟩
  item := by
    intro X hP hw hK hc i pins s σ H E I hf st hg
    subst hP hw hK
    obtain ⟨f0, f1, f2, f3, f4, f5⟩ := hf it (by simp)
    have hg : i < x.cps.size := hg
    refine wpAny_pyNext_ascii_item st (c := x.cps[i]) (by simp [hg]) fun h' st' sb => ?_
    have I1 : Inv X pins σ H { s with heap := h', toks := s.toks + 1 } := I.turned (fun b o hb e => (sb.2 b hb).trans e) f0 f1 f3 f4 f5
    obtain ⟨o, e, c, d⟩ := id st'
    exact ⟨_, rfl, go_of (s := { s with heap := h', toks := s.toks + 1 }) e c d (by decide) ⟨.str ⟨#[x.cps[i]]⟩, H, I1, ⟨_, rfl⟩, ⟨rfl, _, by simp [hg], rfl⟩, st', fun b hb => (hf b hb).1⟩⟩
  done := by
    intro X hP hw hK hc i pins s σ H E I hf st hg
    subst hP hw hK
    obtain ⟨f0, f1, f2, f3, f4, f5⟩ := hf it (by simp)
    have hg : x.cps.size ≤ i := hg
    exact wpAny_pyNext_ascii_end (I.ok.hd hc) st (by simp [hg]) fun h' eb => ⟨rfl, I.turned (t' := s.toks) (fun b o hb e => eb b o hb e) f0 f1 f3 f4 f5⟩
  self := fun _ _ _ _ _ st h => wpAny_pyIter_striter_ascii st h
theorem turn_strW {P : Program} {w : World} {K : PySem.W.Frag} {tg : Expr} (x : Str) (t : Tok) (it : Addr) : Turn P w K tg (Its x) [it] it (fun i h => h.IsStrIter it "str_iterator" x t i) where
  mem := by simp
  obj := fun i h st b hb => by
    have e : b = it := by simpa using hb
    subst e
    obtain ⟨o, e, c, d⟩ := st
    exact ⟨o, e, fun v z => by rw [d] at z; cases z⟩
  keep := fun i h h' st k => let ⟨o, ho, r⟩ := st; ⟨o, k it (by simp) o ho, r⟩
  item := by
    intro X hP hw hK hc i pins s σ H E I hf st hg
    subst hP hw hK
    obtain ⟨f0, f1, f2, f3, f4, f5⟩ := hf it (by simp)
    have hg : i < x.cps.size := hg
    refine wpAny_pyNext_wide_item st (c := x.cps[i]) (by simp [hg]) fun h' st' sb => ?_
    have I1 : Inv X pins σ H { s with heap := h', toks := s.toks + 1 } := I.turned (fun b o hb e => (sb.2 b hb).trans e) f0 f1 f3 f4 f5
    obtain ⟨o, e, c, d⟩ := id st'
    exact ⟨_, rfl, go_of (s := { s with heap := h', toks := s.toks + 1 }) e c d (by decide) ⟨.str ⟨#[x.cps[i]]⟩, H, I1, ⟨_, rfl⟩, ⟨rfl, _, by simp [hg], rfl⟩, st', fun b hb => (hf b hb).1⟩⟩
  done := by
    intro X hP hw hK hc i pins s σ H E I hf st hg
    subst hP hw hK
    obtain ⟨f0, f1, f2, f3, f4, f5⟩ := hf it (by simp)
    have hg : x.cps.size ≤ i := hg
    exact wpAny_pyNext_wide_end (I.ok.hd hc) st (by simp [hg]) fun h' eb => ⟨rfl, I.turned (t' := s.toks) (fun b o hb e => eb b o hb e) f0 f1 f3 f4 f5⟩
  self := fun _ _ _ _ _ st h => wpAny_pyIter_striter_wide st h
def iSeq (K : PySem.W.Frag) (tl : TE) : TI := fun σ H R => tl σ H fun x H1 => (∃ a xs, x = .ref a ∧ SqL K H1 a xs ∧ R (Itl K a) H1) ∨ (∃ a xs, x = .ref a ∧ SqT K H1 a xs ∧ R (Itt K a) H1) ∨ (∃ z, x = .str z ∧ R (Its z) H1)
theorem pi_seq {X : Cx} {tg : Expr} {l : Expr} {tl : TE} (hl : PE X l tl) : PI X tg l (iSeq X.K tl) := by
  intro pins s σ H R I h
  refine thn (hl pins s σ H _ I h) fun v s1 ⟨x, H1, I1, r1, q1⟩ => ?_
  have fp : ∀ b ∈ [s1.heap.objs.size], FpOk X pins H1 b := fun b hb => by
    have e : b = s1.heap.objs.size := by simpa using hb
    subst e
    exact I1.fpOk (Nat.le_refl _) (I1.hok.fresh (Nat.le_refl _))
  rcases q1 with ⟨a, xs, e, hq, q⟩ | ⟨a, xs, e, hq, q⟩ | ⟨z, e, q⟩
  · subst e
    cases r1
    obtain ⟨its, rv, p, hz⟩ := I1.list hq
    refine wpAny_pyIter_list p.isList ?_
    exact ⟨s1.heap.objs.size, [s1.heap.objs.size], _, _, H1, rfl, I1.kept (t' := s1.toks) fun b o e => Heap.get?_push_of_some _ e, turn_list a _, ⟨_, Heap.get?_push_size _ rfl, rfl, rfl⟩, fp, q⟩
  · subst e
    cases r1
    obtain ⟨its, rv, p, hz⟩ := I1.tuple hq
    refine wpAny_pyIter_tuple (show s1.heap.IsTuple a its.toArray from p) ?_
    exact ⟨s1.heap.objs.size, [s1.heap.objs.size], _, _, H1, rfl, I1.kept (t' := s1.toks) fun b o e => Heap.get?_push_of_some _ e, turn_tuple a _, ⟨_, Heap.get?_push_size _ rfl, rfl, rfl⟩, fp, q⟩
  · subst e
    obtain ⟨t, rfl⟩ := r1
    cases ha : z.cps.all (· < 128) with
    | false =>
      refine wpAny_pyIter_wide ha ?_
      exact ⟨s1.heap.objs.size, [s1.heap.objs.size], _, _, H1, rfl, I1.kept (t' := s1.toks) fun b o e => Heap.get?_push_of_some _ e, turn_strW z t _, ⟨_, Heap.get?_push_size _ rfl, rfl, rfl⟩, fp, q⟩
    | true =>
      refine wpAny_pyIter_ascii ha ?_
      exact ⟨s1.heap.objs.size, [s1.heap.objs.size], _, _, H1, rfl, I1.kept (t' := s1.toks) fun b o e => Heap.get?_push_of_some _ e, turn_strA z t _, ⟨_, Heap.get?_push_size _ rfl, rfl, rfl⟩, fp, q⟩
def LoopX (x : Str) (g : TG) (tb : TS) (D : Ends) (σ : St) (H : Hp) : Prop :=
  ∃ W : Nat → Nat → St → Hp → Prop, (∃ m, W 0 m σ H) ∧ ∀ i m σ H, W i m σ H →
      ((Its x).stop i H ∧ D.nx σ H) ∨ ((Its x).go i H ∧ ∃ N : St → Hp → Prop, (∀ σ' H', N σ' H' → ∃ m', m' < m ∧ W (i + 1) m' σ' H') ∧ ∀ x' H', (Its x).yld i H x' H' → g x' σ H' fun σ2 H2 => tb { D with nx := N, ct := N, bk := D.nx } σ2 H2)
def SeqW (K : PySem.W.Frag) (x : V) (g : TG) (tb : TS) (D : Ends) (σ : St) (H1 : Hp) : Prop :=
  (∃ a xs, x = .ref a ∧ SqL K H1 a xs ∧ LoopL K a g tb D σ H1) ∨ (∃ a xs, x = .ref a ∧ SqT K H1 a xs ∧ LoopT K a g tb D σ H1) ∨ (∃ z, x = .str z ∧ LoopX z g tb D σ H1)
section
variable {σ : St} {H : Hp} {D : Ends} {K : PySem.W.Frag} {g : TG} {tb : TS}
theorem i_forS {tl : TE} (h : tl σ H fun x H1 => SeqW K x g tb D σ H1) : tFor (iSeq K tl) g tb D σ H := h
theorem seqL {a : Addr} {xs : List V} (Pv : Nat → St → Hp → Prop) (h0 : Pv 0 σ H) (hl : ∀ i σ H, i ≤ xs.length → Pv i σ H → SqL K H a xs) (hs : ∀ i x σ H, xs[i]? = some x → Pv i σ H → g x σ H fun σ2 H2 => tb { D with nx := Pv (i + 1), ct := Pv (i + 1), bk := D.nx } σ2 H2) (hd : ∀ σ H, Pv xs.length σ H → D.nx σ H) : SeqW K (.ref a) g tb D σ H := .inl ⟨a, xs, rfl, hl 0 σ H (Nat.zero_le _) h0, loopL Pv h0 hl hs hd⟩
theorem seqT {a : Addr} {xs : List V} (Pv : Nat → St → Hp → Prop) (h0 : Pv 0 σ H) (hl : ∀ i σ H, i ≤ xs.length → Pv i σ H → SqT K H a xs) (hs : ∀ i x σ H, xs[i]? = some x → Pv i σ H → g x σ H fun σ2 H2 => tb { D with nx := Pv (i + 1), ct := Pv (i + 1), bk := D.nx } σ2 H2) (hd : ∀ σ H, Pv xs.length σ H → D.nx σ H) : SeqW K (.ref a) g tb D σ H := .inr (.inl ⟨a, xs, rfl, hl 0 σ H (Nat.zero_le _) h0, loopT Pv h0 hl hs hd⟩)
end

section
variable (P : Program) (w : World) (K : PySem.W.Frag) (mg : Str → Option Value) (base : Heap)
def FnS (k : Nat) (x : Str) (ps : List Str) (sp : Sp) : Prop := ∃ f fd, FnOk P w K mg base CX0 k f fd ps sp ∧ Binds K fd ps [] ∧ PySem.W.keepIn K (.ref f) = true ∧ mg x = some (.ref f)
def MeS (k : Nat) (C : Addr) (m : Str) (ps : List Str) (sp : Sp) : Prop := Cls K C ∧ ∃ f fd, FnOk P w K mg base CX0 k f fd ps sp ∧ Binds K fd ps [] ∧ Meth K C m f
def MkS (k : Nat) (x : Str) (C : Addr) (ps : List Str) (sp : Sp) : Prop := mg x = some (.ref C) ∧ ∃ f fd, Mk K C f ∧ FnOk P w K mg base CX0 k f fd ps sp ∧ Binds K fd ps []
end
theorem MeS.up {P : Program} {w : World} {K : PySem.W.Frag} {mg : Str → Option Value} {base : Heap} {j k : Nat} {C : Addr} {m : Str} {ps : List Str} {sp : Sp} (h : MeS P w K mg base j C m ps sp) (hk : j ≤ k) : MeS P w K mg base k C m ps sp := by
  obtain ⟨c, f, fd, F, b, hm⟩ := h
  exact ⟨c, f, fd, F.mono hk, b, hm⟩
def tFn (sp : Sp) (t : TA) : TE := fun σ H Q => t σ H fun vs H1 => sp vs H1 Q E0
def MkG (C : Addr) (sp : Sp) (vs : List V) (H1 : Hp) (Q : VK) : Prop := ∀ x dx, H1 x = none → H1 dx = none → dx ≠ x →
  sp (.ref x :: vs) (upd (upd H1 dx (.own x)) x (.ins C dx [])) (fun v H2 => v = .non ∧ Q (.ref x) H2) E0
def tMk (C : Addr) (sp : Sp) (t : TA) : TE := fun σ H Q => t σ H fun vs H1 => MkG C sp vs H1 Q
/-- o.m(..) of an instance of one of several classes: D tells which, each keeps sp for its own instances -/
def tDy (D : Addr → Prop) (m : Str) (sp : Sp) (ta : TE) (t : TA) : TE := fun σ H Q => ta σ H fun x H1 => ∃ a C dx fs, x = .ref a ∧ H1 a = some (.ins C dx fs) ∧ D C ∧ fs.lookup m = none ∧
  t σ H1 fun vs H2 => H2 a = some (.ins C dx fs) ∧ sp (x :: vs) H2 Q E0
/-- .. the promise of the class at C -/
def spAt (sp : Sp) (C : Addr) : Sp := fun vs H Q E => sp vs H Q E ∧ ∃ a dx fs r, vs = V.ref a :: r ∧ H a = some (.ins C dx fs)
theorem i_fn {sp : Sp} {t : TA} {σ : St} {H : Hp} {Q : VK} (h : t σ H fun vs H1 => sp vs H1 Q E0) : tFn sp t σ H Q := h
theorem i_mk {C : Addr} {sp : Sp} {t : TA} {σ : St} {H : Hp} {Q : VK} (h : t σ H fun vs H1 => MkG C sp vs H1 Q) : tMk C sp t σ H Q := h
theorem i_dy {D : Addr → Prop} {m : Str} {sp : Sp} {ta : TE} {t : TA} {σ : St} {H : Hp} {Q : VK} (h : ta σ H fun x H1 => ∃ a C dx fs, x = .ref a ∧ H1 a = some (.ins C dx fs) ∧ D C ∧ fs.lookup m = none ∧
  t σ H1 fun vs H2 => H2 a = some (.ins C dx fs) ∧ sp (x :: vs) H2 Q E0) : tDy D m sp ta t σ H Q := h
theorem tCall_nil (sp : Sp) (t : TA) : tCall sp [] E0 t = tFn sp t := by
  funext σ H Q
  unfold tCall tFn
  have e : (fun (vs : List V) (H1 : Hp) => sp (vs ++ []) H1 Q E0) = fun vs H1 => sp vs H1 Q E0 := by
    funext vs H1; rw [List.append_nil]
  rw [e]
theorem tMake_nil (C : Addr) (sp : Sp) (t : TA) : tMake C sp [] E0 t = tMk C sp t := by
  funext σ H Q
  unfold tMake tMk MkG
  congr 1
  funext vs H1
  rw [List.append_nil]
section
variable {X : Cx} {k k' : Nat} {x m : Str} {C : Addr} {ps : List Str} {sp : Sp} {e o : Expr} {es : List Expr} {ta : TE} {t : TA} {p pos apos : Pos}
theorem pe_fn (G : FnS X.prog X.w X.K X.mg X.base k x ps sp) (hr : Room k' X.A) (ha : PA X (e :: es) t) (hk : k ≤ k' := by omega) (hg : Gl X x := by rfl) (hdb : (x == ("__debug__" : Str)) = false := by decide)
    (he : starEach (e :: es) X.env = (false, eval e X.env) :: starEach es X.env := by rfl) (hpl : (backTo pos (starEach es X.env)).any (·.1) = false := by rfl) : PE X (.Call (.Name x p) (e :: es) [] pos) (tFn sp t) := by
  obtain ⟨f, fd, F, hb, kp, hm⟩ := G
  rw [← tCall_nil]
  exact pe_call F (hr.mono hk) hg hm kp hb .nil pass0 ha hdb he hpl
theorem pe_mk (G : MkS X.prog X.w X.K X.mg X.base k x C ps sp) (hr : Room k' X.A) (ha : PA X (e :: es) t) (hk : k + 1 ≤ k' := by omega) (hg : Gl X x := by rfl) (hdb : (x == ("__debug__" : Str)) = false := by decide)
    (he : starEach (e :: es) X.env = (false, eval e X.env) :: starEach es X.env := by rfl) (hpl : (backTo pos (starEach es X.env)).any (·.1) = false := by rfl) : PE X (.Call (.Name x p) (e :: es) [] pos) (tMk C sp t) := by
  obtain ⟨hm, f, fd, M, F, hb⟩ := G
  rw [← tMake_nil]
  exact pe_make M F (hr.mono hk) hg hm hb .nil pass0 ha hdb he hpl
theorem pe_dy {pl : Sem Bool} {D : Addr → Prop} (hD : ∀ C, D C → MeS X.prog X.w X.K X.mg X.base k C m ps (spAt sp C)) (hr : Room k' X.A) (ho : PE X o ta) (ha : PA X (e :: es) t) (hk : k ≤ k' := by omega)
    (hst : starEach (e :: es) X.env = (false, eval e X.env) :: starEach es X.env := by rfl) (hpl : (backTo pos (starEach es X.env)).any (·.1) = false := by rfl)
    (ht : eval (.Call (.Attribute o m apos) (e :: es) [] pos) X.env = (do
      let ov ← eval o X.env
      standAt apos.atName
      let (f, first) ← holding [ov] (getMethod ov m pl)
      callWith pos f first (backTo pos (starEach (e :: es) X.env)) (backToKw pos (keywordEach [] X.env))) := by rfl) :
    PE X (.Call (.Attribute o m apos) (e :: es) [] pos) (tDy D m sp ta t) := by
  intro pins s σ H Q I h
  refine PySem.W.methodCall_KW (pl := pl) (thn (ho pins s σ H _ I h) fun u s1 ⟨x, H1, I1, rx, a, C, dx, fs, ex, ea, hC, l, q⟩ => ?_) ht
  subst ex
  obtain rfl : u = Value.ref a := rx
  obtain ⟨c, f, fd, F, hb, hm⟩ := hD C hC
  refine getmeth_ok I1 ea c hm l ?_
  refine PySem.W.callWith_K (first := [.ref a]) (h₀ := X.base) I.ok.mod.kin hm.kp (thn (ha pos pins s1 σ H1 _ I1 q) fun us s2 ⟨vs, H2, I2, r, eb, q2⟩ => ⟨I2.kIn, ?_⟩) hst hpl
  exact run_fn (us := .ref a :: us) (vs := .ref a :: vs) (dvs := []) (E := E0) F (hr.mono hk) hb .nil pass0 I2 (.cons rfl r) (by rw [List.append_nil]; exact ⟨q2, a, dx, fs, vs, rfl, eb⟩)
theorem pe_dy0 {pl : Sem Bool} {D : Addr → Prop} (hD : ∀ C, D C → MeS X.prog X.w X.K X.mg X.base k C m ps (spAt sp C)) (hr : Room k' X.A) (ho : PE X o ta) (hk : k ≤ k' := by omega)
    (ht : eval (.Call (.Attribute o m apos) [] [] pos) X.env = (do
      let ov ← eval o X.env
      standAt apos.atName
      let (f, first) ← holding [ov] (getMethod ov m pl)
      callWith pos f first (backTo pos (starEach [] X.env)) (backToKw pos (keywordEach [] X.env))) := by rfl) :
    PE X (.Call (.Attribute o m apos) [] [] pos) (tDy D m sp ta tNil) := by
  intro pins s σ H Q I h
  refine PySem.W.methodCall_KW (pl := pl) (thn (ho pins s σ H _ I h) fun u s1 ⟨x, H1, I1, rx, a, C, dx, fs, ex, ea, hC, l, eb, q⟩ => ?_) ht
  subst ex
  obtain rfl : u = Value.ref a := rx
  obtain ⟨c, f, fd, F, hb, hm⟩ := hD C hC
  refine getmeth_ok I1 ea c hm l ?_
  exact PySem.W.callWith_K0 (first := [.ref a]) I1.kIn hm.kp (run_fn (us := [.ref a]) (vs := [.ref a]) (dvs := []) (E := E0) F (hr.mono hk) hb .nil pass0 I1 (.cons rfl .nil) (by rw [List.append_nil]; exact ⟨q, a, dx, fs, [], rfl, eb⟩))
/-- name = value, the slot i -/
theorem ss (i : Nat) {x : Str} {e : Expr} {te : TE} {pos pos' : Pos} (hN : X.N.Nodup) (he : PE X e te) (hi : X.N[i]? = some x := by rfl) (hx : Loc X.env.scope x := by first | exact Or.inl rfl | exact Or.inr rfl)
    (hs : swapsWith e (some (.Name x pos')) pos.line X.env = pure false := by rfl) (hf : X.fn x = true ∨ X.env.scope.names.lookup x = some .local := by first | exact .inl rfl | exact .inr rfl) : PS X (.Assign [.Name x pos'] e pos) (tAsg te (gName i)) :=
  ps_set hN hi hx he hs hf
theorem sg (i : Nat) {x : Str} {pos : Pos} (hN : X.N.Nodup) (hi : X.N[i]? = some x := by rfl) (hx : Loc X.env.scope x := by first | exact Or.inl rfl | exact Or.inr rfl) (hf : X.fn x = true ∨ X.env.scope.names.lookup x = some .local := by first | exact .inl rfl | exact .inr rfl) : PG X (.Name x pos) (gName i) := pg_name hN hi hx hf
def rIsi (K : PySem.W.Frag) : List V → Hp → VK → Prop := fun xs H Q => ∃ x t b, TyOf K H x t ∧ ((∃ n, xs = [x, .ty n] ∧ PySem.W.kitOne K t (.type n) = some b) ∨ (∃ c, xs = [x, .ref c] ∧ PySem.W.kitOne K t (.ref c) = some b)) ∧ Q (.bl b) H
theorem call_isi : CallR X (.builtin "isinstance") (rIsi X.K) := by
  intro pins s σ H xs us Q I r h
  obtain ⟨x, t, b, ty, h, q⟩ := h
  rcases h with ⟨n, rfl, e⟩ | ⟨c, rfl, e⟩
  · obtain ⟨u, v, rfl, ru, rv⟩ := vals2 r
    obtain rfl : v = Value.type n := rv
    exact isinst_ok I ru ty e fun tk => ⟨.bl b, H, I.tok tk, rfl, q⟩
  · obtain ⟨u, v, rfl, ru, rv⟩ := vals2 r
    obtain rfl : v = Value.ref c := rv
    exact isinst_ok I ru ty e fun tk => ⟨.bl b, H, I.tok tk, rfl, q⟩
theorem i_isiT {K : PySem.W.Frag} {x : V} {n : String} {t : Value} {b : Bool} {H : Hp} {Q : VK} (ty : TyOf K H x t) (e : PySem.W.kitOne K t (.type n) = some b) (h : Q (.bl b) H) : rIsi K [x, .ty n] H Q := ⟨x, t, b, ty, .inl ⟨n, rfl, e⟩, h⟩
theorem i_isiC {K : PySem.W.Frag} {x : V} {c : Addr} {t : Value} {b : Bool} {H : Hp} {Q : VK} (ty : TyOf K H x t) (e : PySem.W.kitOne K t (.ref c) = some b) (h : Q (.bl b) H) : rIsi K [x, .ref c] H Q := ⟨x, t, b, ty, .inr ⟨c, rfl, e⟩, h⟩
def rAddG : R2 := fun x y H Q => rI0 (fun i j => V.int (i + j)) x y H Q ∨ (∃ i j, x = .str i ∧ y = .str j ∧ i.length + j.length ≤ sizeLine ∧ Q (.str (i ++ j)) H) ∨ rCat x y H Q
theorem op_addG : OpR X (binaryOp .Add) rAddG := OpR.or op_add (OpR.or op_add_str op_cat)
theorem i_addI {i j : Int} {H : Hp} {Q : VK} (h : Q (.int (i + j)) H) : rAddG (.int i) (.int j) H Q := .inl ⟨i, j, rfl, rfl, h⟩
theorem i_addS {i j : Str} {H : Hp} {Q : VK} (z : i.length + j.length ≤ sizeLine) (h : Q (.str (i ++ j)) H) : rAddG (.str i) (.str j) H Q := .inr (.inl ⟨i, j, rfl, rfl, z, h⟩)
end

section
variable {X : Cx} {K : PySem.W.Frag} {H : Hp} {Q : VK} {a : Expr} {ta : TE} {pos : Pos}
theorem bt_len : bootBuiltins "len" = some (.builtin "len") := by decide +kernel
theorem bt_isinstance : bootBuiltins "isinstance" = some (.builtin "isinstance") := by decide +kernel
theorem bt_sorted : bootBuiltins "sorted" = some (.builtin "sorted") := by decide +kernel
theorem bt_int : bootBuiltins "int" = some (.type "int") := by decide +kernel
theorem bt_bool : bootBuiltins "bool" = some (.type "bool") := by decide +kernel
theorem bt_str : bootBuiltins "str" = some (.type "str") := by decide +kernel
theorem bt_list : bootBuiltins "list" = some (.type "list") := by decide +kernel
theorem bt_tuple : bootBuiltins "tuple" = some (.type "tuple") := by decide +kernel
theorem bt_set : bootBuiltins "set" = some (.type "set") := by decide +kernel
/-- not of any value -/
def tNotG (K : PySem.W.Frag) (ta : TE) : TE := fun σ H Q => ta σ H fun x H1 => ∃ k, TruV K x H1 k ∧ Q (.bl (!k)) H1
theorem pe_notG (ha : PE X a ta) : PE X (.UnaryOp .Not a pos) (tNotG X.K ta) := by
  intro pins s σ H Q I h
  refine UnaryOp_ (thn (ha pins s σ H _ I h) fun v s1 ⟨x, H1, I1, r1, q1⟩ => ?_)
  exact not_of (thn (tru_ok pins s1 σ H1 x v (fun k H2 => Q (.bl (!k)) H2) I1 r1 q1) fun b s2 ⟨H2, I2, q2⟩ => ⟨.bl (!b), H2, I2, rfl, q2⟩)
theorem i_notG {σ : St} (h : ta σ H fun x H1 => ∃ k, TruV K x H1 k ∧ Q (.bl (!k)) H1) : tNotG K ta σ H Q := h
/-- len -/
def rLen (K : PySem.W.Frag) : List V → Hp → VK → Prop := fun xs H Q => ∃ x n, xs = [x] ∧ LenV K x H n ∧ Q (.int n) H
theorem call_lenG : CallR X (.builtin "len") (rLen X.K) := call_len
theorem i_lenS {p : Addr} {xs : List V} (h : SqL K H p xs) (k : Q (.int xs.length) H) : rLen K [.ref p] H Q := ⟨_, _, rfl, .inl ⟨xs, h, rfl⟩, k⟩
theorem i_lenL {p : Addr} {xs : List V} (h : H p = some (.lst xs)) (k : Q (.int xs.length) H) : rLen K [.ref p] H Q := ⟨_, _, rfl, .inl ⟨xs, SqL.of h, rfl⟩, k⟩
/-- list(), tuple() -/
def rListOf (K : PySem.W.Frag) : List V → Hp → VK → Prop := fun xs H Q => ∃ p ys, xs = [.ref p] ∧ (SqL K H p ys ∨ SqT K H p ys) ∧ ∀ l, H l = none → Q (.ref l) (upd H l (.lst ys))
theorem call_listG : CallR X (.type "list") (rListOf X.K) := call_list_of
def rTupOf (K : PySem.W.Frag) : List V → Hp → VK → Prop := fun xs H Q => ∃ p ys, xs = [.ref p] ∧ ((SqL K H p ys ∧ ∀ l, H l = none → Q (.ref l) (upd H l (.tup ys))) ∨ (SqT K H p ys ∧ Q (.ref p) H))
theorem call_tupleG : CallR X (.type "tuple") (rTupOf X.K) := call_tuple_of
theorem i_tupL {p : Addr} {ys : List V} (h : H p = some (.lst ys)) (k : ∀ l, H l = none → Q (.ref l) (upd H l (.tup ys))) : rTupOf K [.ref p] H Q := ⟨p, ys, rfl, .inl ⟨SqL.of h, k⟩⟩
/-- index -/
theorem i_ixS {p : Addr} {xs : List V} {j : Nat} {v : V} (h : SqL K H p xs) (e : xs[j]? = some v) (k : Q v H) : rIx K (.ref p) (.int (j : Int)) H Q := .inl ⟨p, xs, j, v, rfl, rfl, h, atI_nat e, k⟩
theorem i_ixL {p : Addr} {xs : List V} {j : Nat} {v : V} (h : H p = some (.lst xs)) (e : xs[j]? = some v) (k : Q v H) : rIx K (.ref p) (.int (j : Int)) H Q := .inl ⟨p, xs, j, v, rfl, rfl, SqL.of h, atI_nat e, k⟩
theorem i_ixT {p : Addr} {xs : List V} {i : Int} {v : V} (h : H p = some (.tup xs)) (e : atI xs i = some v) (k : Q v H) : rIx K (.ref p) (.int i) H Q := .inr (.inl ⟨p, xs, i, v, rfl, rfl, SqT.of h, e, k⟩)
theorem i_ixX {x : Str} {i : Int} {c : Nat} (z : x.length ≤ sizeLine) (e : atI x.cps.toList i = some c) (k : Q (.str ⟨#[c]⟩) H) : rIx K (.str x) (.int i) H Q := .inr (.inr ⟨x, i, c, rfl, rfl, z, e, k⟩)
/-- slices of lists and tuples -/
def rSlG (K : PySem.W.Frag) : V → Option Int → Option Int → Hp → VK → Prop := fun x lo hi H Q => rSlL K x lo hi H Q ∨ rSlT K x lo hi H Q
theorem sl_seq : SlR X (rSlG X.K) := SlR.or sl_list sl_tup
theorem i_slS {p : Addr} {xs : List V} {lo hi : Option Int} (h : SqL K H p xs) (k : ∀ l, H l = none → Q (.ref l) (upd H l (.lst (cutV xs lo hi)))) : rSlG K (.ref p) lo hi H Q := .inl ⟨p, xs, rfl, h, k⟩
/-- a times b -/
def rMulG : R2 := rI CMul fun i j => V.int (i * j)
theorem op_mulG : OpR X (binaryOp .Mult) rMulG := op_mul
theorem i_mulI {i j : Int} (c : CMul i j) (h : Q (.int (i * j)) H) : rMulG (.int i) (.int j) H Q := ⟨i, j, rfl, rfl, c, h⟩
/-- in, not in -/
def rInG (K : PySem.W.Frag) : R2 := fun x y H Q => (∃ i j, x = .str i ∧ y = .str j ∧ Q (.bl (!(Builtin.Str.occurrences j i 0 j.length 1).isEmpty)) H) ∨ rIn K false x y H Q
theorem op_inG : OpR X (compareOp .In) (rInG X.K) := OpR.or op_in_str op_in_seq
/-- list methods -/
theorem i_append {l : Addr} {xs : List V} {y : V} (h : H l = some (.lst xs)) (z : xs.length < sizeLine) (k : Q .non (upd H l (.lst (xs ++ [y])))) : rAppend (.ref l) [y] H Q := ⟨l, xs, y, rfl, rfl, h, z, k⟩
theorem i_clear {l : Addr} {xs : List V} (h : H l = some (.lst xs)) (k : Q .non (upd H l (.lst []))) : rClear (.ref l) [] H Q := ⟨l, xs, rfl, rfl, h, k⟩
theorem i_extend {l b : Addr} {xs zs : List V} (h : H l = some (.lst xs)) (h2 : H b = some (.lst zs)) (z : xs.length + zs.length ≤ sizeLine) (k : Q .non (upd H l (.lst (xs ++ zs)))) : rExtend (.ref l) [.ref b] H Q := ⟨l, b, xs, zs, rfl, rfl, h, h2, z, k⟩
theorem tyL {l : Addr} {xs : List V} (h : H l = some (.lst xs)) : tyV K "list" (.ref l) H := .inl ⟨rfl, xs, SqL.of h⟩
end
theorem small {n : Nat} (h : n ≤ 1000000) : n ≤ sizeLine := Nat.le_trans h (by decide)
theorem smallL {n : Nat} (h : n < 1000000) : n < sizeLine := Nat.lt_of_lt_of_le h (by decide)
theorem nd_ne {l : List Addr} (h : l.Nodup) {i j : Nat} {a b : Addr} (ha : l[i]? = some a) (hb : l[j]? = some b) (hij : i ≠ j) : a ≠ b := by
  intro e
  subst e
  obtain ⟨h1, e1⟩ := List.getElem?_eq_some_iff.mp ha
  obtain ⟨h2, e2⟩ := List.getElem?_eq_some_iff.mp hb
  exact hij ((List.getElem_inj h).mp (e1.trans e2.symm))
theorem kit_self (K : PySem.W.Frag) (n : String) : PySem.W.kitOne K (.type n) (.type n) = some true := by
  unfold PySem.W.kitOne
  rw [if_pos (by simp)]
theorem same_new {H : Hp} {p : Addr} (h : H p = none) (o : HO) : Same H (upd H p o) := fun b u q => by rw [upd_ne (ne_of_none q h)]; exact q
theorem same_new2 {H : Hp} {p q : Addr} (hp : H p = none) (hq : H q = none) (o u : HO) : Same H (upd (upd H q u) p o) := fun b v e => by rw [upd_ne (ne_of_none e hp), upd_ne (ne_of_none e hq)]; exact e
theorem kit_prim {K : PySem.W.Frag} {t c : String} {b : Bool} (h1 : t ≠ c) (h2 : PySem.W.kitMeta c = true) (h3 : (PySem.fastBuiltinMro t).map (·.contains (Value.type c)) = some b) : PySem.W.kitOne K (.type t) (.type c) = some b := by
  unfold PySem.W.kitOne
  rw [if_neg (by simp [h1])]
  unfold PySem.W.kitCls
  dsimp only
  rw [if_pos h2]
  exact h3
theorem kit_own {K : PySem.W.Frag} {t : Value} {D : Addr} {b : Bool} (hne : t ≠ .ref D) (h1 : PySem.W.isClsIn K D = true) (h2 : PySem.W.typeIn K (.ref D) = some (.type "type")) (h3 : PySem.W.subIn K t (.ref D) = some b) : PySem.W.kitOne K t (.ref D) = some b := by
  unfold PySem.W.kitOne
  rw [if_neg (by simp [hne])]
  unfold PySem.W.kitCls
  dsimp only
  unfold PySem.W.isClsIn at h1
  rw [if_pos (by rw [h1, h2]; rfl)]
  exact h3
theorem kit_selfR (K : PySem.W.Frag) (D : Addr) : PySem.W.kitOne K (.ref D) (.ref D) = some true := by
  unfold PySem.W.kitOne
  rw [if_pos (by simp)]
theorem kit_int_bool (K : PySem.W.Frag) : PySem.W.kitOne K (.type "int") (.type "bool") = some false := kit_prim (by decide) (by decide +kernel) (by decide +kernel)
/-- an __init__ that stores its one argument -/
def spInit1 (C : Addr) (f : Str) : Sp := fun vs H Q _ => ∃ p dx v, vs = [.ref p, v] ∧ H p = some (.ins C dx []) ∧ Q .non (upd H p (.ins C dx [(f, v)]))
theorem i_init1 {C : Addr} {f : Str} {v : V} {H : Hp} {Q : VK} (h : ∀ (x dx : Addr) (H' : Hp), Same H H' → H x = none → H' x = some (.ins C dx [(f, v)]) → Q (.ref x) H') :
    MkG C (spInit1 C f) [v] H Q := by
  intro x dx hx hdx ne
  refine ⟨x, dx, v, rfl, upd_same, rfl, ?_⟩
  rw [upd_upd]
  exact h x dx _ (same_new2 hx hdx _ _) hx upd_same
theorem lk1 (f : Str) (v : V) : List.lookup f [(f, v)] = some v := by
  have h := lookup_putF f f v []
  rw [if_pos rfl] at h
  exact h
theorem lk0 {f g : Str} (v : V) (h : ¬ g = f) : List.lookup g [(f, v)] = none := by
  have e := lookup_putF f g v []
  rw [if_neg h] at e
  exact e
/-- the built-in names that the text does not bind -/
structure Bt (mg : Str → Option Value) : Prop where
  len : mg "len" = none
  range : mg "range" = none
  isinstance : mg "isinstance" = none
  int : mg "int" = none
  bool : mg "bool" = none
  str : mg "str" = none
  list : mg "list" = none
  tuple : mg "tuple" = none
  dict : mg "dict" = none
  set : mg "set" = none
  sorted : mg "sorted" = none
  max : mg "max" = none
  min : mg "min" = none
  sum : mg "sum" = none
  any : mg "any" = none
  all : mg "all" = none
  abs : mg "abs" = none
  reversed : mg "reversed" = none
  enumerate : mg "enumerate" = none
  zip : mg "zip" = none
/-- all but lists stay: what FmAt and its like lean on -/
def Ext (H H' : Hp) : Prop := ∀ b o, H b = some o → (∀ xs, o ≠ .lst xs) → H' b = some o
theorem Ext.trans {H H1 H2 : Hp} (a : Ext H H1) (b : Ext H1 H2) : Ext H H2 := fun c o h n => b c o (a c o h n) n
theorem Ext.of {H H' : Hp} (a : Same H H') : Ext H H' := fun b o h _ => a b o h
theorem cut_mid (xs : List V) (i j : Nat) : cutV xs (some (i : Int)) (some (j : Int)) = (xs.drop i).take (j - i) := by
  unfold cutV
  rw [HT.sIx_nat, HT.sIx_nat]
  by_cases hi : i ≤ xs.length
  · rw [Nat.min_eq_left hi]
    by_cases hj : j ≤ xs.length
    · rw [Nat.min_eq_left hj]
    · rw [Nat.min_eq_right (by omega), List.take_of_length_le (by rw [List.length_drop]; omega), List.take_of_length_le (by rw [List.length_drop]; omega)]
  · rw [Nat.min_eq_right (show xs.length ≤ i by omega), List.drop_eq_nil_of_le (Nat.le_refl _), List.drop_eq_nil_of_le (show xs.length ≤ i by omega)]
    simp
theorem map_int_mid (ns : List Int) (i j : Nat) : ((ns.map V.int).drop i).take j = ((ns.drop i).take j).map V.int := by
  rw [List.map_take, List.map_drop]
theorem get_int {ns : List Int} {i : Nat} {x : V} (h : (ns.map V.int)[i]? = some x) : ∃ n, x = V.int n ∧ ns[i]? = some n := by
  rw [List.getElem?_map] at h
  cases e : ns[i]? with
  | none => rw [e] at h; cases h
  | some n => rw [e] at h; exact ⟨n, (Option.some.inj h).symm, rfl⟩
section
variable {K : PySem.W.Frag} {H : Hp} {Q : VK}
theorem j_lst {xs : List V} (z : xs.length ≤ 1000000) (h : ∀ (p : Addr) (H' : Hp), Same H H' → H p = none → H' p = some (.lst xs) → Q (.ref p) H') : NewL xs H Q :=
  ⟨small z, fun p hp => h p _ (same_new hp _) hp upd_same⟩
theorem j_tup {xs : List V} (z : xs.length ≤ 1000000) (h : ∀ (p : Addr) (H' : Hp), Same H H' → H p = none → H' p = some (.tup xs) → Q (.ref p) H') : NewT xs H Q :=
  ⟨small z, fun p hp => h p _ (same_new hp _) hp upd_same⟩
theorem j_sl {p : Addr} {xs ys : List V} {lo hi : Option Int} (h : SqL K H p xs) (e : cutV xs lo hi = ys) (k : ∀ (l : Addr) (H' : Hp), Same H H' → H l = none → H' l = some (.lst ys) → Q (.ref l) H') : rSlG K (.ref p) lo hi H Q :=
  i_slS h fun l hl => by rw [e]; exact k l _ (same_new hl _) hl upd_same
theorem j_list {p : Addr} {ys : List V} (h : SqL K H p ys ∨ SqT K H p ys) (k : ∀ (l : Addr) (H' : Hp), Same H H' → H l = none → H' l = some (.lst ys) → Q (.ref l) H') : rListOf K [.ref p] H Q :=
  ⟨p, ys, rfl, h, fun l hl => k l _ (same_new hl _) hl upd_same⟩
/-- all but the list at l stays -/
def But (l : Addr) (H H' : Hp) : Prop := ∀ b o, b ≠ l → H b = some o → H' b = some o
theorem But.ext {l : Addr} {H H' : Hp} {xs : List V} (h : H l = some (.lst xs)) (s : But l H H') : Ext H H' := fun b o e n => s b o (ne_of e h (n xs)) e
theorem But.same {l : Addr} {H0 H H' : Hp} (s : But l H H') (h0 : H0 l = none) (s0 : Same H0 H) : Same H0 H' := fun b o e => s b o (ne_of_none e h0) (s0 b o e)
theorem but_upd {l : Addr} {H : Hp} {o : HO} : But l H (upd H l o) := fun b u n e => by rw [upd_ne n]; exact e
theorem j_append {l : Addr} {xs : List V} {y : V} (h : H l = some (.lst xs)) (z : xs.length < 1000000) (k : ∀ H' : Hp, But l H H' → H' l = some (.lst (xs ++ [y])) → Q .non H') : rAppend (.ref l) [y] H Q := i_append h (smallL z) (k _ but_upd upd_same)
theorem j_clear {l : Addr} {xs : List V} (h : H l = some (.lst xs)) (k : ∀ H' : Hp, But l H H' → H' l = some (.lst []) → Q .non H') : rClear (.ref l) [] H Q := i_clear h (k _ but_upd upd_same)
theorem j_extend {l b : Addr} {xs zs : List V} (h : H l = some (.lst xs)) (h2 : H b = some (.lst zs)) (z : xs.length + zs.length ≤ 1000000) (k : ∀ H' : Hp, But l H H' → H' l = some (.lst (xs ++ zs)) → Q .non H') : rExtend (.ref l) [.ref b] H Q := i_extend h h2 (small z) (k _ but_upd upd_same)
end
end L2

set_option maxRecDepth 100000
set_option maxHeartbeats 4000000
namespace L2
open PySem PySem.Spec PyProof.Rows
def cxComp (X : Cx) (x : Str) (ns : List Str) (scope : Scope) (cl : List (Str × Addr)) (s : Shared) (H : Hp) (ex : List Addr) : Cx where
  prog := X.prog
  w := X.w
  K := X.K
  mg := X.mg
  base := X.base
  A := X.A
  N := x :: ns
  s₀ := s
  H₀ := H
  env := compEnvC scope cl s.heap.objs.size X.env
  outer := X.stack
  stack := X.stack
  ex := ex
  fn := fun _ => false
  calm := X.calm
  pn := []
  xe := fun _ _ => False
/-- the slots that the block takes from around -/
def subS (σ : St) (ix : List Nat) : St := ix.map fun k => (σ[k]?).join
/-- the block's names: its own one, x; those it takes from around, ns, at the places ix of the frame around -/
def CompOk (sc : Scope) (N : List Str) (x : Str) (ns : List Str) (ix : List Nat) (scope : Scope) : Prop :=
  scope.kind = .function ∧ (∀ y ∈ scope.names, y.2 ≠ .cell ∧ (y.2 = .local → scope.names.lookup y.1 = some .local) ∧ (y.2 = .free → sc.names.lookup y.1 = some .cell ∨ sc.names.lookup y.1 = some .free)) ∧
  scope.names.lookup x = some .local ∧ (∀ y ∈ ns, scope.names.lookup y = some .free) ∧ (ix.map fun k => N[k]?) = ns.map some ∧ (x :: ns).Nodup
instance (sc : Scope) (N : List Str) (x : Str) (ns : List Str) (ix : List Nat) (scope : Scope) : Decidable (CompOk sc N x ns ix scope) := by unfold CompOk; infer_instance
/-- what the walk of the block is to show, the iterator J in hand -/
def CompG (J : It) (ix : List Nat) (tc : TT) (te : TE) (σ : St) (Q : VK) (H1 : Hp) : Prop := ∀ acc, H1 acc = none → ∃ W : Nat → Nat → List V → Hp → Prop, (∃ m, W 0 m [] (upd H1 acc (.lst []))) ∧
  ∀ i m ys H, W i m ys H → (J.stop i H ∧ Q (.ref acc) H) ∨ (J.go i H ∧ ∀ x H', J.yld i H x H' → tc (some x :: subS σ ix) H' fun b H2 =>
    if b = true then te (some x :: subS σ ix) H2 fun y H3 => H3 acc = some (.lst ys) ∧ ys.length < sizeLine ∧ ∃ m', m' < m ∧ W (i + 1) m' (ys ++ [y]) (upd H3 acc (.lst (ys ++ [y]))) else ∃ m', m' < m ∧ W (i + 1) m' ys H2)
def tComp (wi : TI) (ix : List Nat) (tc : TT) (te : TE) : TE := fun σ H Q => wi σ H fun J H1 => CompG J ix tc te σ Q H1
theorem lookup_mem {α β : Type} [BEq α] [LawfulBEq α] : ∀ {l : List (α × β)} {a : α} {b : β}, l.lookup a = some b → (a, b) ∈ l
  | [], _, _, h => by simp at h
  | (k, v) :: r, a, b, h => by
    rw [List.lookup_cons] at h
    cases e : a == k with
    | true =>
      rw [e] at h
      have : a = k := by simpa using e
      subst this
      cases h
      exact List.mem_cons_self
    | false =>
      rw [e] at h
      exact List.mem_cons_of_mem _ (lookup_mem h)
theorem closure_go {env : Env} : ∀ (names : List (Str × NameKind)) (acc : List (Str × Addr)), (∀ y ∈ names, y.2 = .free → ∃ c, env.cells.lookup y.1 = some c) → (∀ y c, acc.lookup y = some c → env.cells.lookup y = some c) →
    ∃ cl, (forIn names acc fun x r => match x with | (name, kind) => if (kind == NameKind.free) = true then (do let a ← cellOf env name; pure (ForInStep.yield ((name, a) :: r))) else pure (ForInStep.yield r) : Sem (List (Str × Addr))) = pure cl ∧
      (∀ y c, cl.lookup y = some c → env.cells.lookup y = some c) ∧ (∀ y, (∃ c, acc.lookup y = some c) → ∃ c, cl.lookup y = some c) ∧ ∀ y ∈ names, y.2 = .free → ∃ c, cl.lookup y.1 = some c
  | [], acc, _, ha => ⟨acc, rfl, ha, fun _ h => h, fun _ h => nomatch h⟩
  | (name, kind) :: r, acc, hn, ha => by
    cases hk : kind == NameKind.free with
    | false =>
      obtain ⟨cl, e, h1, h2, h3⟩ := closure_go r acc (fun y hy => hn y (List.mem_cons_of_mem _ hy)) ha
      refine ⟨cl, ?_, h1, h2, fun y hy hf => ?_⟩
      · rw [List.forIn_cons]
        simp only [hk, Bool.false_eq_true, if_false]
        exact e
      · rcases List.mem_cons.mp hy with rfl | hy
        · have : kind = .free := hf
          subst this
          simp at hk
        · exact h3 y hy hf
    | true =>
      have hkf : kind = .free := by simpa using hk
      obtain ⟨c, hc⟩ := hn (name, kind) List.mem_cons_self hkf
      have hc : env.cells.lookup name = some c := hc
      obtain ⟨cl, e, h1, h2, h3⟩ := closure_go r ((name, c) :: acc) (fun y hy => hn y (List.mem_cons_of_mem _ hy)) (fun y c' hy => by
        rw [List.lookup_cons] at hy
        cases e : y == name with
        | true =>
          rw [e] at hy
          have : y = name := by simpa using e
          subst this
          cases hy
          exact hc
        | false =>
          rw [e] at hy
          exact ha y c' hy)
      refine ⟨cl, ?_, h1, fun y hy => h2 y ?_, fun y hy hf => ?_⟩
      · rw [List.forIn_cons]
        simp only [hk, if_true]
        have : cellOf env name = pure c := by unfold cellOf; rw [hc]
        rw [this]
        exact e
      · obtain ⟨c', hc'⟩ := hy
        rw [List.lookup_cons]
        cases y == name
        · exact ⟨c', hc'⟩
        · exact ⟨c, rfl⟩
      · rcases List.mem_cons.mp hy with rfl | hy
        · exact h2 _ ⟨c, by rw [List.lookup_cons]; simp⟩
        · exact h3 y hy hf
theorem closure_ok {env : Env} (scope : Scope) (h : ∀ y ∈ scope.names, y.2 = .free → ∃ c, env.cells.lookup y.1 = some c) :
    ∃ cl, closureFor scope env = pure cl ∧ (∀ y c, cl.lookup y = some c → env.cells.lookup y = some c) ∧ ∀ y ∈ scope.names, y.2 = .free → ∃ c, cl.lookup y.1 = some c := by
  obtain ⟨cl, e, h1, _, h3⟩ := closure_go (env := env) scope.names [] h (fun _ _ z => by simp at z)
  refine ⟨cl, ?_, h1, h3⟩
  show ((forIn scope.names [] fun x r => match x with | (name, kind) => if (kind == NameKind.free) = true then (do let a ← cellOf env name; pure (ForInStep.yield ((name, a) :: r))) else pure (ForInStep.yield r) : Sem (List (Str × Addr))) >>= fun s => pure s) = pure cl
  rw [e]
  rfl
/-- a name's kind within the block -/
theorem relabel_kind {env : Env} : ∀ (names : List (Str × NameKind)) (y : Str), (names.map fun (n, k) => if (k == NameKind.free && env.scope.kind == .function && env.kindOf n == some .cell) then (n, NameKind.cell) else (n, k)).lookup y =
    (names.lookup y).map fun k => if (k == NameKind.free && env.scope.kind == .function && env.kindOf y == some .cell) = true then NameKind.cell else k
  | [], y => by simp
  | (n, k) :: r, y => by
    have ih := relabel_kind (env := env) r y
    rw [List.map_cons, List.lookup_cons]
    cases e : y == n with
    | true =>
      have ey : y = n := by simpa using e
      subst ey
      by_cases hc : (k == NameKind.free && env.scope.kind == .function && env.kindOf y == some .cell) = true
      · simp only [hc, if_true, List.lookup_cons, beq_self_eq_true, Option.map_some]
      · simp only [hc, if_false, List.lookup_cons, beq_self_eq_true, Option.map_some, Bool.false_eq_true]
    | false =>
      by_cases hc : (k == NameKind.free && env.scope.kind == .function && env.kindOf n == some .cell) = true
      · simp only [hc, if_true, List.lookup_cons, e]; exact ih
      · simp only [hc, if_false, List.lookup_cons, e, Bool.false_eq_true]; exact ih
section
variable {X : Cx} {pins : List (Addr × Obj)} {σ : St} {H : Hp} {s : Shared} {cl : List (Str × Addr)} {x : Str} {ns : List Str} {ix : List Nat} {sc scope : Scope} {N : List Str} {fp : List Addr}
theorem fp_comp (I : Inv X pins σ H s) (f : ∀ b ∈ fp, FpOk X pins H b) (hlt : ∀ b ∈ fp, b < s.heap.objs.size) (hcl : ∀ y c, cl.lookup y = some c → X.env.cells.lookup y = some c) {H' : Hp} (hn : ∀ b ∈ fp, H' b = none) : ∀ b ∈ fp, FpOk (cxComp X x ns scope cl s H fp) [] H' b := fun b hb => by
  obtain ⟨f0, f1, f2, f3, f4, f5⟩ := f b hb
  refine ⟨hn b hb, Nat.ne_of_lt (hlt b hb), fun z => ?_, .inl hb, fun y c e => f4 y c (hcl y c e), fun p hp => ?_⟩
  · rcases List.mem_cons.mp (I.stkSub b z) with z | z
    · exact f1 z
    · exact f2 z
  · exact absurd (show p ∈ ([] : List (Addr × Obj)) from hp) (by simp)
theorem inv_comp {h1 : Heap} {m : Str → Option Value} {t' : Nat} (I : Inv X pins σ H s) (hsc : X.env.scope = sc) (hN : X.N = N) (C : CompOk sc N x ns ix scope) (hcl : ∀ y c, cl.lookup y = some c → X.env.cells.lookup y = some c)
    (hcla : ∀ y ∈ scope.names, y.2 = .free → ∃ c, cl.lookup y.1 = some c) (f : ∀ b ∈ fp, FpOk X pins H b) (hlt : ∀ b ∈ fp, b < s.heap.objs.size) (hn : h1.Ns s.heap.objs.size m) (hk : ∀ b o, s.heap.get? b = some o → h1.get? b = some o) :
    Inv (cxComp X x ns scope cl s H fp) [] (none :: subS σ ix) H { s with heap := h1, toks := t' } := by
  obtain ⟨c1, c2, c3, c4, c5, c6⟩ := C
  have kind : ∀ y, (relabel scope X.env).names.lookup y = (scope.names.lookup y).map fun k => if (k == NameKind.free && X.env.scope.kind == .function && X.env.kindOf y == some .cell) = true then NameKind.cell else k := fun y => relabel_kind scope.names y
  have fr : ∀ y, ((relabel scope X.env).names.lookup y = some .cell ∨ (relabel scope X.env).names.lookup y = some .free) → scope.names.lookup y = some .free := fun y h => by
    rw [kind y] at h
    cases e : scope.names.lookup y with
    | none => rw [e] at h; simp at h
    | some k =>
      rw [e] at h
      have hm := lookup_mem e
      cases k with
      | free => rfl
      | cell => exact absurd rfl (c2 _ hm).1
      | «local» => simp at h
      | globalExplicit => simp at h
      | globalImplicit => simp at h
  have fr' : ∀ y, scope.names.lookup y = some .free → (relabel scope X.env).names.lookup y = some .cell ∨ (relabel scope X.env).names.lookup y = some .free := fun y h => by
    rw [kind y, h]
    by_cases hc : (NameKind.free == NameKind.free && X.env.scope.kind == .function && X.env.kindOf y == some .cell) = true
    · left; rw [Option.map_some, if_pos hc]
    · right; rw [Option.map_some, if_neg hc]
  have noC : ∀ p : Addr × Obj, p ∉ (cxComp X x ns scope cl s H fp).pn ++ [] := fun p hp => absurd (show p ∈ ([] : List (Addr × Obj)) from hp) (by simp)
  have lenE : ix.length = ns.length := by
    have := congrArg List.length c5
    rwa [List.length_map, List.length_map] at this
  refine ⟨⟨I.ok.mod, c1, I.ok.glob, I.ok.blt, Nat.le_refl _, fun y z c h1 h2 => I.ok.inj y z c (hcl y c h1) (hcl z c h2), fun y hy => ?_, fun y c hy => absurd hy (by simp [cxComp]), I.ok.hd, I.ok.frames, .inl rfl, fun b hb => ?_, I.bs,
    Nat.le_trans I.ok.bsz I.sz, fun b o e hb => ?_, fun b hb => ?_, I.stack, I.stkFree⟩, rfl, I.bare, Un.kept hk, ⟨m, hn, fun i y v e1 e2 e3 => ?_⟩, fun y c e => ?_, I.hok.fresh (Nat.le_refl _), fun y c e => I.freeC y c (hcl y c e), fun p hp => absurd hp (noC p), I.hok.kept hk, ?_⟩
  · exact hcla _ (lookup_mem (fr y hy)) rfl
  · obtain ⟨f0, f1, f2, f3, f4, f5⟩ := f b hb
    exact ⟨Nat.ne_of_lt (hlt b hb), fun y c e => f4 y c (hcl y c e)⟩
  · obtain ⟨f0, f1, f2, f3, f4, f5⟩ := f b hb
    rcases f3 with z | z
    · exact I.ok.noex b o e z
    · exact absurd (Nat.lt_of_lt_of_le (Heap.lt_size (I.ok.bs b o e).1) z) (Nat.lt_irrefl _)
  · obtain ⟨f0, f1, f2, f3, f4, f5⟩ := f b hb
    intro z
    rcases List.mem_cons.mp (I.stkSub b z) with z | z
    · exact f1 z
    · exact f2 z
  · cases i with
    | zero => cases e2
    | succ j =>
      have e1' : ns[j]? = some y := e1
      have e2' : (ix.map fun k => (σ[k]?).join)[j]? = some (some v) := e2
      have e5 := congrArg (fun l => l[j]?) c5
      simp only [List.getElem?_map, e1', Option.map_some] at e5 e2'
      cases ek : ix[j]? with
      | none => rw [ek] at e5; cases e5
      | some k =>
        rw [ek] at e5 e2'
        have eN : N[k]? = some y := by simpa using e5
        have eσ : (σ[k]?).join = some v := by simpa using e2'
        have eσ' : σ[k]? = some (some v) := by
          cases q : σ[k]? with
          | none => rw [q] at eσ; cases eσ
          | some w => rw [q] at eσ; have : w = some v := eσ; rw [this]
        have hy := c4 y (List.mem_of_getElem? e1')
        have hk' := (c2 _ (lookup_mem hy)).2.2 rfl
        rw [← hsc] at hk'
        obtain ⟨m0, hn0, hl⟩ := I.loc
        obtain ⟨u, r, l⟩ := hl k y v (by rw [hN]; exact eN) eσ' (.inr hk')
        refine ⟨u, r, ?_⟩
        rcases l with ⟨kl, _⟩ | ⟨_, c, ec, z⟩
        · exfalso
          have kl : X.env.scope.names.lookup y = some .local := kl
          rw [kl] at hk'
          rcases hk' with z | z <;> cases z
        · obtain ⟨c', ec'⟩ := hcla _ (lookup_mem hy) rfl
          have ee : c' = c := by
            have := hcl y c' ec'
            rw [ec] at this
            exact (Option.some.inj this).symm
          subst ee
          obtain ⟨o, ho, hd⟩ := z
          exact .inr ⟨fr' y hy, c', ec', ⟨o, hk _ _ ho, hd⟩⟩
  · obtain ⟨v, o, ho, hd⟩ := I.cell y c (hcl y c e)
    exact ⟨v, o, hk _ _ ho, hd⟩
  · show (none :: subS σ ix).length = (x :: ns).length
    rw [List.length_cons, List.length_cons]
    unfold subS
    rw [List.length_map, lenE]
end
theorem wp_of_pure {α β : Type} {M : Model} {A : Around} {a : α} {P : α → Shared → Prop} {E E' : Value → Shared → Prop} {s s' : Shared} {t : Sem β} {Q : β → Shared → Prop} (h : wpAny M A (pure a) P E s) (k : P a s → wpAny M A t Q E' s') : wpAny M A t Q E' s' :=
  fun Γ p hi => k (h Γ p hi) Γ p hi
/-- the tests of a comprehension -/
def PTs (X : Cx) (ifs : List Expr) (t : TT) : Prop :=
  ∀ (pins : List (Addr × Obj)) (s : Shared) (σ : St) (H : Hp) (Q : Bool → Hp → Prop), Inv X pins σ H s → t σ H Q →
    wpAny (model X.prog X.w) X.A (forIn ifs true fun c r => if r = true then do let ok ← isTrue c X.env (eval c X.env); pure (ForInStep.yield ok) else pure (ForInStep.yield r)) (TP X pins σ Q) X.xe s
def tNoIf : TT := fun _ H Q => Q true H
theorem pts_nil {X : Cx} : PTs X [] tNoIf := fun _ _ _ H _ I h => wpAny_tests_nil ⟨H, I, h⟩
theorem pts_one {X : Cx} {c : Expr} {t : TT} (h : PT X c t) : PTs X [c] t := fun pins s σ H Q I q => wpAny_tests_one (h pins s σ H Q I q)
section
variable {X : Cx} {pins : List (Addr × Obj)} {σ : St} {H : Hp} {s : Shared} {cl : List (Str × Addr)} {x : Str} {ns : List Str} {ix : List Nat} {sc scope : Scope} {N : List Str} {fp : List Addr} {elt iter : Expr} {px pos : Pos} {ifs : List Expr} {tc : TT} {te : TE} {wi : TI}
theorem comp_run {E : Value → Shared → Prop} {J : It} {it : Addr} {tn : Nat → Heap → Prop} {Q : VK} {RR : Value → Addr → Result → Shared → Prop} (hsc : X.env.scope = sc) (hN : X.N = N) (C : CompOk sc N x ns ix scope) (hc : X.calm = true)
    (ht : ∀ cl s H ex, PTs (cxComp X x ns scope cl s H ex) ifs tc) (he : ∀ cl s H ex, PE (cxComp X x ns scope cl s H ex) elt te) (I : Inv X pins σ H s) (hcl : ∀ y c, cl.lookup y = some c → X.env.cells.lookup y = some c)
    (hcla : ∀ y ∈ scope.names, y.2 = .free → ∃ c, cl.lookup y.1 = some c) (T : Turn X.prog X.w X.K (.Name x px) J fp it tn) (st : tn 0 s.heap) (f : ∀ b ∈ fp, FpOk X pins H b) (h : CompG J ix tc te σ Q H)
    (fin : ∀ D C m s' H', Inv X pins σ H' s' → s'.heap.Ns C m → FpOk X pins H' C → Q (.ref D) H' → RR (.ref D) C (.ok .next) s') :
    wpAny (model X.prog X.w) X.A (newList []) (fun ja s3 => wpAny (model X.prog X.w) X.A (newFunctionEnv scope X.env.globals cl [] X.env.qual none .none (some X.env)) (fun ce s4 =>
      codeAny (model X.prog X.w) X.A (.compStart (.ListComp elt [⟨.Name x px, iter, ifs, 0⟩] scope pos) 0 (.ref it) ja { ce with scope := relabel scope X.env }) (RR ja ce.locals) s4) E s3) E s := by
  have hC := C
  obtain ⟨c1, c2, c3, c4, c5, c6⟩ := C
  have hfr : H s.heap.objs.size = none := I.hok.fresh (Nat.le_refl _)
  obtain ⟨W, ⟨m0, w0⟩, turn⟩ := h _ hfr
  refine wpAny_newObj_type (wpAny_newFunctionEnv (fun y hy => (c2 y hy).1) (by intro y hy; simp at hy) (fun h1 hn1 hs1 => ?_) c1)
  have I3 := I.lnew (its := []) (ys := []) (t' := s.toks) .nil (Nat.zero_le _)
  have hlt0 : ∀ b ∈ fp, b < s.heap.objs.size := fun b hb => by
    obtain ⟨o, ho, _⟩ := T.obj _ _ st b hb
    exact Heap.lt_size ho
  generalize hs3 : ({ s with heap := s.heap.push { cls := .type "list", data := .seq ([] : List Value).toArray }, toks := s.toks } : Shared) = s3 at I3
  have e3 : s3.heap = s.heap.push { cls := .type "list", data := .seq ([] : List Value).toArray } := by rw [← hs3]
  have sz3 : s3.heap.objs.size = s.heap.objs.size + 1 := by rw [e3, Heap.size_push]
  have f3 : ∀ b ∈ fp, FpOk X pins (upd H s.heap.objs.size (.lst [])) b := fun b hb => ⟨by rw [upd_ne (Nat.ne_of_lt (hlt0 b hb))]; exact (f b hb).1, (f b hb).2⟩
  have hlt : ∀ b ∈ fp, b < s3.heap.objs.size := fun b hb => by rw [sz3]; exact Nat.lt_succ_of_lt (hlt0 b hb)
  have hk : ∀ b o, s3.heap.get? b = some o → h1.get? b = some o := fun b o e => by
    refine (hs1.2 b ?_).trans (Heap.get?_push_of_some _ ?_)
    · have := Heap.lt_size e
      rw [sz3] at this
      show b ≠ (s.heap.push _).objs.size
      rw [Heap.size_push]
      exact Nat.ne_of_lt this
    · rw [e3] at e; exact e
  have hn3 : h1.Ns s3.heap.objs.size (fun y => ([] : List (Str × Value)).reverse.lookup y) := by rw [e3]; exact hn1
  have I4 := inv_comp (t' := s3.toks + ([] : List (Str × Value)).length) I3 hsc hN hC hcl hcla f3 hlt hn3 hk
  have st4 : tn 0 h1 := T.keep _ _ _ st fun b hb o e => hk b o (by rw [e3]; exact Heap.get?_push_of_some _ e)
  have stat : ∀ {H' : Hp}, (∀ b ∈ fp, H' b = none) → ∀ b ∈ fp, FpOk (cxComp X x ns scope cl s3 (upd H s.heap.objs.size (.lst [])) fp) [] H' b := fun {H'} hn => fp_comp I3 f3 hlt hcl hn
  have loop : ∀ s4 : Shared, s4 = { s3 with heap := h1, toks := s3.toks + ([] : List (Str × Value)).length } →
      codeAny (model X.prog X.w) X.A (.compLoop (.ListComp elt [⟨.Name x px, iter, ifs, 0⟩] scope pos) 0 (.ref it) (.ref s.heap.objs.size) (compEnvC scope cl s3.heap.objs.size X.env)) (RR (.ref s.heap.objs.size) s3.heap.objs.size) s4 := by
    rintro s4 rfl
    refine codeAny_compLoop_tests (fun n s' => ∃ i v0 ys H', Inv (cxComp X x ns scope cl s3 (upd H s.heap.objs.size (.lst [])) fp) [] (v0 :: subS σ ix) H' s' ∧ tn i s'.heap ∧ (∀ b ∈ fp, H' b = none) ∧ W i n ys H') ?_ m0 ⟨0, none, [], _, I4, st4, fun b hb => (f3 b hb).1, w0⟩
    rintro n s5 ⟨i, v0, ys, H5, I5, st5, fr5, w5⟩
    rcases turn i n ys H5 w5 with ⟨stop, q⟩ | ⟨go, step⟩
    · refine wpAny_mono (T.done (cxComp X x ns scope cl s3 (upd H s.heap.objs.size (.lst [])) fp) rfl rfl rfl hc i [] s5 _ H5 _ I5 (stat fr5) st5 stop) (fun r s6 hr => ?_) fun _ _ e => e
      obtain ⟨hr, I6⟩ := hr
      subst hr
      obtain ⟨m6, hn6, _⟩ := id I6.loc
      refine fin _ _ m6 s6 H5 (I3.call' I6.os I6.base I6.hok I6.bare fun b hb => ?_) hn6 (I3.fpOk (Nat.le_refl _) I6.free) q
      obtain ⟨g0, g1, g2, g3, g4, g5⟩ := f3 b hb
      exact ⟨g3, g1, g4, g5⟩
    · refine wpAny_mono (T.item (cxComp X x ns scope cl s3 (upd H s.heap.objs.size (.lst [])) fp) rfl rfl rfl hc i [] s5 _ H5 _ I5 (stat fr5) st5 go) (fun r s6 hr => ?_) fun _ _ e => e
      obtain ⟨u, hr, h6⟩ := hr
      subst hr
      refine wp_of_pure (a := ()) h6 fun q6 => ?_
      obtain ⟨xv, H6, I6, r6, y6, st6, fr6⟩ := q6
      have I6' := I6.pinned (stat fr6) (T.obj _ _ st6)
      have again : ∀ {m' : Nat} {ys' : List V} {H7 : Hp} {s7 : Shared}, Inv (cxComp X x ns scope cl s3 (upd H s.heap.objs.size (.lst [])) fp) ([] ++ pinsAt fp s6.heap) (some xv :: subS σ ix) H7 s7 → W (i + 1) m' ys' H7 →
          ∃ i v0 ys H', Inv (cxComp X x ns scope cl s3 (upd H s.heap.objs.size (.lst [])) fp) [] (v0 :: subS σ ix) H' s7 ∧ tn i s7.heap ∧ (∀ b ∈ fp, H' b = none) ∧ W i m' ys H' := fun {m' ys' H7 s7} I7 w7 => by
        refine ⟨i + 1, some xv, ys', H7, I7.unpinned, T.keep _ _ _ st6 fun b hb o e => (I7.pin (b, o) (List.mem_append_right _ (List.mem_append_right _ (mem_pinsAt hb e)))).1, fun b hb => ?_, w7⟩
        obtain ⟨o, e, d⟩ := T.obj _ _ st6 b hb
        exact (I7.pin (b, o) (List.mem_append_right _ (List.mem_append_right _ (mem_pinsAt hb e)))).2.1
      have lx : (relabel scope X.env).names.lookup x = some .local := lookup_relabel_local c3
      refine wpAny_mono (pg_name (X := cxComp X x ns scope cl s3 (upd H s.heap.objs.size (.lst [])) fp) (i := 0) (x := x) (pos := px) c6 rfl (.inl lx) (.inr lx) _ s6 _ H6 xv u (fun σ' H' => σ' = some xv :: subS σ ix ∧ H' = H6) I6' r6 ⟨rfl, rfl⟩) (fun _ s7 h7 => ?_) fun _ _ e => e.elim
      obtain ⟨σ7, H7, I7, rfl, rfl⟩ := h7
      refine wpAny_mono (ht cl s3 _ fp _ s7 _ _ _ I7 (step xv _ y6)) (fun b s8 h8 => ?_) fun _ _ e => e.elim
      obtain ⟨H8, I8, q8⟩ := h8
      cases b with
      | false =>
        rw [if_neg Bool.false_ne_true] at q8 ⊢
        obtain ⟨m', hm, w8⟩ := q8
        exact ⟨m', hm, again I8 w8⟩
      | true =>
        rw [if_pos rfl] at q8 ⊢
        refine wpAny_mono (he cl s3 _ fp _ s8 _ _ _ I8 q8) (fun uy s9 h9 => ?_) fun _ _ e => e.elim
        obtain ⟨y, H9, I9, r9, hacc, hz, m', hm, w9⟩ := h9
        refine wpAny_mono (mt_append (X := cxComp X x ns scope cl s3 (upd H s.heap.objs.size (.lst [])) fp) _ s9 _ H9 (.ref s.heap.objs.size) [y] _ [uy] (fun v H' => H' = upd H9 s.heap.objs.size (.lst (ys ++ [y]))) I9 rfl (.cons r9 .nil) ⟨_, ys, y, rfl, rfl, hacc, hz, rfl⟩) (fun _ s10 h10 => ?_) fun _ _ e => e.elim
        obtain ⟨v, H10, I10, _, rfl⟩ := h10
        exact ⟨m', hm, again I10 w9⟩
  exact codeAny_compStart_list (loop _ rfl) (T.self _ 0 _ _ _ st4 (loop _ rfl))
theorem pe_comp (hsc : X.env.scope = sc) (hN : X.N = N) (C : CompOk sc N x ns ix scope) (hc : X.calm = true) (hi : PI X (.Name x px) iter wi) (ht : ∀ cl s H ex, PTs (cxComp X x ns scope cl s H ex) ifs tc) (he : ∀ cl s H ex, PE (cxComp X x ns scope cl s H ex) elt te)
    (hs : ∀ v, foldedSetIterable iter X.env v = pure v := by intro _; rfl) : PE X (.ListComp elt [⟨.Name x px, iter, ifs, 0⟩] scope pos) (tComp wi ix tc te) := by
  intro pins s σ H Q I h
  obtain ⟨cl, hclos, hcl, hcla⟩ := closure_ok (env := X.env) scope fun y hy hf => I.ok.has y.1 (by
    have := (C.2.1 y hy).2.2 hf
    rw [← hsc] at this
    exact this)
  rw [eval_ListComp]
  refine wpAny_comprehension_free (use := none) rfl hs hclos C.1 (fun y hy => (C.2.1 y hy).2.1) (thn (hi pins s σ H _ I h) fun v s1 h1 => thn h1 fun itv s2 h2 => ?_)
  obtain ⟨it, fp, tn, J, H2, rfl, I2, T, st2, f2, hg⟩ := h2
  refine comp_run (RR := fun ja C => compPost (model X.prog X.w) X.A X.xe none (EP X pins σ Q) ja C) hsc hN C hc ht he I2 hcl hcla T st2 f2 hg ?_
  intro D C' m s' H' I' hn' fC q
  obtain ⟨g0, g1, g2, g3, g4, g5⟩ := fC
  exact ⟨m, hn', fun h' hs' => ⟨.ref D, H', I'.turned (t' := s'.toks) (fun b o hb e => hs'.extBut b o hb e) g0 (Ne.symm (Ne.symm g1)) g3 g4 g5, rfl, q⟩⟩
/-- y = [..] where the name is no cell -/
theorem ps_comp {y : Str} {py spos : Pos} (i : Nat) (hNd : X.N.Nodup) (hsc : X.env.scope = sc) (hN : X.N = N) (C : CompOk sc N x ns ix scope) (hc : X.calm = true) (hi : PI X (.Name x px) iter wi) (ht : ∀ cl s H ex, PTs (cxComp X x ns scope cl s H ex) ifs tc) (he : ∀ cl s H ex, PE (cxComp X x ns scope cl s H ex) elt te)
    (hs : ∀ v, foldedSetIterable iter X.env v = pure v := by intro _; rfl) (hy : X.N[i]? = some y := by rfl) (hl : X.env.scope.names.lookup y = some .local := by rfl)
    (hsw : swapsWith (.ListComp elt [⟨.Name x px, iter, ifs, 0⟩] scope pos) (some (.Name y py)) spos.line X.env = pure true := by rfl) :
    PS X (.Assign [.Name y py] (.ListComp elt [⟨.Name x px, iter, ifs, 0⟩] scope pos) spos) (tAsg (tComp wi ix tc te) (gName i)) := by
  intro pins s σ H D I h
  obtain ⟨cl, hclos, hcl, hcla⟩ := closure_ok (env := X.env) scope fun y hy hf => I.ok.has y.1 (by
    have := (C.2.1 y hy).2.2 hf
    rw [← hsc] at this
    exact this)
  rw [exec_Assign_Name_used _ _ _ _ hsw]
  refine wpAny_bind (wpAny_standAt (wpAny_bind ?_))
  show wpAny _ X.A (do let _ ← comprehension (.ListComp elt [⟨.Name x px, iter, ifs, 0⟩] scope pos) scope X.env _ (newList []) false (eval iter X.env) (some (assign (.Name y py) X.env))) _ _ s
  refine wpAny_bind (wpAny_mono (wpAny_comprehension_free (use := some (assign (.Name y py) X.env)) (Q := fun _ s' => SP X pins D .next s') rfl hs hclos C.1 (fun y hy => (C.2.1 y hy).2.1)
    (thn (hi pins s σ H _ I h) fun v s1 h1 => thn h1 fun itv s2 h2 => ?_)) (fun _ s' hq => wpAny_pure (wpAny_pure hq)) fun _ _ e => e)
  obtain ⟨it, fp, tn, J, H2, rfl, I2, T, st2, f2, hg⟩ := h2
  refine comp_run (RR := fun ja C => compPost (model X.prog X.w) X.A X.xe (some (assign (.Name y py) X.env)) (fun _ s' => SP X pins D .next s') ja C) hsc hN C hc ht he I2 hcl hcla T st2 f2 hg ?_
  intro D' C' m s' H' I' hn' fC q
  obtain ⟨g0, g1, g2, g3, g4, g5⟩ := fC
  refine wpAny_assign_Name (store_ok2 I' hNd hy (.inl hl) (v := .ref D') rfl (fun s'' I'' hs'' => ?_) (.inr hl))
  obtain ⟨a, sb, ha⟩ := hs''
  have hne : C' ≠ a := by
    rcases ha with ha | ha
    · rw [ha]; exact g1
    · intro z; exact g4 y a ha z.symm
  exact ⟨m, hn'.sameBut sb hne, fun h' hs' => ⟨_, H', I''.turned (t' := s''.toks) (fun b o hb e => hs'.extBut b o hb e) g0 g1 g3 g4 g5, q⟩⟩
end
section
variable {wi : TI} {ix : List Nat} {tc : TT} {te : TE} {σ : St} {H : Hp} {Q : VK} {K : PySem.W.Frag}
theorem i_compR1 {ta : TA} (h : ta σ H fun vs H1 => ∃ j : Int, vs = [.int j] ∧ -(2 ^ 62) ≤ j ∧ j < 2 ^ 62 ∧ CompG (Itr 0 j.toNat) ix tc te σ Q H1) : tComp (iRng1 ta) ix tc te σ H Q := h
def CompS (K : PySem.W.Frag) (x : V) (ix : List Nat) (tc : TT) (te : TE) (σ : St) (Q : VK) (H1 : Hp) : Prop :=
  (∃ a xs, x = .ref a ∧ SqL K H1 a xs ∧ CompG (Itl K a) ix tc te σ Q H1) ∨ (∃ a xs, x = .ref a ∧ SqT K H1 a xs ∧ CompG (Itt K a) ix tc te σ Q H1) ∨ (∃ z, x = .str z ∧ CompG (Its z) ix tc te σ Q H1)
theorem i_compS {tl : TE} (h : tl σ H fun x H1 => CompS K x ix tc te σ Q H1) : tComp (iSeq K tl) ix tc te σ H Q := h
theorem i_noif {BQ : Bool → Hp → Prop} (h : BQ true H) : tNoIf σ H BQ := h
/-- J tells the values xs, one by one, as long as what was tracked at H1 stays -/
def Wk (J : It) (xs : List V) (H1 : Hp) : Prop := ∀ H', Same H1 H' → (∀ i, i < xs.length → J.go i H' ∧ ∀ x H2, J.yld i H' x H2 → H2 = H' ∧ xs[i]? = some x) ∧ J.stop xs.length H'
theorem wk_range (lo : Int) (n : Nat) (H : Hp) : Wk (Itr lo n) ((List.range n).map fun i : Nat => V.int (lo + (i : Int))) H := fun H' _ => by
  refine ⟨fun i hi => ?_, ?_⟩
  · rw [List.length_map, List.length_range] at hi
    refine ⟨hi, fun x H2 y => ?_⟩
    obtain ⟨e, y⟩ := y
    refine ⟨e, ?_⟩
    rw [List.getElem?_map, List.getElem?_range hi, y]
    rfl
  · rw [List.length_map, List.length_range]
    exact Nat.le_refl n
theorem wk_list {a : Addr} {xs : List V} (h : SqL K H a xs) : Wk (Itl K a) xs H := fun H' s => by
  have h' := s.seq h
  refine ⟨fun i hi => ⟨⟨xs, xs[i], h', by simp [hi]⟩, fun x H2 y => ?_⟩, ⟨xs, h', Nat.le_refl _⟩⟩
  obtain ⟨e, y⟩ := y
  exact ⟨e, y xs h'⟩
/-- the loop of a block whose turns leave what was tracked as it was: Pv says what the told list is -/
theorem comp_by {J : It} {xs : List V} (Pv : Nat → List V → Prop) (hw : Wk J xs H) (hz : xs.length ≤ 1000000) (h0 : Pv 0 [])
    (hs : ∀ (i : Nat) (x : V) (ys : List V) (acc : Addr) (H' : Hp), xs[i]? = some x → Same H H' → H acc = none → H' acc = some (.lst ys) → Pv i ys → ys.length ≤ i →
      ∀ R : Bool → Hp → Prop, (∀ b H2, Same H' H2 → (b = false → Pv (i + 1) ys) → (b = true → ∀ R2 : V → Hp → Prop, (∀ y H3, Same H2 H3 → Pv (i + 1) (ys ++ [y]) → R2 y H3) → te (some x :: subS σ ix) H2 R2) → R b H2) → tc (some x :: subS σ ix) H' R)
    (hd : ∀ (acc : Addr) (ys : List V) (H' : Hp), H acc = none → Same H H' → H' acc = some (.lst ys) → Pv xs.length ys → Q (.ref acc) H') : CompG J ix tc te σ Q H := by
  intro acc hacc
  have sU : ∀ {H2 : Hp} (o : HO), Same H H2 → Same H (upd H2 acc o) := fun o s b u e => by rw [upd_ne (ne_of_none e hacc)]; exact s b u e
  refine ⟨fun i m ys H' => m = xs.length - i ∧ i ≤ xs.length ∧ Same H H' ∧ H' acc = some (.lst ys) ∧ Pv i ys ∧ ys.length ≤ i, ⟨xs.length, by simp, Nat.zero_le _, same_new hacc _, upd_same, h0, Nat.le_refl _⟩, ?_⟩
  rintro i m ys H' ⟨rfl, hi, sm, ea, pv, hy⟩
  by_cases hlt : i < xs.length
  · obtain ⟨go, yl⟩ := (hw H' sm).1 i hlt
    refine .inr ⟨go, fun x H2 y => ?_⟩
    obtain ⟨rfl, hx⟩ := yl x H2 y
    refine hs i x ys acc _ hx sm hacc ea pv hy _ fun b H3 s3 pf pt => ?_
    cases b with
    | false =>
      rw [if_neg Bool.false_ne_true]
      exact ⟨xs.length - (i + 1), by omega, rfl, hlt, sm.trans s3, s3 _ _ ea, pf rfl, Nat.le_succ_of_le hy⟩
    | true =>
      rw [if_pos rfl]
      refine pt rfl _ fun y H4 s4 py => ⟨s4 _ _ (s3 _ _ ea), smallL (by omega), xs.length - (i + 1), by omega, rfl, hlt, sU _ (sm.trans (s3.trans s4)), upd_same, py, ?_⟩
      rw [List.length_append, List.length_singleton]
      omega
  · have e : i = xs.length := by omega
    subst e
    exact .inl ⟨(hw H' sm).2, hd acc ys H' hacc sm ea pv⟩
end
section
variable {X : Cx} {K : PySem.W.Frag} {a o : Expr} {ta : TE} {pos : Pos}
theorem ix_seqK (hK : X.K = K) : IxR X (rIx K) := by subst hK; exact ix_seq
theorem call_lenGK (hK : X.K = K) : CallR X (.builtin "len") (rLen K) := by subst hK; exact call_lenG
theorem pt_truthK (hK : X.K = K) (ha : PE X a ta) (he : ∀ whole, isTrue a X.env whole = (do let v ← whole; standAt a.pos; holding [v] (truthy v))) : PT X a (fun σ H Q => ta σ H fun x H' => ∃ k, TruV K x H' k ∧ Q k H') := by subst hK; exact pt_truth ha he
theorem pi_seqK {tg l : Expr} {tl : TE} (hK : X.K = K) (hl : PE X l tl) : PI X tg l (iSeq K tl) := by subst hK; exact pi_seq hl
end
end L2

namespace EM
/-- a bar: the lamps asked for, those that must be lit -/
abbrev Bar := Nat × Nat
def Bar.good (b : Bar) : Prop := b.1 < 64 ∧ b.2 &&& b.1 = b.2
/-- the stand s lies in the bar -/
def lies (s : Nat) (b : Bar) : Bool := (List.range 6).all fun k => !(b.1.testBit k && (b.2.testBit k != s.testBit k))
theorem lies_iff {s : Nat} {b : Bar} : lies s b = true ↔ ∀ k, k < 6 → b.1.testBit k = true → b.2.testBit k = s.testBit k := by
  unfold lies
  rw [List.all_eq_true]
  constructor
  · intro h k hk hb
    have := h k (List.mem_range.mpr hk)
    rw [hb] at this
    simpa using this
  · intro h k hk
    cases hb : b.1.testBit k with
    | false => rfl
    | true =>
      have := h k (List.mem_range.mp hk) hb
      simp [this]
theorem lies_and {s : Nat} {b : Bar} (g : b.good) : decide (s &&& b.1 = b.2) = lies s b := by
  obtain ⟨g1, g2⟩ := g
  have hi : ∀ k, 6 ≤ k → b.1.testBit k = false := fun k hk => Nat.testBit_lt_two_pow (Nat.lt_of_lt_of_le g1 (Nat.pow_le_pow_right (by decide) hk : 2 ^ 6 ≤ 2 ^ k))
  have sub : ∀ k, b.2.testBit k = true → b.1.testBit k = true := fun k h => by
    rw [← g2, Nat.testBit_and] at h
    simp at h; exact h.2
  rw [Bool.eq_iff_iff, decide_eq_true_iff, lies_iff]
  constructor
  · intro h k _ hb
    rw [← h, Nat.testBit_and, hb, Bool.and_true]
  · intro h
    apply Nat.eq_of_testBit_eq
    intro k
    rw [Nat.testBit_and]
    cases hb : b.1.testBit k with
    | false =>
      rw [Bool.and_false]
      cases hl : b.2.testBit k with
      | false => rfl
      | true => rw [sub k hl] at hb; cases hb
    | true =>
      rw [Bool.and_true]
      have hk : k < 6 := by
        by_cases hk : k < 6
        · exact hk
        · rw [hi k (by omega)] at hb; cases hb
      exact (h k hk hb).symm
theorem good_and {m a x : Nat} (hm : m ≤ 6) (ha : a < 2 ^ m) : Bar.good (a, a &&& x) := by
  have h6 : (2 : Nat) ^ m ≤ 64 := Nat.le_trans (Nat.pow_le_pow_right (by decide) hm) (by decide)
  refine ⟨(by show a < 64; omega), ?_⟩
  show (a &&& x) &&& a = a &&& x
  apply Nat.eq_of_testBit_eq
  intro k
  rw [Nat.testBit_and, Nat.testBit_and]
  cases a.testBit k <;> simp
theorem filter_succ (p : Nat → Bool) (i : Nat) : (List.range (i + 1)).filter p = (List.range i).filter p ++ (if p i = true then [i] else []) := by
  rw [List.range_succ, List.filter_append, List.filter_cons, List.filter_nil]
end EM

set_option maxRecDepth 100000
set_option maxHeartbeats 4000000
namespace L2
open PySem PySem.Spec PyProof.Rows
section
variable {prog : Program} {w : World} {A : Around} {E : Value → Shared → Prop} {s : Shared}
end
section
variable {X : Cx}
def PairAt (H : Hp) (p : Addr) (k : Int × Int) : Prop := H p = some (.tup [.int k.1, .int k.2])
end
end L2

set_option maxRecDepth 100000
set_option maxHeartbeats 4000000
namespace L2
open PySem PySem.Spec PyProof.Rows
section
variable {X : Cx} {K : PySem.W.Frag} {σ : St} {H : Hp} {Q : VK} {a : Expr} {ta : TE} {pos : Pos}
/-- a slice -/
def rSlX : V → Option Int → Option Int → Hp → VK → Prop := fun x lo hi H Q => ∃ z, x = .str z ∧ z.length ≤ sizeLine ∧ Q (.str (Txt.slice z lo hi)) H
theorem sl_str : SlR X rSlX := by
  intro pins s σ H x v vl vu lo hi sl Q I rx hs pl pu h
  obtain ⟨z, rfl, hz, q⟩ := h
  obtain ⟨t, rfl⟩ := rx
  refine ⟨"str", _, F.slot_str_getitem.lookup, typeIs_str _ _ _, ?_⟩
  obtain ⟨o, ho, hc, hd⟩ := hs
  have fin : ∀ (l u : Option (Int × Tok)), vl = partValue l → vu = partValue u → l.map (·.1) = lo → u.map (·.1) = hi → wpAny (model X.prog X.w) X.A (getItem (.str z t) (.ref sl)) (EP X pins σ Q) X.xe s := fun l u e1 e2 e3 e4 => by
    subst e1 e2 e3 e4
    exact wpAny_getItem_str_slice (l := l) (u := u) (st := none) ⟨o, ho, hc, hd⟩ rfl
      (post_val_or_str ⟨Nat.le_trans (Txt.slice_le z _ _) hz, fun t' k => ⟨.str _, H, I.tok k, ⟨t', rfl⟩, q⟩⟩)
  have pv : ∀ {v : Value} {o : Option Int}, IsPart v o → ∃ l : Option (Int × Tok), v = partValue l ∧ l.map (·.1) = o := fun {v o} h => by
    cases h <;> first | exact ⟨none, rfl, rfl⟩ | exact ⟨some (_, _), rfl, rfl⟩
  obtain ⟨l, e1, e3⟩ := pv pl
  obtain ⟨u, e2, e4⟩ := pv pu
  exact fin l u e1 e2 e3 e4
/-- slices of lists, tuples, texts -/
def rSlA (K : PySem.W.Frag) : V → Option Int → Option Int → Hp → VK → Prop := fun x lo hi H Q => rSlG K x lo hi H Q ∨ rSlX x lo hi H Q
theorem sl_any : SlR X (rSlA X.K) := SlR.or sl_seq sl_str
theorem j_slA {p : Addr} {xs ys : List V} {lo hi : Option Int} (h : SqL K H p xs) (e : cutV xs lo hi = ys) (k : ∀ (l : Addr) (H' : Hp), Same H H' → H l = none → H' l = some (.lst ys) → Q (.ref l) H') : rSlA K (.ref p) lo hi H Q := .inl (j_sl h e k)
/-- join of a list of texts -/
theorem vals_strs : ∀ {ts : List Str} {us : List Value}, Vals (ts.map V.str) us → ∃ l : List (Str × Tok), us = strValues l ∧ l.map (·.1) = ts
  | [], _, r => by cases r; exact ⟨[], rfl, rfl⟩
  | t :: ts, _, r => by
    cases r with
    | cons r1 r2 =>
      obtain ⟨k, rfl⟩ := r1
      obtain ⟨l, rfl, rfl⟩ := vals_strs r2
      exact ⟨(t, k) :: l, rfl, rfl⟩
def rJoin (K : PySem.W.Frag) : V → List V → Hp → VK → Prop := fun x vs H Q => ∃ z l ts, x = .str z ∧ vs = [.ref l] ∧ SqL K H l (ts.map V.str) ∧ JoinOk z ts = true ∧ Q (.str (Txt.join z ts)) H
theorem ms_join : MtM X "str.join" (rJoin X.K) := by
  intro pins s σ H x vs v us Q I rx rv h
  obtain ⟨z, l, ts, rfl, rfl, hq, hj, q⟩ := h
  obtain ⟨t, rfl⟩ := rx
  obtain ⟨u, rfl, ru⟩ := rv.one
  cases ru
  obtain ⟨its, r', pl, hz⟩ := I.list hq
  obtain ⟨ls, rfl, rfl⟩ := vals_strs r'
  exact SC.join pl.isList rfl hj fun t' k => ⟨.str _, H, I.tok k, ⟨t', rfl⟩, q⟩
theorem tyS {z : Str} : tyV K "str" (.str z) H := by
  unfold tyV
  first
    | exact .inr (.inl ⟨rfl, _, rfl⟩)
    | exact .inr (.inr (.inl ⟨rfl, _, rfl⟩))
    | exact .inr (.inr ⟨rfl, _, rfl⟩)
    | simp
abbrev TJ := St → Hp → Str → VK → Prop
def PJ (X : Cx) (es : List Expr) (t : TJ) : Prop :=
  ∀ (out : Str) (pins : List (Addr × Obj)) (s : Shared) (σ : St) (H : Hp) (Q : VK), Inv X pins σ H s → t σ H out Q → wpAny (model X.prog X.w) X.A (joinParts out (evalEach es X.env)) (EP X pins σ Q) X.xe s
def tJn : TJ := fun _ H out Q => out.length ≤ sizeLine ∧ Q (.str out) H
def tJc (te : TE) (tr : TJ) : TJ := fun σ H out Q => te σ H fun x H1 => ∃ y, x = .str y ∧ (out ++ y).length ≤ sizeLine ∧ tr σ H1 (out ++ y) Q
theorem pj_nil : PJ X [] tJn := fun out pins s σ H Q I h => joinParts_nil ⟨.str out, H, I.tok _, ⟨_, rfl⟩, h.2⟩ h.1
theorem pj_cons {e : Expr} {es : List Expr} {te : TE} {tr : TJ} (he : PE X e te) (hr : PJ X es tr) : PJ X (e :: es) (tJc te tr) := by
  intro out pins s σ H Q I h
  show wpAny _ _ (joinParts out (eval e X.env :: evalEach es X.env)) _ _ s
  refine joinParts_cons (thn (he pins s σ H _ I h) fun v s1 ⟨x, H1, I1, r1, y, ex, hz, q⟩ => ?_)
  subst ex
  obtain ⟨t, rfl⟩ := r1
  exact ⟨hz, hr _ pins s1 σ H1 Q I1 q⟩
def tFs (t : TJ) : TE := fun σ H Q => t σ H Str.empty Q
theorem pe_joined {e1 e2 : Expr} {es : List Expr} {t : TJ} (h : PJ X (e1 :: e2 :: es) t) : PE X (.JoinedStr (e1 :: e2 :: es) pos) (tFs t) := by
  intro pins s σ H Q I q
  exact JoinedStr_many (h Str.empty pins s σ H Q I q)
/-- {name} of a text -/
def tFmt (ta : TE) : TE := fun σ H Q => ta σ H fun x H1 => ∃ z, x = .str z ∧ z.length ≤ sizeLine ∧ Q (.str z) H1
theorem pe_fmt (ha : PE X a ta) : PE X (.FormattedValue a (-1) none pos) (tFmt ta) := by
  intro pins s σ H Q I h
  refine FormattedValue_plain (thn (ha pins s σ H _ I h) fun v s1 ⟨x, H1, I1, r1, z, ex, hz, q⟩ => ?_)
  subst ex
  obtain ⟨t, rfl⟩ := r1
  exact formatField_str (fun t' k => ⟨.str z, H1, I1.tok k, ⟨t', rfl⟩, q⟩) hz
theorem i_fs {t : TJ} (h : t σ H Str.empty Q) : tFs t σ H Q := h
theorem i_jn {out : Str} (z : out.length ≤ 1000000) (h : Q (.str out) H) : tJn σ H out Q := ⟨small z, h⟩
theorem i_jc {te : TE} {tr : TJ} {out : Str} (h : te σ H fun x H1 => ∃ y, x = .str y ∧ (out ++ y).length ≤ sizeLine ∧ tr σ H1 (out ++ y) Q) : tJc te tr σ H out Q := h
theorem i_fmt (h : ta σ H fun x H1 => ∃ z, x = .str z ∧ z.length ≤ sizeLine ∧ Q (.str z) H1) : tFmt ta σ H Q := h
end
end L2

set_option maxRecDepth 100000
set_option maxHeartbeats 4000000
namespace L2
open PySem PySem.Spec PyProof.Rows
mutual
def DV (H : Hp) : PyData → V → Prop
  | .none, v => v = .non
  | .bool b, v => v = .bl b
  | .int i, v => v = .int i
  | .str x, v => v = .str x
  | .list ds, v => ∃ p xs, v = .ref p ∧ H p = some (.lst xs) ∧ DVs H ds xs
  | .tuple ds, v => ∃ p xs, v = .ref p ∧ H p = some (.tup xs) ∧ DVs H ds xs
  | .dict _, _ => False
def DVs (H : Hp) : List PyData → List V → Prop
  | [], xs => xs = []
  | d :: ds, xs => ∃ v r, xs = v :: r ∧ DV H d v ∧ DVs H ds r
end
section
variable {X : Cx} {pins : List (Addr × Obj)} {σ : St} {H : Hp} {s : Shared}
mutual
theorem reads_of (I : Inv X pins σ H s) : ∀ (d : PyData) (v : V) (u : Value), DV H d v → RelV v u → ∃ as, Reads s.heap u d as
  | .none, v, u, h, r => by
    rw [DV] at h; subst h; cases r; exact ⟨_, .none⟩
  | .bool b, v, u, h, r => by
    rw [DV] at h; subst h; cases r; exact ⟨_, .bool b⟩
  | .int i, v, u, h, r => by
    rw [DV] at h; subst h; obtain ⟨t, rfl⟩ := r; exact ⟨_, .int i t⟩
  | .str x, v, u, h, r => by
    rw [DV] at h; subst h; obtain ⟨t, rfl⟩ := r; exact ⟨_, .str x t⟩
  | .list ds, v, u, h, r => by
    rw [DV] at h
    obtain ⟨p, xs, rfl, e, hs⟩ := h
    cases r
    obtain ⟨z, its, n, r', e'⟩ := I.hok p _ e
    obtain ⟨as, ra⟩ := reads_all I ds xs its hs r'
    exact ⟨_, .list e' rfl rfl (by simpa using ra)⟩
  | .tuple ds, v, u, h, r => by
    rw [DV] at h
    obtain ⟨p, xs, rfl, e, hs⟩ := h
    cases r
    obtain ⟨z, its, r', o, e', hc, n, hd⟩ := I.hok p _ e
    obtain ⟨as, ra⟩ := reads_all I ds xs its hs r'
    exact ⟨_, .tuple e' hc hd (by simpa using ra)⟩
  | .dict _, v, u, h, r => by rw [DV] at h; exact h.elim
theorem reads_all (I : Inv X pins σ H s) : ∀ (ds : List PyData) (xs : List V) (us : List Value), DVs H ds xs → Vals xs us → ∃ as, ReadsAll s.heap us ds as
  | [], xs, us, h, r => by
    rw [DVs] at h; subst h; cases r; exact ⟨_, .nil⟩
  | d :: ds, xs, us, h, r => by
    rw [DVs] at h
    obtain ⟨v, r0, rfl, h1, h2⟩ := h
    cases r with
    | cons r1 r2 =>
      obtain ⟨a1, q1⟩ := reads_of I d v _ h1 r1
      obtain ⟨a2, q2⟩ := reads_all I ds r0 _ h2 r2
      exact ⟨_, .cons q1 q2⟩
end
def rEqD : R2 := fun x y H Q => ∃ d1 d2, DV H d1 x ∧ DV H d2 y ∧ d1.canLay0 = true ∧ d2.canLay0 = true ∧ d1.depth ≤ 60 ∧ Q (.bl (PyData.eqv d1 d2)) H
theorem op_eqD (hu : X.A.units + 64 < cLine) : OpR X (compareOp .Eq) rEqD := by
  intro pins s σ H x y v u Q I rx ry h
  obtain ⟨d1, d2, h1, h2, c1, c2, hd, q⟩ := h
  obtain ⟨a1, q1⟩ := reads_of I d1 x v h1 rx
  obtain ⟨a2, q2⟩ := reads_of I d2 y u h2 ry
  exact SeqAt.compareEq_reads q1 q2 c1 c2 (Nat.lt_of_le_of_lt (Nat.add_le_add_left (Nat.le_trans (Nat.min_le_left _ _) hd) _) (by omega)) ⟨.bl _, H, I, rfl, q⟩
def rEqA : R2 := fun x y H Q => rEq x y H Q ∨ rEqD x y H Q
theorem op_eqA (hu : X.A.units + 64 < cLine) : OpR X (compareOp .Eq) rEqA := OpR.or op_eq (op_eqD hu)
/-- != of two lists -/
def rNeD : R2 := fun x y H Q => ∃ d1 d2, DV H (.list d1) x ∧ DV H (.list d2) y ∧ PyData.canLayAll0 d1 = true ∧ PyData.canLayAll0 d2 = true ∧ PyData.depthAll d1 ≤ 60 ∧ Q (.bl (!PyData.eqvAll d1 d2)) H
theorem op_neD (hu : X.A.units + 64 < cLine) : OpR X (compareOp .NotEq) rNeD := by
  intro pins s σ H x y v u Q I rx ry h
  obtain ⟨d1, d2, h1, h2, c1, c2, hd, q⟩ := h
  obtain ⟨a1, q1⟩ := reads_of I (.list d1) x v h1 rx
  obtain ⟨a2, q2⟩ := reads_of I (.list d2) y u h2 ry
  cases q1 with
  | @list b1 o vs n _ as1 g1 g2 g3 g4 =>
    cases q2 with
    | @list b2 o' vs' n' _ as2 k1 k2 k3 k4 =>
      have hl : s.heap.IsList _ vs := ⟨_, g1, g2, _, g3⟩
      have hl' : s.heap.IsList _ vs' := ⟨_, k1, k2, _, k3⟩
      have n1 : vs.size = d1.length := by simpa using SeqAt.ReadsAll.length _ _ _ g4
      have n2 : vs'.size = d2.length := by simpa using SeqAt.ReadsAll.length _ _ _ k4
      have fin : EP X pins σ Q (.bool (!PyData.eqvAll d1 d2)) s := ⟨.bl _, H, I, rfl, q⟩
      by_cases hz : vs.size = vs'.size
      · refine SeqAt.RcNeAt.lists hl hl' hz (by omega) (e := SeqAt.pairEq d1 d2) (fun j j1 j2 => ?_) _ _ _ _ ?_
        · have := SeqAt.eqAt_readsAll d1 d2 X.A.in1 s vs.toList vs'.toList _ _ g4 k4 c1 c2 (by
            have : X.A.in1.units = X.A.units + 1 ∨ X.A.in1.units = X.A.units := by first | exact .inl rfl | exact .inr rfl
            have h3 := Nat.min_le_left (PyData.depthAll d1) (PyData.depthAll d2)
            omega) j (by simpa using j1) (by simpa using j2)
          simpa using this
        · have e := SeqAt.eqvAll_eq d1 d2
          rw [← n1, ← n2, ← hz, Nat.min_self, beq_self_eq_true, Bool.and_true] at e
          rw [e]; exact fin
      · refine SeqAt.RcNeAt.lists_lengths hl hl' (by simpa using hz) (by omega) _ _ _ _ ?_
        have e := SeqAt.eqvAll_eq d1 d2
        have hb : (d1.length == d2.length) = false := by
          rw [← n1, ← n2]; simpa using hz
        rw [hb, Bool.and_false] at e
        rw [← e] at fin
        exact fin
/-- != of two tuples -/
def rNeT : R2 := fun x y H Q => ∃ d1 d2, DV H (.tuple d1) x ∧ DV H (.tuple d2) y ∧ PyData.canLayAll0 d1 = true ∧ PyData.canLayAll0 d2 = true ∧ PyData.depthAll d1 ≤ 60 ∧ Q (.bl (!PyData.eqvAll d1 d2)) H
theorem op_neT (hu : X.A.units + 64 < cLine) : OpR X (compareOp .NotEq) rNeT := by
  intro pins s σ H x y v u Q I rx ry h
  obtain ⟨d1, d2, h1, h2, c1, c2, hd, q⟩ := h
  obtain ⟨a1, q1⟩ := reads_of I (.tuple d1) x v h1 rx
  obtain ⟨a2, q2⟩ := reads_of I (.tuple d2) y u h2 ry
  cases q1 with
  | @tuple b1 o vs n _ as1 g1 g2 g3 g4 =>
    cases q2 with
    | @tuple b2 o' vs' n' _ as2 k1 k2 k3 k4 =>
      have hl : s.heap.IsTuple _ vs := ⟨_, g1, g2, _, g3⟩
      have hl' : s.heap.IsTuple _ vs' := ⟨_, k1, k2, _, k3⟩
      have n1 : vs.size = d1.length := by simpa using SeqAt.ReadsAll.length _ _ _ g4
      have n2 : vs'.size = d2.length := by simpa using SeqAt.ReadsAll.length _ _ _ k4
      refine SeqAt.RcNeAt.tuples hl hl' (by omega) (e := SeqAt.pairEq d1 d2) (fun j j1 j2 => ?_) _ _ _ _ ?_
      · have := SeqAt.eqAt_readsAll d1 d2 X.A.in1 s vs.toList vs'.toList _ _ g4 k4 c1 c2 (by
          have : X.A.in1.units = X.A.units + 1 ∨ X.A.in1.units = X.A.units := by first | exact .inl rfl | exact .inr rfl
          have h3 := Nat.min_le_left (PyData.depthAll d1) (PyData.depthAll d2)
          omega) j (by simpa using j1) (by simpa using j2)
        simpa using this
      · rw [n1, n2, SeqAt.eqvAll_eq d1 d2]
        exact ⟨.bl _, H, I, rfl, q⟩
def rNeA : R2 := fun x y H Q => rNe x y H Q ∨ rNeD x y H Q ∨ rNeT x y H Q
theorem op_neA (hu : X.A.units + 64 < cLine) : OpR X (compareOp .NotEq) rNeA := OpR.or op_ne (OpR.or (op_neD hu) (op_neT hu))
end
def pd (k : Int × Int) : PyData := .tuple [.int k.1, .int k.2]
theorem eqvAll_ints : ∀ a b : List Int, PyData.eqvAll (a.map .int) (b.map .int) = decide (a = b)
  | [], [] => rfl
  | [], _ :: _ => by simp [PyData.eqvAll]
  | _ :: _, [] => by simp [PyData.eqvAll]
  | x :: a, y :: b => by
    simp only [List.map_cons, PyData.eqvAll, PyData.eqv, eqvAll_ints a b, List.cons.injEq]
    by_cases h : x = y
    · subst h; simp
    · simp [h]
theorem eqv_pd (x y : Int × Int) : PyData.eqv (pd x) (pd y) = decide (x = y) := by
  obtain ⟨a, b⟩ := x
  obtain ⟨c, d⟩ := y
  simp only [pd, PyData.eqv, PyData.eqvAll, Bool.and_true, Prod.mk.injEq]
  by_cases h : a = c
  · subst h; by_cases h' : b = d
    · subst h'; simp
    · simp [h']
  · simp [h]
theorem eqvAll_pairs : ∀ a b : List (Int × Int), PyData.eqvAll (a.map pd) (b.map pd) = decide (a = b)
  | [], [] => rfl
  | [], _ :: _ => by simp [PyData.eqvAll]
  | _ :: _, [] => by simp [PyData.eqvAll]
  | x :: a, y :: b => by
    simp only [List.map_cons, PyData.eqvAll, eqv_pd, eqvAll_pairs a b, List.cons.injEq]
    by_cases h : x = y
    · subst h; simp
    · simp [h]
theorem lay_ints : ∀ a : List Int, PyData.canLayAll0 (a.map .int) = true
  | [] => rfl
  | _ :: a => by simp [PyData.canLayAll0, PyData.canLay0, lay_ints a]
theorem lay_pairs : ∀ a : List (Int × Int), PyData.canLayAll0 (a.map pd) = true
  | [] => rfl
  | _ :: a => by simp [PyData.canLayAll0, PyData.canLay0, pd, lay_pairs a]
theorem dep_pairs : ∀ a : List (Int × Int), PyData.depthAll (a.map pd) ≤ 60
  | [] => by simp [PyData.depthAll]
  | _ :: a => by
    have := dep_pairs a
    simp only [List.map_cons, PyData.depthAll, pd, PyData.depth]; omega
theorem dvs_ints (H : Hp) : ∀ a : List Int, DVs H (a.map .int) (a.map V.int)
  | [] => by rw [List.map_nil, DVs]; rfl
  | x :: a => by
    rw [List.map_cons, DVs]
    exact ⟨.int x, a.map V.int, rfl, by rw [DV], dvs_ints H a⟩
theorem dv_pair {H : Hp} {p : Addr} {k : Int × Int} (h : PairAt H p k) : DV H (pd k) (.ref p) := by
  unfold pd
  rw [DV]
  exact ⟨p, _, rfl, h, dvs_ints H [k.1, k.2]⟩
theorem dvs_pairs {H : Hp} : ∀ {ps : List Addr} {ks : List (Int × Int)}, Paired (PairAt H) ps ks → DVs H (ks.map pd) (ps.map V.ref)
  | _, _, .nil => by rw [List.map_nil, DVs]; rfl
  | _, _, .cons r q => by
    rw [List.map_cons, DVs]
    exact ⟨_, _, rfl, dv_pair r, dvs_pairs q⟩
section
variable {K : PySem.W.Frag} {H : Hp} {Q : VK}
/-- == and != of lists of ints, of pairs, of texts -/
theorem i_eqLI {l l' : Addr} {a b : List Int} (h : H l = some (.lst (a.map V.int))) (h' : H l' = some (.lst (b.map V.int))) (q : Q (.bl (decide (a = b))) H) : rEqA (.ref l) (.ref l') H Q := by
  refine .inr ⟨.list (a.map .int), .list (b.map .int), ?_, ?_, lay_ints a, lay_ints b, ?_, ?_⟩
  · rw [DV]; exact ⟨l, _, rfl, h, dvs_ints H a⟩
  · rw [DV]; exact ⟨l', _, rfl, h', dvs_ints H b⟩
  · rw [PyData.depth]
    have : ∀ a : List Int, PyData.depthAll (a.map .int) = 0 := fun a => by induction a with | nil => rfl | cons x a ih => simp only [List.map_cons, PyData.depthAll, PyData.depth, ih]; rfl
    rw [this]; decide
  · rw [PyData.eqv, eqvAll_ints]; exact q
theorem i_neLP {l l' : Addr} {ps ps' : List Addr} {ks ks' : List (Int × Int)} (h : H l = some (.lst (ps.map V.ref))) (h' : H l' = some (.lst (ps'.map V.ref))) (p : Paired (PairAt H) ps ks) (p' : Paired (PairAt H) ps' ks') (q : Q (.bl (!decide (ks = ks'))) H) : rNeA (.ref l) (.ref l') H Q := by
  refine .inr (.inl ⟨ks.map pd, ks'.map pd, ?_, ?_, lay_pairs ks, lay_pairs ks', dep_pairs ks, ?_⟩)
  · rw [DV]; exact ⟨l, _, rfl, h, dvs_pairs p⟩
  · rw [DV]; exact ⟨l', _, rfl, h', dvs_pairs p'⟩
  · rw [eqvAll_pairs]; exact q
theorem i_eqAI {i j : Int} (h : Q (.bl (decide (i = j))) H) : rEqA (.int i) (.int j) H Q := .inl (i_eqI h)
theorem i_eqAS {i j : Str} (h : Q (.bl (decide (i = j))) H) : rEqA (.str i) (.str j) H Q := .inl (i_eqS h)
theorem i_neAI {i j : Int} (h : Q (.bl (!decide (i = j))) H) : rNeA (.int i) (.int j) H Q := .inl (i_neI h)
theorem i_neAS {i j : Str} (h : Q (.bl (!decide (i = j))) H) : rNeA (.str i) (.str j) H Q := .inl (i_neS h)
theorem i_neAB {i j : Bool} (h : Q (.bl (!decide (i = j))) H) : rNeA (.bl i) (.bl j) H Q := .inl (i_neB h)
end
end L2

set_option maxRecDepth 100000
namespace PySem
open Sem (wp)
open AutoSeq1 (wpAny_loadPart')
section
variable {prog : Program} {w : World} {A : Around} {E : Value → Shared → Prop} {s : Shared}
end
end PySem
namespace L2
open PySem PySem.Spec PyProof.Rows
section
variable {X : Cx} {pins : List (Addr × Obj)} {σ : List (Option V)} {H : Hp} {s : Shared} {h' : Heap}
end
section
variable {X : Cx}
def rBits : V → List V → Hp → VK → Prop := fun x vs H Q => ∃ i : Int, x = .int i ∧ vs = [] ∧ Q (.int ((Builtin.Int.intBits i : Nat) : Int)) H
theorem mi_bit_length : MtR X "int.bit_length" rBits := by
  intro pins s σ H x xs v us Q I r rs h
  obtain ⟨i, rfl, rfl, q⟩ := h
  obtain ⟨t, rfl⟩ := r
  cases rs
  exact call_int_bit_length ⟨.int _, H, I.tok _, ⟨_, rfl⟩, q⟩
end
section
variable {σ : St} {H : Hp} {Q : VK} {D : Ends} {K : PySem.W.Frag} {g : TG} {tb : TS}
theorem i_bitlen {i : Int} (h : Q (.int ((Builtin.Int.intBits i : Nat) : Int)) H) : tyV K "int" (.int i) H ∧ rBits (.int i) [] H Q := ⟨rfl, i, rfl, rfl, h⟩
theorem i_truI {i : Int} {R : Bool → Prop} (h : R (!decide (i = 0))) : ∃ k, TruV K (.int i) H k ∧ R k := ⟨_, rfl, h⟩
end
end L2

set_option maxRecDepth 100000
namespace L2
open PySem PySem.Spec PyProof.Rows
section
variable {X : Cx}
end
section
open PySem.SeqAt
open PySem.AutoSeq1 (wpAny_loadPart')
open PySem.MeetsSeq PySem.MeetsSeq2 PySem.MeetsSeq3
end
def CDivG (i j : Int) : Prop := 0 < j ∧ j ≤ 18446744073709551616
theorem op_fdivG {X : Cx} : OpR X (binaryOp .FloorDiv) (rI CDivG fun i j => .int (i / j)) := opI fun i j _ _ _ _ _ hc q => by
  have h1 : (0 : Int) < j := hc.1
  have h2 : j ≤ 18446744073709551616 := hc.2
  refine floordiv_int (by omega) (by rw [Int.fdiv_eq_ediv_of_nonneg i (by omega)]; exact q) (.inl (PyProof.noPylong_of_log2 ?_))
  have h3 : j.natAbs.log2 < 65 := (Nat.log2_lt (by omega)).mpr (by omega)
  omega
section
variable {σ : St} {H : Hp} {Q : VK} {D : Ends} {K : PySem.W.Frag} {g : TG} {tb : TS}
/-- comp_by where Pv speaks of the heap: it stays as objects that are no lists stay -/
theorem comp_byH {ix : List Nat} {tc : TT} {te : TE} {J : It} {xs : List V} (Pv : Nat → List V → Hp → Prop) (hw : Wk J xs H) (hz : xs.length ≤ 1000000) (h0 : ∀ H', Same H H' → Pv 0 [] H')
    (hm : ∀ i ys H1 H2, Ext H1 H2 → Pv i ys H1 → Pv i ys H2)
    (hs : ∀ (i : Nat) (x : V) (ys : List V) (acc : Addr) (H' : Hp), xs[i]? = some x → Same H H' → H acc = none → H' acc = some (.lst ys) → Pv i ys H' → ys.length ≤ i →
      ∀ R : Bool → Hp → Prop, (∀ b H2, Same H' H2 → (b = false → Pv (i + 1) ys H2) → (b = true → ∀ R2 : V → Hp → Prop, (∀ y H3, Same H2 H3 → Pv (i + 1) (ys ++ [y]) H3 → R2 y H3) → te (some x :: subS σ ix) H2 R2) → R b H2) → tc (some x :: subS σ ix) H' R)
    (hd : ∀ (acc : Addr) (ys : List V) (H' : Hp), H acc = none → Same H H' → H' acc = some (.lst ys) → Pv xs.length ys H' → Q (.ref acc) H') : CompG J ix tc te σ Q H := by
  intro acc hacc
  have sU : ∀ {H2 : Hp} (o : HO), Same H H2 → Same H (upd H2 acc o) := fun o s b u e => by rw [upd_ne (ne_of_none e hacc)]; exact s b u e
  refine ⟨fun i m ys H' => m = xs.length - i ∧ i ≤ xs.length ∧ Same H H' ∧ H' acc = some (.lst ys) ∧ Pv i ys H' ∧ ys.length ≤ i, ⟨xs.length, by simp, Nat.zero_le _, same_new hacc _, upd_same, h0 _ (same_new hacc _), Nat.le_refl _⟩, ?_⟩
  rintro i m ys H' ⟨rfl, hi, sm, ea, pv, hy⟩
  by_cases hlt : i < xs.length
  · obtain ⟨go, yl⟩ := (hw H' sm).1 i hlt
    refine .inr ⟨go, fun x H2 y => ?_⟩
    obtain ⟨rfl, hx⟩ := yl x H2 y
    refine hs i x ys acc _ hx sm hacc ea pv hy _ fun b H3 s3 pf pt => ?_
    cases b with
    | false =>
      rw [if_neg Bool.false_ne_true]
      exact ⟨xs.length - (i + 1), by omega, rfl, hlt, sm.trans s3, s3 _ _ ea, pf rfl, Nat.le_succ_of_le hy⟩
    | true =>
      rw [if_pos rfl]
      refine pt rfl _ fun y H4 s4 py => ⟨s4 _ _ (s3 _ _ ea), smallL (by omega), xs.length - (i + 1), by omega, rfl, hlt, sU _ (sm.trans (s3.trans s4)), upd_same, hm _ _ _ _ (But.ext (l := acc) (s4 _ _ (s3 _ _ ea)) but_upd) py, ?_⟩
      rw [List.length_append, List.length_singleton]
      omega
  · have e : i = xs.length := by omega
    subst e
    exact .inl ⟨(hw H' sm).2, hd acc ys H' hacc sm ea pv⟩
end
end L2

set_option maxRecDepth 100000
namespace L2
open PySem PySem.Spec PyProof.Rows
section
variable {X : Cx} {a : Expr} {ta : TE} {pos : Pos}
end
section
variable {σ : St} {H : Hp} {Q : VK} {D : Ends} {K : PySem.W.Frag} {g : TG} {tb : TS} {ta : TE}
end
theorem len_append (x y : Str) : (x ++ y).length = x.length + y.length := by
  show (x.cps ++ y.cps).size = _
  rw [Array.size_append]; rfl
end L2

set_option maxRecDepth 100000
set_option maxHeartbeats 4000000
namespace L2
open PySem PySem.Spec PyProof.Rows
section
variable {X : Cx}
end
section
variable {X : Cx} {x x' : Str} {ns : List Str} {ix : List Nat} {sc scope : Scope} {N : List Str} {elt iter : Expr} {px px' tp pos : Pos} {tk : Nat} {ifs : List Expr} {tc : TT} {te : TE} {wi : TI}
end
section
variable {ix : List Nat} {tc : TT} {te : TE} {σ : St} {H : Hp} {Q : VK} {K : PySem.W.Frag}
end
section
variable {X : Cx} {k k' : Nat} {m : Str} {ps : List Str} {sp : Sp} {e o : Expr} {es : List Expr} {ta : TE} {t : TA} {pos apos : Pos} {E : XK}
end
theorem dep_pairs1 : ∀ a : List (Int × Int), PyData.depthAll (a.map pd) ≤ 1
  | [] => by simp [PyData.depthAll]
  | _ :: a => by
    have := dep_pairs1 a
    simp only [List.map_cons, PyData.depthAll, pd, PyData.depth]; omega
theorem i_eqLP {H : Hp} {Q : VK} {l l' : Addr} {ps ps' : List Addr} {ks ks' : List (Int × Int)} (h : H l = some (.lst (ps.map V.ref))) (h' : H l' = some (.lst (ps'.map V.ref))) (p : Paired (PairAt H) ps ks) (p' : Paired (PairAt H) ps' ks') (q : Q (.bl (decide (ks = ks'))) H) : rEqA (.ref l) (.ref l') H Q := by
  refine .inr ⟨.list (ks.map pd), .list (ks'.map pd), ?_, ?_, lay_pairs ks, lay_pairs ks', ?_, ?_⟩
  · rw [DV]; exact ⟨l, _, rfl, h, dvs_pairs p⟩
  · rw [DV]; exact ⟨l', _, rfl, h', dvs_pairs p'⟩
  · rw [PyData.depth]
    have := dep_pairs1 ks
    omega
  · rw [PyData.eqv, eqvAll_pairs]; exact q
section
variable {X : Cx} {a : Expr} {ta : TE} {pos : Pos}
end
end L2

set_option maxRecDepth 100000
set_option maxHeartbeats 4000000
namespace L2
open PySem PySem.Spec PyProof.Rows
section
variable {X : Cx}
end
section
variable {X : Cx} {e : Expr} {td : TE} {st : Stmt} {t : TS}
end
/-- four written texts among the items of a display: one step, for the elaboration's sake -/
theorem pa_s4 {X : Cx} {a b c d : Str} {i j k l : Nat} {p q r o : Pos} {es : List Expr} {t : TA} (h : PA X es t) : PA X (.Constant (.str a) i p :: .Constant (.str b) j q :: .Constant (.str c) k r :: .Constant (.str d) l o :: es) (tCons (tC (.str a)) (tCons (tC (.str b)) (tCons (tC (.str c)) (tCons (tC (.str d)) t)))) :=
  pa_cons pe_str (pa_cons pe_str (pa_cons pe_str (pa_cons pe_str h)))
end L2

set_option maxRecDepth 100000
set_option maxHeartbeats 4000000
namespace L2
open PySem PySem.Spec PyProof.Rows
def lowS (m : Nat) : List Nat := (List.range 6).filter fun i => m.testBit i
def tabS (b : Bool) (m : Nat) : SetTable := if (lowS m).length ≤ 4 then ⟨7, (lowS m).toArray, #[], 0, !b, 0, true⟩ else ⟨31, (lowS m).toArray, #[], 0, !b, 1, true⟩
def cutS (m h : Nat) : Nat := ((lowS m).filter fun i => decide (i < h)).length
def putS (b : Bool) (m h : Nat) : SetTable := { tabS b m with place := (lowS (m ||| 2 ^ h)).toArray }
theorem tab_free : ∀ b : Bool, ∀ m, m < 64 → ∀ h : Nat, h < 6 → m.testBit h = false → (tabS b m).freeSlot (h : Int) = some (h, false) := by decide +kernel
theorem tab_put : ∀ b : Bool, ∀ m, m < 64 → ∀ h, h < 6 → m.testBit h = false → (tabS b m).put h = (putS b m h, cutS m h) := by decide +kernel
theorem low_put : ∀ m, m < 64 → ∀ h, h < 6 → m.testBit h = false → lowS (m ||| 2 ^ h) = (lowS m).take (cutS m h) ++ [h] ++ (lowS m).drop (cutS m h) := by decide +kernel
theorem put_full : ∀ b : Bool, ∀ m, m < 64 → ∀ h, h < 6 → m.testBit h = false → (putS b m h).tooFull = decide ((lowS m).length = 4) := by decide +kernel
theorem put_rest : ∀ b : Bool, ∀ m, m < 64 → ∀ h, h < 6 → m.testBit h = false → (lowS m).length ≠ 4 → putS b m h = tabS b (m ||| 2 ^ h) := by decide +kernel
def relOk (x : Option (SetTable × Array Nat)) (t : SetTable) : Bool := match x with
  | some (t', o) => decide (t' = t) && decide (o = #[0, 1, 2, 3, 4])
  | none => false
theorem relOk_iff {x : Option (SetTable × Array Nat)} {t : SetTable} (h : relOk x t = true) : x = some (t, #[0, 1, 2, 3, 4]) := by
  unfold relOk at h
  split at h
  · rw [Bool.and_eq_true] at h
    rw [of_decide_eq_true h.1, of_decide_eq_true h.2]
  · cases h
theorem put_relay : ∀ b : Bool, ∀ m, m < 64 → ∀ h, h < 6 → m.testBit h = false → (lowS m).length = 4 → relOk ((putS b m h).relaid ((lowS (m ||| 2 ^ h)).map fun i : Nat => (i : Int)).toArray 20) (tabS b (m ||| 2 ^ h)) = true := by decide +kernel
theorem put_fits : ∀ b : Bool, ∀ m, m < 64 → ∀ h, h < 6 → m.testBit h = false → (putS b m h).fits ((lowS m).length + 1) = true := by decide +kernel
theorem tab_fits : ∀ b : Bool, ∀ m, m < 64 → (tabS b m).fits (lowS m).length = true := by decide +kernel
theorem low_len : ∀ m, m < 64 → (lowS m).length ≤ 6 := by decide +kernel
theorem low_or : ∀ m, m < 64 → ∀ h, h < 6 → m ||| 2 ^ h < 64 ∧ (lowS (m ||| 2 ^ h)).length = (lowS m).length + (if m.testBit h then 0 else 1) := by decide +kernel
theorem low_old : ∀ m, m < 64 → ∀ h, h < 6 → m.testBit h = true → m ||| 2 ^ h = m := by decide +kernel
theorem mem_low {m h : Nat} : h ∈ lowS m ↔ h < 6 ∧ m.testBit h = true := by
  unfold lowS
  rw [List.mem_filter, List.mem_range]
theorem pr_take {α β : Type} {F : α → β → Prop} : ∀ {xs : List α} {ys : List β} (n : Nat), Paired F xs ys → Paired F (xs.take n) (ys.take n)
  | _, _, 0, _ => by rw [List.take_zero, List.take_zero]; exact .nil
  | _, _, _ + 1, .nil => .nil
  | _, _, n + 1, .cons r q => .cons r (pr_take n q)
theorem pr_drop {α β : Type} {F : α → β → Prop} : ∀ {xs : List α} {ys : List β} (n : Nat), Paired F xs ys → Paired F (xs.drop n) (ys.drop n)
  | _, _, 0, h => h
  | _, _, _ + 1, .nil => .nil
  | _, _, n + 1, .cons _ q => pr_drop n q
theorem pr_app {α β : Type} {F : α → β → Prop} : ∀ {xs xs' : List α} {ys ys' : List β}, Paired F xs ys → Paired F xs' ys' → Paired F (xs ++ xs') (ys ++ ys')
  | _, _, _, _, .nil, h => h
  | _, _, _, _, .cons r q, h => .cons r (pr_app q h)
/-- an entry of the number k -/
def EntS (e : Int × Value) (k : Nat) : Prop := e.1 = (k : Int) ∧ ∃ t, e.2 = .int (k : Int) t
theorem ents_hash : ∀ {es : List (Int × Value)} {ks : List Nat}, Paired EntS es ks → es.map (·.1) = ks.map fun i : Nat => (i : Int)
  | _, _, .nil => rfl
  | _, _, .cons r q => by rw [List.map_cons, List.map_cons, ents_hash q, r.1]
section
variable {prog : Program} {w : World}
theorem hash6 : ∀ k : Nat, k < 6 → hashInt (k : Int) = (k : Int) := by decide +kernel
theorem ents_of : ∀ {es : List (Int × Value)} {ks : List Nat}, Paired EntS es ks → (∀ k ∈ ks, k < 6) → ElemsOf (intKind prog w) es
  | _, _, .nil, _ => fun e he => by cases he
  | _, _, .cons (a := x) (b := k) r q, h => fun e he => by
    rcases List.mem_cons.mp he with rfl | he
    · obtain ⟨h1, t, h2⟩ := r
      refine ⟨⟨(k : Int), by rw [h2]; exact intKind_is _ _ _ _, ?_⟩, by rw [h2]; rfl⟩
      rw [h1]
      exact (hash6 k (h k List.mem_cons_self)).symm
    · exact ents_of q (fun j hj => h j (List.mem_cons_of_mem _ hj)) e he
theorem ents_find : ∀ {es : List (Int × Value)} {ks : List Nat} {h : Nat}, Paired EntS es ks → (es.findIdx? (fun e => (intKind prog w).is (h : Int) e.2)).isSome = decide (h ∈ ks)
  | _, _, _, .nil => rfl
  | _, _, h, .cons (a := x) (b := k) r q => by
    obtain ⟨h1, t, h2⟩ := r
    rw [List.findIdx?_cons, h2, KeyKind.is_eq_decide (intKind_is prog w (k : Int) t) (h : Int)]
    by_cases e : h = k
    · subst e
      simp
    · have e' : ¬ (h : Int) = (k : Int) := fun z => e (by omega)
      have ih := ents_find (h := h) q
      simp only [e', decide_false, Bool.false_eq_true, if_false, Option.isSome_map, ih, List.mem_cons, e, false_or]
/-- the set of m's numbers lies at a -/
def SetAt (w : World) (hp : Heap) (a : Addr) (m : Nat) : Prop := ∃ o es ep, hp.get? a = some o ∧ o.ExactSet ∧ o.data = .set es ep (tabS (w.params.followText "set-order") m) ∧ Paired EntS es.toList (lowS m) ∧ m < 64
theorem SetAt.same {hp hp' : Heap} {a : Addr} {m : Nat} (h : SetAt w hp a m) (k : ∀ o, hp.get? a = some o → hp'.get? a = some o) : SetAt w hp' a m := by
  obtain ⟨o, es, ep, e, r⟩ := h
  exact ⟨o, es, ep, k _ e, r⟩
variable {A : Around} {E : Value → Shared → Prop} {s : Shared}
theorem ents_len {es : Array (Int × Value)} {m : Nat} (h : Paired EntS es.toList (lowS m)) : es.size = (lowS m).length := by
  have := Paired.length h
  simpa using this
theorem lay_put {b : Bool} {m h : Nat} {es : Array (Int × Value)} {x : Value} (hm : m < 64) (h6 : h < 6) (no : m.testBit h = false) (he : Paired EntS es.toList (lowS m)) :
    layNew (tabS b m) es (h : Int) x = (SetTable.insertAt es (cutS m h) ((h : Int), x), putS b m h, false, false) := by
  have sz : (SetTable.insertAt es (cutS m h) ((h : Int), x)).size = (lowS m).length + 1 := by
    have := (SetTable.insertAt_perm es (cutS m h) ((h : Int), x)).length_eq
    rw [Array.length_toList, Array.length_toList, Array.size_push, ents_len he] at this
    exact this
  unfold layNew
  rw [tab_free b m hm h h6 no]
  dsimp only
  rw [tab_put b m hm h h6 no]
  dsimp only
  have ft := put_fits b m hm h h6 no
  unfold SetTable.orStandIn
  rw [sz, if_pos ft, ft]
  rfl
theorem put_ents {m h : Nat} {tk : Tok} {es : Array (Int × Value)} (hm : m < 64) (h6 : h < 6) (no : m.testBit h = false) (he : Paired EntS es.toList (lowS m)) :
    Paired EntS (SetTable.insertAt es (cutS m h) ((h : Int), .int (h : Int) tk)).toList (lowS (m ||| 2 ^ h)) := by
  rw [SetTable.toList_insertAt, low_put m hm h h6 no]
  first
    | exact pr_app (pr_app (pr_take _ he) (.cons ⟨rfl, tk, rfl⟩ .nil)) (pr_drop _ he)
    | (rw [List.append_assoc]; exact pr_app (pr_take _ he) (pr_app (.cons ⟨rfl, tk, rfl⟩ .nil) (pr_drop _ he)))
theorem relay_put {b : Bool} {m h : Nat} {es : Array (Int × Value)} (hm : m < 64) (h6 : h < 6) (no : m.testBit h = false) (f4 : (lowS m).length = 4) (he : Paired EntS es.toList (lowS (m ||| 2 ^ h))) :
    relayAll (putS b m h) es (SetTable.grown es.size) = (es, tabS b (m ||| 2 ^ h), false) := by
  have lo := low_or m hm h h6
  rw [no] at lo
  have sz : es.size = 5 := by rw [ents_len he, lo.2, f4]; rfl
  have hh : es.map (·.1) = ((lowS (m ||| 2 ^ h)).map fun i : Nat => (i : Int)).toArray := by
    apply Array.toList_inj.mp
    rw [Array.toList_map, ents_hash he]
  have rl := relOk_iff (put_relay b m hm h h6 no f4)
  have fi : (#[0, 1, 2, 3, 4] : Array Nat).filterMap (fun i => es[i]?) = es := by
    apply Array.toList_inj.mp
    have := filterMap_getElem?_range es
    rw [sz] at this
    rw [← this, Array.toList_filterMap]
    rfl
  unfold relayAll
  rw [sz, hh, show SetTable.grown 5 = 20 from rfl, rl]
  dsimp only
  rw [fi]
  have c1 : coversAll #[0, 1, 2, 3, 4] 5 = true := by decide +kernel
  have c2 : (tabS b (m ||| 2 ^ h)).fits 5 = true := by
    have := tab_fits b (m ||| 2 ^ h) lo.1
    rw [lo.2, f4] at this
    exact this
  rw [c1, sz, c2]
  rfl
theorem find_none {es : List (Int × Value)} {ks : List Nat} {h : Nat} (he : Paired EntS es ks) (no : h ∉ ks) : es.findIdx? (fun e => (intKind prog w).is (h : Int) e.2) = none := by
  have := ents_find (prog := prog) (w := w) (h := h) he
  rw [decide_eq_false no] at this
  exact Option.not_isSome_iff_eq_none.mp (by rw [this]; exact Bool.false_ne_true)
theorem find_some {es : List (Int × Value)} {ks : List Nat} {h : Nat} (he : Paired EntS es ks) (yes : h ∈ ks) : ∃ j, es.findIdx? (fun e => (intKind prog w).is (h : Int) e.2) = some j := by
  have := ents_find (prog := prog) (w := w) (h := h) he
  rw [decide_eq_true yes] at this
  exact Option.isSome_iff_exists.mp this
/-- a number below six is added -/
theorem set_add {a : Addr} {m h : Nat} {tk : Tok} {Q : Bool → Shared → Prop} (hS : SetAt w s.heap a m) (h6 : h < 6)
    (k : ∀ b hp', Heap.SameBut a s.heap hp' → SetAt w hp' a (m ||| 2 ^ h) → Q b { s with heap := hp' }) : wpAny (model prog w) A (setAddHashed a (.int (h : Int) tk) (h : Int)) Q E s := by
  obtain ⟨o, es, ep, ho, hx, hd, he, hm⟩ := hS
  have fit := tab_fits (w.params.followText "set-order") m hm
  rw [← ents_len he] at fit
  have l6 := low_len m hm
  have sz := ents_len he
  have el : ElemsOf (intKind prog w) es.toList := ents_of he fun j hj => (mem_low.mp hj).1
  have hk : (intKind prog w).is (h : Int) (.int (h : Int) tk) = true := intKind_is _ _ _ _
  have hh : (intKind prog w).hash (h : Int) = (h : Int) := hash6 h h6
  unfold setAddHashed setAddHashedIn
  refine wpAny_holding (wpAny_bind (wpAny_setState_of ho hd fit ?_))
  dsimp only
  rw [byScan_of (knd := intKind prog w) rfl (by unfold scanBound; omega) el]
  simp only [↓reduceIte]
  unfold setAddByScan
  refine wpAny_bind (wpAny_bind (wpAny_rule (wpAny_bind ?_)))
  have sc : ∀ {Q' : ScanMet → Shared → Prop}, Q' (match es.toList.findIdx? (fun e => (intKind prog w).is (h : Int) e.2) with | some j => .found (0 + j) | none => .absent) s → wpAny (model prog w) A (setScan a (.int (h : Int) tk) (h : Int) true es) Q' E s := fun hq => by
    have := wpAny_setScan_of (knd := intKind prog w) (adding := true) (A := A) (E := E) hk ho hd fit el hq
    rw [hh] at this
    exact this
  refine sc ?_
  cases yes : m.testBit h with
  | true =>
    obtain ⟨j, ej⟩ := find_some (prog := prog) (w := w) he (mem_low.mpr ⟨h6, yes⟩)
    rw [ej]
    dsimp only
    refine wpAny_pure (wpAny_pure ?_)
    have := k false s.heap (Heap.SameBut.refl a s.heap) ⟨o, es, ep, ho, hx, by rw [low_old m hm h h6 yes]; exact hd, by rw [low_old m hm h h6 yes]; exact he, by rw [low_old m hm h h6 yes]; exact hm⟩
    exact this
  | false =>
    rw [find_none (prog := prog) (w := w) he (fun z => by rw [(mem_low.mp z).2] at yes; cases yes)]
    dsimp only
    rw [lay_put hm h6 yes he]
    dsimp only
    have lo := low_or m hm h h6
    have he1 := put_ents (tk := tk) hm h6 yes he
    have pl : (putS (w.params.followText "set-order") m h).plain = true := by unfold putS tabS; split <;> rfl
    refine wpAny_bind (wpAny_pure ?_)
    rw [pl]
    simp only [↓reduceIte]
    refine wpAny_bind ?_
    rw [hashByValue_scannable 8 rfl]
    refine wpAny_pure ?_
    simp only [plainKind, ↓reduceIte]
    have z1 : (SetTable.insertAt es (cutS m h) ((h : Int), Value.int (h : Int) tk)).size = (lowS m).length + 1 := by rw [ents_len he1, lo.2, yes]; rfl
    refine wpAny_bind (wpAny_storeSet_of ho hd ?_ (by rw [z1]; exact small (by omega)))
    have at1 := Heap.get?_update_self (Obj.putSet (SetTable.insertAt es (cutS m h) ((h : Int), Value.int (h : Int) tk)) (putS (w.params.followText "set-order") m h)) ho (by rw [putSet_of _ _ hd]; rfl)
    rw [putSet_of _ _ hd] at at1
    have sb1 := Heap.SameBut.update s.heap a (Obj.putSet (SetTable.insertAt es (cutS m h) ((h : Int), Value.int (h : Int) tk)) (putS (w.params.followText "set-order") m h))
    rw [put_full _ m hm h h6 yes]
    by_cases f4 : (lowS m).length = 4
    · rw [decide_eq_true f4]
      simp only [Bool.not_false, Bool.and_self, ↓reduceIte]
      rw [relay_put hm h6 yes f4 he1]
      dsimp only
      refine wpAny_bind (wpAny_pure (wpAny_bind (wpAny_storeSet_of at1 rfl ?_ (by rw [z1]; exact small (by omega)))))
      have at2 := Heap.get?_update_self (Obj.putSet (SetTable.insertAt es (cutS m h) ((h : Int), Value.int (h : Int) tk)) (tabS (w.params.followText "set-order") (m ||| 2 ^ h))) at1 rfl
      refine wpAny_pure (wpAny_pure (k true _ (sb1.trans (Heap.SameBut.update _ a _)) ⟨_, _, _, at2, hx, rfl, he1, lo.1⟩))
    · rw [decide_eq_false f4]
      simp only [Bool.and_false, Bool.false_eq_true, ↓reduceIte]
      refine wpAny_pure (wpAny_pure (k true _ sb1 ⟨_, _, ep + 1, at1, hx, ?_, he1, lo.1⟩))
      dsimp only
      rw [put_rest _ m hm h h6 yes f4]
/-- the numbers met among the first i of them -/
def metS (val : Nat → Nat) : Nat → Nat
  | 0 => 0
  | i + 1 => metS val i ||| 2 ^ val i
end
section
variable {prog : Program} {w : World} {A : Around} {R : Result → Shared → Prop} {I : Addr} {fp wr : List Addr} {G : Array GenState → Array GenState → Prop} {n : Nat} {P : Nat → Value → Prop} {St : Nat → Shared → Prop}
theorem set_loop (W : WalksS prog w A.in1 I fp wr G n P St) (S : Addr) (hSf : S ∉ fp) (val : Nat → Nat) (hv : ∀ i v, P i v → ∃ t, v = .int (val i : Int) t) (h6 : ∀ i, val i < 6) :
    ∀ (k i : Nat) (s : Shared), n - i = k → i ≤ n → St i s → SetAt w s.heap S (metS val i) → (∀ s', Moved (S :: wr) G s s' → SetAt w s'.heap S (metS val n) → R (.ok (.ret .none)) s') →
      codeAny (model prog w) A (.builtin "set.update.loop" ⟨[.ref S, .ref I], []⟩) R s := by
  have nw : S ∉ wr := fun h => hSf (W.sub _ h)
  have up : ∀ b ∈ wr, b ∈ S :: wr := fun b hb => List.mem_cons_of_mem _ hb
  intro k
  induction k with
  | zero =>
    intro i s hk hi hst hS hR
    obtain rfl : i = n := by omega
    refine codeAny_builtin PyProof.Rows.F.entry_set_update_loop (by
      rw [Around.under_plainId PyProof.Rows.F.plain_set_update_loop _]
      show wpAny _ A.in1 (pyNext (.ref I) >>= _) _ _ s
      refine wpAny_bind (W.done s _ _ hst fun s' mv => ?_)
      show wpAny _ A.in1 (ret Value.none) _ _ s'
      exact wpAny_pure (hR s' (mv.mono up) (hS.same fun o e => mv.heap S _ nw e)))
  | succ k ih =>
    intro i s hk hi hst hS hR
    have lt : i < n := by omega
    refine codeAny_builtin PyProof.Rows.F.entry_set_update_loop (by
      rw [Around.under_plainId PyProof.Rows.F.plain_set_update_loop _]
      show wpAny _ A.in1 (pyNext (.ref I) >>= _) _ _ s
      refine wpAny_bind (W.item i s _ _ lt hst fun v s' pv st' mv => ?_)
      obtain ⟨t, rfl⟩ := hv i v pv
      have S' : SetAt w s'.heap S (metS val i) := hS.same fun o e => mv.heap S _ nw e
      show wpAny _ A.in1 (holding [Value.int (val i : Int) t] (setAdd S (.int (val i : Int) t)) >>= _) _ _ s'
      refine wpAny_bind (wpAny_holding ?_)
      unfold setAdd
      refine wpAny_holding (wpAny_bind ((intKind prog w).pyHash (k := (val i : Int)) (intKind_is _ _ _ _) ?_))
      show wpAny _ _ (setAddHashed S _ (hashInt (val i : Int))) _ _ _
      rw [hash6 _ (h6 i)]
      refine set_add (s := { s' with toks := s'.toks + 1 }) S' (h6 i) fun b hp' sb S2 => ?_
      refine wpAny_pure ⟨plainId_quiet PyProof.Rows.F.plain_set_update_loop _, ih (i + 1) _ (by omega) lt (W.frame _ s' _ _ st' (Nat.le_succ _) fun b hb o e => ?_) S2 fun s2 m2 S3 => ?_⟩
      · rw [sb.2 b (fun z : b = S => hSf (by rw [← z]; exact hb))]
        exact e
      · refine hR s2 (Moved.trans W.gtrans ((mv.mono up).then_heap (Nat.le_succ _) fun b o hb e => ?_) m2) S3
        rw [sb.2 b (fun z : b = S => hb (by rw [z]; exact List.mem_cons_self))]
        exact e)
end
section
variable {prog : Program} {w : World} {A : Around} {E : Value → Shared → Prop} {s : Shared}
def newS (w : World) : Obj := { cls := .type "set", dict := none, data := .set #[] 0 (.fresh 0 0 (!w.params.followText "set-order")) }
theorem new_at {hp : Heap} {a : Addr} (h : hp.get? a = some (newS w)) : SetAt w hp a 0 := by
  refine ⟨_, _, _, h, ⟨rfl, rfl, rfl⟩, rfl, ?_, by decide⟩
  show Paired EntS [] (lowS 0)
  rw [show lowS 0 = [] by decide +kernel]
  exact .nil
theorem made_set (x : Value) {Q1 : Value → Shared → Prop} (h : Q1 (.ref s.heap.objs.size) { s with heap := s.heap.push (newS w) }) :
    codeAny (model prog w) A (.call (.builtin "set.__new__") ⟨[.type "set", x], []⟩) (wants Q1 E) s := by
  have sub := sub_set_self
  refine codeAny_of_tree (by
    show wpAny _ A.in1 (do checkBuiltinCall "set.__new__" ⟨[.type "set", x], []⟩; again (.builtin "set.__new__" ⟨[.type "set", x], []⟩)) _ _ s
    refine wpAny_bind (wpAny_of_eq (PySem.F.newCall_set_1 x) (wpAny_pure ⟨plainId_quiet PySem.F.plain_set_new _, codeAny_builtin PySem.F.entry_set_new (by
      rw [Around.under_plainId PySem.F.plain_set_new _]
      unfold Builtin.«set.__new__» Builtin.Frozenset.newClass
      obtain ⟨hp, g, d, tk, os⟩ := s
      dsimp only
      wp_walk
      refine wpAny_askSetting (wpAny_pure ?_)
      dsimp only
      simp only [newObj]
      exact wpAny_bind (wpAny_alloc (wpAny_pure (wpAny_pure h))))⟩)))
theorem call_set {l : Addr} {items : Array Value} {val : Nat → Nat} {Q : Value → Shared → Prop} (hh : A.handled = none) (hl : s.heap.IsList l items) (hi : ∀ (i : Nat) (v : Value), items[i]? = some v → ∃ t, v = .int (val i : Int) t) (h6 : ∀ i, val i < 6)
    (h : ∀ (hp' : Heap) (tk : Nat), SetAt w hp' s.heap.objs.size (metS val items.size) → (∀ b o, b < s.heap.objs.size → s.heap.get? b = some o → hp'.get? b = some o) → Q (.ref s.heap.objs.size) { s with heap := hp', toks := tk }) :
    wpAny (model prog w) A (call (.type "set") [.ref l]) Q E s := by
  obtain ⟨c, tl, hmro⟩ := PySem.F.called_set.mro
  have m1 := PySem.F.called_set.made
  have m2 := PySem.F.called_set.sub
  have m3 := PySem.F.called_set.notType
  have m4 := PySem.F.called_set.canCreate
  have m5 := PySem.F.typeCall_set_1 (.ref l)
  refine wpAny_call (codeAny_of_tree (by
    show wpAny _ _ (callAny (.type "set") _) _ _ _
    refine wpAny_pure ⟨Code.quiet_builtin _ (by decide +kernel), codeAny_builtin PySem.F.entry_type_call ?_⟩
    rw [Around.under_plain (weight_type_call_type "set" [.ref l] []) rfl]
    repeat (any_goals (first | assumption | wp_step))
    refine codeAny_mono (made_set (.ref l) (E := E) (Q1 := fun obj s1 => obj = .ref s.heap.objs.size ∧ s1 = { s with heap := s.heap.push (newS w) }) ⟨rfl, rfl⟩) fun r s1 hr => ?_
    cases r with
    | error e => exact hr
    | ok fl =>
      cases fl with
      | ret obj =>
        obtain ⟨rfl, rfl⟩ := hr
        have hS : (s.heap.push (newS w)).get? s.heap.objs.size = some (newS w) := Heap.get?_push_size _ rfl
        have hT : Shared.TypeIs { s with heap := s.heap.push (newS w) } (.ref s.heap.objs.size) "set" := ⟨_, hS, rfl⟩
        have i1 := PySem.F.called_set.init.lookup
        have i2 := PySem.F.called_set.init.bind (.ref s.heap.objs.size)
        repeat (any_goals (first | assumption | wp_step))
        refine codeAny_mono (codeAny_call_builtin (R := wants (fun r s2 => r = .none ∧ ∃ hp' tk, s2 = { s with heap := hp', toks := tk } ∧ SetAt w hp' s.heap.objs.size (metS val items.size) ∧ (∀ b o, b < s.heap.objs.size → s.heap.get? b = some o → hp'.get? b = some o)) E) PySem.F.called_set.init.plain PySem.F.entry_set_init (check_set_init_1 hT ?_)) fun r2 s2 hr2 => ?_
        · obtain ⟨ol, e0, c0, n0, d0⟩ := hl
          obtain ⟨oc, od, oda, osl⟩ := ol
          dsimp only at c0 d0
          subst c0 d0
          have e1 : (s.heap.push (newS w)).get? l = some { cls := .type "list", dict := od, data := .seq items n0, slots := osl } := Heap.get?_push_of_some _ e0
          have q1 := PySem.F.sub_list_set
          have q2 := PySem.F.sub_list_frozenset
          have q3 : (Value.type "list" == Value.type "dict") = false := by decide
          have hl1 : (s.heap.push (newS w)).IsList l items := ⟨_, e1, rfl, n0, rfl⟩
          unfold Builtin.«set.__init__» noKeywords Builtin.Frozenset.updateFrom
          generalize ePI : pyIter = PI
          wp_walk
          subst ePI
          have lS : l < s.heap.objs.size := Heap.lt_size e0
          have sz1 : (s.heap.push (newS w)).objs.size = s.heap.objs.size + 1 := Heap.size_push _ _
          refine wpAny_pyIter_list hl1 (wpAny_bind (wpAny_runValue ?_))
          refine set_loop ((Walks.list (by simp [hh]) _ l (by rw [sz1]; exact Nat.ne_of_lt (Nat.lt_succ_of_lt lS)) items).toS) s.heap.objs.size (by rw [sz1]; simp only [List.mem_cons, List.not_mem_nil, or_false, not_or]; exact ⟨Nat.ne_of_lt (Nat.lt_succ_self _), Nat.ne_of_gt lS⟩) val hi h6 (items.size - 0) 0 _ (by omega) (Nat.zero_le _) ⟨⟨_, Heap.get?_push_size _ rfl, rfl, rfl⟩, hl1.push _⟩ ?_ ?_
          · exact (new_at (Heap.get?_push_of_some _ hS))
          · intro s' mv S'
            obtain ⟨hp', g', d', tk', os'⟩ := s'
            obtain rfl : g' = s.gens := mv.gens
            obtain rfl : d' = s.drawn := mv.drawn
            obtain rfl : os' = s.os := mv.os
            show wpAny _ _ _ _ _ _
            refine wpAny_pure ?_
            show wpAny _ _ (ret Value.none) _ _ _
            refine wpAny_pure ⟨rfl, hp', tk', rfl, S', fun b o hb e => ?_⟩
            refine mv.heap b o ?_ (Heap.get?_push_of_some _ (Heap.get?_push_of_some _ e))
            rw [sz1]
            simp only [List.mem_cons, List.not_mem_nil, or_false, not_or]
            exact ⟨Nat.ne_of_lt hb, Nat.ne_of_lt (Nat.lt_succ_of_lt hb)⟩
        · cases r2 with
          | error e => exact hr2
          | ok fl2 =>
            cases fl2 with
            | ret r =>
              obtain ⟨rfl, hp', tk, rfl, S', kp⟩ := hr2
              repeat (any_goals (first | assumption | wp_step))
              exact h _ _ S' kp
            | _ => exact hr2.elim
      | _ => exact hr.elim))
end
end L2

set_option maxRecDepth 100000
set_option maxHeartbeats 4000000
namespace L2
open PySem PySem.Spec PyProof.Rows
theorem slot_si : Slot "set_iterator" "__next__" "set_iterator.__next__" :=
  .of (owner := "set_iterator") (n := "__next__") (by rw [typeLookup_type, builtinLookup_eq_fast]; kernel_rfl) (by decide +kernel) (by decide +kernel) (by decide +kernel) (by first | exact .inl (by decide +kernel) | exact .inr (by decide +kernel)) (by rw [isSubtype_type]; kernel_rfl)
theorem entry_si : entryFor table "set_iterator.__next__" = some Builtin.«set_iterator.__next__» := entryFor_of_tree (by kernel_rfl)
theorem args_si (a : Value) : argsOk "set_iterator.__next__" ⟨[a], []⟩ := by unfold argsOk; kernel_rfl
theorem entry_sit : entryFor table "set.__iter__" = some Builtin.«frozenset.__iter__» := entryFor_alias (id' := "frozenset.__iter__") (by kernel_rfl) rfl (by decide +kernel) (by kernel_rfl)
def slotS (m i : Nat) : Nat := if i = 0 then 0 else (lowS m).getD (i - 1) 0 + 1
theorem below_slot : ∀ m, m < 64 → ∀ i, i < 7 → i ≤ (lowS m).length → SetTable.below (lowS m).toArray (slotS m i) = i := by decide +kernel
theorem pick_perm {α : Type} (next : Nat → Nat) : ∀ (fuel k : Nat) (left : List α) (out : Array α), left.length = fuel → (pickOrder.go next fuel k left out).toList.Perm (out.toList ++ left)
  | 0, k, left, out, h => by
    obtain rfl := List.length_eq_zero_iff.mp h
    unfold pickOrder.go
    rw [List.append_nil]
  | fuel + 1, k, left, out, h => by
    have hi : next k % left.length < left.length := Nat.mod_lt _ (by omega)
    unfold pickOrder.go
    rw [List.getElem?_eq_getElem hi]
    dsimp only
    refine (pick_perm next fuel (k + 1) (left.eraseIdx (next k % left.length)) (out.push left[next k % left.length]) (by rw [List.length_eraseIdx]; simp [hi]; omega)).trans ?_
    rw [Array.toList_push, List.append_assoc]
    refine List.Perm.append_left _ ?_
    rw [List.eraseIdx_eq_take_drop_succ]
    have e : left = left.take (next k % left.length) ++ left[next k % left.length] :: left.drop (next k % left.length + 1) := by
      rw [← List.drop_eq_getElem_cons hi, List.take_append_drop]
    conv => rhs; rw [e]
    rw [List.singleton_append]
    exact List.perm_middle.symm
theorem pick_all {α : Type} (next : Nat → Nat) (xs : Array α) : (pickOrder next xs).toList.Perm xs.toList := by
  unfold pickOrder
  have := pick_perm next xs.size 0 xs.toList #[] (by simp)
  simpa using this
section
variable {prog : Program} {w : World} {A : Around} {E : Value → Shared → Prop} {s : Shared}
/-- the entries in the order of the walk -/
def ordS (w : World) (a ep : Nat) (es : Array (Int × Value)) : Array (Int × Value) := if w.params.followText "set-order" = true then pickOrder (w.params.setOrder a ep) es else es
theorem ord_perm (a ep : Nat) (es : Array (Int × Value)) : (ordS w a ep es).toList.Perm es.toList := by
  unfold ordS
  split
  · exact pick_all _ _
  · exact List.Perm.refl _
def itS (w : World) (a m i ep : Nat) : Obj := { cls := .type "set_iterator", data := .fields #[.int ((if w.params.followText "set-order" = true then 0 else slotS m i : Nat) : Int) 0, .int (i : Int) 0, .ref a, .int ((lowS m).length : Int) 0, .int (ep : Int) 0] }
theorem set_iter {a m ep : Nat} {o : Obj} {es : Array (Int × Value)} {Q : Value → Shared → Prop} (ho : s.heap.get? a = some o) (hx : o.ExactSet) (hd : o.data = .set es ep (tabS (w.params.followText "set-order") m)) (he : Paired EntS es.toList (lowS m)) (hm : m < 64)
    (h : Q (.ref s.heap.objs.size) { s with heap := s.heap.push (itS w a m 0 ep) }) : wpAny (model prog w) A (pyIter (.ref a)) Q E s := by
  have ty : s.TypeIs (.ref a) "set" := ⟨o, ho, hx.1⟩
  have fit := tab_fits (w.params.followText "set-order") m hm
  rw [← ents_len he] at fit
  have pl : (tabS (w.params.followText "set-order") m).plain = true := by unfold tabS; split <;> rfl
  refine wpAny_pyIter_slot ty PySem.F.slot_set_iter (wpAny_call_entry PySem.F.slot_set_iter ty entry_sit ?_ (PySem.F.args_set_iter_1 _))
  unfold Builtin.«frozenset.__iter__» Builtin.Frozenset.slot0 slotArgs
  simp only [List.isEmpty_nil, Bool.not_true, Bool.false_eq_true, ↓reduceIte, bind_assoc, List.length_nil, bne_self_eq_false]
  unfold Builtin.Frozenset.addrOf Builtin.Frozenset.sizeOf
  refine wpAny_bind (wpAny_pure ?_)
  try dsimp only
  refine wpAny_bind (wpAny_pure (wpAny_bind (wpAny_bind (wpAny_setEntries_of ho hd fit (wpAny_pure ?_)))))
  unfold setDrawn setsByText
  refine wpAny_bind (wpAny_bind (wpAny_setState_of ho hd fit ?_))
  refine wpAny_bind (wpAny_bind (wpAny_askSetting (wpAny_pure (wpAny_pure ?_))))
  show wpAny _ _ (if (!w.params.followText "set-order" && (!(tabS (w.params.followText "set-order") m).plain && decide (es.size > 1))) = true then _ else _) _ _ _
  rw [pl]
  simp only [Bool.not_true, Bool.false_and, Bool.and_false, Bool.false_eq_true, ↓reduceIte]
  refine wpAny_bind (wpAny_pure (wpAny_bind (wpAny_setEpoch_of ho hd fit ?_)))
  refine wpAny_bind (wpAny_newObj_type (wpAny_pure ⟨_, rfl, "set_iterator", _, ⟨_, Heap.get?_push_size _ rfl, rfl⟩, slot_si.lookup, ?_⟩) (by simp [sizeOk]; exact small (by decide)))
  have e : itS w a m 0 ep = { cls := .type "set_iterator", data := .fields #[.int 0 0, .int 0 0, .ref a, .int (es.size : Int) 0, .int (ep : Int) 0] } := by
    unfold itS slotS
    rw [ents_len he]
    simp
  rw [e] at h
  exact h
theorem set_step {a m i ep : Nat} {o : Obj} {es : Array (Int × Value)} {R : Option (Value × Nat) → Shared → Prop} (ho : s.heap.get? a = some o) (hd : o.data = .set es ep (tabS (w.params.followText "set-order") m)) (he : Paired EntS es.toList (lowS m)) (hm : m < 64) (hi : i ≤ (lowS m).length)
    (h : R ((ordS w a ep es)[i]?.map fun e => (e.2, if w.params.followText "set-order" = true then 0 else slotS m (i + 1))) s) : wpAny (model prog w) A (setNext a (if w.params.followText "set-order" = true then 0 else slotS m i) i ep) R E s := by
  have fit := tab_fits (w.params.followText "set-order") m hm
  rw [← ents_len he] at fit
  have pl : (tabS (w.params.followText "set-order") m).plain = true := by unfold tabS; split <;> rfl
  have ld : (tabS (w.params.followText "set-order") m).led = !(w.params.followText "set-order") := by unfold tabS; split <;> rfl
  have pc : (tabS (w.params.followText "set-order") m).place = (lowS m).toArray := by unfold tabS; split <;> rfl
  have sz := ents_len he
  have l6 := low_len m hm
  unfold setNext setsByText
  refine wpAny_bind (wpAny_setState_of ho hd fit (wpAny_bind (wpAny_bind (wpAny_askSetting (wpAny_pure ?_)))))
  show wpAny _ _ (if w.params.followText "set-order" = true then _ else _) _ _ _
  unfold ordS at h
  cases eb : w.params.followText "set-order" with
  | true =>
    rw [eb] at h
    simp only [↓reduceIte, bne_self_eq_false, Bool.false_eq_true] at h ⊢
    unfold setWalk setsByText
    refine wpAny_bind (wpAny_bind (wpAny_setState_of ho hd fit (wpAny_bind (wpAny_bind (wpAny_askSetting (wpAny_pure ?_))))))
    show wpAny _ _ (if w.params.followText "set-order" = true then _ else _) _ _ _
    rw [eb]
    simp only [↓reduceIte]
    refine wpAny_bind (wpAny_askSetting (wpAny_pure (wpAny_pure ?_)))
    exact h
  | false =>
    rw [eb] at h
    simp only [↓reduceIte, Bool.false_eq_true] at h ⊢
    rw [eb] at pl ld pc
    show wpAny _ _ (if (!(tabS false m).plain && decide (es.size > 1)) = true then _ else _) _ _ _
    rw [pl]
    simp only [Bool.not_true, Bool.false_and, Bool.false_eq_true, ↓reduceIte]
    show wpAny _ _ ((if (!(tabS false m).led && !es.isEmpty) = true then _ else _) >>= _) _ _ _
    rw [ld]
    simp only [Bool.not_false, Bool.not_true, Bool.false_and, Bool.false_eq_true, ↓reduceIte]
    refine wpAny_bind (wpAny_pure (wpAny_pure ?_))
    rw [pc, below_slot m hm i (by omega) hi]
    by_cases hl : i < (lowS m).length
    · have e1 : es[i]? = some es[i] := Array.getElem?_eq_getElem (by omega)
      have e2 : (lowS m).toArray[i]? = some (lowS m)[i] := by rw [List.getElem?_toArray, List.getElem?_eq_getElem hl]
      rw [e1] at h ⊢
      rw [e2]
      have e3 : slotS m (i + 1) = (lowS m)[i] + 1 := by
        unfold slotS
        rw [if_neg (by omega), Nat.add_sub_cancel, List.getD_eq_getElem?_getD, List.getElem?_eq_getElem hl]
        rfl
      rw [e3] at h
      exact h
    · have e1 : es[i]? = none := Array.getElem?_eq_none (by omega)
      rw [e1] at h ⊢
      exact h
/-- one more -/
theorem set_next {a m i ep it : Nat} {o : Obj} {es : Array (Int × Value)} {Q : Option Value → Shared → Prop} (hit : s.heap.get? it = some (itS w a m i ep)) (ho : s.heap.get? a = some o) (hd : o.data = .set es ep (tabS (w.params.followText "set-order") m)) (he : Paired EntS es.toList (lowS m)) (hm : m < 64) (hi : i < (lowS m).length)
    (h : ∀ e hp', (ordS w a ep es)[i]? = some e → hp'.get? it = some (itS w a m (i + 1) ep) → Heap.SameBut it s.heap hp' → Q (some e.2) { s with heap := hp' }) : wpAny (model prog w) A (pyNext (.ref it)) Q E s := by
  have ty : s.TypeIs (.ref it) "set_iterator" := ⟨_, hit, rfl⟩
  have fit := tab_fits (w.params.followText "set-order") m hm
  rw [← ents_len he] at fit
  have pl : (tabS (w.params.followText "set-order") m).plain = true := by unfold tabS; split <;> rfl
  have ld : (tabS (w.params.followText "set-order") m).led = !(w.params.followText "set-order") := by unfold tabS; split <;> rfl
  have pc : (tabS (w.params.followText "set-order") m).place = (lowS m).toArray := by unfold tabS; split <;> rfl
  have sz := ents_len he
  have l6 := low_len m hm
  have zo : (ordS w a ep es).size = es.size := by
    have := (ord_perm (w := w) a ep es).length_eq
    simpa using this
  obtain ⟨e, ee⟩ : ∃ e, (ordS w a ep es)[i]? = some e := ⟨_, Array.getElem?_eq_getElem (by omega)⟩
  unfold pyNext
  refine wpAny_bind (wpAny_attempt (wpAny_callSpecial?_slot (name := Str.ofString "__next__") ty slot_si (wpAny_call_entry slot_si ty entry_si ?_ (args_si _))))
  unfold Builtin.«set_iterator.__next__» slotArgs
  simp only [List.isEmpty_nil, Bool.not_true, Bool.false_eq_true, ↓reduceIte, bind_assoc, List.length_nil, bne_self_eq_false]
  refine wpAny_bind (wpAny_pure ?_)
  try dsimp only
  refine wpAny_bind (wpAny_fieldsOf hit rfl ?_)
  dsimp only [List.toList_toArray]
  refine wpAny_bind (wpAny_setEntries_of ho hd fit ?_)
  rw [sz]
  simp only [bne_self_eq_false, Bool.false_eq_true, ↓reduceIte]
  have cs : ∀ x : Nat, ((x : Int)).toNat = x := fun x => Int.toNat_natCast x
  rw [cs, cs, cs]
  refine wpAny_bind (set_step ho hd he hm (Nat.le_of_lt hi) ?_)
  rw [ee]
  dsimp only [Option.map]
  refine wpAny_bind (wpAny_setField_rec hit (by simp) fun a1 e1 s1 => ?_)
  refine wpAny_bind (wpAny_setField_rec e1 (by simp) fun a2 e2 s2 => ?_)
  refine wpAny_pure ⟨_, rfl, wpAny_pure (h e a2 ee ?_ (Heap.SameBut.trans s1 s2))⟩
  rw [e2]
  unfold itS
  simp [rawInt]
end
end L2

set_option maxRecDepth 100000
set_option maxHeartbeats 4000000
namespace L2
open PySem PySem.Spec PyProof.Rows
section
variable {prog : Program} {w : World} {A : Around} {E : Value → Shared → Prop} {s : Shared}
/-- no more -/
theorem set_end {a m ep it : Nat} {o : Obj} {es : Array (Int × Value)} {Q : Option Value → Shared → Prop} (hh : A.handled = none) (hit : s.heap.get? it = some (itS w a m (lowS m).length ep)) (ho : s.heap.get? a = some o) (hd : o.data = .set es ep (tabS (w.params.followText "set-order") m)) (he : Paired EntS es.toList (lowS m)) (hm : m < 64)
    (h : ∀ hp', Heap.ExtBut it s.heap hp' → Q none { s with heap := hp' }) : wpAny (model prog w) A (pyNext (.ref it)) Q E s := by
  have ty : s.TypeIs (.ref it) "set_iterator" := ⟨_, hit, rfl⟩
  have fit := tab_fits (w.params.followText "set-order") m hm
  rw [← ents_len he] at fit
  have sz := ents_len he
  have zo : (ordS w a ep es).size = es.size := by
    have := (ord_perm (w := w) a ep es).length_eq
    simpa using this
  have ee : (ordS w a ep es)[(lowS m).length]? = none := Array.getElem?_eq_none (by omega)
  unfold pyNext
  refine wpAny_bind (wpAny_attempt (wpAny_callSpecial?_slot (name := Str.ofString "__next__") ty slot_si (wpAny_call_entry slot_si ty entry_si ?_ (args_si _))))
  unfold Builtin.«set_iterator.__next__» slotArgs
  simp only [List.isEmpty_nil, Bool.not_true, Bool.false_eq_true, ↓reduceIte, bind_assoc, List.length_nil, bne_self_eq_false]
  refine wpAny_bind (wpAny_pure ?_)
  try dsimp only
  refine wpAny_bind (wpAny_fieldsOf hit rfl ?_)
  dsimp only [List.toList_toArray]
  refine wpAny_bind (wpAny_setEntries_of ho hd fit ?_)
  rw [sz]
  simp only [bne_self_eq_false, Bool.false_eq_true, ↓reduceIte]
  have cs : ∀ x : Nat, ((x : Int)).toNat = x := fun x => Int.toNat_natCast x
  rw [cs, cs, cs]
  refine wpAny_bind (set_step ho hd he hm (Nat.le_refl _) ?_)
  rw [ee]
  dsimp only [Option.map]
  refine wpAny_bind (wpAny_setField hit rfl (by simp) ?_)
  refine wpAny_bind ?_
  simp only [newExc, newTuple]
  refine wpAny_bind (wpAny_newObj_type ?_ (by size_fits))
  refine wpAny_bind (m := firstArgMember _ _) (wpAny_of_eq (a := Value.none) (by first | rfl | (simp only [firstArgMember]; rfl)) (wpAny_newObj_type ?_ (by size_fits)))
  simp only [raiseNew]
  refine wpAny_bind (wpAny_handled ?_)
  rw [show A.in1.handled = none from hh]
  refine wpAny_bind (wpAny_pure (wpAny_throw ?_))
  refine wpAny_bind (wpAny_isInstance (T := "StopIteration") (b := true) ⟨_, Heap.get?_push_size _ rfl, rfl⟩ isSubtype_stop (wpAny_pure (h _ ?_)))
  exact ((Heap.SameBut.update ..).extBut.push _).push _
theorem entry_sii : entryFor table "set_iterator.__iter__" = some Builtin.«dict_keyiterator.__iter__» := entryFor_alias (id' := "dict_keyiterator.__iter__") (by kernel_rfl) rfl (by decide +kernel) (by kernel_rfl)
theorem slot_sii : Slot "set_iterator" "__iter__" "set_iterator.__iter__" :=
  .of (owner := "set_iterator") (n := "__iter__") (by rw [typeLookup_type, builtinLookup_eq_fast]; kernel_rfl) (by decide +kernel) (by decide +kernel) (by decide +kernel) (by first | exact .inl (by decide +kernel) | exact .inr (by decide +kernel)) (by rw [isSubtype_type]; kernel_rfl)
theorem args_sii (a : Value) : argsOk "set_iterator.__iter__" ⟨[a], []⟩ := by unfold argsOk; kernel_rfl
theorem self_si {a m i ep it : Nat} {Q : Value → Shared → Prop} (hit : s.heap.get? it = some (itS w a m i ep)) (q : Q (.ref it) s) : wpAny (model prog w) A (pyIter (.ref it)) Q E s := by
  have ty : s.TypeIs (.ref it) "set_iterator" := ⟨_, hit, rfl⟩
  refine wpAny_pyIter_slot ty slot_sii (wpAny_call_entry slot_sii ty entry_sii ?_ (args_sii _))
  show wpAny _ _ (ret (.ref it)) _ _ s
  exact wpAny_pure ⟨_, rfl, "set_iterator", _, ty, slot_si.lookup, q⟩
theorem walk_set (hh : A.handled = none) {a m ep it : Nat} {o : Obj} {es : Array (Int × Value)} (ne : a ≠ it) (hd : o.data = .set es ep (tabS (w.params.followText "set-order") m)) (he : Paired EntS es.toList (lowS m)) (hm : m < 64) :
    Walks prog w A it [it, a] [it] (lowS m).length (fun i v => ∃ e, (ordS w a ep es)[i]? = some e ∧ v = e.2) (fun i h => h.get? it = some (itS w a m i ep) ∧ h.get? a = some o) where
  sub := fun b hb => by rw [List.mem_singleton.mp hb]; exact List.mem_cons_self
  frame := fun _ _ _ st k => ⟨k it List.mem_cons_self _ st.1, k a (by simp) _ st.2⟩
  item := fun i s Q E hi st k => set_next st.1 st.2 hd he hm hi fun e hp' ee h1 sb => k e.2 hp' s.toks ⟨e, ee, rfl⟩ ⟨h1, sb.extBut _ _ ne st.2⟩ fun b o hb z => sb.extBut b o (fun y => hb (by rw [y]; exact List.mem_cons_self)) z
  done := fun s Q E st k => set_end hh st.1 st.2 hd he hm fun hp' eb => k hp' s.toks fun b o hb z => eb b o (fun y => hb (by rw [y]; exact List.mem_cons_self)) z
  self := fun _ _ _ _ st k => self_si st.1 k
theorem len_set : typeLookup (.type "set") "__len__" = pure (some (.builtin "set.__len__")) := by rw [typeLookup_type, builtinLookup_eq_fast]; kernel_rfl
theorem collect_set (hh : A.handled = none) {a m : Nat} {Q : List Value → Shared → Prop} (hS : SetAt w s.heap a m)
    (h : ∀ (hp' : Heap) (tk : Nat) (es : Array (Int × Value)) (ep : Nat), s.heap.objs.size < hp'.objs.size → (∀ b o, s.heap.get? b = some o → hp'.get? b = some o) → Paired EntS es.toList (lowS m) → Q ((ordS w a ep es).toList.map (·.2)) { s with heap := hp', toks := tk }) : wpAny (model prog w) A (collect (.ref a)) Q E s := by
  obtain ⟨o, es, ep, ho, hx, hd, he, hm⟩ := hS
  have al : a < s.heap.objs.size := Heap.lt_size ho
  have l6 := low_len m hm
  unfold collect
  refine wpAny_bind (wpAny_runValue (codeAny_builtin PySem.F.entry_proto_collect ?_))
  rw [Around.under_plainId PySem.F.plain_proto_collect _]
  show wpAny _ A.in1 (newList [] >>= fun l => again (.builtin "list.__iadd__" ⟨[l, .ref a], []⟩)) _ _ s
  refine wpAny_bind (wpAny_newObj_type (wpAny_pure ⟨plainId_quiet PySem.F.plain_list_iadd _, codeAny_builtin PySem.F.entry_list_iadd ?_⟩))
  rw [Around.under_plainId PySem.F.plain_list_iadd _]
  have g1 : (s.heap.push { cls := .type "list", data := .seq ([] : List Value).toArray }).get? s.heap.objs.size = some { cls := .type "list", data := .seq ([] : List Value).toArray } := Heap.get?_push_size _ rfl
  have ho1 : (s.heap.push { cls := .type "list", data := .seq ([] : List Value).toArray }).get? a = some o := Heap.get?_push_of_some _ ho
  have z1 : (s.heap.push { cls := .type "list", data := .seq ([] : List Value).toArray }).objs.size = s.heap.objs.size + 1 := Heap.size_push _ _
  show wpAny _ A.in1 (Builtin.List.listExtendWith (.ref s.heap.objs.size) (.ref a) (.ref s.heap.objs.size)) _ _ _
  have k1 : ∀ b o, s.heap.get? b = some o → (s.heap.push { cls := .type "list", data := .seq ([] : List Value).toArray }).get? b = some o := fun b o e => Heap.get?_push_of_some _ e
  generalize s.heap.push { cls := .type "list", data := .seq ([] : List Value).toArray } = h1 at g1 ho1 z1 k1
  have ty : Shared.TypeIs { s with heap := h1 } (.ref a) "set" := ⟨o, ho1, hx.1⟩
  unfold Builtin.List.listExtendWith
  refine wpAny_bind (wpAny_typeOf ty ?_)
  have q1 : Builtin.List.listSameRef (.ref s.heap.objs.size) (.ref a) = false := by simp [Builtin.List.listSameRef]; exact Nat.ne_of_gt al
  have q2 : (Value.type "set" == Value.type "list") = false := by decide
  have q3 : (Value.type "set" == Value.type "tuple") = false := by decide
  simp only [q1, q2, q3, Bool.or_false, Bool.false_eq_true, if_false]
  refine wpAny_bind (set_iter (s := { s with heap := h1 }) ho1 hx hd he hm ?_)
  have it1 : (h1.push (itS w a m 0 ep)).get? h1.objs.size = some (itS w a m 0 ep) := Heap.get?_push_size _ rfl
  have g2 : (h1.push (itS w a m 0 ep)).get? s.heap.objs.size = some { cls := .type "list", data := .seq ([] : List Value).toArray } := Heap.get?_push_of_some _ g1
  have ho2 : (h1.push (itS w a m 0 ep)).get? a = some o := Heap.get?_push_of_some _ ho1
  have k2 : ∀ b o, s.heap.get? b = some o → (h1.push (itS w a m 0 ep)).get? b = some o := fun b o e => Heap.get?_push_of_some _ (k1 b o e)
  dsimp only
  generalize h1.push (itS w a m 0 ep) = h2 at it1 g2 ho2 k2
  have ty2 : Shared.TypeIs { s with heap := h2 } (.ref a) "set" := ⟨o, ho2, hx.1⟩
  refine wpAny_bind (wpAny_holding ?_)
  unfold Builtin.List.listLengthHint
  refine wpAny_bind (wpAny_specialOf ty2 len_set ?_)
  have sp : splitId "set.__len__" = some ("set", "__len__") := by kernel_rfl
  dsimp only
  rw [sp]
  dsimp only
  refine wpAny_bind (wpAny_isInstance ty2 sub_set_self ?_)
  simp only [Bool.not_true, Bool.false_eq_true, ↓reduceIte]
  rw [if_pos (by decide +kernel)]
  refine wpAny_bind (wpAny_typeOf ty2 (wpAny_pure ?_))
  rw [if_pos (by decide +kernel)]
  refine wpAny_bind (wpAny_rule (wpAny_bind ?_))
  show wpAny _ A.in1 (updateSeq s.heap.objs.size (·.push .none) >>= fun _ => updateSeq s.heap.objs.size (·.pop)) _ _ _
  refine wpAny_bind (wpAny_updateSeq g2 rfl ?_)
  have g3 := Heap.get?_update_self (Obj.mapSeq (·.push Value.none)) g2 rfl
  refine wpAny_updateSeq g3 rfl ?_
  have g4 := Heap.get?_update_self (Obj.mapSeq (·.pop)) g3 rfl
  have k4 : ∀ b o, b ≠ s.heap.objs.size → h2.get? b = some o → ((h2.update s.heap.objs.size (Obj.mapSeq (·.push Value.none))).update s.heap.objs.size (Obj.mapSeq (·.pop))).get? b = some o :=
    fun b o hb e => (Heap.get?_update_other _ _ (Ne.symm hb)).trans ((Heap.get?_update_other _ _ (Ne.symm hb)).trans e)
  have W := (walk_set (prog := prog) (A := A.in1) (it := h1.objs.size) (o := o) (by simpa using hh) (show a ≠ h1.objs.size by rw [z1]; exact Nat.ne_of_lt (Nat.lt_succ_of_lt al)) hd he hm).toS
  have nS : s.heap.objs.size ∉ [h1.objs.size, a] := by
    rw [z1]
    simp only [List.mem_cons, List.not_mem_nil, or_false, not_or]
    exact ⟨Nat.ne_of_lt (Nat.lt_succ_self _), Nat.ne_of_gt al⟩
  have ni : h1.objs.size ≠ s.heap.objs.size := by rw [z1]; exact Nat.succ_ne_self _
  refine wpAny_pure ⟨plainId_quiet PySem.F.plain_extend_loop _, codeAny_extend_loopS W (small (by omega)) _ nS _ (lowS m).length 0 _ _ _ rfl (Nat.zero_le _) ⟨k4 _ _ ni it1, k4 _ _ (Nat.ne_of_lt al) ho2⟩ g4 (ItemsOf.nil _) fun s' acc c mv gS ha => ?_⟩
  obtain ⟨hp', g', d', tk', os'⟩ := s'
  obtain rfl : g' = s.gens := mv.gens
  obtain rfl : d' = s.drawn := mv.drawn
  obtain rfl : os' = s.os := mv.os
  show wpAny _ A (load s.heap.objs.size >>= _) _ _ _
  refine wpAny_bind (wpAny_load gS (wpAny_pure ?_))
  have zo : (ordS w a ep es).size = es.size := by
    have := (ord_perm (w := w) a ep es).length_eq
    simpa using this
  have ea : acc.toList = (ordS w a ep es).toList.map (·.2) := by
    obtain ⟨a1, a2⟩ := ha
    have sz := ents_len he
    apply List.ext_getElem?
    intro i
    rw [Array.getElem?_toList, List.getElem?_map, Array.getElem?_toList]
    by_cases hi : i < acc.size
    · obtain ⟨e, e1, e2⟩ := a2 i _ (Array.getElem?_eq_getElem hi)
      rw [Array.getElem?_eq_getElem hi, e1, e2]
      rfl
    · rw [Array.getElem?_eq_none (by omega), Array.getElem?_eq_none (by omega)]
      rfl
  show Q acc.toList _
  rw [ea]
  refine h hp' tk' es ep (Heap.lt_size gS) (fun b o e => ?_) he
  have bl := Heap.lt_size e
  refine mv.heap b o ?_ (k4 b o (Nat.ne_of_lt bl) (k2 b o e))
  rw [z1]
  simp only [List.mem_cons, List.not_mem_nil, or_false, not_or]
  exact ⟨Nat.ne_of_lt bl, Nat.ne_of_lt (Nat.lt_succ_of_lt bl)⟩
end
end L2

set_option maxRecDepth 100000
set_option maxHeartbeats 4000000
namespace L2
open PySem PySem.Spec PyProof.Rows
section
variable {prog : Program} {w : World} {A : Around} {E : Value → Shared → Prop} {s : Shared}
theorem ents_all : ∀ {es : List (Int × Value)} {ks : List Nat}, Paired EntS es ks → ∀ e ∈ es, ∃ t, e.2 = .int e.1 t
  | _, _, .nil, e, he => by cases he
  | _, _, .cons r q, e, he => by
    rcases List.mem_cons.mp he with rfl | he
    · obtain ⟨h1, t, h2⟩ := r
      exact ⟨t, by rw [h1]; exact h2⟩
    · exact ents_all q e he
theorem ints_of : ∀ l : List (Int × Value), (∀ e ∈ l, ∃ t, e.2 = .int e.1 t) → IntsAre (l.map (·.2)) (l.map (·.1))
  | [], _ => .nil
  | e :: l, h => by
    obtain ⟨t, ht⟩ := h e List.mem_cons_self
    rw [List.map_cons, List.map_cons, ht]
    exact .cons _ t (ints_of l fun x hx => h x (List.mem_cons_of_mem _ hx))
def intsS (m : Nat) : List Int := (lowS m).map fun i : Nat => (i : Int)
theorem intsS_up : ∀ m, m < 64 → (intsS m).Pairwise (· ≤ ·) := by decide +kernel
/-- sorted() of a set of small numbers -/
theorem sorted_set (hh : A.handled = none) {a m : Nat} {Q : Value → Shared → Prop} (hS : SetAt w s.heap a m)
    (h : ∀ (hp' : Heap) (tk l c : Nat) (out : Array Value), (∀ b o, s.heap.get? b = some o → hp'.get? b = some o) → s.heap.objs.size ≤ l → hp'.get? l = some (seqObj "list" out c) → IntsAre out.toList (intsS m) → Q (.ref l) { s with heap := hp', toks := tk }) :
    wpAny (model prog w) A (call (.builtin "sorted") [.ref a]) Q E s := by
  have hm : m < 64 := by obtain ⟨_, _, _, _, _, _, _, hm⟩ := hS; exact hm
  have l6 := low_len m hm
  refine Calls.call_function_entry kind_sorted plain_sorted entry_sorted (args_sorted1 _) ?_
  unfold Builtin.«sorted»
  refine wpAny_bind (m := checkCount "sorted" 1 1 _) (wpAny_pure (wpAny_bind (collect_set (A := A.in1) (by simpa using hh) hS fun hp' tk es ep zz kp he => ?_)))
  have pm := ord_perm (w := w) a ep es
  have hI := ints_of (ordS w a ep es).toList fun e z => ents_all he e (pm.mem_iff.mp z)
  have pn : ((ordS w a ep es).toList.map (·.1)).Perm (intsS m) := by
    have := pm.map (·.1)
    rw [ents_hash he] at this
    exact this
  have ln : ((ordS w a ep es).toList.map (·.2)).length ≤ 6 := by
    rw [List.length_map, pm.length_eq, Paired.length he]
    exact l6
  generalize (ordS w a ep es).toList.map (·.2) = vs at hI ln ⊢
  generalize (ordS w a ep es).toList.map (·.1) = ns at hI pn
  have sz : s.heap.objs.size ≤ hp'.objs.size := Nat.le_of_lt zz
  refine wpAny_bind (wpAny_newList ?_ (small (by omega)))
  have g1 : (hp'.push (seqObj "list" vs.toArray 0)).get? hp'.objs.size = some (seqObj "list" vs.toArray 0) := Heap.get?_push_size _ rfl
  show wpAny _ _ _ _ _ { s with heap := hp'.push (seqObj "list" vs.toArray 0), toks := tk }
  refine wpAny_bind (wpAny_holding (wpAny_call_entry slot_list_sort ⟨_, g1, rfl⟩ entry_list_sort (list_sort_tree g1 hI (by omega) fun out ns' a1 a2 a3 => ⟨_, rfl, ?_⟩) (args_list_sort _)))
  refine wpAny_pure ⟨_, rfl, ?_⟩
  obtain ⟨c, ec⟩ := sortedHeap_at (out := out) g1
  have en : ns' = intsS m := List.Perm.eq_of_pairwise (fun x y _ _ h1 h2 => Int.le_antisymm h1 h2) a3 (intsS_up m hm) (a2.trans pn)
  rw [en] at a1
  refine h _ tk hp'.objs.size c out (fun b o e => ?_) sz ec a1
  have bl := Heap.lt_size (kp b o e)
  rw [sortedHeap_old (Nat.ne_of_lt bl) (by rw [size_push']; exact Nat.lt_succ_of_lt bl)]
  exact Heap.get?_push_of_some _ (kp b o e)
end
theorem met_bits {val : Nat → Nat} : ∀ (n h : Nat), (metS val n).testBit h = true ↔ ∃ i, i < n ∧ val i = h
  | 0, h => by unfold metS; simp
  | n + 1, h => by
    unfold metS
    rw [Nat.testBit_or, Bool.or_eq_true, met_bits n h, Nat.testBit_two_pow]
    constructor
    · rintro (⟨i, hi, e⟩ | e)
      · exact ⟨i, by omega, e⟩
      · exact ⟨n, by omega, of_decide_eq_true e⟩
    · rintro ⟨i, hi, e⟩
      rcases (show i < n ∨ i = n by omega) with z | rfl
      · exact .inl ⟨i, z, e⟩
      · exact .inr (decide_eq_true e)
/-- the numbers below six among them, rising -/
def dedS (ks : List Nat) : List Nat := (List.range 6).filter fun i => decide (i ∈ ks)
theorem met_ded {ks : List Nat} : lowS (metS (fun i => ks.getD i 0) ks.length) = dedS ks := by
  unfold lowS dedS
  apply List.filter_congr
  intro i _
  rw [Bool.eq_iff_iff, met_bits, decide_eq_true_iff]
  constructor
  · rintro ⟨j, hj, e⟩
    rw [List.getD_eq_getElem?_getD, List.getElem?_eq_getElem hj] at e
    rw [← e]
    exact List.getElem_mem hj
  · intro h
    obtain ⟨j, hj, e⟩ := List.getElem_of_mem h
    exact ⟨j, hj, by rw [List.getD_eq_getElem?_getD, List.getElem?_eq_getElem hj]; exact e⟩
section
variable {X : Cx}
def NewSS (K : PySem.W.Frag) (x : V) (H : Hp) (Q : VK) : Prop := ∃ p ks, x = .ref p ∧ SqL K H p (ks.map fun k : Nat => V.int (k : Int)) ∧ (∀ k ∈ ks, k < 6) ∧ ∀ l, H l = none → Q (.ref l) (upd H l (.lst ((dedS ks).map fun k : Nat => V.int (k : Int))))
def tSortSet (K : PySem.W.Frag) (te : TE) : TE := fun σ H Q => te σ H fun x H1 => NewSS K x H1 Q
theorem vals_nats : ∀ {ks : List Nat} {us : List Value}, Vals (ks.map fun k : Nat => V.int (k : Int)) us → ∀ (i : Nat) (v : Value), us[i]? = some v → ∃ t, v = .int ((ks.getD i 0 : Nat) : Int) t
  | [], _, r, i, v, h => by cases r; simp at h
  | k :: ks, _, r, i, v, h => by
    cases r with
    | cons r rr =>
      cases i with
      | zero =>
        obtain ⟨t, e⟩ := r
        refine ⟨t, ?_⟩
        have : _ = v := Option.some.inj h
        rw [← this, e]
        rfl
      | succ i => exact vals_nats rr i v h
theorem ints_vals : ∀ {us : List Value} {ks : List Nat}, IntsAre us (ks.map fun i : Nat => (i : Int)) → Vals (ks.map fun k : Nat => V.int (k : Int)) us
  | _, [], h => by cases h; exact .nil
  | _, k :: ks, h => by
    cases h with
    | cons n t h => exact .cons ⟨t, rfl⟩ (ints_vals h)
theorem pe_sortset {e : Expr} {te : TE} {p p2 pos pos2 : Pos} (hc : X.calm = true) (hg : Gl X "sorted") (hm : X.mg "sorted" = none) (hg2 : Gl X "set") (hm2 : X.mg "set" = none) (ha : PE X e te)
    (he : starEach [e] X.env = (false, eval e X.env) :: starEach [] X.env := by rfl) :
    PE X (.Call (.Name "sorted" p) [.Call (.Name "set" p2) [e] [] pos2] [] pos) (tSortSet X.K te) := by
  intro pins s σ H Q I h
  refine wpAny_Call_Name_kw (ld_blt I hg hm bt_sorted (PyProof.Rows.callWith_builtin1 ?_ rfl rfl))
  show wpAny _ _ (spliced ((false, eval (.Call (.Name "set" p2) [e] [] pos2) X.env) :: backTo pos (starEach [] X.env))) _ _ s
  refine Calls.spliced_cons (wpAny_Call_Name_kw (ld_blt I hg2 hm2 bt_set ?_))
  let R : List V → Hp → Prop := fun vs H1 => match vs with | [x] => NewSS X.K x H1 Q | _ => False
  have h' : tCons te tNil σ H R := h
  refine PyProof.Rows.callWith_type1 (thn (pa_cons ha pa_nil he pos2 pins s σ H R I h') fun us s1 ⟨vs, H1, I1, r1, q1⟩ => ?_) he rfl
  match vs, r1, q1 with
  | [x], r1, q1 =>
    obtain ⟨l, ks, rfl, hq, h6, q⟩ := q1
    obtain ⟨u, rfl, rx⟩ := vals1 r1
    cases rx
    obtain ⟨its, rv, pl, hz⟩ := I1.list hq
    have hlen := rv.length
    rw [List.length_map] at hlen
    have v6 : ∀ i, ks.getD i 0 < 6 := fun i => by
      rw [List.getD_eq_getElem?_getD]
      cases z : ks[i]? with
      | none => exact Nat.zero_lt_succ _
      | some k => exact h6 k (List.mem_of_getElem? z)
    refine call_set (val := fun i => ks.getD i 0) (I.ok.hd hc) pl.isList (fun i v z => vals_nats rv i v (by simpa using z)) v6 fun hp' tk S' kp => ?_
    refine Calls.spliced_nil ?_
    have e1 : its.toArray.size = ks.length := by rw [List.size_toArray]; exact hlen.symm
    rw [e1] at S'
    refine sorted_set (s := { s1 with heap := hp', toks := tk }) (I.ok.hd hc) S' fun hp2 tk2 l2 c out kp2 z2 ec a1 => ?_
    have ol : s1.heap.objs.size ≤ l2 := by
      obtain ⟨o, _, _, ho, _⟩ := S'
      exact Nat.le_trans (Nat.le_of_lt (Heap.lt_size ho)) z2
    have hf : H1 l2 = none := I1.hok.fresh ol
    unfold intsS at a1
    rw [met_ded] at a1
    have zl : ((dedS ks).map fun k : Nat => V.int (k : Int)).length ≤ sizeLine := by
      rw [List.length_map]
      unfold dedS
      exact small (Nat.le_trans (List.length_filter_le _ _) (by simp))
    refine ⟨.ref l2, upd H1 l2 (.lst ((dedS ks).map fun k : Nat => V.int (k : Int))), I1.laid (t' := tk2) (fun b o z => kp2 b o (kp b o (Heap.lt_size z) z)) ol (show ObjOk X.prog X.w _ hp2 l2 (.lst _) from ⟨zl, out.toList, c, ints_vals a1, by rw [ec]⟩), rfl, q l2 hf⟩
theorem i_sortset {te : TE} {σ : St} {H : Hp} {Q : VK} {K : PySem.W.Frag} (h : te σ H fun x H1 => NewSS K x H1 Q) : tSortSet K te σ H Q := h
theorem j_sortset {K : PySem.W.Frag} {H : Hp} {Q : VK} {p : Addr} {ks : List Nat} (e : H p = some (.lst (ks.map fun k : Nat => V.int (k : Int)))) (h6 : ∀ k ∈ ks, k < 6) (k : ∀ (l : Addr) (H' : Hp), Same H H' → H l = none → H' l = some (.lst ((dedS ks).map fun k : Nat => V.int (k : Int))) → Q (.ref l) H') : NewSS K (.ref p) H Q :=
  ⟨p, ks, rfl, SqL.of e, h6, fun l hl => k l _ (same_new hl _) hl upd_same⟩
end
end L2

set_option maxRecDepth 100000
set_option maxHeartbeats 4000000
namespace L2
open PySem PySem.Spec PyProof.Rows
def cxCompC (X : Cx) (x : Str) (ns : List Str) (scope : Scope) (cl : List (Str × Addr)) (s : Shared) (H : Hp) (ex : List Addr) : Cx :=
  { cxComp X x ns scope cl s H ex with env := { compEnvC scope cl s.heap.objs.size X.env with cells := (x, s.heap.objs.size + 1) :: cl }, fn := fun y => y == x }
def CompOkC (sc : Scope) (N : List Str) (x : Str) (ns : List Str) (ix : List Nat) (scope : Scope) : Prop :=
  scope.kind = .function ∧ (∀ y ∈ scope.names, (y.2 = .cell → y.1 = x) ∧ (y.2 = .local → scope.names.lookup y.1 = some .local) ∧ (y.2 = .free → sc.names.lookup y.1 = some .cell ∨ sc.names.lookup y.1 = some .free)) ∧
  scope.names.lookup x = some .cell ∧ (∀ y ∈ ns, scope.names.lookup y = some .free) ∧ (ix.map fun k => N[k]?) = ns.map some ∧ (x :: ns).Nodup ∧ (scope.names.filter fun y => y.2 == .cell) = [(x, .cell)]
instance (sc : Scope) (N : List Str) (x : Str) (ns : List Str) (ix : List Nat) (scope : Scope) : Decidable (CompOkC sc N x ns ix scope) := by unfold CompOkC; infer_instance
theorem cells_no : ∀ (l : List (Str × NameKind)) (n : Nat) (acc : List (Str × Addr)), (l.filter fun y => y.2 == .cell) = [] → cellsFrom n l acc = acc
  | [], _, _, _ => rfl
  | (y, k) :: l, n, acc, h => by
    rw [List.filter_cons] at h
    cases e : k == NameKind.cell with
    | true => simp [e] at h
    | false =>
      simp only [e, Bool.false_eq_true, if_false] at h
      unfold cellsFrom
      rw [e, if_neg Bool.false_ne_true]
      exact cells_no l n acc h
theorem cells_one : ∀ (l : List (Str × NameKind)) (n : Nat) (acc : List (Str × Addr)) (x : Str), (l.filter fun y => y.2 == .cell) = [(x, .cell)] → cellsFrom n l acc = (x, n) :: acc
  | [], _, _, _, h => by simp at h
  | (y, k) :: l, n, acc, x, h => by
    rw [List.filter_cons] at h
    unfold cellsFrom
    cases e : k == NameKind.cell with
    | true =>
      simp only [e, if_true, List.cons.injEq] at h
      rw [if_pos rfl, cells_no l (n + 1) _ h.2, (Prod.mk.inj h.1).1]
    | false =>
      simp only [e, Bool.false_eq_true, if_false] at h
      rw [if_neg Bool.false_ne_true]
      exact cells_one l n acc x h
theorem push_no : ∀ (l : List (Str × NameKind)) (h : Heap), (l.filter fun y => y.2 == .cell) = [] → pushCells h l = h
  | [], _, _ => rfl
  | (y, k) :: l, hp, h => by
    rw [List.filter_cons] at h
    cases e : k == NameKind.cell with
    | true => simp [e] at h
    | false =>
      simp only [e, Bool.false_eq_true, if_false] at h
      unfold pushCells
      rw [e, if_neg Bool.false_ne_true]
      exact push_no l hp h
theorem push_one : ∀ (l : List (Str × NameKind)) (h : Heap) (x : Str), (l.filter fun y => y.2 == .cell) = [(x, .cell)] → pushCells h l = h.push { cls := .type "cell", data := .cell none }
  | [], _, _, h => by simp at h
  | (y, k) :: l, hp, x, h => by
    rw [List.filter_cons] at h
    unfold pushCells
    cases e : k == NameKind.cell with
    | true =>
      simp only [e, if_true, List.cons.injEq] at h
      rw [if_pos rfl, push_no l _ h.2]
    | false =>
      simp only [e, Bool.false_eq_true, if_false] at h
      rw [if_neg Bool.false_ne_true]
      exact push_one l hp x h
theorem env_one {M : Model} {A : Around} {E : Value → Shared → Prop} {s : Shared} {scope : Scope} {g : Addr} {cl : List (Str × Addr)} {qual : Str} {outer : Env} {x : Str} {Q : Env → Shared → Prop} (h1 : (scope.names.filter fun y => y.2 == .cell) = [(x, .cell)])
    (h : Q (newEnv scope s.heap.objs.size g ((x, s.heap.objs.size + 1) :: cl) qual none .none (some outer) builtinsNs) { s with heap := (s.heap.push { cls := .type "dict", data := .dict #[] }).push { cls := .type "cell", data := .cell none } }) :
    wpAny M A (newFunctionEnv scope g cl [] qual none .none (some outer)) Q E s := by
  simp only [newFunctionEnv, Option.isSome_some, if_true]
  refine wpAny_bind (wpAny_alloc (wpAny_bind (wpAny_layCells _ (fun name kind cells => by cases hkc : kind == NameKind.cell <;> simp [hkc]) _ _ _ _ ?_)))
  rw [show ({ s with heap := s.heap.push { cls := .type "dict", data := .dict #[] } } : Shared).heap.objs.size = s.heap.objs.size + 1 from Heap.size_push ..]
  rw [cells_one _ _ _ _ h1, push_one _ _ _ h1]
  exact wpAny_bind (wpAny_pure (wpAny_pure h))
section
variable {X : Cx} {pins : List (Addr × Obj)} {σ : St} {H : Hp} {s : Shared} {cl : List (Str × Addr)} {x : Str} {ns : List Str} {ix : List Nat} {sc scope : Scope} {N : List Str} {fp : List Addr} {elt iter : Expr} {px pos : Pos} {ifs : List Expr} {tc : TT} {te : TE} {wi : TI}
theorem look_own {c d : Addr} (y : Str) (h : ((x, c) :: cl).lookup y = some d) : (y = x ∧ d = c) ∨ (y ≠ x ∧ cl.lookup y = some d) := by
  rw [List.lookup_cons] at h
  cases e : y == x with
  | true => rw [e] at h; exact .inl ⟨by simpa using e, (Option.some.inj h).symm⟩
  | false => rw [e] at h; exact .inr ⟨by simpa using e, h⟩
theorem look_oth {c d : Addr} {y : Str} (n : y ≠ x) (h : cl.lookup y = some d) : ((x, c) :: cl).lookup y = some d := by
  rw [List.lookup_cons, beq_eq_false_iff_ne.mpr n]
  exact h
theorem fp_compC (I : Inv X pins σ H s) (f : ∀ b ∈ fp, FpOk X pins H b) (hlt : ∀ b ∈ fp, b < s.heap.objs.size) (hcl : ∀ y c, cl.lookup y = some c → X.env.cells.lookup y = some c) {H' : Hp} (hn : ∀ b ∈ fp, H' b = none) : ∀ b ∈ fp, FpOk (cxCompC X x ns scope cl s H fp) [] H' b := fun b hb => by
  obtain ⟨f0, f1, f2, f3, f4, f5⟩ := f b hb
  refine ⟨hn b hb, Nat.ne_of_lt (hlt b hb), fun z => ?_, .inl hb, (fun y c e => by
    rcases look_own y e with ⟨_, rfl⟩ | ⟨_, e⟩
    · exact Nat.ne_of_gt (Nat.lt_succ_of_lt (hlt b hb))
    · exact f4 y c (hcl y c e)), fun p hp => ?_⟩
  · rcases List.mem_cons.mp (I.stkSub b z) with z | z
    · exact f1 z
    · exact f2 z
  · exact absurd (show p ∈ ([] : List (Addr × Obj)) from hp) (by simp)
theorem inv_compC {h1 : Heap} {m : Str → Option Value} {t' : Nat} (I : Inv X pins σ H s) (hsc : X.env.scope = sc) (hN : X.N = N) (C : CompOkC sc N x ns ix scope) (hcl : ∀ y c, cl.lookup y = some c → X.env.cells.lookup y = some c)
    (hcla : ∀ y ∈ scope.names, y.2 = .free → ∃ c, cl.lookup y.1 = some c) (f : ∀ b ∈ fp, FpOk X pins H b) (hlt : ∀ b ∈ fp, b < s.heap.objs.size) (hn : h1.Ns s.heap.objs.size m) (hcell : h1.IsCell (s.heap.objs.size + 1) none) (hk : ∀ b o, s.heap.get? b = some o → h1.get? b = some o) :
    Inv (cxCompC X x ns scope cl s H fp) [] (none :: subS σ ix) H { s with heap := h1, toks := t' } := by
  obtain ⟨c1, c2, c3, c4, c5, c6, c7⟩ := C
  have kind : ∀ y, (relabel scope X.env).names.lookup y = (scope.names.lookup y).map fun k => if (k == NameKind.free && X.env.scope.kind == .function && X.env.kindOf y == some .cell) = true then NameKind.cell else k := fun y => relabel_kind scope.names y
  have fr : ∀ y, ((relabel scope X.env).names.lookup y = some .cell ∨ (relabel scope X.env).names.lookup y = some .free) → scope.names.lookup y = some .free ∨ y = x := fun y h => by
    rw [kind y] at h
    cases e : scope.names.lookup y with
    | none => rw [e] at h; simp at h
    | some k =>
      rw [e] at h
      have hm := lookup_mem e
      cases k with
      | free => exact .inl rfl
      | cell => exact .inr ((c2 _ hm).1 rfl)
      | «local» => simp at h
      | globalExplicit => simp at h
      | globalImplicit => simp at h
  have fr' : ∀ y, scope.names.lookup y = some .free → (relabel scope X.env).names.lookup y = some .cell ∨ (relabel scope X.env).names.lookup y = some .free := fun y h => by
    rw [kind y, h]
    by_cases hc : (NameKind.free == NameKind.free && X.env.scope.kind == .function && X.env.kindOf y == some .cell) = true
    · left; rw [Option.map_some, if_pos hc]
    · right; rw [Option.map_some, if_neg hc]
  have noC : ∀ p : Addr × Obj, p ∉ (cxCompC X x ns scope cl s H fp).pn ++ [] := fun p hp => absurd (show p ∈ ([] : List (Addr × Obj)) from hp) (by simp)
  have lenE : ix.length = ns.length := by
    have := congrArg List.length c5
    rwa [List.length_map, List.length_map] at this
  have big : ∀ y, X.env.cells.lookup y ≠ some (s.heap.objs.size + 1) := fun y e => by
    obtain ⟨v, o, ho, hd⟩ := I.cell y _ e
    exact absurd (Heap.lt_size ho) (Nat.not_lt.mpr (Nat.le_succ _))
  refine ⟨⟨I.ok.mod, c1, I.ok.glob, I.ok.blt, Nat.le_refl _, fun y z c h1 h2 => ?inj, fun y hy => ?has, fun y c hy e => ?cab, I.ok.hd, I.ok.frames, .inl rfl, fun b hb => ?exf, I.bs,
    Nat.le_trans I.ok.bsz I.sz, fun b o e hb => ?noex, fun b hb => ?exfs, I.stack, I.stkFree⟩, rfl, I.bare, Un.kept hk, ⟨m, hn, fun i y v e1 e2 e3 => ?loc⟩, fun y c e => ?cell, I.hok.fresh (Nat.le_refl _), fun y c e => ?freeC, fun p hp => absurd hp (noC p), I.hok.kept hk, ?len⟩
  case inj =>
    rcases look_own y h1 with ⟨e1, d1⟩ | ⟨n1, k1⟩
    · rcases look_own z h2 with ⟨e2, d2⟩ | ⟨n2, k2⟩
      · rw [e1, e2]
      · exact absurd (by rw [← d1]; exact hcl z c k2) (big z)
    · rcases look_own z h2 with ⟨e2, d2⟩ | ⟨n2, k2⟩
      · exact absurd (by rw [← d2]; exact hcl y c k1) (big y)
      · exact I.ok.inj y z c (hcl y c k1) (hcl z c k2)
  case has =>
    by_cases n : y = x
    · exact ⟨_, by rw [n]; show ((x, _) :: cl).lookup x = _; rw [List.lookup_cons, beq_self_eq_true]⟩
    · rcases fr y hy with f | f
      · obtain ⟨c, e⟩ := hcla _ (lookup_mem f) rfl
        exact ⟨c, look_oth n e⟩
      · exact absurd f n
  case cab =>
    have hy : y = x := by simpa [cxCompC] using hy
    rcases look_own y e with ⟨_, rfl⟩ | ⟨n, _⟩
    · exact Nat.le_succ _
    · exact absurd hy n
  case exf =>
    obtain ⟨f0, f1, f2, f3, f4, f5⟩ := f b hb
    refine ⟨Nat.ne_of_lt (hlt b hb), fun y c e => ?_⟩
    rcases look_own y e with ⟨_, rfl⟩ | ⟨_, e⟩
    · exact Nat.ne_of_gt (Nat.lt_succ_of_lt (hlt b hb))
    · exact f4 y c (hcl y c e)
  case noex =>
    obtain ⟨f0, f1, f2, f3, f4, f5⟩ := f b hb
    rcases f3 with z | z
    · exact I.ok.noex b o e z
    · exact absurd (Nat.lt_of_lt_of_le (Heap.lt_size (I.ok.bs b o e).1) z) (Nat.lt_irrefl _)
  case exfs =>
    obtain ⟨f0, f1, f2, f3, f4, f5⟩ := f b hb
    intro z
    rcases List.mem_cons.mp (I.stkSub b z) with z | z
    · exact f1 z
    · exact f2 z
  case loc =>
    cases i with
    | zero => cases e2
    | succ j =>
      have e1' : ns[j]? = some y := e1
      have e2' : (ix.map fun k => (σ[k]?).join)[j]? = some (some v) := e2
      have e5 := congrArg (fun l => l[j]?) c5
      simp only [List.getElem?_map, e1', Option.map_some] at e5 e2'
      cases ek : ix[j]? with
      | none => rw [ek] at e5; cases e5
      | some k =>
        rw [ek] at e5 e2'
        have eN : N[k]? = some y := by simpa using e5
        have eσ : (σ[k]?).join = some v := by simpa using e2'
        have eσ' : σ[k]? = some (some v) := by
          cases q : σ[k]? with
          | none => rw [q] at eσ; cases eσ
          | some w => rw [q] at eσ; have : w = some v := eσ; rw [this]
        have hy := c4 y (List.mem_of_getElem? e1')
        have hk' := (c2 _ (lookup_mem hy)).2.2 rfl
        rw [← hsc] at hk'
        obtain ⟨m0, hn0, hl⟩ := I.loc
        obtain ⟨u, r, l⟩ := hl k y v (by rw [hN]; exact eN) eσ' (.inr hk')
        refine ⟨u, r, ?_⟩
        rcases l with ⟨kl, _⟩ | ⟨_, c, ec, z⟩
        · exfalso
          have kl : X.env.scope.names.lookup y = some .local := kl
          rw [kl] at hk'
          rcases hk' with z | z <;> cases z
        · obtain ⟨c', ec'⟩ := hcla _ (lookup_mem hy) rfl
          have ee : c' = c := by
            have := hcl y c' ec'
            rw [ec] at this
            exact (Option.some.inj this).symm
          subst ee
          obtain ⟨o, ho, hd⟩ := z
          exact .inr ⟨fr' y hy, c', look_oth (fun z => by rw [z] at e1'; exact (List.nodup_cons.mp c6).1 (List.mem_of_getElem? e1')) ec', ⟨o, hk _ _ ho, hd⟩⟩
  case cell =>
    rcases look_own y e with ⟨_, rfl⟩ | ⟨_, e⟩
    · exact ⟨_, hcell⟩
    · obtain ⟨v, o, ho, hd⟩ := I.cell y c (hcl y c e)
      exact ⟨v, o, hk _ _ ho, hd⟩
  case freeC =>
    rcases look_own y e with ⟨_, rfl⟩ | ⟨_, e⟩
    · exact I.hok.fresh (Nat.le_succ _)
    · exact I.freeC y c (hcl y c e)
  case len =>
    show (none :: subS σ ix).length = (x :: ns).length
    rw [List.length_cons, List.length_cons]
    unfold subS
    rw [List.length_map, lenE]
theorem comp_runC {E : Value → Shared → Prop} {J : It} {it : Addr} {tn : Nat → Heap → Prop} {Q : VK} {RR : Value → Addr → Result → Shared → Prop} (hsc : X.env.scope = sc) (hN : X.N = N) (C : CompOkC sc N x ns ix scope) (hc : X.calm = true)
    (ht : ∀ cl s H ex, PTs (cxCompC X x ns scope cl s H ex) ifs tc) (he : ∀ cl s H ex, PE (cxCompC X x ns scope cl s H ex) elt te) (I : Inv X pins σ H s) (hcl : ∀ y c, cl.lookup y = some c → X.env.cells.lookup y = some c)
    (hcla : ∀ y ∈ scope.names, y.2 = .free → ∃ c, cl.lookup y.1 = some c) (T : Turn X.prog X.w X.K (.Name x px) J fp it tn) (st : tn 0 s.heap) (f : ∀ b ∈ fp, FpOk X pins H b) (h : CompG J ix tc te σ Q H)
    (fin : ∀ D C m s' H', Inv X pins σ H' s' → s'.heap.Ns C m → FpOk X pins H' C → Q (.ref D) H' → RR (.ref D) C (.ok .next) s') :
    wpAny (model X.prog X.w) X.A (newList []) (fun ja s3 => wpAny (model X.prog X.w) X.A (newFunctionEnv scope X.env.globals cl [] X.env.qual none .none (some X.env)) (fun ce s4 =>
      codeAny (model X.prog X.w) X.A (.compStart (.ListComp elt [⟨.Name x px, iter, ifs, 0⟩] scope pos) 0 (.ref it) ja { ce with scope := relabel scope X.env }) (RR ja ce.locals) s4) E s3) E s := by
  have hC := C
  obtain ⟨c1, c2, c3, c4, c5, c6, c7⟩ := C
  have hfr : H s.heap.objs.size = none := I.hok.fresh (Nat.le_refl _)
  obtain ⟨W, ⟨m0, w0⟩, turn⟩ := h _ hfr
  refine wpAny_newObj_type (env_one c7 ?_)
  have hn1 : ((({ s with heap := s.heap.push { cls := .type "list", data := .seq ([] : List Value).toArray } } : Shared).heap.push { cls := .type "dict", data := .dict #[] }).push { cls := .type "cell", data := .cell none }).Ns (s.heap.push { cls := .type "list", data := .seq ([] : List Value).toArray }).objs.size (fun _ => none) := (Heap.Ns.new _ _).push _
  have hce : ((({ s with heap := s.heap.push { cls := .type "list", data := .seq ([] : List Value).toArray } } : Shared).heap.push { cls := .type "dict", data := .dict #[] }).push { cls := .type "cell", data := .cell none }).IsCell ((s.heap.push { cls := .type "list", data := .seq ([] : List Value).toArray }).objs.size + 1) none := ⟨_, by
    have := Heap.get?_push_size ((s.heap.push { cls := .type "list", data := .seq ([] : List Value).toArray }).push { cls := .type "dict", data := .dict #[] }) (o := { cls := .type "cell", data := .cell none }) rfl
    rw [Heap.size_push] at this
    exact this, rfl⟩
  have hs1 : ∀ b o, (s.heap.push { cls := .type "list", data := .seq ([] : List Value).toArray }).get? b = some o → ((({ s with heap := s.heap.push { cls := .type "list", data := .seq ([] : List Value).toArray } } : Shared).heap.push { cls := .type "dict", data := .dict #[] }).push { cls := .type "cell", data := .cell none }).get? b = some o := fun b o e => Heap.get?_push_of_some _ (Heap.get?_push_of_some _ e)
  generalize (({ s with heap := s.heap.push { cls := .type "list", data := .seq ([] : List Value).toArray } } : Shared).heap.push { cls := .type "dict", data := .dict #[] }).push { cls := .type "cell", data := .cell none } = h1 at hn1 hce hs1 ⊢
  have I3 := I.lnew (its := []) (ys := []) (t' := s.toks) .nil (Nat.zero_le _)
  have hlt0 : ∀ b ∈ fp, b < s.heap.objs.size := fun b hb => by
    obtain ⟨o, ho, _⟩ := T.obj _ _ st b hb
    exact Heap.lt_size ho
  generalize hs3 : ({ s with heap := s.heap.push { cls := .type "list", data := .seq ([] : List Value).toArray }, toks := s.toks } : Shared) = s3 at I3
  have e3 : s3.heap = s.heap.push { cls := .type "list", data := .seq ([] : List Value).toArray } := by rw [← hs3]
  have sz3 : s3.heap.objs.size = s.heap.objs.size + 1 := by rw [e3, Heap.size_push]
  have f3 : ∀ b ∈ fp, FpOk X pins (upd H s.heap.objs.size (.lst [])) b := fun b hb => ⟨by rw [upd_ne (Nat.ne_of_lt (hlt0 b hb))]; exact (f b hb).1, (f b hb).2⟩
  have hlt : ∀ b ∈ fp, b < s3.heap.objs.size := fun b hb => by rw [sz3]; exact Nat.lt_succ_of_lt (hlt0 b hb)
  have hk : ∀ b o, s3.heap.get? b = some o → h1.get? b = some o := fun b o e => hs1 b o (by rw [e3] at e; exact e)
  have hn3 : h1.Ns s3.heap.objs.size (fun _ => none) := by rw [e3]; exact hn1
  have hce3 : h1.IsCell (s3.heap.objs.size + 1) none := by rw [e3]; exact hce
  have I4 := inv_compC (t' := s3.toks) I3 hsc hN hC hcl hcla f3 hlt hn3 hce3 hk
  have st4 : tn 0 h1 := T.keep _ _ _ st fun b hb o e => hk b o (by rw [e3]; exact Heap.get?_push_of_some _ e)
  have stat : ∀ {H' : Hp}, (∀ b ∈ fp, H' b = none) → ∀ b ∈ fp, FpOk (cxCompC X x ns scope cl s3 (upd H s.heap.objs.size (.lst [])) fp) [] H' b := fun {H'} hn => fp_compC I3 f3 hlt hcl hn
  have loop : ∀ s4 : Shared, s4 = { s3 with heap := h1, toks := s3.toks } →
      codeAny (model X.prog X.w) X.A (.compLoop (.ListComp elt [⟨.Name x px, iter, ifs, 0⟩] scope pos) 0 (.ref it) (.ref s.heap.objs.size) { compEnvC scope cl s3.heap.objs.size X.env with cells := (x, s3.heap.objs.size + 1) :: cl }) (RR (.ref s.heap.objs.size) s3.heap.objs.size) s4 := by
    rintro s4 rfl
    refine codeAny_compLoop_tests (fun n s' => ∃ i v0 ys H', Inv (cxCompC X x ns scope cl s3 (upd H s.heap.objs.size (.lst [])) fp) [] (v0 :: subS σ ix) H' s' ∧ tn i s'.heap ∧ (∀ b ∈ fp, H' b = none) ∧ W i n ys H') ?_ m0 ⟨0, none, [], _, I4, st4, fun b hb => (f3 b hb).1, w0⟩
    rintro n s5 ⟨i, v0, ys, H5, I5, st5, fr5, w5⟩
    rcases turn i n ys H5 w5 with ⟨stop, q⟩ | ⟨go, step⟩
    · refine wpAny_mono (T.done (cxCompC X x ns scope cl s3 (upd H s.heap.objs.size (.lst [])) fp) rfl rfl rfl hc i [] s5 _ H5 _ I5 (stat fr5) st5 stop) (fun r s6 hr => ?_) fun _ _ e => e
      obtain ⟨hr, I6⟩ := hr
      subst hr
      obtain ⟨m6, hn6, _⟩ := id I6.loc
      refine fin _ _ m6 s6 H5 (I3.call' I6.os I6.base I6.hok I6.bare fun b hb => ?_) hn6 (I3.fpOk (Nat.le_refl _) I6.free) q
      obtain ⟨g0, g1, g2, g3, g4, g5⟩ := f3 b hb
      exact ⟨g3, g1, g4, g5⟩
    · refine wpAny_mono (T.item (cxCompC X x ns scope cl s3 (upd H s.heap.objs.size (.lst [])) fp) rfl rfl rfl hc i [] s5 _ H5 _ I5 (stat fr5) st5 go) (fun r s6 hr => ?_) fun _ _ e => e
      obtain ⟨u, hr, h6⟩ := hr
      subst hr
      refine wp_of_pure (a := ()) h6 fun q6 => ?_
      obtain ⟨xv, H6, I6, r6, y6, st6, fr6⟩ := q6
      have I6' := I6.pinned (stat fr6) (T.obj _ _ st6)
      have again : ∀ {m' : Nat} {ys' : List V} {H7 : Hp} {s7 : Shared}, Inv (cxCompC X x ns scope cl s3 (upd H s.heap.objs.size (.lst [])) fp) ([] ++ pinsAt fp s6.heap) (some xv :: subS σ ix) H7 s7 → W (i + 1) m' ys' H7 →
          ∃ i v0 ys H', Inv (cxCompC X x ns scope cl s3 (upd H s.heap.objs.size (.lst [])) fp) [] (v0 :: subS σ ix) H' s7 ∧ tn i s7.heap ∧ (∀ b ∈ fp, H' b = none) ∧ W i m' ys H' := fun {m' ys' H7 s7} I7 w7 => by
        refine ⟨i + 1, some xv, ys', H7, I7.unpinned, T.keep _ _ _ st6 fun b hb o e => (I7.pin (b, o) (List.mem_append_right _ (List.mem_append_right _ (mem_pinsAt hb e)))).1, fun b hb => ?_, w7⟩
        obtain ⟨o, e, d⟩ := T.obj _ _ st6 b hb
        exact (I7.pin (b, o) (List.mem_append_right _ (List.mem_append_right _ (mem_pinsAt hb e)))).2.1
      have lx : (relabel scope X.env).names.lookup x = some .cell := by
        have := relabel_kind (env := X.env) scope.names x
        rw [c3] at this
        exact this.trans (by rw [Option.map_some, if_neg (by simp)])
      refine wpAny_mono (pg_name (X := cxCompC X x ns scope cl s3 (upd H s.heap.objs.size (.lst [])) fp) (i := 0) (x := x) (pos := px) c6 rfl (.inr lx) (.inl (by simp [cxCompC])) _ s6 _ H6 xv u (fun σ' H' => σ' = some xv :: subS σ ix ∧ H' = H6) I6' r6 ⟨rfl, rfl⟩) (fun _ s7 h7 => ?_) fun _ _ e => e.elim
      obtain ⟨σ7, H7, I7, rfl, rfl⟩ := h7
      refine wpAny_mono (ht cl s3 _ fp _ s7 _ _ _ I7 (step xv _ y6)) (fun b s8 h8 => ?_) fun _ _ e => e.elim
      obtain ⟨H8, I8, q8⟩ := h8
      cases b with
      | false =>
        rw [if_neg Bool.false_ne_true] at q8 ⊢
        obtain ⟨m', hm, w8⟩ := q8
        exact ⟨m', hm, again I8 w8⟩
      | true =>
        rw [if_pos rfl] at q8 ⊢
        refine wpAny_mono (he cl s3 _ fp _ s8 _ _ _ I8 q8) (fun uy s9 h9 => ?_) fun _ _ e => e.elim
        obtain ⟨y, H9, I9, r9, hacc, hz, m', hm, w9⟩ := h9
        refine wpAny_mono (mt_append (X := cxCompC X x ns scope cl s3 (upd H s.heap.objs.size (.lst [])) fp) _ s9 _ H9 (.ref s.heap.objs.size) [y] _ [uy] (fun v H' => H' = upd H9 s.heap.objs.size (.lst (ys ++ [y]))) I9 rfl (.cons r9 .nil) ⟨_, ys, y, rfl, rfl, hacc, hz, rfl⟩) (fun _ s10 h10 => ?_) fun _ _ e => e.elim
        obtain ⟨v, H10, I10, _, rfl⟩ := h10
        exact ⟨m', hm, again I10 w9⟩
  exact codeAny_compStart_list (loop _ rfl) (T.self _ 0 _ _ _ st4 (loop _ rfl))
theorem pe_compC (hsc : X.env.scope = sc) (hN : X.N = N) (C : CompOkC sc N x ns ix scope) (hc : X.calm = true) (hi : PI X (.Name x px) iter wi) (ht : ∀ cl s H ex, PTs (cxCompC X x ns scope cl s H ex) ifs tc) (he : ∀ cl s H ex, PE (cxCompC X x ns scope cl s H ex) elt te)
    (hs : ∀ v, foldedSetIterable iter X.env v = pure v := by intro _; rfl) : PE X (.ListComp elt [⟨.Name x px, iter, ifs, 0⟩] scope pos) (tComp wi ix tc te) := by
  intro pins s σ H Q I h
  obtain ⟨cl, hclos, hcl, hcla⟩ := closure_ok (env := X.env) scope fun y hy hf => I.ok.has y.1 (by
    have := (C.2.1 y hy).2.2 hf
    rw [← hsc] at this
    exact this)
  rw [eval_ListComp]
  refine wpAny_comprehension_free (use := none) rfl hs hclos C.1 (fun y hy => (C.2.1 y hy).2.1) (thn (hi pins s σ H _ I h) fun v s1 h1 => thn h1 fun itv s2 h2 => ?_)
  obtain ⟨it, fp, tn, J, H2, rfl, I2, T, st2, f2, hg⟩ := h2
  refine comp_runC (RR := fun ja C => compPost (model X.prog X.w) X.A X.xe none (EP X pins σ Q) ja C) hsc hN C hc ht he I2 hcl hcla T st2 f2 hg ?_
  intro D C' m s' H' I' hn' fC q
  obtain ⟨g0, g1, g2, g3, g4, g5⟩ := fC
  exact ⟨m, hn', fun h' hs' => ⟨.ref D, H', I'.turned (t' := s'.toks) (fun b o hb e => hs'.extBut b o hb e) g0 (Ne.symm (Ne.symm g1)) g3 g4 g5, rfl, q⟩⟩end
end L2

open PySem L2
local macro_rules | `(tactic| walk_at "side") => `(tactic| first | omega | (show (_ : Int) < _; omega) | exact ⟨by omega, by omega⟩ | exact ⟨by omega, by omega, by decide⟩)
local macro_rules | `(tactic| walk_at "rd1") => `(tactic| first
  | (with_reducible first | refine i_seq ?_ | refine i_asg ?_ | refine i_op ?_ | refine i_c ?_ | refine i_cons ?_ | refine i_nil ?_ | refine i_ifs ?_ | refine i_ret ?_ | refine i_fn ?_ | refine i_cb ?_ | refine i_test ?_ | refine i_exb ?_ | refine i_exi ?_ | refine i_truB ?_ | refine i_dy ?_ | refine i_mk ?_ | refine i_fld ?_ | refine i_sfld ?_ | refine i_drop ?_ | refine i_next ?_ | refine i_retN ?_ | refine i_brk ?_ | refine i_cont ?_ | refine i_un ?_ | refine i_and ?_ | refine i_or ?_ | refine i_not ?_ | refine i_andV ?_ | refine i_orV ?_ | refine i_notG ?_ | refine i_if ?_ | refine i_tup ?_ | refine i_lst ?_ | refine i_bm ?_ | refine i_bm0 ?_ | refine i_sl ?_ | refine i_part ?_ | refine i_noPart ?_ | refine i_forR1 ?_ | refine i_forR2 ?_ | refine i_forR3 ?_ | refine i_compR3 ?_ | refine i_listrev ?_ | refine i_sortset ?_ | refine i_forS ?_ | refine i_forE ?_ | refine i_forEX ?_ | refine i_forRep ?_ | refine i_forD ?_ | refine i_compD ?_ | refine i_compS2 ?_ | refine i_frzE ?_ | refine i_thawR ?_ | refine i_fmtI ?_ | refine i_dyP ?_ | refine i_listrng ?_ | refine i_frz ?_ | refine i_addF ?_ | refine i_forZ ?_ | refine i_forV ?_ | refine i_bitlen ?_ | refine i_chain ?_ | refine i_truI ?_ | refine i_compR1 ?_ | refine i_compR2 ?_ | refine i_compS ?_ | refine i_noif ?_ | refine i_rI0 ?_ | refine i_addI ?_ | refine i_rU ?_ | refine i_eqAI ?_ | refine i_eqAS ?_ | refine i_eqAB ?_ | refine i_neAI ?_ | refine i_neAS ?_ | refine i_neAB ?_ | refine i_fs ?_ | refine i_gsub ?_ | refine i_jc ?_ | refine i_fmt ?_ | refine i_fmtR ?_ | refine i_eqI ?_ | refine i_eqS ?_ | refine i_eqB ?_ | refine i_neI ?_ | refine i_neS ?_ | refine i_neB ?_ | refine i_intI ?_ | refine i_intB ?_ | refine i_max ?_ | refine i_min ?_)
  | ((with_reducible refine i_name ?_); (try dsimp only [List.set_cons_succ, List.set_cons_zero]))
  | ((with_reducible refine' i_var ?hv ?_); (case hv => exact rfl))
  | ((with_reducible refine i_rI ?hc ?_); (case hc => walk_at "side"))
  | ((with_reducible refine' i_lenS ?hc ?_); (case hc => assumption))
  | ((with_reducible refine' i_lenL ?hc ?_); (case hc => assumption))
  | ((with_reducible refine' i_lenT ?hc ?_); (case hc => assumption))
  | ((with_reducible refine' i_isiT ?ht ?he ?_); (case ht => first | exact TyOf.bl _ | exact TyOf.int _ | exact TyOf.str _ | exact TyOf.non | exact TyOf.lst (by assumption) | exact TyOf.tup (by assumption)); (case he => first | exact kit_self _ _ | exact kit_int_bool _ | exact kit_bool_int _ | exact kit_str_bool _ | exact kit_str_int _ | exact kit_list_int _ | exact kit_list_bool _ | exact kit_none_int _ | exact kit_none_list _ | exact kit_none_str _ | exact kit_none_tuple _ | exact kit_list_tuple _ | exact kit_tuple_list _ | exact kit_str_list _ | exact kit_int_str _ | exact kit_int_list _ | exact kit_bool_str _ | exact kit_bool_list _ | exact kit_int_tuple _ | exact kit_str_tuple _ | exact kit_bool_tuple _ | exact kit_tuple_int _ | exact kit_tuple_bool _ | exact kit_tuple_str _ | exact kit_list_str _ | exact kit_none_bool _)))
local macro_rules | `(tactic| walk_at "rs1") => `(tactic| first
  | (with_reducible first | refine i_asg ?_ | refine i_op ?_ | refine i_c ?_ | refine i_cons ?_ | refine i_nil ?_ | refine i_ifs ?_ | refine i_ret ?_ | refine i_fn ?_ | refine i_cb ?_ | refine i_test ?_ | refine i_exb ?_ | refine i_exi ?_ | refine i_truB ?_ | refine i_dy ?_ | refine i_mk ?_ | refine i_fld ?_ | refine i_sfld ?_ | refine i_drop ?_ | refine i_next ?_ | refine i_retN ?_ | refine i_brk ?_ | refine i_cont ?_ | refine i_un ?_ | refine i_and ?_ | refine i_or ?_ | refine i_not ?_ | refine i_andV ?_ | refine i_orV ?_ | refine i_notG ?_ | refine i_if ?_ | refine i_tup ?_ | refine i_lst ?_ | refine i_bm ?_ | refine i_bm0 ?_ | refine i_sl ?_ | refine i_part ?_ | refine i_noPart ?_ | refine i_forR1 ?_ | refine i_forR2 ?_ | refine i_forR3 ?_ | refine i_compR3 ?_ | refine i_listrev ?_ | refine i_sortset ?_ | refine i_forS ?_ | refine i_forE ?_ | refine i_forEX ?_ | refine i_forRep ?_ | refine i_forD ?_ | refine i_compD ?_ | refine i_compS2 ?_ | refine i_frzE ?_ | refine i_thawR ?_ | refine i_fmtI ?_ | refine i_dyP ?_ | refine i_listrng ?_ | refine i_frz ?_ | refine i_addF ?_ | refine i_forZ ?_ | refine i_forV ?_ | refine i_bitlen ?_ | refine i_chain ?_ | refine i_truI ?_ | refine i_compR1 ?_ | refine i_compR2 ?_ | refine i_compS ?_ | refine i_noif ?_ | refine i_rI0 ?_ | refine i_addI ?_ | refine i_rU ?_ | refine i_eqAI ?_ | refine i_eqAS ?_ | refine i_eqAB ?_ | refine i_neAI ?_ | refine i_neAS ?_ | refine i_neAB ?_ | refine i_fs ?_ | refine i_gsub ?_ | refine i_jc ?_ | refine i_fmt ?_ | refine i_fmtR ?_ | refine i_eqI ?_ | refine i_eqS ?_ | refine i_eqB ?_ | refine i_neI ?_ | refine i_neS ?_ | refine i_neB ?_ | refine i_intI ?_ | refine i_intB ?_ | refine i_max ?_ | refine i_min ?_)
  | ((with_reducible refine i_name ?_); (try dsimp only [List.set_cons_succ, List.set_cons_zero]))
  | ((with_reducible refine' i_var ?hv ?_); (case hv => exact rfl))
  | ((with_reducible refine i_rI ?hc ?_); (case hc => walk_at "side"))
  | ((with_reducible refine' i_lenS ?hc ?_); (case hc => assumption))
  | ((with_reducible refine' i_lenL ?hc ?_); (case hc => assumption))
  | ((with_reducible refine' i_lenT ?hc ?_); (case hc => assumption))
  | ((with_reducible refine' i_isiT ?ht ?he ?_); (case ht => first | exact TyOf.bl _ | exact TyOf.int _ | exact TyOf.str _ | exact TyOf.non | exact TyOf.lst (by assumption) | exact TyOf.tup (by assumption)); (case he => first | exact kit_self _ _ | exact kit_int_bool _ | exact kit_bool_int _ | exact kit_str_bool _ | exact kit_str_int _ | exact kit_list_int _ | exact kit_list_bool _ | exact kit_none_int _ | exact kit_none_list _ | exact kit_none_str _ | exact kit_none_tuple _ | exact kit_list_tuple _ | exact kit_tuple_list _ | exact kit_str_list _ | exact kit_int_str _ | exact kit_int_list _ | exact kit_bool_str _ | exact kit_bool_list _ | exact kit_int_tuple _ | exact kit_str_tuple _ | exact kit_bool_tuple _ | exact kit_tuple_int _ | exact kit_tuple_bool _ | exact kit_tuple_str _ | exact kit_list_str _ | exact kit_none_bool _)))
local macro_rules | `(tactic| walk_at "rs") => `(tactic| repeat walk_at "rs1")
local macro_rules | `(tactic| walk_at "hp") => `(tactic| first | assumption | solve_by_elim (maxDepth := 16) only [*, ne_of_none])
local macro_rules | `(tactic| walk_at "rd0") => `(tactic| ((try dsimp only [cxOf]); (try simp only [L2.start, List.map_cons, List.map_nil, List.length_cons, List.length_nil, Nat.reduceAdd, Nat.reduceSub, List.replicate_zero, List.append_nil, List.cons_append, List.nil_append, List.replicate_succ]); (repeat walk_at "rd1")))
local macro_rules | `(tactic| walk_at "rd") => `(tactic| repeat walk_at "rd1")
local macro_rules | `(tactic| walk_at "tst") => `(tactic| repeat first | walk_at "rd1" | refine i_ifT (decide_eq_true (by omega)) ?_ | refine i_ifF (decide_eq_false (by omega)) ?_ | refine i_ifF rfl ?_ | refine i_ifT rfl ?_ | refine ⟨_, rfl, ?_⟩)

set_option maxRecDepth 100000
set_option maxHeartbeats 4000000
open PySem L2

namespace LW
open PySem L2 EM
def top (i : Nat) : Stmt := PySem.Challenge.pw_evernever_k26_bars_as_a_formula.main.body.getD i (.Pass ⟨0, 0, 0, 0⟩)
abbrev s_all_stands : Stmt := top 1
abbrev s_asked_by : Stmt := top 3
abbrev s_bracketed : Stmt := top 5
abbrev s_formula_outside : Stmt := top 14
abbrev s_formula_of : Stmt := top 15
abbrev s__law_cell_at : Stmt := top 17
abbrev s__law_names : Stmt := top 18
abbrev s__law_bar_text : Stmt := top 19
abbrev s__law_text : Stmt := top 20
abbrev s__law_outside : Stmt := top 21
abbrev s__law_of_class : Stmt := top 22
abbrev s__law_counted : Stmt := top 23
abbrev s_law : Stmt := top 24
abbrev s_Formula_looseness : Stmt := inClass (top 6) 0
abbrev s_Lamp_init : Stmt := inClass (top 7) 0
abbrev s_Lamp_holds : Stmt := inClass (top 7) 1
abbrev s_Lamp_crowd : Stmt := inClass (top 7) 2
abbrev s_Lamp_lamps : Stmt := inClass (top 7) 3
abbrev s_Lamp_shown : Stmt := inClass (top 7) 4
abbrev s_Sure_init : Stmt := inClass (top 8) 0
abbrev s_Sure_holds : Stmt := inClass (top 8) 1
abbrev s_Sure_crowd : Stmt := inClass (top 8) 2
abbrev s_Sure_lamps : Stmt := inClass (top 8) 3
abbrev s_Sure_shown : Stmt := inClass (top 8) 4
abbrev s_Not_init : Stmt := inClass (top 9) 0
abbrev s_Not_holds : Stmt := inClass (top 9) 1
abbrev s_Not_crowd : Stmt := inClass (top 9) 2
abbrev s_Not_lamps : Stmt := inClass (top 9) 3
abbrev s_Not_shown : Stmt := inClass (top 9) 4
abbrev s_Joined_init : Stmt := inClass (top 10) 0
abbrev s_Joined_lamps : Stmt := inClass (top 10) 1
abbrev s_Joined_shown : Stmt := inClass (top 10) 2
abbrev s_And_looseness : Stmt := inClass (top 11) 0
abbrev s_And_between : Stmt := inClass (top 11) 1
abbrev s_And_holds : Stmt := inClass (top 11) 2
abbrev s_And_crowd : Stmt := inClass (top 11) 3
abbrev s_Or_looseness : Stmt := inClass (top 12) 0
abbrev s_Or_between : Stmt := inClass (top 12) 1
abbrev s_Or_holds : Stmt := inClass (top 12) 2
abbrev s_Or_crowd : Stmt := inClass (top 12) 3
theorem sc_all_stands : FnScope ["many"] ["many"] (defScope s_all_stands) := ⟨rfl, rfl, rfl, by decide +kernel, rfl, by decide +kernel, by decide +kernel⟩
theorem sc_asked_by : FnScope ["bar"] ["bar"] (defScope s_asked_by) := ⟨rfl, rfl, rfl, by decide +kernel, rfl, by decide +kernel, by decide +kernel⟩
theorem sc_bracketed : FnScope ["part", "text", "bound"] ["part", "text", "bound"] (defScope s_bracketed) := ⟨rfl, rfl, rfl, by decide +kernel, rfl, by decide +kernel, by decide +kernel⟩
theorem sc_formula_outside : FnScope ["bar", "parts", "lamp"] ["bar"] (defScope s_formula_outside) := ⟨rfl, rfl, rfl, by decide +kernel, rfl, by decide +kernel, by decide +kernel⟩
theorem sc_formula_of : FnScope ["bars", "parts"] ["bars"] (defScope s_formula_of) := ⟨rfl, rfl, rfl, by decide +kernel, rfl, by decide +kernel, by decide +kernel⟩
theorem sc__law_cell_at : FnScope ["_law_script", "_law_k"] ["_law_script", "_law_k"] (defScope s__law_cell_at) := ⟨rfl, rfl, rfl, by decide +kernel, rfl, by decide +kernel, by decide +kernel⟩
theorem sc__law_names : FnScope ["_law_cell", "_law_letters", "_law_alike", "_law_rest", "_law_k", "_law_names_here", "_law_sign", "_law_name"] ["_law_cell"] (defScope s__law_names) := ⟨rfl, rfl, rfl, by decide +kernel, rfl, by decide +kernel, by decide +kernel⟩
theorem sc__law_bar_text : FnScope ["_law_bar", "_law_names_here", "_law_text_here", "_law_k"] ["_law_bar", "_law_names_here"] (defScope s__law_bar_text) := ⟨rfl, rfl, rfl, by decide +kernel, rfl, by decide +kernel, by decide +kernel⟩
theorem sc__law_text : FnScope ["_law_bars", "_law_names_here", "_law_pieces", "_law_bar", "_law_piece"] ["_law_bars", "_law_names_here"] (defScope s__law_text) := ⟨rfl, rfl, rfl, by decide +kernel, rfl, by decide +kernel, by decide +kernel⟩
theorem sc__law_outside : FnScope ["_law_stand", "_law_bars", "_law_bar"] ["_law_stand", "_law_bars"] (defScope s__law_outside) := ⟨rfl, rfl, rfl, by decide +kernel, rfl, by decide +kernel, by decide +kernel⟩
theorem sc__law_of_class : FnScope ["_law_formula", "_law_bars"] ["_law_formula", "_law_bars"] (defScope s__law_of_class) := ⟨rfl, rfl, rfl, by decide +kernel, rfl, by decide +kernel, by decide +kernel⟩
theorem sc__law_counted : FnScope ["_law_formula", "_law_bars", "_law_many", "_law_due", "_law_s", "_law_found", "_law_lamps", "_law_k"] ["_law_formula", "_law_bars", "_law_many"] (defScope s__law_counted) := ⟨rfl, rfl, rfl, by decide +kernel, rfl, by decide +kernel, by decide +kernel⟩
theorem sc_law : FnScope ["_law_script", "_law_many", "_law_size", "_law_names_here", "_law_bars", "_law_cell", "_law_asked", "_law_handed", "_law_formula", "_law_s", "_law_found", "_law_text_here", "_law_denied", "_law_due"] ["_law_script"] (defScope s_law) := ⟨rfl, rfl, rfl, by decide +kernel, rfl, by decide +kernel, by decide +kernel⟩
theorem sc_Formula_looseness : FnScope ["self"] ["self"] (defScope s_Formula_looseness) := ⟨rfl, rfl, rfl, by decide +kernel, rfl, by decide +kernel, by decide +kernel⟩
theorem sc_Lamp_init : FnScope ["self", "at"] ["self", "at"] (defScope s_Lamp_init) := ⟨rfl, rfl, rfl, by decide +kernel, rfl, by decide +kernel, by decide +kernel⟩
theorem sc_Lamp_holds : FnScope ["self", "stand"] ["self", "stand"] (defScope s_Lamp_holds) := ⟨rfl, rfl, rfl, by decide +kernel, rfl, by decide +kernel, by decide +kernel⟩
theorem sc_Lamp_crowd : FnScope ["self", "many", "found", "stand"] ["self", "many"] (defScope s_Lamp_crowd) := ⟨rfl, rfl, rfl, by decide +kernel, rfl, by decide +kernel, by decide +kernel⟩
theorem sc_Lamp_lamps : FnScope ["self"] ["self"] (defScope s_Lamp_lamps) := ⟨rfl, rfl, rfl, by decide +kernel, rfl, by decide +kernel, by decide +kernel⟩
theorem sc_Lamp_shown : FnScope ["self", "names"] ["self", "names"] (defScope s_Lamp_shown) := ⟨rfl, rfl, rfl, by decide +kernel, rfl, by decide +kernel, by decide +kernel⟩
theorem sc_Sure_init : FnScope ["self", "truth"] ["self", "truth"] (defScope s_Sure_init) := ⟨rfl, rfl, rfl, by decide +kernel, rfl, by decide +kernel, by decide +kernel⟩
theorem sc_Sure_holds : FnScope ["self", "stand"] ["self", "stand"] (defScope s_Sure_holds) := ⟨rfl, rfl, rfl, by decide +kernel, rfl, by decide +kernel, by decide +kernel⟩
theorem sc_Sure_crowd : FnScope ["self", "many"] ["self", "many"] (defScope s_Sure_crowd) := ⟨rfl, rfl, rfl, by decide +kernel, rfl, by decide +kernel, by decide +kernel⟩
theorem sc_Sure_lamps : FnScope ["self"] ["self"] (defScope s_Sure_lamps) := ⟨rfl, rfl, rfl, by decide +kernel, rfl, by decide +kernel, by decide +kernel⟩
theorem sc_Sure_shown : FnScope ["self", "names"] ["self", "names"] (defScope s_Sure_shown) := ⟨rfl, rfl, rfl, by decide +kernel, rfl, by decide +kernel, by decide +kernel⟩
theorem sc_Not_init : FnScope ["self", "part"] ["self", "part"] (defScope s_Not_init) := ⟨rfl, rfl, rfl, by decide +kernel, rfl, by decide +kernel, by decide +kernel⟩
theorem sc_Not_holds : FnScope ["self", "stand"] ["self", "stand"] (defScope s_Not_holds) := ⟨rfl, rfl, rfl, by decide +kernel, rfl, by decide +kernel, by decide +kernel⟩
theorem sc_Not_crowd : FnScope ["self", "many"] ["self", "many"] (defScope s_Not_crowd) := ⟨rfl, rfl, rfl, by decide +kernel, rfl, by decide +kernel, by decide +kernel⟩
theorem sc_Not_lamps : FnScope ["self"] ["self"] (defScope s_Not_lamps) := ⟨rfl, rfl, rfl, by decide +kernel, rfl, by decide +kernel, by decide +kernel⟩
theorem sc_Not_shown : FnScope ["self", "names", "text"] ["self", "names"] (defScope s_Not_shown) := ⟨rfl, rfl, rfl, by decide +kernel, rfl, by decide +kernel, by decide +kernel⟩
theorem sc_Joined_init : FnScope ["self", "parts"] ["self", "parts"] (defScope s_Joined_init) := ⟨rfl, rfl, rfl, by decide +kernel, rfl, by decide +kernel, by decide +kernel⟩
theorem sc_Joined_lamps : FnScope ["self", "found", "part"] ["self"] (defScope s_Joined_lamps) := ⟨rfl, rfl, rfl, by decide +kernel, rfl, by decide +kernel, by decide +kernel⟩
theorem sc_Joined_shown : FnScope ["self", "names", "texts", "part"] ["self", "names"] (defScope s_Joined_shown) := ⟨rfl, rfl, rfl, by decide +kernel, rfl, by decide +kernel, by decide +kernel⟩
theorem sc_And_looseness : FnScope ["self"] ["self"] (defScope s_And_looseness) := ⟨rfl, rfl, rfl, by decide +kernel, rfl, by decide +kernel, by decide +kernel⟩
theorem sc_And_between : FnScope ["self"] ["self"] (defScope s_And_between) := ⟨rfl, rfl, rfl, by decide +kernel, rfl, by decide +kernel, by decide +kernel⟩
theorem sc_And_holds : FnScope ["self", "stand", "part"] ["self", "stand"] (defScope s_And_holds) := ⟨rfl, rfl, rfl, by decide +kernel, rfl, by decide +kernel, by decide +kernel⟩
theorem sc_And_crowd : FnScope ["self", "many", "found", "part"] ["self", "many"] (defScope s_And_crowd) := ⟨rfl, rfl, rfl, by decide +kernel, rfl, by decide +kernel, by decide +kernel⟩
theorem sc_Or_looseness : FnScope ["self"] ["self"] (defScope s_Or_looseness) := ⟨rfl, rfl, rfl, by decide +kernel, rfl, by decide +kernel, by decide +kernel⟩
theorem sc_Or_between : FnScope ["self"] ["self"] (defScope s_Or_between) := ⟨rfl, rfl, rfl, by decide +kernel, rfl, by decide +kernel, by decide +kernel⟩
theorem sc_Or_holds : FnScope ["self", "stand", "part"] ["self", "stand"] (defScope s_Or_holds) := ⟨rfl, rfl, rfl, by decide +kernel, rfl, by decide +kernel, by decide +kernel⟩
theorem sc_Or_crowd : FnScope ["self", "many", "found", "part"] ["self", "many"] (defScope s_Or_crowd) := ⟨rfl, rfl, rfl, by decide +kernel, rfl, by decide +kernel, by decide +kernel⟩
/-- the addresses of what the top has made -/
structure Ad where
  f_all_stands : Addr
  d_all_stands : FuncData
  f_asked_by : Addr
  d_asked_by : FuncData
  f_bracketed : Addr
  d_bracketed : FuncData
  f_formula_outside : Addr
  d_formula_outside : FuncData
  f_formula_of : Addr
  d_formula_of : FuncData
  f__law_cell_at : Addr
  d__law_cell_at : FuncData
  f__law_names : Addr
  d__law_names : FuncData
  f__law_bar_text : Addr
  d__law_bar_text : FuncData
  f__law_text : Addr
  d__law_text : FuncData
  f__law_outside : Addr
  d__law_outside : FuncData
  f__law_of_class : Addr
  d__law_of_class : FuncData
  f__law_counted : Addr
  d__law_counted : FuncData
  f_law : Addr
  d_law : FuncData
  f_Formula_looseness : Addr
  d_Formula_looseness : FuncData
  f_Lamp_init : Addr
  d_Lamp_init : FuncData
  f_Lamp_holds : Addr
  d_Lamp_holds : FuncData
  f_Lamp_crowd : Addr
  d_Lamp_crowd : FuncData
  f_Lamp_lamps : Addr
  d_Lamp_lamps : FuncData
  f_Lamp_shown : Addr
  d_Lamp_shown : FuncData
  f_Sure_init : Addr
  d_Sure_init : FuncData
  f_Sure_holds : Addr
  d_Sure_holds : FuncData
  f_Sure_crowd : Addr
  d_Sure_crowd : FuncData
  f_Sure_lamps : Addr
  d_Sure_lamps : FuncData
  f_Sure_shown : Addr
  d_Sure_shown : FuncData
  f_Not_init : Addr
  d_Not_init : FuncData
  f_Not_holds : Addr
  d_Not_holds : FuncData
  f_Not_crowd : Addr
  d_Not_crowd : FuncData
  f_Not_lamps : Addr
  d_Not_lamps : FuncData
  f_Not_shown : Addr
  d_Not_shown : FuncData
  f_Joined_init : Addr
  d_Joined_init : FuncData
  f_Joined_lamps : Addr
  d_Joined_lamps : FuncData
  f_Joined_shown : Addr
  d_Joined_shown : FuncData
  f_And_looseness : Addr
  d_And_looseness : FuncData
  f_And_between : Addr
  d_And_between : FuncData
  f_And_holds : Addr
  d_And_holds : FuncData
  f_And_crowd : Addr
  d_And_crowd : FuncData
  f_Or_looseness : Addr
  d_Or_looseness : FuncData
  f_Or_between : Addr
  d_Or_between : FuncData
  f_Or_holds : Addr
  d_Or_holds : FuncData
  f_Or_crowd : Addr
  d_Or_crowd : FuncData
  C_Formula : Addr
  C_Lamp : Addr
  C_Sure : Addr
  C_Not : Addr
  C_Joined : Addr
  C_And : Addr
  C_Or : Addr
/-- what the top has written -/
structure Txt (K : PySem.W.Frag) (mg : Str → Option Value) (t : Ad) : Prop where
  F_all_stands : Fun K "all_stands" "all_stands" s_all_stands t.f_all_stands t.d_all_stands
  b_all_stands : Binds K t.d_all_stands ["many"] []
  m_all_stands : mg "all_stands" = some (.ref t.f_all_stands)
  F_asked_by : Fun K "asked_by" "asked_by" s_asked_by t.f_asked_by t.d_asked_by
  b_asked_by : Binds K t.d_asked_by ["bar"] []
  m_asked_by : mg "asked_by" = some (.ref t.f_asked_by)
  F_bracketed : Fun K "bracketed" "bracketed" s_bracketed t.f_bracketed t.d_bracketed
  b_bracketed : Binds K t.d_bracketed ["part", "text", "bound"] []
  m_bracketed : mg "bracketed" = some (.ref t.f_bracketed)
  F_formula_outside : Fun K "formula_outside" "formula_outside" s_formula_outside t.f_formula_outside t.d_formula_outside
  b_formula_outside : Binds K t.d_formula_outside ["bar"] []
  m_formula_outside : mg "formula_outside" = some (.ref t.f_formula_outside)
  F_formula_of : Fun K "formula_of" "formula_of" s_formula_of t.f_formula_of t.d_formula_of
  b_formula_of : Binds K t.d_formula_of ["bars"] []
  m_formula_of : mg "formula_of" = some (.ref t.f_formula_of)
  F__law_cell_at : Fun K "_law_cell_at" "_law_cell_at" s__law_cell_at t.f__law_cell_at t.d__law_cell_at
  b__law_cell_at : Binds K t.d__law_cell_at ["_law_script", "_law_k"] []
  m__law_cell_at : mg "_law_cell_at" = some (.ref t.f__law_cell_at)
  F__law_names : Fun K "_law_names" "_law_names" s__law_names t.f__law_names t.d__law_names
  b__law_names : Binds K t.d__law_names ["_law_cell"] []
  m__law_names : mg "_law_names" = some (.ref t.f__law_names)
  F__law_bar_text : Fun K "_law_bar_text" "_law_bar_text" s__law_bar_text t.f__law_bar_text t.d__law_bar_text
  b__law_bar_text : Binds K t.d__law_bar_text ["_law_bar", "_law_names_here"] []
  m__law_bar_text : mg "_law_bar_text" = some (.ref t.f__law_bar_text)
  F__law_text : Fun K "_law_text" "_law_text" s__law_text t.f__law_text t.d__law_text
  b__law_text : Binds K t.d__law_text ["_law_bars", "_law_names_here"] []
  m__law_text : mg "_law_text" = some (.ref t.f__law_text)
  F__law_outside : Fun K "_law_outside" "_law_outside" s__law_outside t.f__law_outside t.d__law_outside
  b__law_outside : Binds K t.d__law_outside ["_law_stand", "_law_bars"] []
  m__law_outside : mg "_law_outside" = some (.ref t.f__law_outside)
  F__law_of_class : Fun K "_law_of_class" "_law_of_class" s__law_of_class t.f__law_of_class t.d__law_of_class
  b__law_of_class : Binds K t.d__law_of_class ["_law_formula", "_law_bars"] []
  m__law_of_class : mg "_law_of_class" = some (.ref t.f__law_of_class)
  F__law_counted : Fun K "_law_counted" "_law_counted" s__law_counted t.f__law_counted t.d__law_counted
  b__law_counted : Binds K t.d__law_counted ["_law_formula", "_law_bars", "_law_many"] []
  m__law_counted : mg "_law_counted" = some (.ref t.f__law_counted)
  F_law : Fun K "law" "law" s_law t.f_law t.d_law
  b_law : Binds K t.d_law ["_law_script"] []
  m_law : mg "law" = some (.ref t.f_law)
  F_Formula_looseness : Fun K "looseness" "Formula.looseness" s_Formula_looseness t.f_Formula_looseness t.d_Formula_looseness
  b_Formula_looseness : Binds K t.d_Formula_looseness ["self"] []
  F_Lamp_init : Fun K "__init__" "Lamp.__init__" s_Lamp_init t.f_Lamp_init t.d_Lamp_init
  b_Lamp_init : Binds K t.d_Lamp_init ["self", "at"] []
  F_Lamp_holds : Fun K "holds" "Lamp.holds" s_Lamp_holds t.f_Lamp_holds t.d_Lamp_holds
  b_Lamp_holds : Binds K t.d_Lamp_holds ["self", "stand"] []
  F_Lamp_crowd : Fun K "crowd" "Lamp.crowd" s_Lamp_crowd t.f_Lamp_crowd t.d_Lamp_crowd
  b_Lamp_crowd : Binds K t.d_Lamp_crowd ["self", "many"] []
  F_Lamp_lamps : Fun K "lamps" "Lamp.lamps" s_Lamp_lamps t.f_Lamp_lamps t.d_Lamp_lamps
  b_Lamp_lamps : Binds K t.d_Lamp_lamps ["self"] []
  F_Lamp_shown : Fun K "shown" "Lamp.shown" s_Lamp_shown t.f_Lamp_shown t.d_Lamp_shown
  b_Lamp_shown : Binds K t.d_Lamp_shown ["self", "names"] []
  F_Sure_init : Fun K "__init__" "Sure.__init__" s_Sure_init t.f_Sure_init t.d_Sure_init
  b_Sure_init : Binds K t.d_Sure_init ["self", "truth"] []
  F_Sure_holds : Fun K "holds" "Sure.holds" s_Sure_holds t.f_Sure_holds t.d_Sure_holds
  b_Sure_holds : Binds K t.d_Sure_holds ["self", "stand"] []
  F_Sure_crowd : Fun K "crowd" "Sure.crowd" s_Sure_crowd t.f_Sure_crowd t.d_Sure_crowd
  b_Sure_crowd : Binds K t.d_Sure_crowd ["self", "many"] []
  F_Sure_lamps : Fun K "lamps" "Sure.lamps" s_Sure_lamps t.f_Sure_lamps t.d_Sure_lamps
  b_Sure_lamps : Binds K t.d_Sure_lamps ["self"] []
  F_Sure_shown : Fun K "shown" "Sure.shown" s_Sure_shown t.f_Sure_shown t.d_Sure_shown
  b_Sure_shown : Binds K t.d_Sure_shown ["self", "names"] []
  F_Not_init : Fun K "__init__" "Not.__init__" s_Not_init t.f_Not_init t.d_Not_init
  b_Not_init : Binds K t.d_Not_init ["self", "part"] []
  F_Not_holds : Fun K "holds" "Not.holds" s_Not_holds t.f_Not_holds t.d_Not_holds
  b_Not_holds : Binds K t.d_Not_holds ["self", "stand"] []
  F_Not_crowd : Fun K "crowd" "Not.crowd" s_Not_crowd t.f_Not_crowd t.d_Not_crowd
  b_Not_crowd : Binds K t.d_Not_crowd ["self", "many"] []
  F_Not_lamps : Fun K "lamps" "Not.lamps" s_Not_lamps t.f_Not_lamps t.d_Not_lamps
  b_Not_lamps : Binds K t.d_Not_lamps ["self"] []
  F_Not_shown : Fun K "shown" "Not.shown" s_Not_shown t.f_Not_shown t.d_Not_shown
  b_Not_shown : Binds K t.d_Not_shown ["self", "names"] []
  F_Joined_init : Fun K "__init__" "Joined.__init__" s_Joined_init t.f_Joined_init t.d_Joined_init
  b_Joined_init : Binds K t.d_Joined_init ["self", "parts"] []
  F_Joined_lamps : Fun K "lamps" "Joined.lamps" s_Joined_lamps t.f_Joined_lamps t.d_Joined_lamps
  b_Joined_lamps : Binds K t.d_Joined_lamps ["self"] []
  F_Joined_shown : Fun K "shown" "Joined.shown" s_Joined_shown t.f_Joined_shown t.d_Joined_shown
  b_Joined_shown : Binds K t.d_Joined_shown ["self", "names"] []
  F_And_looseness : Fun K "looseness" "And.looseness" s_And_looseness t.f_And_looseness t.d_And_looseness
  b_And_looseness : Binds K t.d_And_looseness ["self"] []
  F_And_between : Fun K "between" "And.between" s_And_between t.f_And_between t.d_And_between
  b_And_between : Binds K t.d_And_between ["self"] []
  F_And_holds : Fun K "holds" "And.holds" s_And_holds t.f_And_holds t.d_And_holds
  b_And_holds : Binds K t.d_And_holds ["self", "stand"] []
  F_And_crowd : Fun K "crowd" "And.crowd" s_And_crowd t.f_And_crowd t.d_And_crowd
  b_And_crowd : Binds K t.d_And_crowd ["self", "many"] []
  F_Or_looseness : Fun K "looseness" "Or.looseness" s_Or_looseness t.f_Or_looseness t.d_Or_looseness
  b_Or_looseness : Binds K t.d_Or_looseness ["self"] []
  F_Or_between : Fun K "between" "Or.between" s_Or_between t.f_Or_between t.d_Or_between
  b_Or_between : Binds K t.d_Or_between ["self"] []
  F_Or_holds : Fun K "holds" "Or.holds" s_Or_holds t.f_Or_holds t.d_Or_holds
  b_Or_holds : Binds K t.d_Or_holds ["self", "stand"] []
  F_Or_crowd : Fun K "crowd" "Or.crowd" s_Or_crowd t.f_Or_crowd t.d_Or_crowd
  b_Or_crowd : Binds K t.d_Or_crowd ["self", "many"] []
  m_Formula : mg "Formula" = some (.ref t.C_Formula)
  c_Formula : Cls K t.C_Formula
  y_Formula : ∀ (H : Hp) (a dx : Addr) (fs : List (Str × V)), H a = some (.ins t.C_Formula dx fs) → TyOf K H (.ref a) (.ref t.C_Formula)
  n_Formula_at : NoAttr K t.C_Formula "at"
  n_Formula_truth : NoAttr K t.C_Formula "truth"
  n_Formula_part : NoAttr K t.C_Formula "part"
  n_Formula_parts : NoAttr K t.C_Formula "parts"
  h_Formula_looseness : Meth K t.C_Formula "looseness" t.f_Formula_looseness
  m_Lamp : mg "Lamp" = some (.ref t.C_Lamp)
  c_Lamp : Cls K t.C_Lamp
  y_Lamp : ∀ (H : Hp) (a dx : Addr) (fs : List (Str × V)), H a = some (.ins t.C_Lamp dx fs) → TyOf K H (.ref a) (.ref t.C_Lamp)
  k_Lamp : Mk K t.C_Lamp t.f_Lamp_init
  n_Lamp_at : NoAttr K t.C_Lamp "at"
  n_Lamp_truth : NoAttr K t.C_Lamp "truth"
  n_Lamp_part : NoAttr K t.C_Lamp "part"
  n_Lamp_parts : NoAttr K t.C_Lamp "parts"
  h_Lamp_holds : Meth K t.C_Lamp "holds" t.f_Lamp_holds
  h_Lamp_crowd : Meth K t.C_Lamp "crowd" t.f_Lamp_crowd
  h_Lamp_lamps : Meth K t.C_Lamp "lamps" t.f_Lamp_lamps
  h_Lamp_shown : Meth K t.C_Lamp "shown" t.f_Lamp_shown
  h_Lamp_looseness : Meth K t.C_Lamp "looseness" t.f_Formula_looseness
  m_Sure : mg "Sure" = some (.ref t.C_Sure)
  c_Sure : Cls K t.C_Sure
  y_Sure : ∀ (H : Hp) (a dx : Addr) (fs : List (Str × V)), H a = some (.ins t.C_Sure dx fs) → TyOf K H (.ref a) (.ref t.C_Sure)
  k_Sure : Mk K t.C_Sure t.f_Sure_init
  n_Sure_at : NoAttr K t.C_Sure "at"
  n_Sure_truth : NoAttr K t.C_Sure "truth"
  n_Sure_part : NoAttr K t.C_Sure "part"
  n_Sure_parts : NoAttr K t.C_Sure "parts"
  h_Sure_holds : Meth K t.C_Sure "holds" t.f_Sure_holds
  h_Sure_crowd : Meth K t.C_Sure "crowd" t.f_Sure_crowd
  h_Sure_lamps : Meth K t.C_Sure "lamps" t.f_Sure_lamps
  h_Sure_shown : Meth K t.C_Sure "shown" t.f_Sure_shown
  h_Sure_looseness : Meth K t.C_Sure "looseness" t.f_Formula_looseness
  m_Not : mg "Not" = some (.ref t.C_Not)
  c_Not : Cls K t.C_Not
  y_Not : ∀ (H : Hp) (a dx : Addr) (fs : List (Str × V)), H a = some (.ins t.C_Not dx fs) → TyOf K H (.ref a) (.ref t.C_Not)
  k_Not : Mk K t.C_Not t.f_Not_init
  n_Not_at : NoAttr K t.C_Not "at"
  n_Not_truth : NoAttr K t.C_Not "truth"
  n_Not_part : NoAttr K t.C_Not "part"
  n_Not_parts : NoAttr K t.C_Not "parts"
  h_Not_holds : Meth K t.C_Not "holds" t.f_Not_holds
  h_Not_crowd : Meth K t.C_Not "crowd" t.f_Not_crowd
  h_Not_lamps : Meth K t.C_Not "lamps" t.f_Not_lamps
  h_Not_shown : Meth K t.C_Not "shown" t.f_Not_shown
  h_Not_looseness : Meth K t.C_Not "looseness" t.f_Formula_looseness
  m_Joined : mg "Joined" = some (.ref t.C_Joined)
  c_Joined : Cls K t.C_Joined
  y_Joined : ∀ (H : Hp) (a dx : Addr) (fs : List (Str × V)), H a = some (.ins t.C_Joined dx fs) → TyOf K H (.ref a) (.ref t.C_Joined)
  k_Joined : Mk K t.C_Joined t.f_Joined_init
  n_Joined_at : NoAttr K t.C_Joined "at"
  n_Joined_truth : NoAttr K t.C_Joined "truth"
  n_Joined_part : NoAttr K t.C_Joined "part"
  n_Joined_parts : NoAttr K t.C_Joined "parts"
  h_Joined_lamps : Meth K t.C_Joined "lamps" t.f_Joined_lamps
  h_Joined_shown : Meth K t.C_Joined "shown" t.f_Joined_shown
  h_Joined_looseness : Meth K t.C_Joined "looseness" t.f_Formula_looseness
  m_And : mg "And" = some (.ref t.C_And)
  c_And : Cls K t.C_And
  y_And : ∀ (H : Hp) (a dx : Addr) (fs : List (Str × V)), H a = some (.ins t.C_And dx fs) → TyOf K H (.ref a) (.ref t.C_And)
  k_And : Mk K t.C_And t.f_Joined_init
  n_And_at : NoAttr K t.C_And "at"
  n_And_truth : NoAttr K t.C_And "truth"
  n_And_part : NoAttr K t.C_And "part"
  n_And_parts : NoAttr K t.C_And "parts"
  h_And_looseness : Meth K t.C_And "looseness" t.f_And_looseness
  h_And_between : Meth K t.C_And "between" t.f_And_between
  h_And_holds : Meth K t.C_And "holds" t.f_And_holds
  h_And_crowd : Meth K t.C_And "crowd" t.f_And_crowd
  h_And_lamps : Meth K t.C_And "lamps" t.f_Joined_lamps
  h_And_shown : Meth K t.C_And "shown" t.f_Joined_shown
  m_Or : mg "Or" = some (.ref t.C_Or)
  c_Or : Cls K t.C_Or
  y_Or : ∀ (H : Hp) (a dx : Addr) (fs : List (Str × V)), H a = some (.ins t.C_Or dx fs) → TyOf K H (.ref a) (.ref t.C_Or)
  k_Or : Mk K t.C_Or t.f_Joined_init
  n_Or_at : NoAttr K t.C_Or "at"
  n_Or_truth : NoAttr K t.C_Or "truth"
  n_Or_part : NoAttr K t.C_Or "part"
  n_Or_parts : NoAttr K t.C_Or "parts"
  h_Or_looseness : Meth K t.C_Or "looseness" t.f_Or_looseness
  h_Or_between : Meth K t.C_Or "between" t.f_Or_between
  h_Or_holds : Meth K t.C_Or "holds" t.f_Or_holds
  h_Or_crowd : Meth K t.C_Or "crowd" t.f_Or_crowd
  h_Or_lamps : Meth K t.C_Or "lamps" t.f_Joined_lamps
  h_Or_shown : Meth K t.C_Or "shown" t.f_Joined_shown
  x_Formula_Lamp : t.C_Formula ≠ t.C_Lamp
  x_Formula_Sure : t.C_Formula ≠ t.C_Sure
  x_Formula_Not : t.C_Formula ≠ t.C_Not
  x_Formula_Joined : t.C_Formula ≠ t.C_Joined
  x_Formula_And : t.C_Formula ≠ t.C_And
  x_Formula_Or : t.C_Formula ≠ t.C_Or
  x_Lamp_Sure : t.C_Lamp ≠ t.C_Sure
  x_Lamp_Not : t.C_Lamp ≠ t.C_Not
  x_Lamp_Joined : t.C_Lamp ≠ t.C_Joined
  x_Lamp_And : t.C_Lamp ≠ t.C_And
  x_Lamp_Or : t.C_Lamp ≠ t.C_Or
  x_Sure_Not : t.C_Sure ≠ t.C_Not
  x_Sure_Joined : t.C_Sure ≠ t.C_Joined
  x_Sure_And : t.C_Sure ≠ t.C_And
  x_Sure_Or : t.C_Sure ≠ t.C_Or
  x_Not_Joined : t.C_Not ≠ t.C_Joined
  x_Not_And : t.C_Not ≠ t.C_And
  x_Not_Or : t.C_Not ≠ t.C_Or
  x_Joined_And : t.C_Joined ≠ t.C_And
  x_Joined_Or : t.C_Joined ≠ t.C_Or
  x_And_Or : t.C_And ≠ t.C_Or
  z_Formula_Not : PySem.W.kitOne K (.ref t.C_Formula) (.ref t.C_Not) = some false
  z_Lamp_Not : PySem.W.kitOne K (.ref t.C_Lamp) (.ref t.C_Not) = some false
  z_Sure_Not : PySem.W.kitOne K (.ref t.C_Sure) (.ref t.C_Not) = some false
  z_Joined_Not : PySem.W.kitOne K (.ref t.C_Joined) (.ref t.C_Not) = some false
  z_And_Not : PySem.W.kitOne K (.ref t.C_And) (.ref t.C_Not) = some false
  z_Or_Not : PySem.W.kitOne K (.ref t.C_Or) (.ref t.C_Not) = some false
  z_none_Not : PySem.W.kitOne K (.type "NoneType") (.ref t.C_Not) = some false
  z_Formula_And : PySem.W.kitOne K (.ref t.C_Formula) (.ref t.C_And) = some false
  z_Lamp_And : PySem.W.kitOne K (.ref t.C_Lamp) (.ref t.C_And) = some false
  z_Sure_And : PySem.W.kitOne K (.ref t.C_Sure) (.ref t.C_And) = some false
  z_Not_And : PySem.W.kitOne K (.ref t.C_Not) (.ref t.C_And) = some false
  z_Joined_And : PySem.W.kitOne K (.ref t.C_Joined) (.ref t.C_And) = some false
  z_Or_And : PySem.W.kitOne K (.ref t.C_Or) (.ref t.C_And) = some false
  z_none_And : PySem.W.kitOne K (.type "NoneType") (.ref t.C_And) = some false
  z_Formula_Sure : PySem.W.kitOne K (.ref t.C_Formula) (.ref t.C_Sure) = some false
  z_Lamp_Sure : PySem.W.kitOne K (.ref t.C_Lamp) (.ref t.C_Sure) = some false
  z_Not_Sure : PySem.W.kitOne K (.ref t.C_Not) (.ref t.C_Sure) = some false
  z_Joined_Sure : PySem.W.kitOne K (.ref t.C_Joined) (.ref t.C_Sure) = some false
  z_And_Sure : PySem.W.kitOne K (.ref t.C_And) (.ref t.C_Sure) = some false
  z_Or_Sure : PySem.W.kitOne K (.ref t.C_Or) (.ref t.C_Sure) = some false
  z_none_Sure : PySem.W.kitOne K (.type "NoneType") (.ref t.C_Sure) = some false
  z_Formula_Or : PySem.W.kitOne K (.ref t.C_Formula) (.ref t.C_Or) = some false
  z_Lamp_Or : PySem.W.kitOne K (.ref t.C_Lamp) (.ref t.C_Or) = some false
  z_Sure_Or : PySem.W.kitOne K (.ref t.C_Sure) (.ref t.C_Or) = some false
  z_Not_Or : PySem.W.kitOne K (.ref t.C_Not) (.ref t.C_Or) = some false
  z_Joined_Or : PySem.W.kitOne K (.ref t.C_Joined) (.ref t.C_Or) = some false
  z_And_Or : PySem.W.kitOne K (.ref t.C_And) (.ref t.C_Or) = some false
  z_none_Or : PySem.W.kitOne K (.type "NoneType") (.ref t.C_Or) = some false
  z_Formula_Lamp : PySem.W.kitOne K (.ref t.C_Formula) (.ref t.C_Lamp) = some false
  z_Sure_Lamp : PySem.W.kitOne K (.ref t.C_Sure) (.ref t.C_Lamp) = some false
  z_Not_Lamp : PySem.W.kitOne K (.ref t.C_Not) (.ref t.C_Lamp) = some false
  z_Joined_Lamp : PySem.W.kitOne K (.ref t.C_Joined) (.ref t.C_Lamp) = some false
  z_And_Lamp : PySem.W.kitOne K (.ref t.C_And) (.ref t.C_Lamp) = some false
  z_Or_Lamp : PySem.W.kitOne K (.ref t.C_Or) (.ref t.C_Lamp) = some false
  z_none_Lamp : PySem.W.kitOne K (.type "NoneType") (.ref t.C_Lamp) = some false
  z_Lamp_Formula : PySem.W.kitOne K (.ref t.C_Lamp) (.ref t.C_Formula) = some true
  z_Sure_Formula : PySem.W.kitOne K (.ref t.C_Sure) (.ref t.C_Formula) = some true
  z_Not_Formula : PySem.W.kitOne K (.ref t.C_Not) (.ref t.C_Formula) = some true
  z_Joined_Formula : PySem.W.kitOne K (.ref t.C_Joined) (.ref t.C_Formula) = some true
  z_And_Formula : PySem.W.kitOne K (.ref t.C_And) (.ref t.C_Formula) = some true
  z_Or_Formula : PySem.W.kitOne K (.ref t.C_Or) (.ref t.C_Formula) = some true
  z_none_Formula : PySem.W.kitOne K (.type "NoneType") (.ref t.C_Formula) = some false
  bl : ∀ (s : Shared) (u : Value), BindsTo s t.d_law ⟨[u], []⟩ [("_law_script", u)]
  B : Bt mg
theorem txt_mk {K : PySem.W.Frag} {h : Heap} {mg : Str → Option Value} (X : K.In h) (G : h.Ns mainGlobals mg)
    {f_all_stands : Addr} {od_all_stands an_all_stands : Option Addr} {sl_all_stands : Array (Option Value)} {oc_all_stands kV_all_stands dc_all_stands pm_all_stands cd_all_stands ct_all_stands : Value}
    {f_asked_by : Addr} {od_asked_by an_asked_by : Option Addr} {sl_asked_by : Array (Option Value)} {oc_asked_by kV_asked_by dc_asked_by pm_asked_by cd_asked_by ct_asked_by : Value}
    {f_bracketed : Addr} {od_bracketed an_bracketed : Option Addr} {sl_bracketed : Array (Option Value)} {oc_bracketed kV_bracketed dc_bracketed pm_bracketed cd_bracketed ct_bracketed : Value}
    {f_formula_outside : Addr} {od_formula_outside an_formula_outside : Option Addr} {sl_formula_outside : Array (Option Value)} {oc_formula_outside kV_formula_outside dc_formula_outside pm_formula_outside cd_formula_outside ct_formula_outside : Value}
    {f_formula_of : Addr} {od_formula_of an_formula_of : Option Addr} {sl_formula_of : Array (Option Value)} {oc_formula_of kV_formula_of dc_formula_of pm_formula_of cd_formula_of ct_formula_of : Value}
    {f__law_cell_at : Addr} {od__law_cell_at an__law_cell_at : Option Addr} {sl__law_cell_at : Array (Option Value)} {oc__law_cell_at kV__law_cell_at dc__law_cell_at pm__law_cell_at cd__law_cell_at ct__law_cell_at : Value}
    {f__law_names : Addr} {od__law_names an__law_names : Option Addr} {sl__law_names : Array (Option Value)} {oc__law_names kV__law_names dc__law_names pm__law_names cd__law_names ct__law_names : Value}
    {f__law_bar_text : Addr} {od__law_bar_text an__law_bar_text : Option Addr} {sl__law_bar_text : Array (Option Value)} {oc__law_bar_text kV__law_bar_text dc__law_bar_text pm__law_bar_text cd__law_bar_text ct__law_bar_text : Value}
    {f__law_text : Addr} {od__law_text an__law_text : Option Addr} {sl__law_text : Array (Option Value)} {oc__law_text kV__law_text dc__law_text pm__law_text cd__law_text ct__law_text : Value}
    {f__law_outside : Addr} {od__law_outside an__law_outside : Option Addr} {sl__law_outside : Array (Option Value)} {oc__law_outside kV__law_outside dc__law_outside pm__law_outside cd__law_outside ct__law_outside : Value}
    {f__law_of_class : Addr} {od__law_of_class an__law_of_class : Option Addr} {sl__law_of_class : Array (Option Value)} {oc__law_of_class kV__law_of_class dc__law_of_class pm__law_of_class cd__law_of_class ct__law_of_class : Value}
    {f__law_counted : Addr} {od__law_counted an__law_counted : Option Addr} {sl__law_counted : Array (Option Value)} {oc__law_counted kV__law_counted dc__law_counted pm__law_counted cd__law_counted ct__law_counted : Value}
    {f_law : Addr} {od_law an_law : Option Addr} {sl_law : Array (Option Value)} {oc_law kV_law dc_law pm_law cd_law ct_law : Value}
    {f_Formula_looseness : Addr} {od_Formula_looseness an_Formula_looseness : Option Addr} {sl_Formula_looseness : Array (Option Value)} {oc_Formula_looseness kV_Formula_looseness dc_Formula_looseness pm_Formula_looseness cd_Formula_looseness ct_Formula_looseness : Value}
    {f_Lamp_init : Addr} {od_Lamp_init an_Lamp_init : Option Addr} {sl_Lamp_init : Array (Option Value)} {oc_Lamp_init kV_Lamp_init dc_Lamp_init pm_Lamp_init cd_Lamp_init ct_Lamp_init : Value}
    {f_Lamp_holds : Addr} {od_Lamp_holds an_Lamp_holds : Option Addr} {sl_Lamp_holds : Array (Option Value)} {oc_Lamp_holds kV_Lamp_holds dc_Lamp_holds pm_Lamp_holds cd_Lamp_holds ct_Lamp_holds : Value}
    {f_Lamp_crowd : Addr} {od_Lamp_crowd an_Lamp_crowd : Option Addr} {sl_Lamp_crowd : Array (Option Value)} {oc_Lamp_crowd kV_Lamp_crowd dc_Lamp_crowd pm_Lamp_crowd cd_Lamp_crowd ct_Lamp_crowd : Value}
    {f_Lamp_lamps : Addr} {od_Lamp_lamps an_Lamp_lamps : Option Addr} {sl_Lamp_lamps : Array (Option Value)} {oc_Lamp_lamps kV_Lamp_lamps dc_Lamp_lamps pm_Lamp_lamps cd_Lamp_lamps ct_Lamp_lamps : Value}
    {f_Lamp_shown : Addr} {od_Lamp_shown an_Lamp_shown : Option Addr} {sl_Lamp_shown : Array (Option Value)} {oc_Lamp_shown kV_Lamp_shown dc_Lamp_shown pm_Lamp_shown cd_Lamp_shown ct_Lamp_shown : Value}
    {f_Sure_init : Addr} {od_Sure_init an_Sure_init : Option Addr} {sl_Sure_init : Array (Option Value)} {oc_Sure_init kV_Sure_init dc_Sure_init pm_Sure_init cd_Sure_init ct_Sure_init : Value}
    {f_Sure_holds : Addr} {od_Sure_holds an_Sure_holds : Option Addr} {sl_Sure_holds : Array (Option Value)} {oc_Sure_holds kV_Sure_holds dc_Sure_holds pm_Sure_holds cd_Sure_holds ct_Sure_holds : Value}
    {f_Sure_crowd : Addr} {od_Sure_crowd an_Sure_crowd : Option Addr} {sl_Sure_crowd : Array (Option Value)} {oc_Sure_crowd kV_Sure_crowd dc_Sure_crowd pm_Sure_crowd cd_Sure_crowd ct_Sure_crowd : Value}
    {f_Sure_lamps : Addr} {od_Sure_lamps an_Sure_lamps : Option Addr} {sl_Sure_lamps : Array (Option Value)} {oc_Sure_lamps kV_Sure_lamps dc_Sure_lamps pm_Sure_lamps cd_Sure_lamps ct_Sure_lamps : Value}
    {f_Sure_shown : Addr} {od_Sure_shown an_Sure_shown : Option Addr} {sl_Sure_shown : Array (Option Value)} {oc_Sure_shown kV_Sure_shown dc_Sure_shown pm_Sure_shown cd_Sure_shown ct_Sure_shown : Value}
    {f_Not_init : Addr} {od_Not_init an_Not_init : Option Addr} {sl_Not_init : Array (Option Value)} {oc_Not_init kV_Not_init dc_Not_init pm_Not_init cd_Not_init ct_Not_init : Value}
    {f_Not_holds : Addr} {od_Not_holds an_Not_holds : Option Addr} {sl_Not_holds : Array (Option Value)} {oc_Not_holds kV_Not_holds dc_Not_holds pm_Not_holds cd_Not_holds ct_Not_holds : Value}
    {f_Not_crowd : Addr} {od_Not_crowd an_Not_crowd : Option Addr} {sl_Not_crowd : Array (Option Value)} {oc_Not_crowd kV_Not_crowd dc_Not_crowd pm_Not_crowd cd_Not_crowd ct_Not_crowd : Value}
    {f_Not_lamps : Addr} {od_Not_lamps an_Not_lamps : Option Addr} {sl_Not_lamps : Array (Option Value)} {oc_Not_lamps kV_Not_lamps dc_Not_lamps pm_Not_lamps cd_Not_lamps ct_Not_lamps : Value}
    {f_Not_shown : Addr} {od_Not_shown an_Not_shown : Option Addr} {sl_Not_shown : Array (Option Value)} {oc_Not_shown kV_Not_shown dc_Not_shown pm_Not_shown cd_Not_shown ct_Not_shown : Value}
    {f_Joined_init : Addr} {od_Joined_init an_Joined_init : Option Addr} {sl_Joined_init : Array (Option Value)} {oc_Joined_init kV_Joined_init dc_Joined_init pm_Joined_init cd_Joined_init ct_Joined_init : Value}
    {f_Joined_lamps : Addr} {od_Joined_lamps an_Joined_lamps : Option Addr} {sl_Joined_lamps : Array (Option Value)} {oc_Joined_lamps kV_Joined_lamps dc_Joined_lamps pm_Joined_lamps cd_Joined_lamps ct_Joined_lamps : Value}
    {f_Joined_shown : Addr} {od_Joined_shown an_Joined_shown : Option Addr} {sl_Joined_shown : Array (Option Value)} {oc_Joined_shown kV_Joined_shown dc_Joined_shown pm_Joined_shown cd_Joined_shown ct_Joined_shown : Value}
    {f_And_looseness : Addr} {od_And_looseness an_And_looseness : Option Addr} {sl_And_looseness : Array (Option Value)} {oc_And_looseness kV_And_looseness dc_And_looseness pm_And_looseness cd_And_looseness ct_And_looseness : Value}
    {f_And_between : Addr} {od_And_between an_And_between : Option Addr} {sl_And_between : Array (Option Value)} {oc_And_between kV_And_between dc_And_between pm_And_between cd_And_between ct_And_between : Value}
    {f_And_holds : Addr} {od_And_holds an_And_holds : Option Addr} {sl_And_holds : Array (Option Value)} {oc_And_holds kV_And_holds dc_And_holds pm_And_holds cd_And_holds ct_And_holds : Value}
    {f_And_crowd : Addr} {od_And_crowd an_And_crowd : Option Addr} {sl_And_crowd : Array (Option Value)} {oc_And_crowd kV_And_crowd dc_And_crowd pm_And_crowd cd_And_crowd ct_And_crowd : Value}
    {f_Or_looseness : Addr} {od_Or_looseness an_Or_looseness : Option Addr} {sl_Or_looseness : Array (Option Value)} {oc_Or_looseness kV_Or_looseness dc_Or_looseness pm_Or_looseness cd_Or_looseness ct_Or_looseness : Value}
    {f_Or_between : Addr} {od_Or_between an_Or_between : Option Addr} {sl_Or_between : Array (Option Value)} {oc_Or_between kV_Or_between dc_Or_between pm_Or_between cd_Or_between ct_Or_between : Value}
    {f_Or_holds : Addr} {od_Or_holds an_Or_holds : Option Addr} {sl_Or_holds : Array (Option Value)} {oc_Or_holds kV_Or_holds dc_Or_holds pm_Or_holds cd_Or_holds ct_Or_holds : Value}
    {f_Or_crowd : Addr} {od_Or_crowd an_Or_crowd : Option Addr} {sl_Or_crowd : Array (Option Value)} {oc_Or_crowd kV_Or_crowd dc_Or_crowd pm_Or_crowd cd_Or_crowd ct_Or_crowd : Value}
    {C_Formula : Addr}
    {C_Lamp : Addr}
    {C_Sure : Addr}
    {C_Not : Addr}
    {C_Joined : Addr}
    {C_And : Addr}
    {C_Or : Addr}
    (a_all_stands : PySem.W.nsIn K mainGlobals "all_stands" = some (some (.ref f_all_stands)))
    (a_asked_by : PySem.W.nsIn K mainGlobals "asked_by" = some (some (.ref f_asked_by)))
    (a_bracketed : PySem.W.nsIn K mainGlobals "bracketed" = some (some (.ref f_bracketed)))
    (a_formula_outside : PySem.W.nsIn K mainGlobals "formula_outside" = some (some (.ref f_formula_outside)))
    (a_formula_of : PySem.W.nsIn K mainGlobals "formula_of" = some (some (.ref f_formula_of)))
    (a__law_cell_at : PySem.W.nsIn K mainGlobals "_law_cell_at" = some (some (.ref f__law_cell_at)))
    (a__law_names : PySem.W.nsIn K mainGlobals "_law_names" = some (some (.ref f__law_names)))
    (a__law_bar_text : PySem.W.nsIn K mainGlobals "_law_bar_text" = some (some (.ref f__law_bar_text)))
    (a__law_text : PySem.W.nsIn K mainGlobals "_law_text" = some (some (.ref f__law_text)))
    (a__law_outside : PySem.W.nsIn K mainGlobals "_law_outside" = some (some (.ref f__law_outside)))
    (a__law_of_class : PySem.W.nsIn K mainGlobals "_law_of_class" = some (some (.ref f__law_of_class)))
    (a__law_counted : PySem.W.nsIn K mainGlobals "_law_counted" = some (some (.ref f__law_counted)))
    (a_law : PySem.W.nsIn K mainGlobals "law" = some (some (.ref f_law)))
    (a_Formula : PySem.W.nsIn K mainGlobals "Formula" = some (some (.ref C_Formula)))
    (a_Lamp : PySem.W.nsIn K mainGlobals "Lamp" = some (some (.ref C_Lamp)))
    (a_Sure : PySem.W.nsIn K mainGlobals "Sure" = some (some (.ref C_Sure)))
    (a_Not : PySem.W.nsIn K mainGlobals "Not" = some (some (.ref C_Not)))
    (a_Joined : PySem.W.nsIn K mainGlobals "Joined" = some (some (.ref C_Joined)))
    (a_And : PySem.W.nsIn K mainGlobals "And" = some (some (.ref C_And)))
    (a_Or : PySem.W.nsIn K mainGlobals "Or" = some (some (.ref C_Or)))
    (e_Formula_looseness : PySem.W.findIn K (.ref C_Formula) "looseness" = some (some (.ref f_Formula_looseness)))
    (e_Lamp_init : PySem.W.findIn K (.ref C_Lamp) "__init__" = some (some (.ref f_Lamp_init)))
    (e_Lamp_holds : PySem.W.findIn K (.ref C_Lamp) "holds" = some (some (.ref f_Lamp_holds)))
    (e_Lamp_crowd : PySem.W.findIn K (.ref C_Lamp) "crowd" = some (some (.ref f_Lamp_crowd)))
    (e_Lamp_lamps : PySem.W.findIn K (.ref C_Lamp) "lamps" = some (some (.ref f_Lamp_lamps)))
    (e_Lamp_shown : PySem.W.findIn K (.ref C_Lamp) "shown" = some (some (.ref f_Lamp_shown)))
    (e_Lamp_looseness : PySem.W.findIn K (.ref C_Lamp) "looseness" = some (some (.ref f_Formula_looseness)))
    (e_Sure_init : PySem.W.findIn K (.ref C_Sure) "__init__" = some (some (.ref f_Sure_init)))
    (e_Sure_holds : PySem.W.findIn K (.ref C_Sure) "holds" = some (some (.ref f_Sure_holds)))
    (e_Sure_crowd : PySem.W.findIn K (.ref C_Sure) "crowd" = some (some (.ref f_Sure_crowd)))
    (e_Sure_lamps : PySem.W.findIn K (.ref C_Sure) "lamps" = some (some (.ref f_Sure_lamps)))
    (e_Sure_shown : PySem.W.findIn K (.ref C_Sure) "shown" = some (some (.ref f_Sure_shown)))
    (e_Sure_looseness : PySem.W.findIn K (.ref C_Sure) "looseness" = some (some (.ref f_Formula_looseness)))
    (e_Not_init : PySem.W.findIn K (.ref C_Not) "__init__" = some (some (.ref f_Not_init)))
    (e_Not_holds : PySem.W.findIn K (.ref C_Not) "holds" = some (some (.ref f_Not_holds)))
    (e_Not_crowd : PySem.W.findIn K (.ref C_Not) "crowd" = some (some (.ref f_Not_crowd)))
    (e_Not_lamps : PySem.W.findIn K (.ref C_Not) "lamps" = some (some (.ref f_Not_lamps)))
    (e_Not_shown : PySem.W.findIn K (.ref C_Not) "shown" = some (some (.ref f_Not_shown)))
    (e_Not_looseness : PySem.W.findIn K (.ref C_Not) "looseness" = some (some (.ref f_Formula_looseness)))
    (e_Joined_init : PySem.W.findIn K (.ref C_Joined) "__init__" = some (some (.ref f_Joined_init)))
    (e_Joined_lamps : PySem.W.findIn K (.ref C_Joined) "lamps" = some (some (.ref f_Joined_lamps)))
    (e_Joined_shown : PySem.W.findIn K (.ref C_Joined) "shown" = some (some (.ref f_Joined_shown)))
    (e_Joined_looseness : PySem.W.findIn K (.ref C_Joined) "looseness" = some (some (.ref f_Formula_looseness)))
    (e_And_looseness : PySem.W.findIn K (.ref C_And) "looseness" = some (some (.ref f_And_looseness)))
    (e_And_between : PySem.W.findIn K (.ref C_And) "between" = some (some (.ref f_And_between)))
    (e_And_holds : PySem.W.findIn K (.ref C_And) "holds" = some (some (.ref f_And_holds)))
    (e_And_crowd : PySem.W.findIn K (.ref C_And) "crowd" = some (some (.ref f_And_crowd)))
    (e_And_init : PySem.W.findIn K (.ref C_And) "__init__" = some (some (.ref f_Joined_init)))
    (e_And_lamps : PySem.W.findIn K (.ref C_And) "lamps" = some (some (.ref f_Joined_lamps)))
    (e_And_shown : PySem.W.findIn K (.ref C_And) "shown" = some (some (.ref f_Joined_shown)))
    (e_Or_looseness : PySem.W.findIn K (.ref C_Or) "looseness" = some (some (.ref f_Or_looseness)))
    (e_Or_between : PySem.W.findIn K (.ref C_Or) "between" = some (some (.ref f_Or_between)))
    (e_Or_holds : PySem.W.findIn K (.ref C_Or) "holds" = some (some (.ref f_Or_holds)))
    (e_Or_crowd : PySem.W.findIn K (.ref C_Or) "crowd" = some (some (.ref f_Or_crowd)))
    (e_Or_init : PySem.W.findIn K (.ref C_Or) "__init__" = some (some (.ref f_Joined_init)))
    (e_Or_lamps : PySem.W.findIn K (.ref C_Or) "lamps" = some (some (.ref f_Joined_lamps)))
    (e_Or_shown : PySem.W.findIn K (.ref C_Or) "shown" = some (some (.ref f_Joined_shown)))
    (l_all_stands : K.lookup f_all_stands = some ⟨oc_all_stands, od_all_stands, .func (PySem.W.fnOf "all_stands" "all_stands" (defArgs s_all_stands) (defBody s_all_stands) (defScope s_all_stands) .none kV_all_stands dc_all_stands pm_all_stands an_all_stands cd_all_stands ct_all_stands), sl_all_stands⟩)
    (c_all_stands : PySem.W.codeIn K cd_all_stands "all_stands" = true)
    (k_all_stands : PySem.W.keepIn K (.ref f_all_stands) = true)
    (l_asked_by : K.lookup f_asked_by = some ⟨oc_asked_by, od_asked_by, .func (PySem.W.fnOf "asked_by" "asked_by" (defArgs s_asked_by) (defBody s_asked_by) (defScope s_asked_by) .none kV_asked_by dc_asked_by pm_asked_by an_asked_by cd_asked_by ct_asked_by), sl_asked_by⟩)
    (c_asked_by : PySem.W.codeIn K cd_asked_by "asked_by" = true)
    (k_asked_by : PySem.W.keepIn K (.ref f_asked_by) = true)
    (l_bracketed : K.lookup f_bracketed = some ⟨oc_bracketed, od_bracketed, .func (PySem.W.fnOf "bracketed" "bracketed" (defArgs s_bracketed) (defBody s_bracketed) (defScope s_bracketed) .none kV_bracketed dc_bracketed pm_bracketed an_bracketed cd_bracketed ct_bracketed), sl_bracketed⟩)
    (c_bracketed : PySem.W.codeIn K cd_bracketed "bracketed" = true)
    (k_bracketed : PySem.W.keepIn K (.ref f_bracketed) = true)
    (l_formula_outside : K.lookup f_formula_outside = some ⟨oc_formula_outside, od_formula_outside, .func (PySem.W.fnOf "formula_outside" "formula_outside" (defArgs s_formula_outside) (defBody s_formula_outside) (defScope s_formula_outside) .none kV_formula_outside dc_formula_outside pm_formula_outside an_formula_outside cd_formula_outside ct_formula_outside), sl_formula_outside⟩)
    (c_formula_outside : PySem.W.codeIn K cd_formula_outside "formula_outside" = true)
    (k_formula_outside : PySem.W.keepIn K (.ref f_formula_outside) = true)
    (l_formula_of : K.lookup f_formula_of = some ⟨oc_formula_of, od_formula_of, .func (PySem.W.fnOf "formula_of" "formula_of" (defArgs s_formula_of) (defBody s_formula_of) (defScope s_formula_of) .none kV_formula_of dc_formula_of pm_formula_of an_formula_of cd_formula_of ct_formula_of), sl_formula_of⟩)
    (c_formula_of : PySem.W.codeIn K cd_formula_of "formula_of" = true)
    (k_formula_of : PySem.W.keepIn K (.ref f_formula_of) = true)
    (l__law_cell_at : K.lookup f__law_cell_at = some ⟨oc__law_cell_at, od__law_cell_at, .func (PySem.W.fnOf "_law_cell_at" "_law_cell_at" (defArgs s__law_cell_at) (defBody s__law_cell_at) (defScope s__law_cell_at) .none kV__law_cell_at dc__law_cell_at pm__law_cell_at an__law_cell_at cd__law_cell_at ct__law_cell_at), sl__law_cell_at⟩)
    (c__law_cell_at : PySem.W.codeIn K cd__law_cell_at "_law_cell_at" = true)
    (k__law_cell_at : PySem.W.keepIn K (.ref f__law_cell_at) = true)
    (l__law_names : K.lookup f__law_names = some ⟨oc__law_names, od__law_names, .func (PySem.W.fnOf "_law_names" "_law_names" (defArgs s__law_names) (defBody s__law_names) (defScope s__law_names) .none kV__law_names dc__law_names pm__law_names an__law_names cd__law_names ct__law_names), sl__law_names⟩)
    (c__law_names : PySem.W.codeIn K cd__law_names "_law_names" = true)
    (k__law_names : PySem.W.keepIn K (.ref f__law_names) = true)
    (l__law_bar_text : K.lookup f__law_bar_text = some ⟨oc__law_bar_text, od__law_bar_text, .func (PySem.W.fnOf "_law_bar_text" "_law_bar_text" (defArgs s__law_bar_text) (defBody s__law_bar_text) (defScope s__law_bar_text) .none kV__law_bar_text dc__law_bar_text pm__law_bar_text an__law_bar_text cd__law_bar_text ct__law_bar_text), sl__law_bar_text⟩)
    (c__law_bar_text : PySem.W.codeIn K cd__law_bar_text "_law_bar_text" = true)
    (k__law_bar_text : PySem.W.keepIn K (.ref f__law_bar_text) = true)
    (l__law_text : K.lookup f__law_text = some ⟨oc__law_text, od__law_text, .func (PySem.W.fnOf "_law_text" "_law_text" (defArgs s__law_text) (defBody s__law_text) (defScope s__law_text) .none kV__law_text dc__law_text pm__law_text an__law_text cd__law_text ct__law_text), sl__law_text⟩)
    (c__law_text : PySem.W.codeIn K cd__law_text "_law_text" = true)
    (k__law_text : PySem.W.keepIn K (.ref f__law_text) = true)
    (l__law_outside : K.lookup f__law_outside = some ⟨oc__law_outside, od__law_outside, .func (PySem.W.fnOf "_law_outside" "_law_outside" (defArgs s__law_outside) (defBody s__law_outside) (defScope s__law_outside) .none kV__law_outside dc__law_outside pm__law_outside an__law_outside cd__law_outside ct__law_outside), sl__law_outside⟩)
    (c__law_outside : PySem.W.codeIn K cd__law_outside "_law_outside" = true)
    (k__law_outside : PySem.W.keepIn K (.ref f__law_outside) = true)
    (l__law_of_class : K.lookup f__law_of_class = some ⟨oc__law_of_class, od__law_of_class, .func (PySem.W.fnOf "_law_of_class" "_law_of_class" (defArgs s__law_of_class) (defBody s__law_of_class) (defScope s__law_of_class) .none kV__law_of_class dc__law_of_class pm__law_of_class an__law_of_class cd__law_of_class ct__law_of_class), sl__law_of_class⟩)
    (c__law_of_class : PySem.W.codeIn K cd__law_of_class "_law_of_class" = true)
    (k__law_of_class : PySem.W.keepIn K (.ref f__law_of_class) = true)
    (l__law_counted : K.lookup f__law_counted = some ⟨oc__law_counted, od__law_counted, .func (PySem.W.fnOf "_law_counted" "_law_counted" (defArgs s__law_counted) (defBody s__law_counted) (defScope s__law_counted) .none kV__law_counted dc__law_counted pm__law_counted an__law_counted cd__law_counted ct__law_counted), sl__law_counted⟩)
    (c__law_counted : PySem.W.codeIn K cd__law_counted "_law_counted" = true)
    (k__law_counted : PySem.W.keepIn K (.ref f__law_counted) = true)
    (l_law : K.lookup f_law = some ⟨oc_law, od_law, .func (PySem.W.fnOf "law" "law" (defArgs s_law) (defBody s_law) (defScope s_law) .none kV_law dc_law pm_law an_law cd_law ct_law), sl_law⟩)
    (c_law : PySem.W.codeIn K cd_law "law" = true)
    (k_law : PySem.W.keepIn K (.ref f_law) = true)
    (l_Formula_looseness : K.lookup f_Formula_looseness = some ⟨oc_Formula_looseness, od_Formula_looseness, .func (PySem.W.fnOf "looseness" "Formula.looseness" (defArgs s_Formula_looseness) (defBody s_Formula_looseness) (defScope s_Formula_looseness) .none kV_Formula_looseness dc_Formula_looseness pm_Formula_looseness an_Formula_looseness cd_Formula_looseness ct_Formula_looseness), sl_Formula_looseness⟩)
    (c_Formula_looseness : PySem.W.codeIn K cd_Formula_looseness "Formula.looseness" = true)
    (k_Formula_looseness : PySem.W.keepIn K (.ref f_Formula_looseness) = true)
    (i_Formula_looseness : PySem.W.isFn K (.ref f_Formula_looseness) = true)
    (l_Lamp_init : K.lookup f_Lamp_init = some ⟨oc_Lamp_init, od_Lamp_init, .func (PySem.W.fnOf "__init__" "Lamp.__init__" (defArgs s_Lamp_init) (defBody s_Lamp_init) (defScope s_Lamp_init) .none kV_Lamp_init dc_Lamp_init pm_Lamp_init an_Lamp_init cd_Lamp_init ct_Lamp_init), sl_Lamp_init⟩)
    (c_Lamp_init : PySem.W.codeIn K cd_Lamp_init "Lamp.__init__" = true)
    (k_Lamp_init : PySem.W.keepIn K (.ref f_Lamp_init) = true)
    (i_Lamp_init : PySem.W.isFn K (.ref f_Lamp_init) = true)
    (l_Lamp_holds : K.lookup f_Lamp_holds = some ⟨oc_Lamp_holds, od_Lamp_holds, .func (PySem.W.fnOf "holds" "Lamp.holds" (defArgs s_Lamp_holds) (defBody s_Lamp_holds) (defScope s_Lamp_holds) .none kV_Lamp_holds dc_Lamp_holds pm_Lamp_holds an_Lamp_holds cd_Lamp_holds ct_Lamp_holds), sl_Lamp_holds⟩)
    (c_Lamp_holds : PySem.W.codeIn K cd_Lamp_holds "Lamp.holds" = true)
    (k_Lamp_holds : PySem.W.keepIn K (.ref f_Lamp_holds) = true)
    (i_Lamp_holds : PySem.W.isFn K (.ref f_Lamp_holds) = true)
    (l_Lamp_crowd : K.lookup f_Lamp_crowd = some ⟨oc_Lamp_crowd, od_Lamp_crowd, .func (PySem.W.fnOf "crowd" "Lamp.crowd" (defArgs s_Lamp_crowd) (defBody s_Lamp_crowd) (defScope s_Lamp_crowd) .none kV_Lamp_crowd dc_Lamp_crowd pm_Lamp_crowd an_Lamp_crowd cd_Lamp_crowd ct_Lamp_crowd), sl_Lamp_crowd⟩)
    (c_Lamp_crowd : PySem.W.codeIn K cd_Lamp_crowd "Lamp.crowd" = true)
    (k_Lamp_crowd : PySem.W.keepIn K (.ref f_Lamp_crowd) = true)
    (i_Lamp_crowd : PySem.W.isFn K (.ref f_Lamp_crowd) = true)
    (l_Lamp_lamps : K.lookup f_Lamp_lamps = some ⟨oc_Lamp_lamps, od_Lamp_lamps, .func (PySem.W.fnOf "lamps" "Lamp.lamps" (defArgs s_Lamp_lamps) (defBody s_Lamp_lamps) (defScope s_Lamp_lamps) .none kV_Lamp_lamps dc_Lamp_lamps pm_Lamp_lamps an_Lamp_lamps cd_Lamp_lamps ct_Lamp_lamps), sl_Lamp_lamps⟩)
    (c_Lamp_lamps : PySem.W.codeIn K cd_Lamp_lamps "Lamp.lamps" = true)
    (k_Lamp_lamps : PySem.W.keepIn K (.ref f_Lamp_lamps) = true)
    (i_Lamp_lamps : PySem.W.isFn K (.ref f_Lamp_lamps) = true)
    (l_Lamp_shown : K.lookup f_Lamp_shown = some ⟨oc_Lamp_shown, od_Lamp_shown, .func (PySem.W.fnOf "shown" "Lamp.shown" (defArgs s_Lamp_shown) (defBody s_Lamp_shown) (defScope s_Lamp_shown) .none kV_Lamp_shown dc_Lamp_shown pm_Lamp_shown an_Lamp_shown cd_Lamp_shown ct_Lamp_shown), sl_Lamp_shown⟩)
    (c_Lamp_shown : PySem.W.codeIn K cd_Lamp_shown "Lamp.shown" = true)
    (k_Lamp_shown : PySem.W.keepIn K (.ref f_Lamp_shown) = true)
    (i_Lamp_shown : PySem.W.isFn K (.ref f_Lamp_shown) = true)
    (l_Sure_init : K.lookup f_Sure_init = some ⟨oc_Sure_init, od_Sure_init, .func (PySem.W.fnOf "__init__" "Sure.__init__" (defArgs s_Sure_init) (defBody s_Sure_init) (defScope s_Sure_init) .none kV_Sure_init dc_Sure_init pm_Sure_init an_Sure_init cd_Sure_init ct_Sure_init), sl_Sure_init⟩)
    (c_Sure_init : PySem.W.codeIn K cd_Sure_init "Sure.__init__" = true)
    (k_Sure_init : PySem.W.keepIn K (.ref f_Sure_init) = true)
    (i_Sure_init : PySem.W.isFn K (.ref f_Sure_init) = true)
    (l_Sure_holds : K.lookup f_Sure_holds = some ⟨oc_Sure_holds, od_Sure_holds, .func (PySem.W.fnOf "holds" "Sure.holds" (defArgs s_Sure_holds) (defBody s_Sure_holds) (defScope s_Sure_holds) .none kV_Sure_holds dc_Sure_holds pm_Sure_holds an_Sure_holds cd_Sure_holds ct_Sure_holds), sl_Sure_holds⟩)
    (c_Sure_holds : PySem.W.codeIn K cd_Sure_holds "Sure.holds" = true)
    (k_Sure_holds : PySem.W.keepIn K (.ref f_Sure_holds) = true)
    (i_Sure_holds : PySem.W.isFn K (.ref f_Sure_holds) = true)
    (l_Sure_crowd : K.lookup f_Sure_crowd = some ⟨oc_Sure_crowd, od_Sure_crowd, .func (PySem.W.fnOf "crowd" "Sure.crowd" (defArgs s_Sure_crowd) (defBody s_Sure_crowd) (defScope s_Sure_crowd) .none kV_Sure_crowd dc_Sure_crowd pm_Sure_crowd an_Sure_crowd cd_Sure_crowd ct_Sure_crowd), sl_Sure_crowd⟩)
    (c_Sure_crowd : PySem.W.codeIn K cd_Sure_crowd "Sure.crowd" = true)
    (k_Sure_crowd : PySem.W.keepIn K (.ref f_Sure_crowd) = true)
    (i_Sure_crowd : PySem.W.isFn K (.ref f_Sure_crowd) = true)
    (l_Sure_lamps : K.lookup f_Sure_lamps = some ⟨oc_Sure_lamps, od_Sure_lamps, .func (PySem.W.fnOf "lamps" "Sure.lamps" (defArgs s_Sure_lamps) (defBody s_Sure_lamps) (defScope s_Sure_lamps) .none kV_Sure_lamps dc_Sure_lamps pm_Sure_lamps an_Sure_lamps cd_Sure_lamps ct_Sure_lamps), sl_Sure_lamps⟩)
    (c_Sure_lamps : PySem.W.codeIn K cd_Sure_lamps "Sure.lamps" = true)
    (k_Sure_lamps : PySem.W.keepIn K (.ref f_Sure_lamps) = true)
    (i_Sure_lamps : PySem.W.isFn K (.ref f_Sure_lamps) = true)
    (l_Sure_shown : K.lookup f_Sure_shown = some ⟨oc_Sure_shown, od_Sure_shown, .func (PySem.W.fnOf "shown" "Sure.shown" (defArgs s_Sure_shown) (defBody s_Sure_shown) (defScope s_Sure_shown) .none kV_Sure_shown dc_Sure_shown pm_Sure_shown an_Sure_shown cd_Sure_shown ct_Sure_shown), sl_Sure_shown⟩)
    (c_Sure_shown : PySem.W.codeIn K cd_Sure_shown "Sure.shown" = true)
    (k_Sure_shown : PySem.W.keepIn K (.ref f_Sure_shown) = true)
    (i_Sure_shown : PySem.W.isFn K (.ref f_Sure_shown) = true)
    (l_Not_init : K.lookup f_Not_init = some ⟨oc_Not_init, od_Not_init, .func (PySem.W.fnOf "__init__" "Not.__init__" (defArgs s_Not_init) (defBody s_Not_init) (defScope s_Not_init) .none kV_Not_init dc_Not_init pm_Not_init an_Not_init cd_Not_init ct_Not_init), sl_Not_init⟩)
    (c_Not_init : PySem.W.codeIn K cd_Not_init "Not.__init__" = true)
    (k_Not_init : PySem.W.keepIn K (.ref f_Not_init) = true)
    (i_Not_init : PySem.W.isFn K (.ref f_Not_init) = true)
    (l_Not_holds : K.lookup f_Not_holds = some ⟨oc_Not_holds, od_Not_holds, .func (PySem.W.fnOf "holds" "Not.holds" (defArgs s_Not_holds) (defBody s_Not_holds) (defScope s_Not_holds) .none kV_Not_holds dc_Not_holds pm_Not_holds an_Not_holds cd_Not_holds ct_Not_holds), sl_Not_holds⟩)
    (c_Not_holds : PySem.W.codeIn K cd_Not_holds "Not.holds" = true)
    (k_Not_holds : PySem.W.keepIn K (.ref f_Not_holds) = true)
    (i_Not_holds : PySem.W.isFn K (.ref f_Not_holds) = true)
    (l_Not_crowd : K.lookup f_Not_crowd = some ⟨oc_Not_crowd, od_Not_crowd, .func (PySem.W.fnOf "crowd" "Not.crowd" (defArgs s_Not_crowd) (defBody s_Not_crowd) (defScope s_Not_crowd) .none kV_Not_crowd dc_Not_crowd pm_Not_crowd an_Not_crowd cd_Not_crowd ct_Not_crowd), sl_Not_crowd⟩)
    (c_Not_crowd : PySem.W.codeIn K cd_Not_crowd "Not.crowd" = true)
    (k_Not_crowd : PySem.W.keepIn K (.ref f_Not_crowd) = true)
    (i_Not_crowd : PySem.W.isFn K (.ref f_Not_crowd) = true)
    (l_Not_lamps : K.lookup f_Not_lamps = some ⟨oc_Not_lamps, od_Not_lamps, .func (PySem.W.fnOf "lamps" "Not.lamps" (defArgs s_Not_lamps) (defBody s_Not_lamps) (defScope s_Not_lamps) .none kV_Not_lamps dc_Not_lamps pm_Not_lamps an_Not_lamps cd_Not_lamps ct_Not_lamps), sl_Not_lamps⟩)
    (c_Not_lamps : PySem.W.codeIn K cd_Not_lamps "Not.lamps" = true)
    (k_Not_lamps : PySem.W.keepIn K (.ref f_Not_lamps) = true)
    (i_Not_lamps : PySem.W.isFn K (.ref f_Not_lamps) = true)
    (l_Not_shown : K.lookup f_Not_shown = some ⟨oc_Not_shown, od_Not_shown, .func (PySem.W.fnOf "shown" "Not.shown" (defArgs s_Not_shown) (defBody s_Not_shown) (defScope s_Not_shown) .none kV_Not_shown dc_Not_shown pm_Not_shown an_Not_shown cd_Not_shown ct_Not_shown), sl_Not_shown⟩)
    (c_Not_shown : PySem.W.codeIn K cd_Not_shown "Not.shown" = true)
    (k_Not_shown : PySem.W.keepIn K (.ref f_Not_shown) = true)
    (i_Not_shown : PySem.W.isFn K (.ref f_Not_shown) = true)
    (l_Joined_init : K.lookup f_Joined_init = some ⟨oc_Joined_init, od_Joined_init, .func (PySem.W.fnOf "__init__" "Joined.__init__" (defArgs s_Joined_init) (defBody s_Joined_init) (defScope s_Joined_init) .none kV_Joined_init dc_Joined_init pm_Joined_init an_Joined_init cd_Joined_init ct_Joined_init), sl_Joined_init⟩)
    (c_Joined_init : PySem.W.codeIn K cd_Joined_init "Joined.__init__" = true)
    (k_Joined_init : PySem.W.keepIn K (.ref f_Joined_init) = true)
    (i_Joined_init : PySem.W.isFn K (.ref f_Joined_init) = true)
    (l_Joined_lamps : K.lookup f_Joined_lamps = some ⟨oc_Joined_lamps, od_Joined_lamps, .func (PySem.W.fnOf "lamps" "Joined.lamps" (defArgs s_Joined_lamps) (defBody s_Joined_lamps) (defScope s_Joined_lamps) .none kV_Joined_lamps dc_Joined_lamps pm_Joined_lamps an_Joined_lamps cd_Joined_lamps ct_Joined_lamps), sl_Joined_lamps⟩)
    (c_Joined_lamps : PySem.W.codeIn K cd_Joined_lamps "Joined.lamps" = true)
    (k_Joined_lamps : PySem.W.keepIn K (.ref f_Joined_lamps) = true)
    (i_Joined_lamps : PySem.W.isFn K (.ref f_Joined_lamps) = true)
    (l_Joined_shown : K.lookup f_Joined_shown = some ⟨oc_Joined_shown, od_Joined_shown, .func (PySem.W.fnOf "shown" "Joined.shown" (defArgs s_Joined_shown) (defBody s_Joined_shown) (defScope s_Joined_shown) .none kV_Joined_shown dc_Joined_shown pm_Joined_shown an_Joined_shown cd_Joined_shown ct_Joined_shown), sl_Joined_shown⟩)
    (c_Joined_shown : PySem.W.codeIn K cd_Joined_shown "Joined.shown" = true)
    (k_Joined_shown : PySem.W.keepIn K (.ref f_Joined_shown) = true)
    (i_Joined_shown : PySem.W.isFn K (.ref f_Joined_shown) = true)
    (l_And_looseness : K.lookup f_And_looseness = some ⟨oc_And_looseness, od_And_looseness, .func (PySem.W.fnOf "looseness" "And.looseness" (defArgs s_And_looseness) (defBody s_And_looseness) (defScope s_And_looseness) .none kV_And_looseness dc_And_looseness pm_And_looseness an_And_looseness cd_And_looseness ct_And_looseness), sl_And_looseness⟩)
    (c_And_looseness : PySem.W.codeIn K cd_And_looseness "And.looseness" = true)
    (k_And_looseness : PySem.W.keepIn K (.ref f_And_looseness) = true)
    (i_And_looseness : PySem.W.isFn K (.ref f_And_looseness) = true)
    (l_And_between : K.lookup f_And_between = some ⟨oc_And_between, od_And_between, .func (PySem.W.fnOf "between" "And.between" (defArgs s_And_between) (defBody s_And_between) (defScope s_And_between) .none kV_And_between dc_And_between pm_And_between an_And_between cd_And_between ct_And_between), sl_And_between⟩)
    (c_And_between : PySem.W.codeIn K cd_And_between "And.between" = true)
    (k_And_between : PySem.W.keepIn K (.ref f_And_between) = true)
    (i_And_between : PySem.W.isFn K (.ref f_And_between) = true)
    (l_And_holds : K.lookup f_And_holds = some ⟨oc_And_holds, od_And_holds, .func (PySem.W.fnOf "holds" "And.holds" (defArgs s_And_holds) (defBody s_And_holds) (defScope s_And_holds) .none kV_And_holds dc_And_holds pm_And_holds an_And_holds cd_And_holds ct_And_holds), sl_And_holds⟩)
    (c_And_holds : PySem.W.codeIn K cd_And_holds "And.holds" = true)
    (k_And_holds : PySem.W.keepIn K (.ref f_And_holds) = true)
    (i_And_holds : PySem.W.isFn K (.ref f_And_holds) = true)
    (l_And_crowd : K.lookup f_And_crowd = some ⟨oc_And_crowd, od_And_crowd, .func (PySem.W.fnOf "crowd" "And.crowd" (defArgs s_And_crowd) (defBody s_And_crowd) (defScope s_And_crowd) .none kV_And_crowd dc_And_crowd pm_And_crowd an_And_crowd cd_And_crowd ct_And_crowd), sl_And_crowd⟩)
    (c_And_crowd : PySem.W.codeIn K cd_And_crowd "And.crowd" = true)
    (k_And_crowd : PySem.W.keepIn K (.ref f_And_crowd) = true)
    (i_And_crowd : PySem.W.isFn K (.ref f_And_crowd) = true)
    (l_Or_looseness : K.lookup f_Or_looseness = some ⟨oc_Or_looseness, od_Or_looseness, .func (PySem.W.fnOf "looseness" "Or.looseness" (defArgs s_Or_looseness) (defBody s_Or_looseness) (defScope s_Or_looseness) .none kV_Or_looseness dc_Or_looseness pm_Or_looseness an_Or_looseness cd_Or_looseness ct_Or_looseness), sl_Or_looseness⟩)
    (c_Or_looseness : PySem.W.codeIn K cd_Or_looseness "Or.looseness" = true)
    (k_Or_looseness : PySem.W.keepIn K (.ref f_Or_looseness) = true)
    (i_Or_looseness : PySem.W.isFn K (.ref f_Or_looseness) = true)
    (l_Or_between : K.lookup f_Or_between = some ⟨oc_Or_between, od_Or_between, .func (PySem.W.fnOf "between" "Or.between" (defArgs s_Or_between) (defBody s_Or_between) (defScope s_Or_between) .none kV_Or_between dc_Or_between pm_Or_between an_Or_between cd_Or_between ct_Or_between), sl_Or_between⟩)
    (c_Or_between : PySem.W.codeIn K cd_Or_between "Or.between" = true)
    (k_Or_between : PySem.W.keepIn K (.ref f_Or_between) = true)
    (i_Or_between : PySem.W.isFn K (.ref f_Or_between) = true)
    (l_Or_holds : K.lookup f_Or_holds = some ⟨oc_Or_holds, od_Or_holds, .func (PySem.W.fnOf "holds" "Or.holds" (defArgs s_Or_holds) (defBody s_Or_holds) (defScope s_Or_holds) .none kV_Or_holds dc_Or_holds pm_Or_holds an_Or_holds cd_Or_holds ct_Or_holds), sl_Or_holds⟩)
    (c_Or_holds : PySem.W.codeIn K cd_Or_holds "Or.holds" = true)
    (k_Or_holds : PySem.W.keepIn K (.ref f_Or_holds) = true)
    (i_Or_holds : PySem.W.isFn K (.ref f_Or_holds) = true)
    (l_Or_crowd : K.lookup f_Or_crowd = some ⟨oc_Or_crowd, od_Or_crowd, .func (PySem.W.fnOf "crowd" "Or.crowd" (defArgs s_Or_crowd) (defBody s_Or_crowd) (defScope s_Or_crowd) .none kV_Or_crowd dc_Or_crowd pm_Or_crowd an_Or_crowd cd_Or_crowd ct_Or_crowd), sl_Or_crowd⟩)
    (c_Or_crowd : PySem.W.codeIn K cd_Or_crowd "Or.crowd" = true)
    (k_Or_crowd : PySem.W.keepIn K (.ref f_Or_crowd) = true)
    (i_Or_crowd : PySem.W.isFn K (.ref f_Or_crowd) = true)
    (pg_Formula : PySem.W.plainGet K C_Formula Str.empty = true)
    (hd_Formula : PySem.W.hasDictIn K C_Formula = true)
    (po_Formula : PySem.W.plainOver K C_Formula = true)
    (sa_Formula : PySem.W.findIn K (.ref C_Formula) "__setattr__" = some (some (.builtin "object.__setattr__")))
    (kc_Formula : PySem.W.keepIn K (.ref C_Formula) = true)
    (ha_Formula : PySem.W.findIn K (.ref C_Formula) "__class__" = some (some (.builtin "object.__class__")))
    (hm_Formula : PySem.W.mroIn K C_Formula (.type "object") = some true)
    (n_Formula_at : PySem.W.findIn K (.ref C_Formula) "at" = some none)
    (n_Formula_truth : PySem.W.findIn K (.ref C_Formula) "truth" = some none)
    (n_Formula_part : PySem.W.findIn K (.ref C_Formula) "part" = some none)
    (n_Formula_parts : PySem.W.findIn K (.ref C_Formula) "parts" = some none)
    (pg_Lamp : PySem.W.plainGet K C_Lamp Str.empty = true)
    (hd_Lamp : PySem.W.hasDictIn K C_Lamp = true)
    (po_Lamp : PySem.W.plainOver K C_Lamp = true)
    (sa_Lamp : PySem.W.findIn K (.ref C_Lamp) "__setattr__" = some (some (.builtin "object.__setattr__")))
    (kc_Lamp : PySem.W.keepIn K (.ref C_Lamp) = true)
    (ha_Lamp : PySem.W.findIn K (.ref C_Lamp) "__class__" = some (some (.builtin "object.__class__")))
    (hm_Lamp : PySem.W.mroIn K C_Lamp (.type "object") = some true)
    (mk_Lamp : PySem.W.makesIn K C_Lamp = true)
    (n_Lamp_at : PySem.W.findIn K (.ref C_Lamp) "at" = some none)
    (n_Lamp_truth : PySem.W.findIn K (.ref C_Lamp) "truth" = some none)
    (n_Lamp_part : PySem.W.findIn K (.ref C_Lamp) "part" = some none)
    (n_Lamp_parts : PySem.W.findIn K (.ref C_Lamp) "parts" = some none)
    (pg_Sure : PySem.W.plainGet K C_Sure Str.empty = true)
    (hd_Sure : PySem.W.hasDictIn K C_Sure = true)
    (po_Sure : PySem.W.plainOver K C_Sure = true)
    (sa_Sure : PySem.W.findIn K (.ref C_Sure) "__setattr__" = some (some (.builtin "object.__setattr__")))
    (kc_Sure : PySem.W.keepIn K (.ref C_Sure) = true)
    (ha_Sure : PySem.W.findIn K (.ref C_Sure) "__class__" = some (some (.builtin "object.__class__")))
    (hm_Sure : PySem.W.mroIn K C_Sure (.type "object") = some true)
    (mk_Sure : PySem.W.makesIn K C_Sure = true)
    (n_Sure_at : PySem.W.findIn K (.ref C_Sure) "at" = some none)
    (n_Sure_truth : PySem.W.findIn K (.ref C_Sure) "truth" = some none)
    (n_Sure_part : PySem.W.findIn K (.ref C_Sure) "part" = some none)
    (n_Sure_parts : PySem.W.findIn K (.ref C_Sure) "parts" = some none)
    (pg_Not : PySem.W.plainGet K C_Not Str.empty = true)
    (hd_Not : PySem.W.hasDictIn K C_Not = true)
    (po_Not : PySem.W.plainOver K C_Not = true)
    (sa_Not : PySem.W.findIn K (.ref C_Not) "__setattr__" = some (some (.builtin "object.__setattr__")))
    (kc_Not : PySem.W.keepIn K (.ref C_Not) = true)
    (ha_Not : PySem.W.findIn K (.ref C_Not) "__class__" = some (some (.builtin "object.__class__")))
    (hm_Not : PySem.W.mroIn K C_Not (.type "object") = some true)
    (mk_Not : PySem.W.makesIn K C_Not = true)
    (n_Not_at : PySem.W.findIn K (.ref C_Not) "at" = some none)
    (n_Not_truth : PySem.W.findIn K (.ref C_Not) "truth" = some none)
    (n_Not_part : PySem.W.findIn K (.ref C_Not) "part" = some none)
    (n_Not_parts : PySem.W.findIn K (.ref C_Not) "parts" = some none)
    (pg_Joined : PySem.W.plainGet K C_Joined Str.empty = true)
    (hd_Joined : PySem.W.hasDictIn K C_Joined = true)
    (po_Joined : PySem.W.plainOver K C_Joined = true)
    (sa_Joined : PySem.W.findIn K (.ref C_Joined) "__setattr__" = some (some (.builtin "object.__setattr__")))
    (kc_Joined : PySem.W.keepIn K (.ref C_Joined) = true)
    (ha_Joined : PySem.W.findIn K (.ref C_Joined) "__class__" = some (some (.builtin "object.__class__")))
    (hm_Joined : PySem.W.mroIn K C_Joined (.type "object") = some true)
    (mk_Joined : PySem.W.makesIn K C_Joined = true)
    (n_Joined_at : PySem.W.findIn K (.ref C_Joined) "at" = some none)
    (n_Joined_truth : PySem.W.findIn K (.ref C_Joined) "truth" = some none)
    (n_Joined_part : PySem.W.findIn K (.ref C_Joined) "part" = some none)
    (n_Joined_parts : PySem.W.findIn K (.ref C_Joined) "parts" = some none)
    (pg_And : PySem.W.plainGet K C_And Str.empty = true)
    (hd_And : PySem.W.hasDictIn K C_And = true)
    (po_And : PySem.W.plainOver K C_And = true)
    (sa_And : PySem.W.findIn K (.ref C_And) "__setattr__" = some (some (.builtin "object.__setattr__")))
    (kc_And : PySem.W.keepIn K (.ref C_And) = true)
    (ha_And : PySem.W.findIn K (.ref C_And) "__class__" = some (some (.builtin "object.__class__")))
    (hm_And : PySem.W.mroIn K C_And (.type "object") = some true)
    (mk_And : PySem.W.makesIn K C_And = true)
    (n_And_at : PySem.W.findIn K (.ref C_And) "at" = some none)
    (n_And_truth : PySem.W.findIn K (.ref C_And) "truth" = some none)
    (n_And_part : PySem.W.findIn K (.ref C_And) "part" = some none)
    (n_And_parts : PySem.W.findIn K (.ref C_And) "parts" = some none)
    (pg_Or : PySem.W.plainGet K C_Or Str.empty = true)
    (hd_Or : PySem.W.hasDictIn K C_Or = true)
    (po_Or : PySem.W.plainOver K C_Or = true)
    (sa_Or : PySem.W.findIn K (.ref C_Or) "__setattr__" = some (some (.builtin "object.__setattr__")))
    (kc_Or : PySem.W.keepIn K (.ref C_Or) = true)
    (ha_Or : PySem.W.findIn K (.ref C_Or) "__class__" = some (some (.builtin "object.__class__")))
    (hm_Or : PySem.W.mroIn K C_Or (.type "object") = some true)
    (mk_Or : PySem.W.makesIn K C_Or = true)
    (n_Or_at : PySem.W.findIn K (.ref C_Or) "at" = some none)
    (n_Or_truth : PySem.W.findIn K (.ref C_Or) "truth" = some none)
    (n_Or_part : PySem.W.findIn K (.ref C_Or) "part" = some none)
    (n_Or_parts : PySem.W.findIn K (.ref C_Or) "parts" = some none)
    (nd_ : [C_Formula, C_Lamp, C_Sure, C_Not, C_Joined, C_And, C_Or].Nodup)
    (hn_ : PySem.W.specialIn K (.builtin "object.__class__") "__get__" = some (some (.builtin "getset_descriptor.__get__")))
    (htk_ : PySem.W.takesIn K (.builtin "object.__class__") = some true)
    (ic_Not : PySem.W.isClsIn K C_Not = true)
    (ty_Not : PySem.W.typeIn K (.ref C_Not) = some (.type "type"))
    (s_Formula_Not : PySem.W.subIn K (.ref C_Formula) (.ref C_Not) = some false)
    (s_Lamp_Not : PySem.W.subIn K (.ref C_Lamp) (.ref C_Not) = some false)
    (s_Sure_Not : PySem.W.subIn K (.ref C_Sure) (.ref C_Not) = some false)
    (s_Joined_Not : PySem.W.subIn K (.ref C_Joined) (.ref C_Not) = some false)
    (s_And_Not : PySem.W.subIn K (.ref C_And) (.ref C_Not) = some false)
    (s_Or_Not : PySem.W.subIn K (.ref C_Or) (.ref C_Not) = some false)
    (s_none_Not : PySem.W.subIn K (.type "NoneType") (.ref C_Not) = some false)
    (ic_And : PySem.W.isClsIn K C_And = true)
    (ty_And : PySem.W.typeIn K (.ref C_And) = some (.type "type"))
    (s_Formula_And : PySem.W.subIn K (.ref C_Formula) (.ref C_And) = some false)
    (s_Lamp_And : PySem.W.subIn K (.ref C_Lamp) (.ref C_And) = some false)
    (s_Sure_And : PySem.W.subIn K (.ref C_Sure) (.ref C_And) = some false)
    (s_Not_And : PySem.W.subIn K (.ref C_Not) (.ref C_And) = some false)
    (s_Joined_And : PySem.W.subIn K (.ref C_Joined) (.ref C_And) = some false)
    (s_Or_And : PySem.W.subIn K (.ref C_Or) (.ref C_And) = some false)
    (s_none_And : PySem.W.subIn K (.type "NoneType") (.ref C_And) = some false)
    (ic_Sure : PySem.W.isClsIn K C_Sure = true)
    (ty_Sure : PySem.W.typeIn K (.ref C_Sure) = some (.type "type"))
    (s_Formula_Sure : PySem.W.subIn K (.ref C_Formula) (.ref C_Sure) = some false)
    (s_Lamp_Sure : PySem.W.subIn K (.ref C_Lamp) (.ref C_Sure) = some false)
    (s_Not_Sure : PySem.W.subIn K (.ref C_Not) (.ref C_Sure) = some false)
    (s_Joined_Sure : PySem.W.subIn K (.ref C_Joined) (.ref C_Sure) = some false)
    (s_And_Sure : PySem.W.subIn K (.ref C_And) (.ref C_Sure) = some false)
    (s_Or_Sure : PySem.W.subIn K (.ref C_Or) (.ref C_Sure) = some false)
    (s_none_Sure : PySem.W.subIn K (.type "NoneType") (.ref C_Sure) = some false)
    (ic_Or : PySem.W.isClsIn K C_Or = true)
    (ty_Or : PySem.W.typeIn K (.ref C_Or) = some (.type "type"))
    (s_Formula_Or : PySem.W.subIn K (.ref C_Formula) (.ref C_Or) = some false)
    (s_Lamp_Or : PySem.W.subIn K (.ref C_Lamp) (.ref C_Or) = some false)
    (s_Sure_Or : PySem.W.subIn K (.ref C_Sure) (.ref C_Or) = some false)
    (s_Not_Or : PySem.W.subIn K (.ref C_Not) (.ref C_Or) = some false)
    (s_Joined_Or : PySem.W.subIn K (.ref C_Joined) (.ref C_Or) = some false)
    (s_And_Or : PySem.W.subIn K (.ref C_And) (.ref C_Or) = some false)
    (s_none_Or : PySem.W.subIn K (.type "NoneType") (.ref C_Or) = some false)
    (ic_Lamp : PySem.W.isClsIn K C_Lamp = true)
    (ty_Lamp : PySem.W.typeIn K (.ref C_Lamp) = some (.type "type"))
    (s_Formula_Lamp : PySem.W.subIn K (.ref C_Formula) (.ref C_Lamp) = some false)
    (s_Sure_Lamp : PySem.W.subIn K (.ref C_Sure) (.ref C_Lamp) = some false)
    (s_Not_Lamp : PySem.W.subIn K (.ref C_Not) (.ref C_Lamp) = some false)
    (s_Joined_Lamp : PySem.W.subIn K (.ref C_Joined) (.ref C_Lamp) = some false)
    (s_And_Lamp : PySem.W.subIn K (.ref C_And) (.ref C_Lamp) = some false)
    (s_Or_Lamp : PySem.W.subIn K (.ref C_Or) (.ref C_Lamp) = some false)
    (s_none_Lamp : PySem.W.subIn K (.type "NoneType") (.ref C_Lamp) = some false)
    (ic_Formula : PySem.W.isClsIn K C_Formula = true)
    (ty_Formula : PySem.W.typeIn K (.ref C_Formula) = some (.type "type"))
    (s_Lamp_Formula : PySem.W.subIn K (.ref C_Lamp) (.ref C_Formula) = some true)
    (s_Sure_Formula : PySem.W.subIn K (.ref C_Sure) (.ref C_Formula) = some true)
    (s_Not_Formula : PySem.W.subIn K (.ref C_Not) (.ref C_Formula) = some true)
    (s_Joined_Formula : PySem.W.subIn K (.ref C_Joined) (.ref C_Formula) = some true)
    (s_And_Formula : PySem.W.subIn K (.ref C_And) (.ref C_Formula) = some true)
    (s_Or_Formula : PySem.W.subIn K (.ref C_Or) (.ref C_Formula) = some true)
    (s_none_Formula : PySem.W.subIn K (.type "NoneType") (.ref C_Formula) = some false)
    (b_len : PySem.W.nsIn K mainGlobals "len" = some none)
    (b_range : PySem.W.nsIn K mainGlobals "range" = some none)
    (b_isinstance : PySem.W.nsIn K mainGlobals "isinstance" = some none)
    (b_int : PySem.W.nsIn K mainGlobals "int" = some none)
    (b_bool : PySem.W.nsIn K mainGlobals "bool" = some none)
    (b_str : PySem.W.nsIn K mainGlobals "str" = some none)
    (b_list : PySem.W.nsIn K mainGlobals "list" = some none)
    (b_tuple : PySem.W.nsIn K mainGlobals "tuple" = some none)
    (b_dict : PySem.W.nsIn K mainGlobals "dict" = some none)
    (b_set : PySem.W.nsIn K mainGlobals "set" = some none)
    (b_sorted : PySem.W.nsIn K mainGlobals "sorted" = some none)
    (b_max : PySem.W.nsIn K mainGlobals "max" = some none)
    (b_min : PySem.W.nsIn K mainGlobals "min" = some none)
    (b_sum : PySem.W.nsIn K mainGlobals "sum" = some none)
    (b_any : PySem.W.nsIn K mainGlobals "any" = some none)
    (b_all : PySem.W.nsIn K mainGlobals "all" = some none)
    (b_abs : PySem.W.nsIn K mainGlobals "abs" = some none)
    (b_reversed : PySem.W.nsIn K mainGlobals "reversed" = some none)
    (b_enumerate : PySem.W.nsIn K mainGlobals "enumerate" = some none)
    (b_zip : PySem.W.nsIn K mainGlobals "zip" = some none)
    : ∃ t : Ad, Txt K mg t := by
  refine ⟨⟨f_all_stands, PySem.W.fnOf "all_stands" "all_stands" (defArgs s_all_stands) (defBody s_all_stands) (defScope s_all_stands) .none kV_all_stands dc_all_stands pm_all_stands an_all_stands cd_all_stands ct_all_stands, f_asked_by, PySem.W.fnOf "asked_by" "asked_by" (defArgs s_asked_by) (defBody s_asked_by) (defScope s_asked_by) .none kV_asked_by dc_asked_by pm_asked_by an_asked_by cd_asked_by ct_asked_by, f_bracketed, PySem.W.fnOf "bracketed" "bracketed" (defArgs s_bracketed) (defBody s_bracketed) (defScope s_bracketed) .none kV_bracketed dc_bracketed pm_bracketed an_bracketed cd_bracketed ct_bracketed, f_formula_outside, PySem.W.fnOf "formula_outside" "formula_outside" (defArgs s_formula_outside) (defBody s_formula_outside) (defScope s_formula_outside) .none kV_formula_outside dc_formula_outside pm_formula_outside an_formula_outside cd_formula_outside ct_formula_outside, f_formula_of, PySem.W.fnOf "formula_of" "formula_of" (defArgs s_formula_of) (defBody s_formula_of) (defScope s_formula_of) .none kV_formula_of dc_formula_of pm_formula_of an_formula_of cd_formula_of ct_formula_of, f__law_cell_at, PySem.W.fnOf "_law_cell_at" "_law_cell_at" (defArgs s__law_cell_at) (defBody s__law_cell_at) (defScope s__law_cell_at) .none kV__law_cell_at dc__law_cell_at pm__law_cell_at an__law_cell_at cd__law_cell_at ct__law_cell_at, f__law_names, PySem.W.fnOf "_law_names" "_law_names" (defArgs s__law_names) (defBody s__law_names) (defScope s__law_names) .none kV__law_names dc__law_names pm__law_names an__law_names cd__law_names ct__law_names, f__law_bar_text, PySem.W.fnOf "_law_bar_text" "_law_bar_text" (defArgs s__law_bar_text) (defBody s__law_bar_text) (defScope s__law_bar_text) .none kV__law_bar_text dc__law_bar_text pm__law_bar_text an__law_bar_text cd__law_bar_text ct__law_bar_text, f__law_text, PySem.W.fnOf "_law_text" "_law_text" (defArgs s__law_text) (defBody s__law_text) (defScope s__law_text) .none kV__law_text dc__law_text pm__law_text an__law_text cd__law_text ct__law_text, f__law_outside, PySem.W.fnOf "_law_outside" "_law_outside" (defArgs s__law_outside) (defBody s__law_outside) (defScope s__law_outside) .none kV__law_outside dc__law_outside pm__law_outside an__law_outside cd__law_outside ct__law_outside, f__law_of_class, PySem.W.fnOf "_law_of_class" "_law_of_class" (defArgs s__law_of_class) (defBody s__law_of_class) (defScope s__law_of_class) .none kV__law_of_class dc__law_of_class pm__law_of_class an__law_of_class cd__law_of_class ct__law_of_class, f__law_counted, PySem.W.fnOf "_law_counted" "_law_counted" (defArgs s__law_counted) (defBody s__law_counted) (defScope s__law_counted) .none kV__law_counted dc__law_counted pm__law_counted an__law_counted cd__law_counted ct__law_counted, f_law, PySem.W.fnOf "law" "law" (defArgs s_law) (defBody s_law) (defScope s_law) .none kV_law dc_law pm_law an_law cd_law ct_law, f_Formula_looseness, PySem.W.fnOf "looseness" "Formula.looseness" (defArgs s_Formula_looseness) (defBody s_Formula_looseness) (defScope s_Formula_looseness) .none kV_Formula_looseness dc_Formula_looseness pm_Formula_looseness an_Formula_looseness cd_Formula_looseness ct_Formula_looseness, f_Lamp_init, PySem.W.fnOf "__init__" "Lamp.__init__" (defArgs s_Lamp_init) (defBody s_Lamp_init) (defScope s_Lamp_init) .none kV_Lamp_init dc_Lamp_init pm_Lamp_init an_Lamp_init cd_Lamp_init ct_Lamp_init, f_Lamp_holds, PySem.W.fnOf "holds" "Lamp.holds" (defArgs s_Lamp_holds) (defBody s_Lamp_holds) (defScope s_Lamp_holds) .none kV_Lamp_holds dc_Lamp_holds pm_Lamp_holds an_Lamp_holds cd_Lamp_holds ct_Lamp_holds, f_Lamp_crowd, PySem.W.fnOf "crowd" "Lamp.crowd" (defArgs s_Lamp_crowd) (defBody s_Lamp_crowd) (defScope s_Lamp_crowd) .none kV_Lamp_crowd dc_Lamp_crowd pm_Lamp_crowd an_Lamp_crowd cd_Lamp_crowd ct_Lamp_crowd, f_Lamp_lamps, PySem.W.fnOf "lamps" "Lamp.lamps" (defArgs s_Lamp_lamps) (defBody s_Lamp_lamps) (defScope s_Lamp_lamps) .none kV_Lamp_lamps dc_Lamp_lamps pm_Lamp_lamps an_Lamp_lamps cd_Lamp_lamps ct_Lamp_lamps, f_Lamp_shown, PySem.W.fnOf "shown" "Lamp.shown" (defArgs s_Lamp_shown) (defBody s_Lamp_shown) (defScope s_Lamp_shown) .none kV_Lamp_shown dc_Lamp_shown pm_Lamp_shown an_Lamp_shown cd_Lamp_shown ct_Lamp_shown, f_Sure_init, PySem.W.fnOf "__init__" "Sure.__init__" (defArgs s_Sure_init) (defBody s_Sure_init) (defScope s_Sure_init) .none kV_Sure_init dc_Sure_init pm_Sure_init an_Sure_init cd_Sure_init ct_Sure_init, f_Sure_holds, PySem.W.fnOf "holds" "Sure.holds" (defArgs s_Sure_holds) (defBody s_Sure_holds) (defScope s_Sure_holds) .none kV_Sure_holds dc_Sure_holds pm_Sure_holds an_Sure_holds cd_Sure_holds ct_Sure_holds, f_Sure_crowd, PySem.W.fnOf "crowd" "Sure.crowd" (defArgs s_Sure_crowd) (defBody s_Sure_crowd) (defScope s_Sure_crowd) .none kV_Sure_crowd dc_Sure_crowd pm_Sure_crowd an_Sure_crowd cd_Sure_crowd ct_Sure_crowd, f_Sure_lamps, PySem.W.fnOf "lamps" "Sure.lamps" (defArgs s_Sure_lamps) (defBody s_Sure_lamps) (defScope s_Sure_lamps) .none kV_Sure_lamps dc_Sure_lamps pm_Sure_lamps an_Sure_lamps cd_Sure_lamps ct_Sure_lamps, f_Sure_shown, PySem.W.fnOf "shown" "Sure.shown" (defArgs s_Sure_shown) (defBody s_Sure_shown) (defScope s_Sure_shown) .none kV_Sure_shown dc_Sure_shown pm_Sure_shown an_Sure_shown cd_Sure_shown ct_Sure_shown, f_Not_init, PySem.W.fnOf "__init__" "Not.__init__" (defArgs s_Not_init) (defBody s_Not_init) (defScope s_Not_init) .none kV_Not_init dc_Not_init pm_Not_init an_Not_init cd_Not_init ct_Not_init, f_Not_holds, PySem.W.fnOf "holds" "Not.holds" (defArgs s_Not_holds) (defBody s_Not_holds) (defScope s_Not_holds) .none kV_Not_holds dc_Not_holds pm_Not_holds an_Not_holds cd_Not_holds ct_Not_holds, f_Not_crowd, PySem.W.fnOf "crowd" "Not.crowd" (defArgs s_Not_crowd) (defBody s_Not_crowd) (defScope s_Not_crowd) .none kV_Not_crowd dc_Not_crowd pm_Not_crowd an_Not_crowd cd_Not_crowd ct_Not_crowd, f_Not_lamps, PySem.W.fnOf "lamps" "Not.lamps" (defArgs s_Not_lamps) (defBody s_Not_lamps) (defScope s_Not_lamps) .none kV_Not_lamps dc_Not_lamps pm_Not_lamps an_Not_lamps cd_Not_lamps ct_Not_lamps, f_Not_shown, PySem.W.fnOf "shown" "Not.shown" (defArgs s_Not_shown) (defBody s_Not_shown) (defScope s_Not_shown) .none kV_Not_shown dc_Not_shown pm_Not_shown an_Not_shown cd_Not_shown ct_Not_shown, f_Joined_init, PySem.W.fnOf "__init__" "Joined.__init__" (defArgs s_Joined_init) (defBody s_Joined_init) (defScope s_Joined_init) .none kV_Joined_init dc_Joined_init pm_Joined_init an_Joined_init cd_Joined_init ct_Joined_init, f_Joined_lamps, PySem.W.fnOf "lamps" "Joined.lamps" (defArgs s_Joined_lamps) (defBody s_Joined_lamps) (defScope s_Joined_lamps) .none kV_Joined_lamps dc_Joined_lamps pm_Joined_lamps an_Joined_lamps cd_Joined_lamps ct_Joined_lamps, f_Joined_shown, PySem.W.fnOf "shown" "Joined.shown" (defArgs s_Joined_shown) (defBody s_Joined_shown) (defScope s_Joined_shown) .none kV_Joined_shown dc_Joined_shown pm_Joined_shown an_Joined_shown cd_Joined_shown ct_Joined_shown, f_And_looseness, PySem.W.fnOf "looseness" "And.looseness" (defArgs s_And_looseness) (defBody s_And_looseness) (defScope s_And_looseness) .none kV_And_looseness dc_And_looseness pm_And_looseness an_And_looseness cd_And_looseness ct_And_looseness, f_And_between, PySem.W.fnOf "between" "And.between" (defArgs s_And_between) (defBody s_And_between) (defScope s_And_between) .none kV_And_between dc_And_between pm_And_between an_And_between cd_And_between ct_And_between, f_And_holds, PySem.W.fnOf "holds" "And.holds" (defArgs s_And_holds) (defBody s_And_holds) (defScope s_And_holds) .none kV_And_holds dc_And_holds pm_And_holds an_And_holds cd_And_holds ct_And_holds, f_And_crowd, PySem.W.fnOf "crowd" "And.crowd" (defArgs s_And_crowd) (defBody s_And_crowd) (defScope s_And_crowd) .none kV_And_crowd dc_And_crowd pm_And_crowd an_And_crowd cd_And_crowd ct_And_crowd, f_Or_looseness, PySem.W.fnOf "looseness" "Or.looseness" (defArgs s_Or_looseness) (defBody s_Or_looseness) (defScope s_Or_looseness) .none kV_Or_looseness dc_Or_looseness pm_Or_looseness an_Or_looseness cd_Or_looseness ct_Or_looseness, f_Or_between, PySem.W.fnOf "between" "Or.between" (defArgs s_Or_between) (defBody s_Or_between) (defScope s_Or_between) .none kV_Or_between dc_Or_between pm_Or_between an_Or_between cd_Or_between ct_Or_between, f_Or_holds, PySem.W.fnOf "holds" "Or.holds" (defArgs s_Or_holds) (defBody s_Or_holds) (defScope s_Or_holds) .none kV_Or_holds dc_Or_holds pm_Or_holds an_Or_holds cd_Or_holds ct_Or_holds, f_Or_crowd, PySem.W.fnOf "crowd" "Or.crowd" (defArgs s_Or_crowd) (defBody s_Or_crowd) (defScope s_Or_crowd) .none kV_Or_crowd dc_Or_crowd pm_Or_crowd an_Or_crowd cd_Or_crowd ct_Or_crowd, C_Formula, C_Lamp, C_Sure, C_Not, C_Joined, C_And, C_Or⟩, ?_⟩
  exact {
    F_all_stands := fun_mk (st := s_all_stands) l_all_stands c_all_stands k_all_stands,
    b_all_stands := (fun_mk (st := s_all_stands) l_all_stands c_all_stands k_all_stands).binds (ps := ["many"]) fun _ _ _ _ _ _ us hl => match us, hl with | [_], _ => rfl,
    m_all_stands := PySem.W.mg_of X G a_all_stands,
    F_asked_by := fun_mk (st := s_asked_by) l_asked_by c_asked_by k_asked_by,
    b_asked_by := (fun_mk (st := s_asked_by) l_asked_by c_asked_by k_asked_by).binds (ps := ["bar"]) fun _ _ _ _ _ _ us hl => match us, hl with | [_], _ => rfl,
    m_asked_by := PySem.W.mg_of X G a_asked_by,
    F_bracketed := fun_mk (st := s_bracketed) l_bracketed c_bracketed k_bracketed,
    b_bracketed := (fun_mk (st := s_bracketed) l_bracketed c_bracketed k_bracketed).binds (ps := ["part", "text", "bound"]) fun _ _ _ _ _ _ us hl => match us, hl with | [_, _, _], _ => rfl,
    m_bracketed := PySem.W.mg_of X G a_bracketed,
    F_formula_outside := fun_mk (st := s_formula_outside) l_formula_outside c_formula_outside k_formula_outside,
    b_formula_outside := (fun_mk (st := s_formula_outside) l_formula_outside c_formula_outside k_formula_outside).binds (ps := ["bar"]) fun _ _ _ _ _ _ us hl => match us, hl with | [_], _ => rfl,
    m_formula_outside := PySem.W.mg_of X G a_formula_outside,
    F_formula_of := fun_mk (st := s_formula_of) l_formula_of c_formula_of k_formula_of,
    b_formula_of := (fun_mk (st := s_formula_of) l_formula_of c_formula_of k_formula_of).binds (ps := ["bars"]) fun _ _ _ _ _ _ us hl => match us, hl with | [_], _ => rfl,
    m_formula_of := PySem.W.mg_of X G a_formula_of,
    F__law_cell_at := fun_mk (st := s__law_cell_at) l__law_cell_at c__law_cell_at k__law_cell_at,
    b__law_cell_at := (fun_mk (st := s__law_cell_at) l__law_cell_at c__law_cell_at k__law_cell_at).binds (ps := ["_law_script", "_law_k"]) fun _ _ _ _ _ _ us hl => match us, hl with | [_, _], _ => rfl,
    m__law_cell_at := PySem.W.mg_of X G a__law_cell_at,
    F__law_names := fun_mk (st := s__law_names) l__law_names c__law_names k__law_names,
    b__law_names := (fun_mk (st := s__law_names) l__law_names c__law_names k__law_names).binds (ps := ["_law_cell"]) fun _ _ _ _ _ _ us hl => match us, hl with | [_], _ => rfl,
    m__law_names := PySem.W.mg_of X G a__law_names,
    F__law_bar_text := fun_mk (st := s__law_bar_text) l__law_bar_text c__law_bar_text k__law_bar_text,
    b__law_bar_text := (fun_mk (st := s__law_bar_text) l__law_bar_text c__law_bar_text k__law_bar_text).binds (ps := ["_law_bar", "_law_names_here"]) fun _ _ _ _ _ _ us hl => match us, hl with | [_, _], _ => rfl,
    m__law_bar_text := PySem.W.mg_of X G a__law_bar_text,
    F__law_text := fun_mk (st := s__law_text) l__law_text c__law_text k__law_text,
    b__law_text := (fun_mk (st := s__law_text) l__law_text c__law_text k__law_text).binds (ps := ["_law_bars", "_law_names_here"]) fun _ _ _ _ _ _ us hl => match us, hl with | [_, _], _ => rfl,
    m__law_text := PySem.W.mg_of X G a__law_text,
    F__law_outside := fun_mk (st := s__law_outside) l__law_outside c__law_outside k__law_outside,
    b__law_outside := (fun_mk (st := s__law_outside) l__law_outside c__law_outside k__law_outside).binds (ps := ["_law_stand", "_law_bars"]) fun _ _ _ _ _ _ us hl => match us, hl with | [_, _], _ => rfl,
    m__law_outside := PySem.W.mg_of X G a__law_outside,
    F__law_of_class := fun_mk (st := s__law_of_class) l__law_of_class c__law_of_class k__law_of_class,
    b__law_of_class := (fun_mk (st := s__law_of_class) l__law_of_class c__law_of_class k__law_of_class).binds (ps := ["_law_formula", "_law_bars"]) fun _ _ _ _ _ _ us hl => match us, hl with | [_, _], _ => rfl,
    m__law_of_class := PySem.W.mg_of X G a__law_of_class,
    F__law_counted := fun_mk (st := s__law_counted) l__law_counted c__law_counted k__law_counted,
    b__law_counted := (fun_mk (st := s__law_counted) l__law_counted c__law_counted k__law_counted).binds (ps := ["_law_formula", "_law_bars", "_law_many"]) fun _ _ _ _ _ _ us hl => match us, hl with | [_, _, _], _ => rfl,
    m__law_counted := PySem.W.mg_of X G a__law_counted,
    F_law := fun_mk (st := s_law) l_law c_law k_law,
    b_law := (fun_mk (st := s_law) l_law c_law k_law).binds (ps := ["_law_script"]) fun _ _ _ _ _ _ us hl => match us, hl with | [_], _ => rfl,
    m_law := PySem.W.mg_of X G a_law,
    F_Formula_looseness := fun_mk (st := s_Formula_looseness) l_Formula_looseness c_Formula_looseness k_Formula_looseness,
    b_Formula_looseness := (fun_mk (st := s_Formula_looseness) l_Formula_looseness c_Formula_looseness k_Formula_looseness).binds (ps := ["self"]) fun _ _ _ _ _ _ us hl => match us, hl with | [_], _ => rfl,
    F_Lamp_init := fun_mk (st := s_Lamp_init) l_Lamp_init c_Lamp_init k_Lamp_init,
    b_Lamp_init := (fun_mk (st := s_Lamp_init) l_Lamp_init c_Lamp_init k_Lamp_init).binds (ps := ["self", "at"]) fun _ _ _ _ _ _ us hl => match us, hl with | [_, _], _ => rfl,
    F_Lamp_holds := fun_mk (st := s_Lamp_holds) l_Lamp_holds c_Lamp_holds k_Lamp_holds,
    b_Lamp_holds := (fun_mk (st := s_Lamp_holds) l_Lamp_holds c_Lamp_holds k_Lamp_holds).binds (ps := ["self", "stand"]) fun _ _ _ _ _ _ us hl => match us, hl with | [_, _], _ => rfl,
    F_Lamp_crowd := fun_mk (st := s_Lamp_crowd) l_Lamp_crowd c_Lamp_crowd k_Lamp_crowd,
    b_Lamp_crowd := (fun_mk (st := s_Lamp_crowd) l_Lamp_crowd c_Lamp_crowd k_Lamp_crowd).binds (ps := ["self", "many"]) fun _ _ _ _ _ _ us hl => match us, hl with | [_, _], _ => rfl,
    F_Lamp_lamps := fun_mk (st := s_Lamp_lamps) l_Lamp_lamps c_Lamp_lamps k_Lamp_lamps,
    b_Lamp_lamps := (fun_mk (st := s_Lamp_lamps) l_Lamp_lamps c_Lamp_lamps k_Lamp_lamps).binds (ps := ["self"]) fun _ _ _ _ _ _ us hl => match us, hl with | [_], _ => rfl,
    F_Lamp_shown := fun_mk (st := s_Lamp_shown) l_Lamp_shown c_Lamp_shown k_Lamp_shown,
    b_Lamp_shown := (fun_mk (st := s_Lamp_shown) l_Lamp_shown c_Lamp_shown k_Lamp_shown).binds (ps := ["self", "names"]) fun _ _ _ _ _ _ us hl => match us, hl with | [_, _], _ => rfl,
    F_Sure_init := fun_mk (st := s_Sure_init) l_Sure_init c_Sure_init k_Sure_init,
    b_Sure_init := (fun_mk (st := s_Sure_init) l_Sure_init c_Sure_init k_Sure_init).binds (ps := ["self", "truth"]) fun _ _ _ _ _ _ us hl => match us, hl with | [_, _], _ => rfl,
    F_Sure_holds := fun_mk (st := s_Sure_holds) l_Sure_holds c_Sure_holds k_Sure_holds,
    b_Sure_holds := (fun_mk (st := s_Sure_holds) l_Sure_holds c_Sure_holds k_Sure_holds).binds (ps := ["self", "stand"]) fun _ _ _ _ _ _ us hl => match us, hl with | [_, _], _ => rfl,
    F_Sure_crowd := fun_mk (st := s_Sure_crowd) l_Sure_crowd c_Sure_crowd k_Sure_crowd,
    b_Sure_crowd := (fun_mk (st := s_Sure_crowd) l_Sure_crowd c_Sure_crowd k_Sure_crowd).binds (ps := ["self", "many"]) fun _ _ _ _ _ _ us hl => match us, hl with | [_, _], _ => rfl,
    F_Sure_lamps := fun_mk (st := s_Sure_lamps) l_Sure_lamps c_Sure_lamps k_Sure_lamps,
    b_Sure_lamps := (fun_mk (st := s_Sure_lamps) l_Sure_lamps c_Sure_lamps k_Sure_lamps).binds (ps := ["self"]) fun _ _ _ _ _ _ us hl => match us, hl with | [_], _ => rfl,
    F_Sure_shown := fun_mk (st := s_Sure_shown) l_Sure_shown c_Sure_shown k_Sure_shown,
    b_Sure_shown := (fun_mk (st := s_Sure_shown) l_Sure_shown c_Sure_shown k_Sure_shown).binds (ps := ["self", "names"]) fun _ _ _ _ _ _ us hl => match us, hl with | [_, _], _ => rfl,
    F_Not_init := fun_mk (st := s_Not_init) l_Not_init c_Not_init k_Not_init,
    b_Not_init := (fun_mk (st := s_Not_init) l_Not_init c_Not_init k_Not_init).binds (ps := ["self", "part"]) fun _ _ _ _ _ _ us hl => match us, hl with | [_, _], _ => rfl,
    F_Not_holds := fun_mk (st := s_Not_holds) l_Not_holds c_Not_holds k_Not_holds,
    b_Not_holds := (fun_mk (st := s_Not_holds) l_Not_holds c_Not_holds k_Not_holds).binds (ps := ["self", "stand"]) fun _ _ _ _ _ _ us hl => match us, hl with | [_, _], _ => rfl,
    F_Not_crowd := fun_mk (st := s_Not_crowd) l_Not_crowd c_Not_crowd k_Not_crowd,
    b_Not_crowd := (fun_mk (st := s_Not_crowd) l_Not_crowd c_Not_crowd k_Not_crowd).binds (ps := ["self", "many"]) fun _ _ _ _ _ _ us hl => match us, hl with | [_, _], _ => rfl,
    F_Not_lamps := fun_mk (st := s_Not_lamps) l_Not_lamps c_Not_lamps k_Not_lamps,
    b_Not_lamps := (fun_mk (st := s_Not_lamps) l_Not_lamps c_Not_lamps k_Not_lamps).binds (ps := ["self"]) fun _ _ _ _ _ _ us hl => match us, hl with | [_], _ => rfl,
    F_Not_shown := fun_mk (st := s_Not_shown) l_Not_shown c_Not_shown k_Not_shown,
    b_Not_shown := (fun_mk (st := s_Not_shown) l_Not_shown c_Not_shown k_Not_shown).binds (ps := ["self", "names"]) fun _ _ _ _ _ _ us hl => match us, hl with | [_, _], _ => rfl,
    F_Joined_init := fun_mk (st := s_Joined_init) l_Joined_init c_Joined_init k_Joined_init,
    b_Joined_init := (fun_mk (st := s_Joined_init) l_Joined_init c_Joined_init k_Joined_init).binds (ps := ["self", "parts"]) fun _ _ _ _ _ _ us hl => match us, hl with | [_, _], _ => rfl,
    F_Joined_lamps := fun_mk (st := s_Joined_lamps) l_Joined_lamps c_Joined_lamps k_Joined_lamps,
    b_Joined_lamps := (fun_mk (st := s_Joined_lamps) l_Joined_lamps c_Joined_lamps k_Joined_lamps).binds (ps := ["self"]) fun _ _ _ _ _ _ us hl => match us, hl with | [_], _ => rfl,
    F_Joined_shown := fun_mk (st := s_Joined_shown) l_Joined_shown c_Joined_shown k_Joined_shown,
    b_Joined_shown := (fun_mk (st := s_Joined_shown) l_Joined_shown c_Joined_shown k_Joined_shown).binds (ps := ["self", "names"]) fun _ _ _ _ _ _ us hl => match us, hl with | [_, _], _ => rfl,
    F_And_looseness := fun_mk (st := s_And_looseness) l_And_looseness c_And_looseness k_And_looseness,
    b_And_looseness := (fun_mk (st := s_And_looseness) l_And_looseness c_And_looseness k_And_looseness).binds (ps := ["self"]) fun _ _ _ _ _ _ us hl => match us, hl with | [_], _ => rfl,
    F_And_between := fun_mk (st := s_And_between) l_And_between c_And_between k_And_between,
    b_And_between := (fun_mk (st := s_And_between) l_And_between c_And_between k_And_between).binds (ps := ["self"]) fun _ _ _ _ _ _ us hl => match us, hl with | [_], _ => rfl,
    F_And_holds := fun_mk (st := s_And_holds) l_And_holds c_And_holds k_And_holds,
    b_And_holds := (fun_mk (st := s_And_holds) l_And_holds c_And_holds k_And_holds).binds (ps := ["self", "stand"]) fun _ _ _ _ _ _ us hl => match us, hl with | [_, _], _ => rfl,
    F_And_crowd := fun_mk (st := s_And_crowd) l_And_crowd c_And_crowd k_And_crowd,
    b_And_crowd := (fun_mk (st := s_And_crowd) l_And_crowd c_And_crowd k_And_crowd).binds (ps := ["self", "many"]) fun _ _ _ _ _ _ us hl => match us, hl with | [_, _], _ => rfl,
    F_Or_looseness := fun_mk (st := s_Or_looseness) l_Or_looseness c_Or_looseness k_Or_looseness,
    b_Or_looseness := (fun_mk (st := s_Or_looseness) l_Or_looseness c_Or_looseness k_Or_looseness).binds (ps := ["self"]) fun _ _ _ _ _ _ us hl => match us, hl with | [_], _ => rfl,
    F_Or_between := fun_mk (st := s_Or_between) l_Or_between c_Or_between k_Or_between,
    b_Or_between := (fun_mk (st := s_Or_between) l_Or_between c_Or_between k_Or_between).binds (ps := ["self"]) fun _ _ _ _ _ _ us hl => match us, hl with | [_], _ => rfl,
    F_Or_holds := fun_mk (st := s_Or_holds) l_Or_holds c_Or_holds k_Or_holds,
    b_Or_holds := (fun_mk (st := s_Or_holds) l_Or_holds c_Or_holds k_Or_holds).binds (ps := ["self", "stand"]) fun _ _ _ _ _ _ us hl => match us, hl with | [_, _], _ => rfl,
    F_Or_crowd := fun_mk (st := s_Or_crowd) l_Or_crowd c_Or_crowd k_Or_crowd,
    b_Or_crowd := (fun_mk (st := s_Or_crowd) l_Or_crowd c_Or_crowd k_Or_crowd).binds (ps := ["self", "many"]) fun _ _ _ _ _ _ us hl => match us, hl with | [_, _], _ => rfl,
    m_Formula := PySem.W.mg_of X G a_Formula,
    c_Formula := ⟨pg_Formula, hd_Formula, po_Formula, sa_Formula⟩,
    y_Formula := fun H a dx fs e => TyOf.ins e ⟨pg_Formula, hd_Formula, po_Formula, sa_Formula⟩ ha_Formula hn_ htk_ hm_Formula,
    n_Formula_at := n_Formula_at,
    n_Formula_truth := n_Formula_truth,
    n_Formula_part := n_Formula_part,
    n_Formula_parts := n_Formula_parts,
    h_Formula_looseness := ⟨e_Formula_looseness, i_Formula_looseness, k_Formula_looseness⟩,
    m_Lamp := PySem.W.mg_of X G a_Lamp,
    c_Lamp := ⟨pg_Lamp, hd_Lamp, po_Lamp, sa_Lamp⟩,
    y_Lamp := fun H a dx fs e => TyOf.ins e ⟨pg_Lamp, hd_Lamp, po_Lamp, sa_Lamp⟩ ha_Lamp hn_ htk_ hm_Lamp,
    k_Lamp := ⟨mk_Lamp, e_Lamp_init, i_Lamp_init, kc_Lamp⟩,
    n_Lamp_at := n_Lamp_at,
    n_Lamp_truth := n_Lamp_truth,
    n_Lamp_part := n_Lamp_part,
    n_Lamp_parts := n_Lamp_parts,
    h_Lamp_holds := ⟨e_Lamp_holds, i_Lamp_holds, k_Lamp_holds⟩,
    h_Lamp_crowd := ⟨e_Lamp_crowd, i_Lamp_crowd, k_Lamp_crowd⟩,
    h_Lamp_lamps := ⟨e_Lamp_lamps, i_Lamp_lamps, k_Lamp_lamps⟩,
    h_Lamp_shown := ⟨e_Lamp_shown, i_Lamp_shown, k_Lamp_shown⟩,
    h_Lamp_looseness := ⟨e_Lamp_looseness, i_Formula_looseness, k_Formula_looseness⟩,
    m_Sure := PySem.W.mg_of X G a_Sure,
    c_Sure := ⟨pg_Sure, hd_Sure, po_Sure, sa_Sure⟩,
    y_Sure := fun H a dx fs e => TyOf.ins e ⟨pg_Sure, hd_Sure, po_Sure, sa_Sure⟩ ha_Sure hn_ htk_ hm_Sure,
    k_Sure := ⟨mk_Sure, e_Sure_init, i_Sure_init, kc_Sure⟩,
    n_Sure_at := n_Sure_at,
    n_Sure_truth := n_Sure_truth,
    n_Sure_part := n_Sure_part,
    n_Sure_parts := n_Sure_parts,
    h_Sure_holds := ⟨e_Sure_holds, i_Sure_holds, k_Sure_holds⟩,
    h_Sure_crowd := ⟨e_Sure_crowd, i_Sure_crowd, k_Sure_crowd⟩,
    h_Sure_lamps := ⟨e_Sure_lamps, i_Sure_lamps, k_Sure_lamps⟩,
    h_Sure_shown := ⟨e_Sure_shown, i_Sure_shown, k_Sure_shown⟩,
    h_Sure_looseness := ⟨e_Sure_looseness, i_Formula_looseness, k_Formula_looseness⟩,
    m_Not := PySem.W.mg_of X G a_Not,
    c_Not := ⟨pg_Not, hd_Not, po_Not, sa_Not⟩,
    y_Not := fun H a dx fs e => TyOf.ins e ⟨pg_Not, hd_Not, po_Not, sa_Not⟩ ha_Not hn_ htk_ hm_Not,
    k_Not := ⟨mk_Not, e_Not_init, i_Not_init, kc_Not⟩,
    n_Not_at := n_Not_at,
    n_Not_truth := n_Not_truth,
    n_Not_part := n_Not_part,
    n_Not_parts := n_Not_parts,
    h_Not_holds := ⟨e_Not_holds, i_Not_holds, k_Not_holds⟩,
    h_Not_crowd := ⟨e_Not_crowd, i_Not_crowd, k_Not_crowd⟩,
    h_Not_lamps := ⟨e_Not_lamps, i_Not_lamps, k_Not_lamps⟩,
    h_Not_shown := ⟨e_Not_shown, i_Not_shown, k_Not_shown⟩,
    h_Not_looseness := ⟨e_Not_looseness, i_Formula_looseness, k_Formula_looseness⟩,
    m_Joined := PySem.W.mg_of X G a_Joined,
    c_Joined := ⟨pg_Joined, hd_Joined, po_Joined, sa_Joined⟩,
    y_Joined := fun H a dx fs e => TyOf.ins e ⟨pg_Joined, hd_Joined, po_Joined, sa_Joined⟩ ha_Joined hn_ htk_ hm_Joined,
    k_Joined := ⟨mk_Joined, e_Joined_init, i_Joined_init, kc_Joined⟩,
    n_Joined_at := n_Joined_at,
    n_Joined_truth := n_Joined_truth,
    n_Joined_part := n_Joined_part,
    n_Joined_parts := n_Joined_parts,
    h_Joined_lamps := ⟨e_Joined_lamps, i_Joined_lamps, k_Joined_lamps⟩,
    h_Joined_shown := ⟨e_Joined_shown, i_Joined_shown, k_Joined_shown⟩,
    h_Joined_looseness := ⟨e_Joined_looseness, i_Formula_looseness, k_Formula_looseness⟩,
    m_And := PySem.W.mg_of X G a_And,
    c_And := ⟨pg_And, hd_And, po_And, sa_And⟩,
    y_And := fun H a dx fs e => TyOf.ins e ⟨pg_And, hd_And, po_And, sa_And⟩ ha_And hn_ htk_ hm_And,
    k_And := ⟨mk_And, e_And_init, i_Joined_init, kc_And⟩,
    n_And_at := n_And_at,
    n_And_truth := n_And_truth,
    n_And_part := n_And_part,
    n_And_parts := n_And_parts,
    h_And_looseness := ⟨e_And_looseness, i_And_looseness, k_And_looseness⟩,
    h_And_between := ⟨e_And_between, i_And_between, k_And_between⟩,
    h_And_holds := ⟨e_And_holds, i_And_holds, k_And_holds⟩,
    h_And_crowd := ⟨e_And_crowd, i_And_crowd, k_And_crowd⟩,
    h_And_lamps := ⟨e_And_lamps, i_Joined_lamps, k_Joined_lamps⟩,
    h_And_shown := ⟨e_And_shown, i_Joined_shown, k_Joined_shown⟩,
    m_Or := PySem.W.mg_of X G a_Or,
    c_Or := ⟨pg_Or, hd_Or, po_Or, sa_Or⟩,
    y_Or := fun H a dx fs e => TyOf.ins e ⟨pg_Or, hd_Or, po_Or, sa_Or⟩ ha_Or hn_ htk_ hm_Or,
    k_Or := ⟨mk_Or, e_Or_init, i_Joined_init, kc_Or⟩,
    n_Or_at := n_Or_at,
    n_Or_truth := n_Or_truth,
    n_Or_part := n_Or_part,
    n_Or_parts := n_Or_parts,
    h_Or_looseness := ⟨e_Or_looseness, i_Or_looseness, k_Or_looseness⟩,
    h_Or_between := ⟨e_Or_between, i_Or_between, k_Or_between⟩,
    h_Or_holds := ⟨e_Or_holds, i_Or_holds, k_Or_holds⟩,
    h_Or_crowd := ⟨e_Or_crowd, i_Or_crowd, k_Or_crowd⟩,
    h_Or_lamps := ⟨e_Or_lamps, i_Joined_lamps, k_Joined_lamps⟩,
    h_Or_shown := ⟨e_Or_shown, i_Joined_shown, k_Joined_shown⟩,
    x_Formula_Lamp := nd_ne nd_ (i := 0) (j := 1) rfl rfl (by decide),
    x_Formula_Sure := nd_ne nd_ (i := 0) (j := 2) rfl rfl (by decide),
    x_Formula_Not := nd_ne nd_ (i := 0) (j := 3) rfl rfl (by decide),
    x_Formula_Joined := nd_ne nd_ (i := 0) (j := 4) rfl rfl (by decide),
    x_Formula_And := nd_ne nd_ (i := 0) (j := 5) rfl rfl (by decide),
    x_Formula_Or := nd_ne nd_ (i := 0) (j := 6) rfl rfl (by decide),
    x_Lamp_Sure := nd_ne nd_ (i := 1) (j := 2) rfl rfl (by decide),
    x_Lamp_Not := nd_ne nd_ (i := 1) (j := 3) rfl rfl (by decide),
    x_Lamp_Joined := nd_ne nd_ (i := 1) (j := 4) rfl rfl (by decide),
    x_Lamp_And := nd_ne nd_ (i := 1) (j := 5) rfl rfl (by decide),
    x_Lamp_Or := nd_ne nd_ (i := 1) (j := 6) rfl rfl (by decide),
    x_Sure_Not := nd_ne nd_ (i := 2) (j := 3) rfl rfl (by decide),
    x_Sure_Joined := nd_ne nd_ (i := 2) (j := 4) rfl rfl (by decide),
    x_Sure_And := nd_ne nd_ (i := 2) (j := 5) rfl rfl (by decide),
    x_Sure_Or := nd_ne nd_ (i := 2) (j := 6) rfl rfl (by decide),
    x_Not_Joined := nd_ne nd_ (i := 3) (j := 4) rfl rfl (by decide),
    x_Not_And := nd_ne nd_ (i := 3) (j := 5) rfl rfl (by decide),
    x_Not_Or := nd_ne nd_ (i := 3) (j := 6) rfl rfl (by decide),
    x_Joined_And := nd_ne nd_ (i := 4) (j := 5) rfl rfl (by decide),
    x_Joined_Or := nd_ne nd_ (i := 4) (j := 6) rfl rfl (by decide),
    x_And_Or := nd_ne nd_ (i := 5) (j := 6) rfl rfl (by decide),
    z_Formula_Not := kit_own (fun e => nd_ne nd_ (i := 0) (j := 3) rfl rfl (by decide) (Value.ref.inj e)) ic_Not ty_Not s_Formula_Not,
    z_Lamp_Not := kit_own (fun e => nd_ne nd_ (i := 1) (j := 3) rfl rfl (by decide) (Value.ref.inj e)) ic_Not ty_Not s_Lamp_Not,
    z_Sure_Not := kit_own (fun e => nd_ne nd_ (i := 2) (j := 3) rfl rfl (by decide) (Value.ref.inj e)) ic_Not ty_Not s_Sure_Not,
    z_Joined_Not := kit_own (fun e => nd_ne nd_ (i := 4) (j := 3) rfl rfl (by decide) (Value.ref.inj e)) ic_Not ty_Not s_Joined_Not,
    z_And_Not := kit_own (fun e => nd_ne nd_ (i := 5) (j := 3) rfl rfl (by decide) (Value.ref.inj e)) ic_Not ty_Not s_And_Not,
    z_Or_Not := kit_own (fun e => nd_ne nd_ (i := 6) (j := 3) rfl rfl (by decide) (Value.ref.inj e)) ic_Not ty_Not s_Or_Not,
    z_none_Not := kit_own (fun e => nomatch e) ic_Not ty_Not s_none_Not,
    z_Formula_And := kit_own (fun e => nd_ne nd_ (i := 0) (j := 5) rfl rfl (by decide) (Value.ref.inj e)) ic_And ty_And s_Formula_And,
    z_Lamp_And := kit_own (fun e => nd_ne nd_ (i := 1) (j := 5) rfl rfl (by decide) (Value.ref.inj e)) ic_And ty_And s_Lamp_And,
    z_Sure_And := kit_own (fun e => nd_ne nd_ (i := 2) (j := 5) rfl rfl (by decide) (Value.ref.inj e)) ic_And ty_And s_Sure_And,
    z_Not_And := kit_own (fun e => nd_ne nd_ (i := 3) (j := 5) rfl rfl (by decide) (Value.ref.inj e)) ic_And ty_And s_Not_And,
    z_Joined_And := kit_own (fun e => nd_ne nd_ (i := 4) (j := 5) rfl rfl (by decide) (Value.ref.inj e)) ic_And ty_And s_Joined_And,
    z_Or_And := kit_own (fun e => nd_ne nd_ (i := 6) (j := 5) rfl rfl (by decide) (Value.ref.inj e)) ic_And ty_And s_Or_And,
    z_none_And := kit_own (fun e => nomatch e) ic_And ty_And s_none_And,
    z_Formula_Sure := kit_own (fun e => nd_ne nd_ (i := 0) (j := 2) rfl rfl (by decide) (Value.ref.inj e)) ic_Sure ty_Sure s_Formula_Sure,
    z_Lamp_Sure := kit_own (fun e => nd_ne nd_ (i := 1) (j := 2) rfl rfl (by decide) (Value.ref.inj e)) ic_Sure ty_Sure s_Lamp_Sure,
    z_Not_Sure := kit_own (fun e => nd_ne nd_ (i := 3) (j := 2) rfl rfl (by decide) (Value.ref.inj e)) ic_Sure ty_Sure s_Not_Sure,
    z_Joined_Sure := kit_own (fun e => nd_ne nd_ (i := 4) (j := 2) rfl rfl (by decide) (Value.ref.inj e)) ic_Sure ty_Sure s_Joined_Sure,
    z_And_Sure := kit_own (fun e => nd_ne nd_ (i := 5) (j := 2) rfl rfl (by decide) (Value.ref.inj e)) ic_Sure ty_Sure s_And_Sure,
    z_Or_Sure := kit_own (fun e => nd_ne nd_ (i := 6) (j := 2) rfl rfl (by decide) (Value.ref.inj e)) ic_Sure ty_Sure s_Or_Sure,
    z_none_Sure := kit_own (fun e => nomatch e) ic_Sure ty_Sure s_none_Sure,
    z_Formula_Or := kit_own (fun e => nd_ne nd_ (i := 0) (j := 6) rfl rfl (by decide) (Value.ref.inj e)) ic_Or ty_Or s_Formula_Or,
    z_Lamp_Or := kit_own (fun e => nd_ne nd_ (i := 1) (j := 6) rfl rfl (by decide) (Value.ref.inj e)) ic_Or ty_Or s_Lamp_Or,
    z_Sure_Or := kit_own (fun e => nd_ne nd_ (i := 2) (j := 6) rfl rfl (by decide) (Value.ref.inj e)) ic_Or ty_Or s_Sure_Or,
    z_Not_Or := kit_own (fun e => nd_ne nd_ (i := 3) (j := 6) rfl rfl (by decide) (Value.ref.inj e)) ic_Or ty_Or s_Not_Or,
    z_Joined_Or := kit_own (fun e => nd_ne nd_ (i := 4) (j := 6) rfl rfl (by decide) (Value.ref.inj e)) ic_Or ty_Or s_Joined_Or,
    z_And_Or := kit_own (fun e => nd_ne nd_ (i := 5) (j := 6) rfl rfl (by decide) (Value.ref.inj e)) ic_Or ty_Or s_And_Or,
    z_none_Or := kit_own (fun e => nomatch e) ic_Or ty_Or s_none_Or,
    z_Formula_Lamp := kit_own (fun e => nd_ne nd_ (i := 0) (j := 1) rfl rfl (by decide) (Value.ref.inj e)) ic_Lamp ty_Lamp s_Formula_Lamp,
    z_Sure_Lamp := kit_own (fun e => nd_ne nd_ (i := 2) (j := 1) rfl rfl (by decide) (Value.ref.inj e)) ic_Lamp ty_Lamp s_Sure_Lamp,
    z_Not_Lamp := kit_own (fun e => nd_ne nd_ (i := 3) (j := 1) rfl rfl (by decide) (Value.ref.inj e)) ic_Lamp ty_Lamp s_Not_Lamp,
    z_Joined_Lamp := kit_own (fun e => nd_ne nd_ (i := 4) (j := 1) rfl rfl (by decide) (Value.ref.inj e)) ic_Lamp ty_Lamp s_Joined_Lamp,
    z_And_Lamp := kit_own (fun e => nd_ne nd_ (i := 5) (j := 1) rfl rfl (by decide) (Value.ref.inj e)) ic_Lamp ty_Lamp s_And_Lamp,
    z_Or_Lamp := kit_own (fun e => nd_ne nd_ (i := 6) (j := 1) rfl rfl (by decide) (Value.ref.inj e)) ic_Lamp ty_Lamp s_Or_Lamp,
    z_none_Lamp := kit_own (fun e => nomatch e) ic_Lamp ty_Lamp s_none_Lamp,
    z_Lamp_Formula := kit_own (fun e => nd_ne nd_ (i := 1) (j := 0) rfl rfl (by decide) (Value.ref.inj e)) ic_Formula ty_Formula s_Lamp_Formula,
    z_Sure_Formula := kit_own (fun e => nd_ne nd_ (i := 2) (j := 0) rfl rfl (by decide) (Value.ref.inj e)) ic_Formula ty_Formula s_Sure_Formula,
    z_Not_Formula := kit_own (fun e => nd_ne nd_ (i := 3) (j := 0) rfl rfl (by decide) (Value.ref.inj e)) ic_Formula ty_Formula s_Not_Formula,
    z_Joined_Formula := kit_own (fun e => nd_ne nd_ (i := 4) (j := 0) rfl rfl (by decide) (Value.ref.inj e)) ic_Formula ty_Formula s_Joined_Formula,
    z_And_Formula := kit_own (fun e => nd_ne nd_ (i := 5) (j := 0) rfl rfl (by decide) (Value.ref.inj e)) ic_Formula ty_Formula s_And_Formula,
    z_Or_Formula := kit_own (fun e => nd_ne nd_ (i := 6) (j := 0) rfl rfl (by decide) (Value.ref.inj e)) ic_Formula ty_Formula s_Or_Formula,
    z_none_Formula := kit_own (fun e => nomatch e) ic_Formula ty_Formula s_none_Formula,
    bl := fun s u => .of_eq rfl,
    B := ⟨PySem.W.mg_none_of X G b_len, PySem.W.mg_none_of X G b_range, PySem.W.mg_none_of X G b_isinstance, PySem.W.mg_none_of X G b_int, PySem.W.mg_none_of X G b_bool, PySem.W.mg_none_of X G b_str, PySem.W.mg_none_of X G b_list, PySem.W.mg_none_of X G b_tuple, PySem.W.mg_none_of X G b_dict, PySem.W.mg_none_of X G b_set, PySem.W.mg_none_of X G b_sorted, PySem.W.mg_none_of X G b_max, PySem.W.mg_none_of X G b_min, PySem.W.mg_none_of X G b_sum, PySem.W.mg_none_of X G b_any, PySem.W.mg_none_of X G b_all, PySem.W.mg_none_of X G b_abs, PySem.W.mg_none_of X G b_reversed, PySem.W.mg_none_of X G b_enumerate, PySem.W.mg_none_of X G b_zip⟩ }
theorem and_nat (x y : Nat) : Builtin.bitAnd (x : Int) (y : Int) = ((x &&& y : Nat) : Int) := by simp [Builtin.bitAnd]
theorem not_not (x : Int) : Builtin.bitNot (Builtin.bitNot x) = x := by unfold Builtin.bitNot; omega
theorem or_nat (x y : Nat) : Builtin.bitOr (x : Int) (y : Int) = ((x ||| y : Nat) : Int) := by
  show Builtin.bitNot (Builtin.bitAnd (Builtin.bitNot x) (Builtin.bitNot y)) = _
  rw [PyProof.Rows.bitAnd_nn (by unfold Builtin.bitNot; omega) (by unfold Builtin.bitNot; omega), not_not, not_not, not_not]
  simp
theorem xor_nat (x y : Nat) : Builtin.bitXor (x : Int) (y : Int) = ((x ^^^ y : Nat) : Int) := by
  show Builtin.bitOr x y - Builtin.bitAnd x y = _
  rw [or_nat, and_nat, or_split (x + 1) x y (by omega)]
  omega

def cell (ns : List Int) (k : Nat) : Int := ns.getD k 0
def spLaw (K : PySem.W.Frag) : Sp := fun vs H Q _ => ∃ (a : Addr) (ns : List Int), vs = [.ref a] ∧ SqL K H a (ns.map V.int) ∧ ns.length ≤ 63 ∧ Only H ∧ ∀ H', Q (.bl true) H'
def spCell (K : PySem.W.Frag) : Sp := fun vs H Q _ => ∃ (a : Addr) (ns : List Int) (k : Nat), vs = [.ref a, .int (k : Int)] ∧ SqL K H a (ns.map V.int) ∧ Q (.int (cell ns k)) H
section
variable {P : Program} {w : World} {K : PySem.W.Frag} {mg : Str → Option Value} {base : Heap} {t : Ad}
theorem ok_cell_at (T : Txt K mg t) : FnS P w K mg base 1 "_law_cell_at" ["_law_script", "_law_k"] (spCell K) := by
  refine ⟨_, _, T.F__law_cell_at.ok sc__law_cell_at (fun vs H Q E h => ?_) (fun cdv A outer s H vs Q E hr h => ?_), T.b__law_cell_at, T.F__law_cell_at.kp, T.m__law_cell_at⟩
  · obtain ⟨a, ns, k, rfl, _⟩ := h
    rfl
  · obtain ⟨a, ns, k, rfl, hS, q⟩ := h
    refine ⟨_, (pss_cons (ps_if (pt_cmpR op_lt (pv 1) (pe_callB call_lenG rfl T.B.len bt_len (pa_cons (pv 0) pa_nil)) (nomark _))
      (pss_one (ps_ret (pe_ix ix_seq (pv 0) (pv 1) (fun _ _ => rfl))))
      pss_nil)
      (pss_one (ps_ret pe_int))), ?_⟩
    walk_at "rd0"
    refine i_ifd (fun h => ?_) (fun h => ?_)
    · rw [List.length_map] at h
      have hk : k < ns.length := by omega
      walk_at "rd"
      refine i_ixS (j := k) (v := .int (cell ns k)) hS ?_ q
      rw [List.getElem?_map, List.getElem?_eq_getElem hk]
      simp [cell, List.getD_eq_getElem?_getD, List.getElem?_eq_getElem hk]
    · rw [List.length_map] at h
      walk_at "rd"
      have e : cell ns k = 0 := by
        simp only [cell, List.getD_eq_getElem?_getD]
        rw [List.getElem?_eq_none (by omega)]
        rfl
      rw [e] at q
      exact q
end

def cw (t : Ad) : W3 → Addr
  | .a => t.C_And
  | .e => t.C_Joined
  | .o => t.C_Or
def FmAt (t : Ad) (H : Hp) : Nat → Addr → Fm → Prop
  | 0, _, _ => False
  | n + 1, p, f => match f with
    | .lamp k => ∃ dx, H p = some (.ins t.C_Lamp dx [(("at" : Str), .int (k : Int))])
    | .sure b => ∃ dx, H p = some (.ins t.C_Sure dx [(("truth" : Str), .bl b)])
    | .neg g => ∃ dx q, H p = some (.ins t.C_Not dx [(("part" : Str), .ref q)]) ∧ FmAt t H n q g
    | .join .e _ => False
    | .join .a gs => ∃ dx tp ps, H p = some (.ins (cw t .a) dx [(("parts" : Str), .ref tp)]) ∧ H tp = some (.tup (ps.map V.ref)) ∧ Paired (FmAt t H n) ps gs
    | .join .o gs => ∃ dx tp ps, H p = some (.ins (cw t .o) dx [(("parts" : Str), .ref tp)]) ∧ H tp = some (.tup (ps.map V.ref)) ∧ Paired (FmAt t H n) ps gs
def isFm (t : Ad) (C : Addr) : Prop := C = t.C_Lamp ∨ C = t.C_Sure ∨ C = t.C_Not ∨ C = t.C_And ∨ C = t.C_Or
theorem paired_imp {α β : Type} {F G : α → β → Prop} (h : ∀ a b, F a b → G a b) : ∀ {xs : List α} {ys : List β}, Paired F xs ys → Paired G xs ys
  | _, _, .nil => .nil
  | _, _, .cons r s => .cons (h _ _ r) (paired_imp h s)
theorem paired_get {α β : Type} {F : α → β → Prop} : ∀ {xs : List α} {ys : List β} {i : Nat} {x : α}, Paired F xs ys → xs[i]? = some x → ∃ y, ys[i]? = some y ∧ F x y
  | _, _, _, _, .nil, e => by simp at e
  | _, _, 0, _, .cons r _, e => by simp at e; subst e; exact ⟨_, rfl, r⟩
  | _, _, i + 1, x, .cons _ s, e => by
    obtain ⟨u, h1, h2⟩ := paired_get (i := i) (x := x) s (by simpa using e)
    exact ⟨u, by simpa using h1, h2⟩
theorem paired_append {α β : Type} {F : α → β → Prop} : ∀ {xs xs' : List α} {ys ys' : List β}, Paired F xs ys → Paired F xs' ys' → Paired F (xs ++ xs') (ys ++ ys')
  | _, _, _, _, .nil, s => s
  | _, _, _, _, .cons r q, s => .cons r (paired_append q s)
theorem paired_len {α β : Type} {F : α → β → Prop} {xs : List α} {ys : List β} (h : Paired F xs ys) : xs.length = ys.length := Paired.length h
theorem get_ref {ps : List Addr} {i : Nat} {x : V} (h : (ps.map V.ref)[i]? = some x) : ∃ p, x = V.ref p ∧ ps[i]? = some p := by
  rw [List.getElem?_map] at h
  cases e : ps[i]? with
  | none => rw [e] at h; cases h
  | some p => rw [e] at h; exact ⟨p, (Option.some.inj h).symm, rfl⟩
theorem take_snoc {α : Type} {l : List α} {i : Nat} {x : α} (h : l[i]? = some x) : l.take (i + 1) = l.take i ++ [x] := by
  rw [List.take_add_one, h]; rfl
section
variable {P : Program} {w : World} {K : PySem.W.Frag} {mg : Str → Option Value} {base : Heap} {t : Ad} {H H' : Hp} {n : Nat} {p : Addr} {f : Fm}
theorem FmAt.mono (s : Ext H H') : ∀ {n : Nat} {p : Addr} {f : Fm}, FmAt t H n p f → FmAt t H' n p f
  | 0, _, _, h => h
  | n + 1, p, f, h => by
    cases f with
    | lamp k => obtain ⟨dx, e⟩ := h; exact ⟨dx, s _ _ e (fun _ z => nomatch z)⟩
    | sure b => obtain ⟨dx, e⟩ := h; exact ⟨dx, s _ _ e (fun _ z => nomatch z)⟩
    | neg g => obtain ⟨dx, q, e, h⟩ := h; exact ⟨dx, q, s _ _ e (fun _ z => nomatch z), FmAt.mono s h⟩
    | join w gs =>
      cases w with
      | a => obtain ⟨dx, tp, ps, e, e2, h⟩ := h; exact ⟨dx, tp, ps, s _ _ e (fun _ z => nomatch z), s _ _ e2 (fun _ z => nomatch z), paired_imp (fun a b h => FmAt.mono s h) h⟩
      | e => exact h.elim
      | o => obtain ⟨dx, tp, ps, e, e2, h⟩ := h; exact ⟨dx, tp, ps, s _ _ e (fun _ z => nomatch z), s _ _ e2 (fun _ z => nomatch z), paired_imp (fun a b h => FmAt.mono s h) h⟩
theorem FmAt.le : ∀ {n m : Nat} {p : Addr} {f : Fm}, n ≤ m → FmAt t H n p f → FmAt t H m p f
  | 0, _, _, _, _, h => h.elim
  | n + 1, 0, _, _, hm, _ => absurd hm (by omega)
  | n + 1, m + 1, p, f, hm, h => by
    have hm' : n ≤ m := by omega
    cases f with
    | lamp k => exact h
    | sure b => exact h
    | neg g => obtain ⟨dx, q, e, h⟩ := h; exact ⟨dx, q, e, FmAt.le hm' h⟩
    | join w gs =>
      cases w with
      | a => obtain ⟨dx, tp, ps, e, e2, h⟩ := h; exact ⟨dx, tp, ps, e, e2, paired_imp (fun a b h => FmAt.le hm' h) h⟩
      | e => exact h.elim
      | o => obtain ⟨dx, tp, ps, e, e2, h⟩ := h; exact ⟨dx, tp, ps, e, e2, paired_imp (fun a b h => FmAt.le hm' h) h⟩
theorem FmAt.ins (h : FmAt t H n p f) (m : Str) (h1 : ¬ m = "at") (h2 : ¬ m = "truth") (h3 : ¬ m = "part") (h4 : ¬ m = "parts") : ∃ C dx fs, H p = some (.ins C dx fs) ∧ isFm t C ∧ fs.lookup m = none := by
  cases n with
  | zero => exact h.elim
  | succ n =>
    cases f with
    | lamp k => obtain ⟨dx, e⟩ := h; exact ⟨_, dx, _, e, .inl rfl, lk0 _ h1⟩
    | sure b => obtain ⟨dx, e⟩ := h; exact ⟨_, dx, _, e, .inr (.inl rfl), lk0 _ h2⟩
    | neg g => obtain ⟨dx, q, e, h⟩ := h; exact ⟨_, dx, _, e, .inr (.inr (.inl rfl)), lk0 _ h3⟩
    | join w gs =>
      cases w with
      | a => obtain ⟨dx, tp, ps, e, e2, h⟩ := h; exact ⟨_, dx, _, e, .inr (.inr (.inr (.inl rfl))), lk0 _ h4⟩
      | e => exact h.elim
      | o => obtain ⟨dx, tp, ps, e, e2, h⟩ := h; exact ⟨_, dx, _, e, .inr (.inr (.inr (.inr rfl))), lk0 _ h4⟩
theorem FmAt.lamp {dx : Addr} {fs : List (Str × V)} (T : Txt K mg t) (h : FmAt t H (n + 1) p f) (e : H p = some (.ins t.C_Lamp dx fs)) : ∃ k : Nat, f = .lamp k ∧ fs = [(("at" : Str), .int (k : Int))] := by
  cases f with
  | lamp k => obtain ⟨dx', e'⟩ := h; rw [e] at e'; injection e' with e'; injection e' with _ _ e'; exact ⟨k, rfl, e'⟩
  | sure b => obtain ⟨dx', e'⟩ := h; rw [e] at e'; injection e' with e'; injection e' with e' _ _; exact absurd e' T.x_Lamp_Sure
  | neg g => obtain ⟨dx', q, e', _⟩ := h; rw [e] at e'; injection e' with e'; injection e' with e' _ _; exact absurd e' T.x_Lamp_Not
  | join w gs =>
    cases w with
    | a => obtain ⟨dx', tp, ps, e', _⟩ := h; rw [e] at e'; injection e' with e'; injection e' with e' _ _; exact absurd e' T.x_Lamp_And
    | e => exact h.elim
    | o => obtain ⟨dx', tp, ps, e', _⟩ := h; rw [e] at e'; injection e' with e'; injection e' with e' _ _; exact absurd e' T.x_Lamp_Or
theorem FmAt.sure {dx : Addr} {fs : List (Str × V)} (T : Txt K mg t) (h : FmAt t H (n + 1) p f) (e : H p = some (.ins t.C_Sure dx fs)) : ∃ b : Bool, f = .sure b ∧ fs = [(("truth" : Str), .bl b)] := by
  cases f with
  | lamp k => obtain ⟨dx', e'⟩ := h; rw [e] at e'; injection e' with e'; injection e' with e' _ _; exact absurd e'.symm T.x_Lamp_Sure
  | sure b => obtain ⟨dx', e'⟩ := h; rw [e] at e'; injection e' with e'; injection e' with _ _ e'; exact ⟨b, rfl, e'⟩
  | neg g => obtain ⟨dx', q, e', _⟩ := h; rw [e] at e'; injection e' with e'; injection e' with e' _ _; exact absurd e' T.x_Sure_Not
  | join w gs =>
    cases w with
    | a => obtain ⟨dx', tp, ps, e', _⟩ := h; rw [e] at e'; injection e' with e'; injection e' with e' _ _; exact absurd e' T.x_Sure_And
    | e => exact h.elim
    | o => obtain ⟨dx', tp, ps, e', _⟩ := h; rw [e] at e'; injection e' with e'; injection e' with e' _ _; exact absurd e' T.x_Sure_Or
theorem FmAt.neg {dx : Addr} {fs : List (Str × V)} (T : Txt K mg t) (h : FmAt t H (n + 1) p f) (e : H p = some (.ins t.C_Not dx fs)) : ∃ g q, f = .neg g ∧ fs = [(("part" : Str), .ref q)] ∧ FmAt t H n q g := by
  cases f with
  | lamp k => obtain ⟨dx', e'⟩ := h; rw [e] at e'; injection e' with e'; injection e' with e' _ _; exact absurd e'.symm T.x_Lamp_Not
  | sure b => obtain ⟨dx', e'⟩ := h; rw [e] at e'; injection e' with e'; injection e' with e' _ _; exact absurd e'.symm T.x_Sure_Not
  | neg g => obtain ⟨dx', q, e', h⟩ := h; rw [e] at e'; injection e' with e'; injection e' with _ _ e'; exact ⟨g, q, rfl, e', h⟩
  | join w gs =>
    cases w with
    | a => obtain ⟨dx', tp, ps, e', _⟩ := h; rw [e] at e'; injection e' with e'; injection e' with e' _ _; exact absurd e' T.x_Not_And
    | e => exact h.elim
    | o => obtain ⟨dx', tp, ps, e', _⟩ := h; rw [e] at e'; injection e' with e'; injection e' with e' _ _; exact absurd e' T.x_Not_Or
theorem cw_inj (T : Txt K mg t) {v w : W3} (e : cw t v = cw t w) : v = w := by
  cases v <;> cases w <;> first
    | rfl
    | exact absurd e T.x_Joined_And
    | exact absurd e T.x_And_Or
    | exact absurd e T.x_Joined_Or
    | exact absurd e.symm T.x_Joined_And
    | exact absurd e.symm T.x_And_Or
    | exact absurd e.symm T.x_Joined_Or
theorem FmAt.join {dx : Addr} {fs : List (Str × V)} {w : W3} (T : Txt K mg t) (h : FmAt t H (n + 1) p f) (e : H p = some (.ins (cw t w) dx fs)) :
    ∃ gs tp ps, f = .join w gs ∧ fs = [(("parts" : Str), .ref tp)] ∧ H tp = some (.tup (ps.map V.ref)) ∧ Paired (FmAt t H n) ps gs := by
  cases f with
  | lamp k => obtain ⟨dx', e'⟩ := h; rw [e] at e'; injection e' with e'; injection e' with e' _ _; cases w; exact absurd e'.symm T.x_Lamp_And; exact absurd e'.symm T.x_Lamp_Joined; exact absurd e'.symm T.x_Lamp_Or
  | sure b => obtain ⟨dx', e'⟩ := h; rw [e] at e'; injection e' with e'; injection e' with e' _ _; cases w; exact absurd e'.symm T.x_Sure_And; exact absurd e'.symm T.x_Sure_Joined; exact absurd e'.symm T.x_Sure_Or
  | neg g => obtain ⟨dx', q, e', _⟩ := h; rw [e] at e'; injection e' with e'; injection e' with e' _ _; cases w; exact absurd e'.symm T.x_Not_And; exact absurd e'.symm T.x_Not_Joined; exact absurd e'.symm T.x_Not_Or
  | join v gs =>
    cases v with
    | a =>
      obtain ⟨dx', tp, ps, e', e2, h⟩ := h
      rw [e] at e'; injection e' with e'; injection e' with e1 _ e3
      obtain rfl := cw_inj (v := w) (w := .a) T e1
      exact ⟨gs, tp, ps, rfl, e3, e2, h⟩
    | e => exact h.elim
    | o =>
      obtain ⟨dx', tp, ps, e', e2, h⟩ := h
      rw [e] at e'; injection e' with e'; injection e' with e1 _ e3
      obtain rfl := cw_inj (v := w) (w := .o) T e1
      exact ⟨gs, tp, ps, rfl, e3, e2, h⟩
theorem ok_Lamp (T : Txt K mg t) : MkS P w K mg base 1 "Lamp" t.C_Lamp ["self", "at"] (spInit1 t.C_Lamp "at") := by
  refine ⟨T.m_Lamp, _, _, T.k_Lamp, T.F_Lamp_init.ok sc_Lamp_init (fun vs H Q E h => ?_) (fun cdv A outer s H vs Q E hr h => ?_), T.b_Lamp_init⟩
  · obtain ⟨p, dx, v, rfl, _⟩ := h
    rfl
  · obtain ⟨p, dx, v, rfl, hp, q⟩ := h
    refine ⟨_, (pss_one (ps_fld (pv 0) (pv 1) rfl)), ?_⟩
    walk_at "rd0"
    exact ⟨p, _, _, _, rfl, hp, T.c_Lamp, T.n_Lamp_at, by decide, q⟩
theorem ok_Sure (T : Txt K mg t) : MkS P w K mg base 1 "Sure" t.C_Sure ["self", "truth"] (spInit1 t.C_Sure "truth") := by
  refine ⟨T.m_Sure, _, _, T.k_Sure, T.F_Sure_init.ok sc_Sure_init (fun vs H Q E h => ?_) (fun cdv A outer s H vs Q E hr h => ?_), T.b_Sure_init⟩
  · obtain ⟨p, dx, v, rfl, _⟩ := h
    rfl
  · obtain ⟨p, dx, v, rfl, hp, q⟩ := h
    refine ⟨_, (pss_one (ps_fld (pv 0) (pv 1) rfl)), ?_⟩
    walk_at "rd0"
    exact ⟨p, _, _, _, rfl, hp, T.c_Sure, T.n_Sure_truth, by decide, q⟩
theorem ok_Not (T : Txt K mg t) : MkS P w K mg base 1 "Not" t.C_Not ["self", "part"] (spInit1 t.C_Not "part") := by
  refine ⟨T.m_Not, _, _, T.k_Not, T.F_Not_init.ok sc_Not_init (fun vs H Q E h => ?_) (fun cdv A outer s H vs Q E hr h => ?_), T.b_Not_init⟩
  · obtain ⟨p, dx, v, rfl, _⟩ := h
    rfl
  · obtain ⟨p, dx, v, rfl, hp, q⟩ := h
    refine ⟨_, (pss_one (ps_fld (pv 0) (pv 1) rfl)), ?_⟩
    walk_at "rd0"
    exact ⟨p, _, _, _, rfl, hp, T.c_Not, T.n_Not_part, by decide, q⟩
def spInitJ (C : Addr) : Sp := fun vs H Q _ => ∃ p dx l ys, vs = [.ref p, .ref l] ∧ H p = some (.ins C dx []) ∧ H l = some (.lst ys) ∧ ∀ tp, H tp = none → Q .non (upd (upd H tp (.tup ys)) p (.ins C dx [(("parts" : Str), .ref tp)]))
theorem ok_JoinedC {C : Addr} (T : Txt K mg t) (cl : Cls K C) (na : NoAttr K C "parts") : FnOk P w K mg base CX0 1 t.f_Joined_init t.d_Joined_init ["self", "parts"] (spInitJ C) := by
  refine T.F_Joined_init.ok sc_Joined_init (fun vs H Q E h => ?_) (fun cdv A outer s H vs Q E hr h => ?_)
  · obtain ⟨p, dx, l, ys, rfl, _⟩ := h
    rfl
  · obtain ⟨p, dx, l, ys, rfl, hp, hl, q⟩ := h
    refine ⟨_, (pss_one (ps_fld (pv 0) (pe_callTy call_tupleG rfl T.B.tuple bt_tuple (pa_cons (pv 1) pa_nil)) rfl)), ?_⟩
    walk_at "rd0"
    refine i_tupL hl fun tp htp => ?_
    walk_at "rd"
    exact ⟨p, _, _, _, rfl, by rw [upd_ne (ne_of_none hp htp)]; exact hp, cl, na, by decide, q tp htp⟩
theorem ok_And (T : Txt K mg t) : MkS P w K mg base 1 "And" t.C_And ["self", "parts"] (spInitJ t.C_And) := ⟨T.m_And, _, _, T.k_And, ok_JoinedC T T.c_And T.n_And_parts, T.b_Joined_init⟩
theorem ok_Or (T : Txt K mg t) : MkS P w K mg base 1 "Or" t.C_Or ["self", "parts"] (spInitJ t.C_Or) := ⟨T.m_Or, _, _, T.k_Or, ok_JoinedC T T.c_Or T.n_Or_parts, T.b_Joined_init⟩
theorem i_initJ {C l : Addr} {ys : List V} {H : Hp} {Q : VK} (hl : H l = some (.lst ys)) (h : ∀ (x dx tp : Addr) (H' : Hp), Same H H' → H x = none → H' x = some (.ins C dx [(("parts" : Str), .ref tp)]) → H' tp = some (.tup ys) → Q (.ref x) H') :
    MkG C (spInitJ C) [.ref l] H Q := by
  intro x dx hx hdx ne
  have s2 := same_new2 hx hdx (.ins C dx []) (.own x)
  refine ⟨x, dx, l, ys, rfl, upd_same, s2 _ _ hl, fun tp htp => ⟨rfl, ?_⟩⟩
  have hxt : tp ≠ x := by
    intro e; subst e; rw [upd_same] at htp; cases htp
  have htp0 : H tp = none := s2.free htp
  refine h x dx tp _ (fun b o e => ?_) hx upd_same (by rw [upd_ne hxt, upd_same])
  rw [upd_ne (ne_of_none e hx), upd_ne (ne_of_none e htp0), upd_ne (ne_of_none e hx), upd_ne (ne_of_none e hdx)]
  exact e
end

def spHolds (t : Ad) (n : Nat) : Sp := fun vs H Q _ => ∃ (p : Addr) (s : Nat) (f : Fm), vs = [.ref p, .int (s : Int)] ∧ FmAt t H n p f ∧ Q (.bl (f.holds s)) H
theorem lit_eq (s k : Nat) : decide (Builtin.bitAnd ((s : Int) / 2 ^ ((k : Int)).toNat) 1 = 1) = s.testBit k := by
  have e : ((s : Int) / 2 ^ ((k : Int)).toNat) = ((s / 2 ^ k : Nat) : Int) := by simp
  have h : Builtin.bitAnd ((s : Int) / 2 ^ ((k : Int)).toNat) 1 = ((s / 2 ^ k % 2 : Nat) : Int) := by
    rw [e, show (1 : Int) = ((1 : Nat) : Int) from rfl, and_nat, Nat.and_one_is_mod]
  rw [h, lit_iff]
  exact decide_eq_decide.mpr (by omega)
section
variable {P : Program} {w : World} {K : PySem.W.Frag} {mg : Str → Option Value} {base : Heap} {t : Ad} {n : Nat}
theorem ok_Lamp_holds (T : Txt K mg t) : MeS P w K mg base (n + 1) t.C_Lamp "holds" ["self", "stand"] (spAt (spHolds t (n + 1)) t.C_Lamp) := by
  refine ⟨T.c_Lamp, _, _, T.F_Lamp_holds.ok sc_Lamp_holds (fun vs H Q E h => ?_) (fun cdv A outer s H vs Q E hr h => ?_), T.b_Lamp_holds, T.h_Lamp_holds⟩
  · obtain ⟨⟨p, s, f, rfl, _⟩, _⟩ := h
    rfl
  · obtain ⟨⟨p, s, f, rfl, hf, q⟩, a, dx, fs, r, e, ea⟩ := h
    cases e
    obtain ⟨k, rfl, rfl⟩ := hf.lamp T ea
    refine ⟨_, (pss_one (ps_ret (pe_cmpR (op_eqA hr.units) (pe_op op_and (pe_op op_shr (pv 1) (pe_fld (pv 0) rfl)) pe_int) pe_int (nomark _)))), ?_⟩
    walk_at "rd0"
    refine ⟨p, _, _, _, _, rfl, ea, T.c_Lamp, T.n_Lamp_at, lk1 _ _, ?_⟩
    walk_at "rd"
    rw [lit_eq]
    simpa [Fm.holds] using q
theorem ok_Sure_holds (T : Txt K mg t) : MeS P w K mg base (n + 1) t.C_Sure "holds" ["self", "stand"] (spAt (spHolds t (n + 1)) t.C_Sure) := by
  refine ⟨T.c_Sure, _, _, T.F_Sure_holds.ok sc_Sure_holds (fun vs H Q E h => ?_) (fun cdv A outer s H vs Q E hr h => ?_), T.b_Sure_holds, T.h_Sure_holds⟩
  · obtain ⟨⟨p, s, f, rfl, _⟩, _⟩ := h
    rfl
  · obtain ⟨⟨p, s, f, rfl, hf, q⟩, a, dx, fs, r, e, ea⟩ := h
    cases e
    obtain ⟨b, rfl, rfl⟩ := hf.sure T ea
    refine ⟨_, (pss_one (ps_ret (pe_fld (pv 0) rfl))), ?_⟩
    walk_at "rd0"
    exact ⟨p, _, _, _, _, rfl, ea, T.c_Sure, T.n_Sure_truth, lk1 _ _, by simpa [Fm.holds] using q⟩
theorem ok_Not_holds (T : Txt K mg t) (D_holds : ∀ C, isFm t C → MeS P w K mg base n C "holds" ["self", "stand"] (spAt (spHolds t n) C)) : MeS P w K mg base (n + 1) t.C_Not "holds" ["self", "stand"] (spAt (spHolds t (n + 1)) t.C_Not) := by
  refine ⟨T.c_Not, _, _, T.F_Not_holds.ok sc_Not_holds (fun vs H Q E h => ?_) (fun cdv A outer s H vs Q E hr h => ?_), T.b_Not_holds, T.h_Not_holds⟩
  · obtain ⟨⟨p, s, f, rfl, _⟩, _⟩ := h
    rfl
  · obtain ⟨⟨p, s, f, rfl, hf, q⟩, a, dx, fs, r, e, ea⟩ := h
    cases e
    obtain ⟨g, p', rfl, rfl, hg⟩ := hf.neg T ea
    obtain ⟨C, dx', fs', e', hC, hl⟩ := hg.ins "holds" (by decide +kernel) (by decide +kernel) (by decide +kernel) (by decide +kernel)
    refine ⟨_, (pss_one (ps_ret (pe_notG (pe_dy D_holds hr (pe_fld (pv 0) rfl) (pa_cons (pv 1) pa_nil))))), ?_⟩
    walk_at "rd0"
    refine ⟨p, _, _, _, _, rfl, ea, T.c_Not, T.n_Not_part, lk1 _ _, ?_⟩
    walk_at "rd"
    refine ⟨p', C, dx', fs', rfl, e', hC, hl, ?_⟩
    walk_at "rd"
    refine ⟨e', p', s, g, rfl, hg, ?_⟩
    walk_at "rd"
    simpa [Fm.holds] using q
theorem ok_And_holds (T : Txt K mg t) (D_holds : ∀ C, isFm t C → MeS P w K mg base n C "holds" ["self", "stand"] (spAt (spHolds t n) C)) : MeS P w K mg base (n + 1) t.C_And "holds" ["self", "stand"] (spAt (spHolds t (n + 1)) t.C_And) := by
  refine ⟨T.c_And, _, _, T.F_And_holds.ok sc_And_holds (fun vs H Q E h => ?_) (fun cdv A outer s H vs Q E hr h => ?_), T.b_And_holds, T.h_And_holds⟩
  · obtain ⟨⟨p, s, f, rfl, _⟩, _⟩ := h
    rfl
  · obtain ⟨⟨p, s, f, rfl, hf, q⟩, a, dx, fs, r, e, ea⟩ := h
    cases e
    obtain ⟨gs, tp, ps, rfl, rfl, htp, hg⟩ := hf.join (w := .a) T ea
    refine ⟨_, (pss_cons (ps_for PassesOwn.never rfl (pi_seq (pe_fld (pv 0) rfl)) (sg 2 sc_And_holds.nd)
      (pss_one (ps_if (pt_not (pt_truth (pe_dy D_holds hr (pv 2) (pa_cons (pv 1) pa_nil)) (fun _ => rfl)))
      (pss_one (ps_ret pe_bl))
      pss_nil)))
      (pss_one (ps_ret pe_bl))), ?_⟩
    walk_at "rd0"
    refine ⟨p, _, _, _, _, rfl, ea, T.c_And, T.n_And_parts, lk1 _ _, ?_⟩
    refine seqT (xs := ps.map V.ref) (fun i σ H' => H' = H ∧ comb .a ((gs.take i).map (Fm.holds s)) = true ∧ ∃ v, σ = [some (.ref p), some (.int (s : Int)), v]) ⟨rfl, rfl, _, rfl⟩ (fun i σ H' _ hp => by obtain ⟨rfl, _⟩ := hp; exact SqT.of htp) ?_ ?_
    · rintro i x σ H' hx ⟨rfl, hc, v, rfl⟩
      obtain ⟨p', rfl, hx'⟩ := get_ref hx
      obtain ⟨g, hgi, hf'⟩ := paired_get hg hx'
      obtain ⟨C, dx', fs', e', hC, hl⟩ := hf'.ins "holds" (by decide +kernel) (by decide +kernel) (by decide +kernel) (by decide +kernel)
      walk_at "rd"
      refine ⟨p', C, dx', fs', rfl, e', hC, hl, ?_⟩
      walk_at "rd"
      refine ⟨e', p', s, g, rfl, hf', ?_⟩
      walk_at "rd"
      refine i_ifb (fun hb => ?_) (fun hb => ?_)
      · walk_at "rd"
        have hz : (Fm.join .a gs).holds s = false := by
          rw [holds_join]
          have hm : g ∈ gs := List.mem_of_getElem? hgi
          have hgf : g.holds s = false := by simpa using hb
          simp only [comb]
          rw [List.all_eq_false]
          exact ⟨_, List.mem_map_of_mem hm, by simp [hgf]⟩
        rw [hz] at q
        exact q
      · walk_at "rd"
        refine ⟨rfl, ?_, _, rfl⟩
        have hgt : g.holds s = true := by simpa using hb
        rw [take_snoc hgi, List.map_append, List.map_cons, List.map_nil, comb_snoc_a, hc, hgt]
        rfl
    · rintro σ H' ⟨rfl, hc, v, rfl⟩
      walk_at "rd"
      rw [List.length_map, paired_len hg, List.take_length] at hc
      rw [holds_join, hc] at q
      exact q
theorem ok_Or_holds (T : Txt K mg t) (D_holds : ∀ C, isFm t C → MeS P w K mg base n C "holds" ["self", "stand"] (spAt (spHolds t n) C)) : MeS P w K mg base (n + 1) t.C_Or "holds" ["self", "stand"] (spAt (spHolds t (n + 1)) t.C_Or) := by
  refine ⟨T.c_Or, _, _, T.F_Or_holds.ok sc_Or_holds (fun vs H Q E h => ?_) (fun cdv A outer s H vs Q E hr h => ?_), T.b_Or_holds, T.h_Or_holds⟩
  · obtain ⟨⟨p, s, f, rfl, _⟩, _⟩ := h
    rfl
  · obtain ⟨⟨p, s, f, rfl, hf, q⟩, a, dx, fs, r, e, ea⟩ := h
    cases e
    obtain ⟨gs, tp, ps, rfl, rfl, htp, hg⟩ := hf.join (w := .o) T ea
    refine ⟨_, (pss_cons (ps_for PassesOwn.never rfl (pi_seq (pe_fld (pv 0) rfl)) (sg 2 sc_Or_holds.nd)
      (pss_one (ps_if (pt_truth (pe_dy D_holds hr (pv 2) (pa_cons (pv 1) pa_nil)) (fun _ => rfl))
      (pss_one (ps_ret pe_bl))
      pss_nil)))
      (pss_one (ps_ret pe_bl))), ?_⟩
    walk_at "rd0"
    refine ⟨p, _, _, _, _, rfl, ea, T.c_Or, T.n_Or_parts, lk1 _ _, ?_⟩
    refine seqT (xs := ps.map V.ref) (fun i σ H' => H' = H ∧ comb .o ((gs.take i).map (Fm.holds s)) = false ∧ ∃ v, σ = [some (.ref p), some (.int (s : Int)), v]) ⟨rfl, rfl, _, rfl⟩ (fun i σ H' _ hp => by obtain ⟨rfl, _⟩ := hp; exact SqT.of htp) ?_ ?_
    · rintro i x σ H' hx ⟨rfl, hc, v, rfl⟩
      obtain ⟨p', rfl, hx'⟩ := get_ref hx
      obtain ⟨g, hgi, hf'⟩ := paired_get hg hx'
      obtain ⟨C, dx', fs', e', hC, hl⟩ := hf'.ins "holds" (by decide +kernel) (by decide +kernel) (by decide +kernel) (by decide +kernel)
      walk_at "rd"
      refine ⟨p', C, dx', fs', rfl, e', hC, hl, ?_⟩
      walk_at "rd"
      refine ⟨e', p', s, g, rfl, hf', ?_⟩
      walk_at "rd"
      refine i_ifb (fun hb => ?_) (fun hb => ?_)
      · walk_at "rd"
        have hz : (Fm.join .o gs).holds s = true := by
          rw [holds_join]
          have hm : g ∈ gs := List.mem_of_getElem? hgi
          simp only [comb]
          rw [List.any_eq_true]
          exact ⟨_, List.mem_map_of_mem hm, by simp [hb]⟩
        rw [hz] at q
        exact q
      · walk_at "rd"
        refine ⟨rfl, ?_, _, rfl⟩
        rw [take_snoc hgi, List.map_append, List.map_cons, List.map_nil, comb_snoc_o, hc, hb]
        rfl
    · rintro σ H' ⟨rfl, hc, v, rfl⟩
      walk_at "rd"
      rw [List.length_map, paired_len hg, List.take_length] at hc
      rw [holds_join, hc] at q
      exact q
theorem me_none {C f : Addr} {fd : FuncData} {m : Str} {ps : List Str} {sp : Sp} (no : ∀ vs H Q E, ¬ sp vs H Q E) (c : Cls K C) (b : Binds K fd ps []) (h : Meth K C m f) : MeS P w K mg base 0 C m ps sp :=
  ⟨c, f, fd, ⟨fun vs H Q E h => absurd h (no vs H Q E), fun A outer s H args us vs Q E _ _ _ _ h => absurd h (no vs H Q E)⟩, b, h⟩
theorem D_holds_of (T : Txt K mg t) : ∀ n : Nat, ∀ C, isFm t C → MeS P w K mg base n C "holds" ["self", "stand"] (spAt (spHolds t n) C)
  | 0 => by
    have no : ∀ C vs H Q E, ¬ spAt (spHolds t 0) C vs H Q E := fun C vs H Q E h => by
      obtain ⟨⟨p, s, f, _, h, _⟩, _⟩ := h
      exact h
    rintro C (rfl | rfl | rfl | rfl | rfl)
    · exact me_none (no _) T.c_Lamp T.b_Lamp_holds T.h_Lamp_holds
    · exact me_none (no _) T.c_Sure T.b_Sure_holds T.h_Sure_holds
    · exact me_none (no _) T.c_Not T.b_Not_holds T.h_Not_holds
    · exact me_none (no _) T.c_And T.b_And_holds T.h_And_holds
    · exact me_none (no _) T.c_Or T.b_Or_holds T.h_Or_holds
  | n + 1 => by
    have ih := D_holds_of T n
    rintro C (rfl | rfl | rfl | rfl | rfl)
    · exact ok_Lamp_holds T
    · exact ok_Sure_holds T
    · exact ok_Not_holds T ih
    · exact ok_And_holds T ih
    · exact ok_Or_holds T ih
end

def BarAt (H : Hp) (p : Addr) (b : Bar) : Prop := H p = some (.tup [.int (b.1 : Int), .int (b.2 : Int)])
def ib (b : Bar) : Int × Int := ((b.1 : Int), (b.2 : Int))
theorem pairs_of {H : Hp} : ∀ {ps : List Addr} {bs : List Bar}, Paired (BarAt H) ps bs → Paired (PairAt H) ps (bs.map ib)
  | _, _, .nil => .nil
  | _, _, .cons r q => .cons r (pairs_of q)
theorem lit_val (s k : Nat) : Builtin.bitAnd ((s : Int) / 2 ^ ((k : Int)).toNat) 1 = if s.testBit k = true then 1 else 0 := by
  have e : ((s : Int) / 2 ^ ((k : Int)).toNat) = ((s / 2 ^ k : Nat) : Int) := by simp
  rw [e, show (1 : Int) = ((1 : Nat) : Int) from rfl, and_nat, Nat.and_one_is_mod, lit_iff]
  by_cases h : s / 2 ^ k % 2 = 1
  · rw [decide_eq_true h, if_pos rfl, h]
  · rw [decide_eq_false h, if_neg Bool.false_ne_true]
    have : s / 2 ^ k % 2 = 0 := by omega
    rw [this]; rfl
theorem get_range {n i : Nat} {lo : Int} {x : V} (h : ((List.range n).map fun i : Nat => V.int (lo + (i : Int)))[i]? = some x) : i < n ∧ x = .int (lo + (i : Int)) := by
  rw [List.getElem?_map] at h
  by_cases hi : i < n
  · rw [List.getElem?_range hi] at h
    exact ⟨hi, (Option.some.inj h).symm⟩
  · rw [List.getElem?_eq_none (by rw [List.length_range]; omega)] at h
    cases h
theorem pow_small {m : Nat} (h : m ≤ 6) : (2 : Nat) ^ m ≤ 64 := Nat.le_trans (Nat.pow_le_pow_right (by decide) h) (by decide)
theorem shl_nat (m : Nat) : (1 : Int) * 2 ^ ((m : Int)).toNat = ((2 ^ m : Nat) : Int) := by
  simp
theorem or_one {f : Nat → Bool} {n : Nat} (h : f n = true) : Builtin.bitOr ((bits f n : Nat) : Int) (1 * 2 ^ ((n : Int)).toNat) = ((bits f (n + 1) : Nat) : Int) := by
  rw [shl_nat, or_nat, bits_or_one f n h]
def nums (l : List Nat) : List Int := l.map fun k : Nat => (k : Int)
/-- [s for s in range(n) if p s] -/
theorem comp_range {ix : List Nat} {tc : TT} {te : TE} {σ : St} {H : Hp} {Q : VK} {n : Nat} (p : Nat → Bool) (hz : n ≤ 1000000)
    (ht : ∀ (i : Nat) (H' : Hp), i < n → Same H H' → ∀ R : Bool → Hp → Prop, (∀ H2, Same H' H2 → R (p i) H2) → tc (some (.int (i : Int)) :: subS σ ix) H' R)
    (he : ∀ (i : Nat) (H' : Hp), i < n → Same H H' → ∀ R2 : V → Hp → Prop, (∀ H3, Same H' H3 → R2 (.int (i : Int)) H3) → te (some (.int (i : Int)) :: subS σ ix) H' R2)
    (hd : ∀ (acc : Addr) (H' : Hp), H acc = none → Same H H' → H' acc = some (.lst ((nums ((List.range n).filter p)).map V.int)) → Q (.ref acc) H') : CompG (Itr 0 n) ix tc te σ Q H := by
  refine comp_by (fun i ys => ys = (nums ((List.range i).filter p)).map V.int) (wk_range 0 n H) (by rw [List.length_map, List.length_range]; exact hz) rfl ?_ ?_
  · intro i x ys acc H' hx s1 hacc ea hy _ R k
    obtain ⟨hi, rfl⟩ := get_range hx
    rw [Int.zero_add]
    rw [Int.zero_add] at k
    refine ht i H' hi s1 R fun H2 s2 => k (p i) H2 s2 (fun z => ?_) fun z R2 k2 => ?_
    · rw [filter_succ, z, if_neg Bool.false_ne_true, List.append_nil]; exact hy
    · refine he i H2 hi (s1.trans s2) R2 fun H3 s3 => k2 _ H3 s3 ?_
      rw [filter_succ, z, if_pos rfl, hy]
      unfold nums
      rw [List.map_append, List.map_append]
      rfl
  · intro acc ys H' n1 s1 e1 hy
    rw [List.length_map, List.length_range] at hy
    subst hy
    exact hd acc H' n1 s1 e1

section
variable {P : Program} {w : World} {K : PySem.W.Frag} {mg : Str → Option Value} {base : Heap} {t : Ad}
def spAllStands : Sp := fun vs H Q _ => ∃ (m : Nat), vs = [.int (m : Int)] ∧ m ≤ 6 ∧ Q (.int ((2 ^ 2 ^ m - 1 : Nat) : Int)) H
theorem ok_all_stands (T : Txt K mg t) : FnS P w K mg base 1 "all_stands" ["many"] (spAllStands) := by
  refine ⟨_, _, T.F_all_stands.ok sc_all_stands (fun vs H Q E h => ?_) (fun cdv A outer s H vs Q E hr h => ?_), T.b_all_stands, T.F_all_stands.kp, T.m_all_stands⟩
  · obtain ⟨m, rfl, hm, q⟩ := h
    rfl
  obtain ⟨m, rfl, hm, q⟩ := h
  have hp := pow_small hm
  have hp0 := Int.natCast_nonneg (2 ^ m)
  refine ⟨_, (pss_one (ps_ret (pe_op op_sub (pe_op op_shl pe_int (pe_op op_shl pe_int (pv 0))) pe_int))), ?_⟩
  walk_at "rd0"
  rw [shl_nat]
  refine i_rI ⟨by omega, by omega, by decide⟩ ?_
  walk_at "rd"
  rw [shl_nat]
  have : 1 ≤ 2 ^ 2 ^ m := Nat.one_le_two_pow
  have e : ((2 ^ 2 ^ m : Nat) : Int) - 1 = ((2 ^ 2 ^ m - 1 : Nat) : Int) := by omega
  rw [e]
  exact q

def lampsOf (b : Bar) : List Nat := (List.range 6).filter fun k => b.1.testBit k
def vi (k : Nat) : V := .int (k : Int)
theorem nums_vi (l : List Nat) : (nums l).map V.int = l.map vi := by unfold nums; rw [List.map_map]; rfl
theorem bits_len {n : Nat} (h : n < 64) : (List.range (Builtin.Int.intBits (n : Int))).filter (fun k => n.testBit k) = (List.range 6).filter (fun k => n.testBit k) ∧ Builtin.Int.intBits (n : Int) ≤ 6 := by
  have z : ∀ n : Fin 64, (List.range (Builtin.Int.intBits ((n.val : Nat) : Int))).filter (fun k => n.val.testBit k) = (List.range 6).filter (fun k => n.val.testBit k) ∧ Builtin.Int.intBits ((n.val : Nat) : Int) ≤ 6 := by decide +kernel
  exact z ⟨n, h⟩
theorem lit_tru (s k : Nat) : (!decide (Builtin.bitAnd ((s : Int) / 2 ^ ((k : Int)).toNat) 1 = 0)) = s.testBit k := by
  rw [lit_val]
  cases s.testBit k <;> rfl
def spAskedBy : Sp := fun vs H Q _ => ∃ (p : Addr) (b : Bar), vs = [.ref p] ∧ BarAt H p b ∧ b.1 < 64 ∧ ∀ l H', Same H H' → H l = none → H' l = some (.lst ((lampsOf b).map vi)) → Q (.ref l) H'
theorem ok_asked_by (T : Txt K mg t) : FnS P w K mg base 1 "asked_by" ["bar"] (spAskedBy) := by
  refine ⟨_, _, T.F_asked_by.ok sc_asked_by (fun vs H Q E h => ?_) (fun cdv A outer s H vs Q E hr h => ?_), T.b_asked_by, T.F_asked_by.kp, T.m_asked_by⟩
  · obtain ⟨p, b, rfl, hb, h64, q⟩ := h
    rfl
  obtain ⟨p, b, rfl, hb, h64, q⟩ := h
  obtain ⟨ef, hl6⟩ := bits_len h64
  refine ⟨_, (pss_one (ps_ret (pe_comp (sc := defScope s_asked_by) (N := ["bar"]) (ns := ["bar"]) (ix := [0]) rfl rfl (by decide +kernel) rfl (pi_range1 rfl T.B.range (pa_cons (pe_bm0 PySem.F.plainAttrs_int PySem.F.slot_int_bit_length PySem.F.type_int_bit_length mi_bit_length (pe_ix ix_seq (pv 0) pe_int (fun _ _ => rfl))) pa_nil)) (fun _ _ _ _ => (pts_one (pt_truthK (K := K) rfl (pe_op op_and (pe_op op_shr (pe_ix (ix_seqK (K := K) rfl) (pv 1) pe_int (fun _ _ => rfl)) (pv 0)) pe_int) (fun _ => rfl)))) (fun _ _ _ _ => (pv 0))))), ?_⟩
  walk_at "rd0"
  refine i_ixT hb (v := .int (b.1 : Int)) rfl ?_
  walk_at "rd"
  refine ⟨_, rfl, by omega, by omega, ?_⟩
  rw [Int.toNat_natCast]
  refine comp_range (fun k => b.1.testBit k) (by omega) ?_ ?_ ?_
  · intro i H' hi s1 R k
    simp only [subS, List.map_cons, List.map_nil]
    walk_at "rd"
    refine i_ixT (s1 _ _ hb) (v := .int (b.1 : Int)) rfl ?_
    walk_at "rd"
    rw [lit_tru]
    exact k H' (Same.refl _)
  · intro i H' hi s1 R k
    simp only [subS, List.map_cons, List.map_nil]
    walk_at "rd"
    exact k H' (Same.refl _)
  · intro l H' n1 s1 e1
    rw [ef, nums_vi] at e1
    exact q l H' s1 n1 e1

end
theorem or_one0 {f : Nat → Bool} {n : Nat} (h : f n = true) : Builtin.bitOr ((bits f n : Nat) : Int) (1 * 2 ^ (((0 : Int) + (n : Int))).toNat) = ((bits f (n + 1) : Nat) : Int) := by
  have e : (1 : Int) * 2 ^ (((0 : Int) + (n : Int))).toNat = ((2 ^ n : Nat) : Int) := by
    rw [Int.zero_add]; exact shl_nat n
  rw [e, or_nat, bits_or_one f n h]
section
variable {P : Program} {w : World} {K : PySem.W.Frag} {mg : Str → Option Value} {base : Heap} {t : Ad} {n : Nat}
def spCrowd (t : Ad) (n : Nat) : Sp := fun vs H Q _ => ∃ (p : Addr) (m : Nat) (f : Fm), vs = [.ref p, .int (m : Int)] ∧ m ≤ 6 ∧ FmAt t H n p f ∧ Q (.int ((f.crowd (2 ^ m) : Nat) : Int)) H
theorem ok_Lamp_crowd (T : Txt K mg t) : MeS P w K mg base (n + 2) t.C_Lamp "crowd" ["self", "many"] (spAt (spCrowd t (n + 1)) t.C_Lamp) := by
  refine ⟨T.c_Lamp, _, _, T.F_Lamp_crowd.ok sc_Lamp_crowd (fun vs H Q E h => ?_) (fun cdv A outer s H vs Q E hr h => ?_), T.b_Lamp_crowd, T.h_Lamp_crowd⟩
  · obtain ⟨⟨p, m, f, rfl, _⟩, _⟩ := h
    rfl
  · obtain ⟨⟨p, m, f, rfl, hm, hf, q⟩, a, dx, fs, r, e, ea⟩ := h
    cases e
    have D_holds := D_holds_of (P := P) (w := w) (base := base) T (n + 1)
    have hp := pow_small hm
    have hp0 := Int.natCast_nonneg (2 ^ m)
    refine ⟨_, (pss_cons (ss 2 sc_Lamp_crowd.nd pe_int)
      (pss_cons (ps_for PassesOwn.never rfl (pi_range1 rfl T.B.range (pa_cons (pe_op op_shl pe_int (pv 1)) pa_nil)) (sg 3 sc_Lamp_crowd.nd)
      (pss_one (ps_if (pt_truth (pe_dy D_holds hr (pv 0) (pa_cons (pv 3) pa_nil)) (fun _ => rfl))
      (pss_one (ss 2 sc_Lamp_crowd.nd (pe_op op_or (pv 2) (pe_op op_shl pe_int (pv 3)))))
      pss_nil)))
      (pss_one (ps_ret (pv 2))))), ?_⟩
    walk_at "rd0"
    rw [shl_nat]
    refine ⟨_, rfl, by omega, by omega, ?_⟩
    rw [Int.toNat_natCast]
    refine loopR (fun i σ H' => H' = H ∧ ∃ v, σ = [some (.ref p), some (.int (m : Int)), some (.int ((f.crowd i : Nat) : Int)), v]) ⟨rfl, _, rfl⟩ ?_ ?_
    · rintro i σ H' hi ⟨rfl, v, rfl⟩
      obtain ⟨C, dx', fs', e', hC, hl⟩ := hf.ins "holds" (by decide +kernel) (by decide +kernel) (by decide +kernel) (by decide +kernel)
      walk_at "rd"
      refine ⟨p, C, dx', fs', rfl, e', hC, hl, ?_⟩
      walk_at "rd"
      have ei : (0 : Int) + (i : Int) = ((i : Nat) : Int) := Int.zero_add _
      refine ⟨e', p, i, f, by rw [ei], hf, ?_⟩
      walk_at "rd"
      refine i_ifb (fun hb => ?_) (fun hb => ?_)
      · walk_at "rd"
        refine ⟨rfl, some (.int (0 + (i : Int))), ?_⟩
        have e2 := or_one0 (f := fun s => f.holds s) (n := i) hb
        unfold Fm.crowd
        rw [e2]
        all_goals rfl
      · walk_at "rd"
        refine ⟨rfl, some (.int (0 + (i : Int))), ?_⟩
        unfold Fm.crowd
        rw [bits_skip (fun s => f.holds s) i hb]
        all_goals rfl
    · rintro σ H' ⟨rfl, v, rfl⟩
      walk_at "rd"
      exact q
theorem ok_Sure_crowd (T : Txt K mg t) : MeS P w K mg base (n + 2) t.C_Sure "crowd" ["self", "many"] (spAt (spCrowd t (n + 1)) t.C_Sure) := by
  refine ⟨T.c_Sure, _, _, T.F_Sure_crowd.ok sc_Sure_crowd (fun vs H Q E h => ?_) (fun cdv A outer s H vs Q E hr h => ?_), T.b_Sure_crowd, T.h_Sure_crowd⟩
  · obtain ⟨⟨p, m, f, rfl, _⟩, _⟩ := h
    rfl
  · obtain ⟨⟨p, m, f, rfl, hm, hf, q⟩, a, dx, fs, r, e, ea⟩ := h
    cases e
    obtain ⟨b, rfl, rfl⟩ := hf.sure T ea
    have G_all_stands := ok_all_stands (P := P) (w := w) (base := base) T
    rw [crowd_sure] at q
    refine ⟨_, (pss_one (ps_ret (pe_ifExp (pt_truth (pe_fld (pv 0) rfl) (fun _ => rfl)) (pe_fn G_all_stands hr (pa_cons (pv 1) pa_nil)) pe_int))), ?_⟩
    walk_at "rd0"
    refine ⟨p, _, _, _, _, rfl, ea, T.c_Sure, T.n_Sure_truth, lk1 _ _, ?_⟩
    walk_at "rd"
    refine i_ifb (fun hb => ?_) (fun hb => ?_)
    · subst hb
      walk_at "rd"
      exact ⟨m, rfl, hm, q⟩
    · subst hb
      walk_at "rd"
      exact q
theorem ok_Not_crowd (T : Txt K mg t) (D_crowd : ∀ C, isFm t C → MeS P w K mg base (n + 1) C "crowd" ["self", "many"] (spAt (spCrowd t n) C)) : MeS P w K mg base (n + 2) t.C_Not "crowd" ["self", "many"] (spAt (spCrowd t (n + 1)) t.C_Not) := by
  refine ⟨T.c_Not, _, _, T.F_Not_crowd.ok sc_Not_crowd (fun vs H Q E h => ?_) (fun cdv A outer s H vs Q E hr h => ?_), T.b_Not_crowd, T.h_Not_crowd⟩
  · obtain ⟨⟨p, m, f, rfl, _⟩, _⟩ := h
    rfl
  · obtain ⟨⟨p, m, f, rfl, hm, hf, q⟩, a, dx, fs, r, e, ea⟩ := h
    cases e
    have G_all_stands := ok_all_stands (P := P) (w := w) (base := base) T
    obtain ⟨g, p', rfl, rfl, hg⟩ := hf.neg T ea
    obtain ⟨C, dx', fs', e', hC, hl⟩ := hg.ins "crowd" (by decide +kernel) (by decide +kernel) (by decide +kernel) (by decide +kernel)
    refine ⟨_, (pss_one (ps_ret (pe_op op_xor (pe_fn G_all_stands hr (pa_cons (pv 1) pa_nil)) (pe_dy D_crowd hr (pe_fld (pv 0) rfl) (pa_cons (pv 1) pa_nil))))), ?_⟩
    walk_at "rd0"
    refine ⟨m, rfl, hm, ?_⟩
    walk_at "rd"
    refine ⟨p, _, _, _, _, rfl, ea, T.c_Not, T.n_Not_part, lk1 _ _, ?_⟩
    walk_at "rd"
    refine ⟨p', C, dx', fs', rfl, e', hC, hl, ?_⟩
    walk_at "rd"
    refine ⟨e', p', m, g, rfl, hm, hg, ?_⟩
    walk_at "rd"
    rw [crowd_neg] at q
    rw [xor_nat]
    exact q
theorem ok_And_crowd (T : Txt K mg t) (D_crowd : ∀ C, isFm t C → MeS P w K mg base (n + 1) C "crowd" ["self", "many"] (spAt (spCrowd t n) C)) : MeS P w K mg base (n + 2) t.C_And "crowd" ["self", "many"] (spAt (spCrowd t (n + 1)) t.C_And) := by
  refine ⟨T.c_And, _, _, T.F_And_crowd.ok sc_And_crowd (fun vs H Q E h => ?_) (fun cdv A outer s H vs Q E hr h => ?_), T.b_And_crowd, T.h_And_crowd⟩
  · obtain ⟨⟨p, m, f, rfl, _⟩, _⟩ := h
    rfl
  · obtain ⟨⟨p, m, f, rfl, hm, hf, q⟩, a, dx, fs, r, e, ea⟩ := h
    cases e
    have G_all_stands := ok_all_stands (P := P) (w := w) (base := base) T
    obtain ⟨gs, tp, ps, rfl, rfl, htp, hg⟩ := hf.join (w := .a) T ea
    refine ⟨_, (pss_cons (ss 2 sc_And_crowd.nd (pe_fn G_all_stands hr (pa_cons (pv 1) pa_nil)))
      (pss_cons (ps_for PassesOwn.never rfl (pi_seq (pe_fld (pv 0) rfl)) (sg 3 sc_And_crowd.nd)
      (pss_one (ss 2 sc_And_crowd.nd (pe_op op_and (pv 2) (pe_dy D_crowd hr (pv 3) (pa_cons (pv 1) pa_nil))))))
      (pss_one (ps_ret (pv 2))))), ?_⟩
    walk_at "rd0"
    refine ⟨m, rfl, hm, ?_⟩
    walk_at "rd"
    refine ⟨p, _, _, _, _, rfl, ea, T.c_And, T.n_And_parts, lk1 _ _, ?_⟩
    refine seqT (xs := ps.map V.ref) (fun i σ H' => H' = H ∧ ∃ v, σ = [some (.ref p), some (.int (m : Int)), some (.int (((Fm.join .a (gs.take i)).crowd (2 ^ m) : Nat) : Int)), v]) ⟨rfl, _, by rw [List.take_zero, crowd_join_nil]; simp only [unit3]; rw [bits_true]; all_goals rfl⟩ (fun i σ H' _ hp => by obtain ⟨rfl, _⟩ := hp; exact SqT.of htp) ?_ ?_
    · rintro i x σ H' hx ⟨rfl, v, rfl⟩
      obtain ⟨p', rfl, hx'⟩ := get_ref hx
      obtain ⟨g, hgi, hf'⟩ := paired_get hg hx'
      obtain ⟨C, dx', fs', e', hC, hl⟩ := hf'.ins "crowd" (by decide +kernel) (by decide +kernel) (by decide +kernel) (by decide +kernel)
      walk_at "rd"
      refine ⟨p', C, dx', fs', rfl, e', hC, hl, ?_⟩
      walk_at "rd"
      refine ⟨e', p', m, g, rfl, hm, hf', ?_⟩
      walk_at "rd"
      refine ⟨rfl, some (.ref p'), ?_⟩
      rw [and_nat, take_snoc hgi, crowd_join_snoc]
      all_goals rfl
    · rintro σ H' ⟨rfl, v, rfl⟩
      walk_at "rd"
      rw [List.length_map, paired_len hg, List.take_length]
      exact q
theorem ok_Or_crowd (T : Txt K mg t) (D_crowd : ∀ C, isFm t C → MeS P w K mg base (n + 1) C "crowd" ["self", "many"] (spAt (spCrowd t n) C)) : MeS P w K mg base (n + 2) t.C_Or "crowd" ["self", "many"] (spAt (spCrowd t (n + 1)) t.C_Or) := by
  refine ⟨T.c_Or, _, _, T.F_Or_crowd.ok sc_Or_crowd (fun vs H Q E h => ?_) (fun cdv A outer s H vs Q E hr h => ?_), T.b_Or_crowd, T.h_Or_crowd⟩
  · obtain ⟨⟨p, m, f, rfl, _⟩, _⟩ := h
    rfl
  · obtain ⟨⟨p, m, f, rfl, hm, hf, q⟩, a, dx, fs, r, e, ea⟩ := h
    cases e
    have G_all_stands := ok_all_stands (P := P) (w := w) (base := base) T
    obtain ⟨gs, tp, ps, rfl, rfl, htp, hg⟩ := hf.join (w := .o) T ea
    refine ⟨_, (pss_cons (ss 2 sc_Or_crowd.nd pe_int)
      (pss_cons (ps_for PassesOwn.never rfl (pi_seq (pe_fld (pv 0) rfl)) (sg 3 sc_Or_crowd.nd)
      (pss_one (ss 2 sc_Or_crowd.nd (pe_op op_or (pv 2) (pe_dy D_crowd hr (pv 3) (pa_cons (pv 1) pa_nil))))))
      (pss_one (ps_ret (pv 2))))), ?_⟩
    walk_at "rd0"
    refine ⟨p, _, _, _, _, rfl, ea, T.c_Or, T.n_Or_parts, lk1 _ _, ?_⟩
    refine seqT (xs := ps.map V.ref) (fun i σ H' => H' = H ∧ ∃ v, σ = [some (.ref p), some (.int (m : Int)), some (.int (((Fm.join .o (gs.take i)).crowd (2 ^ m) : Nat) : Int)), v]) ⟨rfl, _, by rw [List.take_zero, crowd_join_nil]; simp only [unit3]; rw [bits_false]; all_goals rfl⟩ (fun i σ H' _ hp => by obtain ⟨rfl, _⟩ := hp; exact SqT.of htp) ?_ ?_
    · rintro i x σ H' hx ⟨rfl, v, rfl⟩
      obtain ⟨p', rfl, hx'⟩ := get_ref hx
      obtain ⟨g, hgi, hf'⟩ := paired_get hg hx'
      obtain ⟨C, dx', fs', e', hC, hl⟩ := hf'.ins "crowd" (by decide +kernel) (by decide +kernel) (by decide +kernel) (by decide +kernel)
      walk_at "rd"
      refine ⟨p', C, dx', fs', rfl, e', hC, hl, ?_⟩
      walk_at "rd"
      refine ⟨e', p', m, g, rfl, hm, hf', ?_⟩
      walk_at "rd"
      refine ⟨rfl, some (.ref p'), ?_⟩
      rw [or_nat, take_snoc hgi, crowd_join_snoc]
      all_goals rfl
    · rintro σ H' ⟨rfl, v, rfl⟩
      walk_at "rd"
      rw [List.length_map, paired_len hg, List.take_length]
      exact q
theorem D_crowd_of (T : Txt K mg t) : ∀ n : Nat, ∀ C, isFm t C → MeS P w K mg base (n + 1) C "crowd" ["self", "many"] (spAt (spCrowd t n) C)
  | 0 => by
    have no : ∀ C vs H Q E, ¬ spAt (spCrowd t 0) C vs H Q E := fun C vs H Q E h => by
      obtain ⟨⟨p, s, f, _, _, h, _⟩, _⟩ := h
      exact h
    rintro C (rfl | rfl | rfl | rfl | rfl)
    · exact (me_none (no _) T.c_Lamp T.b_Lamp_crowd T.h_Lamp_crowd).up (by omega)
    · exact (me_none (no _) T.c_Sure T.b_Sure_crowd T.h_Sure_crowd).up (by omega)
    · exact (me_none (no _) T.c_Not T.b_Not_crowd T.h_Not_crowd).up (by omega)
    · exact (me_none (no _) T.c_And T.b_And_crowd T.h_And_crowd).up (by omega)
    · exact (me_none (no _) T.c_Or T.b_Or_crowd T.h_Or_crowd).up (by omega)
  | n + 1 => by
    have ih := D_crowd_of T n
    rintro C (rfl | rfl | rfl | rfl | rfl)
    · exact ok_Lamp_crowd T
    · exact ok_Sure_crowd T
    · exact ok_Not_crowd T ih
    · exact ok_And_crowd T ih
    · exact ok_Or_crowd T ih
end

def word3 : W3 → Str
  | .a => " and "
  | .e => " either "
  | .o => " or "
def rank3 : W3 → Nat
  | .a => 1
  | .e => 2
  | .o => 3
def fLoose : Fm → Nat
  | .join w _ => rank3 w
  | _ => 0
def brk (b : Bool) (z : Str) : Str := if b = true then Str.empty ++ "(" ++ z ++ ")" else z
mutual
def fShown (ns : List Str) : Fm → Str
  | .lamp k => ns.getD k Str.empty
  | .sure b => if b = true then "yes" else "no"
  | .neg f => Str.empty ++ "not " ++ brk (decide (1 ≤ (fLoose f))) (fShown ns f)
  | .join w fs => Txt.join (word3 w) (fShownL ns (rank3 w) fs)
def fShownL (ns : List Str) (r : Nat) : List Fm → List Str
  | [] => []
  | f :: fs => brk (decide (r ≤ (fLoose f))) (fShown ns f) :: fShownL ns r fs
end
def partS (ns : List Str) (r : Nat) (f : Fm) : Str := brk (decide (r ≤ (fLoose f))) (fShown ns f)
theorem shownL_eq (ns : List Str) (r : Nat) : ∀ fs : List Fm, fShownL ns r fs = fs.map (partS ns r)
  | [] => by simp [fShownL]
  | f :: fs => by simp [fShownL, shownL_eq ns r fs, partS]
theorem shown_join (ns : List Str) (w : W3) (fs : List Fm) : fShown ns (Fm.join w fs) = Txt.join (word3 w) (fs.map (partS ns (rank3 w))) := by
  simp [fShown, shownL_eq]

mutual
def fWt : Fm → Nat
  | .lamp _ => 1
  | .sure _ => 1
  | .neg f => 1 + fWt f
  | .join _ fs => 1 + fWtL fs
def fWtL : List Fm → Nat
  | [] => 0
  | f :: fs => 1 + fWt f + fWtL fs
end
theorem wt_mem {fs : List Fm} {f : Fm} (h : f ∈ fs) : fWt f < fWtL fs := by
  induction fs with
  | nil => cases h
  | cons g gs ih =>
    rw [fWtL]
    rcases List.mem_cons.mp h with rfl | h
    · omega
    · have := ih h
      omega
theorem wt_len : ∀ fs : List Fm, fs.length ≤ fWtL fs
  | [] => Nat.zero_le _
  | f :: fs => by rw [List.length_cons, fWtL]; have := wt_len fs; omega
theorem brk_len (b : Bool) (z : Str) : (brk b z).length ≤ z.length + 2 := by
  unfold brk
  split
  · rw [len_append, len_append, len_append]
    have : Str.length Str.empty = 0 := rfl
    have : Str.length "(" = 1 := by decide +kernel
    have : Str.length ")" = 1 := by decide +kernel
    omega
  · omega
theorem word3_len (w : W3) : (word3 w).length ≤ 8 := by cases w <;> decide +kernel
theorem getD_len {ns : List Str} {B : Nat} (h : ∀ z ∈ ns, z.length ≤ B) (k : Nat) : (ns.getD k Str.empty).length ≤ B := by
  rw [List.getD_eq_getElem?_getD]
  cases e : ns[k]? with
  | none => exact Nat.zero_le _
  | some z => exact h z (List.mem_of_getElem? e)
mutual
theorem shown_len {ns : List Str} (h : ∀ z ∈ ns, z.length ≤ 20) : ∀ f : Fm, (fShown ns f).length ≤ 20 * fWt f
  | .lamp k => by simp only [fShown, fWt]; exact getD_len h k
  | .sure b => by cases b <;> simp only [fShown, fWt] <;> decide +kernel
  | .neg f => by
    have a := shown_len h f
    have b := brk_len (decide (1 ≤ (fLoose f))) (fShown ns f)
    have c : Str.length "not " = 4 := by decide +kernel
    have d : Str.length Str.empty = 0 := rfl
    simp only [fShown, fWt]
    rw [len_append, len_append]
    omega
  | .join w fs => by
    have a := shownL_len h (rank3 w) fs
    have b := word3_len w
    simp only [fShown, fWt]
    have c : (Txt.join (word3 w) (fShownL ns (rank3 w) fs)).length ≤ ((fShownL ns (rank3 w) fs).map (·.length)).sum + (fShownL ns (rank3 w) fs).length * (word3 w).length := by
      show (Builtin.Str.glued _ _).length ≤ _
      rw [StrLaws.glued_eq_join]
      exact StrLaws.join_length_le _ _
    have d : (fShownL ns (rank3 w) fs).length * (word3 w).length ≤ (fShownL ns (rank3 w) fs).length * 8 := Nat.mul_le_mul_left _ b
    omega
theorem shownL_len {ns : List Str} (h : ∀ z ∈ ns, z.length ≤ 20) (r : Nat) : ∀ fs : List Fm, ((fShownL ns r fs).map (·.length)).sum + (fShownL ns r fs).length * 8 ≤ 20 * fWtL fs
  | [] => by simp [fShownL]
  | f :: fs => by
    have a := shown_len h f
    have b := brk_len (decide (r ≤ (fLoose f))) (fShown ns f)
    have c := shownL_len h r fs
    simp only [fShownL, fWtL, List.map_cons, List.sum_cons, List.length_cons]
    omega
end
theorem joinOk_shown {ns : List Str} (h : ∀ z ∈ ns, z.length ≤ 20) (w : W3) (fs : List Fm) (hw : fWtL fs ≤ 1000) : JoinOk (word3 w) (fs.map (partS ns (rank3 w))) = true := by
  rw [← shownL_eq]
  unfold JoinOk Builtin.Str.tooLong
  rw [StrLaws.joinTotal]
  have a := shownL_len h (rank3 w) fs
  have b := word3_len w
  have d : (fShownL ns (rank3 w) fs).length * (word3 w).length ≤ (fShownL ns (rank3 w) fs).length * 8 := Nat.mul_le_mul_left _ b
  rw [decide_eq_false (Nat.not_lt.mpr (small (by omega)))]
  rfl

section
variable {P : Program} {w : World} {K : PySem.W.Frag} {mg : Str → Option Value} {base : Heap} {t : Ad} {n : Nat}
def spLoose (t : Ad) : Sp := fun vs H Q _ => ∃ (p : Addr) (f : Fm) (n : Nat), vs = [.ref p] ∧ FmAt t H (n + 1) p f ∧ Q (.int (fLoose f : Int)) H
theorem D_looseness_of (T : Txt K mg t) : ∀ C, isFm t C → MeS P w K mg base 1 C "looseness" ["self"] (spAt (spLoose t) C) := by
  rintro C (rfl | rfl | rfl | rfl | rfl)
  · refine ⟨T.c_Lamp, _, _, T.F_Formula_looseness.ok sc_Formula_looseness (fun vs H Q E h => ?_) (fun cdv A outer s H vs Q E hr h => ?_), T.b_Formula_looseness, T.h_Lamp_looseness⟩
    · obtain ⟨⟨p, f, n, rfl, _⟩, _⟩ := h
      rfl
    · obtain ⟨⟨p, f, n, rfl, hf, q⟩, a, dx, fs, r, e, ea⟩ := h
      cases e
      obtain ⟨k, rfl, rfl⟩ := hf.lamp T ea
      refine ⟨_, (pss_one (ps_ret pe_int)), ?_⟩
      walk_at "rd0"
      exact q
  · refine ⟨T.c_Sure, _, _, T.F_Formula_looseness.ok sc_Formula_looseness (fun vs H Q E h => ?_) (fun cdv A outer s H vs Q E hr h => ?_), T.b_Formula_looseness, T.h_Sure_looseness⟩
    · obtain ⟨⟨p, f, n, rfl, _⟩, _⟩ := h
      rfl
    · obtain ⟨⟨p, f, n, rfl, hf, q⟩, a, dx, fs, r, e, ea⟩ := h
      cases e
      obtain ⟨b, rfl, rfl⟩ := hf.sure T ea
      refine ⟨_, (pss_one (ps_ret pe_int)), ?_⟩
      walk_at "rd0"
      exact q
  · refine ⟨T.c_Not, _, _, T.F_Formula_looseness.ok sc_Formula_looseness (fun vs H Q E h => ?_) (fun cdv A outer s H vs Q E hr h => ?_), T.b_Formula_looseness, T.h_Not_looseness⟩
    · obtain ⟨⟨p, f, n, rfl, _⟩, _⟩ := h
      rfl
    · obtain ⟨⟨p, f, n, rfl, hf, q⟩, a, dx, fs, r, e, ea⟩ := h
      cases e
      obtain ⟨g, p2, rfl, rfl, hg⟩ := hf.neg T ea
      refine ⟨_, (pss_one (ps_ret pe_int)), ?_⟩
      walk_at "rd0"
      exact q
  · refine ⟨T.c_And, _, _, T.F_And_looseness.ok sc_And_looseness (fun vs H Q E h => ?_) (fun cdv A outer s H vs Q E hr h => ?_), T.b_And_looseness, T.h_And_looseness⟩
    · obtain ⟨⟨p, f, n, rfl, _⟩, _⟩ := h
      rfl
    · obtain ⟨⟨p, f, n, rfl, hf, q⟩, a, dx, fs, r, e, ea⟩ := h
      cases e
      obtain ⟨gs, tp, ps, rfl, rfl, htp, hg⟩ := hf.join (w := .a) T ea
      refine ⟨_, (pss_one (ps_ret pe_int)), ?_⟩
      walk_at "rd0"
      exact q
  · refine ⟨T.c_Or, _, _, T.F_Or_looseness.ok sc_Or_looseness (fun vs H Q E h => ?_) (fun cdv A outer s H vs Q E hr h => ?_), T.b_Or_looseness, T.h_Or_looseness⟩
    · obtain ⟨⟨p, f, n, rfl, _⟩, _⟩ := h
      rfl
    · obtain ⟨⟨p, f, n, rfl, hf, q⟩, a, dx, fs, r, e, ea⟩ := h
      cases e
      obtain ⟨gs, tp, ps, rfl, rfl, htp, hg⟩ := hf.join (w := .o) T ea
      refine ⟨_, (pss_one (ps_ret pe_int)), ?_⟩
      walk_at "rd0"
      exact q
def isJn (t : Ad) (C : Addr) : Prop := ∃ w, w ≠ .e ∧ C = cw t w
def spBetween (t : Ad) : Sp := fun vs H Q _ => ∃ (p dx : Addr) (fs : List (Str × V)) (w : W3), vs = [.ref p] ∧ H p = some (.ins (cw t w) dx fs) ∧ Q (.str (word3 w)) H
theorem D_between_of (T : Txt K mg t) : ∀ C, isJn t C → MeS P w K mg base 1 C "between" ["self"] (spAt (spBetween t) C) := by
  rintro C ⟨v, hv, rfl⟩
  cases v
  rotate_left
  · exact absurd rfl hv
  rotate_left
  · refine ⟨T.c_And, _, _, T.F_And_between.ok sc_And_between (fun vs H Q E h => ?_) (fun cdv A outer s H vs Q E hr h => ?_), T.b_And_between, T.h_And_between⟩
    · obtain ⟨⟨p, dx, fs, w, rfl, _⟩, _⟩ := h
      rfl
    · obtain ⟨⟨p, dx, fs, w, rfl, hp, q⟩, a, dx', fs', r, e, ea⟩ := h
      cases e
      rw [ea] at hp
      have e1 : cw t .a = cw t w := (HO.ins.inj (Option.some.inj hp)).1
      obtain rfl := cw_inj T e1
      refine ⟨_, (pss_one (ps_ret pe_str)), ?_⟩
      walk_at "rd0"
      exact q
  · refine ⟨T.c_Or, _, _, T.F_Or_between.ok sc_Or_between (fun vs H Q E h => ?_) (fun cdv A outer s H vs Q E hr h => ?_), T.b_Or_between, T.h_Or_between⟩
    · obtain ⟨⟨p, dx, fs, w, rfl, _⟩, _⟩ := h
      rfl
    · obtain ⟨⟨p, dx, fs, w, rfl, hp, q⟩, a, dx', fs', r, e, ea⟩ := h
      cases e
      rw [ea] at hp
      have e1 : cw t .o = cw t w := (HO.ins.inj (Option.some.inj hp)).1
      obtain rfl := cw_inj T e1
      refine ⟨_, (pss_one (ps_ret pe_str)), ?_⟩
      walk_at "rd0"
      exact q
def spBrk (t : Ad) : Sp := fun vs H Q _ => ∃ (p : Addr) (f : Fm) (n r : Nat) (z : Str), vs = [.ref p, .str z, .int (r : Int)] ∧ FmAt t H (n + 1) p f ∧ z.length ≤ 900000 ∧ Q (.str (brk (decide (r ≤ fLoose f)) z)) H
theorem ok_bracketed (T : Txt K mg t) : FnS P w K mg base 2 "bracketed" ["part", "text", "bound"] ((spBrk t)) := by
  refine ⟨_, _, T.F_bracketed.ok sc_bracketed (fun vs H Q E h => ?_) (fun cdv A outer s H vs Q E hr h => ?_), T.b_bracketed, T.F_bracketed.kp, T.m_bracketed⟩
  · obtain ⟨p, f, n, r, z, rfl, hf, hz, q⟩ := h
    rfl
  obtain ⟨p, f, n, r, z, rfl, hf, hz, q⟩ := h
  have D_looseness := D_looseness_of (P := P) (w := w) (base := base) T
  obtain ⟨C, dx', fs', e', hC, hl⟩ := hf.ins "looseness" (by decide +kernel) (by decide +kernel) (by decide +kernel) (by decide +kernel)
  have l0 : Str.length Str.empty = 0 := rfl
  have l1 : Str.length "(" = 1 := by decide +kernel
  have l2 : Str.length ")" = 1 := by decide +kernel
  refine ⟨_, (pss_one (ps_ret (pe_ifExp (pt_cmpR op_ge (pe_dy0 D_looseness hr (pv 0)) (pv 2) (nomark _)) (pe_joined (pj_cons pe_str (pj_cons (pe_fmt (pv 1)) (pj_cons pe_str pj_nil)))) (pv 1)))), ?_⟩
  walk_at "rd0"
  refine ⟨p, C, dx', fs', rfl, e', hC, hl, ?_⟩
  walk_at "rd"
  refine ⟨e', p, f, n, rfl, hf, ?_⟩
  walk_at "rd"
  refine i_ifd (fun h => ?_) (fun h => ?_)
  · rw [decide_eq_true (by omega)] at q
    walk_at "rd"
    refine ⟨_, rfl, small (by rw [len_append]; omega), ?_⟩
    walk_at "rd"
    refine ⟨_, rfl, small (by omega), _, rfl, small (by rw [len_append, len_append]; omega), ?_⟩
    walk_at "rd"
    refine ⟨_, rfl, small (by rw [len_append, len_append, len_append]; omega), ?_⟩
    refine i_jn (by rw [len_append, len_append, len_append]; omega) ?_
    exact q
  · rw [decide_eq_false (by omega)] at q
    walk_at "rd"
    exact q
def spShown (t : Ad) (n : Nat) : Sp := fun vs H Q _ => ∃ (p nl : Addr) (f : Fm) (ns : List Str), vs = [.ref p, .ref nl] ∧ FmAt t H n p f ∧ H nl = some (.lst (ns.map V.str)) ∧ (∀ z ∈ ns, z.length ≤ 20) ∧ f.low ns.length = true ∧ fWt f ≤ 1000 ∧ ∀ H', Same H H' → Q (.str (fShown ns f)) H'
theorem ok_Lamp_shown (T : Txt K mg t) : MeS P w K mg base (n + 3) t.C_Lamp "shown" ["self", "names"] (spAt (spShown t (n + 1)) t.C_Lamp) := by
  refine ⟨T.c_Lamp, _, _, T.F_Lamp_shown.ok sc_Lamp_shown (fun vs H Q E h => ?_) (fun cdv A outer s H vs Q E hr h => ?_), T.b_Lamp_shown, T.h_Lamp_shown⟩
  · obtain ⟨⟨p, nl, f, ns, rfl, _⟩, _⟩ := h
    rfl
  · obtain ⟨⟨p, nl, f, ns, rfl, hf, hn, h20, hlow, hwt, q⟩, a, dx, fs, r, e, ea⟩ := h
    cases e
    obtain ⟨k, rfl, rfl⟩ := hf.lamp T ea
    simp only [Fm.low, decide_eq_true_iff] at hlow
    refine ⟨_, (pss_one (ps_ret (pe_ix ix_seq (pv 1) (pe_fld (pv 0) rfl) (fun _ _ => rfl)))), ?_⟩
    walk_at "rd0"
    refine ⟨p, _, _, _, _, rfl, ea, T.c_Lamp, T.n_Lamp_at, lk1 _ _, ?_⟩
    walk_at "rd"
    refine i_ixL (v := .str (ns.getD k Str.empty)) hn (by rw [List.getElem?_map, List.getD_eq_getElem?_getD, List.getElem?_eq_getElem hlow]; rfl) ?_
    have := q H (Same.refl _)
    simpa only [fShown] using this
theorem ok_Sure_shown (T : Txt K mg t) : MeS P w K mg base (n + 3) t.C_Sure "shown" ["self", "names"] (spAt (spShown t (n + 1)) t.C_Sure) := by
  refine ⟨T.c_Sure, _, _, T.F_Sure_shown.ok sc_Sure_shown (fun vs H Q E h => ?_) (fun cdv A outer s H vs Q E hr h => ?_), T.b_Sure_shown, T.h_Sure_shown⟩
  · obtain ⟨⟨p, nl, f, ns, rfl, _⟩, _⟩ := h
    rfl
  · obtain ⟨⟨p, nl, f, ns, rfl, hf, hn, h20, hlow, hwt, q⟩, a, dx, fs, r, e, ea⟩ := h
    cases e
    obtain ⟨b, rfl, rfl⟩ := hf.sure T ea
    have q' := q H (Same.refl _)
    simp only [fShown] at q'
    refine ⟨_, (pss_one (ps_ret (pe_ifExp (pt_truth (pe_fld (pv 0) rfl) (fun _ => rfl)) pe_str pe_str))), ?_⟩
    walk_at "rd0"
    refine ⟨p, _, _, _, _, rfl, ea, T.c_Sure, T.n_Sure_truth, lk1 _ _, ?_⟩
    walk_at "rd"
    refine i_ifb (fun h => ?_) (fun h => ?_)
    · rw [if_pos h] at q'
      walk_at "rd"
      exact q'
    · rw [if_neg (by rw [h]; decide)] at q'
      walk_at "rd"
      exact q'
theorem ok_Not_shown (T : Txt K mg t) (D_shown : ∀ C, isFm t C → MeS P w K mg base (n + 2) C "shown" ["self", "names"] (spAt (spShown t n) C)) : MeS P w K mg base (n + 3) t.C_Not "shown" ["self", "names"] (spAt (spShown t (n + 1)) t.C_Not) := by
  refine ⟨T.c_Not, _, _, T.F_Not_shown.ok sc_Not_shown (fun vs H Q E h => ?_) (fun cdv A outer s H vs Q E hr h => ?_), T.b_Not_shown, T.h_Not_shown⟩
  · obtain ⟨⟨p, nl, f, ns, rfl, _⟩, _⟩ := h
    rfl
  · obtain ⟨⟨p, nl, f, ns, rfl, hf, hn, h20, hlow, hwt, q⟩, a, dx, fs, r, e, ea⟩ := h
    cases e
    obtain ⟨g, p', rfl, rfl, hg⟩ := hf.neg T ea
    simp only [Fm.low] at hlow
    simp only [fWt] at hwt
    have G_bracketed := ok_bracketed (P := P) (w := w) (base := base) T
    obtain ⟨C, dx', fs', e', hC, hl⟩ := hg.ins "shown" (by decide +kernel) (by decide +kernel) (by decide +kernel) (by decide +kernel)
    have hsl := shown_len h20 g
    have hbl := brk_len (decide (1 ≤ fLoose g)) (fShown ns g)
    have l0 : Str.length Str.empty = 0 := rfl
    have l1 : Str.length "not " = 4 := by decide +kernel
    refine ⟨_, (pss_cons (ss 2 sc_Not_shown.nd (pe_fn G_bracketed hr (pa_cons (pe_fld (pv 0) rfl) (pa_cons (pe_dy D_shown hr (pe_fld (pv 0) rfl) (pa_cons (pv 1) pa_nil)) (pa_cons pe_int pa_nil)))))
      (pss_one (ps_ret (pe_joined (pj_cons pe_str (pj_cons (pe_fmt (pv 2)) pj_nil)))))), ?_⟩
    walk_at "rd0"
    refine ⟨p, _, _, _, _, rfl, ea, T.c_Not, T.n_Not_part, lk1 _ _, ?_⟩
    walk_at "rd"
    refine ⟨p, _, _, _, _, rfl, ea, T.c_Not, T.n_Not_part, lk1 _ _, ?_⟩
    walk_at "rd"
    refine ⟨p', C, dx', fs', rfl, e', hC, hl, ?_⟩
    walk_at "rd"
    refine ⟨e', p', nl, g, ns, rfl, hg, hn, h20, hlow, by omega, fun H1 s1 => ?_⟩
    walk_at "rd"
    cases n with
    | zero => exact hg.elim
    | succ n =>
      refine ⟨p', g, n, 1, _, rfl, FmAt.mono (Ext.of s1) hg, by omega, ?_⟩
      walk_at "rd"
      refine ⟨_, rfl, small (by rw [len_append]; omega), ?_⟩
      walk_at "rd"
      refine ⟨_, rfl, small (by omega), _, rfl, small (by rw [len_append, len_append]; omega), ?_⟩
      refine i_jn (by rw [len_append, len_append]; omega) ?_
      have := q H1 s1
      simpa only [fShown] using this
theorem ok_Joined_shown {v : W3} (T : Txt K mg t) (cl : Cls K (cw t v)) (na : NoAttr K (cw t v) "parts") (me : Meth K (cw t v) "shown" t.f_Joined_shown) (D_shown : ∀ C, isFm t C → MeS P w K mg base (n + 2) C "shown" ["self", "names"] (spAt (spShown t n) C)) : MeS P w K mg base (n + 3) (cw t v) "shown" ["self", "names"] (spAt (spShown t (n + 1)) (cw t v)) := by
  refine ⟨cl, _, _, T.F_Joined_shown.ok sc_Joined_shown (fun vs H Q E h => ?_) (fun cdv A outer s H vs Q E hr h => ?_), T.b_Joined_shown, me⟩
  · obtain ⟨⟨p, nl, f, ns, rfl, _⟩, _⟩ := h
    rfl
  · obtain ⟨⟨p, nl, f, ns, rfl, hf, hn, h20, hlow, hwt, q⟩, a, dx, fs, r, e, ea⟩ := h
    cases e
    obtain ⟨gs, tp, ps, rfl, rfl, htp, hg⟩ := hf.join T ea
    rw [low_join, List.all_eq_true] at hlow
    simp only [fWt] at hwt
    have G_bracketed := ok_bracketed (P := P) (w := w) (base := base) T
    have D_looseness := D_looseness_of (P := P) (w := w) (base := base) T
    have D_between := D_between_of (P := P) (w := w) (base := base) T
    obtain ⟨C0, dx0, fs0, e0, hC0, hl0⟩ := hf.ins "looseness" (by decide +kernel) (by decide +kernel) (by decide +kernel) (by decide +kernel)
    refine ⟨_, (pss_cons (ss 2 sc_Joined_shown.nd (pe_lst pa_nil))
      (pss_cons (ps_for PassesOwn.never rfl (pi_seq (pe_fld (pv 0) rfl)) (sg 3 sc_Joined_shown.nd)
      (pss_one (ps_expr (pe_bm PySem.F.plainAttrs_list PySem.F.slot_list_append PySem.F.type_list_append mt_append (pv 2) (pa_cons (pe_fn G_bracketed hr (pa_cons (pv 3) (pa_cons (pe_dy D_shown hr (pv 3) (pa_cons (pv 1) pa_nil)) (pa_cons (pe_dy0 D_looseness hr (pv 0)) pa_nil)))) pa_nil)))))
      (pss_one (ps_ret (pe_bm PySem.F.plainAttrs_str PySem.F.slot_str_join PySem.F.type_str_join ms_join (pe_dy0 D_between hr (pv 0)) (pa_cons (pv 2) pa_nil)))))), ?_⟩
    walk_at "rd0"
    refine j_lst (by simp) fun tl H1 s1 n1 e1 => ?_
    walk_at "rd"
    refine ⟨p, _, _, _, _, rfl, s1 _ _ ea, cl, na, lk1 _ _, ?_⟩
    refine seqT (xs := ps.map V.ref) (fun i σ H' => Same H H' ∧ H' tl = some (.lst (((gs.take i).map (partS ns (rank3 v))).map V.str)) ∧ ∃ v3, σ = [some (.ref p), some (.ref nl), some (.ref tl), v3]) ⟨s1, e1, _, rfl⟩ (fun i σ H' _ hp => by obtain ⟨s2, _⟩ := hp; exact SqT.of (s2 _ _ htp)) ?_ ?_
    · rintro i x σ H2 hx ⟨s2, e2, v3, rfl⟩
      obtain ⟨p', rfl, hx'⟩ := get_ref hx
      obtain ⟨g, hgi, hf'⟩ := paired_get hg hx'
      have hgm := List.mem_of_getElem? hgi
      have hgw := wt_mem hgm
      have hsl := shown_len h20 g
      have hf2 := FmAt.mono (Ext.of s2) hf'
      obtain ⟨C, dx', fs', e', hC, hl⟩ := hf2.ins "shown" (by decide +kernel) (by decide +kernel) (by decide +kernel) (by decide +kernel)
      walk_at "rd"
      refine ⟨tyL e2, ?_⟩
      walk_at "rd"
      refine ⟨p', C, dx', fs', rfl, e', hC, hl, ?_⟩
      walk_at "rd"
      refine ⟨e', p', nl, g, ns, rfl, hf2, s2 _ _ hn, h20, hlow g hgm, by omega, fun H3 s3 => ?_⟩
      walk_at "rd"
      refine ⟨p, C0, dx0, fs0, rfl, s3 _ _ (s2 _ _ e0), hC0, hl0, ?_⟩
      walk_at "rd"
      have hfj := FmAt.mono (Ext.of (s2.trans s3)) hf
      refine ⟨s3 _ _ (s2 _ _ e0), p, _, n, rfl, hfj, ?_⟩
      walk_at "rd"
      cases n with
      | zero => exact hf'.elim
      | succ n =>
        refine ⟨p', g, n, rank3 v, _, rfl, FmAt.mono (Ext.of s3) hf2, by omega, ?_⟩
        walk_at "rd"
        refine j_append (s3 _ _ e2) (by rw [List.length_map, List.length_map, List.length_take]; have := wt_len gs; omega) fun H4 b4 e4 => ?_
        walk_at "rd"
        refine ⟨b4.same n1 (s2.trans s3), ?_, _, rfl⟩
        rw [take_snoc hgi, List.map_append, List.map_append]
        exact e4
    · rintro σ H2 ⟨s2, e2, v3, rfl⟩
      rw [List.length_map, paired_len hg, List.take_length] at e2
      walk_at "rd"
      refine ⟨p, _, dx, _, rfl, s2 _ _ ea, ⟨v, (by rintro rfl; exact hf), rfl⟩, lk0 _ (by decide +kernel), ?_⟩
      walk_at "rd"
      refine ⟨s2 _ _ ea, p, dx, _, v, rfl, s2 _ _ ea, ?_⟩
      walk_at "rd"
      refine ⟨tyS, ?_⟩
      walk_at "rd"
      refine ⟨_, tl, _, rfl, rfl, SqL.of e2, joinOk_shown h20 v gs (by omega), ?_⟩
      have := q H2 s2
      rw [shown_join] at this
      exact this
theorem me_noneK {k : Nat} {C f : Addr} {fd : FuncData} {m : Str} {ps : List Str} {sp : Sp} (no : ∀ vs H Q E, ¬ sp vs H Q E) (c : Cls K C) (b : Binds K fd ps []) (h : Meth K C m f) : MeS P w K mg base k C m ps sp :=
  ⟨c, f, fd, ⟨fun vs H Q E h => absurd h (no vs H Q E), fun A outer s H args us vs Q E _ _ _ _ h => absurd h (no vs H Q E)⟩, b, h⟩
theorem D_shown_of (T : Txt K mg t) : ∀ n : Nat, ∀ C, isFm t C → MeS P w K mg base (n + 2) C "shown" ["self", "names"] (spAt (spShown t n) C)
  | 0 => by
    have no : ∀ C vs H Q E, ¬ spAt (spShown t 0) C vs H Q E := fun C vs H Q E h => by
      obtain ⟨⟨p, nl, f, ns, _, h, _⟩, _⟩ := h
      exact h
    rintro C (rfl | rfl | rfl | rfl | rfl)
    · exact me_noneK (no _) T.c_Lamp T.b_Lamp_shown T.h_Lamp_shown
    · exact me_noneK (no _) T.c_Sure T.b_Sure_shown T.h_Sure_shown
    · exact me_noneK (no _) T.c_Not T.b_Not_shown T.h_Not_shown
    · exact me_noneK (no _) T.c_And T.b_Joined_shown T.h_And_shown
    · exact me_noneK (no _) T.c_Or T.b_Joined_shown T.h_Or_shown
  | n + 1 => by
    have ih := D_shown_of T n
    rintro C (rfl | rfl | rfl | rfl | rfl)
    · exact ok_Lamp_shown T
    · exact ok_Sure_shown T
    · exact ok_Not_shown T ih
    · exact ok_Joined_shown (v := .a) T T.c_And T.n_And_parts T.h_And_shown ih
    · exact ok_Joined_shown (v := .o) T T.c_Or T.n_Or_parts T.h_Or_shown ih

end

mutual
def fLamps : Fm → List Nat
  | .lamp k => [k]
  | .sure _ => []
  | .neg f => fLamps f
  | .join _ fs => dedS (fLampsL fs)
def fLampsL : List Fm → List Nat
  | [] => []
  | f :: fs => fLamps f ++ fLampsL fs
end
def numsL (ks : List Nat) : List V := ks.map fun k : Nat => V.int (k : Int)
theorem lampsL_eq : ∀ fs : List Fm, fLampsL fs = fs.flatMap fLamps
  | [] => by simp [fLampsL]
  | f :: fs => by simp [fLampsL, lampsL_eq fs]
theorem ded_lt {ks : List Nat} : ∀ k ∈ dedS ks, k < 6 := fun k h => by
  unfold dedS at h
  exact List.mem_range.mp (List.mem_filter.mp h).1
theorem lamps_lt : ∀ f : Fm, f.low 6 = true → ∀ k ∈ fLamps f, k < 6
  | .lamp j, h, k, hk => by
    simp only [Fm.low, decide_eq_true_iff] at h
    simp only [fLamps, List.mem_singleton] at hk
    omega
  | .sure b, _, k, hk => by simp [fLamps] at hk
  | .neg f, h, k, hk => by
    simp only [Fm.low] at h
    simp only [fLamps] at hk
    exact lamps_lt f h k hk
  | .join w fs, _, k, hk => by
    simp only [fLamps] at hk
    exact ded_lt k hk
theorem lamps_len : ∀ f : Fm, (fLamps f).length ≤ 6
  | .lamp j => by simp [fLamps]
  | .sure b => by simp [fLamps]
  | .neg f => by simp only [fLamps]; exact lamps_len f
  | .join w fs => by
    simp only [fLamps]
    unfold dedS
    exact Nat.le_trans (List.length_filter_le _ _) (by simp)
theorem flat_len : ∀ fs : List Fm, (fs.flatMap fLamps).length ≤ 6 * fs.length
  | [] => by simp
  | f :: fs => by
    rw [List.flatMap_cons, List.length_append, List.length_cons]
    have := lamps_len f
    have := flat_len fs
    omega
section
variable {P : Program} {w : World} {K : PySem.W.Frag} {mg : Str → Option Value} {base : Heap} {t : Ad} {n : Nat}
def spLamps (t : Ad) (n : Nat) : Sp := fun vs H Q _ => ∃ (p : Addr) (f : Fm), vs = [.ref p] ∧ FmAt t H n p f ∧ f.low 6 = true ∧ fWt f ≤ 1000 ∧ ∀ l H', Same H H' → H l = none → H' l = some (.lst (numsL (fLamps f))) → Q (.ref l) H'
theorem ok_Lamp_lamps (T : Txt K mg t) : MeS P w K mg base (n + 1) t.C_Lamp "lamps" ["self"] (spAt (spLamps t (n + 1)) t.C_Lamp) := by
  refine ⟨T.c_Lamp, _, _, T.F_Lamp_lamps.ok sc_Lamp_lamps (fun vs H Q E h => ?_) (fun cdv A outer s H vs Q E hr h => ?_), T.b_Lamp_lamps, T.h_Lamp_lamps⟩
  · obtain ⟨⟨p, f, rfl, _⟩, _⟩ := h
    rfl
  · obtain ⟨⟨p, f, rfl, hf, hlow, hwt, q⟩, a, dx, fs, r, e, ea⟩ := h
    cases e
    obtain ⟨k, rfl, rfl⟩ := hf.lamp T ea
    refine ⟨_, (pss_one (ps_ret (pe_lst (pa_cons (pe_fld (pv 0) rfl) pa_nil)))), ?_⟩
    walk_at "rd0"
    refine ⟨p, _, _, _, _, rfl, ea, T.c_Lamp, T.n_Lamp_at, lk1 _ _, ?_⟩
    walk_at "rd"
    exact j_lst (by simp) fun l H1 s1 n1 e1 => q l H1 s1 n1 (by simpa only [fLamps, numsL, List.map_cons, List.map_nil] using e1)
theorem ok_Sure_lamps (T : Txt K mg t) : MeS P w K mg base (n + 1) t.C_Sure "lamps" ["self"] (spAt (spLamps t (n + 1)) t.C_Sure) := by
  refine ⟨T.c_Sure, _, _, T.F_Sure_lamps.ok sc_Sure_lamps (fun vs H Q E h => ?_) (fun cdv A outer s H vs Q E hr h => ?_), T.b_Sure_lamps, T.h_Sure_lamps⟩
  · obtain ⟨⟨p, f, rfl, _⟩, _⟩ := h
    rfl
  · obtain ⟨⟨p, f, rfl, hf, hlow, hwt, q⟩, a, dx, fs, r, e, ea⟩ := h
    cases e
    obtain ⟨b, rfl, rfl⟩ := hf.sure T ea
    refine ⟨_, (pss_one (ps_ret (pe_lst pa_nil))), ?_⟩
    walk_at "rd0"
    exact j_lst (by simp) fun l H1 s1 n1 e1 => q l H1 s1 n1 (by simpa only [fLamps, numsL, List.map_nil] using e1)
theorem ok_Not_lamps (T : Txt K mg t) (D_lamps : ∀ C, isFm t C → MeS P w K mg base n C "lamps" ["self"] (spAt (spLamps t n) C)) : MeS P w K mg base (n + 1) t.C_Not "lamps" ["self"] (spAt (spLamps t (n + 1)) t.C_Not) := by
  refine ⟨T.c_Not, _, _, T.F_Not_lamps.ok sc_Not_lamps (fun vs H Q E h => ?_) (fun cdv A outer s H vs Q E hr h => ?_), T.b_Not_lamps, T.h_Not_lamps⟩
  · obtain ⟨⟨p, f, rfl, _⟩, _⟩ := h
    rfl
  · obtain ⟨⟨p, f, rfl, hf, hlow, hwt, q⟩, a, dx, fs, r, e, ea⟩ := h
    cases e
    obtain ⟨g, p', rfl, rfl, hg⟩ := hf.neg T ea
    simp only [Fm.low] at hlow
    simp only [fWt] at hwt
    obtain ⟨C, dx', fs', e', hC, hl⟩ := hg.ins "lamps" (by decide +kernel) (by decide +kernel) (by decide +kernel) (by decide +kernel)
    refine ⟨_, (pss_one (ps_ret (pe_dy0 D_lamps hr (pe_fld (pv 0) rfl)))), ?_⟩
    walk_at "rd0"
    refine ⟨p, _, _, _, _, rfl, ea, T.c_Not, T.n_Not_part, lk1 _ _, ?_⟩
    walk_at "rd"
    refine ⟨p', C, dx', fs', rfl, e', hC, hl, ?_⟩
    walk_at "rd"
    refine ⟨e', p', g, rfl, hg, hlow, by omega, fun l H1 s1 n1 e1 => ?_⟩
    exact q l H1 s1 n1 (by simpa only [fLamps] using e1)
theorem ok_Joined_lamps {v : W3} (T : Txt K mg t) (cl : Cls K (cw t v)) (na : NoAttr K (cw t v) "parts") (me : Meth K (cw t v) "lamps" t.f_Joined_lamps) (D_lamps : ∀ C, isFm t C → MeS P w K mg base n C "lamps" ["self"] (spAt (spLamps t n) C)) : MeS P w K mg base (n + 1) (cw t v) "lamps" ["self"] (spAt (spLamps t (n + 1)) (cw t v)) := by
  refine ⟨cl, _, _, T.F_Joined_lamps.ok sc_Joined_lamps (fun vs H Q E h => ?_) (fun cdv A outer s H vs Q E hr h => ?_), T.b_Joined_lamps, me⟩
  · obtain ⟨⟨p, f, rfl, _⟩, _⟩ := h
    rfl
  · obtain ⟨⟨p, f, rfl, hf, hlow, hwt, q⟩, a, dx, fs, r, e, ea⟩ := h
    cases e
    obtain ⟨gs, tp, ps, rfl, rfl, htp, hg⟩ := hf.join T ea
    rw [low_join, List.all_eq_true] at hlow
    simp only [fWt] at hwt
    have hgl := wt_len gs
    refine ⟨_, (pss_cons (ss 1 sc_Joined_lamps.nd (pe_lst pa_nil))
      (pss_cons (ps_for PassesOwn.never rfl (pi_seq (pe_fld (pv 0) rfl)) (sg 2 sc_Joined_lamps.nd)
      (pss_one (ps_expr (pe_bm PySem.F.plainAttrs_list PySem.F.slot_list_extend PySem.F.type_list_extend mt_extend (pv 1) (pa_cons (pe_dy0 D_lamps hr (pv 2)) pa_nil)))))
      (pss_one (ps_ret (pe_sortset rfl rfl T.B.sorted rfl T.B.set (pv 1)))))), ?_⟩
    walk_at "rd0"
    refine j_lst (by simp) fun fl H1 s1 n1 e1 => ?_
    walk_at "rd"
    refine ⟨p, _, _, _, _, rfl, s1 _ _ ea, cl, na, lk1 _ _, ?_⟩
    refine seqT (xs := ps.map V.ref) (fun i σ H' => Same H H' ∧ H' fl = some (.lst (numsL ((gs.take i).flatMap fLamps))) ∧ ∃ v2, σ = [some (.ref p), some (.ref fl), v2]) ⟨s1, e1, _, rfl⟩ (fun i σ H' _ hp => by obtain ⟨s2, _⟩ := hp; exact SqT.of (s2 _ _ htp)) ?_ ?_
    · rintro i x σ H2 hx ⟨s2, e2, v2, rfl⟩
      obtain ⟨p', rfl, hx'⟩ := get_ref hx
      obtain ⟨g, hgi, hf'⟩ := paired_get hg hx'
      have hgm := List.mem_of_getElem? hgi
      have hgw := wt_mem hgm
      have hf2 := FmAt.mono (Ext.of s2) hf'
      obtain ⟨C, dx', fs', e', hC, hl⟩ := hf2.ins "lamps" (by decide +kernel) (by decide +kernel) (by decide +kernel) (by decide +kernel)
      walk_at "rd"
      refine ⟨tyL e2, ?_⟩
      walk_at "rd"
      refine ⟨p', C, dx', fs', rfl, e', hC, hl, ?_⟩
      walk_at "rd"
      refine ⟨e', p', g, rfl, hf2, hlow g hgm, by omega, fun l H3 s3 n3 e3 => ?_⟩
      walk_at "rd"
      have l1 := flat_len (gs.take i)
      have l2 := lamps_len g
      have l3 : (gs.take i).length ≤ gs.length := by rw [List.length_take]; omega
      refine j_extend (s3 _ _ e2) e3 (by unfold numsL; rw [List.length_map, List.length_map]; omega) fun H4 b4 e4 => ?_
      walk_at "rd"
      refine ⟨b4.same n1 (s2.trans s3), ?_, _, rfl⟩
      rw [e4, take_snoc hgi, List.flatMap_append]
      unfold numsL
      rw [List.map_append]
      simp
    · rintro σ H2 ⟨s2, e2, v2, rfl⟩
      rw [List.length_map, paired_len hg, List.take_length] at e2
      walk_at "rd"
      refine j_sortset e2 (fun k hk => ?_) fun l H3 s3 n3 e3 => q l H3 (s2.trans s3) (s2.free n3) ?_
      · obtain ⟨g, hgm, hk⟩ := List.mem_flatMap.mp hk
        exact lamps_lt g (hlow g hgm) k hk
      · rw [e3]
        simp only [fLamps, lampsL_eq, numsL]
theorem D_lamps_of (T : Txt K mg t) : ∀ n : Nat, ∀ C, isFm t C → MeS P w K mg base n C "lamps" ["self"] (spAt (spLamps t n) C)
  | 0 => by
    have no : ∀ C vs H Q E, ¬ spAt (spLamps t 0) C vs H Q E := fun C vs H Q E h => by
      obtain ⟨⟨p, f, _, h, _⟩, _⟩ := h
      exact h
    rintro C (rfl | rfl | rfl | rfl | rfl)
    · exact me_none (no _) T.c_Lamp T.b_Lamp_lamps T.h_Lamp_lamps
    · exact me_none (no _) T.c_Sure T.b_Sure_lamps T.h_Sure_lamps
    · exact me_none (no _) T.c_Not T.b_Not_lamps T.h_Not_lamps
    · exact me_none (no _) T.c_And T.b_Joined_lamps T.h_And_lamps
    · exact me_none (no _) T.c_Or T.b_Joined_lamps T.h_Or_lamps
  | n + 1 => by
    have ih := D_lamps_of T n
    rintro C (rfl | rfl | rfl | rfl | rfl)
    · exact ok_Lamp_lamps T
    · exact ok_Sure_lamps T
    · exact ok_Not_lamps T ih
    · exact ok_Joined_lamps (v := .a) T T.c_And T.n_And_parts T.h_And_lamps ih
    · exact ok_Joined_lamps (v := .o) T T.c_Or T.n_Or_parts T.h_Or_lamps ih
end


end LW

set_option maxRecDepth 100000
set_option maxHeartbeats 4000000
open PySem L2

namespace LW
open PySem L2 EM
def litF (b : Bar) (k : Nat) : Fm := if b.2.testBit k = true then .neg (.lamp k) else .lamp k
def joinF (w : W3) (e : Bool) : List Fm → Fm
  | [] => .sure e
  | [f] => f
  | f :: g :: fs => .join w (f :: g :: fs)
def outF (b : Bar) : Fm := joinF .o false ((lampsOf b).map (litF b))
def ofF (bs : List Bar) : Fm := joinF .a true (bs.map outF)
section
variable {P : Program} {w : World} {K : PySem.W.Frag} {mg : Str → Option Value} {base : Heap} {t : Ad} {n : Nat}
def spOut (t : Ad) : Sp := fun vs H Q _ => ∃ (p : Addr) (b : Bar), vs = [.ref p] ∧ BarAt H p b ∧ b.1 < 64 ∧ ∀ q H', Same H H' → FmAt t H' 3 q (outF b) → Q (.ref q) H'
theorem ok_formula_outside (T : Txt K mg t) : FnS P w K mg base 3 "formula_outside" ["bar"] (spOut t) := by
  refine ⟨_, _, T.F_formula_outside.ok sc_formula_outside (fun vs H Q E h => ?_) (fun cdv A outer s H vs Q E hr h => ?_), T.b_formula_outside, T.F_formula_outside.kp, T.m_formula_outside⟩
  · obtain ⟨p, b, rfl, hb, h64, q⟩ := h
    rfl
  obtain ⟨p, b, rfl, hb, h64, q⟩ := h
  have M_Lamp := ok_Lamp (P := P) (w := w) (base := base) T
  have M_Sure := ok_Sure (P := P) (w := w) (base := base) T
  have M_Not := ok_Not (P := P) (w := w) (base := base) T
  have M_Or := ok_Or (P := P) (w := w) (base := base) T
  have l6 : (lampsOf b).length ≤ 6 := by unfold lampsOf; exact Nat.le_trans (List.length_filter_le _ _) (by simp)
  have G_asked_by := ok_asked_by (P := P) (w := w) (base := base) T
  refine ⟨_, (pss_cons (ss 1 sc_formula_outside.nd (pe_lst pa_nil))
      (pss_cons (ps_for PassesOwn.never rfl (pi_seq (pe_fn G_asked_by hr (pa_cons (pv 0) pa_nil))) (sg 2 sc_formula_outside.nd)
      (pss_one (ps_expr (pe_bm PySem.F.plainAttrs_list PySem.F.slot_list_append PySem.F.type_list_append mt_append (pv 1) (pa_cons (pe_ifExp (pt_truth (pe_op op_and (pe_op op_shr (pe_ix ix_seq (pv 0) pe_int (fun _ _ => rfl)) (pv 2)) pe_int) (fun _ => rfl)) (pe_mk M_Not hr (pa_cons (pe_mk M_Lamp hr (pa_cons (pv 2) pa_nil)) pa_nil)) (pe_mk M_Lamp hr (pa_cons (pv 2) pa_nil))) pa_nil)))))
      (pss_cons (ps_if (pt_cmpR (op_eqA hr.units) (pe_callB call_lenG rfl T.B.len bt_len (pa_cons (pv 1) pa_nil)) pe_int (nomark _))
      (pss_one (ps_ret (pe_mk M_Sure hr (pa_cons pe_bl pa_nil))))
      pss_nil)
      (pss_one (ps_ret (pe_ifExp (pt_cmpR (op_eqA hr.units) (pe_callB call_lenG rfl T.B.len bt_len (pa_cons (pv 1) pa_nil)) pe_int (nomark _)) (pe_ix ix_seq (pv 1) pe_int (fun _ _ => rfl)) (pe_mk M_Or hr (pa_cons (pv 1) pa_nil)))))))), ?_⟩
  walk_at "rd0"
  refine j_lst (by simp) fun pl H1 s1 n1 e1 => ?_
  walk_at "rd"
  refine ⟨p, b, rfl, s1 _ _ hb, h64, fun al H2 s2 n2 e2 => ?_⟩
  refine seqL (xs := (lampsOf b).map vi) (fun i σ H' => Same H H' ∧ H' al = some (.lst ((lampsOf b).map vi)) ∧ (∃ qs, H' pl = some (.lst (qs.map V.ref)) ∧ Paired (FmAt t H' 2) qs (((lampsOf b).take i).map (litF b))) ∧ ∃ v2, σ = [some (.ref p), some (.ref pl), v2]) ⟨s1.trans s2, e2, ⟨[], s2 _ _ e1, .nil⟩, _, rfl⟩ (fun i σ H' _ hp => by obtain ⟨_, e, _⟩ := hp; exact SqL.of e) ?_ ?_
  · rintro i x σ H3 hx ⟨s3, e3, ⟨qs, ep, hf⟩, v2, rfl⟩
    obtain ⟨k, rfl, hk⟩ : ∃ k : Nat, x = .int (k : Int) ∧ (lampsOf b)[i]? = some k := by
      rw [List.getElem?_map] at hx
      cases e : (lampsOf b)[i]? with
      | none => rw [e] at hx; cases hx
      | some k => rw [e] at hx; exact ⟨k, (Option.some.inj hx).symm, rfl⟩
    have hi : i < (lampsOf b).length := (List.getElem?_eq_some_iff.mp hk).1
    have hql := paired_len hf
    rw [List.length_map, List.length_take] at hql
    have hpa : al ≠ pl := (ne_of_none e1 n2).symm
    have fin : ∀ (y : Addr) (H4 H5 : Hp), Same H3 H4 → FmAt t H4 2 y (litF b k) → But pl H4 H5 → H5 pl = some (.lst (qs.map V.ref ++ [.ref y])) → Same H H5 ∧ H5 al = some (.lst ((lampsOf b).map vi)) ∧ ∃ qs, H5 pl = some (.lst (qs.map V.ref)) ∧ Paired (FmAt t H5 2) qs (((lampsOf b).take (i + 1)).map (litF b)) := fun y H4 H5 s4 f4 b5 e5 => by
      have x5 := b5.ext (s4 _ _ ep)
      refine ⟨b5.same n1 (s3.trans s4), b5 _ _ hpa (s4 _ _ e3), qs ++ [y], by rw [e5, List.map_append]; rfl, ?_⟩
      rw [take_snoc hk, List.map_append]
      exact paired_append (paired_imp (fun _ _ h => FmAt.mono ((Ext.of s4).trans x5) h) hf) (.cons (FmAt.mono x5 f4) .nil)
    walk_at "rd"
    refine ⟨tyL ep, ?_⟩
    walk_at "rd"
    refine i_ixT (s3 _ _ hb) (v := .int (b.2 : Int)) rfl ?_
    walk_at "rd"
    rw [lit_tru]
    refine i_ifb (fun h => ?_) (fun h => ?_)
    · walk_at "rd"
      refine i_init1 fun y dy H4 s4 n4 e4 => ?_
      walk_at "rd"
      refine i_init1 fun z dz H5 s5 n5 e5 => ?_
      walk_at "rd"
      refine j_append (s5 _ _ (s4 _ _ ep)) (by rw [List.length_map]; omega) fun H6 b6 e6 => ?_
      walk_at "rd"
      have f5 : FmAt t H5 2 z (litF b k) := by
        unfold litF
        rw [if_pos h]
        exact ⟨dz, y, e5, dy, s5 _ _ e4⟩
      obtain ⟨r1, r2, r3⟩ := fin z H5 H6 (s4.trans s5) f5 b6 e6
      exact ⟨r1, r2, r3, _, rfl⟩
    · walk_at "rd"
      refine i_init1 fun y dy H4 s4 n4 e4 => ?_
      walk_at "rd"
      refine j_append (s4 _ _ ep) (by rw [List.length_map]; omega) fun H6 b6 e6 => ?_
      walk_at "rd"
      have f5 : FmAt t H4 2 y (litF b k) := by
        unfold litF
        rw [if_neg (by rw [h]; exact Bool.false_ne_true)]
        exact ⟨dy, e4⟩
      obtain ⟨r1, r2, r3⟩ := fin y H4 H6 s4 f5 b6 e6
      exact ⟨r1, r2, r3, _, rfl⟩
  · rintro σ H3 ⟨s3, e3, ⟨qs, ep, hf⟩, v2, rfl⟩
    rw [List.length_map, List.take_length] at hf
    have hql := paired_len hf
    have hlen : (qs.map V.ref).length = qs.length := List.length_map _
    walk_at "rd"
    have qe : outF b = joinF .o false ((lampsOf b).map (litF b)) := rfl
    generalize (lampsOf b).map (litF b) = fs at hf hql qe
    refine i_ifd (fun h => ?_) (fun h => ?_)
    · walk_at "rd"
      refine i_init1 fun y dy H4 s4 n4 e4 => q y H4 (s3.trans s4) ?_
      have : fs = [] := List.length_eq_zero_iff.mp (by omega)
      rw [qe, this]
      exact ⟨dy, e4⟩
    · walk_at "rd"
      refine i_ifd (fun h' => ?_) (fun h' => ?_)
      · walk_at "rd"
        obtain ⟨y, ey⟩ : ∃ y, qs = [y] := List.length_eq_one_iff.mp (by omega)
        obtain ⟨f, ef⟩ : ∃ f, fs = [f] := List.length_eq_one_iff.mp (by omega)
        subst ey ef
        refine i_ixL (j := 0) ep (v := .ref y) rfl (q y H3 s3 ?_)
        rw [qe]
        cases hf with
        | cons hf _ => exact FmAt.le (n := 2) (by omega) hf
      · walk_at "rd"
        refine i_initJ ep fun y dy tp H4 s4 n4 e4 et => q y H4 (s3.trans s4) ?_
        rw [qe]
        match fs, hql, hf with
        | f :: g :: fs, _, hf => exact ⟨dy, tp, qs, e4, et, paired_imp (fun _ _ h => FmAt.mono (Ext.of s4) h) hf⟩
        | [f], hql, _ => exact absurd (show qs.length = 1 from hql) (by omega)
        | [], hql, _ => exact absurd (show qs.length = 0 from hql) (by omega)
def spOf (t : Ad) : Sp := fun vs H Q _ => ∃ (l : Addr) (ps : List Addr) (bs : List Bar), vs = [.ref l] ∧ H l = some (.lst (ps.map V.ref)) ∧ Paired (BarAt H) ps bs ∧ (∀ b ∈ bs, b.1 < 64) ∧ bs.length ≤ 1000 ∧ ∀ q H', Same H H' → FmAt t H' 4 q (ofF bs) → Q (.ref q) H'
theorem ok_formula_of (T : Txt K mg t) : FnS P w K mg base 5 "formula_of" ["bars"] (spOf t) := by
  refine ⟨_, _, T.F_formula_of.ok sc_formula_of (fun vs H Q E h => ?_) (fun cdv A outer s H vs Q E hr h => ?_), T.b_formula_of, T.F_formula_of.kp, T.m_formula_of⟩
  · obtain ⟨l, ps, bs, rfl, hl, hp, h64, hz, q⟩ := h
    rfl
  obtain ⟨l, ps, bs, rfl, hl, hp, h64, hz, q⟩ := h
  have M_Sure := ok_Sure (P := P) (w := w) (base := base) T
  have M_And := ok_And (P := P) (w := w) (base := base) T
  have hpl := paired_len hp
  have G_formula_outside := ok_formula_outside (P := P) (w := w) (base := base) T
  refine ⟨_, (pss_cons (ps_comp 1 sc_formula_of.nd (sc := defScope s_formula_of) (N := ["bars", "parts"]) (ns := []) (ix := []) rfl rfl (by decide +kernel) rfl (pi_seq (pv 0)) (fun _ _ _ _ => pts_nil) (fun _ _ _ _ => (pe_fn G_formula_outside hr (pa_cons (pv 0) pa_nil))))
      (pss_cons (ps_if (pt_cmpR (op_eqA hr.units) (pe_callB call_lenG rfl T.B.len bt_len (pa_cons (pv 1) pa_nil)) pe_int (nomark _))
      (pss_one (ps_ret (pe_mk M_Sure hr (pa_cons pe_bl pa_nil))))
      pss_nil)
      (pss_one (ps_ret (pe_ifExp (pt_cmpR (op_eqA hr.units) (pe_callB call_lenG rfl T.B.len bt_len (pa_cons (pv 1) pa_nil)) pe_int (nomark _)) (pe_ix ix_seq (pv 1) pe_int (fun _ _ => rfl)) (pe_mk M_And hr (pa_cons (pv 1) pa_nil))))))), ?_⟩
  walk_at "rd0"
  refine .inl ⟨l, _, rfl, SqL.of hl, ?_⟩
  refine comp_byH (fun i ys H' => ∃ qs, ys = qs.map V.ref ∧ Paired (FmAt t H' 3) qs ((bs.take i).map outF)) (wk_list (SqL.of hl)) (by rw [List.length_map]; omega) (fun H' s => ⟨[], rfl, .nil⟩) (fun i ys H1 H2 x h => by obtain ⟨qs, e, h⟩ := h; exact ⟨qs, e, paired_imp (fun _ _ h => FmAt.mono x h) h⟩) ?_ ?_
  · rintro i x ys acc H' hx s1 hacc ea ⟨qs, rfl, hf⟩ _ R kk
    obtain ⟨p, rfl, hx'⟩ := get_ref hx
    obtain ⟨b, hbi, hb⟩ := paired_get hp hx'
    simp only [subS, List.map_nil]
    walk_at "rd"
    refine kk true H' (Same.refl _) (fun z => by cases z) fun _ R2 k2 => ?_
    walk_at "rd"
    refine ⟨p, b, rfl, s1 _ _ hb, h64 b (List.mem_of_getElem? hbi), fun y H2 s2 f2 => ?_⟩
    refine k2 _ H2 s2 ⟨qs ++ [y], by rw [List.map_append]; rfl, ?_⟩
    rw [take_snoc hbi, List.map_append]
    exact paired_append (paired_imp (fun _ _ h => FmAt.mono (Ext.of s2) h) hf) (.cons f2 .nil)
  rintro pl ys H1 n1 s1 ep ⟨qs, rfl, hf⟩
  rw [List.length_map, hpl, List.take_length] at hf
  have hql := paired_len hf
  have hlen : (qs.map V.ref).length = qs.length := List.length_map _
  walk_at "rd"
  have qe : ofF bs = joinF .a true (bs.map outF) := rfl
  generalize bs.map outF = fs at hf hql qe
  refine i_ifd (fun h => ?_) (fun h => ?_)
  · walk_at "rd"
    refine i_init1 fun y dy H4 s4 n4 e4 => q y H4 (s1.trans s4) ?_
    have : fs = [] := List.length_eq_zero_iff.mp (by omega)
    rw [qe, this]
    exact ⟨dy, e4⟩
  · walk_at "rd"
    refine i_ifd (fun h' => ?_) (fun h' => ?_)
    · walk_at "rd"
      obtain ⟨y, ey⟩ : ∃ y, qs = [y] := List.length_eq_one_iff.mp (by omega)
      obtain ⟨f, ef⟩ : ∃ f, fs = [f] := List.length_eq_one_iff.mp (by omega)
      subst ey ef
      refine i_ixL (j := 0) ep (v := .ref y) rfl (q y H1 s1 ?_)
      rw [qe]
      cases hf with
      | cons hf _ => exact FmAt.le (n := 3) (by omega) hf
    · walk_at "rd"
      refine i_initJ ep fun y dy tp H4 s4 n4 e4 et => q y H4 (s1.trans s4) ?_
      rw [qe]
      match fs, hql, hf with
      | f :: g :: fs, _, hf => exact ⟨dy, tp, qs, e4, et, paired_imp (fun _ _ h => FmAt.mono (Ext.of s4) h) hf⟩
      | [f], hql, _ => exact absurd (show qs.length = 1 from hql) (by omega)
      | [], hql, _ => exact absurd (show qs.length = 0 from hql) (by omega)
end


end LW

set_option maxRecDepth 100000
set_option maxHeartbeats 4000000
open PySem L2

namespace LW
open PySem L2 EM
theorem join_snoc (sep : Str) (xs : List Str) (x : Str) : Txt.join sep (xs ++ [x]) = if xs = [] then x else Txt.join sep xs ++ sep ++ x := by
  cases xs with
  | nil => rfl
  | cons y ys =>
    rw [if_neg (List.cons_ne_nil _ _)]
    show Builtin.Str.glued sep _ = Builtin.Str.glued sep _ ++ _ ++ _
    unfold Builtin.Str.glued
    simp only [List.cons_append, List.drop_succ_cons, List.drop_zero, List.foldl_append, List.foldl_cons, List.foldl_nil, List.headD_cons]
    rfl
theorem join_ne {sep : Str} {xs : List Str} (h0 : xs ≠ []) (h : ∀ x ∈ xs, x.length ≠ 0) : (Txt.join sep xs).length ≠ 0 := by
  rcases List.eq_nil_or_concat xs with rfl | ⟨ys, y, rfl⟩
  · exact absurd rfl h0
  · rw [List.concat_eq_append, join_snoc]
    have := h y (by simp)
    split
    · exact this
    · rw [len_append]
      omega
theorem i_join {t u : TS} {D : Ends} {σ : St} {H : Hp} (Pn : St → Hp → Prop) (h2 : ∀ σ H, Pn σ H → u D σ H) (h1 : ∀ Kn : St → Hp → Prop, (∀ σ H, Pn σ H → Kn σ H) → t { D with nx := Kn } σ H) : tSeq t u D σ H := h1 (u D) h2
theorem empty_app (x : Str) : Str.empty ++ x = x := by
  show Str.append Str.empty x = x
  unfold Str.append Str.empty
  simp
theorem str_assoc (x y z : Str) : x ++ y ++ z = x ++ (y ++ z) := by
  show Str.append (Str.append x y) z = Str.append x (Str.append y z)
  unfold Str.append
  simp [Array.append_assoc]

def Lt (z : Str) : Prop := ∀ c ∈ z.cps.toList, 97 ≤ c ∧ c ≤ 122
theorem lt_append {x y : Str} (hx : Lt x) (hy : Lt y) : Lt (x ++ y) := by
  intro c hc
  have hc : c ∈ (x.cps ++ y.cps).toList := hc
  rw [Array.toList_append, List.mem_append] at hc
  exact hc.elim (hx c) (hy c)
theorem lt_one {k : Nat} (h : k < 26) : Lt ⟨#[97 + k]⟩ := by
  intro c hc
  have hc : c ∈ [97 + k] := hc
  rw [List.mem_singleton.mp hc]
  omega
def abc : Str := "abcdefghijklmnopqrstuvwxyz"
theorem let_at : ∀ k, k < 26 → abc.cps.toList[k]? = some (97 + k) := by decide +kernel
def Nm (z : Str) : Prop := Lt z ∧ 1 ≤ z.length ∧ z.length ≤ 20
theorem inV_strs (x : Str) : ∀ ns : List Str, inV (.str x) (ns.map V.str) = decide (x ∈ ns)
  | [] => rfl
  | y :: ns => by
    have ih := inV_strs x ns
    unfold inV at ih ⊢
    rw [List.map_cons, List.any_cons, ih]
    have e : eqV (.str y) (.str x) = decide (y = x) := rfl
    rw [e]
    by_cases h : y = x
    · simp [h]
    · have h' : ¬ x = y := fun z => h z.symm
      simp [h, h']
section
variable {P : Program} {w : World} {K : PySem.W.Frag} {mg : Str → Option Value} {base : Heap} {t : Ad} {n : Nat}
theorem i_inS {p : Addr} {x : Str} {ns : List Str} {H : Hp} {Q : VK} (h : H p = some (.lst (ns.map V.str)) ∨ H p = some (.tup (ns.map V.str))) (k : Q (.bl (decide (x ∈ ns))) H) : rInG K (.str x) (.ref p) H Q := by
  refine .inr ⟨p, ns.map V.str, rfl, h.imp SqL.of SqT.of, rfl, ?_, ?_⟩
  · rw [List.all_eq_true]
    intro v hv
    obtain ⟨z, _, rfl⟩ := List.mem_map.mp hv
    rfl
  · rw [inV_strs]
    exact k
theorem i_abc {x : Int} {H : Hp} {Q : VK} (h : ∀ e, e < 26 → Q (.str ⟨#[97 + e]⟩) H) : rIx K (.str "abcdefghijklmnopqrstuvwxyz") (.int (x % 26)) H Q := by
  obtain ⟨e, he, he26⟩ : ∃ e : Nat, x % 26 = (e : Int) ∧ e < 26 := ⟨(x % 26).toNat, by omega, by omega⟩
  rw [he]
  exact i_ixX (by decide) (atI_nat (let_at e he26)) (h e he26)
end

theorem in_or {z : Str} : (!(Builtin.Str.occurrences z " or " 0 z.length 1).isEmpty) = true ↔ ∃ i, i + 4 ≤ z.length ∧ (z.cps.toList.drop i).take 4 = [32, 111, 114, 32] := by
  rw [StrLaws.found_iff]
  have l4 : Str.length " or " = 4 := by decide +kernel
  have c4 : (Str.cps " or ").toList = [32, 111, 114, 32] := by decide +kernel
  constructor
  · rintro ⟨i, h1, h2⟩
    rw [StrLaws.subAt_eq, l4, c4] at h2
    rw [l4] at h1
    exact ⟨i, h1, beq_iff_eq.mp h2⟩
  · rintro ⟨i, h1, h2⟩
    refine ⟨i, by rw [l4]; exact h1, ?_⟩
    rw [StrLaws.subAt_eq, l4, c4, h2]
    rfl
/-- no two blanks -/
def OneBlank (z : Str) : Prop := ∀ j k : Nat, z.cps.toList[j]? = some 32 → z.cps.toList[k]? = some 32 → j = k
theorem no_or {z : Str} (h : OneBlank z) : (!(Builtin.Str.occurrences z " or " 0 z.length 1).isEmpty) = false := by
  rw [Bool.eq_false_iff]
  intro c
  obtain ⟨i, h1, h2⟩ := in_or.mp c
  have g : ∀ j, j < 4 → z.cps.toList[i + j]? = ([32, 111, 114, 32] : List Nat)[j]? := fun j hj => by
    rw [← h2, List.getElem?_take_of_lt hj, List.getElem?_drop]
  have := h (i + 0) (i + 3) (g 0 (by omega)) (g 3 (by omega))
  omega
theorem has_or (x y : Str) : (!(Builtin.Str.occurrences (x ++ (" or " : Str) ++ y) " or " 0 (x ++ (" or " : Str) ++ y).length 1).isEmpty) = true := by
  rw [in_or]
  have l4 : Str.length " or " = 4 := by decide +kernel
  have c4 : (Str.cps " or ").toList = [32, 111, 114, 32] := by decide +kernel
  refine ⟨x.length, by rw [len_append, len_append, l4]; omega, ?_⟩
  have e : (x ++ (" or " : Str) ++ y).cps.toList = x.cps.toList ++ ([32, 111, 114, 32] ++ y.cps.toList) := by
    show ((x.cps ++ (Str.cps " or ")) ++ y.cps).toList = _
    rw [Array.toList_append, Array.toList_append, c4, List.append_assoc]
  rw [e, show x.length = x.cps.toList.length by simp [Str.length], List.drop_left]
  rfl
theorem join_consN {sep : Str} (x : Str) : ∀ (n : Nat) (xs : List Str), xs.length = n → xs ≠ [] → Txt.join sep (x :: xs) = x ++ sep ++ Txt.join sep xs
  | 0, xs, hn, h => absurd (List.length_eq_zero_iff.mp hn) h
  | n + 1, xs, hn, h => by
    rcases List.eq_nil_or_concat xs with rfl | ⟨ys, y, rfl⟩
    · exact absurd rfl h
    rw [List.concat_eq_append] at hn ⊢
    rw [show x :: (ys ++ [y]) = (x :: ys) ++ [y] from rfl, join_snoc, join_snoc, if_neg (by simp)]
    by_cases hy : ys = []
    · rw [if_pos hy, hy]
      rfl
    · rw [if_neg hy, join_consN x n ys (by simpa using hn) hy]
      simp only [str_assoc]
theorem join_cons {sep : Str} (x : Str) (xs : List Str) (h : xs ≠ []) : Txt.join sep (x :: xs) = x ++ sep ++ Txt.join sep xs := join_consN x _ xs rfl h
theorem lt_blank {z : Str} (h : Lt z) (j : Nat) : z.cps.toList[j]? ≠ some 32 := fun e => by
  have := h 32 (List.mem_of_getElem? e)
  omega
theorem one_lt {z : Str} (h : Lt z) : OneBlank z := fun j k e _ => absurd e (lt_blank h j)
theorem one_not {z : Str} (h : Lt z) : OneBlank (("not " : Str) ++ z) := by
  have c4 : (Str.cps "not ").toList = [110, 111, 116, 32] := by decide +kernel
  have e : ((("not " : Str) ++ z).cps.toList) = [110, 111, 116, 32] ++ z.cps.toList := by
    show ((Str.cps "not ") ++ z.cps).toList = _
    rw [Array.toList_append, c4]
  have key : ∀ j, ((("not " : Str) ++ z).cps.toList)[j]? = some 32 → j = 3 := fun j hj => by
    rw [e] at hj
    match j, hj with
    | 0, hj => simp at hj
    | 1, hj => simp at hj
    | 2, hj => simp at hj
    | 3, _ => rfl
    | j + 4, hj =>
      rw [List.getElem?_append_right (by simp)] at hj
      exact absurd hj (lt_blank h _)
  intro j k hj hk
  rw [key j hj, key k hk]
/-- the text of one lamp of a bar -/
def litS (ns : List Str) (b : Bar) (k : Nat) : Str := fShown ns (litF b k)
theorem litS_t {ns : List Str} {b : Bar} {k : Nat} (h : b.2.testBit k = true) : litS ns b k = ("not " : Str) ++ ns.getD k Str.empty := by
  unfold litS litF
  rw [if_pos h]
  simp only [fShown]
  rw [empty_app, show (decide (1 ≤ fLoose (.lamp k))) = false from rfl]
  rfl
theorem litS_f {ns : List Str} {b : Bar} {k : Nat} (h : b.2.testBit k = false) : litS ns b k = ns.getD k Str.empty := by
  unfold litS litF
  rw [if_neg (by rw [h]; exact Bool.false_ne_true)]
  simp only [fShown]
theorem lit_loose (b : Bar) (k : Nat) : fLoose (litF b k) = 0 := by
  unfold litF
  split <;> rfl
theorem shown_out (ns : List Str) (b : Bar) : fShown ns (outF b) = if lampsOf b = [] then ("no" : Str) else Txt.join " or " ((lampsOf b).map (litS ns b)) := by
  unfold outF
  match e : lampsOf b with
  | [] => rw [if_pos rfl]; simp only [List.map_nil, joinF, fShown]; rfl
  | [k] => rw [if_neg (by simp)]; rfl
  | k :: k' :: ks =>
    rw [if_neg (by simp)]
    show fShown ns (.join .o ((k :: k' :: ks).map (litF b))) = _
    rw [shown_join, List.map_map]
    congr 1
    apply List.map_congr_left
    intro x _
    show partS ns 3 (litF b x) = _
    unfold partS
    rw [lit_loose]
    rfl
section
variable {P : Program} {w : World} {K : PySem.W.Frag} {mg : Str → Option Value} {base : Heap} {t : Ad} {n : Nat}
theorem map_atZ {ns : List Str} {k : Nat} {z : Str} (h : ns[k]? = some z) : (ns.map V.str)[k]? = some (.str z) := by rw [List.getElem?_map, h]; rfl
def Names6 (ns : List Str) : Prop := ns.length = 6 ∧ ∀ z ∈ ns, Nm z
def spNames : Sp := fun vs H Q _ => ∃ c : Int, vs = [.int c] ∧ ∀ (l : Addr) (ns : List Str) (H' : Hp), Same H H' → H l = none → H' l = some (.lst (ns.map V.str)) → Names6 ns → Q (.ref l) H'
theorem ok_names (T : Txt K mg t) : FnS P w K mg base 1 "_law_names" ["_law_cell"] (spNames) := by
  refine ⟨_, _, T.F__law_names.ok sc__law_names (fun vs H Q E h => ?_) (fun cdv A outer s H vs Q E hr h => ?_), T.b__law_names, T.F__law_names.kp, T.m__law_names⟩
  · obtain ⟨c, rfl, q⟩ := h
    rfl
  obtain ⟨c, rfl, q⟩ := h
  refine ⟨_, (pss_cons (ss 1 sc__law_names.nd pe_str)
      (pss_cons (ss 2 sc__law_names.nd pe_str)
      (pss_cons (ss 3 sc__law_names.nd (pe_op op_fdivG (pv 0) pe_int))
      (pss_cons (ps_for PassesOwn.never rfl (pi_range1 rfl T.B.range (pa_cons (pe_op op_mod (pv 0) pe_int) pa_nil)) (sg 4 sc__law_names.nd)
      (pss_cons (ss 2 sc__law_names.nd (pe_op op_addG (pv 2) (pe_ix ix_seq (pv 1) (pe_op op_mod (pv 3) pe_int) (fun _ _ => rfl))))
      (pss_one (ss 3 sc__law_names.nd (pe_op op_fdivG (pv 3) pe_int)))))
      (pss_cons (ss 5 sc__law_names.nd (pe_lst pa_nil))
      (pss_cons (ps_for PassesOwn.never rfl (pi_range1 rfl T.B.range (pa_cons pe_int pa_nil)) (sg 4 sc__law_names.nd)
      (pss_cons (ss 6 sc__law_names.nd (pe_ix ix_seq (pv 1) (pe_op op_mod (pe_op op_addG (pv 3) (pe_op op_mulG pe_int (pv 4))) pe_int) (fun _ _ => rfl)))
      (pss_cons (ss 7 sc__law_names.nd (pe_op op_addG (pv 6) (pv 2)))
      (pss_cons (ps_if (pt_cmpR (op_eqA hr.units) (pe_op op_mod (pe_op op_fdivG (pv 0) pe_int) pe_int) pe_int (nomark _))
      (pss_one (ss 7 sc__law_names.nd (pe_op op_addG (pv 2) (pv 6))))
      pss_nil)
      (pss_cons (ps_if (pt_cmpR op_inG (pv 7) (pe_tup (pa_s4 (pa_s4 pa_nil))) (by with_unfolding_all rfl))
      (pss_one (ss 7 sc__law_names.nd (pe_op op_addG (pv 7) pe_str)))
      pss_nil)
      (pss_one (ps_expr (pe_bm PySem.F.plainAttrs_list PySem.F.slot_list_append PySem.F.type_list_append mt_append (pv 5) (pa_cons (pv 7) pa_nil)))))))))
      (pss_one (ps_ret (pv 5))))))))), ?_⟩
  walk_at "rd0"
  obtain ⟨m, hm, hm8⟩ : ∃ m : Nat, c % 8 = (m : Int) ∧ m < 8 := ⟨(c % 8).toNat, by omega, by omega⟩
  rw [hm]
  refine ⟨_, rfl, by omega, by omega, ?_⟩
  rw [Int.toNat_natCast]
  refine loopR0 (n := m) (fun i σ H' => H = H' ∧ ∃ (z : Str) (r : Int) (v : Option V), Lt z ∧ z.length = i ∧ σ = [some (.int c), some (.str "abcdefghijklmnopqrstuvwxyz"), some (.str z), some (.int r), v, none, none, none]) ⟨rfl, "", _, _, (fun c hc => by cases hc), rfl, rfl⟩ ?_ ?_
  · rintro i σ H' hi ⟨rfl, z, r, v, hz, hl, rfl⟩
    walk_at "rd"
    refine i_abc fun e he => ?_
    refine i_addS (small (by show _ + 1 ≤ _; omega)) ?_
    walk_at "rd"
    exact ⟨rfl, _, _, _, lt_append hz (lt_one he), by rw [len_append, hl]; rfl, rfl⟩
  rintro σ H' ⟨rfl, al, r, v, hal, hlal, rfl⟩
  walk_at "rd"
  refine j_lst (by simp) fun l H1 s1 n1 e1 => ?_
  walk_at "rd"
  refine ⟨_, rfl, by omega, by omega, ?_⟩
  refine loopR0 (n := 6) (fun i σ H' => ∃ (ns : List Str) (v4 v6 v7 : Option V), Same H H' ∧ H' l = some (.lst (ns.map V.str)) ∧ ns.length = i ∧ (∀ z ∈ ns, Nm z) ∧ σ = [some (.int c), some (.str "abcdefghijklmnopqrstuvwxyz"), some (.str al), some (.int r), v4, some (.ref l), v6, v7]) ⟨[], _, _, _, s1, e1, rfl, (fun z hz => by cases hz), rfl⟩ ?_ ?_
  · rintro i σ H2 hi ⟨ns, v4, v6, v7, s2, e2, hl2, hn2, rfl⟩
    walk_at "rd"
    refine i_mulI (.inl ⟨by decide, by decide⟩) ?_
    walk_at "rd"
    refine i_abc fun e he => ?_
    walk_at "rd"
    have l1 : Str.length ⟨#[97 + e]⟩ = 1 := rfl
    refine i_addS (small (by omega)) ?_
    walk_at "rs"
    refine i_join (fun σ H' => ∃ z, Lt z ∧ z.length = m + 1 ∧ H' = H2 ∧ σ = [some (.int c), some (.str "abcdefghijklmnopqrstuvwxyz"), some (.str al), some (.int r), some (.int (i : Int)), some (.ref l), some (.str ⟨#[97 + e]⟩), some (.str z)]) ?_ ?_
    rotate_left
    · intro Kn hK
      walk_at "rs"
      refine i_ifd (fun h => ?_) (fun h => ?_)
      · walk_at "rd"
        refine i_addS (small (by omega)) ?_
        walk_at "rd"
        exact hK _ _ ⟨_, lt_append hal (lt_one he), by rw [len_append]; omega, rfl, rfl⟩
      · walk_at "rd"
        exact hK _ _ ⟨_, lt_append (lt_one he) hal, by rw [len_append]; omega, rfl, rfl⟩
    rintro σ H3 ⟨z, hz, hzl, rfl, rfl⟩
    walk_at "rs"
    refine i_join (fun σ H' => ∃ z, Nm z ∧ Same H3 H' ∧ σ = [some (.int c), some (.str "abcdefghijklmnopqrstuvwxyz"), some (.str al), some (.int r), some (.int (i : Int)), some (.ref l), some (.str ⟨#[97 + e]⟩), some (.str z)]) ?_ ?_
    rotate_left
    · intro Kn hK
      walk_at "rs"
      refine j_tup (by simp) fun kl H4 s4 n4 e4 => ?_
      refine i_inS (ns := ["and", "or", "not", "either", "yes", "no", "then", "is"]) (.inr e4) ?_
      walk_at "rs"
      refine i_ifd (fun h => ?_) (fun h => ?_)
      · walk_at "rd"
        have lx : Str.length "x" = 1 := by decide +kernel
        refine i_addS (small (by omega)) ?_
        walk_at "rd"
        refine hK _ _ ⟨_, ⟨lt_append hz ?_, by rw [len_append]; omega, by rw [len_append]; omega⟩, s4, rfl⟩
        intro x hx
        have hx : x ∈ [120] := hx
        rw [List.mem_singleton.mp hx]
        omega
      · walk_at "rd"
        exact hK _ _ ⟨_, ⟨hz, by omega, by omega⟩, s4, rfl⟩
    rintro σ H4 ⟨z', hz', s4, rfl⟩
    walk_at "rd"
    refine ⟨tyL (s4 _ _ e2), ?_⟩
    walk_at "rd"
    refine j_append (s4 _ _ e2) (by rw [List.length_map]; omega) fun H5 b5 e5 => ?_
    walk_at "rd"
    refine ⟨ns ++ [z'], _, _, _, b5.same n1 (s2.trans s4), by rw [e5, List.map_append]; rfl, by rw [List.length_append, hl2]; rfl, fun y hy => ?_, rfl⟩
    rcases List.mem_append.mp hy with h | h
    · exact hn2 y h
    · rw [List.mem_singleton.mp h]
      exact hz'
  · rintro σ H2 ⟨ns, v4, v6, v7, s2, e2, hl2, hn2, rfl⟩
    walk_at "rd"
    exact q l ns H2 s2 n1 e2 ⟨hl2, hn2⟩
theorem join_len6 {ns : List Str} (h : Names6 ns) (b : Bar) (ks : List Nat) (hk : ks.length ≤ 6) : (Txt.join " or " (ks.map (litS ns b))).length ≤ 200 := by
  have l1 : ∀ k, (litS ns b k).length ≤ 24 := fun k => by
    have ln : (ns.getD k Str.empty).length ≤ 20 := by
      rw [List.getD_eq_getElem?_getD]
      cases e : ns[k]? with
      | none => exact Nat.zero_le _
      | some z => exact (h.2 z (List.mem_of_getElem? e)).2.2
    cases hb : b.2.testBit k with
    | true =>
      rw [litS_t hb, len_append]
      have : Str.length "not " = 4 := by decide +kernel
      omega
    | false => rw [litS_f hb]; omega
  have c : (Txt.join " or " (ks.map (litS ns b))).length ≤ ((ks.map (litS ns b)).map (·.length)).sum + (ks.map (litS ns b)).length * Str.length " or " := by
    show (Builtin.Str.glued _ _).length ≤ _
    rw [StrLaws.glued_eq_join]
    exact StrLaws.join_length_le _ _
  have s : ∀ l : List Nat, ((l.map (litS ns b)).map (·.length)).sum ≤ 24 * l.length := fun l => by
    induction l with
    | nil => simp
    | cons a r ih =>
      rw [List.map_cons, List.map_cons, List.sum_cons, List.length_cons]
      have := l1 a
      omega
  have s2 := s ks
  have l4 : Str.length " or " = 4 := by decide +kernel
  rw [List.length_map, l4] at c
  omega
def askF (b : Bar) (j : Nat) : List Nat := (List.range j).filter fun k => b.1.testBit k
theorem ask_snoc (b : Bar) (j : Nat) : askF b (j + 1) = askF b j ++ (if b.1.testBit j = true then [j] else []) := by
  unfold askF
  rw [List.range_succ, List.filter_append]
  by_cases h : b.1.testBit j = true
  · simp [h]
  · simp [h]
theorem ask_len (b : Bar) (j : Nat) : (askF b j).length ≤ j := by
  unfold askF
  exact Nat.le_trans (List.length_filter_le _ _) (by simp)
theorem lit_ne {ns : List Str} (h : Names6 ns) (b : Bar) {k : Nat} (hk : k < 6) : (litS ns b k).length ≠ 0 := by
  have e : ns[k]? = some (ns[k]'(by rw [h.1]; exact hk)) := List.getElem?_eq_getElem _
  have hm := (h.2 _ (List.mem_of_getElem? e)).2.1
  have eg : ns.getD k Str.empty = ns[k]'(by rw [h.1]; exact hk) := by rw [List.getD_eq_getElem?_getD, e]; rfl
  cases hb : b.2.testBit k with
  | true => rw [litS_t hb, len_append, eg]; omega
  | false => rw [litS_f hb, eg]; omega
def spBarText : Sp := fun vs H Q _ => ∃ (p nl : Addr) (b : Bar) (ns : List Str), vs = [.ref p, .ref nl] ∧ BarAt H p b ∧ H nl = some (.lst (ns.map V.str)) ∧ Names6 ns ∧ Q (.str (fShown ns (outF b))) H
theorem ok_bar_text (T : Txt K mg t) : FnS P w K mg base 1 "_law_bar_text" ["_law_bar", "_law_names_here"] (spBarText) := by
  refine ⟨_, _, T.F__law_bar_text.ok sc__law_bar_text (fun vs H Q E h => ?_) (fun cdv A outer s H vs Q E hr h => ?_), T.b__law_bar_text, T.F__law_bar_text.kp, T.m__law_bar_text⟩
  · obtain ⟨p, nl, b, ns, rfl, hb, hn, h6, q⟩ := h
    rfl
  obtain ⟨p, nl, b, ns, rfl, hb, hn, h6, q⟩ := h
  have l4 : Str.length " or " = 4 := by decide +kernel
  have ln4 : Str.length "not " = 4 := by decide +kernel
  refine ⟨_, (pss_cons (ss 2 sc__law_bar_text.nd pe_str)
      (pss_cons (ps_for PassesOwn.never rfl (pi_range1 rfl T.B.range (pa_cons pe_int pa_nil)) (sg 3 sc__law_bar_text.nd)
      (pss_one (ps_if (pt_cmpR (op_eqA hr.units) (pe_op op_and (pe_op op_shr (pe_ix ix_seq (pv 0) pe_int (fun _ _ => rfl)) (pv 3)) pe_int) pe_int (nomark _))
      (pss_cons (ps_if (pt_cmpR (op_neA hr.units) (pv 2) pe_str (nomark _))
      (pss_one (ss 2 sc__law_bar_text.nd (pe_op op_addG (pv 2) pe_str)))
      pss_nil)
      (pss_cons (ps_if (pt_cmpR (op_eqA hr.units) (pe_op op_and (pe_op op_shr (pe_ix ix_seq (pv 0) pe_int (fun _ _ => rfl)) (pv 3)) pe_int) pe_int (nomark _))
      (pss_one (ss 2 sc__law_bar_text.nd (pe_op op_addG (pv 2) pe_str)))
      pss_nil)
      (pss_one (ss 2 sc__law_bar_text.nd (pe_op op_addG (pv 2) (pe_ix ix_seq (pv 1) (pv 3) (fun _ _ => rfl)))))))
      pss_nil)))
      (pss_cons (ps_if (pt_cmpR (op_eqA hr.units) (pv 2) pe_str (nomark _))
      (pss_one (ps_ret pe_str))
      pss_nil)
      (pss_one (ps_ret (pv 2)))))), ?_⟩
  walk_at "rd0"
  refine ⟨_, rfl, by omega, by omega, ?_⟩
  refine loopR0 (n := 6) (fun i σ H' => H = H' ∧ ∃ v, σ = [some (.ref p), some (.ref nl), some (.str (Txt.join " or " ((askF b i).map (litS ns b)))), v]) ⟨rfl, _, rfl⟩ ?_ ?_
  · rintro i σ H1 hi ⟨rfl, v, rfl⟩
    have la := ask_len b i
    have lj := join_len6 h6 b (askF b i) (by omega)
    have sn := ask_snoc b i
    have ein : ns[i]? = some (ns[i]'(by rw [h6.1]; exact hi)) := List.getElem?_eq_getElem _
    have eg : ns.getD i Str.empty = ns[i]'(by rw [h6.1]; exact hi) := by rw [List.getD_eq_getElem?_getD, ein]; rfl
    have hln := (h6.2 _ (List.mem_of_getElem? ein)).2.2
    generalize ns[i]'(by rw [h6.1]; exact hi) = zi at ein eg hln
    have eiv : (ns.map V.str)[i]? = some (.str zi) := map_atZ ein
    walk_at "rd"
    refine i_ixT hb (v := .int (b.1 : Int)) rfl ?_
    walk_at "rd"
    rw [lit_eq]
    refine i_ifb (fun hA => ?_) (fun hA => ?_)
    · rw [hA, if_pos rfl] at sn
      have js := join_snoc " or " ((askF b i).map (litS ns b)) (litS ns b i)
      rw [← List.map_singleton (f := litS ns b), ← List.map_append, ← sn] at js
      walk_at "rs"
      refine i_join (fun σ H' => H = H' ∧ σ = [some (.ref p), some (.ref nl), some (.str (if (askF b i).map (litS ns b) = [] then Str.empty else Txt.join " or " ((askF b i).map (litS ns b)) ++ (" or " : Str))), some (.int (i : Int))]) ?_ ?_
      rotate_left
      · intro Kn hK
        walk_at "rs"
        refine i_ifn (fun h => ?_) (fun h => ?_)
        · walk_at "rd"
          refine i_addS (small (by omega)) ?_
          walk_at "rd"
          refine hK _ _ ⟨rfl, ?_⟩
          rw [if_neg (fun z => h (by rw [z]; rfl))]
        · walk_at "rd"
          refine hK _ _ ⟨rfl, ?_⟩
          have z : (askF b i).map (litS ns b) = [] := by
            cases zz : (askF b i).map (litS ns b) with
            | nil => rfl
            | cons a as =>
              refine absurd (congrArg Str.length h) ?_
              refine join_ne (by rw [zz]; exact List.cons_ne_nil _ _) fun x hx => ?_
              obtain ⟨k, hk, rfl⟩ := List.mem_map.mp hx
              refine lit_ne h6 b ?_
              have := List.mem_range.mp (List.mem_filter.mp hk).1
              omega
          rw [if_pos z, h]
          rfl
      rintro σ H2 ⟨rfl, rfl⟩
      generalize hpre : (if (askF b i).map (litS ns b) = [] then Str.empty else Txt.join " or " ((askF b i).map (litS ns b)) ++ (" or " : Str)) = pre
      have lpre : pre.length ≤ 204 := by
        rw [← hpre]
        split
        · exact Nat.zero_le _
        · rw [len_append]; omega
      have js' : Txt.join " or " ((askF b (i + 1)).map (litS ns b)) = pre ++ litS ns b i := by
        rw [js, ← hpre]
        split
        · rw [empty_app]
        · rfl
      walk_at "rd"
      refine i_ixT hb (v := .int (b.2 : Int)) rfl ?_
      walk_at "rd"
      rw [lit_eq]
      refine i_ifb (fun hB => ?_) (fun hB => ?_)
      · walk_at "rd"
        refine i_addS (small (by omega)) ?_
        walk_at "rd"
        refine i_ixL hn eiv ?_
        refine i_addS (small (by rw [len_append]; omega)) ?_
        walk_at "rd"
        refine ⟨rfl, some (.int (i : Int)), ?_⟩
        rw [js', litS_t hB, eg, str_assoc]
      · walk_at "rd"
        refine i_ixL hn eiv ?_
        refine i_addS (small (by omega)) ?_
        walk_at "rd"
        refine ⟨rfl, some (.int (i : Int)), ?_⟩
        rw [js', litS_f hB, eg]
    · rw [hA, if_neg Bool.false_ne_true, List.append_nil] at sn
      walk_at "rd"
      refine ⟨rfl, some (.int (i : Int)), ?_⟩
      rw [sn]
  · rintro σ H1 ⟨rfl, v, rfl⟩
    have ea : askF b 6 = lampsOf b := rfl
    rw [ea]
    rw [shown_out] at q
    walk_at "rd"
    by_cases hL : lampsOf b = []
    · rw [if_pos hL] at q
      rw [hL]
      refine i_ifT (decide_eq_true rfl) ?_
      walk_at "rd"
      exact q
    · rw [if_neg hL] at q
      refine i_ifF (decide_eq_false fun h => ?_) ?_
      · refine absurd (congrArg Str.length h) ?_
        refine join_ne (fun z => hL (List.map_eq_nil_iff.mp z)) fun x hx => ?_
        obtain ⟨k, hk, rfl⟩ := List.mem_map.mp hx
        exact lit_ne h6 b (List.mem_range.mp (List.mem_filter.mp hk).1)
      walk_at "rd"
      exact q
theorem out_or {ns : List Str} (h : Names6 ns) (b : Bar) : (!(Builtin.Str.occurrences (fShown ns (outF b)) " or " 0 (fShown ns (outF b)).length 1).isEmpty) = decide (1 ≤ fLoose (outF b)) := by
  have nm : ∀ k, k < 6 → Lt (ns.getD k Str.empty) := fun k hk => by
    have e : ns[k]? = some (ns[k]'(by rw [h.1]; exact hk)) := List.getElem?_eq_getElem _
    rw [List.getD_eq_getElem?_getD, e]
    exact (h.2 _ (List.mem_of_getElem? e)).1
  have one : ∀ k, k < 6 → OneBlank (litS ns b k) := fun k hk => by
    cases hb : b.2.testBit k with
    | true => rw [litS_t hb]; exact one_not (nm k hk)
    | false => rw [litS_f hb]; exact one_lt (nm k hk)
  have mem6 : ∀ k ∈ lampsOf b, k < 6 := fun k hk => List.mem_range.mp (List.mem_filter.mp hk).1
  rw [shown_out]
  unfold outF
  match e : lampsOf b, mem6 with
  | [], _ =>
    rw [if_pos rfl]
    show (!(Builtin.Str.occurrences "no" " or " 0 (Str.length "no") 1).isEmpty) = false
    decide +kernel
  | [k], m6 =>
    rw [if_neg (by simp)]
    show (!(Builtin.Str.occurrences (litS ns b k) " or " 0 (litS ns b k).length 1).isEmpty) = decide (1 ≤ fLoose (litF b k))
    rw [no_or (one k (m6 k (by simp))), lit_loose]
    rfl
  | k :: k' :: ks, _ =>
    rw [if_neg (by simp)]
    have e2 : Txt.join " or " ((k :: k' :: ks).map (litS ns b)) = litS ns b k ++ (" or " : Str) ++ Txt.join " or " ((k' :: ks).map (litS ns b)) := by
      rw [List.map_cons, join_cons _ _ (by simp)]
    rw [e2, has_or]
    rfl
def spOutside : Sp := fun vs H Q _ => ∃ (l : Addr) (s : Nat) (ps : List Addr) (bs : List Bar), vs = [.int (s : Int), .ref l] ∧ H l = some (.lst (ps.map V.ref)) ∧ Paired (BarAt H) ps bs ∧ (∀ b ∈ bs, b.good) ∧ Q (.bl (!bs.any fun b => lies s b)) H
theorem ok_outside (T : Txt K mg t) : FnS P w K mg base 1 "_law_outside" ["_law_stand", "_law_bars"] (spOutside) := by
  refine ⟨_, _, T.F__law_outside.ok sc__law_outside (fun vs H Q E h => ?_) (fun cdv A outer s H vs Q E hr h => ?_), T.b__law_outside, T.F__law_outside.kp, T.m__law_outside⟩
  · obtain ⟨l, s, ps, bs, rfl, hl, hp, hgd, q⟩ := h
    rfl
  obtain ⟨l, s, ps, bs, rfl, hl, hp, hgd, q⟩ := h
  refine ⟨_, (pss_cons (ps_for PassesOwn.never rfl (pi_seq (pv 1)) (sg 2 sc__law_outside.nd)
      (pss_one (ps_if (pt_cmpR (op_eqA hr.units) (pe_op op_and (pv 0) (pe_ix ix_seq (pv 2) pe_int (fun _ _ => rfl))) (pe_ix ix_seq (pv 2) pe_int (fun _ _ => rfl)) (nomark _))
      (pss_one (ps_ret pe_bl))
      pss_nil)))
      (pss_one (ps_ret pe_bl))), ?_⟩
  walk_at "rd0"
  refine seqL (xs := ps.map V.ref) (fun i σ H' => H = H' ∧ (bs.take i).any (fun b => lies s b) = false ∧ ∃ v, σ = [some (.int (s : Int)), some (.ref l), v]) ⟨rfl, rfl, _, rfl⟩ (fun i σ H' _ hp => by obtain ⟨rfl, _⟩ := hp; exact SqL.of hl) ?_ ?_
  · rintro i x σ H1 hx ⟨rfl, ha, v, rfl⟩
    obtain ⟨p, rfl, hx'⟩ := get_ref hx
    obtain ⟨b, hbi, hb⟩ := paired_get hp hx'
    walk_at "rd"
    refine i_ixT hb (v := .int (b.1 : Int)) rfl ?_
    walk_at "rd"
    refine i_ixT hb (v := .int (b.2 : Int)) rfl ?_
    walk_at "rd"
    have el : decide (Builtin.bitAnd (s : Int) (b.1 : Int) = (b.2 : Int)) = lies s b := by
      rw [and_nat, ← lies_and (hgd b (List.mem_of_getElem? hbi))]
      exact decide_eq_decide.mpr (by omega)
    rw [el]
    refine i_ifb (fun h => ?_) (fun h => ?_)
    · walk_at "rd"
      have : (bs.any fun b => lies s b) = true := List.any_eq_true.mpr ⟨b, List.mem_of_getElem? hbi, h⟩
      rw [this] at q
      exact q
    · walk_at "rd"
      refine ⟨rfl, ?_, _, rfl⟩
      rw [take_snoc hbi, List.any_append, ha]
      simp [h]
  · rintro σ H1 ⟨rfl, ha, v, rfl⟩
    rw [List.length_map, paired_len hp, List.take_length] at ha
    rw [ha] at q
    walk_at "rd"
    exact q
theorem out_len {ns : List Str} (h : Names6 ns) (b : Bar) : (fShown ns (outF b)).length ≤ 200 := by
  rw [shown_out]
  split
  · show Str.length "no" ≤ 200
    decide +kernel
  · exact join_len6 h b _ (by unfold lampsOf; exact Nat.le_trans (List.length_filter_le _ _) (by simp))
theorem shown_of (ns : List Str) (b b' : Bar) (bs : List Bar) : fShown ns (ofF (b :: b' :: bs)) = Txt.join " and " ((b :: b' :: bs).map fun b => brk (decide (1 ≤ fLoose (outF b))) (fShown ns (outF b))) := by
  show fShown ns (.join .a ((b :: b' :: bs).map outF)) = _
  rw [shown_join, List.map_map]
  rfl
theorem lit_wt (b : Bar) (k : Nat) : fWt (litF b k) ≤ 2 := by
  unfold litF
  split <;> simp [fWt]
theorem wtL_lit (b : Bar) : ∀ ks : List Nat, fWtL (ks.map (litF b)) ≤ 3 * ks.length
  | [] => by simp [fWtL]
  | k :: ks => by
    rw [List.map_cons, fWtL, List.length_cons]
    have := lit_wt b k
    have := wtL_lit b ks
    omega
theorem wt_joinF (w : W3) (e : Bool) : ∀ fs : List Fm, fWt (joinF w e fs) ≤ 1 + fWtL fs
  | [] => by simp [joinF, fWt]
  | [f] => by simp only [joinF, fWtL]; omega
  | f :: g :: fs => by simp only [joinF, fWt]; omega
theorem out_wt (b : Bar) : fWt (outF b) ≤ 19 := by
  unfold outF
  have l6 : (lampsOf b).length ≤ 6 := by unfold lampsOf; exact Nat.le_trans (List.length_filter_le _ _) (by simp)
  have := wt_joinF .o false ((lampsOf b).map (litF b))
  have := wtL_lit b (lampsOf b)
  omega
theorem wtL_out : ∀ bs : List Bar, fWtL (bs.map outF) ≤ 20 * bs.length
  | [] => by simp [fWtL]
  | b :: bs => by
    rw [List.map_cons, fWtL, List.length_cons]
    have := out_wt b
    have := wtL_out bs
    omega
theorem of_wt {bs : List Bar} (h : bs.length ≤ 40) : fWt (ofF bs) ≤ 801 := by
  unfold ofF
  have := wt_joinF .a true (bs.map outF)
  have := wtL_out bs
  omega
def spText : Sp := fun vs H Q _ => ∃ (l nl : Addr) (ps : List Addr) (bs : List Bar) (ns : List Str), vs = [.ref l, .ref nl] ∧ H l = some (.lst (ps.map V.ref)) ∧ Paired (BarAt H) ps bs ∧ bs.length ≤ 40 ∧ H nl = some (.lst (ns.map V.str)) ∧ Names6 ns ∧ ∀ H', Same H H' → Q (.str (fShown ns (ofF bs))) H'
theorem brkE (c : Bool) (z : Str) : brk c z = if c = true then ("(" : Str) ++ z ++ (")" : Str) else z := by
  unfold brk
  cases c with
  | true => rw [if_pos rfl, if_pos rfl, empty_app]
  | false => rfl
theorem ok_text (T : Txt K mg t) : FnS P w K mg base 3 "_law_text" ["_law_bars", "_law_names_here"] (spText) := by
  refine ⟨_, _, T.F__law_text.ok sc__law_text (fun vs H Q E h => ?_) (fun cdv A outer s H vs Q E hr h => ?_), T.b__law_text, T.F__law_text.kp, T.m__law_text⟩
  · obtain ⟨l, nl, ps, bs, ns, rfl, hl, hp, hz, hn, h6, q⟩ := h
    rfl
  obtain ⟨l, nl, ps, bs, ns, rfl, hl, hp, hz, hn, h6, q⟩ := h
  have hpl := paired_len hp
  have hlen : (ps.map V.ref).length = ps.length := List.length_map _
  have lp1 : Str.length "(" = 1 := by decide +kernel
  have lp2 : Str.length ")" = 1 := by decide +kernel
  have G__law_bar_text := ok_bar_text (P := P) (w := w) (base := base) T
  refine ⟨_, (pss_cons (ps_if (pt_cmpR (op_eqA hr.units) (pv 0) (pe_lst pa_nil) (nomark _))
      (pss_one (ps_ret pe_str))
      pss_nil)
      (pss_cons (ps_if (pt_cmpR (op_eqA hr.units) (pe_callB call_lenG rfl T.B.len bt_len (pa_cons (pv 0) pa_nil)) pe_int (nomark _))
      (pss_one (ps_ret (pe_fn G__law_bar_text hr (pa_cons (pe_ix ix_seq (pv 0) pe_int (fun _ _ => rfl)) (pa_cons (pv 1) pa_nil)))))
      pss_nil)
      (pss_cons (ss 2 sc__law_text.nd (pe_lst pa_nil))
      (pss_cons (ps_for PassesOwn.never rfl (pi_seq (pv 0)) (sg 3 sc__law_text.nd)
      (pss_cons (ss 4 sc__law_text.nd (pe_fn G__law_bar_text hr (pa_cons (pv 3) (pa_cons (pv 1) pa_nil))))
      (pss_cons (ps_if (pt_cmpR op_inG pe_str (pv 4) (by with_unfolding_all rfl))
      (pss_one (ss 4 sc__law_text.nd (pe_op op_addG (pe_op op_addG pe_str (pv 4)) pe_str)))
      pss_nil)
      (pss_one (ps_expr (pe_bm PySem.F.plainAttrs_list PySem.F.slot_list_append PySem.F.type_list_append mt_append (pv 2) (pa_cons (pv 4) pa_nil)))))))
      (pss_one (ps_ret (pe_bm PySem.F.plainAttrs_str PySem.F.slot_str_join PySem.F.type_str_join ms_join pe_str (pa_cons (pv 2) pa_nil)))))))), ?_⟩
  walk_at "rd0"
  refine j_lst (by simp) fun el H1 s1 n1 e1 => ?_
  refine i_eqLP (ps' := []) (ks' := []) (s1 _ _ hl) e1 (pairs_of (paired_imp (fun _ _ h => s1 _ _ h) hp)) .nil ?_
  walk_at "rd"
  match bs, hp, hpl, hz, q with
  | [], hp, hpl, hz, q =>
    refine i_ifT rfl ?_
    walk_at "rd"
    exact q H1 s1
  | [b], hp, hpl, hz, q =>
    refine i_ifF rfl ?_
    obtain ⟨p, rfl⟩ : ∃ p, ps = [p] := List.length_eq_one_iff.mp hpl
    have hl1 := s1 _ _ hl
    have hb : BarAt H p b := by cases hp with | cons h _ => exact h
    walk_at "rd"
    refine i_ifT rfl ?_
    walk_at "rd"
    refine i_ixL (j := 0) hl1 (v := .ref p) rfl ?_
    walk_at "rd"
    exact ⟨p, nl, b, ns, rfl, s1 _ _ hb, s1 _ _ hn, h6, q H1 s1⟩
  | b0 :: b1 :: bs, hp, hpl, hz, q =>
    rw [shown_of] at q
    generalize hbb : b0 :: b1 :: bs = bb at hp hpl hz q
    have hbl : 2 ≤ bb.length := by rw [← hbb]; simp
    refine i_ifF (decide_eq_false fun z => ?_) ?_
    · have := congrArg List.length z
      rw [List.length_map] at this
      simp at this
      rw [this] at hbl
      simp at hbl
    have hl1 := s1 _ _ hl
    walk_at "rd"
    refine i_ifF (decide_eq_false (by omega)) ?_
    walk_at "rd"
    refine j_lst (by simp) fun pl H2 s2 n2 e2 => ?_
    walk_at "rd"
    refine seqL (xs := ps.map V.ref) (fun i σ H' => Same H H' ∧ H' pl = some (.lst (((bb.take i).map fun b => brk (decide (1 ≤ fLoose (outF b))) (fShown ns (outF b))).map V.str)) ∧ ∃ v3 v4, σ = [some (.ref l), some (.ref nl), some (.ref pl), v3, v4]) ⟨s1.trans s2, e2, _, _, rfl⟩ (fun i σ H' _ hp => by obtain ⟨s, _⟩ := hp; exact SqL.of (s _ _ hl)) ?_ ?_
    · rintro i x σ H3 hx ⟨s3, e3, v3, v4, rfl⟩
      obtain ⟨p, rfl, hx'⟩ := get_ref hx
      obtain ⟨b, hbi, hb⟩ := paired_get hp hx'
      have hi : i < bb.length := (List.getElem?_eq_some_iff.mp hbi).1
      have ol := out_len h6 b
      walk_at "rd"
      refine ⟨p, nl, b, ns, rfl, s3 _ _ hb, s3 _ _ hn, h6, ?_⟩
      walk_at "rd"
      refine .inl ⟨_, _, rfl, rfl, ?_⟩
      rw [out_or h6]
      have fin : ∀ z : Str, z = brk (decide (1 ≤ fLoose (outF b))) (fShown ns (outF b)) → ∀ H5 : Hp, But pl H3 H5 → H5 pl = some (.lst (((bb.take i).map fun b => brk (decide (1 ≤ fLoose (outF b))) (fShown ns (outF b))).map V.str ++ [.str z])) → Same H H5 ∧ H5 pl = some (.lst (((bb.take (i + 1)).map fun b => brk (decide (1 ≤ fLoose (outF b))) (fShown ns (outF b))).map V.str)) := fun z hz H5 b5 e5 => by
        refine ⟨b5.same (s1.free n2) s3, ?_⟩
        rw [e5, take_snoc hbi, List.map_append, List.map_append, hz]
        rfl
      walk_at "rd"
      refine i_ifb (fun h => ?_) (fun h => ?_)
      · walk_at "rd"
        refine i_addS (small (by omega)) ?_
        walk_at "rd"
        refine i_addS (small (by rw [len_append]; omega)) ?_
        walk_at "rd"
        refine ⟨tyL e3, ?_⟩
        walk_at "rd"
        refine j_append e3 (by rw [List.length_map, List.length_map, List.length_take]; omega) fun H5 b5 e5 => ?_
        walk_at "rd"
        obtain ⟨f1, f2⟩ := fin _ (by rw [brkE, if_pos h]) H5 b5 e5
        exact ⟨f1, f2, _, _, rfl⟩
      · walk_at "rd"
        refine ⟨tyL e3, ?_⟩
        walk_at "rd"
        refine j_append e3 (by rw [List.length_map, List.length_map, List.length_take]; omega) fun H5 b5 e5 => ?_
        walk_at "rd"
        obtain ⟨f1, f2⟩ := fin _ (by rw [brkE, if_neg (by rw [h]; exact Bool.false_ne_true)]) H5 b5 e5
        exact ⟨f1, f2, _, _, rfl⟩
    · rintro σ H3 ⟨s3, e3, v3, v4, rfl⟩
      rw [List.length_map, hpl, List.take_length] at e3
      walk_at "rd"
      refine ⟨tyS, ?_⟩
      walk_at "rd"
      have wl := wtL_out bb
      have jo := joinOk_shown (fun z hz => (h6.2 z hz).2.2) .a (bb.map outF) (by omega)
      rw [List.map_map] at jo
      refine ⟨_, pl, _, rfl, rfl, SqL.of e3, jo, ?_⟩
      exact q H3 s3
theorem holds_joinF (w : W3) (hw : w ≠ .e) (s : Nat) : ∀ fs : List Fm, (joinF w (decide (w = .a)) fs).holds s = comb w (fs.map (Fm.holds s))
  | [] => by cases w <;> first | exact absurd rfl hw | rfl
  | [f] => by
    cases w with
    | a => simp [joinF, comb]
    | o => simp [joinF, comb]
    | e => exact absurd rfl hw
  | f :: g :: fs => by
    show (Fm.join w (f :: g :: fs)).holds s = _
    rw [holds_join]
theorem lit_holds (b : Bar) (k s : Nat) : (litF b k).holds s = (b.2.testBit k != s.testBit k) := by
  unfold litF
  split
  · next h => simp [Fm.holds, h]
  · next h =>
    have h : b.2.testBit k = false := by simpa using h
    simp [Fm.holds, h]
theorem out_holds (b : Bar) (s : Nat) : (outF b).holds s = !lies s b := by
  have := holds_joinF .o (by decide) s ((lampsOf b).map (litF b))
  unfold outF
  rw [show (false : Bool) = decide (W3.o = .a) from rfl, this, List.map_map]
  rw [Bool.eq_iff_iff]
  show ((lampsOf b).map _).any id = true ↔ _
  rw [List.any_eq_true, Bool.not_eq_true', ← Bool.not_eq_true, lies_iff]
  constructor
  · rintro ⟨x, hx, ht⟩ c
    obtain ⟨k, hk, rfl⟩ := List.mem_map.mp hx
    obtain ⟨k6, kb⟩ := List.mem_filter.mp hk
    have := c k (List.mem_range.mp k6) kb
    simp only [Function.comp, lit_holds, this, id, bne_self_eq_false] at ht
    cases ht
  · intro c
    refine Classical.byContradiction fun no => c fun k k6 kb => ?_
    refine Classical.byContradiction fun ne => no ⟨_, List.mem_map.mpr ⟨k, List.mem_filter.mpr ⟨List.mem_range.mpr k6, kb⟩, rfl⟩, ?_⟩
    simp only [Function.comp, lit_holds, id]
    exact bne_iff_ne.mpr ne
theorem of_holds (bs : List Bar) (s : Nat) : (ofF bs).holds s = !bs.any fun b => lies s b := by
  have := holds_joinF .a (by decide) s (bs.map outF)
  unfold ofF
  rw [show (true : Bool) = decide (W3.a = .a) from rfl, this, List.map_map]
  show (bs.map _).all id = _
  clear this
  induction bs with
  | nil => rfl
  | cons b bs ih =>
    rw [List.map_cons, List.all_cons, List.any_cons, ih, Bool.not_or]
    simp only [Function.comp, out_holds, id]
theorem ded_lamps (b : Bar) : dedS (lampsOf b) = lampsOf b := by
  show (List.range 6).filter (fun i => decide (i ∈ lampsOf b)) = (List.range 6).filter fun k => b.1.testBit k
  apply List.filter_congr
  intro i hi
  unfold lampsOf
  rw [Bool.eq_iff_iff, decide_eq_true_iff, List.mem_filter]
  exact ⟨fun h => h.2, fun h => ⟨hi, h⟩⟩
theorem lit_lamps (b : Bar) (k : Nat) : fLamps (litF b k) = [k] := by
  unfold litF
  split <;> simp [fLamps]
theorem lits_lamps (b : Bar) : ∀ ks : List Nat, fLampsL (ks.map (litF b)) = ks
  | [] => by simp [fLampsL]
  | k :: ks => by rw [List.map_cons, fLampsL, lit_lamps, lits_lamps b ks]; rfl
theorem out_lamps (b : Bar) : fLamps (outF b) = lampsOf b := by
  unfold outF
  have hd := ded_lamps b
  match e : lampsOf b, hd with
  | [], _ => simp [joinF, fLamps]
  | [k], _ => exact lit_lamps b k
  | k :: k' :: ks, hd =>
    show fLamps (.join .o ((k :: k' :: ks).map (litF b))) = _
    simp only [fLamps]
    rw [lits_lamps]
    exact hd
/-- the lamps that some bar asks for -/
def askedL (bs : List Bar) : List Nat := (List.range 6).filter fun k => bs.any fun b => b.1.testBit k
theorem flat_asked (bs : List Bar) : dedS (bs.flatMap lampsOf) = askedL bs := by
  show (List.range 6).filter (fun i => decide (i ∈ bs.flatMap lampsOf)) = _
  apply List.filter_congr
  intro i hi
  rw [Bool.eq_iff_iff, decide_eq_true_iff, List.mem_flatMap, List.any_eq_true]
  constructor
  · rintro ⟨b, hb, h⟩
    exact ⟨b, hb, (List.mem_filter.mp h).2⟩
  · rintro ⟨b, hb, h⟩
    exact ⟨b, hb, List.mem_filter.mpr ⟨hi, h⟩⟩
theorem of_lamps (bs : List Bar) : fLamps (ofF bs) = askedL bs := by
  have e0 := flat_asked bs
  unfold ofF
  match bs, e0 with
  | [], e0 => rw [← e0]; simp only [List.map_nil, joinF, fLamps]; decide +kernel
  | [b], e0 =>
    rw [← e0]
    show fLamps (outF b) = _
    rw [out_lamps, List.flatMap_cons, List.flatMap_nil, List.append_nil, ded_lamps]
  | b :: b' :: bs, e0 =>
    show fLamps (.join .a ((b :: b' :: bs).map outF)) = _
    rw [← e0]
    simp only [fLamps, lampsL_eq]
    congr 1
    rw [List.flatMap_map]
    congr 1
    funext x
    exact out_lamps x
theorem of_low (bs : List Bar) : (ofF bs).low 6 = true := by
  have lit : ∀ b k, k < 6 → (litF b k).low 6 = true := fun b k hk => by
    unfold litF
    split <;> simp [Fm.low, hk]
  have jn : ∀ (w : W3) (e : Bool) (fs : List Fm), (∀ f ∈ fs, f.low 6 = true) → (joinF w e fs).low 6 = true := fun w e fs h => by
    match fs, h with
    | [], _ => simp [joinF, Fm.low]
    | [f], h => exact h f (by simp)
    | f :: g :: fs, h =>
      show (Fm.join w (f :: g :: fs)).low 6 = true
      rw [low_join, List.all_eq_true]
      exact h
  refine jn _ _ _ fun f hf => ?_
  obtain ⟨b, _, rfl⟩ := List.mem_map.mp hf
  refine jn _ _ _ fun f hf => ?_
  obtain ⟨k, hk, rfl⟩ := List.mem_map.mp hf
  exact lit b k (List.mem_range.mp (List.mem_filter.mp hk).1)
theorem lamps_none : ∀ a, a < 64 → ((List.range 6).filter (fun k => a.testBit k) = [] ↔ a = 0) := by decide +kernel
theorem lamps_two : ∀ a, a < 64 → a ≠ 0 → (a &&& (a - 1) = 0 ↔ ((List.range 6).filter (fun k => a.testBit k)).length = 1) := by decide +kernel
theorem lamps_lit : ∀ a, a < 64 → ∀ x, x < 64 → x &&& a = x → ((List.range 6).filter (fun k => a.testBit k)).length = 1 → (x = 0 ↔ ((List.range 6).filter (fun k => a.testBit k)).all (fun k => !x.testBit k) = true) := by decide +kernel
def spClass (t : Ad) : Sp := fun vs H Q _ => ∃ (fq l : Addr) (ps : List Addr) (bs : List Bar), vs = [.ref fq, .ref l] ∧ FmAt t H 4 fq (ofF bs) ∧ H l = some (.lst (ps.map V.ref)) ∧ Paired (BarAt H) ps bs ∧ (∀ b ∈ bs, b.good) ∧ bs.length ≤ 40 ∧ ∀ H', Same H H' → Q (.bl true) H'
theorem ok_of_class (T : Txt K mg t) : FnS P w K mg base 1 "_law_of_class" ["_law_formula", "_law_bars"] (spClass t) := by
  refine ⟨_, _, T.F__law_of_class.ok sc__law_of_class (fun vs H Q E h => ?_) (fun cdv A outer s H vs Q E hr h => ?_), T.b__law_of_class, T.F__law_of_class.kp, T.m__law_of_class⟩
  · obtain ⟨fq, l, ps, bs, rfl, hf, hl, hp, hgd, hz, q⟩ := h
    rfl
  obtain ⟨fq, l, ps, bs, rfl, hf, hl, hp, hgd, hz, q⟩ := h
  have hpl := paired_len hp
  have hlen : (ps.map V.ref).length = ps.length := List.length_map _
  refine ⟨_, (pss_cons (ps_if (pt_cmpR op_gt (pe_callB call_lenG rfl T.B.len bt_len (pa_cons (pv 1) pa_nil)) pe_int (nomark _))
      (pss_one (ps_ret (pe_callB call_isi rfl T.B.isinstance bt_isinstance (pa_cons (pv 0) (pa_cons (pe_glob (v := .ref t.C_And) rfl T.m_And rfl) pa_nil)))))
      pss_nil)
      (pss_cons (ps_if (PW.pt (pw_or (pt_cmpR (op_eqA hr.units) (pv 1) (pe_lst pa_nil) (nomark _)) (pw_or1 (pt_cmpR (op_eqA hr.units) (pe_ix ix_seq (pe_ix ix_seq (pv 1) pe_int (fun _ _ => rfl)) pe_int (fun _ _ => rfl)) pe_int (nomark _)))))
      (pss_one (ps_ret (pe_callB call_isi rfl T.B.isinstance bt_isinstance (pa_cons (pv 0) (pa_cons (pe_glob (v := .ref t.C_Sure) rfl T.m_Sure rfl) pa_nil)))))
      pss_nil)
      (pss_cons (ps_if (pt_cmpR (op_neA hr.units) (pe_op op_and (pe_ix ix_seq (pe_ix ix_seq (pv 1) pe_int (fun _ _ => rfl)) pe_int (fun _ _ => rfl)) (pe_op op_sub (pe_ix ix_seq (pe_ix ix_seq (pv 1) pe_int (fun _ _ => rfl)) pe_int (fun _ _ => rfl)) pe_int)) pe_int (nomark _))
      (pss_one (ps_ret (pe_callB call_isi rfl T.B.isinstance bt_isinstance (pa_cons (pv 0) (pa_cons (pe_glob (v := .ref t.C_Or) rfl T.m_Or rfl) pa_nil)))))
      pss_nil)
      (pss_cons (ps_if (pt_cmpR (op_eqA hr.units) (pe_ix ix_seq (pe_ix ix_seq (pv 1) pe_int (fun _ _ => rfl)) pe_int (fun _ _ => rfl)) pe_int (nomark _))
      (pss_one (ps_ret (pe_callB call_isi rfl T.B.isinstance bt_isinstance (pa_cons (pv 0) (pa_cons (pe_glob (v := .ref t.C_Lamp) rfl T.m_Lamp rfl) pa_nil)))))
      pss_nil)
      (pss_one (ps_ret (pe_callB call_isi rfl T.B.isinstance bt_isinstance (pa_cons (pv 0) (pa_cons (pe_glob (v := .ref t.C_Not) rfl T.m_Not rfl) pa_nil))))))))), ?_⟩
  walk_at "rd0"
  match bs, hf, hp, hpl, hgd with
  | b :: b' :: bs, hf, hp, hpl, hgd =>
    rw [List.length_cons, List.length_cons] at hpl
    refine i_ifT (decide_eq_true (by omega)) ?_
    obtain ⟨dx, tp, qs, e, _⟩ : FmAt t H 4 fq (.join .a ((b :: b' :: bs).map outF)) := hf
    walk_at "rd"
    exact i_isiC (T.y_And _ _ _ _ e) (kit_selfR _ _) (q H (Same.refl _))
  | [], hf, hp, hpl, hgd =>
    rw [List.length_nil] at hpl
    refine i_ifF (decide_eq_false (by omega)) ?_
    obtain ⟨dx, e⟩ : FmAt t H 4 fq (.sure true) := hf
    walk_at "rd"
    refine j_lst (by simp) fun el H1 s1 n1 e1 => ?_
    refine i_eqLP (ps' := []) (ks' := []) (s1 _ _ hl) e1 (pairs_of (paired_imp (fun _ _ h => s1 _ _ h) hp)) .nil ?_
    walk_at "rd"
    refine i_ifT rfl ?_
    refine i_ifT rfl ?_
    walk_at "rd"
    exact i_isiC (T.y_Sure _ _ _ _ (s1 _ _ e)) (kit_selfR _ _) (q H1 s1)
  | [b], hf, hp, hpl, hgd =>
    obtain ⟨p, rfl⟩ : ∃ p, ps = [p] := List.length_eq_one_iff.mp hpl
    have hb : BarAt H p b := by cases hp with | cons h _ => exact h
    have g := hgd b (by simp)
    have b64 := g.1
    have hf : FmAt t H 4 fq (outF b) := hf
    unfold outF at hf
    refine i_ifF (decide_eq_false (by simp)) ?_
    walk_at "rd"
    refine j_lst (by simp) fun el H1 s1 n1 e1 => ?_
    have hl1 := s1 _ _ hl
    have hb1 : BarAt H1 p b := s1 _ _ hb
    have hf1 := FmAt.mono (Ext.of s1) hf
    refine i_eqLP (ps' := []) (ks' := []) hl1 e1 (pairs_of (bs := [b]) (.cons hb1 .nil)) .nil ?_
    walk_at "rd"
    refine i_ifF (decide_eq_false (by intro z; cases z)) ?_
    walk_at "rd"
    refine i_ixL (j := 0) hl1 (v := .ref p) rfl ?_
    walk_at "rd"
    refine i_ixT hb1 (v := .int (b.1 : Int)) rfl ?_
    walk_at "rd"
    have none := lamps_none b.1 b64
    have two := lamps_two b.1 b64
    have el : lampsOf b = (List.range 6).filter fun k => b.1.testBit k := rfl
    rw [← el] at none two
    refine i_ifd (fun h => ?_) (fun h => ?_)
    · rw [none.mpr (by omega)] at hf1
      obtain ⟨dx, e⟩ : FmAt t H1 4 fq (.sure false) := hf1
      walk_at "rd"
      exact i_isiC (T.y_Sure _ _ _ _ e) (kit_selfR _ _) (q H1 s1)
    have hn0 : b.1 ≠ 0 := by omega
    have two := two hn0
    walk_at "rd"
    refine i_ixL (j := 0) hl1 (v := .ref p) rfl ?_
    walk_at "rd"
    refine i_ixT hb1 (v := .int (b.1 : Int)) rfl ?_
    walk_at "rd"
    refine i_ixL (j := 0) hl1 (v := .ref p) rfl ?_
    walk_at "rd"
    refine i_ixT hb1 (v := .int (b.1 : Int)) rfl ?_
    walk_at "rd"
    have ea : Builtin.bitAnd (b.1 : Int) ((b.1 : Int) - 1) = ((b.1 &&& (b.1 - 1) : Nat) : Int) := by
      rw [show (b.1 : Int) - 1 = ((b.1 - 1 : Nat) : Int) by omega, and_nat]
    rw [ea]
    refine i_ifn (fun h => ?_) (fun h => ?_)
    · have h2 : ¬ (lampsOf b).length = 1 := fun z => h (by rw [two.mpr z]; rfl)
      have h0 : lampsOf b ≠ [] := fun z => hn0 (none.mp z)
      walk_at "rd"
      match e : lampsOf b, h0, h2, hf1 with
      | [], h0, _, _ => exact absurd rfl h0
      | [k], _, h2, _ => exact absurd rfl h2
      | k :: k' :: ks, _, _, hf1 =>
        obtain ⟨dx, tp, qs, e, _⟩ : FmAt t H1 4 fq (.join .o ((k :: k' :: ks).map (litF b))) := hf1
        exact i_isiC (T.y_Or _ _ _ _ e) (kit_selfR _ _) (q H1 s1)
    · have h1 : (lampsOf b).length = 1 := two.mp (by omega)
      have b2 : b.2 < 64 := by
        have := Nat.and_le_right (n := b.2) (m := b.1)
        rw [g.2] at this
        omega
      have ll := lamps_lit b.1 b64 b.2 b2 g.2 h1
      rw [← el] at ll
      obtain ⟨k, ek⟩ : ∃ k, lampsOf b = [k] := List.length_eq_one_iff.mp h1
      rw [ek] at ll hf1
      have hf1 : FmAt t H1 4 fq (litF b k) := hf1
      simp only [List.all_cons, List.all_nil, Bool.and_true] at ll
      walk_at "rd"
      refine i_ixL (j := 0) hl1 (v := .ref p) rfl ?_
      walk_at "rd"
      refine i_ixT hb1 (v := .int (b.2 : Int)) rfl ?_
      walk_at "rd"
      refine i_ifd (fun h => ?_) (fun h => ?_)
      · have hk := ll.mp (by omega)
        unfold litF at hf1
        rw [if_neg (by simpa using hk)] at hf1
        obtain ⟨dx, e⟩ := hf1
        walk_at "rd"
        exact i_isiC (T.y_Lamp _ _ _ _ e) (kit_selfR _ _) (q H1 s1)
      · have hk : b.2.testBit k = true := by
          cases z : b.2.testBit k with
          | true => rfl
          | false => exact absurd (ll.mpr (by rw [z]; rfl)) (by omega)
        unfold litF at hf1
        rw [if_pos hk] at hf1
        obtain ⟨dx, qq, e, _⟩ := hf1
        walk_at "rd"
        exact i_isiC (T.y_Not _ _ _ _ e) (kit_selfR _ _) (q H1 s1)
end

section
variable {P : Program} {w : World} {K : PySem.W.Frag} {mg : Str → Option Value} {base : Heap} {t : Ad} {n : Nat}
theorem FmAt.isi {H : Hp} {p : Addr} {f : Fm} (T : Txt K mg t) (h : FmAt t H n p f) : ∃ c, TyOf K H (.ref p) c ∧ PySem.W.kitOne K c (.ref t.C_Formula) = some true := by
  cases n with
  | zero => exact h.elim
  | succ n =>
    cases f with
    | lamp k => obtain ⟨dx, e⟩ := h; exact ⟨_, T.y_Lamp _ _ _ _ e, T.z_Lamp_Formula⟩
    | sure b => obtain ⟨dx, e⟩ := h; exact ⟨_, T.y_Sure _ _ _ _ e, T.z_Sure_Formula⟩
    | neg g => obtain ⟨dx, q, e, h⟩ := h; exact ⟨_, T.y_Not _ _ _ _ e, T.z_Not_Formula⟩
    | join w gs =>
      cases w with
      | a => obtain ⟨dx, tp, ps, e, e2, h⟩ := h; exact ⟨_, T.y_And _ _ _ _ e, T.z_And_Formula⟩
      | e => exact h.elim
      | o => obtain ⟨dx, tp, ps, e, e2, h⟩ := h; exact ⟨_, T.y_Or _ _ _ _ e, T.z_Or_Formula⟩
def spCounted (t : Ad) : Sp := fun vs H Q _ => ∃ (fq l : Addr) (ps : List Addr) (bs : List Bar) (m : Nat), vs = [.ref fq, .ref l, .int (m : Int)] ∧ FmAt t H 4 fq (ofF bs) ∧ H l = some (.lst (ps.map V.ref)) ∧ Paired (BarAt H) ps bs ∧ (∀ b ∈ bs, b.good) ∧ bs.length ≤ 40 ∧ m ≤ 6 ∧ ∀ H', Same H H' → Q (.bl true) H'
end

section
variable {P : Program} {w : World} {K : PySem.W.Frag} {mg : Str → Option Value} {base : Heap} {t : Ad} {n : Nat}
theorem ok_counted (T : Txt K mg t) : FnS P w K mg base 20 "_law_counted" ["_law_formula", "_law_bars", "_law_many"] (spCounted t) := by
  refine ⟨_, _, T.F__law_counted.ok sc__law_counted (fun vs H Q E h => ?_) (fun cdv A outer s H vs Q E hr h => ?_), T.b__law_counted, T.F__law_counted.kp, T.m__law_counted⟩
  · obtain ⟨fq, l, ps, bs, m, rfl, hf, hl, hp, hgd, hz, hm6, q⟩ := h
    rfl
  obtain ⟨fq, l, ps, bs, m, rfl, hf, hl, hp, hgd, hz, hm6, q⟩ := h
  have G__law_outside := ok_outside (P := P) (w := w) (base := base) T
  have D_crowd := D_crowd_of (P := P) (w := w) (base := base) T 5
  have D_lamps := D_lamps_of (P := P) (w := w) (base := base) T 5
  refine ⟨_, (pss_cons (ss 3 sc__law_counted.nd pe_int)
      (pss_cons (ps_for PassesOwn.never rfl (pi_range1 rfl T.B.range (pa_cons (pe_op op_shl pe_int (pv 2)) pa_nil)) (sg 4 sc__law_counted.nd)
      (pss_one (ps_if (pt_truth (pe_fn G__law_outside hr (pa_cons (pv 4) (pa_cons (pv 1) pa_nil))) (fun _ => rfl))
      (pss_one (ss 3 sc__law_counted.nd (pe_op op_or (pv 3) (pe_op op_shl pe_int (pv 4)))))
      pss_nil)))
      (pss_cons (ss 5 sc__law_counted.nd (pe_dy D_crowd hr (pv 0) (pa_cons (pv 2) pa_nil)))
      (pss_cons (ss 6 sc__law_counted.nd (pe_dy0 D_lamps hr (pv 0)))
      (pss_cons (ps_if (PW.pt (pw_or (pt_not (pt_truth (pe_callB call_isi rfl T.B.isinstance bt_isinstance (pa_cons (pv 5) (pa_cons (pe_bltn (v := .ty "int") rfl T.B.int bt_int rfl) pa_nil))) (fun _ => rfl))) (pw_or (pt_truth (pe_callB call_isi rfl T.B.isinstance bt_isinstance (pa_cons (pv 5) (pa_cons (pe_bltn (v := .ty "bool") rfl T.B.bool bt_bool rfl) pa_nil))) (fun _ => rfl)) (pw_or (pt_cmpR (op_neA hr.units) (pv 5) (pv 3) (nomark _)) (pw_or1 (pt_not (pt_truth (pe_callB call_isi rfl T.B.isinstance bt_isinstance (pa_cons (pv 6) (pa_cons (pe_bltn (v := .ty "list") rfl T.B.list bt_list rfl) pa_nil))) (fun _ => rfl))))))))
      (pss_one (ps_ret pe_bl))
      pss_nil)
      (pss_cons (ps_for PassesOwn.never rfl (pi_seq (pv 6)) (sg 7 sc__law_counted.nd)
      (pss_one (ps_if (PW.pt (pw_or (pt_not (pt_truth (pe_callB call_isi rfl T.B.isinstance bt_isinstance (pa_cons (pv 7) (pa_cons (pe_bltn (v := .ty "int") rfl T.B.int bt_int rfl) pa_nil))) (fun _ => rfl))) (pw_or1 (pt_truth (pe_callB call_isi rfl T.B.isinstance bt_isinstance (pa_cons (pv 7) (pa_cons (pe_bltn (v := .ty "bool") rfl T.B.bool bt_bool rfl) pa_nil))) (fun _ => rfl)))))
      (pss_one (ps_ret pe_bl))
      pss_nil)))
      (pss_one (ps_ret (pe_cmpR (op_eqA hr.units) (pv 6) (pe_compC (sc := defScope s__law_counted) (N := ["_law_formula", "_law_bars", "_law_many", "_law_due", "_law_s", "_law_found", "_law_lamps", "_law_k"]) (ns := ["_law_bars"]) (ix := [1]) rfl rfl (by decide +kernel) rfl (pi_range1 rfl T.B.range (pa_cons pe_int pa_nil)) (fun _ _ _ _ => (pts_one (pt_cmpR op_gt (pe_callB (call_lenGK (K := K) rfl) rfl T.B.len bt_len (pa_cons (pe_comp (N := ["_law_k", "_law_bars"]) (ns := ["_law_k"]) (ix := [0]) rfl rfl (of_decide_eq_true rfl) rfl (pi_seqK (K := K) rfl (pv 1)) (fun _ _ _ _ => (pts_one (pt_cmpR (op_eqA hr.units) (pe_op op_and (pe_op op_shr (pe_ix (ix_seqK (K := K) rfl) (pv 0) pe_int (fun _ _ => rfl)) (pv 1)) pe_int) pe_int (nomark _)))) (fun _ _ _ _ => (pv 0))) pa_nil)) pe_int (nomark _)))) (fun _ _ _ _ => (pv 0))) (nomark _)))))))))), ?_⟩
  walk_at "rd0"
  have hp2 := pow_small hm6
  have hp0 : 0 < 2 ^ m := Nat.two_pow_pos m
  rw [shl_nat]
  refine ⟨_, rfl, by omega, by omega, ?_⟩
  rw [Int.toNat_natCast]
  refine loopR0 (n := 2 ^ m) (fun i σ H' => H = H' ∧ ∃ v, σ = [some (.ref fq), some (.ref l), some (.int (m : Int)), some (.int ((bits (fun s => !bs.any fun b => lies s b) i : Nat) : Int)), v, none, none, none]) ⟨rfl, _, rfl⟩ ?_ ?_
  · rintro i σ H1 hi ⟨rfl, v, rfl⟩
    walk_at "rd"
    refine ⟨l, i, ps, bs, rfl, hl, hp, hgd, ⟨_, rfl, ?_⟩⟩
    refine i_ifb (fun h => ?_) (fun h => ?_)
    · walk_at "rd"
      rw [or_one h]
      exact ⟨rfl, _, rfl⟩
    · walk_at "rd"
      refine ⟨rfl, some (.int (i : Int)), ?_⟩
      rw [bits_skip (fun s => !bs.any fun b => lies s b) i h]
  rintro σ H1 ⟨rfl, v, rfl⟩
  have hf5 : FmAt t H 5 fq (ofF bs) := FmAt.le (by omega) hf
  obtain ⟨C, dx, fs, eo, hC, hlk⟩ := hf5.ins "crowd" (by decide +kernel) (by decide +kernel) (by decide +kernel) (by decide +kernel)
  obtain ⟨C2, dx2, fs2, eo2, hC2, hlk2⟩ := hf5.ins "lamps" (by decide +kernel) (by decide +kernel) (by decide +kernel) (by decide +kernel)
  have ec : (ofF bs).crowd (2 ^ m) = bits (fun s => !bs.any fun b => lies s b) (2 ^ m) := by
    unfold Fm.crowd
    congr 1
    funext s
    exact of_holds bs s
  walk_at "rd"
  refine ⟨fq, C, dx, fs, rfl, eo, hC, hlk, ?_⟩
  walk_at "rd"
  refine ⟨eo, fq, m, ofF bs, rfl, hm6, hf5, ?_⟩
  rw [ec]
  walk_at "rd"
  refine ⟨fq, C2, dx2, fs2, rfl, eo2, hC2, hlk2, ?_⟩
  walk_at "rd"
  refine ⟨eo2, fq, ofF bs, rfl, hf5, of_low bs, by have := of_wt hz; omega, fun ll H2 s2 n2 e2 => ?_⟩
  rw [of_lamps] at e2
  walk_at "rd"
  refine i_ifF rfl ?_
  walk_at "rd"
  refine i_ifF rfl ?_
  walk_at "rd"
  refine i_ifF (by rw [decide_eq_true rfl]; rfl) ?_
  walk_at "rd"
  refine i_ifF rfl ?_
  walk_at "rd"
  refine seqL (xs := numsL (askedL bs)) (fun i σ H' => H2 = H' ∧ ∃ v7, σ = [some (.ref fq), some (.ref l), some (.int (m : Int)), some (.int ((bits (fun s => !bs.any fun b => lies s b) (2 ^ m) : Nat) : Int)), v, some (.int ((bits (fun s => !bs.any fun b => lies s b) (2 ^ m) : Nat) : Int)), some (.ref ll), v7]) ⟨rfl, _, rfl⟩ (fun i σ H' _ hp => by obtain ⟨rfl, _⟩ := hp; exact SqL.of e2) ?_ ?_
  · rintro i x σ H3 hx ⟨rfl, v7, rfl⟩
    obtain ⟨k, rfl⟩ : ∃ k : Nat, x = .int (k : Int) := by
      unfold numsL at hx
      rw [List.getElem?_map] at hx
      cases e : (askedL bs)[i]? with
      | none => rw [e] at hx; cases hx
      | some k => rw [e] at hx; exact ⟨k, (Option.some.inj hx).symm⟩
    walk_at "rd"
    refine i_ifF rfl ?_
    walk_at "rd"
    refine i_ifF rfl ?_
    walk_at "rd"
    exact ⟨rfl, _, rfl⟩
  rintro σ H3 ⟨rfl, v7, rfl⟩
  walk_at "rd"
  refine ⟨_, rfl, by omega, by omega, ?_⟩
  refine comp_range (n := 6) (fun k => bs.any fun b => b.1.testBit k) (by decide) (fun i H' hi s1 R kk => ?_) (fun i H' hi s1 R kk => ?_) fun al H4 n4 s4 e4 => ?_
  · simp only [subS, List.map_cons, List.map_nil]
    walk_at "rd"
    have hl' := s1 _ _ (s2 _ _ hl)
    refine .inl ⟨l, _, rfl, SqL.of hl', ?_⟩
    refine comp_by (fun j ys => ys.length = ((bs.take j).filter fun b => b.1.testBit i).length) (wk_list (SqL.of hl')) (by rw [List.length_map, paired_len hp]; omega) rfl ?_ ?_
    · intro j x ys acc H5 hx s5 hacc ea hy _ R2 k2
      obtain ⟨p, rfl, hx'⟩ := get_ref hx
      obtain ⟨b, hbi, hb⟩ := paired_get hp hx'
      simp only [subS, List.map_cons, List.map_nil]
      walk_at "rd"
      refine i_ixT (s5 _ _ (s1 _ _ (s2 _ _ hb))) (v := .int (b.1 : Int)) rfl ?_
      walk_at "rd"
      rw [lit_eq]
      refine k2 _ H5 (Same.refl _) (fun z => ?_) fun z R3 k3 => ?_
      · rw [take_snoc hbi, List.filter_append]
        simp [z, hy]
      · walk_at "rd"
        refine k3 _ H5 (Same.refl _) ?_
        rw [take_snoc hbi, List.filter_append]
        simp [z, hy]
    · intro acc ys H5 n5 s5 e5 hy
      rw [List.length_map, paired_len hp, List.take_length] at hy
      walk_at "rd"
      have ed : decide (0 < (ys.length : Int)) = bs.any fun b => b.1.testBit i := by
        rw [Bool.eq_iff_iff, decide_eq_true_iff, List.any_eq_true, hy]
        constructor
        · intro z
          obtain ⟨b, hb⟩ := List.exists_mem_of_length_pos (show 0 < (bs.filter fun b => b.1.testBit i).length by omega)
          exact ⟨b, (List.mem_filter.mp hb).1, (List.mem_filter.mp hb).2⟩
        · rintro ⟨b, hb, h⟩
          have hm : b ∈ bs.filter (fun b => b.1.testBit i) := List.mem_filter.mpr ⟨hb, h⟩
          have := List.length_pos_of_mem hm
          omega
      rw [ed]
      exact kk H5 s5
  · simp only [subS, List.map_cons, List.map_nil]
    walk_at "rd"
    exact kk H' (Same.refl _)
  · have e2' : H4 ll = some (.lst ((nums (askedL bs)).map V.int)) := by
      have := s4 _ _ e2
      unfold numsL at this
      unfold nums
      rw [List.map_map]
      exact this
    refine i_eqLI e2' e4 ?_
    have : decide (nums (askedL bs) = nums ((List.range 6).filter fun k => bs.any fun b => b.1.testBit k)) = true := decide_eq_true rfl
    rw [this]
    exact q H4 (s2.trans s4)
end

section
variable {P : Program} {w : World} {K : PySem.W.Frag} {mg : Str → Option Value} {base : Heap} {t : Ad} {n : Nat}
theorem ok_law (T : Txt K mg t) : FnOk P w K mg base CX0 60 t.f_law t.d_law ["_law_script"] (spLaw K) := by
  refine T.F_law.ok sc_law (fun vs H Q E h => ?_) (fun cdv A outer s H vs Q E hr h => ?_)
  · obtain ⟨a, ns, rfl, _⟩ := h
    rfl
  obtain ⟨sc, ns, rfl, hS, h63, hO, q⟩ := h
  have G__law_cell_at := ok_cell_at (P := P) (w := w) (base := base) T
  have G__law_counted := ok_counted (P := P) (w := w) (base := base) T
  have G__law_names := ok_names (P := P) (w := w) (base := base) T
  have G__law_text := ok_text (P := P) (w := w) (base := base) T
  have G__law_outside := ok_outside (P := P) (w := w) (base := base) T
  have G__law_of_class := ok_of_class (P := P) (w := w) (base := base) T
  have G_formula_of := ok_formula_of (P := P) (w := w) (base := base) T
  have M_Not := ok_Not (P := P) (w := w) (base := base) T
  have D_holds := D_holds_of (P := P) (w := w) (base := base) T 5
  have D_shown := D_shown_of (P := P) (w := w) (base := base) T 5
  refine ⟨_, (pss_cons (ss 1 sc_law.nd (pe_op op_addG pe_int (pe_op op_mod (pe_fn G__law_cell_at hr (pa_cons (pv 0) (pa_cons pe_int pa_nil))) pe_int)))
      (pss_cons (ss 2 sc_law.nd (pe_op op_shl pe_int (pv 1)))
      (pss_cons (ss 3 sc_law.nd (pe_fn G__law_names hr (pa_cons (pe_fn G__law_cell_at hr (pa_cons (pv 0) (pa_cons pe_int pa_nil))) pa_nil)))
      (pss_cons (ss 4 sc_law.nd (pe_lst pa_nil))
      (pss_cons (ps_for PassesOwn.never rfl (pi_seq (pe_slice sl_any (pv 0) (po_some pe_int) (po_some pe_int))) (sg 5 sc_law.nd)
      (pss_cons (ss 6 sc_law.nd (pe_op op_mod (pv 5) (pv 2)))
      (pss_one (ps_expr (pe_bm PySem.F.plainAttrs_list PySem.F.slot_list_append PySem.F.type_list_append mt_append (pv 4) (pa_cons (pe_tup (pa_cons (pv 6) (pa_cons (pe_op op_and (pv 6) (pe_op op_mod (pe_op op_fdivG (pv 5) (pv 2)) (pv 2))) pa_nil))) pa_nil))))))
      (pss_cons (ss 7 sc_law.nd (pe_callTy call_listG rfl T.B.list bt_list (pa_cons (pv 4) pa_nil)))
      (pss_cons (ss 8 sc_law.nd (pe_fn G_formula_of hr (pa_cons (pv 7) pa_nil)))
      (pss_cons (ps_if (PW.pt (pw_or (pt_cmpR (op_neA hr.units) (pv 7) (pv 4) (nomark _)) (pw_or1 (pt_not (pt_truth (pe_callB call_isi rfl T.B.isinstance bt_isinstance (pa_cons (pv 8) (pa_cons (pe_glob (v := .ref t.C_Formula) rfl T.m_Formula rfl) pa_nil))) (fun _ => rfl))))))
      (pss_one (ps_ret pe_bl))
      pss_nil)
      (pss_cons (ps_expr (pe_bm0 PySem.F.plainAttrs_list PySem.F.slot_list_clear PySem.F.type_list_clear mt_clear (pv 7)))
      (pss_cons (ps_for PassesOwn.never rfl (pi_range1 rfl T.B.range (pa_cons (pv 2) pa_nil)) (sg 9 sc_law.nd)
      (pss_cons (ss 10 sc_law.nd (pe_dy D_holds hr (pv 8) (pa_cons (pv 9) pa_nil)))
      (pss_one (ps_if (PW.pt (pw_or (pt_not (pt_truth (pe_callB call_isi rfl T.B.isinstance bt_isinstance (pa_cons (pv 10) (pa_cons (pe_bltn (v := .ty "bool") rfl T.B.bool bt_bool rfl) pa_nil))) (fun _ => rfl))) (pw_or1 (pt_cmpR (op_neA hr.units) (pv 10) (pe_fn G__law_outside hr (pa_cons (pv 9) (pa_cons (pv 4) pa_nil))) (nomark _)))))
      (pss_one (ps_ret pe_bl))
      pss_nil))))
      (pss_cons (ps_if (PW.pt (pw_or (pt_not (pt_truth (pe_fn G__law_of_class hr (pa_cons (pv 8) (pa_cons (pv 4) pa_nil))) (fun _ => rfl))) (pw_or1 (pt_not (pt_truth (pe_fn G__law_counted hr (pa_cons (pv 8) (pa_cons (pv 4) (pa_cons (pv 1) pa_nil)))) (fun _ => rfl))))))
      (pss_one (ps_ret pe_bl))
      pss_nil)
      (pss_cons (ss 11 sc_law.nd (pe_dy D_shown hr (pv 8) (pa_cons (pe_callTy call_listG rfl T.B.list bt_list (pa_cons (pv 3) pa_nil)) pa_nil)))
      (pss_cons (ss 12 sc_law.nd (pe_dy D_shown hr (pe_mk M_Not hr (pa_cons (pv 8) pa_nil)) (pa_cons (pe_callTy call_listG rfl T.B.list bt_list (pa_cons (pv 3) pa_nil)) pa_nil)))
      (pss_cons (ss 13 sc_law.nd (pe_fn G__law_text hr (pa_cons (pv 4) (pa_cons (pv 3) pa_nil))))
      (pss_cons (ps_if (PW.pt (pw_or (pt_not (pt_truth (pe_callB call_isi rfl T.B.isinstance bt_isinstance (pa_cons (pv 11) (pa_cons (pe_bltn (v := .ty "str") rfl T.B.str bt_str rfl) pa_nil))) (fun _ => rfl))) (pw_or1 (pt_cmpR (op_neA hr.units) (pv 11) (pv 13) (nomark _)))))
      (pss_one (ps_ret pe_bl))
      pss_nil)
      (pss_cons (ps_if (PW.pt (pw_or (pt_cmpR op_gt (pe_callB call_lenG rfl T.B.len bt_len (pa_cons (pv 4) pa_nil)) pe_int (nomark _)) (pw_or1 (pt_cmpR op_inG pe_str (pv 13) (by with_unfolding_all rfl)))))
      (pss_one (ss 13 sc_law.nd (pe_op op_addG (pe_op op_addG pe_str (pv 13)) pe_str)))
      pss_nil)
      (pss_one (ps_ret (pe_and (pe_cmpR (op_eqA hr.units) (pv 12) (pe_op op_addG pe_str (pv 13)) (nomark _)) (pe_one (pe_cmpR (op_eqA hr.units) (pe_dy D_shown hr (pv 8) (pa_cons (pe_callTy call_listG rfl T.B.list bt_list (pa_cons (pv 3) pa_nil)) pa_nil)) (pv 11) (nomark _)))))))))))))))))))))), ?_⟩
  obtain ⟨m, hm, hm1, hm6⟩ : ∃ m : Nat, 1 + cell ns 0 % 6 = (m : Int) ∧ 1 ≤ m ∧ m ≤ 6 := ⟨(1 + cell ns 0 % 6).toNat, by omega, by omega, by omega⟩
  have hp2 := pow_small hm6
  have hp0 : 0 < 2 ^ m := Nat.two_pow_pos m
  walk_at "rd0"
  refine ⟨sc, ns, 0, rfl, hS, ?_⟩
  walk_at "rd"
  rw [hm]
  walk_at "rd"
  rw [shl_nat]
  walk_at "rd"
  refine ⟨sc, ns, 1, rfl, hS, ?_⟩
  walk_at "rd"
  refine ⟨cell ns 1, rfl, fun nl zs H1 s1 n1 e1 h6 => ?_⟩
  walk_at "rd"
  refine j_lst (by simp) fun bl H2 s2 n2 e2 => ?_
  walk_at "rd"
  refine j_slA ((s1.trans s2).seq hS) ((cut_mid _ 2 42).trans (map_int_mid ns 2 40)) fun cl H3 s3 n3 e3 => ?_
  have hcs : ((ns.drop 2).take 40).length ≤ 40 := by rw [List.length_take]; omega
  generalize (ns.drop 2).take 40 = cs at hcs e3 ⊢
  have ncb : cl ≠ bl := (ne_of_none e2 n3).symm
  have nnb : nl ≠ bl := ne_of_none e1 n2
  refine seqL (xs := cs.map V.int) (fun i σ H' => Same H1 H' ∧ H' cl = some (.lst (cs.map V.int)) ∧ (∃ ps bs, H' bl = some (.lst (ps.map V.ref)) ∧ Paired (BarAt H') ps bs ∧ (∀ b ∈ bs, b.good) ∧ bs.length = i) ∧ ∃ v5 v6, σ = [some (.ref sc), some (.int (m : Int)), some (.int ((2 ^ m : Nat) : Int)), some (.ref nl), some (.ref bl), v5, v6, none, none, none, none, none, none, none])
    ⟨s2.trans s3, e3, ⟨[], [], s3 _ _ e2, .nil, (fun b hb => by cases hb), rfl⟩, _, _, rfl⟩ (fun i σ H' _ hp => by obtain ⟨_, e, _⟩ := hp; exact SqL.of e) ?_ ?_
  · rintro i x σ H4 hx ⟨s4, e4, ⟨ps, bs, eb, hp, hgd, hbl⟩, v5, v6, rfl⟩
    obtain ⟨c, rfl, hci⟩ := get_int hx
    have hi : i < cs.length := (List.getElem?_eq_some_iff.mp hci).1
    have hpl := paired_len hp
    walk_at "rd"
    obtain ⟨a, ea, ha⟩ : ∃ a : Nat, c % ((2 ^ m : Nat) : Int) = (a : Int) ∧ a < 2 ^ m := by
      have v1 := Int.emod_nonneg c (show ((2 ^ m : Nat) : Int) ≠ 0 by omega)
      have v2 := Int.emod_lt_of_pos c (show (0 : Int) < ((2 ^ m : Nat) : Int) by omega)
      exact ⟨(c % ((2 ^ m : Nat) : Int)).toNat, by omega, by omega⟩
    rw [ea]
    refine ⟨tyL eb, ?_⟩
    walk_at "rd"
    obtain ⟨x, ex⟩ : ∃ x : Nat, c / ((2 ^ m : Nat) : Int) % ((2 ^ m : Nat) : Int) = (x : Int) := by
      have v1 := Int.emod_nonneg (c / ((2 ^ m : Nat) : Int)) (show ((2 ^ m : Nat) : Int) ≠ 0 by omega)
      exact ⟨(c / ((2 ^ m : Nat) : Int) % ((2 ^ m : Nat) : Int)).toNat, by omega⟩
    rw [ex, and_nat]
    refine j_tup (by simp) fun bp H5 s5 n5 e5 => ?_
    walk_at "rd"
    refine j_append (s5 _ _ eb) (by rw [List.length_map]; omega) fun H6 b6 e6 => ?_
    walk_at "rd"
    have hbar : BarAt H5 bp (a, a &&& x) := e5
    have tup6 : ∀ {p : Addr} {b : Bar}, BarAt H5 p b → BarAt H6 p b := fun h => b6 _ _ (ne_of h (s5 _ _ eb) (by intro z; cases z)) h
    refine ⟨b6.same n2 (s4.trans s5), b6 _ _ ncb (s5 _ _ e4), ⟨ps ++ [bp], bs ++ [(a, a &&& x)], by rw [e6, List.map_append]; rfl, paired_append (paired_imp (fun _ _ h => tup6 (s5 _ _ h)) hp) (.cons (tup6 hbar) .nil), fun b hb => ?_, by rw [List.length_append, hbl]; rfl⟩, _, _, rfl⟩
    rcases List.mem_append.mp hb with h | h
    · exact hgd b h
    · rw [List.mem_singleton.mp h]
      exact good_and hm6 ha
  rintro σ H4 ⟨s4, e4, ⟨ps, bs, eb, hp, hgd, hbl⟩, v5, v6, rfl⟩
  rw [List.length_map] at hbl
  have hb40 : bs.length ≤ 40 := by omega
  have en4 := s4 _ _ e1
  clear e4 e3 e2 s3 s2
  walk_at "rd"
  refine j_list (.inl (SqL.of eb)) fun hd H5 s5 n5 e5 => ?_
  walk_at "rd"
  refine ⟨hd, ps, bs, rfl, e5, paired_imp (fun _ _ h => s5 _ _ h) hp, fun b hb => (hgd b hb).1, by omega, fun fq H6 s6 f6 => ?_⟩
  walk_at "rd"
  have w6 := s5.trans s6
  refine i_neLP (s6 _ _ e5) (w6 _ _ eb) (pairs_of (paired_imp (fun _ _ h => w6 _ _ h) hp)) (pairs_of (paired_imp (fun _ _ h => w6 _ _ h) hp)) ?_
  rw [decide_eq_true rfl]
  walk_at "rd"
  refine i_ifF rfl ?_
  obtain ⟨cc, ty, ki⟩ := f6.isi T
  walk_at "rd"
  refine i_isiC ty ki ?_
  walk_at "rd"
  refine i_ifF rfl ?_
  walk_at "rd"
  refine ⟨tyL (s6 _ _ e5), ?_⟩
  walk_at "rd"
  refine j_clear (s6 _ _ e5) fun H7 b7 e7 => ?_
  have nb : bl ≠ hd := ne_of_none eb n5
  have nn : nl ≠ hd := ne_of_none en4 n5
  have eb7 := b7 _ _ nb (w6 _ _ eb)
  have en7 := b7 _ _ nn (w6 _ _ en4)
  have hp7 : Paired (BarAt H7) ps bs := paired_imp (fun _ _ h => b7 _ _ (ne_of (w6 _ _ h) (s6 _ _ e5) (by intro z; cases z)) (w6 _ _ h)) hp
  have f7 := FmAt.mono (b7.ext (s6 _ _ e5)) f6
  clear hp eb en4 w6 s5 s6 e5 f6 ty ki
  walk_at "rd"
  refine ⟨_, rfl, by omega, by omega, ?_⟩
  rw [Int.toNat_natCast]
  have f75 : FmAt t H7 5 fq (ofF bs) := FmAt.le (by omega) f7
  refine loopR0 (n := 2 ^ m) (fun i σ H' => H7 = H' ∧ ∃ v9 v10, σ = [some (.ref sc), some (.int (m : Int)), some (.int ((2 ^ m : Nat) : Int)), some (.ref nl), some (.ref bl), v5, v6, some (.ref hd), some (.ref fq), v9, v10, none, none, none]) ⟨rfl, _, _, rfl⟩ ?_ ?_
  · rintro i σ H8 hi ⟨rfl, v9, v10, rfl⟩
    obtain ⟨C, dx, fs, eo, hC, hlk⟩ := f75.ins "holds" (by decide +kernel) (by decide +kernel) (by decide +kernel) (by decide +kernel)
    walk_at "rd"
    refine ⟨fq, C, dx, fs, rfl, eo, hC, hlk, ?_⟩
    walk_at "rd"
    refine ⟨eo, fq, i, ofF bs, rfl, f75, ?_⟩
    walk_at "rd"
    refine i_ifF rfl ?_
    walk_at "rd"
    refine ⟨bl, i, ps, bs, rfl, eb7, hp7, hgd, ?_⟩
    rw [← of_holds]
    walk_at "rd"
    refine i_ifF (by rw [decide_eq_true rfl]; rfl) ?_
    walk_at "rd"
    exact ⟨rfl, _, _, rfl⟩
  rintro σ H8 ⟨rfl, v9, v10, rfl⟩
  walk_at "rd"
  refine ⟨fq, bl, ps, bs, rfl, f7, eb7, hp7, hgd, hb40, fun H8 s8 => ⟨_, rfl, ?_⟩⟩
  walk_at "rd"
  refine i_ifF rfl ?_
  walk_at "rd"
  refine ⟨fq, bl, ps, bs, m, rfl, FmAt.mono (Ext.of s8) f7, s8 _ _ eb7, paired_imp (fun _ _ h => s8 _ _ h) hp7, hgd, hb40, hm6, fun H9 s9 => ⟨_, rfl, ?_⟩⟩
  walk_at "rd"
  refine i_ifF rfl ?_
  walk_at "rd"
  have w9 := s8.trans s9
  have f9 : FmAt t H9 4 fq (ofF bs) := FmAt.mono (Ext.of w9) f7
  have f95 : FmAt t H9 5 fq (ofF bs) := FmAt.le (by omega) f9
  have en9 := w9 _ _ en7
  have eb9 := w9 _ _ eb7
  have hp9 : Paired (BarAt H9) ps bs := paired_imp (fun _ _ h => w9 _ _ h) hp7
  have h20 : ∀ z ∈ zs, z.length ≤ 20 := fun z hz => (h6.2 z hz).2.2
  have hlow : (ofF bs).low zs.length = true := by rw [h6.1]; exact of_low bs
  have hwt := of_wt hb40
  have hsl := shown_len h20 (ofF bs)
  have lp1 : Str.length "(" = 1 := by decide +kernel
  have lp2 : Str.length ")" = 1 := by decide +kernel
  have lp3 : Str.length "not " = 4 := by decide +kernel
  clear w9 s8 s9 f7 en7 eb7 hp7 f75
  obtain ⟨C, dx, fs, eo, hC, hlk⟩ := f95.ins "shown" (by decide +kernel) (by decide +kernel) (by decide +kernel) (by decide +kernel)
  refine ⟨fq, C, dx, fs, rfl, eo, hC, hlk, ?_⟩
  walk_at "rd"
  refine j_list (.inl (SqL.of en9)) fun h1 H10 s10 n10 e10 => ?_
  walk_at "rd"
  refine ⟨s10 _ _ eo, fq, h1, _, zs, rfl, FmAt.mono (Ext.of s10) f95, e10, h20, hlow, by omega, fun H11 s11 => ?_⟩
  walk_at "rd"
  refine i_init1 fun nx nd H12 s12 n12 e12 => ?_
  have w12 := s10.trans (s11.trans s12)
  have fN : FmAt t H12 5 nx (.neg (ofF bs)) := ⟨nd, fq, e12, FmAt.mono (Ext.of w12) f9⟩
  obtain ⟨C2, dx2, fs2, eo2, hC2, hlk2⟩ := fN.ins "shown" (by decide +kernel) (by decide +kernel) (by decide +kernel) (by decide +kernel)
  walk_at "rd"
  refine ⟨nx, C2, dx2, fs2, rfl, eo2, hC2, hlk2, ?_⟩
  walk_at "rd"
  refine j_list (.inl (SqL.of (w12 _ _ en9))) fun h2 H13 s13 n13 e13 => ?_
  walk_at "rd"
  refine ⟨s13 _ _ eo2, nx, h2, _, zs, rfl, FmAt.mono (Ext.of s13) fN, e13, h20, by simp only [Fm.low]; exact hlow, by simp only [fWt]; omega, fun H14 s14 => ?_⟩
  have w14 := w12.trans (s13.trans s14)
  walk_at "rd"
  refine ⟨bl, nl, ps, bs, zs, rfl, w14 _ _ eb9, paired_imp (fun _ _ h => w14 _ _ h) hp9, hb40, w14 _ _ en9, h6, fun H15 s15 => ?_⟩
  have w15 := w14.trans s15
  have eb15 := w15 _ _ eb9
  have f15 : FmAt t H15 5 fq (ofF bs) := FmAt.mono (Ext.of w15) f95
  have en15 := w15 _ _ en9
  have eo15 := w15 _ _ eo
  walk_at "rd"
  refine i_ifF rfl ?_
  walk_at "rd"
  refine i_ifF (by rw [decide_eq_true rfl]; rfl) ?_
  walk_at "rs"
  have hpl := paired_len hp9
  have hlen : (ps.map V.ref).length = ps.length := List.length_map _
  have oror : bs.length ≤ 1 → (!(Builtin.Str.occurrences (fShown zs (ofF bs)) " or " 0 (fShown zs (ofF bs)).length 1).isEmpty) = decide (1 ≤ fLoose (ofF bs)) := fun hb => by
    match bs, hb with
    | [], _ =>
      show (!(Builtin.Str.occurrences "yes" " or " 0 (Str.length "yes") 1).isEmpty) = false
      decide +kernel
    | [b], _ => exact out_or h6 b
  have many2 : ¬ bs.length ≤ 1 → decide (1 ≤ fLoose (ofF bs)) = true := fun hb => by
    match bs, hb with
    | [], hb => exact absurd (by simp) hb
    | [b], hb => exact absurd (by simp) hb
    | b :: b' :: bs, _ => rfl
  try dsimp only
  refine i_join (fun σ H' => H15 = H' ∧ σ = [some (.ref sc), some (.int (m : Int)), some (.int ((2 ^ m : Nat) : Int)), some (.ref nl), some (.ref bl), v5, v6, some (.ref hd), some (.ref fq), v9, v10, some (.str (fShown zs (ofF bs))), some (.str (fShown zs (.neg (ofF bs)))), some (.str (brk (decide (1 ≤ fLoose (ofF bs))) (fShown zs (ofF bs))))]) ?_ ?_
  rotate_left
  · intro Kn hK
    walk_at "rs"
    refine i_ifd (fun h => ?_) (fun h => ?_)
    · have ht := many2 (by omega)
      walk_at "rd"
      refine i_ifT rfl ?_
      walk_at "rd"
      refine i_addS (small (by omega)) ?_
      walk_at "rd"
      refine i_addS (small (by rw [len_append]; omega)) ?_
      walk_at "rd"
      refine hK _ _ ⟨rfl, ?_⟩
      rw [ht, brkE, if_pos rfl]
    · have ho := oror (by omega)
      walk_at "rd"
      refine .inl ⟨_, _, rfl, rfl, ?_⟩
      rw [ho]
      walk_at "rd"
      refine i_ifb (fun h' => ?_) (fun h' => ?_)
      · walk_at "rd"
        refine i_addS (small (by omega)) ?_
        walk_at "rd"
        refine i_addS (small (by rw [len_append]; omega)) ?_
        walk_at "rd"
        refine hK _ _ ⟨rfl, ?_⟩
        rw [h', brkE, if_pos rfl]
      · walk_at "rd"
        refine hK _ _ ⟨rfl, ?_⟩
        rw [h', brkE, if_neg Bool.false_ne_true]
  rintro σ H16 ⟨rfl, rfl⟩
  have bl2 := brk_len (decide (1 ≤ fLoose (ofF bs))) (fShown zs (ofF bs))
  walk_at "rd"
  refine i_addS (small (by omega)) ?_
  walk_at "rd"
  have en : fShown zs (.neg (ofF bs)) = ("not " : Str) ++ brk (decide (1 ≤ fLoose (ofF bs))) (fShown zs (ofF bs)) := by
    simp only [fShown]
    rw [empty_app]
  rw [en, decide_eq_true rfl]
  refine ⟨_, rfl, ?_⟩
  walk_at "rd"
  refine ⟨fq, C, dx, fs, rfl, eo15, hC, hlk, ?_⟩
  walk_at "rd"
  refine j_list (.inl (SqL.of en15)) fun h3 H17 s17 n17 e17 => ?_
  walk_at "rd"
  refine ⟨s17 _ _ eo15, fq, h3, _, zs, rfl, FmAt.mono (Ext.of s17) f15, e17, h20, hlow, by omega, fun H18 s18 => ?_⟩
  walk_at "rd"
  rw [decide_eq_true rfl]
  exact q _
end


end LW
theorem PySem.W.Fast.tw9851546838207763145 : True := trivial
theorem PySem.W.Fast.tw14097295719686847306 : True := trivial
theorem PySem.W.Fast.tw10261541913036648862 : True := trivial
theorem PySem.W.Fast.tw1951834139767431226 : True := trivial
theorem PySem.W.Fast.tw4807445963431065599 : True := trivial
theorem PySem.W.Fast.tw3215765810191149459 : True := trivial
theorem PySem.W.Fast.tw15915903501744477670 : True := trivial
theorem PySem.W.Fast.tw13634734450513520093 : True := trivial
theorem PySem.W.Fast.tw5509480884174438794 : True := trivial
theorem PySem.W.Fast.tw10372853134671698918 : True := trivial
theorem PySem.W.Fast.tw14808696403651452502 : True := trivial
theorem PySem.W.Fast.tw4349199404173480632 : True := trivial
theorem PySem.W.Fast.tw10465780492213297822 : True := trivial
theorem PySem.W.Fast.tw4738771442068052066 : True := trivial
theorem PySem.W.Fast.tw10431731305363576139 : True := trivial
theorem PySem.W.Fast.tw11476699608282038707 : True := trivial
theorem PySem.W.Fast.tw14832743640619205331 : True := trivial
theorem PySem.W.Fast.tw8392247744382294160 : True := trivial
theorem PySem.W.Fast.tw16499782982789372071 : True := trivial
theorem PySem.W.Fast.tw11296341746011689899 : True := trivial
theorem PySem.W.Fast.tw1295897682250113293 : True := trivial
theorem PySem.W.Fast.tw15676091530023069945 : True := trivial
theorem PySem.W.Fast.tw2320042649984109641 : True := trivial
theorem PySem.W.Fast.tw16297376071658087383 : True := trivial
theorem PySem.W.Fast.tw17537354659978428904 : True := trivial
theorem PySem.W.Fast.tw6120439810948057995 : True := trivial
theorem PySem.W.Fast.tw9781475255266488763 : True := trivial
theorem PySem.W.Fast.tw8272303832983420444 : True := trivial
theorem PySem.W.Fast.tw12982642807757938254 : True := trivial
theorem PySem.W.Fast.tw167526331274185026 : True := trivial
theorem PySem.W.Fast.tw4936762049723626594 : True := trivial
theorem PySem.W.Fast.tw17883047670078083071 : True := trivial
theorem PySem.W.Fast.tw3563781364671434282 : True := trivial
theorem PySem.W.Fast.tw16985247302869076086 : True := trivial
theorem PySem.W.Fast.tw7852565962354985396 : True := trivial
theorem PySem.W.Fast.tw16983662349871413223 : True := trivial
theorem PySem.W.Fast.tw12856640516887515208 : True := trivial
theorem PySem.W.Fast.tw10753559297234926684 : True := trivial
theorem PySem.W.Fast.tw8429933018911538111 : True := trivial
theorem PySem.W.Fast.tw4095734614778077827 : True := trivial
theorem PySem.W.Fast.tw12920494369919724667 : True := trivial
theorem PySem.W.Fast.tw1553715634067040311 : True := trivial
theorem PySem.W.Fast.tw10449489672292801022 : True := trivial
theorem PySem.W.Fast.tw6469229959428369169 : True := trivial
theorem PySem.W.Fast.tw1325516163506712470 : True := trivial
theorem PySem.W.Fast.tw993799756127609661 : True := trivial
theorem PySem.W.Fast.tw15077356634807705754 : True := trivial
theorem PySem.W.Fast.tw692786235859881475 : True := trivial
theorem PySem.W.Fast.tw14783950458220460936 : True := trivial
theorem PySem.W.Fast.tw8618028595430034462 : True := trivial
theorem PySem.W.Fast.tw1851474236733662516 : True := trivial
theorem PySem.W.Fast.tw15758708859453912738 : True := trivial
theorem PySem.W.Fast.tw14431268708728531039 : True := trivial
theorem PySem.W.Fast.tw2110915310150670190 : True := trivial
theorem PySem.W.Fast.tw11166175992985731529 : True := trivial
theorem PySem.W.Fast.tw4825697829234108290 : True := trivial
theorem PySem.W.Fast.tw4865956493204934461 : True := trivial
theorem PySem.W.Fast.tw6913931200534843975 : True := trivial
theorem PySem.W.Fast.tw4155322723057884954 : True := trivial
theorem PySem.W.Fast.tw6044645948028771479 : True := trivial
theorem PySem.W.Fast.tw10776752195116737945 : True := trivial
theorem PySem.W.Fast.tw7006595443739550810 : True := trivial
theorem PySem.W.Fast.tw9415315969158131384 : True := trivial
theorem PySem.W.Fast.tw12160031253067511520 : True := trivial
theorem PySem.W.Fast.tw9280956984903140297 : True := trivial
theorem PySem.W.Fast.tw15486715207910073499 : True := trivial
theorem PySem.W.Fast.tw6282054278633931487 : True := trivial
theorem PySem.W.Fast.tw8220519311789853710 : True := trivial
theorem PySem.W.Fast.tw13460830733638343660 : True := trivial
theorem PySem.W.Fast.tw16785803521703564636 : True := trivial
theorem PySem.W.Fast.tw10732930607489801414 : True := trivial
theorem PySem.W.Fast.tw8949034260690076463 : True := trivial
theorem PySem.W.Fast.tw1884999953213715405 : True := trivial
theorem PySem.W.Fast.tw5651269711730299992 : True := trivial
theorem PySem.W.Fast.tw18129308299076568359 : True := trivial
theorem PySem.W.Fast.tw14652995676447937097 : True := trivial
theorem PySem.W.Fast.tw6325150565394745907 : True := trivial
theorem PySem.W.Fast.tw15596441359805693588 : True := trivial
theorem PySem.W.Fast.tw17260046205041529370 : True := trivial
theorem PySem.W.Fast.tw11202808634446404937 : True := trivial
theorem PySem.W.Fast.tw14236376453594096982 : True := trivial
theorem PySem.W.Fast.tw11238390050744647707 : True := trivial
theorem PySem.W.Fast.tw2707606055815141817 : True := trivial
theorem PySem.W.Fast.tw3625722077073435028 : True := trivial
theorem PySem.W.Fast.tw3934012543211953410 : True := trivial
theorem PySem.W.Fast.tw891066775946180403 : True := trivial
theorem PySem.W.Fast.tw6721863288450040238 : True := trivial
theorem PySem.W.Fast.tw2621811514493910887 : True := trivial
theorem PySem.W.Fast.tw13453227076785411695 : True := trivial
theorem PySem.W.Fast.tw5513560149875980169 : True := trivial
theorem PySem.W.Fast.tw10161743422340505878 : True := trivial
theorem PySem.W.Fast.tw12925622560702931542 : True := trivial
theorem PySem.W.Fast.tw10589729611038175972 : True := trivial
theorem PySem.W.Fast.tw14946784098930699662 : True := trivial
theorem PySem.W.Fast.tw6665686401764584791 : True := trivial
theorem PySem.W.Fast.tw2622874144206509577 : True := trivial
theorem PySem.W.Fast.tw15211315984787851435 : True := trivial
theorem PySem.W.Fast.tw13709930858569907911 : True := trivial
theorem PySem.W.Fast.tw16279652836862774414 : True := trivial
theorem PySem.W.Fast.tw6598647609636294378 : True := trivial
theorem PySem.W.Fast.tw3344218573314354083 : True := trivial
theorem PySem.W.Fast.tw1716501337357967788 : True := trivial
theorem PySem.W.Fast.tw17257864329752115318 : True := trivial
theorem PySem.W.Fast.tw9507902986575662257 : True := trivial
theorem PySem.W.Fast.tw1871504597821583656 : True := trivial
theorem PySem.W.Fast.tw16315984943270851721 : True := trivial
theorem PySem.W.Fast.tw16200309562820056522 : True := trivial
theorem PySem.W.Fast.tw2790009626226604326 : True := trivial
theorem PySem.W.Fast.tw6376384005549291791 : True := trivial
theorem PySem.W.Fast.tw7999956404408839517 : True := trivial
theorem PySem.W.Fast.tw14779826532210479750 : True := trivial
theorem PySem.W.Fast.tw17609212387335928484 : True := trivial
theorem PySem.W.Fast.tw12399813920532923329 : True := trivial
theorem PySem.W.Fast.tw4929649410211931886 : True := trivial
theorem PySem.W.Fast.tw18153979847064390398 : True := trivial
theorem PySem.W.Fast.tw1875186699161860138 : True := trivial
theorem PySem.W.Fast.tw14679281783476469117 : True := trivial
theorem PySem.W.Fast.tw14357684361130483084 : True := trivial
theorem PySem.W.Fast.tw4314997775303088514 : True := trivial
theorem PySem.W.Fast.tw12592304663168836919 : True := trivial
theorem PySem.W.Fast.tw3382614292569021526 : True := trivial
theorem PySem.W.Fast.tw10587087731093988239 : True := trivial
theorem PySem.W.Fast.tw9316372643945748135 : True := trivial
theorem PySem.W.Fast.tw390523311765768953 : True := trivial
theorem PySem.W.Fast.tw12523784177336612999 : True := trivial
theorem PySem.W.Fast.tw13104288934135718866 : True := trivial
theorem PySem.W.Fast.tw6339203209591099209 : True := trivial
theorem PySem.W.Fast.tw9445479185627753751 : True := trivial
theorem PySem.W.Fast.tw12031427347572729272 : True := trivial
theorem PySem.W.Fast.tw3159790000523790468 : True := trivial
theorem PySem.W.Fast.tw18109730081512622159 : True := trivial
theorem PySem.W.Fast.tw7252713193390810445 : True := trivial
theorem PySem.W.Fast.tw11484025121321096778 : True := trivial
theorem PySem.W.Fast.tw1404640464618208108 : True := trivial
theorem PySem.W.Fast.tw16268586535878953303 : True := trivial
theorem PySem.W.Fast.tw10093028057544192426 : True := trivial
theorem PySem.W.Fast.tw3090074893656542159 : True := trivial
theorem PySem.W.Fast.tw14436183342291656452 : True := trivial
theorem PySem.W.Fast.tw9946009731270636200 : True := trivial
theorem PySem.W.Fast.tw6346280675626577592 : True := trivial
theorem PySem.W.Fast.tw15072157736667820791 : True := trivial
theorem PySem.W.Fast.tw17086992021174972597 : True := trivial
theorem PySem.W.Fast.tw9968461831398237250 : True := trivial
theorem PySem.W.Fast.tw15181838896760926165 : True := trivial
theorem PySem.W.Fast.tw8211569974895231229 : True := trivial
theorem PySem.W.Fast.tw18353189530075932714 : True := trivial
theorem PySem.W.Fast.tw16100807657955594402 : True := trivial
theorem PySem.W.Fast.tw1103587139810456274 : True := trivial
theorem PySem.W.Fast.tw7378057163706394182 : True := trivial
theorem PySem.W.Fast.tw7634138505362303922 : True := trivial
theorem PySem.W.Fast.tw17306682206291969231 : True := trivial
theorem PySem.W.Fast.tw6902561485940557119 : True := trivial
theorem PySem.W.Fast.tw16259090321276408242 : True := trivial
theorem PySem.W.Fast.tw8043509990110850199 : True := trivial
theorem PySem.W.Fast.tw8252814996218065496 : True := trivial
theorem PySem.W.Fast.tw10903200925006065220 : True := trivial
theorem PySem.W.Fast.tw10722601631059735783 : True := trivial
theorem PySem.W.Fast.tw3523691218732229163 : True := trivial
theorem PySem.W.Fast.tw8278318013634217716 : True := trivial
theorem PySem.W.Fast.tw6435458623008855719 : True := trivial
theorem PySem.W.Fast.tw17689829142308902946 : True := trivial
theorem PySem.W.Fast.tw13141842676437921622 : True := trivial
theorem PySem.W.Fast.tw12806127576903464377 : True := trivial
theorem PySem.W.Fast.tw16324430876762035252 : True := trivial
theorem PySem.W.Fast.tw14483113313363007467 : True := trivial
theorem PySem.W.Fast.tw14454339953558950272 : True := trivial
theorem PySem.W.Fast.tw2321037522863633151 : True := trivial
theorem PySem.W.Fast.tw13672179541336720961 : True := trivial
theorem PySem.W.Fast.tw14116255609667103195 : True := trivial
theorem PySem.W.Fast.tw5908335789366851549 : True := trivial
theorem PySem.W.Fast.tw2585850258041097768 : True := trivial
theorem PySem.W.Fast.tw15620391937111738585 : True := trivial
theorem PySem.W.Fast.tw3400396167973060972 : True := trivial
theorem PySem.W.Fast.tw3784605737871673009 : True := trivial
theorem PySem.W.Fast.tw1456731877227796853 : True := trivial
theorem PySem.W.Fast.tw15842512286294321961 : True := trivial
theorem PySem.W.Fast.tw8729229552466393971 : True := trivial
theorem PySem.W.Fast.tw15420817786912177706 : True := trivial
theorem PySem.W.Fast.tw4316589514206303121 : True := trivial
theorem PySem.W.Fast.tw16929149017881095907 : True := trivial
theorem PySem.W.Fast.tw1595126595728767208 : True := trivial
theorem PySem.W.Fast.tw16959699613875309228 : True := trivial
theorem PySem.W.Fast.tw11166619817755418120 : True := trivial
theorem PySem.W.Fast.tw17277334540603827347 : True := trivial
theorem PySem.W.Fast.tw13026274289968499203 : True := trivial
theorem PySem.W.Fast.tw17439791308014443430 : True := trivial
theorem PySem.W.Fast.tw15480004872456557872 : True := trivial
theorem PySem.W.Fast.tw12359165874151371971 : True := trivial
theorem PySem.W.Fast.tw5002982361141453046 : True := trivial
theorem PySem.W.Fast.tw3114161886219413049 : True := trivial
theorem PySem.W.Fast.tw7440412171500753157 : True := trivial
theorem PySem.W.Fast.tw2151414844614576644 : True := trivial
theorem PySem.W.Fast.tw3160118692437466756 : True := trivial
theorem PySem.W.Fast.tw17909012463681693505 : True := trivial
theorem PySem.W.Fast.tw11111176844020796666 : True := trivial
theorem PySem.W.Fast.tw14026716526934789525 : True := trivial
theorem PySem.W.Fast.tw17314269069432036025 : True := trivial
theorem PySem.W.Fast.tw13162581391531026034 : True := trivial
theorem PySem.W.Fast.tw11283617685654378161 : True := trivial
theorem PySem.W.Fast.tw13054264377313118946 : True := trivial
theorem PySem.W.Fast.tw12362608585669500323 : True := trivial
theorem PySem.W.Fast.tw12954062361653371783 : True := trivial
theorem PySem.W.Fast.tw11435988767841198243 : True := trivial
theorem PySem.W.Fast.tw12096542695864056485 : True := trivial
theorem PySem.W.Fast.tw371522483871849901 : True := trivial
theorem PySem.W.Fast.tw10311433813953550692 : True := trivial
theorem PySem.W.Fast.tw5409199023272336940 : True := trivial
theorem PySem.W.Fast.tw1833156846603748260 : True := trivial
theorem PySem.W.Fast.tw18369096716334762273 : True := trivial
theorem PySem.W.Fast.tw2823871796959010590 : True := trivial
theorem PySem.W.Fast.tw10040681073616461687 : True := trivial
theorem PySem.W.Fast.tw6174671626307152890 : True := trivial
theorem PySem.W.Fast.tw5420065406476914523 : True := trivial
theorem PySem.W.Fast.tw1901252045031541773 : True := trivial
theorem PySem.W.Fast.tw1865772216618596345 : True := trivial
theorem PySem.W.Fast.tw10382424738938377544 : True := trivial
theorem PySem.W.Fast.tw14797767967507597360 : True := trivial
theorem PySem.W.Fast.tw9012697803599490561 : True := trivial
theorem PySem.W.Fast.tw9847204245590231551 : True := trivial
theorem PySem.W.Fast.tw12829766488900375001 : True := trivial
theorem PySem.W.Fast.tw17981162470672107677 : True := trivial
theorem PySem.W.Fast.tw11930662367636101632 : True := trivial
theorem PySem.W.Fast.tw9431945906472416759 : True := trivial
theorem PySem.W.Fast.tw3371010738327485472 : True := trivial
theorem PySem.W.Fast.tw222686221906744078 : True := trivial
theorem PySem.W.Fast.tw16172504478314251856 : True := trivial
theorem PySem.W.Fast.tw12613572872443887811 : True := trivial
theorem PySem.W.Fast.tw11195170019627788149 : True := trivial
theorem PySem.W.Fast.tw4320436109286676637 : True := trivial
theorem PySem.W.Fast.tw3958780409295842442 : True := trivial
theorem PySem.W.Fast.tw16701224624705545258 : True := trivial
theorem PySem.W.Fast.tw6905601373655798628 : True := trivial
theorem PySem.W.Fast.tw17487451269854110238 : True := trivial
theorem PySem.W.Fast.tw2421517106394138997 : True := trivial
theorem PySem.W.Fast.tw7530567460710790668 : True := trivial
theorem PySem.W.Fast.tw1902663125557140693 : True := trivial
theorem PySem.W.Fast.tw18043381848050173892 : True := trivial
theorem PySem.W.Fast.tw2187319773412958003 : True := trivial
theorem PySem.W.Fast.tw3554923762387436975 : True := trivial
theorem PySem.W.Fast.tw3619724285069448911 : True := trivial
theorem PySem.W.Fast.tw15119261270121034536 : True := trivial
theorem PySem.W.Fast.tw3710138190300260134 : True := trivial
theorem PySem.W.Fast.tw2804244483748758301 : True := trivial
theorem PySem.W.Fast.tw9944148558813767213 : True := trivial
theorem PySem.W.Fast.tw11153600194800972750 : True := trivial
theorem PySem.W.Fast.tw1437617281636970118 : True := trivial
theorem PySem.W.Fast.tw144992412312046774 : True := trivial
theorem PySem.W.Fast.tw5756580565222351592 : True := trivial
theorem PySem.W.Fast.tw13571820125885430575 : True := trivial
theorem PySem.W.Fast.tw7106466967730859584 : True := trivial
theorem PySem.W.Fast.tw8463551467661560188 : True := trivial
theorem PySem.W.Fast.tw5625703682082874150 : True := trivial
theorem PySem.W.Fast.tw2090018247937098012 : True := trivial
theorem PySem.W.Fast.tw11312552650901673604 : True := trivial
theorem PySem.W.Fast.tw16412327071892887202 : True := trivial
theorem PySem.W.Fast.tw6740181300800881551 : True := trivial
theorem PySem.W.Fast.tw17915728086416903209 : True := trivial
theorem PySem.W.Fast.tw8561788542281499875 : True := trivial
theorem PySem.W.Fast.tw15395206868174618159 : True := trivial
theorem PySem.W.Fast.tw16473111545497733944 : True := trivial
theorem PySem.W.Fast.tw17166983823863133444 : True := trivial
theorem PySem.W.Fast.tw12265273369730021135 : True := trivial
theorem PySem.W.Fast.tw12847551170527351996 : True := trivial
theorem PySem.W.Fast.tw17907142229705852240 : True := trivial
theorem PySem.W.Fast.tw14876777512165175648 : True := trivial
theorem PySem.W.Fast.tw10576729779356785071 : True := trivial
theorem PySem.W.Fast.tw10363017966109809324 : True := trivial
theorem PySem.W.Fast.tw15984922447219515133 : True := trivial
theorem PySem.W.Fast.tw243176815084909984 : True := trivial
theorem PySem.W.Fast.tw16842020947173894 : True := trivial
theorem PySem.W.Fast.tw6594871044443086286 : True := trivial
theorem PySem.W.Fast.tw17619779796337249658 : True := trivial
theorem PySem.W.Fast.tw4449492981792962480 : True := trivial
theorem PySem.W.Fast.tw8009286246336183734 : True := trivial
theorem PySem.W.Fast.tw12484344786228076573 : True := trivial
theorem PySem.W.Fast.tw2033827864956006262 : True := trivial
theorem PySem.W.Fast.tw17610751558973206349 : True := trivial
theorem PySem.W.Fast.tw5573001715348977295 : True := trivial
theorem PySem.W.Fast.tw5845278659533362853 : True := trivial
theorem PySem.W.Fast.tw11754506142699192745 : True := trivial
theorem PySem.W.Fast.tw17005532728964164630 : True := trivial
theorem PySem.W.Fast.tw9902794407496805066 : True := trivial
theorem PySem.W.Fast.tw8595735444904089155 : True := trivial
theorem PySem.W.Fast.tw5395589456516860681 : True := trivial
theorem PySem.W.Fast.tw6512021838656529374 : True := trivial
theorem PySem.W.Fast.tw6650206878481445545 : True := trivial
theorem PySem.W.Fast.tw14784331477744448685 : True := trivial
theorem PySem.W.Fast.tw15889573295449213315 : True := trivial
theorem PySem.W.Fast.tw4043397422088160494 : True := trivial
theorem PySem.W.Fast.tw173059714927242938 : True := trivial
theorem PySem.W.Fast.tw2640291784269891668 : True := trivial
theorem PySem.W.Fast.tw9876704145912003739 : True := trivial
theorem PySem.W.Fast.tw15781782971787049009 : True := trivial
theorem PySem.W.Fast.tw8826288069408494486 : True := trivial
theorem PySem.W.Fast.tw14330661484420406479 : True := trivial
theorem PySem.W.Fast.tw150401479253586309 : True := trivial
theorem PySem.W.Fast.tw11965546967740154001 : True := trivial
theorem PySem.W.Fast.tw8599941894943341800 : True := trivial
theorem PySem.W.Fast.tw1970586036092609200 : True := trivial
theorem PySem.W.Fast.tw7083988813343202430 : True := trivial
theorem PySem.W.Fast.tw11862247507407951168 : True := trivial
theorem PySem.W.Fast.tw3215125255251027541 : True := trivial
theorem PySem.W.Fast.tw8483913162559658090 : True := trivial
theorem PySem.W.Fast.tw4199659441884272579 : True := trivial
theorem PySem.W.Fast.tw7262673247526148428 : True := trivial
theorem PySem.W.Fast.tw717976325264042548 : True := trivial
theorem PySem.W.Fast.tw2835935870087920498 : True := trivial
theorem PySem.W.Fast.tw30222276495769894 : True := trivial
theorem PySem.W.Fast.tw5253041578489572119 : True := trivial
theorem PySem.W.Fast.tw5066170156490829103 : True := trivial
theorem PySem.W.Fast.tw10256974555613825583 : True := trivial
theorem PySem.W.Fast.tw8180989127629913589 : True := trivial
theorem PySem.W.Fast.tw270137092010045937 : True := trivial
theorem PySem.W.Fast.tw16908052371101112881 : True := trivial
theorem PySem.W.Fast.tw12558098470132199631 : True := trivial
theorem PySem.W.Fast.tw4737714358705387995 : True := trivial
theorem PySem.W.Fast.tw7667067618114706849 : True := trivial
theorem PySem.W.Fast.tw5479272732841696602 : True := trivial
theorem PySem.W.Fast.tw16038750737418356772 : True := trivial
theorem PySem.W.Fast.tw5652128241997813926 : True := trivial
theorem PySem.W.Fast.tw15410160047430044878 : True := trivial
theorem PySem.W.Fast.tw14627786890869421678 : True := trivial
theorem PySem.W.Fast.tw4841059602128973129 : True := trivial
theorem PySem.W.Fast.tw15137443224990556798 : True := trivial
theorem PySem.W.Fast.tw8198213227414644105 : True := trivial
theorem PySem.W.Fast.tw4078307627669988581 : True := trivial
theorem PySem.W.Fast.tw550562078182202174 : True := trivial
theorem PySem.W.Fast.tw16391765984555638056 : True := trivial
theorem PySem.W.Fast.tw2575864805292634855 : True := trivial
theorem PySem.W.Fast.tw8116743966615564700 : True := trivial
theorem PySem.W.Fast.tw3321605916755073418 : True := trivial
theorem PySem.W.Fast.tw10480496917735123139 : True := trivial
theorem PySem.W.Fast.tw13851069771121457325 : True := trivial
theorem PySem.W.Fast.tw10599312674022986254 : True := trivial
theorem PySem.W.Fast.tw7183778513365500356 : True := trivial
theorem PySem.W.Fast.tw10568525411430396611 : True := trivial
theorem PySem.W.Fast.tw6879508259985780685 : True := trivial
theorem PySem.W.Fast.tw2392162670898310715 : True := trivial
theorem PySem.W.Fast.tw7262022619389961434 : True := trivial
theorem PySem.W.Fast.tw4902063603939075098 : True := trivial
theorem PySem.W.Fast.tw6866191700454622175 : True := trivial
theorem PySem.W.Fast.tw2856665971667757734 : True := trivial
theorem PySem.W.Fast.tw12283056763351550845 : True := trivial
theorem PySem.W.Fast.tw14153762552137359028 : True := trivial
theorem PySem.W.Fast.tw15460687503810443529 : True := trivial
theorem PySem.W.Fast.tw12433477981270174358 : True := trivial
theorem PySem.W.Fast.tw11100085524290906334 : True := trivial
theorem PySem.W.Fast.tw15764111055275643459 : True := trivial
theorem PySem.W.Fast.tw4747548563753001885 : True := trivial
theorem PySem.W.Fast.tw7668062738689663582 : True := trivial
theorem PySem.W.Fast.tw2712359780407077662 : True := trivial
theorem PySem.W.Fast.tw10755901214057232073 : True := trivial
theorem PySem.W.Fast.tw10290671697413412172 : True := trivial
theorem PySem.W.Fast.tw7706126648284580501 : True := trivial
theorem PySem.W.Fast.tw5077103383125722285 : True := trivial
theorem PySem.W.Fast.tw5318378053266648023 : True := trivial
theorem PySem.W.Fast.tw11215531631512457023 : True := trivial
theorem PySem.W.Fast.tw12018450837431183830 : True := trivial
theorem PySem.W.Fast.tw11443715539620093199 : True := trivial
theorem PySem.W.Fast.tw18090018829038662492 : True := trivial
theorem PySem.W.Fast.tw15751469175774085278 : True := trivial
theorem PySem.W.Fast.tw8038521401745674931 : True := trivial
theorem PySem.W.Fast.tw1530587302079500273 : True := trivial
theorem PySem.W.Fast.tw15968227154265619470 : True := trivial
theorem PySem.W.Fast.tw15231564137738127970 : True := trivial
theorem PySem.W.Fast.tw5036713321570300476 : True := trivial
theorem PySem.W.Fast.tw7318247914005486425 : True := trivial
theorem PySem.W.Fast.tw6510135701328168863 : True := trivial
theorem PySem.W.Fast.tw7933953402360951012 : True := trivial
theorem PySem.W.Fast.tw15107777291155923111 : True := trivial
theorem PySem.W.Fast.tw13983871594567885201 : True := trivial
theorem PySem.W.Fast.tw8124352882368680294 : True := trivial
theorem PySem.W.Fast.tw3220107982245984294 : True := trivial
theorem PySem.W.Fast.tw1907274982741928567 : True := trivial
theorem PySem.W.Fast.tw2677739475812162158 : True := trivial
theorem PySem.W.Fast.tw14395435497885227552 : True := trivial
theorem PySem.W.Fast.tw17664341978564540643 : True := trivial
theorem PySem.W.Fast.tw441668062873237373 : True := trivial
theorem PySem.W.Fast.tw16380945682439924224 : True := trivial
theorem PySem.W.Fast.tw5810508959613904838 : True := trivial
theorem PySem.W.Fast.tw17128053882429715387 : True := trivial
theorem PySem.W.Fast.tw7823894844737016389 : True := trivial
theorem PySem.W.Fast.tw11280182702316504049 : True := trivial
theorem PySem.W.Fast.tw9354588249821995266 : True := trivial
theorem PySem.W.Fast.tw11807420710587993234 : True := trivial
theorem PySem.W.Fast.tw15064300720162500159 : True := trivial
theorem PySem.W.Fast.tw5457124454672153939 : True := trivial
theorem PySem.W.Fast.tw4396984992326725051 : True := trivial
theorem PySem.W.Fast.tw7091156078114718297 : True := trivial
theorem PySem.W.Fast.tw3541212056830650948 : True := trivial
theorem PySem.W.Fast.tw1426090781993913545 : True := trivial
theorem PySem.W.Fast.tw6709204910162504658 : True := trivial
theorem PySem.W.Fast.tw13651933829020221451 : True := trivial
theorem PySem.W.Fast.tw1684073521108473408 : True := trivial
theorem PySem.W.Fast.tw4927626783964696846 : True := trivial
theorem PySem.W.Fast.tw6430975540253114947 : True := trivial
theorem PySem.W.Fast.tw3095889039609918433 : True := trivial
theorem PySem.W.Fast.tw3539121264680371465 : True := trivial
theorem PySem.W.Fast.tw12439451883948928043 : True := trivial
theorem PySem.W.Fast.tw6550887442315217342 : True := trivial
theorem PySem.W.Fast.tw13984461619862241754 : True := trivial
theorem PySem.W.Fast.tw6439792366402553992 : True := trivial
theorem PySem.W.Fast.tw14245805277165430008 : True := trivial
theorem PySem.W.Fast.tw3537352773869354429 : True := trivial
theorem PySem.W.Fast.tw7223064400463668487 : True := trivial
theorem PySem.W.Fast.tw15610812052831630233 : True := trivial
theorem PySem.W.Fast.tw8992701510801703203 : True := trivial
theorem PySem.W.Fast.tw11039495951930298682 : True := trivial
theorem PySem.W.Fast.tw3856197525997414087 : True := trivial
theorem PySem.W.Fast.tw8727599120861769199 : True := trivial
theorem PySem.W.Fast.tw6213715461112928928 : True := trivial
theorem PySem.W.Fast.tw6239282209338720068 : True := trivial
theorem PySem.W.Fast.tw7411571159291752213 : True := trivial
theorem PySem.W.Fast.tw2765276717979342008 : True := trivial
theorem PySem.W.Fast.tw3750359392887681159 : True := trivial
theorem PySem.W.Fast.tw6243454966925398865 : True := trivial
theorem PySem.W.Fast.tw8036142493965640175 : True := trivial
theorem PySem.W.Fast.tw5070768146004247047 : True := trivial
theorem PySem.W.Fast.tw14145388710052142394 : True := trivial
theorem PySem.W.Fast.tw14772207482698245494 : True := trivial
theorem PySem.W.Fast.tw8197599473405391874 : True := trivial
theorem PySem.W.Fast.tw12402879854897521583 : True := trivial
theorem PySem.W.Fast.tw12262665262528582023 : True := trivial
theorem PySem.W.Fast.tw13288326634267363895 : True := trivial
theorem PySem.W.Fast.tw17646535102279575967 : True := trivial
theorem PySem.W.Fast.tw5038644843483767976 : True := trivial
theorem PySem.W.Fast.tw6882897435546305340 : True := trivial
theorem PySem.W.Fast.tw7487028068746674671 : True := trivial
theorem PySem.W.Fast.tw8754881321961233186 : True := trivial
theorem PySem.W.Fast.tw14361053131885690093 : True := trivial
theorem PySem.W.Fast.tw2286653830046850330 : True := trivial
theorem PySem.W.Fast.tw2987743245105462450 : True := trivial
theorem PySem.W.Fast.tw4960241987975544632 : True := trivial
theorem PySem.W.Fast.tw2683299696684771416 : True := trivial
theorem PySem.W.Fast.tw16902373514480167768 : True := trivial
theorem PySem.W.Fast.tw4593796936587735561 : True := trivial
theorem PySem.W.Fast.tw10747794302329143855 : True := trivial
theorem PySem.W.Fast.tw13919926887103588659 : True := trivial
theorem PySem.W.Fast.tw14017440560474593643 : True := trivial
theorem PySem.W.Fast.tw1615367067398625711 : True := trivial
theorem PySem.W.Fast.tw4357096195578372811 : True := trivial
theorem PySem.W.Fast.tw12737018486645635773 : True := trivial
theorem PySem.W.Fast.tw16523327571137956794 : True := trivial
theorem PySem.W.Fast.tw1252130560275281020 : True := trivial
theorem PySem.W.Fast.tw16565953149486609148 : True := trivial
theorem PySem.W.Fast.tw3385251189776225032 : True := trivial
theorem PySem.W.Fast.tw5206156899711893950 : True := trivial
theorem PySem.W.Fast.tw9280609908745707934 : True := trivial
theorem PySem.W.Fast.tw16630793688339524024 : True := trivial
theorem PySem.W.Fast.tw11728912187550853145 : True := trivial
theorem PySem.W.Fast.tw2326382941074236063 : True := trivial
theorem PySem.W.Fast.tw9061697043284587192 : True := trivial
theorem PySem.W.Fast.tw3889891789639011732 : True := trivial
theorem PySem.W.Fast.tw10509090894028577536 : True := trivial
theorem PySem.W.Fast.tw9248846256243403236 : True := trivial
theorem PySem.W.Fast.tw4675949403912016579 : True := trivial
theorem PySem.W.Fast.tw14955318305570701818 : True := trivial
theorem PySem.W.Fast.tw18005635226781151544 : True := trivial
theorem PySem.W.Fast.tw6032054607652929695 : True := trivial
theorem PySem.W.Fast.tw7717854527133060086 : True := trivial
theorem PySem.W.Fast.tw11311232894299492875 : True := trivial
theorem PySem.W.Fast.tw11766496037201295985 : True := trivial
theorem PySem.W.Fast.tw9290168382632923506 : True := trivial
theorem PySem.W.Fast.tw11189636776965642655 : True := trivial
theorem PySem.W.Fast.tw18060364659172880868 : True := trivial
theorem PySem.W.Fast.tw3242781053726105465 : True := trivial
theorem PySem.W.Fast.tw1465181767396264140 : True := trivial
theorem PySem.W.Fast.tw10020066375002898657 : True := trivial
theorem PySem.W.Fast.tw16941654028726474181 : True := trivial
theorem PySem.W.Fast.tw3806336180969732554 : True := trivial
theorem PySem.W.Fast.tw6778535592751630154 : True := trivial
theorem PySem.W.Fast.tw1144005007610421034 : True := trivial
theorem PySem.W.Fast.tw17817575036393022130 : True := trivial
theorem PySem.W.Fast.tw6840351810176235410 : True := trivial
theorem PySem.W.Fast.tw11497416199999151679 : True := trivial
theorem PySem.W.Fast.tw13282350075475997350 : True := trivial
theorem PySem.W.Fast.tw4333733568000006149 : True := trivial
theorem PySem.W.Fast.tw700477354259775151 : True := trivial
theorem PySem.W.Fast.tw4751548111293537463 : True := trivial
theorem PySem.W.Fast.tw15096599527871047252 : True := trivial
theorem PySem.W.Fast.tw195458144672728139 : True := trivial
theorem PySem.W.Fast.tw6074968580516825569 : True := trivial
theorem PySem.W.Fast.tw11498068454647083040 : True := trivial
theorem PySem.W.Fast.tw15136951947406276778 : True := trivial
theorem PySem.W.Fast.tw10131063723620070848 : True := trivial
theorem PySem.W.Fast.tw12288544849554005647 : True := trivial
theorem PySem.W.Fast.tw4500532293944916513 : True := trivial
theorem PySem.W.Fast.tw16557400061582577588 : True := trivial
theorem PySem.W.Fast.tw4802071606369848582 : True := trivial
theorem PySem.W.Fast.tw15621330523090822743 : True := trivial
theorem PySem.W.Fast.tw6877624207168226093 : True := trivial
theorem PySem.W.Fast.tw11270513119473820090 : True := trivial
theorem PySem.W.Fast.tw10037922858974113726 : True := trivial
theorem PySem.W.Fast.tw7265873939093736250 : True := trivial
theorem PySem.W.Fast.tw6766698415524283850 : True := trivial
theorem PySem.W.Fast.tw15242531255412401576 : True := trivial
theorem PySem.W.Fast.tw838067456763297916 : True := trivial
theorem PySem.W.Fast.tw913631914275246806 : True := trivial
theorem PySem.W.Fast.tw10504850406350085672 : True := trivial
theorem PySem.W.Fast.tw5922665597731623050 : True := trivial
theorem PySem.W.Fast.tw4048508901610859767 : True := trivial
theorem PySem.W.Fast.tw17307185446571080506 : True := trivial
theorem PySem.W.Fast.tw2821796553298564918 : True := trivial
theorem PySem.W.Fast.tw13564689262629215141 : True := trivial
theorem PySem.W.Fast.tw15978949153108559956 : True := trivial
theorem PySem.W.Fast.tw17315220888393811263 : True := trivial
theorem PySem.W.Fast.tw11061389238324049050 : True := trivial
theorem PySem.W.Fast.tw11980743732679238919 : True := trivial
theorem PySem.W.Fast.tw9226585756046670398 : True := trivial
theorem PySem.W.Fast.tw8726226126841590030 : True := trivial
theorem PySem.W.Fast.tw7538581695571733852 : True := trivial
theorem PySem.W.Fast.tw6265162620014425268 : True := trivial
theorem PySem.W.Fast.tw7081238874397798235 : True := trivial
theorem PySem.W.Fast.tw5224227279593033754 : True := trivial
theorem PySem.W.Fast.tw13016259295688669966 : True := trivial
theorem PySem.W.Fast.tw7695403777496644417 : True := trivial
theorem PySem.W.Fast.tw15612752908736425433 : True := trivial
theorem PySem.W.Fast.tw4563939826791693091 : True := trivial
theorem PySem.W.Fast.tw3564346039205143495 : True := trivial
theorem PySem.W.Fast.tw15614622476589267106 : True := trivial
theorem PySem.W.Fast.tw16928687800172405399 : True := trivial
theorem PySem.W.Fast.tw3712301591681011380 : True := trivial
theorem PySem.W.Fast.tw10369341060123679824 : True := trivial
theorem PySem.W.Fast.tw17152586355422137832 : True := trivial
theorem PySem.W.Fast.tw14961450070953105617 : True := trivial
theorem PySem.W.Fast.tw9297756061138225758 : True := trivial
theorem PySem.W.Fast.tw17100740617152458080 : True := trivial
theorem PySem.W.Fast.tw7453297099499448443 : True := trivial
theorem PySem.W.Fast.tw10486919738644115841 : True := trivial
theorem PySem.W.Fast.tw27476460161244968 : True := trivial
theorem PySem.W.Fast.tw15765542791100130265 : True := trivial
theorem PySem.W.Fast.tw11529440997834277163 : True := trivial
theorem PySem.W.Fast.tw1165719513291241513 : True := trivial
theorem PySem.W.Fast.tw1974606945943791223 : True := trivial
theorem PySem.W.Fast.tw17440037458104373842 : True := trivial
theorem PySem.W.Fast.tw186366170147123203 : True := trivial
theorem PySem.W.Fast.tw13833913525761339047 : True := trivial
theorem PySem.W.Fast.tw14353536316406547741 : True := trivial
theorem PySem.W.Fast.tw14402529509428999534 : True := trivial
theorem PySem.W.Fast.tw4382149911118401913 : True := trivial
theorem PySem.W.Fast.tw12825076155407896184 : True := trivial
theorem PySem.W.Fast.tw7139987397915855065 : True := trivial
theorem PySem.W.Fast.tw8539476459359540709 : True := trivial
theorem PySem.W.Fast.tw14316528062426935427 : True := trivial
theorem PySem.W.Fast.tw11168434277860894044 : True := trivial
theorem PySem.W.Fast.tw7016904788008142944 : True := trivial
theorem PySem.W.Fast.tw5117678523218801725 : True := trivial
theorem PySem.W.Fast.tw13564622078721428787 : True := trivial
theorem PySem.W.Fast.tw6948738961850969207 : True := trivial
theorem PySem.W.Fast.tw15563435451266190007 : True := trivial
theorem PySem.W.Fast.tw7310284312435235732 : True := trivial
theorem PySem.W.Fast.tw14915011040913915854 : True := trivial
theorem PySem.W.Fast.tw3649587130803296482 : True := trivial
theorem PySem.W.Fast.tw3980236701201757468 : True := trivial
theorem PySem.W.Fast.tw2734096946543665818 : True := trivial
theorem PySem.W.Fast.tw2233906781066313628 : True := trivial
theorem PySem.W.Fast.tw13606155180379738704 : True := trivial
theorem PySem.W.Fast.tw8935945242358621991 : True := trivial
theorem PySem.W.Fast.tw11744550199990316230 : True := trivial
theorem PySem.W.Fast.tw3875182849553153011 : True := trivial
theorem PySem.W.Fast.tw5992346937642297758 : True := trivial
theorem PySem.W.Fast.tw5394886747984946848 : True := trivial
theorem PySem.W.Fast.tw12026871569314096253 : True := trivial
theorem PySem.W.Fast.tw9704522416052235265 : True := trivial
theorem PySem.W.Fast.tw16656096686432682996 : True := trivial
theorem PySem.W.Fast.tw2090053249872744230 : True := trivial
theorem PySem.W.Fast.tw3819035467793165323 : True := trivial
theorem PySem.W.Fast.tw8323523774422277989 : True := trivial
theorem PySem.W.Fast.tw18155126724974011143 : True := trivial
theorem PySem.W.Fast.tw1158232763927722267 : True := trivial
theorem PySem.W.Fast.tw16799530835678270552 : True := trivial
theorem PySem.W.Fast.tw15612209484177510690 : True := trivial
theorem PySem.W.Fast.tw2343343958466419196 : True := trivial
theorem PySem.W.Fast.tw9284779456747708888 : True := trivial
theorem PySem.W.Fast.tw9278318034960966659 : True := trivial
theorem PySem.W.Fast.tw16061236042808667169 : True := trivial
theorem PySem.W.Fast.tw9881231688314026460 : True := trivial
theorem PySem.W.Fast.tw2049747045656681285 : True := trivial
theorem PySem.W.Fast.tw17252324228339315562 : True := trivial
theorem PySem.W.Fast.tw13687891671256089597 : True := trivial
theorem PySem.W.Fast.tw9290238143097558041 : True := trivial
theorem PySem.W.Fast.tw7252923148494296684 : True := trivial
theorem PySem.W.Fast.tw17775110063783931624 : True := trivial
theorem PySem.W.Fast.tw14157922197354872912 : True := trivial
theorem PySem.W.Fast.tw15501150145236897186 : True := trivial
theorem PySem.W.Fast.tw413728632620094091 : True := trivial
theorem PySem.W.Fast.tw5948486356292091085 : True := trivial
theorem PySem.W.Fast.tw14790396439737158367 : True := trivial
theorem PySem.W.Fast.tw12732051772348316765 : True := trivial
theorem PySem.W.Fast.tw4409708917552257428 : True := trivial
theorem PySem.W.Fast.tw3925488169372911138 : True := trivial
theorem PySem.W.Fast.tw9908918983591599482 : True := trivial
theorem PySem.W.Fast.tw6932673697517081390 : True := trivial
theorem PySem.W.Fast.tw17971642548534936544 : True := trivial
theorem PySem.W.Fast.tw9595478739055053848 : True := trivial
theorem PySem.W.Fast.tw10376767180437144464 : True := trivial
theorem PySem.W.Fast.tw12966641073176588993 : True := trivial
theorem PySem.W.Fast.tw4896613634799473765 : True := trivial
theorem PySem.W.Fast.tw10709070526547985264 : True := trivial
theorem PySem.W.Fast.tw704393243966024017 : True := trivial
theorem PySem.W.Fast.tw7074233571888511855 : True := trivial
theorem PySem.W.Fast.tw3760879023138521649 : True := trivial
theorem PySem.W.Fast.tw8396828387046972819 : True := trivial
theorem PySem.W.Fast.tw10334842316605463403 : True := trivial
theorem PySem.W.Fast.tw15948714620409658935 : True := trivial
theorem PySem.W.Fast.tw11935779669398796532 : True := trivial
theorem PySem.W.Fast.tw8693267521817929684 : True := trivial
theorem PySem.W.Fast.tw13450279897039647003 : True := trivial
theorem PySem.W.Fast.tw1325169115095614379 : True := trivial
theorem PySem.W.Fast.tw16921626196755013933 : True := trivial
theorem PySem.W.Fast.tw13692503391822575893 : True := trivial
theorem PySem.W.Fast.tw6480478484990948864 : True := trivial
theorem PySem.W.Fast.tw13745200331265332142 : True := trivial
theorem PySem.W.Fast.tw12472683471367306697 : True := trivial
theorem PySem.W.Fast.tw13756159556172891614 : True := trivial
theorem PySem.W.Fast.tw11122468988129238117 : True := trivial
theorem PySem.W.Fast.tw2897140851543326009 : True := trivial
theorem PySem.W.Fast.tw14633359946304447076 : True := trivial
theorem PySem.W.Fast.tw8741669691257853752 : True := trivial
theorem PySem.W.Fast.tw11753959021278996028 : True := trivial
theorem PySem.W.Fast.tw15408377744037670938 : True := trivial
theorem PySem.W.Fast.tw2199886498702675341 : True := trivial
theorem PySem.W.Fast.tw18107632777154105066 : True := trivial
theorem PySem.W.Fast.tw16492985441318056951 : True := trivial
theorem PySem.W.Fast.tw7569474014417663251 : True := trivial
theorem PySem.W.Fast.tw2833046826853908232 : True := trivial
theorem PySem.W.Fast.tw6277484288253955744 : True := trivial
theorem PySem.W.Fast.tw12138375288453819770 : True := trivial
theorem PySem.W.Fast.tw16560048420135005298 : True := trivial
theorem PySem.W.Fast.tw728110925007752551 : True := trivial
theorem PySem.W.Fast.tw12644719858126785170 : True := trivial
theorem PySem.W.Fast.tw15475325375184351690 : True := trivial
theorem PySem.W.Fast.tw5095361680283566379 : True := trivial
theorem PySem.W.Fast.tw8135294956201953716 : True := trivial
theorem PySem.W.Fast.tw15676800745961359672 : True := trivial
theorem PySem.W.Fast.tw5179919562013446414 : True := trivial
theorem PySem.W.Fast.tw260380048355871162 : True := trivial
theorem PySem.W.Fast.tw3405791734216591321 : True := trivial
theorem PySem.W.Fast.tw1552389783654774595 : True := trivial
theorem PySem.W.Fast.tw2601461898899211124 : True := trivial
theorem PySem.W.Fast.tw14402298477405095119 : True := trivial
theorem PySem.W.Fast.tw3356155603989472546 : True := trivial
theorem PySem.W.Fast.tw13961817524225657693 : True := trivial
theorem PySem.W.Fast.tw1030484008145888713 : True := trivial
theorem PySem.W.Fast.tw14423190258907301020 : True := trivial
theorem PySem.W.Fast.tw5439942154289672241 : True := trivial
theorem PySem.W.Fast.tw11040282924225687033 : True := trivial
theorem PySem.W.Fast.tw7526661055982946683 : True := trivial
theorem PySem.W.Fast.tw3863722535758458362 : True := trivial
theorem PySem.W.Fast.tw11140807367666487176 : True := trivial
theorem PySem.W.Fast.tw1090695936200502273 : True := trivial
theorem PySem.W.Fast.tw9433794415959705141 : True := trivial
theorem PySem.W.Fast.tw8845659271586878171 : True := trivial
theorem PySem.W.Fast.tw10824264944621846806 : True := trivial
theorem PySem.W.Fast.tw6884746998680050127 : True := trivial
theorem PySem.W.Fast.tw15793599708712313642 : True := trivial
theorem PySem.W.Fast.tw6885881294319741994 : True := trivial
theorem PySem.W.Fast.tw3239424814286362803 : True := trivial
theorem PySem.W.Fast.tw6748740998341642240 : True := trivial
theorem PySem.W.Fast.tw4617122899181312108 : True := trivial
theorem PySem.W.Fast.tw1232133719559996192 : True := trivial
theorem PySem.W.Fast.tw12303663109395468908 : True := trivial
theorem PySem.W.Fast.tw18224966957144864344 : True := trivial
theorem PySem.W.Fast.tw10673662375346976184 : True := trivial
theorem PySem.W.Fast.tw7236840496784720829 : True := trivial
theorem PySem.W.Fast.tw925590907668923061 : True := trivial
theorem PySem.W.Fast.tw15685427150075298183 : True := trivial
theorem PySem.W.Fast.tw16315751692650259484 : True := trivial
theorem PySem.W.Fast.tw11462673902968695664 : True := trivial
theorem PySem.W.Fast.tw14075264814095100654 : True := trivial
theorem PySem.W.Fast.tw6393073555519730005 : True := trivial
theorem PySem.W.Fast.tw9120320662875462648 : True := trivial
theorem PySem.W.Fast.tw6073437744213513652 : True := trivial
theorem PySem.W.Fast.tw6223538079170797483 : True := trivial
theorem PySem.W.Fast.tw17288774136168012437 : True := trivial
theorem PySem.W.Fast.tw15924976999871458299 : True := trivial
theorem PySem.W.Fast.tw9387306662912064454 : True := trivial
theorem PySem.W.Fast.tw16674837992581527219 : True := trivial
theorem PySem.W.Fast.tw2097527160920906483 : True := trivial
theorem PySem.W.Fast.tw10841002005529869563 : True := trivial
theorem PySem.W.Fast.tw13793592392248058777 : True := trivial
theorem PySem.W.Fast.tw3302687530861793044 : True := trivial
theorem PySem.W.Fast.tw2929633358972277784 : True := trivial
theorem PySem.W.Fast.tw12352611019873762467 : True := trivial
theorem PySem.W.Fast.tw10425985007512417257 : True := trivial
theorem PySem.W.Fast.tw3710628480911590122 : True := trivial
theorem PySem.W.Fast.tw6961771577972123163 : True := trivial
theorem PySem.W.Fast.tw8838690721390195359 : True := trivial
theorem PySem.W.Fast.tw13632010247133028426 : True := trivial
theorem PySem.W.Fast.tw8409302161295394417 : True := trivial
theorem PySem.W.Fast.tw13608332591710187218 : True := trivial
theorem PySem.W.Fast.tw12794354393029997743 : True := trivial
theorem PySem.W.Fast.tw16885128172836845544 : True := trivial
theorem PySem.W.Fast.tw4822452548547397527 : True := trivial
theorem PySem.W.Fast.tw6537264372524946180 : True := trivial
theorem PySem.W.Fast.tw1685289323735887345 : True := trivial
theorem PySem.W.Fast.tw3593813157010036315 : True := trivial
theorem PySem.W.Fast.tw1995948306709772924 : True := trivial
theorem PySem.W.Fast.tw3155990045350033243 : True := trivial
theorem PySem.W.Fast.tw10155397589891083435 : True := trivial
open PySem PySem.W PyProof.Rows
set_option maxRecDepth 100000 in
set_option maxHeartbeats 0 in
theorem PySem.Challenge.cw_evernever_k26_bars_as_a_formula_holds : PySem.Challenge.rw_evernever_k26_bars_as_a_formula.Holds := by
  w_on; o_law; k_head; (case hw => w_witness2)
  k_fill
  refine L2.walk_ofK (l := PySem.Challenge.rw_evernever_k26_bars_as_a_formula) (n := 63) (k := 60) (x := "_law_script") (CX := L2.CX0) (sp := LW.spLaw) rfl (by decide) rfl ⟨rfl, by decide, by decide⟩ (fun w h Y => PySem.W.kIn_of Y) ?F ?S ?C
  case F =>
    intro w mg fa h KX G hmg
    have T : ∃ t, LW.Txt (L2.KOf KX) mg t := by
      dsimp only [L2.KOf]
      refine' LW.txt_mk KX G ?a_all_stands ?a_asked_by ?a_bracketed ?a_formula_outside ?a_formula_of ?a__law_cell_at ?a__law_names ?a__law_bar_text ?a__law_text ?a__law_outside ?a__law_of_class ?a__law_counted ?a_law ?a_Formula ?a_Lamp ?a_Sure ?a_Not ?a_Joined ?a_And ?a_Or ?e_Formula_looseness ?e_Lamp_init ?e_Lamp_holds ?e_Lamp_crowd ?e_Lamp_lamps ?e_Lamp_shown ?e_Lamp_looseness ?e_Sure_init ?e_Sure_holds ?e_Sure_crowd ?e_Sure_lamps ?e_Sure_shown ?e_Sure_looseness ?e_Not_init ?e_Not_holds ?e_Not_crowd ?e_Not_lamps ?e_Not_shown ?e_Not_looseness ?e_Joined_init ?e_Joined_lamps ?e_Joined_shown ?e_Joined_looseness ?e_And_looseness ?e_And_between ?e_And_holds ?e_And_crowd ?e_And_init ?e_And_lamps ?e_And_shown ?e_Or_looseness ?e_Or_between ?e_Or_holds ?e_Or_crowd ?e_Or_init ?e_Or_lamps ?e_Or_shown ?l_all_stands ?c_all_stands ?k_all_stands ?l_asked_by ?c_asked_by ?k_asked_by ?l_bracketed ?c_bracketed ?k_bracketed ?l_formula_outside ?c_formula_outside ?k_formula_outside ?l_formula_of ?c_formula_of ?k_formula_of ?l__law_cell_at ?c__law_cell_at ?k__law_cell_at ?l__law_names ?c__law_names ?k__law_names ?l__law_bar_text ?c__law_bar_text ?k__law_bar_text ?l__law_text ?c__law_text ?k__law_text ?l__law_outside ?c__law_outside ?k__law_outside ?l__law_of_class ?c__law_of_class ?k__law_of_class ?l__law_counted ?c__law_counted ?k__law_counted ?l_law ?c_law ?k_law ?l_Formula_looseness ?c_Formula_looseness ?k_Formula_looseness ?i_Formula_looseness ?l_Lamp_init ?c_Lamp_init ?k_Lamp_init ?i_Lamp_init ?l_Lamp_holds ?c_Lamp_holds ?k_Lamp_holds ?i_Lamp_holds ?l_Lamp_crowd ?c_Lamp_crowd ?k_Lamp_crowd ?i_Lamp_crowd ?l_Lamp_lamps ?c_Lamp_lamps ?k_Lamp_lamps ?i_Lamp_lamps ?l_Lamp_shown ?c_Lamp_shown ?k_Lamp_shown ?i_Lamp_shown ?l_Sure_init ?c_Sure_init ?k_Sure_init ?i_Sure_init ?l_Sure_holds ?c_Sure_holds ?k_Sure_holds ?i_Sure_holds ?l_Sure_crowd ?c_Sure_crowd ?k_Sure_crowd ?i_Sure_crowd ?l_Sure_lamps ?c_Sure_lamps ?k_Sure_lamps ?i_Sure_lamps ?l_Sure_shown ?c_Sure_shown ?k_Sure_shown ?i_Sure_shown ?l_Not_init ?c_Not_init ?k_Not_init ?i_Not_init ?l_Not_holds ?c_Not_holds ?k_Not_holds ?i_Not_holds ?l_Not_crowd ?c_Not_crowd ?k_Not_crowd ?i_Not_crowd ?l_Not_lamps ?c_Not_lamps ?k_Not_lamps ?i_Not_lamps ?l_Not_shown ?c_Not_shown ?k_Not_shown ?i_Not_shown ?l_Joined_init ?c_Joined_init ?k_Joined_init ?i_Joined_init ?l_Joined_lamps ?c_Joined_lamps ?k_Joined_lamps ?i_Joined_lamps ?l_Joined_shown ?c_Joined_shown ?k_Joined_shown ?i_Joined_shown ?l_And_looseness ?c_And_looseness ?k_And_looseness ?i_And_looseness ?l_And_between ?c_And_between ?k_And_between ?i_And_between ?l_And_holds ?c_And_holds ?k_And_holds ?i_And_holds ?l_And_crowd ?c_And_crowd ?k_And_crowd ?i_And_crowd ?l_Or_looseness ?c_Or_looseness ?k_Or_looseness ?i_Or_looseness ?l_Or_between ?c_Or_between ?k_Or_between ?i_Or_between ?l_Or_holds ?c_Or_holds ?k_Or_holds ?i_Or_holds ?l_Or_crowd ?c_Or_crowd ?k_Or_crowd ?i_Or_crowd ?pg_Formula ?hd_Formula ?po_Formula ?sa_Formula ?kc_Formula ?ha_Formula ?hm_Formula ?n_Formula_at ?n_Formula_truth ?n_Formula_part ?n_Formula_parts ?pg_Lamp ?hd_Lamp ?po_Lamp ?sa_Lamp ?kc_Lamp ?ha_Lamp ?hm_Lamp ?mk_Lamp ?n_Lamp_at ?n_Lamp_truth ?n_Lamp_part ?n_Lamp_parts ?pg_Sure ?hd_Sure ?po_Sure ?sa_Sure ?kc_Sure ?ha_Sure ?hm_Sure ?mk_Sure ?n_Sure_at ?n_Sure_truth ?n_Sure_part ?n_Sure_parts ?pg_Not ?hd_Not ?po_Not ?sa_Not ?kc_Not ?ha_Not ?hm_Not ?mk_Not ?n_Not_at ?n_Not_truth ?n_Not_part ?n_Not_parts ?pg_Joined ?hd_Joined ?po_Joined ?sa_Joined ?kc_Joined ?ha_Joined ?hm_Joined ?mk_Joined ?n_Joined_at ?n_Joined_truth ?n_Joined_part ?n_Joined_parts ?pg_And ?hd_And ?po_And ?sa_And ?kc_And ?ha_And ?hm_And ?mk_And ?n_And_at ?n_And_truth ?n_And_part ?n_And_parts ?pg_Or ?hd_Or ?po_Or ?sa_Or ?kc_Or ?ha_Or ?hm_Or ?mk_Or ?n_Or_at ?n_Or_truth ?n_Or_part ?n_Or_parts ?nd_ ?hn_ ?htk_ ?ic_Not ?ty_Not ?s_Formula_Not ?s_Lamp_Not ?s_Sure_Not ?s_Joined_Not ?s_And_Not ?s_Or_Not ?s_none_Not ?ic_And ?ty_And ?s_Formula_And ?s_Lamp_And ?s_Sure_And ?s_Not_And ?s_Joined_And ?s_Or_And ?s_none_And ?ic_Sure ?ty_Sure ?s_Formula_Sure ?s_Lamp_Sure ?s_Not_Sure ?s_Joined_Sure ?s_And_Sure ?s_Or_Sure ?s_none_Sure ?ic_Or ?ty_Or ?s_Formula_Or ?s_Lamp_Or ?s_Sure_Or ?s_Not_Or ?s_Joined_Or ?s_And_Or ?s_none_Or ?ic_Lamp ?ty_Lamp ?s_Formula_Lamp ?s_Sure_Lamp ?s_Not_Lamp ?s_Joined_Lamp ?s_And_Lamp ?s_Or_Lamp ?s_none_Lamp ?ic_Formula ?ty_Formula ?s_Lamp_Formula ?s_Sure_Formula ?s_Not_Formula ?s_Joined_Formula ?s_And_Formula ?s_Or_Formula ?s_none_Formula ?b_len ?b_range ?b_isinstance ?b_int ?b_bool ?b_str ?b_list ?b_tuple ?b_dict ?b_set ?b_sorted ?b_max ?b_min ?b_sum ?b_any ?b_all ?b_abs ?b_reversed ?b_enumerate ?b_zip
      (case a_all_stands => k_is)
      (case a_asked_by => k_is)
      (case a_bracketed => k_is)
      (case a_formula_outside => k_is)
      (case a_formula_of => k_is)
      (case a__law_cell_at => k_is)
      (case a__law_names => k_is)
      (case a__law_bar_text => k_is)
      (case a__law_text => k_is)
      (case a__law_outside => k_is)
      (case a__law_of_class => k_is)
      (case a__law_counted => k_is)
      (case a_law => k_is)
      (case a_Formula => k_is)
      (case a_Lamp => k_is)
      (case a_Sure => k_is)
      (case a_Not => k_is)
      (case a_Joined => k_is)
      (case a_And => k_is)
      (case a_Or => k_is)
      (case e_Formula_looseness => k_is)
      (case e_Lamp_init => k_is)
      (case e_Lamp_holds => k_is)
      (case e_Lamp_crowd => k_is)
      (case e_Lamp_lamps => k_is)
      (case e_Lamp_shown => k_is)
      (case e_Lamp_looseness => k_is)
      (case e_Sure_init => k_is)
      (case e_Sure_holds => k_is)
      (case e_Sure_crowd => k_is)
      (case e_Sure_lamps => k_is)
      (case e_Sure_shown => k_is)
      (case e_Sure_looseness => k_is)
      (case e_Not_init => k_is)
      (case e_Not_holds => k_is)
      (case e_Not_crowd => k_is)
      (case e_Not_lamps => k_is)
      (case e_Not_shown => k_is)
      (case e_Not_looseness => k_is)
      (case e_Joined_init => k_is)
      (case e_Joined_lamps => k_is)
      (case e_Joined_shown => k_is)
      (case e_Joined_looseness => k_is)
      (case e_And_looseness => k_is)
      (case e_And_between => k_is)
      (case e_And_holds => k_is)
      (case e_And_crowd => k_is)
      (case e_And_init => k_is)
      (case e_And_lamps => k_is)
      (case e_And_shown => k_is)
      (case e_Or_looseness => k_is)
      (case e_Or_between => k_is)
      (case e_Or_holds => k_is)
      (case e_Or_crowd => k_is)
      (case e_Or_init => k_is)
      (case e_Or_lamps => k_is)
      (case e_Or_shown => k_is)
      (case l_all_stands => k_is)
      (case c_all_stands => k_is)
      (case k_all_stands => k_is)
      (case l_asked_by => k_is)
      (case c_asked_by => k_is)
      (case k_asked_by => k_is)
      (case l_bracketed => k_is)
      (case c_bracketed => k_is)
      (case k_bracketed => k_is)
      (case l_formula_outside => k_is)
      (case c_formula_outside => k_is)
      (case k_formula_outside => k_is)
      (case l_formula_of => k_is)
      (case c_formula_of => k_is)
      (case k_formula_of => k_is)
      (case l__law_cell_at => k_is)
      (case c__law_cell_at => k_is)
      (case k__law_cell_at => k_is)
      (case l__law_names => k_is)
      (case c__law_names => k_is)
      (case k__law_names => k_is)
      (case l__law_bar_text => k_is)
      (case c__law_bar_text => k_is)
      (case k__law_bar_text => k_is)
      (case l__law_text => k_is)
      (case c__law_text => k_is)
      (case k__law_text => k_is)
      (case l__law_outside => k_is)
      (case c__law_outside => k_is)
      (case k__law_outside => k_is)
      (case l__law_of_class => k_is)
      (case c__law_of_class => k_is)
      (case k__law_of_class => k_is)
      (case l__law_counted => k_is)
      (case c__law_counted => k_is)
      (case k__law_counted => k_is)
      (case l_law => k_is)
      (case c_law => k_is)
      (case k_law => k_is)
      (case l_Formula_looseness => k_is)
      (case c_Formula_looseness => k_is)
      (case k_Formula_looseness => k_is)
      (case i_Formula_looseness => k_is)
      (case l_Lamp_init => k_is)
      (case c_Lamp_init => k_is)
      (case k_Lamp_init => k_is)
      (case i_Lamp_init => k_is)
      (case l_Lamp_holds => k_is)
      (case c_Lamp_holds => k_is)
      (case k_Lamp_holds => k_is)
      (case i_Lamp_holds => k_is)
      (case l_Lamp_crowd => k_is)
      (case c_Lamp_crowd => k_is)
      (case k_Lamp_crowd => k_is)
      (case i_Lamp_crowd => k_is)
      (case l_Lamp_lamps => k_is)
      (case c_Lamp_lamps => k_is)
      (case k_Lamp_lamps => k_is)
      (case i_Lamp_lamps => k_is)
      (case l_Lamp_shown => k_is)
      (case c_Lamp_shown => k_is)
      (case k_Lamp_shown => k_is)
      (case i_Lamp_shown => k_is)
      (case l_Sure_init => k_is)
      (case c_Sure_init => k_is)
      (case k_Sure_init => k_is)
      (case i_Sure_init => k_is)
      (case l_Sure_holds => k_is)
      (case c_Sure_holds => k_is)
      (case k_Sure_holds => k_is)
      (case i_Sure_holds => k_is)
      (case l_Sure_crowd => k_is)
      (case c_Sure_crowd => k_is)
      (case k_Sure_crowd => k_is)
      (case i_Sure_crowd => k_is)
      (case l_Sure_lamps => k_is)
      (case c_Sure_lamps => k_is)
      (case k_Sure_lamps => k_is)
      (case i_Sure_lamps => k_is)
      (case l_Sure_shown => k_is)
      (case c_Sure_shown => k_is)
      (case k_Sure_shown => k_is)
      (case i_Sure_shown => k_is)
      (case l_Not_init => k_is)
      (case c_Not_init => k_is)
      (case k_Not_init => k_is)
      (case i_Not_init => k_is)
      (case l_Not_holds => k_is)
      (case c_Not_holds => k_is)
      (case k_Not_holds => k_is)
      (case i_Not_holds => k_is)
      (case l_Not_crowd => k_is)
      (case c_Not_crowd => k_is)
      (case k_Not_crowd => k_is)
      (case i_Not_crowd => k_is)
      (case l_Not_lamps => k_is)
      (case c_Not_lamps => k_is)
      (case k_Not_lamps => k_is)
      (case i_Not_lamps => k_is)
      (case l_Not_shown => k_is)
      (case c_Not_shown => k_is)
      (case k_Not_shown => k_is)
      (case i_Not_shown => k_is)
      (case l_Joined_init => k_is)
      (case c_Joined_init => k_is)
      (case k_Joined_init => k_is)
      (case i_Joined_init => k_is)
      (case l_Joined_lamps => k_is)
      (case c_Joined_lamps => k_is)
      (case k_Joined_lamps => k_is)
      (case i_Joined_lamps => k_is)
      (case l_Joined_shown => k_is)
      (case c_Joined_shown => k_is)
      (case k_Joined_shown => k_is)
      (case i_Joined_shown => k_is)
      (case l_And_looseness => k_is)
      (case c_And_looseness => k_is)
      (case k_And_looseness => k_is)
      (case i_And_looseness => k_is)
      (case l_And_between => k_is)
      (case c_And_between => k_is)
      (case k_And_between => k_is)
      (case i_And_between => k_is)
      (case l_And_holds => k_is)
      (case c_And_holds => k_is)
      (case k_And_holds => k_is)
      (case i_And_holds => k_is)
      (case l_And_crowd => k_is)
      (case c_And_crowd => k_is)
      (case k_And_crowd => k_is)
      (case i_And_crowd => k_is)
      (case l_Or_looseness => k_is)
      (case c_Or_looseness => k_is)
      (case k_Or_looseness => k_is)
      (case i_Or_looseness => k_is)
      (case l_Or_between => k_is)
      (case c_Or_between => k_is)
      (case k_Or_between => k_is)
      (case i_Or_between => k_is)
      (case l_Or_holds => k_is)
      (case c_Or_holds => k_is)
      (case k_Or_holds => k_is)
      (case i_Or_holds => k_is)
      (case l_Or_crowd => k_is)
      (case c_Or_crowd => k_is)
      (case k_Or_crowd => k_is)
      (case i_Or_crowd => k_is)
      (case pg_Formula => k_is)
      (case hd_Formula => k_is)
      (case po_Formula => k_is)
      (case sa_Formula => k_is)
      (case kc_Formula => k_is)
      (case ha_Formula => k_is)
      (case hm_Formula => k_is)
      (case n_Formula_at => k_is)
      (case n_Formula_truth => k_is)
      (case n_Formula_part => k_is)
      (case n_Formula_parts => k_is)
      (case pg_Lamp => k_is)
      (case hd_Lamp => k_is)
      (case po_Lamp => k_is)
      (case sa_Lamp => k_is)
      (case kc_Lamp => k_is)
      (case ha_Lamp => k_is)
      (case hm_Lamp => k_is)
      (case mk_Lamp => k_is)
      (case n_Lamp_at => k_is)
      (case n_Lamp_truth => k_is)
      (case n_Lamp_part => k_is)
      (case n_Lamp_parts => k_is)
      (case pg_Sure => k_is)
      (case hd_Sure => k_is)
      (case po_Sure => k_is)
      (case sa_Sure => k_is)
      (case kc_Sure => k_is)
      (case ha_Sure => k_is)
      (case hm_Sure => k_is)
      (case mk_Sure => k_is)
      (case n_Sure_at => k_is)
      (case n_Sure_truth => k_is)
      (case n_Sure_part => k_is)
      (case n_Sure_parts => k_is)
      (case pg_Not => k_is)
      (case hd_Not => k_is)
      (case po_Not => k_is)
      (case sa_Not => k_is)
      (case kc_Not => k_is)
      (case ha_Not => k_is)
      (case hm_Not => k_is)
      (case mk_Not => k_is)
      (case n_Not_at => k_is)
      (case n_Not_truth => k_is)
      (case n_Not_part => k_is)
      (case n_Not_parts => k_is)
      (case pg_Joined => k_is)
      (case hd_Joined => k_is)
      (case po_Joined => k_is)
      (case sa_Joined => k_is)
      (case kc_Joined => k_is)
      (case ha_Joined => k_is)
      (case hm_Joined => k_is)
      (case mk_Joined => k_is)
      (case n_Joined_at => k_is)
      (case n_Joined_truth => k_is)
      (case n_Joined_part => k_is)
      (case n_Joined_parts => k_is)
      (case pg_And => k_is)
      (case hd_And => k_is)
      (case po_And => k_is)
      (case sa_And => k_is)
      (case kc_And => k_is)
      (case ha_And => k_is)
      (case hm_And => k_is)
      (case mk_And => k_is)
      (case n_And_at => k_is)
      (case n_And_truth => k_is)
      (case n_And_part => k_is)
      (case n_And_parts => k_is)
      (case pg_Or => k_is)
      (case hd_Or => k_is)
      (case po_Or => k_is)
      (case sa_Or => k_is)
      (case kc_Or => k_is)
      (case ha_Or => k_is)
      (case hm_Or => k_is)
      (case mk_Or => k_is)
      (case n_Or_at => k_is)
      (case n_Or_truth => k_is)
      (case n_Or_part => k_is)
      (case n_Or_parts => k_is)
      (case nd_ => decide)
      (case hn_ => k_is)
      (case htk_ => k_is)
      (case ic_Not => k_is)
      (case ty_Not => k_is)
      (case s_Formula_Not => k_is)
      (case s_Lamp_Not => k_is)
      (case s_Sure_Not => k_is)
      (case s_Joined_Not => k_is)
      (case s_And_Not => k_is)
      (case s_Or_Not => k_is)
      (case s_none_Not => k_is)
      (case ic_And => k_is)
      (case ty_And => k_is)
      (case s_Formula_And => k_is)
      (case s_Lamp_And => k_is)
      (case s_Sure_And => k_is)
      (case s_Not_And => k_is)
      (case s_Joined_And => k_is)
      (case s_Or_And => k_is)
      (case s_none_And => k_is)
      (case ic_Sure => k_is)
      (case ty_Sure => k_is)
      (case s_Formula_Sure => k_is)
      (case s_Lamp_Sure => k_is)
      (case s_Not_Sure => k_is)
      (case s_Joined_Sure => k_is)
      (case s_And_Sure => k_is)
      (case s_Or_Sure => k_is)
      (case s_none_Sure => k_is)
      (case ic_Or => k_is)
      (case ty_Or => k_is)
      (case s_Formula_Or => k_is)
      (case s_Lamp_Or => k_is)
      (case s_Sure_Or => k_is)
      (case s_Not_Or => k_is)
      (case s_Joined_Or => k_is)
      (case s_And_Or => k_is)
      (case s_none_Or => k_is)
      (case ic_Lamp => k_is)
      (case ty_Lamp => k_is)
      (case s_Formula_Lamp => k_is)
      (case s_Sure_Lamp => k_is)
      (case s_Not_Lamp => k_is)
      (case s_Joined_Lamp => k_is)
      (case s_And_Lamp => k_is)
      (case s_Or_Lamp => k_is)
      (case s_none_Lamp => k_is)
      (case ic_Formula => k_is)
      (case ty_Formula => k_is)
      (case s_Lamp_Formula => k_is)
      (case s_Sure_Formula => k_is)
      (case s_Not_Formula => k_is)
      (case s_Joined_Formula => k_is)
      (case s_And_Formula => k_is)
      (case s_Or_Formula => k_is)
      (case s_none_Formula => k_is)
      (case b_len => k_is)
      (case b_range => k_is)
      (case b_isinstance => k_is)
      (case b_int => k_is)
      (case b_bool => k_is)
      (case b_str => k_is)
      (case b_list => k_is)
      (case b_tuple => k_is)
      (case b_dict => k_is)
      (case b_set => k_is)
      (case b_sorted => k_is)
      (case b_max => k_is)
      (case b_min => k_is)
      (case b_sum => k_is)
      (case b_any => k_is)
      (case b_all => k_is)
      (case b_abs => k_is)
      (case b_reversed => k_is)
      (case b_enumerate => k_is)
      (case b_zip => k_is)
    obtain ⟨t, T⟩ := T
    have e0 := hmg.symm.trans T.m_law
    cases e0
    exact ⟨_, T.bl, fun base _ _ => LW.ok_law T⟩
  case S => exact fun K H a ns hl hO hS => ⟨a, ns, rfl, hS, hl, hO, fun _ => rfl⟩
  case C => exact fun _ _ _ _ z => z
#print axioms PySem.Challenge.cw_evernever_k26_bars_as_a_formula_holds

