import PyProof.Rows.All
import Wide.All
import OpenK.AllK
import Wide.FinOn
import Lean
import PyProof.EqAt
import PyProof.EqKinds
import PyProof.TupleCall
import PyProof.P3Eq
import PyProof.NeKinds
import KE.KRevIter
import PyProof.EnumMake
import PyProof.EnumFor
import PyProof.Draws
import PyProof.ZipIter
import PyProof.ConsumeWalk
import PyProof.RaisesMany
import PyProof.ExcClass3
import PyProof.ExcBaseAll.ValueError
import PyProof.RulesAs
import PyProof.ExcAttrAll.ValueError
import PyProof.ReprStr
import PyProof.PassesOwn
import PyProof.ToksMono
import PyProof.DictItems
import PyProof.MeetsIn
import PyProof.StrCalls6
import PyProof.StrCalls2
import PyProof.StrBlock2
import PyProof.StrLawsWords
import PyProof.StrLawsTight
import PyProof.StrLawsChain
import PyProof.ListRange
import PyProof.NsDelKeeps
import PyProof.P3In
import PySem.Challenge.RW_evernever_k15_which_and_walked
set_option Elab.async false
set_option linter.all false
set_option maxRecDepth 100000
set_option maxHeartbeats 4000000
set_option maxRecDepth 100000
namespace L2
open PySem PySem.Spec PyProof.Rows

/-- a key: an int or a str -/
abbrev Key := Sum Int Str
def keyIs : Key → Value → Bool
  | .inl k, v => Value.isInt k v
  | .inr x, v => Value.isStrOf x v
def keyH (w : World) : Key → Int
  | .inl k => hashInt k
  | .inr x => hashStr w x
theorem keyIs_shape : ∀ {k : Key} {v : Value}, keyIs k v = true → (∃ i t, k = Sum.inl i ∧ v = Value.int i t) ∨ (∃ x t, k = Sum.inr x ∧ v = Value.str x t)
  | .inl i, v, h => by
    obtain ⟨t, e⟩ := Value.isInt_shape (k := i) (v := v) h
    exact .inl ⟨i, t, rfl, e⟩
  | .inr x, v, h => by
    obtain ⟨t, e⟩ := Value.isStrOf_shape (x := x) (v := v) h
    exact .inr ⟨x, t, rfl, e⟩
theorem key_ll (a b : Int) : decide ((Sum.inl a : Key) = Sum.inl b) = (a == b) := by
  by_cases e : a = b
  · subst e; simp
  · have h : ¬ (Sum.inl a : Key) = Sum.inl b := fun q => e (Sum.inl.inj q)
    rw [decide_eq_false h]
    exact (beq_eq_false_iff_ne.mpr e).symm
theorem key_rr (a b : Str) : decide ((Sum.inr a : Key) = Sum.inr b) = decide (a = b) := by
  by_cases e : a = b
  · subst e; simp
  · have h : ¬ (Sum.inr a : Key) = Sum.inr b := fun q => e (Sum.inr.inj q)
    rw [decide_eq_false h, decide_eq_false e]
theorem key_lr (a : Int) (b : Str) : decide ((Sum.inl a : Key) = Sum.inr b) = false := decide_eq_false (fun q => nomatch q)
theorem key_rl (a : Str) (b : Int) : decide ((Sum.inr a : Key) = Sum.inl b) = false := decide_eq_false (fun q => nomatch q)

def mixKind (prog : Program) (w : World) : PySem.KeyKind prog w Key where
  is := keyIs
  hash := keyH w
  inj := fun v a b ha hb => by
    rcases keyIs_shape ha with ⟨i, t, rfl, rfl⟩ | ⟨x, t, rfl, rfl⟩
    · rcases keyIs_shape hb with ⟨j, u, rfl, e⟩ | ⟨y, u, rfl, e⟩
      · injection e with e1 _; rw [e1]
      · exact nomatch e
    · rcases keyIs_shape hb with ⟨j, u, rfl, e⟩ | ⟨y, u, rfl, e⟩
      · exact nomatch e
      · injection e with e1 _; rw [e1]
  byValue := fun k v h => by
    rcases keyIs_shape h with ⟨i, t, rfl, rfl⟩ | ⟨x, t, rfl, rfl⟩ <;> rfl
  pyHash := fun hv h => by
    rcases keyIs_shape hv with ⟨i, t, rfl, rfl⟩ | ⟨x, t, rfl, rfl⟩
    · exact wpAny_pyHash_int h
    · exact wpAny_pyHash_str h
  eqBool := fun hu hv h => by
    rcases keyIs_shape hu with ⟨i, t, rfl, rfl⟩ | ⟨x, t, rfl, rfl⟩
    · rcases keyIs_shape hv with ⟨j, u, rfl, rfl⟩ | ⟨y, u, rfl, rfl⟩
      · rw [key_ll] at h; exact wpAny_eqBool_int h
      · rw [key_lr] at h; exact SeqAt.EqAt.int_str i t y u _ _ _ _ h
    · rcases keyIs_shape hv with ⟨j, u, rfl, rfl⟩ | ⟨y, u, rfl, rfl⟩
      · rw [key_rl] at h; exact SeqAt.EqAt.str_int x t j u _ _ _ _ h
      · rw [key_rr] at h; exact wpAny_eqBool_str h
  «strs» := fun k x t v h => by
    rcases keyIs_shape h with ⟨i, u, rfl, e⟩ | ⟨y, u, rfl, e⟩
    · exact nomatch e
    · injection e with e1 _
      subst e1
      cases v <;> rfl

end L2

namespace L2
open PySem PySem.Spec PyProof.Rows

/-- a value, without the heap -/
inductive V where
  | non | bl (b : Bool) | int (i : Int) | str (x : Str) | byt (b : Array UInt8) | flt (b : UInt64) | ref (a : Addr) | ty (n : String)
  deriving DecidableEq

def RelV : V → Value → Prop
  | .non, u => u = Value.none
  | .bl b, u => u = Value.bool b
  | .int i, u => ∃ t, u = Value.int i t
  | .str x, u => ∃ t, u = Value.str x t
  | .byt b, u => ∃ t, u = Value.bytes b t
  | .flt b, u => ∃ t, u = Value.float b t
  | .ref a, u => u = Value.ref a
  | .ty n, u => u = Value.type n

abbrev Vals : List V → List Value → Prop := Paired RelV
theorem Vals.length {xs : List V} {us : List Value} (r : Vals xs us) : xs.length = us.length := Paired.length r
theorem Vals.get : ∀ {xs : List V} {us : List Value} {i : Nat} {x : V}, Vals xs us → xs[i]? = some x → ∃ u, us[i]? = some u ∧ RelV x u
  | _, _, _, _, .nil, e => by simp at e
  | _, _, 0, _, .cons r _, e => by simp at e; subst e; exact ⟨_, rfl, r⟩
  | _, _, i + 1, x, .cons _ t, e => by
    obtain ⟨u, h1, h2⟩ := Vals.get (i := i) (x := x) t (by simpa using e)
    exact ⟨u, by simpa using h1, h2⟩
theorem Vals.append : ∀ {xs ys : List V} {us ws : List Value}, Vals xs us → Vals ys ws → Vals (xs ++ ys) (us ++ ws)
  | _, _, _, _, .nil, s => s
  | _, _, _, _, .cons r t, s => .cons r (Vals.append t s)
theorem Vals.take : ∀ {xs : List V} {us : List Value} (n : Nat), Vals xs us → Vals (xs.take n) (us.take n)
  | _, _, 0, _ => .nil
  | _, _, _ + 1, .nil => .nil
  | _, _, n + 1, .cons r t => .cons r (Vals.take n t)
theorem Vals.drop : ∀ {xs : List V} {us : List Value} (n : Nat), Vals xs us → Vals (xs.drop n) (us.drop n)
  | _, _, 0, r => r
  | _, _, _ + 1, .nil => .nil
  | _, _, n + 1, .cons _ t => Vals.drop n t
def RelO : Option V → Option Value → Prop
  | some v, some u => RelV v u
  | none, none => True
  | _, _ => False
def KV {κ : Type} : List (κ × V) → List (κ × Value) → Prop := Paired fun (p : κ × V) (q : κ × Value) => p.1 = q.1 ∧ RelV p.2 q.2

/-- a key of a dict (00_mix): an int or a text -/
def kV : Key → V
  | .inl i => .int i
  | .inr x => .str x

/-- what stands at a tracked address -/
inductive HO where
  /-- a list -/
  | lst (xs : List V)
  /-- a tuple (never changes) -/
  | tup (xs : List V)
  /-- a dict whose keys are ints and texts; one whose keys are tuples of ints and texts (the empty one is both) -/
  | dK (kvs : List (Key × V)) | dT (kvs : List (List Key × V))
  /-- a set of ints: its members, its size -/
  | set (S : Int → Bool) (n : Nat)
  /-- an instance of the class at C, its dict at dx, its attributes -/
  | ins (C dx : Addr) (fs : List (Str × V))
  /-- the dict of the instance at x -/
  | own (x : Addr)
  /-- the dict of an exception -/
  | xd (fs : List (Str × V))
  /-- a bound method, f of x -/
  | met (f x : Addr)
  /-- a range object lo, lo + 1, .. below hi -/
  | rng (lo hi : Int)
  /-- a thing that is known to the object (the script; a dict while a loop walks it): read, never written while it is so -/
  | frz (o : Obj) (u : HO)
  /-- a code object's table -/
  | tbl (ps : Array Value)
  /-- any other thing, by what is true of its one object (a def of one's own: SetO a S n := HO.ext fun h => ..) -/
  | ext (φ : Heap → Prop)

abbrev Hp := Addr → Option HO
def upd (H : Hp) (a : Addr) (o : HO) : Hp := fun b => if b = a then some o else H b
theorem upd_same {H : Hp} {a : Addr} {o : HO} : upd H a o a = some o := by unfold upd; rw [if_pos rfl]
theorem upd_ne {H : Hp} {a b : Addr} {o : HO} (h : b ≠ a) : upd H a o b = H b := by unfold upd; rw [if_neg h]
theorem upd_upd {H : Hp} {a : Addr} {o u : HO} : upd (upd H a o) a u = upd H a u := by
  funext b; unfold upd; split <;> rfl
/-- two objects of different content stand apart -/
theorem ne_of {H : Hp} {a b : Addr} {o u : HO} (h : H a = some o) (h' : H b = some u) (d : o ≠ u) : a ≠ b := by
  intro e; subst e; rw [h] at h'; exact d (Option.some.inj h')
theorem ne_of_none {H : Hp} {a b : Addr} {o : HO} (h : H a = some o) (h' : H b = none) : a ≠ b := by
  intro e; subst e; rw [h] at h'; cases h'

section
variable (P : Program) (w : World)
def ObjOk (H : Hp) (h : Heap) (a : Addr) : HO → Prop
  | .lst xs => xs.length ≤ sizeLine ∧ ∃ (its : List Value) (n : Nat), Vals xs its ∧ h.get? a = some { cls := .type "list", data := .seq its.toArray n }
  | .tup xs => xs.length ≤ sizeLine ∧ ∃ its : List Value, Vals xs its ∧ IsTup h a its.toArray
  | .dK kvs => kvs.length ≤ sizeLine ∧ (a == sysModules) = false ∧ ∃ vs, KV kvs vs ∧ h.DictOf (mixKind P w) a vs
  | .dT kvs => kvs.length ≤ sizeLine ∧ (a == sysModules) = false ∧ ∃ xs : List (List Key × Addr × Value),
      Paired (fun (p : List Key × V) (q : List Key × Addr × Value) => p.1 = q.1 ∧ H q.2.1 = some (.tup (p.1.map kV)) ∧ RelV p.2 q.2.2) kvs xs ∧
      ∃ o es ep, h.get? a = some o ∧ o.ExactDict ∧ o.data = .dict es ep ∧ es.toList = xs.map (entryOfKey (tupleKind (mixKind P w))) ∧ (xs.map (·.1)).Nodup
  | .set S n => h.SetOf (intKind P w) a S n
  | .ins C dx fs => H dx = some (.own a) ∧ fs.length ≤ 1000 ∧ dx ≠ a ∧ h.get? a = some (PySem.W.instObj C dx) ∧
      ∃ mA, h.Ns1 dx mA ∧ (∀ f, RelO (fs.lookup f) (mA f)) ∧ PySem.Within mA (fs.map (·.1))
  | .own _ => ∃ o, h.get? a = some o
  | .xd fs => ∃ mA, h.Ns1 a mA ∧ ∀ f, RelO (fs.lookup f) (mA f)
  | .rng lo hi => ∃ t u v, h.get? a = some { cls := .type "range", data := .fields #[.int lo t, .int hi u, .int 1 v] }
  | .frz o u => h.get? a = some o ∧ ObjOk H h a u
  | .tbl ps => h.get? a = some { cls := .none, data := .fields ps }
  | .met f x => h.get? a = some (PySem.W.methodObj (.ref f) (.ref x))
  | .ext φ => φ h ∧ (∃ o, h.get? a = some o) ∧ ∀ h1 h2 : Heap, φ h1 → (∀ o, h1.get? a = some o → h2.get? a = some o) → φ h2
/-- the abstract heap is held -/
def HOk (H : Hp) (h : Heap) : Prop := ∀ a o, H a = some o → ObjOk P w H h a o
end

section
variable {P : Program} {w : World} {H H' : Hp} {h h' : Heap} {a : Addr} {o : HO}
theorem ObjOk.lt (x : ObjOk P w H h a o) : a < h.objs.size := by
  cases o with
  | lst xs => obtain ⟨_, _, _, _, e⟩ := x; exact Heap.lt_size e
  | tup xs => obtain ⟨_, _, _, p⟩ := x; exact p.lt
  | dK kvs => obtain ⟨_, _, _, _, o, _, _, e, _⟩ := x; exact Heap.lt_size e
  | dT kvs => obtain ⟨_, _, _, _, o, _, _, e, _⟩ := x; exact Heap.lt_size e
  | set S n => obtain ⟨o, _, _, _, e, _⟩ := x; exact Heap.lt_size e
  | ins C dx fs => obtain ⟨_, _, _, e, _⟩ := x; exact Heap.lt_size e
  | own y => obtain ⟨_, e⟩ := x; exact Heap.lt_size e
  | xd fs => obtain ⟨_, ⟨_, _, _, e, _⟩, _⟩ := x; exact Heap.lt_size e
  | rng lo hi => obtain ⟨_, _, _, e⟩ := x; exact Heap.lt_size e
  | frz ob u => obtain ⟨e, _⟩ := x; exact Heap.lt_size e
  | tbl ps => exact Heap.lt_size (show h.get? a = some _ from x)
  | met f y => exact Heap.lt_size (show h.get? a = some _ from x)
  | ext φ => obtain ⟨_, ⟨_, e⟩, _⟩ := x; exact Heap.lt_size e
theorem Paired.mapP {α β : Type} {F G : α → β → Prop} : ∀ {l₁ : List α} {l₂ : List β}, Paired F l₁ l₂ → (∀ a b, F a b → G a b) → Paired G l₁ l₂
  | _, _, .nil, _ => .nil
  | _, _, .cons r t, f => .cons (f _ _ r) (Paired.mapP t f)
/-- what an object's description leans on: its own object, its own dict, the tuples -/
theorem ObjOk.stay (x : ObjOk P w H h a o) (k : ∀ b u, (b = a ∨ H b = some (.own a)) → h.get? b = some u → h'.get? b = some u)
    (ho : ∀ b, H b = some (.own a) → H' b = some (.own a)) (ht : ∀ b xs, H b = some (.tup xs) → H' b = some (.tup xs)) : ObjOk P w H' h' a o := by
  induction o with
  | lst xs => obtain ⟨z, its, n, r, e⟩ := x; exact ⟨z, its, n, r, k _ _ (.inl rfl) e⟩
  | tup xs => obtain ⟨z, its, r, ob, e, c⟩ := x; exact ⟨z, its, r, ob, k _ _ (.inl rfl) e, c⟩
  | dK kvs => obtain ⟨z, y, vs, r, ob, es, ep, e, c⟩ := x; exact ⟨z, y, vs, r, ob, es, ep, k _ _ (.inl rfl) e, c⟩
  | dT kvs =>
    obtain ⟨z, y, xs, r, ob, es, ep, e, c⟩ := x
    exact ⟨z, y, xs, Paired.mapP r fun p q z => ⟨z.1, ht _ _ z.2.1, z.2.2⟩, ob, es, ep, k _ _ (.inl rfl) e, c⟩
  | set S n => obtain ⟨ob, es, ep, t, e, c⟩ := x; exact ⟨ob, es, ep, t, k _ _ (.inl rfl) e, c⟩
  | ins C dx fs =>
    obtain ⟨d, z, ne, e, mA, ⟨od, es, ep, e2, c⟩, r⟩ := x
    exact ⟨ho _ d, z, ne, k _ _ (.inl rfl) e, mA, ⟨od, es, ep, k _ _ (.inr d) e2, c⟩, r⟩
  | own y => obtain ⟨ob, e⟩ := x; exact ⟨ob, k _ _ (.inl rfl) e⟩
  | xd fs => obtain ⟨mA, ⟨od, es, ep, e, c⟩, r⟩ := x; exact ⟨mA, ⟨od, es, ep, k _ _ (.inl rfl) e, c⟩, r⟩
  | rng lo hi => obtain ⟨t, u, v, e⟩ := x; exact ⟨t, u, v, k _ _ (.inl rfl) e⟩
  | frz ob u ih => obtain ⟨e, q⟩ := x; exact ⟨k _ _ (.inl rfl) e, ih q⟩
  | tbl ps =>
    have e : h.get? a = some { cls := .none, data := .fields ps } := x
    show h'.get? a = some { cls := .none, data := .fields ps }
    exact k a _ (.inl rfl) e
  | met f y =>
    have e : h.get? a = some (PySem.W.methodObj (.ref f) (.ref y)) := x
    show h'.get? a = some (PySem.W.methodObj (.ref f) (.ref y))
    exact k a _ (.inl rfl) e
  | ext φ => obtain ⟨p, ⟨o, e⟩, st⟩ := x; exact ⟨st _ _ p fun o q => k _ _ (.inl rfl) q, ⟨o, k _ _ (.inl rfl) e⟩, st⟩
theorem HOk.lt (x : HOk P w H h) (e : H a = some o) : a < h.objs.size := (x a o e).lt
theorem HOk.fresh (x : HOk P w H h) (e : h.objs.size ≤ a) : H a = none := by
  cases q : H a with
  | none => rfl
  | some u => exact absurd (Nat.lt_of_lt_of_le (x.lt q) e) (Nat.lt_irrefl _)
/-- every object of the heap is kept -/
theorem HOk.kept (x : HOk P w H h) (k : ∀ b u, h.get? b = some u → h'.get? b = some u) : HOk P w H h' := fun a o e =>
  (x a o e).stay (fun b u _ q => k b u q) (fun _ q => q) fun _ _ q => q
/-- a new object is laid and tracked -/
theorem HOk.laid (x : HOk P w H h) (k : ∀ b u, h.get? b = some u → h'.get? b = some u) (hp : h.objs.size ≤ a) (new : ObjOk P w (upd H a o) h' a o) : HOk P w (upd H a o) h' := fun b u e => by
  have hn := x.fresh hp
  by_cases hb : b = a
  · subst hb; rw [upd_same] at e; cases e; exact new
  · rw [upd_ne hb] at e
    exact (x b u e).stay (fun c v _ q => k c v q) (fun c q => by rw [upd_ne (ne_of_none q hn)]; exact q) fun c xs q => by rw [upd_ne (ne_of_none q hn)]; exact q
end

/-- what may be read as u: it is u, or a known u -/
def Rd (H : Hp) (a : Addr) (u : HO) : Prop := H a = some u ∨ ∃ o, H a = some (.frz o u)
theorem Rd.ok {P : Program} {w : World} {H : Hp} {h : Heap} {a : Addr} {u : HO} (r : Rd H a u) (x : HOk P w H h) : ObjOk P w H h a u := by
  rcases r with r | ⟨o, r⟩
  · exact x a u r
  · obtain ⟨_, q⟩ := x a _ r
    exact q
/-- what may be written -/
def Mut : Option HO → Prop
  | some (.lst _) => True
  | some (.dK _) => True
  | some (.dT _) => True
  | some (.set _ _) => True
  | some (.ins _ _ _) => True
  | some (.ext _) => True
  | _ => False
section
variable {P : Program} {w : World} {H : Hp} {h h' : Heap} {x e : Addr} {o' : HO}
/-- the object at e is changed: x itself, or the dict of the instance x -/
theorem HOk.write (ok : HOk P w H h) (mu : Mut (H x)) (he : e = x ∨ H e = some (.own x)) (k : ∀ b u, b ≠ e → h.get? b = some u → h'.get? b = some u) (heo : ∃ u, h'.get? e = some u)
    (new : ObjOk P w (upd H x o') h' x o') : HOk P w (upd H x o') h' := fun b u q => by
  have nown : ∀ c y, H c = some (.own y) → c ≠ x := fun c y r z => by subst z; rw [r] at mu; exact mu
  have ntup : ∀ c xs, H c = some (.tup xs) → c ≠ x := fun c xs r z => by subst z; rw [r] at mu; exact mu
  by_cases hb : b = x
  · subst hb; rw [upd_same] at q; cases q; exact new
  · rw [upd_ne hb] at q
    by_cases hbe : b = e
    · have q' : H b = some (.own x) := by
        rcases he with z | z
        · exact absurd (hbe.trans z) hb
        · rw [hbe]; exact z
      rw [q] at q'; cases q'
      obtain ⟨v, hv⟩ := heo
      exact ⟨v, by rw [hbe]; exact hv⟩
    · refine (ok b u q).stay (fun c v hc r => k c v ?_ r) (fun c r => by rw [upd_ne (nown c b r)]; exact r) fun c xs r => by rw [upd_ne (ntup c xs r)]; exact r
      rcases hc with rfl | hc
      · exact hbe
      · rintro rfl
        rcases he with z | z
        · exact nown c b hc z
        · rw [hc] at z; cases z; exact hb rfl
end

structure Un (fs ex : List Addr) (H H' : Hp) (h h' : Heap) : Prop where
  keep : ∀ b o, h.get? b = some o → H b = none → b ∉ fs → b ∉ ex → h'.get? b = some o
  slot : ∀ b o, h.get? b = some o → H b = none → b ∈ fs → b ∉ ex → ∃ sl, h'.get? b = some { o with slots := sl }
  free : ∀ b o, h.get? b = some o → H b = none → b ∉ ex → H' b = none
  there : ∀ b o, h.get? b = some o → b ∉ ex → ∃ o', h'.get? b = some o'
  tups : ∀ b xs, H b = some (.tup xs) → H' b = some (.tup xs)
  frzs : ∀ b o u, H b = some (.frz o u) → H' b = some (.frz o u)
  tbls : ∀ b ps, H b = some (.tbl ps) → ∃ more, H' b = some (.tbl (ps ++ more))
section
variable {fs fs' ex ex' : List Addr} {H H1 H2 : Hp} {h h1 h2 h' : Heap} {a x e : Addr} {o : HO}
theorem Un.any (u : Un fs ex H H1 h h1) {b : Addr} {ob : Obj} (q : h.get? b = some ob) (n : H b = none) (hx : b ∉ ex) : ∃ sl, h1.get? b = some { ob with slots := sl } := by
  by_cases hb : b ∈ fs
  · exact u.slot b ob q n hb hx
  · exact ⟨ob.slots, u.keep b ob q n hb hx⟩
theorem Un.kept (k : ∀ b u, h.get? b = some u → h'.get? b = some u) : Un fs ex H H h h' :=
  ⟨fun b ob q _ _ _ => k b ob q, fun b ob q _ _ _ => ⟨ob.slots, k b ob q⟩, fun _ _ _ n _ => n, fun b ob q _ => ⟨ob, k b ob q⟩, fun _ _ q => q, fun _ _ _ q => q, fun _ ps q => ⟨#[], by rw [q]; simp⟩⟩
theorem Un.refl : Un fs ex H H h h := Un.kept fun _ _ q => q
theorem Un.laid (k : ∀ b u, h.get? b = some u → h'.get? b = some u) (hp : h.objs.size ≤ a) (hn : H a = none) : Un fs ex H (upd H a o) h h' where
  keep := fun b u q _ _ _ => k b u q
  slot := fun b u q _ _ _ => ⟨u.slots, k b u q⟩
  free := fun b u q n _ => by rw [upd_ne (Nat.ne_of_lt (Nat.lt_of_lt_of_le (Heap.lt_size q) hp))]; exact n
  there := fun b u q _ => ⟨u, k b u q⟩
  tups := fun b xs q => by rw [upd_ne (ne_of_none q hn)]; exact q
  frzs := fun b u xs q => by rw [upd_ne (ne_of_none q hn)]; exact q
  tbls := fun b ps q => ⟨#[], by rw [upd_ne (ne_of_none q hn), q]; simp⟩
theorem Un.write (mu : Mut (H x)) (he : e = x ∨ H e = some (.own x)) (k : ∀ b u, b ≠ e → h.get? b = some u → h'.get? b = some u) (heo : ∃ u, h'.get? e = some u) : Un fs ex H (upd H x o) h h' := by
  have hx : ∀ b, H b = none → b ≠ x := fun b n z => by subst z; rw [n] at mu; exact mu
  have hb : ∀ b, H b = none → b ≠ e := fun b n z => by
    subst z
    rcases he with r | r
    · exact hx b n r
    · rw [n] at r; cases r
  have hm : ∀ b u, H b = some u → ¬ Mut (some u) → b ≠ x := fun b u q nm z => by subst z; rw [q] at mu; exact nm mu
  refine ⟨fun b u q n _ _ => k b u (hb b n) q, fun b u q n _ _ => ⟨u.slots, k b u (hb b n) q⟩, fun b u q n _ => by rw [upd_ne (hx b n)]; exact n, fun b u q _ => ?_,
    fun b xs q => by rw [upd_ne (hm b _ q fun z => z)]; exact q, fun b u xs q => by rw [upd_ne (hm b _ q fun z => z)]; exact q, fun b ps q => ⟨#[], by rw [upd_ne (hm b _ q fun z => z), q]; simp⟩⟩
  by_cases hbe : b = e
  · subst hbe; exact heo
  · exact ⟨u, k b u hbe q⟩
end

def trk (h : Heap) (H : Hp) : List Addr := (List.range h.objs.size).filter fun a => (H a).isSome
def hidT (h : Heap) (H : Hp) : Heap := PySem.W.hideAll h (trk h H)
theorem hidT_size (h : Heap) (H : Hp) : (hidT h H).objs.size = h.objs.size := PySem.W.hideAll_size _ _
theorem hidT_get {h : Heap} {H : Hp} {b : Addr} {o : Obj} (e : h.get? b = some o) (n : H b = none) : (hidT h H).get? b = some o :=
  PySem.W.hideAll_get _ e fun hm => by
    have q : (H b).isSome = true := (List.mem_filter.mp hm).2
    rw [n] at q; simp at q
theorem of_hidT {h : Heap} {H : Hp} {b : Addr} {o : Obj} (e : (hidT h H).get? b = some o) : h.get? b = some o ∧ H b = none := by
  have e' : h.get? b = some o := PySem.W.of_hideAll (trk h H) e
  refine ⟨e', ?_⟩
  cases q : H b with
  | none => rfl
  | some x =>
    have hm : b ∈ trk h H := List.mem_filter.mpr ⟨List.mem_range.mpr (Heap.lt_size e'), by simp [q]⟩
    have z : (hidT h H).get? b = none := PySem.W.hideAll_none (trk h H) hm
    rw [z] at e; cases e

end L2

namespace L2
open PySem PySem.Spec PyProof.Rows

/-- the module's facts, over the base: the heap at the law's entry without what is tracked there -/
structure Mod (K : PySem.W.Frag) (mg : Str → Option Value) (base : Heap) : Prop where
  kin : K.In base
  glob : base.Ns mainGlobals mg
  blt : ∃ mb, base.Ns builtinsNs mb ∧ ∀ x : Str, x ≠ "__name__" → mb x = bootBuiltins x
  nolimit : base.NoLimit

/-- the context: a def's body (or a comprehension's block) running. base: fixed through the whole law; s₀, H₀: the entry; outer: the frames whose slots others may change (a def's callers); stack: all frames that run;
   ex: iterators that were made ahead of the entry and are walked here (a comprehension's); fn: the names whose cells were made at the entry (a def: all; a comprehension's block: its own); calm: not within an except suite; pn: pins that every state bears; xe: what is wanted of an exception that leaves the code -/
structure Cx where
  prog : Program
  w : World
  K : PySem.W.Frag
  mg : Str → Option Value
  base : Heap
  A : Around
  N : List Str
  s₀ : Shared
  H₀ : Hp
  env : Env
  outer : List Env
  stack : List Env
  ex : List Addr
  fn : Str → Bool
  calm : Bool
  pn : List (Addr × Obj)
  xe : Value → Shared → Prop
/-- the callers' frames -/
def frs (l : List Env) : List Addr := l.filterMap (·.frame)
abbrev Cx.fs (X : Cx) : List Addr := frs X.outer

def Vis (sc : Scope) (x : Str) : Prop := sc.names.lookup x = some .local ∨ sc.names.lookup x = some .cell ∨ sc.names.lookup x = some .free
def Loc (sc : Scope) (x : Str) : Prop := sc.names.lookup x = some .local ∨ sc.names.lookup x = some .cell
def Look (env : Env) (h : Heap) (m : Str → Option Value) (x : Str) (u : Value) : Prop :=
  (env.kindOf x = some .local ∧ m x = some u) ∨ ((env.kindOf x = some .cell ∨ env.kindOf x = some .free) ∧ ∃ c, env.cells.lookup x = some c ∧ h.IsCell c (some u))

structure Cx.Ok (X : Cx) : Prop where
  mod : Mod X.K X.mg X.base
  kind : X.env.scope.kind = .function
  glob : X.env.globals = mainGlobals
  blt : X.env.builtins = builtinsNs
  above : X.s₀.heap.objs.size ≤ X.env.locals
  inj : ∀ x y c, X.env.cells.lookup x = some c → X.env.cells.lookup y = some c → x = y
  has : ∀ x, (X.env.kindOf x = some .cell ∨ X.env.kindOf x = some .free) → ∃ c, X.env.cells.lookup x = some c
  cab : ∀ x c, X.fn x = true → X.env.cells.lookup x = some c → X.s₀.heap.objs.size ≤ c
  hd : X.calm = true → X.A.handled = none
  frames : X.A.frames = some X.stack
  stk : X.stack = X.outer ∨ (X.stack = X.env :: X.outer ∧ X.env.frame = some X.env.locals)
  exf : ∀ b ∈ X.ex, b ≠ X.env.locals ∧ ∀ x c, X.env.cells.lookup x = some c → c ≠ b
  bs : ∀ b o, X.base.get? b = some o → X.s₀.heap.get? b = some o ∧ X.H₀ b = none
  bsz : X.base.objs.size ≤ X.s₀.heap.objs.size
  noex : ∀ b o, X.base.get? b = some o → b ∉ X.ex
  exfs : ∀ b ∈ X.ex, b ∉ X.fs
  funs : X.s₀.heap.FunFrames X.base X.outer
  frf : ∀ b ∈ X.fs, X.H₀ b = none

structure Inv (X : Cx) (pins : List (Addr × Obj)) (σ : List (Option V)) (H : Hp) (s : Shared) : Prop where
  ok : X.Ok
  os : s.os = X.s₀.os
  bare : AllBare s.gens
  base : Un X.fs X.ex X.H₀ H X.s₀.heap s.heap
  loc : ∃ m, s.heap.Ns X.env.locals m ∧ ∀ (i : Nat) (x : Str) (v : V), X.N[i]? = some x → σ[i]? = some (some v) → Vis X.env.scope x → ∃ u, RelV v u ∧ Look X.env s.heap m x u
  cell : ∀ x c, X.env.cells.lookup x = some c → ∃ v, s.heap.IsCell c v
  free : H X.env.locals = none
  freeC : ∀ x c, X.env.cells.lookup x = some c → H c = none
  pin : ∀ p ∈ X.pn ++ pins, s.heap.get? p.1 = some p.2 ∧ H p.1 = none ∧ p.1 ≠ X.env.locals ∧ p.1 ∉ X.fs ∧ ∀ v, p.2.data ≠ .cell v
  hok : HOk X.prog X.w H s.heap
  len : σ.length = X.N.length

section
variable {X : Cx} {pins : List (Addr × Obj)} {σ : List (Option V)} {H H' : Hp} {s : Shared} {h' : Heap}

theorem Cx.Ok.nofr (ok : X.Ok) {b : Addr} {o : Obj} (e : X.base.get? b = some o) : b ∉ X.fs := fun hb => by
  have := (ok.funs.mem hb).1
  rw [e] at this; cases this
theorem Inv.bs (I : Inv X pins σ H s) : ∀ b o, X.base.get? b = some o → s.heap.get? b = some o ∧ H b = none := fun b o e =>
  ⟨I.base.keep b o (I.ok.bs b o e).1 (I.ok.bs b o e).2 (I.ok.nofr e) (I.ok.noex b o e), I.base.free b o (I.ok.bs b o e).1 (I.ok.bs b o e).2 (I.ok.noex b o e)⟩
theorem Inv.bk (I : Inv X pins σ H s) : ∀ b o, X.base.get? b = some o → s.heap.get? b = some o := fun b o e => (I.bs b o e).1
theorem Inv.mod (I : Inv X pins σ H s) : Mod X.K X.mg X.base := I.ok.mod
theorem Inv.kIn (I : Inv X pins σ H s) : X.K.In s.heap := I.ok.mod.kin.keeps I.bk
theorem Inv.lt (I : Inv X pins σ H s) : X.env.locals < s.heap.objs.size := let ⟨_, hn, _⟩ := I.loc; hn.lt
theorem Inv.sz (I : Inv X pins σ H s) : X.s₀.heap.objs.size ≤ s.heap.objs.size := Nat.le_trans I.ok.above (Nat.le_of_lt I.lt)
theorem Inv.nofs (I : Inv X pins σ H s) {a : Addr} (h : s.heap.objs.size ≤ a) : a ∉ X.fs := fun hb => by
  obtain ⟨_, o, ho, _⟩ := I.ok.funs.mem hb
  exact absurd (Nat.lt_of_lt_of_le (Heap.lt_size ho) (Nat.le_trans I.sz h)) (Nat.lt_irrefl _)
theorem Inv.cne (I : Inv X pins σ H s) : ∀ x c, X.env.cells.lookup x = some c → c ≠ X.env.locals := fun x c e z => by
  obtain ⟨v, o, ho, hd⟩ := I.cell x c e
  obtain ⟨m, ⟨o', es, ep, ho', hd', _⟩, _⟩ := I.loc
  rw [z, ho'] at ho; cases ho; rw [hd'] at hd; cases hd
theorem Inv.funs (I : Inv X pins σ H s) : s.heap.FunFrames X.base X.outer := by
  have all : ∀ (l : List Env), (∀ b ∈ frs l, b ∈ X.fs) → X.s₀.heap.FunFrames X.base l → s.heap.FunFrames X.base l := by
    intro l
    induction l with
    | nil => intro _ _; trivial
    | cons env r ih =>
      intro hs hl
      obtain ⟨hk, ⟨L, o, hf, hn, ho, hd⟩, hr⟩ := hl
      have hL : L ∈ X.fs := hs L (by unfold frs; rw [List.filterMap_cons, hf]; exact List.mem_cons_self)
      obtain ⟨sl, e⟩ := I.base.slot L o ho (I.ok.frf L hL) hL fun z => I.ok.exfs L z hL
      exact ⟨hk, ⟨L, _, hf, hn, e, hd⟩, ih (fun b hb => hs b (by unfold frs; rw [List.filterMap_cons, hf]; exact List.mem_cons_of_mem _ hb)) hr⟩
  exact all X.outer (fun _ hb => hb) I.ok.funs

/-- the frames that run, for a call -/
theorem Inv.stack (I : Inv X pins σ H s) : s.heap.FunFrames X.base X.stack := by
  rcases I.ok.stk with e | ⟨e, hf⟩
  · rw [e]; exact I.funs
  · rw [e]
    obtain ⟨m, hn, _⟩ := I.loc
    refine .cons (by rw [I.ok.kind]; decide) hf hn ?_ I.funs
    exact Heap.get?_none_of_le (Nat.le_trans I.ok.bsz I.ok.above)
theorem Inv.stkSub (I : Inv X pins σ H s) : ∀ b ∈ frs X.stack, b ∈ X.env.locals :: X.fs := fun b hb => by
  rcases I.ok.stk with e | ⟨e, hf⟩
  · rw [e] at hb; exact List.mem_cons_of_mem _ hb
  · rw [e] at hb
    unfold frs at hb
    rw [List.filterMap_cons, hf] at hb
    exact hb
theorem Inv.stkFree (I : Inv X pins σ H s) : ∀ b ∈ frs X.stack, H b = none := fun b hb => by
  rcases List.mem_cons.mp (I.stkSub b hb) with e | hb
  · rw [e]; exact I.free
  · obtain ⟨_, o, ho, _⟩ := I.ok.funs.mem hb
    exact I.base.free b o ho (I.ok.frf b hb) fun z => I.ok.exfs b z hb

/-- THE STEP: the untracked objects but the frame and the records at ch are kept (the callers' frames up to slots), the frame's map is kept, the new abstract heap is held -/
theorem Inv.step {g' : Array GenState} {t' : Nat} {d' : Drawn} {ch : List Addr} (I : Inv X pins σ H s)
    (hch : ∀ b ∈ ch, (b ∈ X.ex ∨ X.s₀.heap.objs.size ≤ b) ∧ b ≠ X.env.locals ∧ (∀ x c, X.env.cells.lookup x = some c → c ≠ b) ∧ ∀ p ∈ X.pn ++ pins, p.1 ≠ b)
    (keep : ∀ b o, b ≠ X.env.locals → b ∉ X.fs → b ∉ ch → s.heap.get? b = some o → H b = none → h'.get? b = some o)
    (slot : ∀ b o, b ≠ X.env.locals → b ∈ X.fs → b ∉ ch → s.heap.get? b = some o → H b = none → ∃ sl, h'.get? b = some { o with slots := sl }) (free : ∀ b o, b ∉ ch → s.heap.get? b = some o → H b = none → H' b = none)
    (there : ∀ b o, b ∉ ch → s.heap.get? b = some o → ∃ o', h'.get? b = some o')
    (tups : ∀ b xs, H b = some (.tup xs) → H' b = some (.tup xs)) (frzs : ∀ b o u, H b = some (.frz o u) → H' b = some (.frz o u)) (tbls : ∀ b ps, H b = some (.tbl ps) → ∃ more, H' b = some (.tbl (ps ++ more)))
    (ns : ∀ m, s.heap.Ns X.env.locals m → h'.Ns X.env.locals m) (hok : HOk X.prog X.w H' h') (hg : AllBare g') :
    Inv X pins σ H' { s with heap := h', gens := g', drawn := d', toks := t' } := by
  have neL : ∀ b o, X.s₀.heap.get? b = some o → b ≠ X.env.locals := fun b o e => Nat.ne_of_lt (Nat.lt_of_lt_of_le (Heap.lt_size e) I.ok.above)
  have neC : ∀ b o, X.s₀.heap.get? b = some o → b ∉ X.ex → b ∉ ch := fun b o e hx hb => by
    rcases (hch b hb).1 with z | z
    · exact hx z
    · exact absurd (Nat.lt_of_lt_of_le (Heap.lt_size e) z) (Nat.lt_irrefl _)
  have cellK : ∀ x c, X.env.cells.lookup x = some c → ∀ v, s.heap.IsCell c v → h'.IsCell c v := fun x c e v ⟨o, ho, hd⟩ => by
    have nch : c ∉ ch := fun z => (hch c z).2.2.1 x c e rfl
    by_cases hc : c ∈ X.fs
    · obtain ⟨sl, q⟩ := slot c o (I.cne x c e) hc nch ho (I.freeC x c e)
      exact ⟨_, q, hd⟩
    · exact ⟨o, keep c o (I.cne x c e) hc nch ho (I.freeC x c e), hd⟩
  refine ⟨I.ok, I.os, hg, ⟨fun b o e n hb hx => ?_, fun b o e n hb hx => ?_, fun b o e n hx => ?_, fun b o e hx => ?_, fun b xs e => tups b xs (I.base.tups b xs e), fun b o xs e => frzs b o xs (I.base.frzs b o xs e), fun b ps e => ?_⟩, ?_, fun x c e => ?_, ?_, fun x c e => ?_, fun p hp => ?_, hok, I.len⟩
  · exact keep b o (neL b o e) hb (neC b o e hx) (I.base.keep b o e n hb hx) (I.base.free b o e n hx)
  · obtain ⟨sl, e1⟩ := I.base.slot b o e n hb hx
    obtain ⟨sl', e2⟩ := slot b _ (neL b o e) hb (neC b o e hx) e1 (I.base.free b o e n hx)
    exact ⟨sl', e2⟩
  · obtain ⟨o', e1⟩ := I.base.there b o e hx
    exact free b o' (neC b o e hx) e1 (I.base.free b o e n hx)
  · obtain ⟨o', e1⟩ := I.base.there b o e hx
    exact there b o' (neC b o e hx) e1
  · obtain ⟨m1, e1⟩ := I.base.tbls b ps e
    obtain ⟨m2, e2⟩ := tbls b _ e1
    exact ⟨m1 ++ m2, by rw [e2, Array.append_assoc]⟩
  · obtain ⟨m, hn, hl⟩ := I.loc
    refine ⟨m, ns m hn, fun i x v e1 e2 e3 => ?_⟩
    obtain ⟨u, r, l⟩ := hl i x v e1 e2 e3
    refine ⟨u, r, ?_⟩
    rcases l with l | ⟨k, c, e, z⟩
    · exact .inl l
    · exact .inr ⟨k, c, e, cellK x c e _ z⟩
  · obtain ⟨v, z⟩ := I.cell x c e
    exact ⟨v, cellK x c e v z⟩
  · obtain ⟨m, ⟨o, _, _, ho, _⟩, _⟩ := I.loc
    exact free _ o (fun z => (hch _ z).2.1 rfl) ho I.free
  · obtain ⟨v, o, ho, hd⟩ := I.cell x c e
    exact free c o (fun z => (hch c z).2.2.1 x c e rfl) ho (I.freeC x c e)
  · obtain ⟨e, n, ne, nf, d⟩ := I.pin p hp
    have nch : p.1 ∉ ch := fun z => (hch p.1 z).2.2.2 p hp rfl
    exact ⟨keep p.1 p.2 ne nf nch e n, free p.1 p.2 nch e n, ne, nf, d⟩
/-- .. where the frame's own object is kept too -/
theorem Inv.un {t' : Nat} (I : Inv X pins σ H s) (u : Un X.fs [] H H' s.heap h') (hok : HOk X.prog X.w H' h') : Inv X pins σ H' { s with heap := h', toks := t' } := by
  obtain ⟨m, ⟨o, es, ep, ho, r⟩, _⟩ := id I.loc
  obtain ⟨sl, hL⟩ := u.any ho I.free (by simp)
  exact I.step (g' := s.gens) (d' := s.drawn) (ch := []) (fun _ z => nomatch z) (fun b o _ hb _ e n => u.keep b o e n hb (by simp)) (fun b o _ hb _ e n => u.slot b o e n hb (by simp)) (fun b o _ e n => u.free b o e n (by simp)) (fun b o _ e => u.there b o e (by simp)) u.tups u.frzs u.tbls (fun m' hm => by
    obtain ⟨o', es', ep', ho', r'⟩ := hm
    rw [ho] at ho'; cases ho'
    exact ⟨_, es', ep', hL, r'⟩) hok I.bare
/-- behind a call (or a comprehension's block): the slots of this frame may have changed too, the records at ch may have turned -/
theorem Inv.call {g' : Array GenState} {t' : Nat} {d' : Drawn} {ch : List Addr} (I : Inv X pins σ H s) (u : Un (frs X.stack) ch H H' s.heap h') (hok : HOk X.prog X.w H' h') (hg : AllBare g')
    (hch : ∀ b ∈ ch, (b ∈ X.ex ∨ X.s₀.heap.objs.size ≤ b) ∧ b ≠ X.env.locals ∧ (∀ x c, X.env.cells.lookup x = some c → c ≠ b) ∧ ∀ p ∈ X.pn ++ pins, p.1 ≠ b) :
    Inv X pins σ H' { s with heap := h', gens := g', drawn := d', toks := t' } := by
  obtain ⟨m, ⟨o, es, ep, ho, r⟩, _⟩ := id I.loc
  obtain ⟨sl, hL⟩ := u.any ho I.free fun z => (hch _ z).2.1 rfl
  exact I.step (ch := ch) hch (fun b o hL hb hc e n => u.keep b o e n (fun z => (List.mem_cons.mp (I.stkSub b z)).elim hL hb) hc) (fun b o _ _ hc e n => u.any e n hc) (fun b o hc e n => u.free b o e n hc) (fun b o hc e => u.there b o e hc) u.tups u.frzs u.tbls (fun m' hm => by
    obtain ⟨o', es', ep', ho', r'⟩ := hm
    rw [ho] at ho'; cases ho'
    exact ⟨_, es', ep', hL, r'⟩) hok hg
/-- an untracked record of ours (an iterator) has turned -/
theorem Inv.turned {t' : Nat} {it : Addr} (I : Inv X pins σ H s) (k : ∀ b o, b ≠ it → s.heap.get? b = some o → h'.get? b = some o) (hn : H it = none) (hL : it ≠ X.env.locals)
    (h1 : it ∈ X.ex ∨ X.s₀.heap.objs.size ≤ it) (h2 : ∀ x c, X.env.cells.lookup x = some c → c ≠ it) (h3 : ∀ p ∈ X.pn ++ pins, p.1 ≠ it) : Inv X pins σ H { s with heap := h', toks := t' } := by
  have nit : ∀ b u, H b = some u → b ≠ it := fun b u e z => by rw [z, hn] at e; cases e
  refine I.step (g' := s.gens) (d' := s.drawn) (ch := [it]) (fun b hb => ?_) (fun b o _ _ hc e _ => k b o (fun z => hc (by simp [z])) e) (fun b o _ _ hc e _ => ⟨o.slots, k b o (fun z => hc (by simp [z])) e⟩) (fun _ _ _ _ n => n)
    (fun b o hc e => ⟨o, k b o (fun z => hc (by simp [z])) e⟩) (fun _ _ e => e) (fun _ _ _ e => e) (fun b ps e => ⟨#[], by rw [e]; simp⟩) (fun m hm => ?_) (fun b u e => ?_) I.bare
  · have e : b = it := by simpa using hb
    subst e
    exact ⟨h1, hL, h2, h3⟩
  · obtain ⟨o, es, ep, ho, r⟩ := hm
    exact ⟨o, es, ep, k _ o (Ne.symm hL) ho, r⟩
  · refine (I.hok b u e).stay (fun c v hc q => k c v ?_ q) (fun _ q => q) fun _ _ q => q
    rcases hc with z | z
    · rw [z]; exact nit b u e
    · exact nit c _ z
theorem Inv.tok (I : Inv X pins σ H s) (t : Nat) : Inv X pins σ H { s with toks := t } := I.un (h' := s.heap) (t' := t) Un.refl I.hok
/-- all objects kept -/
theorem Inv.kept {t' : Nat} (I : Inv X pins σ H s) (k : ∀ b u, s.heap.get? b = some u → h'.get? b = some u) : Inv X pins σ H { s with heap := h', toks := t' } := I.un (Un.kept k) (I.hok.kept k)
/-- a new object laid and tracked -/
theorem Inv.laid {a : Addr} {o : HO} {t' : Nat} (I : Inv X pins σ H s) (k : ∀ b u, s.heap.get? b = some u → h'.get? b = some u) (hp : s.heap.objs.size ≤ a) (new : ObjOk X.prog X.w (upd H a o) h' a o) :
    Inv X pins σ (upd H a o) { s with heap := h', toks := t' } := I.un (Un.laid k hp (I.hok.fresh hp)) (I.hok.laid k hp new)
/-- an object written -/
theorem Inv.write {x e : Addr} {o : HO} {t' : Nat} (I : Inv X pins σ H s) (mu : Mut (H x)) (he : e = x ∨ H e = some (.own x)) (k : ∀ b u, b ≠ e → s.heap.get? b = some u → h'.get? b = some u) (heo : ∃ u, h'.get? e = some u)
    (new : ObjOk X.prog X.w (upd H x o) h' x o) : Inv X pins σ (upd H x o) { s with heap := h', toks := t' } := I.un (Un.write mu he k heo) (I.hok.write mu he k heo new)
theorem Inv.pins_of {pins' : List (Addr × Obj)} (I : Inv X pins σ H s) (h : ∀ p ∈ pins', s.heap.get? p.1 = some p.2 ∧ H p.1 = none ∧ p.1 ≠ X.env.locals ∧ p.1 ∉ X.fs ∧ ∀ v, p.2.data ≠ .cell v) : Inv X pins' σ H s :=
  ⟨I.ok, I.os, I.bare, I.base, I.loc, I.cell, I.free, I.freeC, fun p hp => (List.mem_append.mp hp).elim (fun z => I.pin p (List.mem_append_left _ z)) (h p), I.hok, I.len⟩

theorem nodup_ix {N : List Str} (hN : N.Nodup) {i j : Nat} {x : Str} (a : N[i]? = some x) (b : N[j]? = some x) : i = j := by
  obtain ⟨h1, e1⟩ := List.getElem?_eq_some_iff.mp a
  obtain ⟨h2, e2⟩ := List.getElem?_eq_some_iff.mp b
  exact (List.getElem_inj hN).mp (e1.trans e2.symm)

/-- a name is stored; what changed -/
theorem store_ok2 {M : Model} {A : Around} {E : Value → Shared → Prop} {i : Nat} {x : Str} {v : V} {u : Value} {Q : Unit → Shared → Prop} (I : Inv X pins σ H s) (hN : X.N.Nodup) (hi : X.N[i]? = some x) (hx : Loc X.env.scope x) (r : RelV v u)
    (h : ∀ s', Inv X pins (σ.set i (some v)) H s' → (∃ a, Heap.SameBut a s.heap s'.heap ∧ (a = X.env.locals ∨ X.env.cells.lookup x = some a)) → Q () s') (hf : X.fn x = true ∨ X.env.scope.names.lookup x = some .local := by first | exact .inl rfl | exact .inr rfl | assumption) : wpAny M A (storeName X.env x u) Q E s := by
  obtain ⟨m, hn, hl⟩ := id I.loc
  have hcls : (X.env.scope.kind == .class || (X.env.scope.kind == .module && X.env.locals != X.env.globals)) = false := by rw [I.ok.kind]; rfl
  have hiσ : i < σ.length := by rw [I.len]; exact (List.getElem?_eq_some_iff.mp hi).1
  have cne := I.cne
  have tracked : ∀ {a : Addr} {h' : Heap}, (∃ o, s.heap.get? a = some o ∧ H a = none) → Heap.SameBut a s.heap h' → HOk X.prog X.w H h' := fun {a h'} ha hs b ob e => by
    obtain ⟨_, _, hfree⟩ := ha
    refine (I.hok b ob e).stay (fun c w' hc q => (hs.2 c ?_).trans q) (fun _ q => q) fun _ _ q => q
    rintro rfl
    rcases hc with rfl | hc
    · rw [hfree] at e; cases e
    · rw [hfree] at hc; cases hc
  rcases hx with hk | hk
  · refine wpAny_storeName_local hk hn (fun h' hn' hs => ?_) hcls
    obtain ⟨oL, _, _, hoL, _⟩ := id hn
    refine h _ ⟨I.ok, I.os, I.bare, ⟨fun b o e n hb hx => ?_, fun b o e n hb hx => ?_, I.base.free, fun b o e hx => ?_, I.base.tups, I.base.frzs, I.base.tbls⟩, ⟨_, hn', fun j y v' e1 e2 e3 => ?_⟩, fun y c e => ?_, I.free, I.freeC, fun p hp => ?_, tracked ⟨oL, hoL, I.free⟩ hs, by simpa using I.len⟩ ⟨_, hs, .inl rfl⟩
    · exact (hs.2 b (Nat.ne_of_lt (Nat.lt_of_lt_of_le (Heap.lt_size e) I.ok.above))).trans (I.base.keep b o e n hb hx)
    · obtain ⟨sl, e1⟩ := I.base.slot b o e n hb hx
      exact ⟨sl, (hs.2 b (Nat.ne_of_lt (Nat.lt_of_lt_of_le (Heap.lt_size e) I.ok.above))).trans e1⟩
    · obtain ⟨o', e1⟩ := I.base.there b o e hx
      exact ⟨o', (hs.2 b (Nat.ne_of_lt (Nat.lt_of_lt_of_le (Heap.lt_size e) I.ok.above))).trans e1⟩
    · by_cases hj : j = i
      · subst hj
        rw [hi] at e1; cases e1
        rw [List.getElem?_set_self hiσ] at e2
        cases e2
        exact ⟨u, r, .inl ⟨hk, by simp⟩⟩
      · rw [List.getElem?_set_ne (Ne.symm hj)] at e2
        obtain ⟨u', r', q⟩ := hl j y v' e1 e2 e3
        refine ⟨u', r', ?_⟩
        rcases q with ⟨k, e⟩ | ⟨k, c, e, z⟩
        · refine .inl ⟨k, ?_⟩
          have : y ≠ x := fun e => hj (nodup_ix hN e1 (e ▸ hi))
          simp [this, e]
        · exact .inr ⟨k, c, e, z.sameBut hs (cne y c e)⟩
    · obtain ⟨w', z⟩ := I.cell y c e
      exact ⟨w', z.sameBut hs (cne y c e)⟩
    · obtain ⟨e, n, ne, nf, d⟩ := I.pin p hp
      exact ⟨(hs.2 p.1 ne).trans e, n, ne, nf, d⟩
  · have hfn : X.fn x = true := by
      rcases hf with z | z
      · exact z
      · rw [z] at hk; cases hk
    obtain ⟨c, hc⟩ := I.ok.has x (.inl hk)
    obtain ⟨w', z⟩ := I.cell x c hc
    refine wpAny_storeName_cell I.ok.kind hk hc z (fun h' hc' hs => ?_)
    obtain ⟨oc, hoc, hocd⟩ := id z
    refine h { s with heap := h' } ⟨I.ok, I.os, I.bare, ⟨fun b o e n hb hx => ?_, fun b o e n hb hx => ?_, I.base.free, fun b o e hx => ?_, I.base.tups, I.base.frzs, I.base.tbls⟩, ⟨m, hn.sameBut hs (Ne.symm (cne x c hc)), fun j y v' e1 e2 e3 => ?_⟩, fun y c' e => ?_, I.free, I.freeC, fun p hp => ?_, tracked ⟨oc, hoc, I.freeC x c hc⟩ hs, by simpa using I.len⟩ ⟨c, hs, .inr hc⟩
    · exact (hs.2 b (Nat.ne_of_lt (Nat.lt_of_lt_of_le (Heap.lt_size e) (I.ok.cab x c hfn hc)))).trans (I.base.keep b o e n hb hx)
    · obtain ⟨sl, e1⟩ := I.base.slot b o e n hb hx
      exact ⟨sl, (hs.2 b (Nat.ne_of_lt (Nat.lt_of_lt_of_le (Heap.lt_size e) (I.ok.cab x c hfn hc)))).trans e1⟩
    · obtain ⟨o', e1⟩ := I.base.there b o e hx
      exact ⟨o', (hs.2 b (Nat.ne_of_lt (Nat.lt_of_lt_of_le (Heap.lt_size e) (I.ok.cab x c hfn hc)))).trans e1⟩
    · by_cases hj : j = i
      · subst hj
        rw [hi] at e1; cases e1
        rw [List.getElem?_set_self hiσ] at e2
        cases e2
        exact ⟨u, r, .inr ⟨.inl hk, c, hc, hc'⟩⟩
      · rw [List.getElem?_set_ne (Ne.symm hj)] at e2
        obtain ⟨u', r', q⟩ := hl j y v' e1 e2 e3
        refine ⟨u', r', ?_⟩
        rcases q with q | ⟨k, c', e, z'⟩
        · exact .inl q
        · refine .inr ⟨k, c', e, z'.sameBut hs ?_⟩
          rintro rfl
          exact hj (nodup_ix hN e1 (I.ok.inj _ _ _ e hc ▸ hi))
    · by_cases hcc : c' = c
      · subst hcc; exact ⟨_, hc'⟩
      · obtain ⟨w2, z2⟩ := I.cell y c' e
        exact ⟨w2, z2.sameBut hs hcc⟩
    · obtain ⟨e, n, ne, nf, d⟩ := I.pin p hp
      refine ⟨(hs.2 p.1 ?_).trans e, n, ne, nf, d⟩
      intro q
      rw [q, hoc] at e
      have q' : oc = p.2 := Option.some.inj e
      exact d w' (by rw [← q']; exact hocd)
theorem store_ok {M : Model} {A : Around} {E : Value → Shared → Prop} {i : Nat} {x : Str} {v : V} {u : Value} {Q : Unit → Shared → Prop} (I : Inv X pins σ H s) (hN : X.N.Nodup) (hi : X.N[i]? = some x) (hx : Loc X.env.scope x) (r : RelV v u)
    (h : ∀ s', Inv X pins (σ.set i (some v)) H s' → Q () s') (hf : X.fn x = true ∨ X.env.scope.names.lookup x = some .local := by first | exact .inl rfl | exact .inr rfl | assumption) : wpAny M A (storeName X.env x u) Q E s :=
  store_ok2 I hN hi hx r (fun s' I' _ => h s' I') hf
/-- behind a call or a block, the state as it is -/
theorem Inv.call' {s' : Shared} {ch : List Addr} (I : Inv X pins σ H s) (ho : s'.os = s.os) (u : Un (frs X.stack) ch H H' s.heap s'.heap) (hok : HOk X.prog X.w H' s'.heap) (hg : AllBare s'.gens)
    (hch : ∀ b ∈ ch, (b ∈ X.ex ∨ X.s₀.heap.objs.size ≤ b) ∧ b ≠ X.env.locals ∧ (∀ x c, X.env.cells.lookup x = some c → c ≠ b) ∧ ∀ p ∈ X.pn ++ pins, p.1 ≠ b) : Inv X pins σ H' s' := by
  obtain ⟨h', g', d', t', o'⟩ := s'
  have e : o' = s.os := ho
  subst e
  exact I.call (g' := g') (t' := t') (d' := d') u hok hg hch
end

/-- an exception: its class, its own dict's address (where it has one), the abstract heap behind it -/
abbrev XK := Value → Option Addr → Hp → Prop
abbrev St := List (Option V)
abbrev VK := V → Hp → Prop
/-- an expression's reading; a test's; an argument list's -/
abbrev TE := St → Hp → VK → Prop
abbrev TT := St → Hp → (Bool → Hp → Prop) → Prop
abbrev TA := St → Hp → (List V → Hp → Prop) → Prop
/-- what is wanted behind a statement -/
structure Ends where
  nx : St → Hp → Prop
  rt : VK
  bk : St → Hp → Prop := fun _ _ => False
  ct : St → Hp → Prop := fun _ _ => False
abbrev TS := Ends → St → Hp → Prop

def EP (X : Cx) (pins : List (Addr × Obj)) (σ : St) (Q : VK) (u : Value) (s' : Shared) : Prop := ∃ v H', Inv X pins σ H' s' ∧ RelV v u ∧ Q v H'
def TP (X : Cx) (pins : List (Addr × Obj)) (σ : St) (Q : Bool → Hp → Prop) (b : Bool) (s' : Shared) : Prop := ∃ H', Inv X pins σ H' s' ∧ Q b H'
def AP (X : Cx) (pins : List (Addr × Obj)) (σ : St) (Q : List V → Hp → Prop) (us : List Value) (s' : Shared) : Prop := ∃ vs H', Inv X pins σ H' s' ∧ Vals vs us ∧ Q vs H'
def SP (X : Cx) (pins : List (Addr × Obj)) (D : Ends) (f : Flow) (s' : Shared) : Prop :=
  match f with
  | .next => ∃ σ' H', Inv X pins σ' H' s' ∧ D.nx σ' H'
  | .brk => ∃ σ' H', Inv X pins σ' H' s' ∧ D.bk σ' H'
  | .cont => ∃ σ' H', Inv X pins σ' H' s' ∧ D.ct σ' H'
  | .ret u => ∃ v σ' H', Inv X pins σ' H' s' ∧ RelV v u ∧ D.rt v H'

def PE (X : Cx) (e : Expr) (t : TE) : Prop :=
  ∀ (pins : List (Addr × Obj)) (s : Shared) (σ : St) (H : Hp) (Q : VK), Inv X pins σ H s → t σ H Q → wpAny (model X.prog X.w) X.A (eval e X.env) (EP X pins σ Q) X.xe s
def PT (X : Cx) (e : Expr) (t : TT) : Prop :=
  ∀ (pins : List (Addr × Obj)) (s : Shared) (σ : St) (H : Hp) (Q : Bool → Hp → Prop), Inv X pins σ H s → t σ H Q → wpAny (model X.prog X.w) X.A (isTrue e X.env (eval e X.env)) (TP X pins σ Q) X.xe s
/-- a test whatever its 'whole' is (and, or) -/
def PW (X : Cx) (e : Expr) (t : TT) : Prop :=
  ∀ (whole : Sem Value) (pins : List (Addr × Obj)) (s : Shared) (σ : St) (H : Hp) (Q : Bool → Hp → Prop), Inv X pins σ H s → t σ H Q → wpAny (model X.prog X.w) X.A (isTrue e X.env whole) (TP X pins σ Q) X.xe s
theorem PW.pt {X : Cx} {e : Expr} {t : TT} (h : PW X e t) : PT X e t := h _
/-- an argument list (no star), from the left -/
def PA (X : Cx) (es : List Expr) (t : TA) : Prop :=
  ∀ (pos : Pos) (pins : List (Addr × Obj)) (s : Shared) (σ : St) (H : Hp) (Q : List V → Hp → Prop), Inv X pins σ H s → t σ H Q → wpAny (model X.prog X.w) X.A (spliced (backTo pos (starEach es X.env))) (AP X pins σ Q) X.xe s
def PS (X : Cx) (st : Stmt) (t : TS) : Prop :=
  ∀ (pins : List (Addr × Obj)) (s : Shared) (σ : St) (H : Hp) (D : Ends), Inv X pins σ H s → t D σ H → wpAny (model X.prog X.w) X.A (exec st X.env) (SP X pins D) X.xe s
def PSs (X : Cx) (st : List Stmt) (t : TS) : Prop :=
  ∀ (pins : List (Addr × Obj)) (s : Shared) (σ : St) (H : Hp) (D : Ends), Inv X pins σ H s → t D σ H → wpAny (model X.prog X.w) X.A (execs st X.env) (SP X pins D) X.xe s
/-- weaken the end -/
theorem thn {α : Type} {t : Sem α} {Q Q' : α → Shared → Prop} {M : Model} {A : Around} {E : Value → Shared → Prop} {s : Shared} (h : wpAny M A t Q E s) (hQ : ∀ a s, Q a s → Q' a s) : wpAny M A t Q' E s := wpAny_mono h hQ fun _ _ x => x
end L2

namespace L2
open PySem PySem.Spec PyProof.Rows
section
variable {X : Cx}

def tVar (i : Nat) : TE := fun σ H Q => ∃ v, σ[i]? = some (some v) ∧ Q v H
def tC (v : V) : TE := fun _ H Q => Q v H
theorem pe_var {i : Nat} {x : Str} {pos : Pos} (hN : X.N[i]? = some x) (hv : Vis X.env.scope x) (hd : (x == ("__debug__" : Str)) = false := by decide) (hcd : (x == ("__classdict__" : Str)) = false := by decide) : PE X (.Name x pos) (tVar i) := by
  intro pins s σ H Q I h
  obtain ⟨v, e, h⟩ := h
  obtain ⟨m, hn, hl⟩ := I.loc
  obtain ⟨u, r, l⟩ := hl i x v hN e hv
  have fin : EP X pins σ Q u s := ⟨v, H, I, r, h⟩
  rcases l with ⟨hk, hm⟩ | ⟨hk, c, hc, hcell⟩
  · exact wpAny_Name (wpAny_loadName_local I.ok.kind hk hn hm fin) hd
  · rcases hk with hk | hk
    · exact wpAny_Name (wpAny_loadName_cell I.ok.kind hk hc hcell fin) hd
    · exact wpAny_Name (wpAny_loadName_free I.ok.kind hk hc hcell fin hcd) hd
theorem pe_int {i j pos} : PE X (.Constant (.int i) j pos) (tC (.int i)) := fun _ _ _ H _ I h => wpAny_Constant_int ⟨.int i, H, I.tok _, ⟨_, rfl⟩, h⟩
theorem pe_bl {b j pos} : PE X (.Constant (.bool b) j pos) (tC (.bl b)) := fun _ _ _ H _ I h => Constant_bool ⟨.bl b, H, I, rfl, h⟩
theorem pe_non {j pos} : PE X (.Constant .none j pos) (tC .non) := fun _ _ _ H _ I h => Constant_none ⟨.non, H, I, rfl, h⟩
theorem pe_str {x j pos} : PE X (.Constant (.str x) j pos) (tC (.str x)) := fun _ _ _ H _ I h => Calls.Constant_str ⟨.str x, H, I.tok _, ⟨_, rfl⟩, h⟩

/-- a global name of the def -/
def Gl (X : Cx) (x : Str) : Prop := X.env.kindOf x = some .globalImplicit
theorem ld_glob {E : Value → Shared → Prop} {pins : List (Addr × Obj)} {s : Shared} {σ : St} {H : Hp} {x : Str} {u : Value} {pos : Pos} {Q : Value → Shared → Prop} (I : Inv X pins σ H s) (hg : Gl X x) (hm : X.mg x = some u) (h : Q u s)
    (hd : (x == ("__debug__" : Str)) = false := by decide) : wpAny (model X.prog X.w) X.A (eval (.Name x pos) X.env) Q E s :=
  Calls.Name_function_global I.ok.kind hg (Calls.loadGlobal_global (by rw [I.ok.glob]; exact I.mod.glob.keeps I.bk) hm h) hd
theorem ld_blt {E : Value → Shared → Prop} {pins : List (Addr × Obj)} {s : Shared} {σ : St} {H : Hp} {x : Str} {u : Value} {pos : Pos} {Q : Value → Shared → Prop} (I : Inv X pins σ H s) (hg : Gl X x) (hm : X.mg x = none) (hv : bootBuiltins x = some u) (h : Q u s)
    (hn : x ≠ "__name__" := by decide) (hd : (x == ("__debug__" : Str)) = false := by decide) : wpAny (model X.prog X.w) X.A (eval (.Name x pos) X.env) Q E s := by
  obtain ⟨mb, h1, h2⟩ := I.mod.blt
  exact Calls.Name_function_global I.ok.kind hg (Calls.loadGlobal_builtin (by rw [I.ok.glob]; exact I.mod.glob.keeps I.bk) hm (by rw [I.ok.blt]; exact h1.keeps I.bk) ((h2 x hn).trans hv) h) hd
/-- a module's constant, a class, a function, as a value -/
theorem pe_glob {x : Str} {v : V} {u : Value} {pos : Pos} (hg : Gl X x) (hm : X.mg x = some u) (r : RelV v u) (hd : (x == ("__debug__" : Str)) = false := by decide) : PE X (.Name x pos) (tC v) :=
  fun _ _ _ H _ I h => ld_glob I hg hm ⟨v, H, I, r, h⟩ hd
theorem pe_bltn {x : Str} {v : V} {u : Value} {pos : Pos} (hg : Gl X x) (hm : X.mg x = none) (hv : bootBuiltins x = some u) (r : RelV v u) (hn : x ≠ "__name__" := by decide) (hd : (x == ("__debug__" : Str)) = false := by decide) : PE X (.Name x pos) (tC v) :=
  fun _ _ _ H _ I h => ld_blt I hg hm hv ⟨v, H, I, r, h⟩ hn hd

variable {a b : Expr} {ta tb : TE} {pos : Pos}
variable {tA tB' : TT} {rest : List Expr}
def tAnd (t u : TT) : TT := fun σ H Q => t σ H fun c H1 => if c = true then u σ H1 Q else Q false H1
def tOr (t u : TT) : TT := fun σ H Q => t σ H fun c H1 => if c = true then Q true H1 else u σ H1 Q
def tNot (t : TT) : TT := fun σ H Q => t σ H fun c H1 => Q (!c) H1
theorem pw_and1 (ha : PT X a tA) : PW X (.BoolOp .And [a] pos) tA := by
  intro wh pins s σ H Q I h
  refine isTrue_and (thn (ha pins s σ H Q I h) fun c s1 e => ?_)
  cases c with
  | true => exact isTrue_and_nil e
  | false => exact e
theorem pw_or1 (ha : PT X a tA) : PW X (.BoolOp .Or [a] pos) tA := by
  intro wh pins s σ H Q I h
  refine isTrue_or (thn (ha pins s σ H Q I h) fun c s1 e => ?_)
  cases c with
  | false => exact isTrue_or_nil e
  | true => exact e
theorem pw_and (ha : PT X a tA) (hb : PW X (.BoolOp .And (b :: rest) pos) tB') : PW X (.BoolOp .And (a :: b :: rest) pos) (tAnd tA tB') := by
  intro wh pins s σ H Q I h
  refine isTrue_and (thn (ha pins s σ H _ I h) fun c s1 ⟨H1, I1, q1⟩ => ?_)
  cases c with
  | true => exact hb wh pins s1 σ H1 Q I1 q1
  | false => exact ⟨H1, I1, q1⟩
theorem pw_or (ha : PT X a tA) (hb : PW X (.BoolOp .Or (b :: rest) pos) tB') : PW X (.BoolOp .Or (a :: b :: rest) pos) (tOr tA tB') := by
  intro wh pins s σ H Q I h
  refine isTrue_or (thn (ha pins s σ H _ I h) fun c s1 ⟨H1, I1, q1⟩ => ?_)
  cases c with
  | true => exact ⟨H1, I1, q1⟩
  | false => exact hb wh pins s1 σ H1 Q I1 q1
theorem pt_not (ha : PT X a tA) : PT X (.UnaryOp .Not a pos) (tNot tA) := by
  intro pins s σ H Q I h
  exact isTrue_not (ha pins s σ H (fun c H1 => Q (!c) H1) I h)
/-- .. as values (bools) -/
def tAndV (ta tb : TE) : TE := fun σ H Q => ta σ H fun x H1 => ∃ c, x = .bl c ∧ if c = true then tb σ H1 Q else Q (.bl false) H1
def tOrV (ta tb : TE) : TE := fun σ H Q => ta σ H fun x H1 => ∃ c, x = .bl c ∧ if c = true then Q (.bl true) H1 else tb σ H1 Q
theorem pe_one {op} {t : TE} (h : PE X a t) : PE X (.BoolOp op [a] pos) t := fun pins s σ H Q I hw => BoolOp_one (h pins s σ H Q I hw)
theorem pe_and (ha : PE X a ta) (hb : PE X (.BoolOp .And (b :: rest) pos) tb) : PE X (.BoolOp .And (a :: b :: rest) pos) (tAndV ta tb) := by
  intro pins s σ H Q I h
  refine BoolOp_and (thn (ha pins s σ H _ I h) fun v s1 ⟨x, H1, I1, r1, q1⟩ => ?_)
  obtain ⟨c, rfl, q1⟩ := q1
  cases r1
  refine wpAny_truthy_bool ?_
  cases c with
  | true => exact hb pins s1 σ H1 Q I1 q1
  | false => exact ⟨.bl false, H1, I1, rfl, q1⟩
theorem pe_or (ha : PE X a ta) (hb : PE X (.BoolOp .Or (b :: rest) pos) tb) : PE X (.BoolOp .Or (a :: b :: rest) pos) (tOrV ta tb) := by
  intro pins s σ H Q I h
  refine BoolOp_or (thn (ha pins s σ H _ I h) fun v s1 ⟨x, H1, I1, r1, q1⟩ => ?_)
  obtain ⟨c, rfl, q1⟩ := q1
  cases r1
  refine wpAny_truthy_bool ?_
  cases c with
  | false => exact hb pins s1 σ H1 Q I1 q1
  | true => exact ⟨.bl true, H1, I1, rfl, q1⟩
end
end L2

namespace L2
open PySem PySem.Spec PyProof.Rows

def SqL (K : PySem.W.Frag) (H : Hp) (a : Addr) (xs : List V) : Prop :=
  Rd H a (.lst xs) ∨
    ∃ (o : Obj) (its : Array Value) (n : Nat), K.lookup a = some o ∧ o.cls = .type "list" ∧ o.dict = none ∧ o.data = .seq its n ∧ its.size ≤ sizeLine ∧ Vals xs its.toList
def SqT (K : PySem.W.Frag) (H : Hp) (a : Addr) (xs : List V) : Prop :=
  Rd H a (.tup xs) ∨
    ∃ (o : Obj) (its : Array Value) (n : Nat), K.lookup a = some o ∧ o.cls = .type "tuple" ∧ o.data = .seq its n ∧ its.size ≤ sizeLine ∧ Vals xs its.toList
def absV : Value → Option V
  | .none => some .non
  | .bool b => some (.bl b)
  | .int i _ => some (.int i)
  | .str x _ => some (.str x)
  | .bytes b _ => some (.byt b)
  | .float b _ => some (.flt b)
  | .ref a => some (.ref a)
  | .type n => some (.ty n)
  | _ => none
theorem RelV.abs {x : V} {u : Value} (r : RelV x u) : absV u = some x := by
  cases x with
  | non => cases r; rfl
  | bl _ => cases r; rfl
  | int _ => obtain ⟨t, rfl⟩ := r; rfl
  | str _ => obtain ⟨t, rfl⟩ := r; rfl
  | byt _ => obtain ⟨t, rfl⟩ := r; rfl
  | flt _ => obtain ⟨t, rfl⟩ := r; rfl
  | ref _ => cases r; rfl
  | ty _ => cases r; rfl
theorem RelV.inj {x y : V} {u : Value} (r : RelV x u) (q : RelV y u) : x = y := Option.some.inj (r.abs.symm.trans q.abs)
theorem Vals.inj : ∀ {xs ys : List V} {us : List Value}, Vals xs us → Vals ys us → xs = ys
  | _, _, _, .nil, .nil => rfl
  | _, _, _, .cons r t, .cons r' t' => by rw [r.inj r', Vals.inj t t']
section
variable {X : Cx} {pins : List (Addr × Obj)} {σ : St} {H : Hp} {s : Shared} {a : Addr} {xs ys : List V}
theorem SqL.of {K : PySem.W.Frag} (h : H a = some (.lst xs)) : SqL K H a xs := .inl (.inl h)
theorem SqT.of {K : PySem.W.Frag} (h : H a = some (.tup xs)) : SqT K H a xs := .inl (.inl h)
theorem Inv.list (I : Inv X pins σ H s) (h : SqL X.K H a xs) : ∃ its : List Value, Vals xs its ∧ PlainL s.heap a its.toArray ∧ xs.length ≤ sizeLine := by
  rcases h with h | ⟨o, its, n, hk, hc, hd, hs, hz, r⟩
  · obtain ⟨z, its, n, r, e⟩ := h.ok I.hok
    exact ⟨its, r, ⟨_, n, e, rfl, rfl, rfl⟩, z⟩
  · refine ⟨its.toList, r, ⟨o, n, I.kIn a o hk, hc, hd, by simpa using hs⟩, ?_⟩
    have e := r.length
    simp only [Array.length_toList] at e
    omega
theorem Inv.tuple (I : Inv X pins σ H s) (h : SqT X.K H a xs) : ∃ its : List Value, Vals xs its ∧ IsTup s.heap a its.toArray ∧ xs.length ≤ sizeLine := by
  rcases h with h | ⟨o, its, n, hk, hc, hs, hz, r⟩
  · obtain ⟨z, its, r, p⟩ := h.ok I.hok
    exact ⟨its, r, p, z⟩
  · refine ⟨its.toList, r, ⟨o, I.kIn a o hk, hc, n, by simpa using hs⟩, ?_⟩
    have e := r.length
    simp only [Array.length_toList] at e
    omega
theorem Inv.list_inj (I : Inv X pins σ H s) (h : SqL X.K H a xs) (h' : SqL X.K H a ys) : xs = ys := by
  obtain ⟨its, r, ⟨o, n, e, _, _, d⟩, _⟩ := I.list h
  obtain ⟨its', r', ⟨o', n', e', _, _, d'⟩, _⟩ := I.list h'
  rw [e] at e'; cases e'
  rw [d] at d'
  injection d' with d1 _
  have : its = its' := by simpa using congrArg Array.toList d1
  subst this
  exact r.inj r'
theorem Inv.tuple_inj (I : Inv X pins σ H s) (h : SqT X.K H a xs) (h' : SqT X.K H a ys) : xs = ys := by
  obtain ⟨its, r, ⟨o, e, _, n, d⟩, _⟩ := I.tuple h
  obtain ⟨its', r', ⟨o', e', _, n', d'⟩, _⟩ := I.tuple h'
  rw [e] at e'; cases e'
  rw [d] at d'
  injection d' with d1 _
  have : its = its' := by simpa using congrArg Array.toList d1
  subst this
  exact r.inj r'
end

abbrev Cx.wish (X : Cx) (E : Value → Shared → Prop) : Cx := { X with xe := E }
/-- no exception leaves -/
abbrev Cx.nox (X : Cx) : Cx := X.wish fun _ _ => False
theorem Cx.Ok.wish {X : Cx} (ok : X.Ok) (E : Value → Shared → Prop) : (X.wish E).Ok :=
  ⟨ok.mod, ok.kind, ok.glob, ok.blt, ok.above, ok.inj, ok.has, ok.cab, ok.hd, ok.frames, ok.stk, ok.exf, ok.bs, ok.bsz, ok.noex, ok.exfs, ok.funs, ok.frf⟩
theorem Cx.Ok.unwish {X : Cx} {E : Value → Shared → Prop} (ok : (X.wish E).Ok) : X.Ok :=
  ⟨ok.mod, ok.kind, ok.glob, ok.blt, ok.above, ok.inj, ok.has, ok.cab, ok.hd, ok.frames, ok.stk, ok.exf, ok.bs, ok.bsz, ok.noex, ok.exfs, ok.funs, ok.frf⟩
section
variable {X : Cx} {pins : List (Addr × Obj)} {σ : St} {H : Hp} {s : Shared} {E : Value → Shared → Prop}
theorem Inv.wish (I : Inv X pins σ H s) (E : Value → Shared → Prop) : Inv (X.wish E) pins σ H s := ⟨I.ok.wish E, I.os, I.bare, I.base, I.loc, I.cell, I.free, I.freeC, I.pin, I.hok, I.len⟩
theorem Inv.unwish (I : Inv (X.wish E) pins σ H s) : Inv X pins σ H s := ⟨I.ok.unwish, I.os, I.bare, I.base, I.loc, I.cell, I.free, I.freeC, I.pin, I.hok, I.len⟩
theorem SP.unwish {D : Ends} {f : Flow} {s' : Shared} (h : SP (X.wish E) pins D f s') : SP X pins D f s' := by
  cases f with
  | next => obtain ⟨σ', H', I, q⟩ := h; exact ⟨σ', H', I.unwish, q⟩
  | brk => obtain ⟨σ', H', I, q⟩ := h; exact ⟨σ', H', I.unwish, q⟩
  | cont => obtain ⟨σ', H', I, q⟩ := h; exact ⟨σ', H', I.unwish, q⟩
  | ret u => obtain ⟨v, σ', H', I, r, q⟩ := h; exact ⟨v, σ', H', I.unwish, r, q⟩
theorem PT.nox {e : Expr} {t : TT} (h : PT X.nox e t) : PT X e t := fun pins s σ H Q I hw =>
  wpAny_mono (h pins s σ H Q (I.wish _) hw) (fun _ _ ⟨H', I', q⟩ => ⟨H', I'.unwish, q⟩) fun _ _ z => False.elim z
theorem PSs.nox {st : List Stmt} {t : TS} (h : PSs X.nox st t) : PSs X st t := fun pins s σ H D I hw =>
  wpAny_mono (h pins s σ H D (I.wish _) hw) (fun _ _ q => q.unwish) fun _ _ z => False.elim z
end

section
variable {X : Cx} {st : Stmt} {rest : List Stmt} {t u : TS} {e : Expr} {te : TE} {pos : Pos}
def tNext : TS := fun D σ H => D.nx σ H
def tSeq (t u : TS) : TS := fun D σ H => t { D with nx := u D } σ H
theorem pss_nil : PSs X [] tNext := fun _ _ σ H _ I h => wpAny_execs_nil ⟨σ, H, I, h⟩
theorem pss_cons (h1 : PS X st t) (h2 : PSs X rest u) : PSs X (st :: rest) (tSeq t u) := by
  intro pins s σ H D I h
  refine wpAny_execs_cons (thn (h1 pins s σ H { D with nx := u D } I h) fun f s1 q => ?_)
  cases f with
  | next =>
    obtain ⟨σ', H', I', q⟩ := q
    exact h2 pins s1 σ' H' D I' q
  | ret v => exact q
  | brk => exact q
  | cont => exact q
theorem pss_one (h1 : PS X st t) : PSs X [st] t := by
  intro pins s σ H D I h
  refine wpAny_execs_cons (thn (h1 pins s σ H D I h) fun f s1 q => ?_)
  cases f with
  | next => exact wpAny_execs_nil q
  | ret v => exact q
  | brk => exact q
  | cont => exact q
def tBreak : TS := fun D σ H => D.bk σ H
theorem ps_break : PS X (.Break pos) tBreak := fun _ _ σ H _ I h => wpAny_Break ⟨σ, H, I, h⟩
/-- in a def's body nothing is shown -/
theorem Inv.quiet {pins : List (Addr × Obj)} {σ : St} {H : Hp} {s : Shared} (I : Inv X pins σ H s) : interactive X.env = false := by simp [interactive, I.ok.kind]
/-- an expression whose value is dropped -/
def tDrop (te : TE) : TS := fun D σ H => te σ H fun _ H1 => D.nx σ H1
theorem ps_expr (he : PE X e te) (hs : swapsWith e none pos.line X.env = pure false := by rfl) : PS X (.Expr e pos) (tDrop te) := by
  intro pins s σ H D I h
  exact wpAny_Expr_any (thn (he pins s σ H _ I h) fun v s1 ⟨x, H1, I1, r1, q1⟩ => ⟨σ, H1, I1, q1⟩) I.quiet hs
def tRet (te : TE) : TS := fun D σ H => te σ H D.rt
theorem ps_ret (he : PE X e te) : PS X (.Return (some e) pos) (tRet te) := by
  intro pins s σ H D I h
  exact wpAny_Return_some (thn (he pins s σ H _ I h) fun v s1 ⟨x, H1, I1, r1, q1⟩ => ⟨x, σ, H1, I1, r1, q1⟩)
def tIfS (c : TT) (t u : TS) : TS := fun D σ H => c σ H fun b H1 => if b = true then t D σ H1 else u D σ H1
theorem ps_if {c : Expr} {a b : List Stmt} {tc : TT} (hc : PT X c tc) (ha : PSs X a t) (hb : PSs X b u) : PS X (.If c a b pos) (tIfS tc t u) := by
  intro pins s σ H D I h
  refine wpAny_If (thn (hc pins s σ H _ I h) fun d s1 ⟨H1, I1, q1⟩ => ?_)
  cases d with
  | true => exact ha pins s1 σ H1 D I1 q1
  | false => exact hb pins s1 σ H1 D I1 q1
end

abbrev TG := V → St → Hp → (St → Hp → Prop) → Prop
abbrev TGs := List V → St → Hp → (St → Hp → Prop) → Prop
def PG (X : Cx) (target : Expr) (t : TG) : Prop :=
  ∀ (pins : List (Addr × Obj)) (s : Shared) (σ : St) (H : Hp) (v : V) (u : Value) (Q : St → Hp → Prop), Inv X pins σ H s → RelV v u → t v σ H Q →
    wpAny (model X.prog X.w) X.A (assign target X.env u) (fun _ s' => ∃ σ' H', Inv X pins σ' H' s' ∧ Q σ' H') X.xe s
/-- several targets, one after another -/
def PGs (X : Cx) (ts : List Expr) (t : TGs) : Prop :=
  ∀ (pins : List (Addr × Obj)) (s : Shared) (σ : St) (H : Hp) (vs : List V) (us : List Value) (Q : St → Hp → Prop), Inv X pins σ H s → Vals vs us → t vs σ H Q →
    wpAny (model X.prog X.w) X.A (assignInOrder ((assignEach ts X.env).map (·.2)) us) (fun _ s' => ∃ σ' H', Inv X pins σ' H' s' ∧ Q σ' H') X.xe s
section
variable {X : Cx} {pos : Pos}
def gName (i : Nat) : TG := fun v σ H Q => Q (σ.set i (some v)) H
theorem pg_name {i : Nat} {x : Str} (hN : X.N.Nodup) (hi : X.N[i]? = some x) (hx : Loc X.env.scope x) (hf : X.fn x = true ∨ X.env.scope.names.lookup x = some .local := by first | exact .inl rfl | exact .inr rfl | assumption) : PG X (.Name x pos) (gName i) := by
  intro pins s σ H v u Q I r h
  exact wpAny_assign_Name (store_ok I hN hi hx r (fun s' I' => ⟨_, H, I', h⟩) hf)
def gNil : TGs := fun vs σ H Q => vs = [] ∧ Q σ H
def gCons (t : TG) (u : TGs) : TGs := fun vs σ H Q => ∃ v r, vs = v :: r ∧ t v σ H fun σ' H' => u r σ' H' Q
theorem pgs_nil : PGs X [] gNil := by
  intro pins s σ H vs us Q I r h
  obtain ⟨e, h⟩ := h
  subst e
  cases r
  exact assignInOrder_nil ⟨σ, H, I, h⟩
theorem pgs_cons {e : Expr} {es : List Expr} {t : TG} {u : TGs} (h1 : PG X e t) (h2 : PGs X es u)
    (hs : (assignEach (e :: es) X.env).map (·.2) = assign e X.env :: (assignEach es X.env).map (·.2) := by rfl) : PGs X (e :: es) (gCons t u) := by
  intro pins s σ H vs us Q I r h
  obtain ⟨v, vr, e1, h⟩ := h
  subst e1
  cases r with
  | cons r rr =>
    rw [hs]
    refine assignInOrder_cons (thn (h1 pins s σ H _ _ _ I r h) fun _ s1 ⟨σ1, H1, I1, q1⟩ => ?_)
    exact h2 pins s1 σ1 H1 _ _ Q I1 rr q1
/-- (a, b, ..) = a tuple of that length -/
def gTup (K : PySem.W.Frag) (n : Nat) (t : TGs) : TG := fun v σ H Q => ∃ a xs, v = .ref a ∧ SqT K H a xs ∧ xs.length = n ∧ t xs σ H Q
theorem pg_tup {es : List Expr} {k : Nat} {t : TGs} {n : Nat} (hc : X.calm = true) (h : PGs X es t)
    (hn : (assignEach es X.env).length = n := by rfl) (hst : (assignEach es X.env).findIdx? (·.1) = none := by rfl) : PG X (.Tuple es k pos) (gTup X.K n t) := by
  intro pins s σ H v u Q I r hw
  obtain ⟨a, xs, e1, hq, hl, hw⟩ := hw
  subst e1
  cases r
  obtain ⟨its, rv, ht, hz⟩ := I.tuple hq
  refine assign_Tuple_tuple (I.ok.hd hc) ht (by simp [hn, ← hl, rv.length]) hst fun h' hx => ?_
  have I1 : Inv X pins σ H { s with heap := h' } := I.kept (t' := s.toks) fun b o e => hx b o (Nat.ne_of_lt (Heap.lt_size e)) e
  exact h pins _ σ H xs _ Q I1 (by simpa using rv) hw
/-- target = value -/
def tAsg (te : TE) (g : TG) : TS := fun D σ H => te σ H fun x H1 => g x σ H1 D.nx
theorem ps_asg {tg e : Expr} {te : TE} {g : TG} (he : PE X e te) (hg : PG X tg g) (hs : swapsWithSole [tg] e pos.line X.env = pure false := by rfl) (hw : swappedStores [tg] e X.env = pure none := by rfl)
    (h1 : (assignEach [tg] X.env).map (·.2) = [assign tg X.env] := by rfl) : PS X (.Assign [tg] e pos) (tAsg te g) := by
  intro pins s σ H D I h
  refine wpAny_Assign_stores (thn (he pins s σ H _ I h) fun v s1 ⟨x, H1, I1, r1, q1⟩ => ?_) hs hw
  rw [h1]
  exact thn (hg pins s1 σ H1 x v _ I1 r1 q1) fun _ s2 q => q
/-- name = value -/
theorem ps_set {i : Nat} {x : Str} {e : Expr} {te : TE} {pos' : Pos} (hN : X.N.Nodup) (hi : X.N[i]? = some x) (hx : Loc X.env.scope x) (he : PE X e te) (hs : swapsWith e (some (.Name x pos')) pos.line X.env = pure false := by rfl) (hf : X.fn x = true ∨ X.env.scope.names.lookup x = some .local := by first | exact .inl rfl | exact .inr rfl | assumption) :
    PS X (.Assign [.Name x pos'] e pos) (tAsg te (gName i)) := by
  intro pins s σ H D I h
  refine wpAny_Assign_Name (thn (he pins s σ H _ I h) fun v s1 ⟨y, H1, I1, r1, q1⟩ => ?_) hs
  exact store_ok I1 hN hi hx r1 (fun s2 I2 => ⟨_, H1, I2, q1⟩) hf
end

section
variable {X : Cx} {pos : Pos}
end

/-- at turn i: it yields x (the heap may grow), or it stops -/
structure It where
  go : Nat → Hp → Prop
  yld : Nat → Hp → V → Hp → Prop
  stop : Nat → Hp → Prop
/-- the iterator's own objects may turn: they are not the frame's, not pinned, younger than the entry (or a comprehension's own) -/
def FpOk (X : Cx) (pins : List (Addr × Obj)) (H : Hp) (b : Addr) : Prop :=
  H b = none ∧ b ≠ X.env.locals ∧ b ∉ X.fs ∧ (b ∈ X.ex ∨ X.s₀.heap.objs.size ≤ b) ∧ (∀ x c, X.env.cells.lookup x = some c → c ≠ b) ∧ ∀ p ∈ X.pn ++ pins, p.1 ≠ b
theorem Inv.fpOk {X : Cx} {pins : List (Addr × Obj)} {σ : St} {H H' : Hp} {s : Shared} {b : Addr} (I : Inv X pins σ H s) (hb : s.heap.objs.size ≤ b) (hn : H' b = none) : FpOk X pins H' b := by
  refine ⟨hn, Nat.ne_of_gt (Nat.lt_of_lt_of_le I.lt hb), I.nofs hb, .inr (Nat.le_trans I.sz hb), fun x c e z => ?_, fun p hp z => ?_⟩
  · obtain ⟨v, q⟩ := I.cell x c e
    exact absurd (Nat.lt_of_lt_of_le q.lt (by rw [z]; exact hb)) (Nat.lt_irrefl _)
  · exact absurd (Nat.lt_of_lt_of_le (Heap.lt_size (I.pin p hp).1) (by rw [z]; exact hb)) (Nat.lt_irrefl _)
structure Turn (P : Program) (w : World) (K : PySem.W.Frag) (tg : Expr) (J : It) (fp : List Addr) (it : Addr) (tn : Nat → Heap → Prop) : Prop where
  mem : it ∈ fp
  obj : ∀ i h, tn i h → ∀ b ∈ fp, ∃ o, h.get? b = some o ∧ ∀ v, o.data ≠ .cell v
  keep : ∀ i h h', tn i h → (∀ b ∈ fp, ∀ o, h.get? b = some o → h'.get? b = some o) → tn i h'
  item : ∀ (X : Cx), X.prog = P → X.w = w → X.K = K → X.calm = true → ∀ (i : Nat) (pins : List (Addr × Obj)) (s : Shared) (σ : St) (H : Hp) (E : Value → Shared → Prop), Inv X pins σ H s → (∀ b ∈ fp, FpOk X pins H b) → tn i s.heap → J.go i H →
    wpAny (model P w) X.A (pyNext (.ref it)) (fun r s1 => ∃ u, r = some u ∧
      wpAny (model P w) X.A (letOwnedTupleGo tg (.ref it) u) (fun _ s2 => ∃ x H', Inv X pins σ H' s2 ∧ RelV x u ∧ J.yld i H x H' ∧ tn (i + 1) s2.heap ∧ ∀ b ∈ fp, H' b = none) E s1) E s
  done : ∀ (X : Cx), X.prog = P → X.w = w → X.K = K → X.calm = true → ∀ (i : Nat) (pins : List (Addr × Obj)) (s : Shared) (σ : St) (H : Hp) (E : Value → Shared → Prop), Inv X pins σ H s → (∀ b ∈ fp, FpOk X pins H b) → tn i s.heap → J.stop i H →
    wpAny (model P w) X.A (pyNext (.ref it)) (fun r s1 => r = none ∧ Inv X pins σ H s1) E s
  self : ∀ (A : Around) (i : Nat) (s : Shared) (Q : Value → Shared → Prop) (E : Value → Shared → Prop), tn i s.heap → Q (.ref it) s → wpAny (model P w) A (pyIter (.ref it)) Q E s
abbrev TI := St → Hp → (It → Hp → Prop) → Prop
/-- an iterator has come -/
def PIE (X : Cx) (pins : List (Addr × Obj)) (σ : St) (tg : Expr) (R : It → Hp → Prop) (itv : Value) (s2 : Shared) : Prop :=
  ∃ (it : Addr) (fp : List Addr) (tn : Nat → Heap → Prop) (J : It) (H' : Hp), itv = .ref it ∧ Inv X pins σ H' s2 ∧ Turn X.prog X.w X.K tg J fp it tn ∧ tn 0 s2.heap ∧ (∀ b ∈ fp, FpOk X pins H' b) ∧ R J H'
def PI (X : Cx) (tg iter : Expr) (wi : TI) : Prop :=
  ∀ (pins : List (Addr × Obj)) (s : Shared) (σ : St) (H : Hp) (R : It → Hp → Prop), Inv X pins σ H s → wi σ H R →
    wpAny (model X.prog X.w) X.A (eval iter X.env) (fun v s1 => wpAny (model X.prog X.w) X.A (pyIter v) (PIE X pins σ tg R) X.xe s1) X.xe s

/-- the step ahead of the store is nothing for an iterator that keeps no tuple -/
theorem go_of {M : Model} {A : Around} {E : Value → Shared → Prop} {s : Shared} {tg : Expr} {it : Addr} {u : Value} {o : Obj} {n : String} {vs : Array Value} {Q : Unit → Shared → Prop} (ho : s.heap.get? it = some o) (hc : o.cls = .type n) (hd : o.data = .fields vs)
    (hn : ["enumerate", "zip", "dict_itemiterator", "dict_reverseitemiterator", "odict_iterator", "itertools.zip_longest", "itertools.pairwise"].contains n = false) (hQ : Q () s) : wpAny M A (letOwnedTupleGo tg (.ref it) u) Q E s := by
  unfold letOwnedTupleGo
  cases tg <;> first
    | exact wpAny_pure hQ
    | (cases u <;> first
        | exact wpAny_pure hQ
        | (refine wpAny_bind (wpAny_load ho ?_)
           rw [hc, hd]
           show wpAny M A (if (["enumerate", "zip", "dict_itemiterator", "dict_reverseitemiterator", "odict_iterator", "itertools.zip_longest", "itertools.pairwise"].contains n && vs[0]? == some (rawInt _)) = true then _ else _) Q E s
           rw [if_neg (by intro h; rw [hn, Bool.false_and] at h; cases h)]
           exact wpAny_pure hQ))

/-- the list at a, as it stands at each turn (a loop may append to it) -/
def Itl (K : PySem.W.Frag) (a : Addr) : It :=
  ⟨fun i H => ∃ xs x, SqL K H a xs ∧ xs[i]? = some x, fun i H x H' => H' = H ∧ ∀ xs, SqL K H a xs → xs[i]? = some x, fun i H => ∃ xs, SqL K H a xs ∧ xs.length ≤ i⟩
def Itt (K : PySem.W.Frag) (a : Addr) : It :=
  ⟨fun i H => ∃ xs x, SqT K H a xs ∧ xs[i]? = some x, fun i H x H' => H' = H ∧ ∀ xs, SqT K H a xs → xs[i]? = some x, fun i H => ∃ xs, SqT K H a xs ∧ xs.length ≤ i⟩
/-- lo, lo + 1, .. (n of them) -/
def Itr (lo : Int) (n : Nat) : It := ⟨fun i _ => i < n, fun i H x H' => H' = H ∧ x = .int (lo + i), fun i _ => n ≤ i⟩
theorem turn_list {P : Program} {w : World} {K : PySem.W.Frag} {tg : Expr} (a it : Addr) : Turn P w K tg (Itl K a) [it] it (fun i h => h.IsListIter it a i) where
  mem := by simp
  obj := fun i h st b hb => by
    have e : b = it := by simpa using hb
    subst e
    obtain ⟨o, e, c, d⟩ := st
    exact ⟨o, e, fun v z => by rw [d] at z; cases z⟩
  keep := fun i h h' st k => st.at fun o e => k it (by simp) o e
  item := by
    intro X hP hw hK hc i pins s σ H E I hf st hg
    subst hP hw hK
    obtain ⟨xs, x, hq, hx⟩ := hg
    obtain ⟨its, rv, p, hz⟩ := I.list hq
    obtain ⟨u, hu, ru⟩ := rv.get hx
    obtain ⟨f0, f1, f2, f3, f4, f5⟩ := hf it (by simp)
    refine wpAny_pyNext_list_item st p.isList (x := u) (by simpa using hu) fun h' st' sb => ?_
    have I1 : Inv X pins σ H { s with heap := h' } := I.turned (t' := s.toks) (fun b o hb e => (sb.2 b hb).trans e) f0 f1 f3 f4 f5
    obtain ⟨o, e, c, d⟩ := id st'
    exact ⟨u, rfl, go_of (s := { s with heap := h' }) e c d (by decide) ⟨x, H, I1, ru, ⟨rfl, fun ys hy => by rw [I.list_inj hy hq]; exact hx⟩, st', fun b hb => (hf b hb).1⟩⟩
  done := by
    intro X hP hw hK hc i pins s σ H E I hf st hg
    subst hP hw hK
    obtain ⟨xs, hq, hx⟩ := hg
    obtain ⟨its, rv, p, hz⟩ := I.list hq
    obtain ⟨f0, f1, f2, f3, f4, f5⟩ := hf it (by simp)
    have hl := rv.length
    exact wpAny_pyNext_list_end (I.ok.hd hc) st p.isList (by simp; omega) fun h' eb => ⟨rfl, I.turned (t' := s.toks) (fun b o hb e => eb b o hb e) f0 f1 f3 f4 f5⟩
  self := fun _ _ _ _ _ st h => wpAny_pyIter_listiter st h
theorem turn_tuple {P : Program} {w : World} {K : PySem.W.Frag} {tg : Expr} (a it : Addr) : Turn P w K tg (Itt K a) [it] it (fun i h => h.IsTupleIter it a i) where
  mem := by simp
  obj := fun i h st b hb => by
    have e : b = it := by simpa using hb
    subst e
    obtain ⟨o, e, c, d⟩ := st
    exact ⟨o, e, fun v z => by rw [d] at z; cases z⟩
  keep := fun i h h' st k => st.at fun o e => k it (by simp) o e
  item := by
    intro X hP hw hK hc i pins s σ H E I hf st hg
    subst hP hw hK
    obtain ⟨xs, x, hq, hx⟩ := hg
    obtain ⟨its, rv, p, hz⟩ := I.tuple hq
    obtain ⟨u, hu, ru⟩ := rv.get hx
    obtain ⟨f0, f1, f2, f3, f4, f5⟩ := hf it (by simp)
    refine wpAny_pyNext_tuple_item st (show s.heap.IsTuple a its.toArray from p) (x := u) (by simpa using hu) fun h' st' sb => ?_
    have I1 : Inv X pins σ H { s with heap := h' } := I.turned (t' := s.toks) (fun b o hb e => (sb.2 b hb).trans e) f0 f1 f3 f4 f5
    obtain ⟨o, e, c, d⟩ := id st'
    exact ⟨u, rfl, go_of (s := { s with heap := h' }) e c d (by decide) ⟨x, H, I1, ru, ⟨rfl, fun ys hy => by rw [I.tuple_inj hy hq]; exact hx⟩, st', fun b hb => (hf b hb).1⟩⟩
  done := by
    intro X hP hw hK hc i pins s σ H E I hf st hg
    subst hP hw hK
    obtain ⟨xs, hq, hx⟩ := hg
    obtain ⟨its, rv, p, hz⟩ := I.tuple hq
    obtain ⟨f0, f1, f2, f3, f4, f5⟩ := hf it (by simp)
    have hl := rv.length
    exact wpAny_pyNext_tuple_end (I.ok.hd hc) st (show s.heap.IsTuple a its.toArray from p) (by simp; omega) fun h' eb => ⟨rfl, I.turned (t' := s.toks) (fun b o hb e => eb b o hb e) f0 f1 f3 f4 f5⟩
  self := fun _ _ _ _ _ st h => wpAny_pyIter_tupleiter st h
theorem turn_range {P : Program} {w : World} {K : PySem.W.Frag} {tg : Expr} (it : Addr) (lo : Int) (n : Nat) : Turn P w K tg (Itr lo n) [it] it (fun i h => IsRangeIter h it (lo + (i : Nat) * 1) ((n : Int) - (i : Nat)) 1) where
  mem := by simp
  obj := fun i h st b hb => by
    have e : b = it := by simpa using hb
    subst e
    exact ⟨_, st, fun v z => by
      have z' : Data.fields _ = Data.cell v := z
      cases z'⟩
  keep := fun i h h' st k => k it (by simp) _ st
  item := by
    intro X hP hw hK hc i pins s σ H E I hf st hg
    subst hP hw hK
    obtain ⟨f0, f1, f2, f3, f4, f5⟩ := hf it (by simp)
    have W := Walks.range (prog := X.prog) (w := X.w) (I.ok.hd hc) it lo 1 n
    refine W.item i s _ _ hg st fun v h' tk hv st' kk => ?_
    obtain ⟨t, rfl⟩ := hv
    have I1 : Inv X pins σ H { s with heap := h', toks := tk } := I.turned (fun b o hb e => kk b o (by simpa using hb) e) f0 f1 f3 f4 f5
    refine ⟨_, rfl, go_of (s := { s with heap := h', toks := tk }) (n := "range_iterator") st' rfl rfl (by decide) ⟨.int (lo + i), H, I1, ⟨t, ?_⟩, ⟨rfl, rfl⟩, st', fun b hb => (hf b hb).1⟩⟩
    rw [Int.mul_one]
  done := by
    intro X hP hw hK hc i pins s σ H E I hf st hg
    subst hP hw hK
    obtain ⟨f0, f1, f2, f3, f4, f5⟩ := hf it (by simp)
    exact wpAny_pyNext_range_end (I.ok.hd hc) st (by have : n ≤ i := hg; omega) fun h' eb => ⟨rfl, I.turned (t' := s.toks) (fun b o hb e => eb b o hb e) f0 f1 f3 f4 f5⟩
  self := fun _ _ _ _ _ st h => wpAny_pyIter_rangeiter st h
end L2

namespace L2
open PySem PySem.Spec PyProof.Rows
section
variable {X : Cx} {tg : Expr}
/-- a range object just made, walked -/
theorem range_it {pins : List (Addr × Obj)} {σ : St} {H : Hp} {s : Shared} {R : It → Hp → Prop} {E : Value → Shared → Prop} {lo hi : Int} {t u v : Tok} {tk : Nat} (I : Inv X pins σ H s) (h1 : -(2 ^ 62) ≤ lo) (h2 : lo < 2 ^ 62) (h3 : -(2 ^ 62) ≤ hi) (h4 : hi < 2 ^ 62)
    (q : R (Itr lo (hi - lo).toNat) H) : wpAny (model X.prog X.w) X.A (pyIter (.ref s.heap.objs.size)) (PIE X pins σ tg R) E { s with heap := s.heap.push { cls := .type "range", data := .fields #[.int lo t, .int hi u, .int 1 v] }, toks := tk } := by
  refine wpAny_pyIter_range (IsRange.new ..) (small_one h1 h2 h3 h4) ?_
  have I1 : Inv X pins σ H { s with heap := s.heap.push { cls := .type "range", data := .fields #[.int lo t, .int hi u, .int 1 v] }, toks := tk } := I.kept fun b o e => Heap.get?_push_of_some _ e
  refine ⟨(s.heap.push { cls := .type "range", data := .fields #[.int lo t, .int hi u, .int 1 v] }).objs.size, [(s.heap.push { cls := .type "range", data := .fields #[.int lo t, .int hi u, .int 1 v] }).objs.size], _, _, H, rfl,
    I1.kept (t' := tk) fun b o e => Heap.get?_push_of_some _ e, turn_range _ lo (hi - lo).toNat, ?_, fun b hb => ?_, q⟩
  · have e1 : lo + ((0 : Nat) : Int) * 1 = lo := by simp
    have e2 : (((hi - lo).toNat : Nat) : Int) - ((0 : Nat) : Int) = Builtin.Range.rangeSize lo hi 1 := by rw [rangeSize_one]; split <;> omega
    show IsRangeIter _ _ (lo + ((0 : Nat) : Int) * 1) ((((hi - lo).toNat : Nat) : Int) - ((0 : Nat) : Int)) 1
    rw [e1, e2]
    exact Heap.get?_push_size _ rfl
  · have e : b = (s.heap.push { cls := .type "range", data := .fields #[.int lo t, .int hi u, .int 1 v] }).objs.size := by simpa using hb
    subst e
    exact I1.fpOk (Nat.le_refl _) (I1.hok.fresh (Nat.le_refl _))
def iRng1 (ta : TA) : TI := fun σ H R => ta σ H fun vs H1 => ∃ j : Int, vs = [.int j] ∧ -(2 ^ 62) ≤ j ∧ j < 2 ^ 62 ∧ R (Itr 0 j.toNat) H1
theorem pi_range1 {a : Expr} {ta : TA} {p pos : Pos} (hg : Gl X "range") (hm : X.mg "range" = none) (ha : PA X [a] ta) (hs : starEach [a] X.env = [(false, eval a X.env)] := by rfl) : PI X tg (.Call (.Name "range" p) [a] [] pos) (iRng1 ta) := by
  intro pins s σ H R I h
  refine Call_ (ld_blt I hg hm boot_range (PyProof.Rows.callWith_type1 (thn (ha pos pins s σ H _ I h) fun us s1 ⟨vs, H1, I1, r1, q1⟩ => ?_) hs rfl))
  obtain ⟨j, e, q1, q2, q⟩ := q1
  subst e
  cases r1 with
  | cons r rr =>
    cases rr
    obtain ⟨t, rfl⟩ := r
    exact call_range_1 (range_it I1 (by omega) (by omega) q1 q2 (by simpa using q))
/-- W: the invariant by the turn and a measure; N: what the body is to reach -/
def tFor (wi : TI) (g : TG) (tb : TS) : TS := fun D σ H => wi σ H fun J H1 => ∃ W : Nat → Nat → St → Hp → Prop, (∃ m, W 0 m σ H1) ∧ ∀ i m σ H, W i m σ H →
  (J.stop i H ∧ D.nx σ H) ∨ (J.go i H ∧ ∃ N : St → Hp → Prop, (∀ σ' H', N σ' H' → ∃ m', m' < m ∧ W (i + 1) m' σ' H') ∧ ∀ x H', J.yld i H x H' → g x σ H' fun σ2 H2 => tb { D with nx := N, ct := N, bk := D.nx } σ2 H2)
/-- the records at fp as they stand -/
def pinsAt (fp : List Addr) (h : Heap) : List (Addr × Obj) := fp.filterMap fun b => (h.get? b).map fun o => (b, o)
theorem mem_pinsAt {fp : List Addr} {h : Heap} {b : Addr} {o : Obj} (hb : b ∈ fp) (e : h.get? b = some o) : (b, o) ∈ pinsAt fp h := List.mem_filterMap.mpr ⟨b, hb, by rw [e]; rfl⟩
theorem of_pinsAt {fp : List Addr} {h : Heap} {p : Addr × Obj} (hp : p ∈ pinsAt fp h) : p.1 ∈ fp ∧ h.get? p.1 = some p.2 := by
  obtain ⟨b, hb, e⟩ := List.mem_filterMap.mp hp
  cases q : h.get? b with
  | none => rw [q] at e; cases e
  | some o =>
    rw [q] at e
    have e' : (b, o) = p := Option.some.inj e
    subst e'
    exact ⟨hb, q⟩
theorem Inv.pinned {pins : List (Addr × Obj)} {σ : St} {H : Hp} {s : Shared} {fp : List Addr} (I : Inv X pins σ H s) (hf : ∀ b ∈ fp, FpOk X pins H b) (ho : ∀ b ∈ fp, ∃ o, s.heap.get? b = some o ∧ ∀ v, o.data ≠ .cell v) : Inv X (pins ++ pinsAt fp s.heap) σ H s :=
  I.pins_of fun p hp => (List.mem_append.mp hp).elim (fun z => I.pin p (List.mem_append_right _ z)) fun z => by
    obtain ⟨hb, e⟩ := of_pinsAt z
    obtain ⟨f0, f1, f2, _⟩ := hf p.1 hb
    obtain ⟨o, e', d⟩ := ho p.1 hb
    rw [e] at e'; cases e'
    exact ⟨e, f0, f1, f2, d⟩
theorem Inv.unpinned {pins pl : List (Addr × Obj)} {σ : St} {H : Hp} {s : Shared} (I : Inv X (pins ++ pl) σ H s) : Inv X pins σ H s := I.pins_of fun p hp => I.pin p (List.mem_append_right _ (List.mem_append_left _ hp))
theorem ps_for {iter : Expr} {body : List Stmt} {wi : TI} {g : TG} {tb : TS} {pos : Pos} (hp : PassesOwn (model X.prog X.w) X.A X.env X.xe) (hc : X.calm = true) (hi : PI X tg iter wi) (hg : PG X tg g) (hb : PSs X body tb)
    (hs : ∀ x, foldedSetIterable iter X.env x = pure x := by intro _; rfl) : PS X (.For tg iter body [] pos) (tFor wi g tb) := by
  intro pins s σ H D I h
  refine wpAny_For (thn (hi pins s σ H _ I h) fun v s1 h1 => thn h1 fun itv s2 h2 => ?_) hs
  obtain ⟨it, fp, tn, J, H2, e, I2, T, st2, f2, W, ⟨m0, w0⟩, turn⟩ := h2
  subst e
  -- what stays true of the iterator's objects through the loop
  have stat : ∀ {H' : Hp}, (∀ b ∈ fp, H' b = none) → ∀ b ∈ fp, FpOk X pins H' b := fun hn b hb => ⟨hn b hb, (f2 b hb).2⟩
  refine codeAny_forLoop_any (fun n s' => ∃ i σ' H', Inv X pins σ' H' s' ∧ tn i s'.heap ∧ (∀ b ∈ fp, H' b = none) ∧ W i n σ' H') ?_ m0 ⟨0, σ, H2, I2, st2, fun b hb => (f2 b hb).1, w0⟩
  rintro n s3 ⟨i, σ3, H3, I3, st3, fr3, w3⟩
  rcases turn i n σ3 H3 w3 with ⟨stop, qn⟩ | ⟨go, N, hN, step⟩
  · refine wpAny_passesOwn hp (thn (T.done X rfl rfl rfl hc i pins s3 σ3 H3 X.xe I3 (stat fr3) st3 stop) fun r s4 ⟨hr, I4⟩ => ?_)
    subst hr
    exact wpAny_execs_nil ⟨σ3, H3, I4, qn⟩
  · refine wpAny_passesOwn hp (thn (T.item X rfl rfl rfl hc i pins s3 σ3 H3 X.xe I3 (stat fr3) st3 go) fun r s4 ⟨u, hr, h4⟩ => ?_)
    subst hr
    refine wpAny_passesOwn hp (thn h4 fun _ s5 ⟨x, H5, I5, r5, y5, st5, fr5⟩ => ?_)
    have I5' := I5.pinned (stat fr5) (T.obj _ _ st5)
    refine wpAny_passesOwn hp (thn (hg _ s5 σ3 H5 x u _ I5' r5 (step x H5 y5)) fun _ s6 ⟨σ6, H6, I6, q6⟩ => ?_)
    refine wpAny_passesOwn hp (thn (hb _ s6 σ6 H6 _ I6 q6) fun f s7 q7 => ?_)
    have again : ∀ {σ7 : St} {H7 : Hp}, Inv X (pins ++ pinsAt fp s5.heap) σ7 H7 s7 → N σ7 H7 → ∃ m, m < n ∧ ∃ i σ' H', Inv X pins σ' H' s7 ∧ tn i s7.heap ∧ (∀ b ∈ fp, H' b = none) ∧ W i m σ' H' := fun {σ7 H7} I7 n7 => by
      obtain ⟨m', hm, w7⟩ := hN σ7 H7 n7
      refine ⟨m', hm, i + 1, σ7, H7, I7.unpinned, T.keep _ _ _ st5 fun b hb o e => (I7.pin (b, o) (List.mem_append_right _ (List.mem_append_right _ (mem_pinsAt hb e)))).1, fun b hb => ?_, w7⟩
      obtain ⟨o, e, d⟩ := T.obj _ _ st5 b hb
      exact (I7.pin (b, o) (List.mem_append_right _ (List.mem_append_right _ (mem_pinsAt hb e)))).2.1
    cases f with
    | next => obtain ⟨σ7, H7, I7, n7⟩ := q7; exact again I7 n7
    | cont => obtain ⟨σ7, H7, I7, n7⟩ := q7; exact again I7 n7
    | brk => obtain ⟨σ7, H7, I7, q7⟩ := q7; exact ⟨σ7, H7, I7.unpinned, q7⟩
    | ret v => obtain ⟨x7, σ7, H7, I7, r7, q7⟩ := q7; exact ⟨x7, σ7, H7, I7.unpinned, r7, q7⟩
end

/-- over a list that the body leaves as it is -/
theorem for_list {K : PySem.W.Frag} {a : Addr} {xs : List V} {g : TG} {tb : TS} {D : Ends} {σ : St} {H : Hp} (Pv : Nat → St → Hp → Prop) (h0 : Pv 0 σ H) (hl : ∀ i σ H, i ≤ xs.length → Pv i σ H → SqL K H a xs)
    (hs : ∀ i x σ H, xs[i]? = some x → Pv i σ H → g x σ H fun σ2 H2 => tb { D with nx := Pv (i + 1), ct := Pv (i + 1), bk := D.nx } σ2 H2) (hd : ∀ σ H, Pv xs.length σ H → D.nx σ H) :
    ∃ W : Nat → Nat → St → Hp → Prop, (∃ m, W 0 m σ H) ∧ ∀ i m σ H, W i m σ H →
      ((Itl K a).stop i H ∧ D.nx σ H) ∨ ((Itl K a).go i H ∧ ∃ N : St → Hp → Prop, (∀ σ' H', N σ' H' → ∃ m', m' < m ∧ W (i + 1) m' σ' H') ∧ ∀ x H', (Itl K a).yld i H x H' → g x σ H' fun σ2 H2 => tb { D with nx := N, ct := N, bk := D.nx } σ2 H2) := by
  refine ⟨fun i m σ H => m = xs.length - i ∧ i ≤ xs.length ∧ Pv i σ H, ⟨xs.length, by simp, Nat.zero_le _, h0⟩, ?_⟩
  rintro i m σ H ⟨rfl, hi, p⟩
  have q := hl i σ H hi p
  by_cases hlt : i < xs.length
  · refine .inr ⟨⟨xs, xs[i], q, by simp [hlt]⟩, Pv (i + 1), fun σ' H' p' => ⟨xs.length - (i + 1), by omega, rfl, hlt, p'⟩, fun x H' y => ?_⟩
    obtain ⟨e, y⟩ := y
    subst e
    exact hs i x σ _ (y xs q) p
  · have e : i = xs.length := by omega
    subst e
    exact .inl ⟨⟨xs, q, Nat.le_refl _⟩, hd σ H p⟩
theorem for_tup {K : PySem.W.Frag} {a : Addr} {xs : List V} {g : TG} {tb : TS} {D : Ends} {σ : St} {H : Hp} (Pv : Nat → St → Hp → Prop) (h0 : Pv 0 σ H) (hl : ∀ i σ H, i ≤ xs.length → Pv i σ H → SqT K H a xs)
    (hs : ∀ i x σ H, xs[i]? = some x → Pv i σ H → g x σ H fun σ2 H2 => tb { D with nx := Pv (i + 1), ct := Pv (i + 1), bk := D.nx } σ2 H2) (hd : ∀ σ H, Pv xs.length σ H → D.nx σ H) :
    ∃ W : Nat → Nat → St → Hp → Prop, (∃ m, W 0 m σ H) ∧ ∀ i m σ H, W i m σ H →
      ((Itt K a).stop i H ∧ D.nx σ H) ∨ ((Itt K a).go i H ∧ ∃ N : St → Hp → Prop, (∀ σ' H', N σ' H' → ∃ m', m' < m ∧ W (i + 1) m' σ' H') ∧ ∀ x H', (Itt K a).yld i H x H' → g x σ H' fun σ2 H2 => tb { D with nx := N, ct := N, bk := D.nx } σ2 H2) := by
  refine ⟨fun i m σ H => m = xs.length - i ∧ i ≤ xs.length ∧ Pv i σ H, ⟨xs.length, by simp, Nat.zero_le _, h0⟩, ?_⟩
  rintro i m σ H ⟨rfl, hi, p⟩
  have q := hl i σ H hi p
  by_cases hlt : i < xs.length
  · refine .inr ⟨⟨xs, xs[i], q, by simp [hlt]⟩, Pv (i + 1), fun σ' H' p' => ⟨xs.length - (i + 1), by omega, rfl, hlt, p'⟩, fun x H' y => ?_⟩
    obtain ⟨e, y⟩ := y
    subst e
    exact hs i x σ _ (y xs q) p
  · have e : i = xs.length := by omega
    subst e
    exact .inl ⟨⟨xs, q, Nat.le_refl _⟩, hd σ H p⟩
theorem for_range {lo : Int} {n : Nat} {g : TG} {tb : TS} {D : Ends} {σ : St} {H : Hp} (Pv : Nat → St → Hp → Prop) (h0 : Pv 0 σ H)
    (hs : ∀ i σ H, i < n → Pv i σ H → g (.int (lo + i)) σ H fun σ2 H2 => tb { D with nx := Pv (i + 1), ct := Pv (i + 1), bk := D.nx } σ2 H2) (hd : ∀ σ H, Pv n σ H → D.nx σ H) :
    ∃ W : Nat → Nat → St → Hp → Prop, (∃ m, W 0 m σ H) ∧ ∀ i m σ H, W i m σ H →
      ((Itr lo n).stop i H ∧ D.nx σ H) ∨ ((Itr lo n).go i H ∧ ∃ N : St → Hp → Prop, (∀ σ' H', N σ' H' → ∃ m', m' < m ∧ W (i + 1) m' σ' H') ∧ ∀ x H', (Itr lo n).yld i H x H' → g x σ H' fun σ2 H2 => tb { D with nx := N, ct := N, bk := D.nx } σ2 H2) := by
  refine ⟨fun i m σ H => m = n - i ∧ i ≤ n ∧ Pv i σ H, ⟨n, by simp, Nat.zero_le _, h0⟩, ?_⟩
  rintro i m σ H ⟨rfl, hi, p⟩
  by_cases hlt : i < n
  · refine .inr ⟨hlt, Pv (i + 1), fun σ' H' p' => ⟨n - (i + 1), by omega, rfl, hlt, p'⟩, fun x H' y => ?_⟩
    obtain ⟨e, y⟩ := y
    subst e y
    exact hs i σ _ hlt p
  · have e : i = n := by omega
    subst e
    exact .inl ⟨Nat.le_refl _, hd σ H p⟩
end L2

namespace L2
open PySem PySem.Spec PyProof.Rows

abbrev R2 := V → V → Hp → VK → Prop
/-- a two-place operation on values: f is binaryOp op, inplaceOp op or compareOp op -/
def OpR (X : Cx) (f : Value → Value → Sem Value) (r : R2) : Prop :=
  ∀ (pins : List (Addr × Obj)) (s : Shared) (σ : St) (H : Hp) (x y : V) (v u : Value) (Q : VK), Inv X pins σ H s → RelV x v → RelV y u → r x y H Q →
    wpAny (model X.prog X.w) X.A (f v u) (EP X pins σ Q) X.xe s
/-- a one-place operation -/
def UnR (X : Cx) (f : Value → Sem Value) (r : V → Hp → VK → Prop) : Prop :=
  ∀ (pins : List (Addr × Obj)) (s : Shared) (σ : St) (H : Hp) (x : V) (v : Value) (Q : VK), Inv X pins σ H s → RelV x v → r x H Q →
    wpAny (model X.prog X.w) X.A (f v) (EP X pins σ Q) X.xe s
/-- a call of a value that is known (a builtin, a type) with values -/
def CallR (X : Cx) (f : Value) (r : List V → Hp → VK → Prop) : Prop :=
  ∀ (pins : List (Addr × Obj)) (s : Shared) (σ : St) (H : Hp) (xs : List V) (us : List Value) (Q : VK), Inv X pins σ H s → Vals xs us → r xs H Q →
    wpAny (model X.prog X.w) X.A (call f us) (EP X pins σ Q) X.xe s
/-- a value's truth -/
def TruR (X : Cx) (r : V → Hp → (Bool → Hp → Prop) → Prop) : Prop :=
  ∀ (pins : List (Addr × Obj)) (s : Shared) (σ : St) (H : Hp) (x : V) (v : Value) (Q : Bool → Hp → Prop), Inv X pins σ H s → RelV x v → r x H Q →
    wpAny (model X.prog X.w) X.A (truthy v) (TP X pins σ Q) X.xe s

def tOp (r : R2) (ta tb : TE) : TE := fun σ H Q => ta σ H fun x H1 => tb σ H1 fun y H2 => r x y H2 Q
def tUn (r : V → Hp → VK → Prop) (ta : TE) : TE := fun σ H Q => ta σ H fun x H1 => r x H1 Q
/-- ints in, under C, and a value out -/
def rI (C : Int → Int → Prop) (g : Int → Int → V) : R2 := fun x y H Q => ∃ i j, x = .int i ∧ y = .int j ∧ C i j ∧ Q (g i j) H
def rI0 (g : Int → Int → V) : R2 := fun x y H Q => ∃ i j, x = .int i ∧ y = .int j ∧ Q (g i j) H
def rU (g : Int → V) : V → Hp → VK → Prop := fun x H Q => ∃ i, x = .int i ∧ Q (g i) H

section
variable {X : Cx} {a b c : Expr} {ta tb tc : TE} {pos : Pos}

theorem binT (ha : PE X a ta) (hb : PE X b tb) {pins : List (Addr × Obj)} {s : Shared} {σ : St} {H : Hp} {R : V → V → Hp → Prop} (I : Inv X pins σ H s)
    (h : ta σ H fun x H1 => tb σ H1 fun y H2 => R x y H2) {Q : Value → Shared → Prop} {f : Value → Value → Sem Value}
    (hf : ∀ v u s2 x y H2, Inv X pins σ H2 s2 → RelV x v → RelV y u → R x y H2 → wpAny (model X.prog X.w) X.A (f v u) Q X.xe s2) :
    wpAny (model X.prog X.w) X.A (eval a X.env) (fun v s₁ => wpAny (model X.prog X.w) X.A (eval b X.env) (fun u s₂ => wpAny (model X.prog X.w) X.A (f v u) Q X.xe s₂) X.xe s₁) X.xe s := by
  refine thn (ha pins s σ H _ I h) fun v s1 ⟨x, H1, I1, r1, q1⟩ => ?_
  refine thn (hb pins s1 σ H1 _ I1 q1) fun u s2 ⟨y, H2, I2, r2, q2⟩ => ?_
  exact hf v u s2 x y H2 I2 r1 r2 q2

theorem pe_op {op : Operator} {r : R2} (ho : OpR X (binaryOp op) r) (ha : PE X a ta) (hb : PE X b tb) : PE X (.BinOp a op b pos) (tOp r ta tb) := by
  intro pins s σ H Q I h
  exact wpAny_BinOp (binT ha hb I h fun v u s2 x y H2 I2 rx ry q => ho pins s2 σ H2 x y v u Q I2 rx ry q)
theorem pe_un {op : UnaryOp} {r : V → Hp → VK → Prop} (ho : UnR X (unaryOp op) r) (ha : PE X a ta) : PE X (.UnaryOp op a pos) (tUn r ta) := by
  intro pins s σ H Q I h
  exact UnaryOp_ (thn (ha pins s σ H _ I h) fun v s1 ⟨x, H1, I1, r1, q1⟩ => ho pins s1 σ H1 x v Q I1 r1 q1)
theorem opI {f : Value → Value → Sem Value} {C : Int → Int → Prop} {g : Int → Int → Int}
    (rule : ∀ (i j : Int) (t u : Tok) (s : Shared) (Q : Value → Shared → Prop) (E : Value → Shared → Prop), C i j → Q (.int (g i j) s.toks) { s with toks := s.toks + 1 } → wpAny (model X.prog X.w) X.A (f (.int i t) (.int j u)) Q E s) :
    OpR X f (rI C fun i j => .int (g i j)) := by
  intro pins s σ H x y v u Q I rx ry h
  obtain ⟨i, j, rfl, rfl, hc, q⟩ := h
  obtain ⟨t, rfl⟩ := rx
  obtain ⟨t', rfl⟩ := ry
  exact rule i j t t' s _ _ hc ⟨.int (g i j), H, I.tok _, ⟨_, rfl⟩, q⟩
theorem opI0 {f : Value → Value → Sem Value} {g : Int → Int → Int}
    (rule : ∀ (i j : Int) (t u : Tok) (s : Shared) (Q : Value → Shared → Prop) (E : Value → Shared → Prop), Q (.int (g i j) s.toks) { s with toks := s.toks + 1 } → wpAny (model X.prog X.w) X.A (f (.int i t) (.int j u)) Q E s) :
    OpR X f (rI0 fun i j => .int (g i j)) := by
  intro pins s σ H x y v u Q I rx ry h
  obtain ⟨i, j, rfl, rfl, q⟩ := h
  obtain ⟨t, rfl⟩ := rx
  obtain ⟨t', rfl⟩ := ry
  exact rule i j t t' s _ _ ⟨.int (g i j), H, I.tok _, ⟨_, rfl⟩, q⟩
theorem opB0 {f : Value → Value → Sem Value} {g : Int → Int → Bool}
    (rule : ∀ (i j : Int) (t u : Tok) (s : Shared) (Q : Value → Shared → Prop) (E : Value → Shared → Prop), Q (.bool (g i j)) s → wpAny (model X.prog X.w) X.A (f (.int i t) (.int j u)) Q E s) :
    OpR X f (rI0 fun i j => .bl (g i j)) := by
  intro pins s σ H x y v u Q I rx ry h
  obtain ⟨i, j, rfl, rfl, q⟩ := h
  obtain ⟨t, rfl⟩ := rx
  obtain ⟨t', rfl⟩ := ry
  exact rule i j t t' s _ _ ⟨.bl (g i j), H, I, rfl, q⟩

def CPow (i j : Int) : Prop := 0 ≤ j ∧ j ≤ 1000000 ∧ i.natAbs < 2 ^ 64
def CMul (i j : Int) : Prop := (-(2 ^ 64) < i ∧ i < 2 ^ 64) ∨ (-(2 ^ 64) < j ∧ j < 2 ^ 64)
theorem CMul.ok {i j : Int} (h : CMul i j) : IntMulOk i j := by
  rcases h with ⟨h1, h2⟩ | ⟨h1, h2⟩
  · exact .of_left (intBits_le_64 h1 h2)
  · exact .of_right (intBits_le_64 h1 h2)
theorem two_pow_nn (k : Nat) : (0 : Int) ≤ 2 ^ k := by
  rw [two_pow_cast]
  exact Int.natCast_nonneg _

theorem op_add : OpR X (binaryOp .Add) (rI0 fun i j => .int (i + j)) := opI0 fun _ _ _ _ _ _ _ q => add_int q
theorem op_sub : OpR X (binaryOp .Sub) (rI0 fun i j => .int (i - j)) := opI0 fun _ _ _ _ _ _ _ q => sub_int q
theorem op_mul : OpR X (binaryOp .Mult) (rI CMul fun i j => .int (i * j)) := opI fun _ _ _ _ _ _ _ hc q => mul_int q hc.ok
/-- % by a positive divisor of any size -/
theorem op_mod : OpR X (binaryOp .Mod) (rI (fun _ j => 0 < j) fun i j => .int (i % j)) := opI fun i j _ _ _ _ _ hc q => by
  have h1 : (0 : Int) < j := hc
  exact mod_int' (by omega) (by rw [Int.fmod_eq_emod_of_nonneg i (by omega)]; exact q)
theorem op_pow : OpR X (binaryOp .Pow) (rI CPow fun i j => .int (i ^ j.toNat)) := opI fun _ _ _ _ _ _ _ hc q => pow_int_small hc.1 hc.2.1 hc.2.2 q
theorem op_shl : OpR X (binaryOp .LShift) (rI CPow fun i j => .int (i * 2 ^ j.toNat)) := opI fun _ _ _ _ _ _ _ hc q => lshift_int_small hc.1 hc.2.1 hc.2.2 q
theorem op_shr : OpR X (binaryOp .RShift) (rI (fun _ j => 0 ≤ j) fun i j => .int (i / 2 ^ j.toNat)) := opI fun i j _ _ _ _ _ hc q =>
  rshift_int hc (by rw [Int.fdiv_eq_ediv_of_nonneg i (two_pow_nn _)]; exact q)
theorem op_and : OpR X (binaryOp .BitAnd) (rI0 fun i j => .int (Builtin.bitAnd i j)) := opI0 fun _ _ _ _ _ _ _ q => and_int q
theorem op_or : OpR X (binaryOp .BitOr) (rI0 fun i j => .int (Builtin.bitOr i j)) := opI0 fun _ _ _ _ _ _ _ q => or_int q
theorem unI {f : Value → Sem Value} {g : Int → Int}
    (rule : ∀ (i : Int) (t : Tok) (s : Shared) (Q : Value → Shared → Prop) (E : Value → Shared → Prop), Q (.int (g i) s.toks) { s with toks := s.toks + 1 } → wpAny (model X.prog X.w) X.A (f (.int i t)) Q E s) :
    UnR X f (rU fun i => .int (g i)) := by
  intro pins s σ H x v Q I rx h
  obtain ⟨i, rfl, q⟩ := h
  obtain ⟨t, rfl⟩ := rx
  exact rule i t s _ _ ⟨.int (g i), H, I.tok _, ⟨_, rfl⟩, q⟩
theorem un_neg : UnR X (unaryOp .USub) (rU fun i => .int (-i)) := unI fun _ _ _ _ _ q => neg_int q
theorem un_inv : UnR X (unaryOp .Invert) (rU fun i => .int (Builtin.bitNot i)) := unI fun _ _ _ _ _ q => invert_int q

end

/-- the scalars that == tells apart as data does -/
def scal : V → V → Bool
  | .non, .non => true | .non, .int _ => true | .int _, .non => true | .non, .bl _ => true | .bl _, .non => true | .non, .str _ => true | .str _, .non => true
  | .int _, .int _ => true | .bl _, .bl _ => true | .str _, .str _ => true | .byt _, .byt _ => true
  | .int _, .str _ => true | .str _, .int _ => true | .bl _, .str _ => true | .str _, .bl _ => true
  | _, _ => false
def rEq : R2 := fun x y H Q => scal x y = true ∧ Q (.bl (decide (x = y))) H
def rNe : R2 := fun x y H Q => scal x y = true ∧ Q (.bl (!decide (x = y))) H

theorem dec_int {i j : Int} : decide (V.int i = V.int j) = (i == j) := by
  rw [Bool.eq_iff_iff]
  simp
theorem dec_bl {i j : Bool} : decide (V.bl i = V.bl j) = (i == j) := by
  rw [Bool.eq_iff_iff]
  simp
theorem dec_str {i j : Str} : decide (V.str i = V.str j) = (i == j) := by
  rw [Bool.eq_iff_iff]
  simp
theorem dec_byt {i j : Array UInt8} : decide (V.byt i = V.byt j) = (i.toList == j.toList) := by
  rw [Bool.eq_iff_iff]
  cases i
  cases j
  simp

section
variable {X : Cx} {a b c : Expr} {ta tb tc : TE} {pos : Pos}
theorem fin_bl {pins : List (Addr × Obj)} {σ : St} {H : Hp} {s : Shared} {Q : VK} {k k' : Bool} (I : Inv X pins σ H s) (q : Q (.bl k) H) (e : k = k') : EP X pins σ Q (.bool k') s := by
  subst e
  exact ⟨.bl k, H, I, rfl, q⟩
theorem op_eq : OpR X (compareOp .Eq) rEq := by
  intro pins s σ H x y v u Q I rx ry h
  obtain ⟨hs, q⟩ := h
  cases x with
  | non =>
    cases rx
    cases y with
    | non => cases ry; exact PySem.EqNone.eq_none_none (fin_bl I q (by simp))
    | bl j => cases ry; exact PySem.EqNone.eq_none_bool (fin_bl I q (by simp))
    | int j => obtain ⟨t', rfl⟩ := ry; exact PySem.EqNone.eq_none_int (fin_bl I q (by simp))
    | str j => obtain ⟨t', rfl⟩ := ry; exact PySem.EqNone.eq_none_str (fin_bl I q (by simp))
    | _ => exact absurd (show false = true from hs) Bool.false_ne_true
  | bl i =>
    cases rx
    cases y with
    | non => cases ry; exact PySem.EqNone.eq_bool_none (fin_bl I q (by simp))
    | bl j => cases ry; exact eq_bool (fin_bl I q dec_bl)
    | str j => obtain ⟨t', rfl⟩ := ry; exact PySem.EqMixed.eq_bool_str (fin_bl I q (by simp))
    | _ => exact absurd (show false = true from hs) Bool.false_ne_true
  | int i =>
    obtain ⟨t, rfl⟩ := rx
    cases y with
    | non => cases ry; exact PySem.EqNone.eq_int_none (fin_bl I q (by simp))
    | int j => obtain ⟨t', rfl⟩ := ry; exact eq_int (fin_bl I q dec_int)
    | str j => obtain ⟨t', rfl⟩ := ry; exact PySem.EqMixed.eq_int_str (fin_bl I q (by simp))
    | _ => exact absurd (show false = true from hs) Bool.false_ne_true
  | str i =>
    obtain ⟨t, rfl⟩ := rx
    cases y with
    | non => cases ry; exact PySem.EqNone.eq_str_none (fin_bl I q (by simp))
    | bl j => cases ry; exact PySem.EqMixed.eq_str_bool (fin_bl I q (by simp))
    | int j => obtain ⟨t', rfl⟩ := ry; exact PySem.EqMixed.eq_str_int (fin_bl I q (by simp))
    | str j => obtain ⟨t', rfl⟩ := ry; exact eq_str (fin_bl I q dec_str)
    | _ => exact absurd (show false = true from hs) Bool.false_ne_true
  | byt i =>
    obtain ⟨t, rfl⟩ := rx
    cases y with
    | byt j => obtain ⟨t', rfl⟩ := ry; exact PySem.W.eq_bytes (fin_bl I q dec_byt)
    | _ => exact absurd (show false = true from hs) Bool.false_ne_true
  | _ => cases y <;> exact absurd (show false = true from hs) Bool.false_ne_true
theorem op_ne : OpR X (compareOp .NotEq) rNe := by
  intro pins s σ H x y v u Q I rx ry h
  obtain ⟨hs, q⟩ := h
  cases x with
  | non =>
    cases rx
    cases y with
    | non => cases ry; exact PySem.EqNone.ne_none_none (fin_bl I q (by simp))
    | bl j => cases ry; exact PySem.EqNone.ne_none_bool (fin_bl I q (by simp))
    | int j => obtain ⟨t', rfl⟩ := ry; exact PySem.EqNone.ne_none_int (fin_bl I q (by simp))
    | str j => obtain ⟨t', rfl⟩ := ry; exact PySem.EqNone.ne_none_str (fin_bl I q (by simp))
    | _ => exact absurd (show false = true from hs) Bool.false_ne_true
  | bl i =>
    cases rx
    cases y with
    | non => cases ry; exact PySem.EqNone.ne_bool_none (fin_bl I q (by simp))
    | bl j => cases ry; exact ne_bool (fin_bl I q (congrArg not dec_bl))
    | str j => obtain ⟨t', rfl⟩ := ry; exact PySem.EqMixed.ne_bool_str (fin_bl I q (by simp))
    | _ => exact absurd (show false = true from hs) Bool.false_ne_true
  | int i =>
    obtain ⟨t, rfl⟩ := rx
    cases y with
    | non => cases ry; exact PySem.EqNone.ne_int_none (fin_bl I q (by simp))
    | int j => obtain ⟨t', rfl⟩ := ry; exact ne_int (fin_bl I q (congrArg not dec_int))
    | str j => obtain ⟨t', rfl⟩ := ry; exact PySem.EqMixed.ne_int_str (fin_bl I q (by simp))
    | _ => exact absurd (show false = true from hs) Bool.false_ne_true
  | str i =>
    obtain ⟨t, rfl⟩ := rx
    cases y with
    | non => cases ry; exact PySem.EqNone.ne_str_none (fin_bl I q (by simp))
    | bl j => cases ry; exact PySem.EqMixed.ne_str_bool (fin_bl I q (by simp))
    | int j => obtain ⟨t', rfl⟩ := ry; exact PySem.EqMixed.ne_str_int (fin_bl I q (by simp))
    | str j => obtain ⟨t', rfl⟩ := ry; exact ne_str (fin_bl I q (congrArg not dec_str))
    | _ => exact absurd (show false = true from hs) Bool.false_ne_true
  | byt i =>
    obtain ⟨t, rfl⟩ := rx
    cases y with
    | byt j => obtain ⟨t', rfl⟩ := ry; exact PySem.W.ne_bytes (fin_bl I q (congrArg not dec_byt))
    | _ => exact absurd (show false = true from hs) Bool.false_ne_true
  | _ => cases y <;> exact absurd (show false = true from hs) Bool.false_ne_true

theorem op_lt : OpR X (compareOp .Lt) (rI0 fun i j => .bl (decide (i < j))) := opB0 fun _ _ _ _ _ _ _ q => lt_int q
theorem op_gt : OpR X (compareOp .Gt) (rI0 fun i j => .bl (decide (j < i))) := opB0 fun _ _ _ _ _ _ _ q => gt_int q
theorem op_ge : OpR X (compareOp .GtE) (rI0 fun i j => .bl (decide (j ≤ i))) := opB0 fun _ _ _ _ _ _ _ q => ge_int q
/-- is None, is not None: the right side a value none -/
theorem op_isN : OpR X (compareOp .Is) (fun x y H Q => y = .non ∧ Q (.bl (decide (x = .non))) H) := by
  intro pins s σ H x y v u Q I rx ry h
  obtain ⟨rfl, q⟩ := h
  cases ry
  refine is_none_gen (fin_bl I q ?_)
  cases x <;> first
    | (cases rx; rfl)
    | (obtain ⟨t, rfl⟩ := rx; rfl)
/-- two rules for one operation: by cases -/
theorem OpR.or {f : Value → Value → Sem Value} {r r' : R2} (h : OpR X f r) (h' : OpR X f r') : OpR X f (fun x y H Q => r x y H Q ∨ r' x y H Q) := by
  intro pins s σ H x y v u Q I rx ry q
  rcases q with q | q
  · exact h pins s σ H x y v u Q I rx ry q
  · exact h' pins s σ H x y v u Q I rx ry q

theorem nomark (b : Expr) {op : CmpOp} (h : op ≠ .In := by decide) (h2 : op ≠ .NotIn := by decide) : behindInMarks op b = false := by
  have e1 : (op == CmpOp.In) = false := by cases op <;> first | rfl | exact absurd rfl h
  have e2 : (op == CmpOp.NotIn) = false := by cases op <;> first | rfl | exact absurd rfl h2
  cases b <;> simp [behindInMarks, e1, e2]
/-- a comparison as a value; hm: nomark b, or (for in, not in) by with_unfolding_all rfl -/
theorem pe_cmpR {op : CmpOp} {r : R2} (ho : OpR X (compareOp op) r) (ha : PE X a ta) (hb : PE X b tb) (hm : behindInMarks op b = false) : PE X (.Compare a [op] [b] pos) (tOp r ta tb) := by
  intro pins s σ H Q I h
  exact wpAny_Compare1 (binT ha hb I h fun v u s2 x y H2 I2 rx ry q => ho pins s2 σ H2 x y v u Q I2 rx ry q) hm
/-- a reading of a value as a test -/
def tTest (t : TE) : TT := fun σ H Q => t σ H fun x H' => ∃ k, x = .bl k ∧ Q k H'
theorem pt_cmpR {op : CmpOp} {r : R2} (ho : OpR X (compareOp op) r) (ha : PE X a ta) (hb : PE X b tb) (hm : behindInMarks op b = false) : PT X (.Compare a [op] [b] pos) (tTest (tOp r ta tb)) := by
  intro pins s σ H Q I h
  refine wpAny_isTrue_Compare1 (thn (ha pins s σ H _ I h) fun v s1 ⟨x, H1, I1, r1, q1⟩ => thn (hb pins s1 σ H1 _ I1 q1) fun u s2 ⟨y, H2, I2, r2, q2⟩ =>
    thn (ho pins s2 σ H2 x y v u _ I2 r1 r2 q2) fun c s3 ⟨z, H3, I3, r3, k, e, q3⟩ => ?_) hm
  subst e
  cases r3
  exact wpAny_truthy_bool ⟨H3, I3, q3⟩
/-- a value's truth by the abstract heap -/
def TruV (K : PySem.W.Frag) (x : V) (H : Hp) (k : Bool) : Prop :=
  match x with
  | .non => k = false
  | .bl b => k = b
  | .int i => k = (i != 0)
  | .str y => y.length ≤ sizeLine ∧ k = ((y.length : Int) != 0)
  | .byt y => y.size ≤ sizeLine ∧ k = ((y.size : Int) != 0)
  | .ref p => (∃ xs, SqL K H p xs ∧ k = !xs.isEmpty) ∨ (∃ xs, SqT K H p xs ∧ k = !xs.isEmpty) ∨ ∃ kvs, H p = some (.dK kvs) ∧ k = !kvs.isEmpty
  | _ => False
theorem isEmpty_kv {κ : Type} {kvs : List (κ × V)} {vs : List (κ × Value)} (r : KV kvs vs) : (!vs.isEmpty) = !kvs.isEmpty := by
  cases r <;> rfl
theorem isEmpty_of {xs : List V} {its : List Value} (r : Vals xs its) : (!its.toArray.isEmpty) = !xs.isEmpty := by
  cases r <;> simp
theorem line63 : (sizeLine : Nat) < 2 ^ 63 := by rw [sizeLine_eq]; decide
theorem tru_ok : TruR X (fun x H Q => ∃ k, TruV X.K x H k ∧ Q k H) := by
  intro pins s σ H x v Q I rx h
  obtain ⟨k, e, q⟩ := h
  have hl := line63
  have hs : sizeLine = 16777216 := sizeLine_eq
  cases x with
  | non =>
    cases rx
    have e' : k = false := e
    subst e'
    exact truthy_none ⟨H, I, q⟩
  | bl b =>
    cases rx
    have e' : k = b := e
    subst e'
    exact wpAny_truthy_bool ⟨H, I, q⟩
  | int i =>
    obtain ⟨t, rfl⟩ := rx
    have e' : k = (i != 0) := e
    subst e'
    exact PySem.P.truthy_int ⟨H, I, q⟩
  | str y =>
    obtain ⟨t, rfl⟩ := rx
    obtain ⟨hy, e'⟩ : y.length ≤ sizeLine ∧ k = ((y.length : Int) != 0) := e
    subst e'
    exact PySem.P.truthy_str (by omega) ⟨H, I.tok _, q⟩
  | byt y =>
    obtain ⟨t, rfl⟩ := rx
    obtain ⟨hy, e'⟩ : y.size ≤ sizeLine ∧ k = ((y.size : Int) != 0) := e
    subst e'
    exact PySem.W.truthy_bytes (by omega) ⟨H, I.tok _, q⟩
  | ref p =>
    cases rx
    have e' : (∃ xs, SqL X.K H p xs ∧ k = !xs.isEmpty) ∨ (∃ xs, SqT X.K H p xs ∧ k = !xs.isEmpty) ∨ ∃ kvs, H p = some (.dK kvs) ∧ k = !kvs.isEmpty := e
    rcases e' with ⟨xs, hx, e'⟩ | ⟨xs, hx, e'⟩ | ⟨kvs, hx, e'⟩
    · subst e'
      obtain ⟨its, r, pl, hz⟩ := I.list hx
      have hlen := r.length
      exact wpAny_truthy_list pl.isList (by simp only [List.size_toArray]; omega) ⟨H, I.tok _, by rw [isEmpty_of r]; exact q⟩
    · subst e'
      obtain ⟨its, r, pl, hz⟩ := I.tuple hx
      have hlen := r.length
      exact truthy_tuple pl (by simp only [List.size_toArray]; omega) ⟨H, I.tok _, by rw [isEmpty_of r]; exact q⟩
    · subst e'
      obtain ⟨hz, hS, vs, r, m⟩ : kvs.length ≤ sizeLine ∧ (p == sysModules) = false ∧ ∃ vs, KV kvs vs ∧ s.heap.DictOf (mixKind X.prog X.w) p vs := I.hok p _ hx
      have hlen : kvs.length = vs.length := Paired.length r
      exact wpAny_truthy_dict hS m (by omega) ⟨H, I.tok _, by rw [isEmpty_kv r]; exact q⟩
  | _ => exact (show False from e).elim
/-- any expression whose test is its value's truth (a name, a call, a subscript, a field ..: he by fun _ => rfl) -/
theorem pt_truth (ha : PE X a ta) (he : ∀ whole, isTrue a X.env whole = (do let v ← whole; standAt a.pos; holding [v] (truthy v))) :
    PT X a (fun σ H Q => ta σ H fun x H' => ∃ k, TruV X.K x H' k ∧ Q k H') := by
  intro pins s σ H Q I h
  exact isTrue_plain (thn (ha pins s σ H _ I h) fun v s1 ⟨x, H1, I1, r1, q1⟩ => tru_ok pins s1 σ H1 x v Q I1 r1 q1) (he _)

theorem op_add_str : OpR X (binaryOp .Add) (fun x y H Q => ∃ i j, x = .str i ∧ y = .str j ∧ i.length + j.length ≤ sizeLine ∧ Q (.str (i ++ j)) H) := by
  intro pins s σ H x y v u Q I rx ry h
  obtain ⟨i, j, rfl, rfl, hz, q⟩ := h
  obtain ⟨t, rfl⟩ := rx
  obtain ⟨t', rfl⟩ := ry
  exact add_str (fun t' tk => ⟨.str (i ++ j), H, I.tok _, ⟨_, rfl⟩, q⟩) hz
theorem vals1 {x : V} {us : List Value} (r : Vals [x] us) : ∃ u, us = [u] ∧ RelV x u := by
  cases r with
  | cons r1 r2 => cases r2; exact ⟨_, rfl, r1⟩
theorem vals2 {x y : V} {us : List Value} (r : Vals [x, y] us) : ∃ u w', us = [u, w'] ∧ RelV x u ∧ RelV y w' := by
  cases r with
  | cons r1 r2 =>
    cases r2 with
    | cons r3 r4 => cases r4; exact ⟨_, _, rfl, r1, r3⟩
theorem call_int1 : CallR X (.type "int") (fun xs H Q => (∃ i, xs = [.int i] ∧ Q (.int i) H) ∨ ∃ k, xs = [.bl k] ∧ Q (.int (if k then 1 else 0)) H) := by
  intro pins s σ H xs us Q I r h
  rcases h with ⟨i, rfl, q⟩ | ⟨k, rfl, q⟩
  · obtain ⟨u, rfl, t, rfl⟩ := vals1 r
    exact call_int_int ⟨.int i, H, I, ⟨_, rfl⟩, q⟩
  · obtain ⟨u, rfl, r1⟩ := vals1 r
    cases r1
    exact call_int_bool ⟨.int (if k then 1 else 0), H, I.tok _, ⟨_, rfl⟩, q⟩
/-- len of a str, a bytes, a list, a tuple -/
def LenV (K : PySem.W.Frag) (x : V) (H : Hp) (n : Nat) : Prop :=
  match x with
  | .str y => y.length ≤ sizeLine ∧ n = y.length
  | .byt y => y.size ≤ sizeLine ∧ n = y.size
  | .ref p => (∃ xs, SqL K H p xs ∧ n = xs.length) ∨ ∃ xs, SqT K H p xs ∧ n = xs.length
  | _ => False
theorem call_len : CallR X (.builtin "len") (fun xs H Q => ∃ x n, xs = [x] ∧ LenV X.K x H n ∧ Q (.int n) H) := by
  intro pins s σ H xs us Q I r h
  obtain ⟨x, n, rfl, e, q⟩ := h
  obtain ⟨u, rfl, rx⟩ := vals1 r
  have hl := line63
  have hs : sizeLine = 16777216 := sizeLine_eq
  cases x with
  | str y =>
    obtain ⟨t, rfl⟩ := rx
    obtain ⟨hy, e'⟩ : y.length ≤ sizeLine ∧ n = y.length := e
    subst e'
    exact len_str (by omega) ⟨.int _, H, I.tok _, ⟨_, rfl⟩, q⟩
  | byt y =>
    obtain ⟨t, rfl⟩ := rx
    obtain ⟨hy, e'⟩ : y.size ≤ sizeLine ∧ n = y.size := e
    subst e'
    exact PySem.W.len_bytes (by omega) ⟨.int _, H, I.tok _, ⟨_, rfl⟩, q⟩
  | ref p =>
    cases rx
    have e' : (∃ xs, SqL X.K H p xs ∧ n = xs.length) ∨ ∃ xs, SqT X.K H p xs ∧ n = xs.length := e
    rcases e' with ⟨xs, hx, e'⟩ | ⟨xs, hx, e'⟩
    · subst e'
      obtain ⟨its, r', pl, hz⟩ := I.list hx
      have hlen := r'.length
      exact Calls.call_len_list pl.isList (by simp only [List.size_toArray]; omega) ⟨.int xs.length, H, I.tok _, ⟨_, by simp only [List.size_toArray]; rw [hlen]⟩, q⟩
    · subst e'
      obtain ⟨its, r', pl, hz⟩ := I.tuple hx
      have hlen := r'.length
      exact len_tuple pl (by simp only [List.size_toArray]; omega) ⟨.int xs.length, H, I.tok _, ⟨_, by simp only [List.size_toArray]; rw [hlen]⟩, q⟩
  | _ => exact (show False from e).elim
end
end L2

namespace L2
open PySem PySem.Spec PyProof.Rows

structure ObjM (h : Heap) (x dx C : Addr) (mA : Str → Option Value) : Prop where
  obj : h.get? x = some (PySem.W.instObj C dx)
  ns : h.Ns1 dx mA
  ne : dx ≠ x

theorem lookIn_ns {h : Heap} {dx : Addr} {mA : Str → Option Value} (n : h.Ns1 dx mA) : ∃ od, h.get? dx = some od ∧ ∀ name, PySem.W.lookIn name od = some (mA name) := by
  obtain ⟨o, es, ep, ho, hd, hk, _, hm⟩ := n
  refine ⟨o, ho, fun name => ?_⟩
  have e := hm name
  unfold nsFind findBy at e
  rw [← Array.find?_toList] at e
  unfold PySem.W.lookIn
  rw [hd]
  dsimp only
  split
  · rename_i y q
    rw [q] at e
    exact congrArg some e
  · rename_i q
    rw [q] at e
    have a : es.toList.any (·.refKey) = false := by
      rw [List.any_eq_false]
      intro y hy
      obtain ⟨z, t, hkey⟩ := hk y (Array.mem_toList_iff.mp hy)
      simp [DictEntry.refKey, hkey]
    have a' : ¬ es.toList.any (·.refKey) = true := by rw [a]; exact Bool.false_ne_true
    rw [if_neg a']
    exact congrArg some e

theorem ObjM.look {h : Heap} {x dx C : Addr} {mA : Str → Option Value} (I : ObjM h x dx C mA) : ∃ od, PySem.W.InstAt h x (PySem.W.instObj C dx) C (some od) ∧ ∀ name, PySem.W.lookIn name od = some (mA name) :=
  let ⟨od, ho, hl⟩ := lookIn_ns I.ns
  ⟨od, ⟨I.obj, rfl, rfl, ho⟩, hl⟩

section
variable {prog : Program} {w : World} {A : Around} {E : Value → Shared → Prop} {s : Shared} {K : PySem.W.Frag} {x dx C f : Addr} {mA : Str → Option Value} {name : Str} {v : Value}

theorem get_map {expr : Bool} {Q : Value → Shared → Prop} (X : K.In s.heap) (I : ObjM s.heap x dx C mA) (hg : PySem.W.plainGet K C name = true) (hh : PySem.W.hasDictIn K C = true)
    (ha : PySem.W.findIn K (.ref C) name = some none) (hv : mA name = some v) (hv' : PySem.W.handedIn v = true) (h : Q v { s with toks := s.toks + 1 }) :
    wpAny (model prog w) A (getAttr (.ref x) name expr) Q E s := by
  obtain ⟨od, J, hl⟩ := I.look
  exact PySem.W.get_value X J (PySem.W.plainGet_of hg).1 (PySem.W.findObj_own hh ha rfl (by rw [hl, hv])) hv' h

theorem get_meth {pl : Sem Bool} {Q : Value × List Value → Shared → Prop} (X : K.In s.heap) (I : ObjM s.heap x dx C mA) (hg : PySem.W.plainGet K C name = true)
    (hf : PySem.W.findIn K (.ref C) name = some (some (.ref f))) (ht : PySem.W.isFn K (.ref f) = true) (hv : mA name = none) (h : Q (.ref f, [.ref x]) s) :
    wpAny (model prog w) A (getMethod (.ref x) name pl) Q E s := by
  obtain ⟨od, J, hl⟩ := I.look
  exact PySem.W.method_fn X J (PySem.W.plainGet_of hg).1 (PySem.W.plainGet_of hg).2 hf (beq_iff_eq.mp ht) (by show (PySem.W.lookIn name od).map (·.isSome) = some false; rw [hl, hv]; rfl) h

theorem set_map {ns : List Str} {Q : Unit → Shared → Prop} (X : K.In s.heap) (I : ObjM s.heap x dx C mA)
    (hs : PySem.W.findIn K (.ref C) "__setattr__" = some (some (.builtin "object.__setattr__"))) (hp : PySem.W.plainOver K C = true) (ht : PySem.W.takerIn K C name = some none) (hh : PySem.W.hasDictIn K C = true)
    (hw : PySem.Within mA ns) (hsz : ns.length ≤ sizeLine)
    (h : ∀ h', ObjM h' x dx C (fun y => if y = name then some v else mA y) → Heap.SameBut dx s.heap h' → Q () { s with heap := h', toks := s.toks + 2 }) :
    wpAny (model prog w) A (setAttr (.ref x) name v) Q E s := by
  obtain ⟨od, J, hl⟩ := I.look
  refine PySem.W.set_plain X J hs (PySem.W.osa_open (s := { s with toks := s.toks + 1 }) (r := none) X J hp ht fun b => ?_)
  obtain ⟨cd, hc, hd'⟩ := PySem.W.any_some hh
  have hx : s.heap.get? x = some ⟨.ref C, some dx, .plain, #[]⟩ := I.obj
  refine wpAny_bind (wpAny_pure (wpAny_bind (wpAny_bind (wpAny_loadPart hx (wpAny_bind (PySem.W.Looks.here (s := { s with toks := s.toks + 1 }) (PySem.W.looks_clsIn X hc) ?_))))))
  rw [hd']
  refine wpAny_pure (a := some dx) (wpAny_bind (wpAny_pure (wpAny_bind ?_)))
  refine wpAny_nsSet1 (s := { s with toks := s.toks + 1 }) I.ns fun h' hn2 hs2 => ?_
  obtain ⟨oD, esD, epD, hoD, hdD, hcD⟩ := hn2.count (PySem.Within.cons name v hw)
  refine wpAny_bind (wpAny_lookBehind hoD (by rw [hdD]; exact pastItsLine_dict (Nat.le_trans hcD (by rw [List.length_cons]; omega))) ?_)
  exact wpAny_pure (h _ ⟨(hs2.2 _ (Ne.symm I.ne)).trans I.obj, hn2, I.ne⟩ hs2)

/-- C(..): the dict at the heap's end, the instance behind it; then its __init__ -/
theorem make_map {R : Result → Shared → Prop} {vs : List Value} {kw : List (Str × Value)} (X : K.In s.heap) (hm : PySem.W.makesIn K C = true)
    (hi : PySem.W.findIn K (.ref C) "__init__" = some (some (.ref f))) (hf : PySem.W.typeIn K (.ref f) = some (.type "function"))
    (h : codeAny (model prog w) (A.under (.builtin "type.__call__" ⟨.ref C :: vs, kw⟩)) (.call (.ref f) ⟨.ref (s.heap.objs.size + 1) :: vs, kw⟩) (PySem.W.InitBack (s.heap.objs.size + 1) R)
      { s with heap := (s.heap.push PySem.W.emptyDict).push (PySem.W.instObj C s.heap.objs.size) }) :
    codeAny (model prog w) A (.call (.ref C) ⟨vs, kw⟩) R s := by
  obtain ⟨hh, g, d, t, os⟩ := s
  exact PySem.W.make_core (PySem.W.makes_of X hm) (PySem.W.looks_findIn X hi) (fun self => PySem.W.bind_fn X self hf) (.inl rfl) h
end

def putF (f : Str) (v : V) : List (Str × V) → List (Str × V)
  | [] => [(f, v)]
  | (g, x) :: r => if g = f then (g, v) :: r else (g, x) :: putF f v r
theorem lookup_putF (f g : Str) (v : V) : ∀ fs : List (Str × V), (putF f v fs).lookup g = if g = f then some v else fs.lookup g
  | [] => by
    show List.lookup g [(f, v)] = _
    by_cases h : g = f
    · have hb : (g == f) = true := beq_iff_eq.mpr h
      simp only [List.lookup, hb, if_pos h]
    · have hb : (g == f) = false := beq_eq_false_iff_ne.mpr h
      simp only [List.lookup, hb, if_neg h]
  | (k, x) :: r => by
    have ih := lookup_putF f g v r
    rw [show putF f v ((k, x) :: r) = (if k = f then (k, v) :: r else (k, x) :: putF f v r) from rfl]
    by_cases hk : k = f
    · rw [if_pos hk]
      by_cases h : g = k
      · have hb : (g == k) = true := beq_iff_eq.mpr h
        simp only [List.lookup, hb, if_pos (h.trans hk)]
      · have hb : (g == k) = false := beq_eq_false_iff_ne.mpr h
        simp only [List.lookup, hb, if_neg (fun e : g = f => h (e.trans hk.symm))]
    · rw [if_neg hk]
      by_cases h : g = k
      · have hb : (g == k) = true := beq_iff_eq.mpr h
        simp only [List.lookup, hb, if_neg (fun e : g = f => hk (h.symm.trans e))]
      · have hb : (g == k) = false := beq_eq_false_iff_ne.mpr h
        simp only [List.lookup, hb]
        exact ih
theorem keys_putF (f : Str) (v : V) : ∀ fs : List (Str × V), f ∈ (putF f v fs).map (·.1) ∧ ∀ g, g ∈ fs.map (·.1) → g ∈ (putF f v fs).map (·.1)
  | [] => ⟨by simp [putF], fun g h => by simp at h⟩
  | (k, x) :: r => by
    obtain ⟨i1, i2⟩ := keys_putF f v r
    rw [show putF f v ((k, x) :: r) = (if k = f then (k, v) :: r else (k, x) :: putF f v r) from rfl]
    by_cases hk : k = f
    · rw [if_pos hk]
      subst hk
      exact ⟨by simp, fun g h => by simpa using h⟩
    · rw [if_neg hk]
      refine ⟨?_, fun g h => ?_⟩
      · rw [List.map_cons]
        exact List.mem_cons_of_mem _ i1
      · rw [List.map_cons] at h ⊢
        rcases List.mem_cons.mp h with e | e
        · exact List.mem_cons.mpr (.inl e)
        · exact List.mem_cons_of_mem _ (i2 g e)
theorem length_putF (f : Str) (v : V) : ∀ fs : List (Str × V), (putF f v fs).length ≤ fs.length + 1
  | [] => by simp [putF]
  | (k, x) :: r => by
    have ih := length_putF f v r
    rw [show putF f v ((k, x) :: r) = (if k = f then (k, v) :: r else (k, x) :: putF f v r) from rfl]
    by_cases hk : k = f
    · rw [if_pos hk, List.length_cons, List.length_cons]; omega
    · rw [if_neg hk, List.length_cons, List.length_cons]; omega

theorem RelO.some_of {v : V} {o : Option Value} (r : RelO (some v) o) : ∃ u, o = some u ∧ RelV v u := by
  cases o with
  | none => exact (show False from r).elim
  | some u => exact ⟨u, rfl, r⟩
theorem RelO.none_of {o : Option Value} (r : RelO none o) : o = none := by
  cases o with
  | none => rfl
  | some u => exact (show False from r).elim
theorem handed_of {v : V} {u : Value} (r : RelV v u) : PySem.W.handedIn u = true := by
  cases v with
  | non => cases (show u = Value.none from r); rfl
  | bl b => cases (show u = Value.bool b from r); rfl
  | int i => obtain ⟨t, e⟩ := (show ∃ t, u = Value.int i t from r); cases e; rfl
  | str x => obtain ⟨t, e⟩ := (show ∃ t, u = Value.str x t from r); cases e; rfl
  | byt b => obtain ⟨t, e⟩ := (show ∃ t, u = Value.bytes b t from r); cases e; rfl
  | flt b => obtain ⟨t, e⟩ := (show ∃ t, u = Value.float b t from r); cases e; rfl
  | ref a => cases (show u = Value.ref a from r); rfl
  | ty n => cases (show u = Value.type n from r); rfl

section
variable {P : Program} {w : World} {H H' : Hp} {h h' : Heap} {a C dx : Addr} {fs fs' : List (Str × V)}
theorem ins_get (hok : HOk P w H h) (e : H a = some (.ins C dx fs)) : ∃ mA, ObjM h a dx C mA ∧ (∀ f, RelO (fs.lookup f) (mA f)) ∧ PySem.Within mA (fs.map (·.1)) ∧ fs.length ≤ 1000 ∧ H dx = some (.own a) := by
  obtain ⟨d, z, ne, ob, mA, n, r, q⟩ := (show ObjOk P w H h a (.ins C dx fs) from hok a _ e)
  exact ⟨mA, ⟨ob, n, ne⟩, r, q, z, d⟩
end

structure Cls (K : PySem.W.Frag) (C : Addr) : Prop where
  pg : PySem.W.plainGet K C Str.empty = true
  hd : PySem.W.hasDictIn K C = true
  po : PySem.W.plainOver K C = true
  sa : PySem.W.findIn K (.ref C) "__setattr__" = some (some (.builtin "object.__setattr__"))
theorem Cls.get {K : PySem.W.Frag} {C : Addr} (c : Cls K C) (f : Str) : PySem.W.plainGet K C f = true := c.pg
/-- no class of it has the name -/
def NoAttr (K : PySem.W.Frag) (C : Addr) (f : Str) : Prop := PySem.W.findIn K (.ref C) f = some none
theorem NoAttr.taker {K : PySem.W.Frag} {C : Addr} {f : Str} (n : NoAttr K C f) : PySem.W.takerIn K C f = some none := by
  unfold PySem.W.takerIn
  rw [show PySem.W.findIn K (.ref C) f = some none from n]
  rfl
/-- a method: a plain def of the class or of one above it -/
structure Meth (K : PySem.W.Frag) (C : Addr) (m : Str) (f : Addr) : Prop where
  at_ : PySem.W.findIn K (.ref C) m = some (some (.ref f))
  fn : PySem.W.isFn K (.ref f) = true
  kp : PySem.W.keepIn K (.ref f) = true

section
variable {X : Cx} {pins : List (Addr × Obj)} {σ : St} {H : Hp} {s : Shared} {a C dx : Addr} {fs : List (Str × V)} {f : Str} {v : V} {A : Around} {E : Value → Shared → Prop}

theorem getattr_ok {b : Bool} {Q : Value → Shared → Prop} (I : Inv X pins σ H s) (e : H a = some (.ins C dx fs)) (c : Cls X.K C) (n : NoAttr X.K C f) (l : fs.lookup f = some v)
    (h : ∀ u s', Inv X pins σ H s' → RelV v u → Q u s') : wpAny (model X.prog X.w) A (getAttr (.ref a) f b) Q E s := by
  obtain ⟨mA, O, r, _, _, _⟩ := ins_get I.hok e
  obtain ⟨u, hu, ru⟩ := RelO.some_of (v := v) (o := mA f) (by rw [← l]; exact r f)
  exact get_map I.kIn O (c.get f) c.hd n hu (handed_of ru) (h u _ (I.tok _) ru)

theorem getmeth_ok {m : Str} {g : Addr} {pl : Sem Bool} {Q : Value × List Value → Shared → Prop} (I : Inv X pins σ H s) (e : H a = some (.ins C dx fs)) (c : Cls X.K C) (k : Meth X.K C m g) (l : fs.lookup m = none)
    (h : Q (.ref g, [.ref a]) s) : wpAny (model X.prog X.w) A (getMethod (.ref a) m pl) Q E s := by
  obtain ⟨mA, O, r, _, _, _⟩ := ins_get I.hok e
  have hn : mA m = none := RelO.none_of (by rw [← l]; exact r m)
  exact get_meth I.kIn O (c.get m) k.at_ k.fn hn h

theorem setattr_ok {y : V} {u : Value} {Q : Unit → Shared → Prop} (I : Inv X pins σ H s) (e : H a = some (.ins C dx fs)) (c : Cls X.K C) (n : NoAttr X.K C f) (hl : fs.length < 1000) (ry : RelV y u)
    (h : ∀ s', Inv X pins σ (upd H a (.ins C dx (putF f y fs))) s' → Q () s') : wpAny (model X.prog X.w) A (setAttr (.ref a) f u) Q E s := by
  obtain ⟨mA, O, r, wi, _, ho⟩ := ins_get I.hok e
  have hz : (fs.map (·.1)).length ≤ sizeLine := by rw [List.length_map, sizeLine_eq]; omega
  refine set_map I.kIn O c.sa c.po n.taker c.hd wi hz fun h' O' sb => h _ ?_
  have hd : ∃ o, h'.get? dx = some o := let ⟨o, _, _, e', _⟩ := O'.ns; ⟨o, e'⟩
  refine I.write (x := a) (e := dx) (by rw [e]; exact True.intro) (.inr ho) (fun b q hb z => (sb.2 b hb).trans z) hd ?_
  refine ⟨by rw [upd_ne O.ne]; exact ho, ?_, O.ne, O'.obj, _, O'.ns, fun g => ?_, fun g hg => ?_⟩
  · have := length_putF f y fs; omega
  · show RelO ((putF f y fs).lookup g) (if g = f then some u else mA g)
    rw [lookup_putF]
    by_cases q : g = f
    · rw [if_pos q, if_pos q]; exact ry
    · rw [if_neg q, if_neg q]; exact r g
  · by_cases q : g = f
    · rw [q]; exact (keys_putF f y fs).1
    · refine (keys_putF f y fs).2 g (wi g fun z => hg ?_)
      show (if g = f then some u else mA g) = none
      rw [if_neg q]; exact z

/-- a new instance, tracked, without attributes -/
theorem Inv.made (I : Inv X pins σ H s) : Inv X pins σ (upd (upd H s.heap.objs.size (.own (s.heap.objs.size + 1))) (s.heap.objs.size + 1) (.ins C s.heap.objs.size []))
    { s with heap := (s.heap.push PySem.W.emptyDict).push (PySem.W.instObj C s.heap.objs.size) } := by
  have e1 : (s.heap.push PySem.W.emptyDict).get? s.heap.objs.size = some PySem.W.emptyDict := Heap.get?_push_size s.heap rfl
  have e2 : ((s.heap.push PySem.W.emptyDict).push (PySem.W.instObj C s.heap.objs.size)).get? (s.heap.objs.size + 1) = some (PySem.W.instObj C s.heap.objs.size) := by
    have := Heap.get?_push_size (s.heap.push PySem.W.emptyDict) (o := PySem.W.instObj C s.heap.objs.size) rfl
    rwa [Heap.size_push] at this
  have e3 : (s.heap.push PySem.W.emptyDict).Ns s.heap.objs.size (fun _ => none) := ⟨PySem.W.emptyDict, #[], _, e1, rfl, (fun e he => absurd he (by simp)), fun _ => rfl⟩
  have I1 := I.laid (a := s.heap.objs.size) (o := .own (s.heap.objs.size + 1)) (h' := s.heap.push PySem.W.emptyDict) (t' := s.toks) (fun b u q => Heap.get?_push_of_some _ q) (Nat.le_refl _) ⟨_, e1⟩
  refine I1.laid (a := s.heap.objs.size + 1) (o := .ins C s.heap.objs.size []) (t' := s.toks) (fun b u q => Heap.get?_push_of_some _ q) (Nat.le_of_eq (Heap.size_push _ _)) ?_
  have ne : s.heap.objs.size ≠ s.heap.objs.size + 1 := Nat.ne_of_lt (Nat.lt_succ_self _)
  refine ⟨by rw [upd_ne ne, upd_same], Nat.zero_le _, ne, e2, fun _ => none, (Heap.Ns1.of_empty e3).at fun o q => Heap.get?_push_of_some _ q, fun _ => True.intro, fun y hy => absurd rfl hy⟩

/-- e.f where nothing but the object is asked: through attributeBase (super) and the last hold -/
theorem attr_of {prog : Program} {w : World} {env : Env} {e : Expr} {f : Str} {pos : Pos} {s : Shared} {Q : Value → Shared → Prop} (hb : attributeBase e f env (eval e env) = eval e env)
    (h : wpAny (model prog w) A (eval e env) (fun o s₁ => wpAny (model prog w) A (getAttr o f true) Q E s₁) E s) : wpAny (model prog w) A (eval (.Attribute e f pos) env) Q E s :=
  Attribute_any_ h (by rw [arm_eval_Attribute, hb])
end

/-- e.f, an attribute of the instance -/
def tFld (K : PySem.W.Frag) (ta : TE) (f : Str) : TE := fun σ H Q => ta σ H fun x H1 => ∃ a C dx fs v, x = .ref a ∧ H1 a = some (.ins C dx fs) ∧ Cls K C ∧ NoAttr K C f ∧ fs.lookup f = some v ∧ Q v H1
/-- e.f = value -/
def sFld (K : PySem.W.Frag) (ta tv : TE) (f : Str) : TS := fun D σ H => tv σ H fun y H1 => ta σ H1 fun x H2 => ∃ a C dx fs, x = .ref a ∧ H2 a = some (.ins C dx fs) ∧ Cls K C ∧ NoAttr K C f ∧ fs.length < 1000 ∧
  D.nx σ (upd H2 a (.ins C dx (putF f y fs)))
section
variable {X : Cx} {o e value : Expr} {f : Str} {pos pos' tpos : Pos} {ta tv : TE}
theorem pe_fld (he : PE X e ta) (hb : attributeBase e f X.env (eval e X.env) = eval e X.env) : PE X (.Attribute e f pos) (tFld X.K ta f) := by
  intro pins s σ H Q I h
  refine attr_of hb (thn (he pins s σ H _ I h) fun u s1 ⟨x, H1, I1, rx, a, C, dx, fs, v, ex, ea, c, n, l, q⟩ => ?_)
  subst ex
  obtain rfl : u = Value.ref a := rx
  exact getattr_ok I1 ea c n l fun u' s2 I2 ru => ⟨v, H1, I2, ru, q⟩
theorem ps_fld (ha : PE X o ta) (hv : PE X value tv) (hs : swapsWith value (some (.Attribute o f pos')) pos.line X.env = pure false) : PS X (.Assign [.Attribute o f pos'] value pos) (sFld X.K ta tv f) := by
  intro pins s σ H D I h
  refine plainObj_wpAny_Assign_Attribute (thn (hv pins s σ H _ I h) fun u s1 ⟨y, H1, I1, ry, q⟩ => thn (ha pins s1 σ H1 _ I1 q) fun ov s2 ⟨x, H2, I2, rx, a, C, dx, fs, ex, ea, c, n, l, q2⟩ => ?_) hs
  subst ex
  obtain rfl : ov = Value.ref a := rx
  exact setattr_ok I2 ea c n l ry fun s3 I3 => ⟨σ, _, I3, q2⟩
end

section
variable {X : Cx} {pins : List (Addr × Obj)} {σ : St} {H : Hp} {s : Shared} {A : Around} {E : Value → Shared → Prop} {Q : Value → Shared → Prop} {c : Value} {b : Bool}
/-- the type of a value, as the fragment's deciders take it; for an instance its class -/
inductive TyOf (K : PySem.W.Frag) (H : Hp) : V → Value → Prop where
  | non : TyOf K H .non (.type "NoneType")
  | bl (x : Bool) : TyOf K H (.bl x) (.type "bool")
  | int (i : Int) : TyOf K H (.int i) (.type "int")
  | str (x : Str) : TyOf K H (.str x) (.type "str")
  | flt (x : UInt64) : TyOf K H (.flt x) (.type "float")
  | lst {a : Addr} {xs : List V} (e : H a = some (.lst xs)) : TyOf K H (.ref a) (.type "list")
  | frz {a : Addr} {o : Obj} {xs : List V} (e : H a = some (.frz o (.lst xs))) : TyOf K H (.ref a) (.type "list")
  | tup {a : Addr} {xs : List V} (e : H a = some (.tup xs)) : TyOf K H (.ref a) (.type "tuple")
  | dK {a : Addr} {kvs : List (Key × V)} (e : H a = some (.dK kvs)) : TyOf K H (.ref a) (.type "dict")
  | dT {a : Addr} {kvs : List (List Key × V)} (e : H a = some (.dT kvs)) : TyOf K H (.ref a) (.type "dict")
  | ins {a C dx : Addr} {fs : List (Str × V)} (e : H a = some (.ins C dx fs)) (cl : Cls K C) (ha : PySem.W.findIn K (.ref C) "__class__" = some (some (.builtin "object.__class__")))
      (hn : PySem.W.specialIn K (.builtin "object.__class__") "__get__" = some (some (.builtin "getset_descriptor.__get__"))) (htk : PySem.W.takesIn K (.builtin "object.__class__") = some true)
      (hm : PySem.W.mroIn K C (.type "object") = some true) : TyOf K H (.ref a) (.ref C)
/-- isinstance(x, c) for one class c, a built-in or an own one: kitOne's answer -/
theorem isinst_ok {x : V} {u t : Value} (I : Inv X pins σ H s) (rx : RelV x u) (ty : TyOf X.K H x t) (e : PySem.W.kitOne X.K t c = some b) (h : ∀ tk, Q (.bool b) { s with toks := tk }) :
    wpAny (model X.prog X.w) A (call (.builtin "isinstance") [u, c]) Q E s := by
  cases ty with
  | non => cases (show u = Value.none from rx); exact PySem.W.kia_one PySem.W.kitx_none I.kIn True.intro e (fun z => nomatch z) h
  | bl y => cases (show u = Value.bool y from rx); exact PySem.W.kia_one PySem.W.kitx_bool I.kIn True.intro e (fun z => nomatch z) h
  | int i => obtain ⟨t, q⟩ := (show ∃ t, u = Value.int i t from rx); cases q; exact PySem.W.kia_one PySem.W.kitx_int I.kIn True.intro e (fun z => nomatch z) h
  | str y => obtain ⟨t, q⟩ := (show ∃ t, u = Value.str y t from rx); cases q; exact PySem.W.kia_one PySem.W.kitx_str I.kIn True.intro e (fun z => nomatch z) h
  | flt y => obtain ⟨t, q⟩ := (show ∃ t, u = Value.float y t from rx); cases q; exact PySem.W.kia_one PySem.W.kitx_float I.kIn True.intro e (fun z => nomatch z) h
  | @lst a xs ea =>
    cases (show u = Value.ref a from rx)
    obtain ⟨_, _, n, _, h1⟩ := (show ObjOk X.prog X.w H s.heap a (.lst xs) from I.hok a _ ea)
    exact PySem.W.kia_one PySem.W.kitx_list I.kIn ⟨_, h1, rfl⟩ e (fun z => nomatch z) h
  | @frz a ob xs ea =>
    cases (show u = Value.ref a from rx)
    obtain ⟨_, _, _, n, _, h1⟩ := (show ObjOk X.prog X.w H s.heap a (.frz ob (.lst xs)) from I.hok a _ ea)
    exact PySem.W.kia_one PySem.W.kitx_list I.kIn ⟨_, h1, rfl⟩ e (fun z => nomatch z) h
  | @tup a xs ea =>
    cases (show u = Value.ref a from rx)
    obtain ⟨_, _, _, p⟩ := (show ObjOk X.prog X.w H s.heap a (.tup xs) from I.hok a _ ea)
    obtain ⟨o, h1, h2, _⟩ := p
    exact PySem.W.kia_one PySem.W.kitx_tuple I.kIn ⟨o, h1, h2⟩ e (fun z => nomatch z) h
  | @dK a kvs ea =>
    cases (show u = Value.ref a from rx)
    obtain ⟨_, _, vs, _, p⟩ := (show ObjOk X.prog X.w H s.heap a (.dK kvs) from I.hok a _ ea)
    obtain ⟨o, es, ep, h1, h2, _⟩ := p
    exact PySem.W.kia_one PySem.W.kitx_dict I.kIn ⟨o, h1, h2.1⟩ e (fun z => nomatch z) h
  | @dT a kvs ea =>
    cases (show u = Value.ref a from rx)
    obtain ⟨_, _, xs, _, o, es, ep, h1, h2, _⟩ := (show ObjOk X.prog X.w H s.heap a (.dT kvs) from I.hok a _ ea)
    exact PySem.W.kia_one PySem.W.kitx_dict I.kIn ⟨o, h1, h2.1⟩ e (fun z => nomatch z) h
  | @ins a C dx fs ea cl ha hn htk hm =>
    cases (show u = Value.ref a from rx)
    obtain ⟨mA, O, _⟩ := ins_get I.hok ea
    obtain ⟨od, J, _⟩ := O.look
    exact PySem.W.kia_one (PySem.W.kitx_own (cl.get _) cl.hd ha hn htk hm) I.kIn J e (fun z => nomatch z) h
end
end L2

namespace L2
open PySem PySem.Spec PyProof.Rows

structure Room (k : Nat) (A : Around) : Prop where
  hd : A.handled = none
  dp : A.depth + 3 * k + 5 < recursionLimit
  un : A.units + 16 * k + 200 < cLine
theorem Room.mono {j k : Nat} {A : Around} (r : Room k A) (h : j ≤ k) : Room j A := ⟨r.hd, by have := r.dp; omega, by have := r.un; omega⟩
theorem Room.deeper {k : Nat} {A : Around} (r : Room (k + 1) A) (env : Env) : Room k (A.deeper env) :=
  ⟨r.hd, by have := r.dp; show A.depth + 1 + 3 * k + 5 < _; omega, by have := r.un; show A.units + 3 + 16 * k + 200 < _; omega⟩
theorem make_depth {A : Around} {C : Addr} {us : List Value} {kw : List (Str × Value)} : (A.under (.builtin "type.__call__" ⟨.ref C :: us, kw⟩)).depth = A.depth + 1 := by
  first | rfl | simp [Around.under, Code.weight, Code.isCreation, Code.isGuard, Code.isCaller, Code.frames, Code.isFrame, guardIds]
theorem make_units {A : Around} {C : Addr} {us : List Value} {kw : List (Str × Value)} : (A.under (.builtin "type.__call__" ⟨.ref C :: us, kw⟩)).units = A.units + 1 := by
  first | rfl | simp [Around.under, Code.cUnits, Code.frames, Code.isFrame]
theorem Room.make {k : Nat} {A : Around} (r : Room (k + 1) A) (C : Addr) (us : List Value) (kw : List (Str × Value)) : Room k (A.under (.builtin "type.__call__" ⟨.ref C :: us, kw⟩)) :=
  ⟨r.hd, by have := r.dp; rw [make_depth]; omega, by have := r.un; rw [make_units]; omega⟩
theorem Room.depth {k : Nat} {A : Around} (r : Room k A) : A.depth < recursionLimit := by have := r.dp; omega
theorem Room.units {k : Nat} {A : Around} (r : Room k A) : A.units + 64 < cLine := by have := r.un; omega
def tNil : TA := fun _ H Q => Q [] H
def tCons (ta : TE) (tr : TA) : TA := fun σ H Q => ta σ H fun x H1 => tr σ H1 fun xs H2 => Q (x :: xs) H2
section
variable {X : Cx} {e : Expr} {es : List Expr} {te : TE} {t : TA} {pos : Pos}
theorem pa_nil : PA X [] tNil := fun _ _ _ _ H Q I h => Calls.spliced_nil ⟨[], H, I, .nil, h⟩
theorem pa_cons (ha : PE X e te) (hr : PA X es t) (hs : starEach (e :: es) X.env = (false, eval e X.env) :: starEach es X.env := by rfl) : PA X (e :: es) (tCons te t) := by
  intro pos pins s σ H Q I h
  rw [hs]
  show wpAny _ _ (spliced ((false, eval e X.env) :: backTo pos (starEach es X.env))) _ _ s
  refine Calls.spliced_cons (thn (ha pins s σ H _ I h) fun u s1 ⟨x, H1, I1, r1, q1⟩ => ?_)
  exact thn (hr pos pins s1 σ H1 _ I1 q1) fun us s2 ⟨xs, H2, I2, r2, q2⟩ => ⟨x :: xs, H2, I2, .cons r1 r2, q2⟩

/-- a tuple, a list of written items -/
def tTup (t : TA) : TE := fun σ H Q => t σ H fun xs H1 => xs.length ≤ sizeLine ∧ ∀ p, H1 p = none → Q (.ref p) (upd H1 p (.tup xs))
def tLst (t : TA) : TE := fun σ H Q => t σ H fun xs H1 => xs.length ≤ sizeLine ∧ ∀ p, H1 p = none → Q (.ref p) (upd H1 p (.lst xs))
theorem pe_tup {x1} (h : PA X es t) : PE X (.Tuple es x1 pos) (tTup t) := by
  intro pins s σ H Q I hq
  refine wpAny_Tuple_spliced (thn (h pos pins s σ H _ I hq) fun us s1 ⟨xs, H1, I1, r, z, q⟩ => ⟨by rw [← r.length]; exact z, ?_⟩)
  have hf : H1 s1.heap.objs.size = none := I1.hok.fresh (Nat.le_refl _)
  refine ⟨.ref s1.heap.objs.size, upd H1 s1.heap.objs.size (.tup xs), I1.laid (t' := s1.toks) (fun b u e => Heap.get?_push_of_some _ e) (Nat.le_refl _) ?_, rfl, q _ hf⟩
  exact ⟨z, us, r, ⟨_, Heap.get?_push_size _ rfl, rfl, _, rfl⟩⟩
theorem pe_lst (h : PA X es t) : PE X (.List es pos) (tLst t) := by
  intro pins s σ H Q I hq
  refine wpAny_List_spliced (thn (h pos pins s σ H _ I hq) fun us s1 ⟨xs, H1, I1, r, z, q⟩ => ⟨by rw [← r.length]; exact z, ?_⟩)
  have hf : H1 s1.heap.objs.size = none := I1.hok.fresh (Nat.le_refl _)
  refine ⟨.ref s1.heap.objs.size, upd H1 s1.heap.objs.size (.lst xs), I1.laid (t' := s1.toks) (fun b u e => Heap.get?_push_of_some _ e) (Nat.le_refl _) ?_, rfl, q _ hf⟩
  exact ⟨z, us, 0, r, Heap.get?_push_size _ rfl⟩
end

/-- a def's promise: the bound arguments in the parameters' order, the heap, the wanted end, the wanted exception -/
abbrev Sp := List V → Hp → VK → XK → Prop
/-- how an exception lies behind a call (file 08 gives it): the callers' frames, abstract heap and state ahead of the call, the wish, the exception, the state -/
abbrev CXT := List Env → Hp → Shared → XK → Value → Shared → Prop

/-- the state at a call -/
structure Env0 (P : Program) (w : World) (K : PySem.W.Frag) (mg : Str → Option Value) (base : Heap) (A : Around) (outer : List Env) (s : Shared) (H : Hp) : Prop where
  frames : A.frames = some outer
  mod : Mod K mg base
  bs : ∀ b o, base.get? b = some o → s.heap.get? b = some o ∧ H b = none
  bsz : base.objs.size ≤ s.heap.objs.size
  funs : s.heap.FunFrames base outer
  frf : ∀ b ∈ frs outer, H b = none
  hok : HOk P w H s.heap
  bare : AllBare s.gens
/-- a call's end -/
def CE (outer : List Env) (P : Program) (w : World) (H : Hp) (s : Shared) (Q : VK) (u : Value) (s' : Shared) : Prop :=
  ∃ v H', s'.os = s.os ∧ AllBare s'.gens ∧ Un (frs outer) [] H H' s.heap s'.heap ∧ HOk P w H' s'.heap ∧ RelV v u ∧ Q v H'
def CR (CX : CXT) (outer : List Env) (P : Program) (w : World) (H : Hp) (s : Shared) (Q : VK) (E : XK) (r : Result) (s' : Shared) : Prop :=
  match r with
  | .ok (.ret u) => CE outer P w H s Q u s'
  | .ok _ => False
  | .error e => CX outer H s E e s'
structure FnOk (P : Program) (w : World) (K : PySem.W.Frag) (mg : Str → Option Value) (base : Heap) (CX : CXT) (k : Nat) (f : Addr) (fd : FuncData) (ps : List Str) (sp : Sp) : Prop where
  len : ∀ vs H Q E, sp vs H Q E → vs.length = ps.length
  run : ∀ (A : Around) (outer : List Env) (s : Shared) (H : Hp) (args : Args) (us : List Value) (vs : List V) (Q : VK) (E : XK), Room k A → Env0 P w K mg base A outer s H → BindsTo s fd args (ps.zip us) → Vals vs us → sp vs H Q E →
    codeAny (model P w) A (.call (.ref f) args) (CR CX outer P w H s Q E) s
theorem Env0.make {P : Program} {w : World} {K : PySem.W.Frag} {mg : Str → Option Value} {base : Heap} {A : Around} {outer : List Env} {s : Shared} {H : Hp} (e : Env0 P w K mg base A outer s H) (C : Addr) (us : List Value) (kw : List (Str × Value)) :
    Env0 P w K mg base (A.under (.builtin "type.__call__" ⟨.ref C :: us, kw⟩)) outer s H := ⟨by first | exact e.frames | (simpa [Around.under, Code.envs, Code.isFrame, pushEnvs] using e.frames), e.mod, e.bs, e.bsz, e.funs, e.frf, e.hok, e.bare⟩
section
variable {X : Cx} {pins : List (Addr × Obj)} {σ : St} {H : Hp} {s s' : Shared}
/-- from a body: what a callee wants -/
theorem Inv.env0 (I : Inv X pins σ H s) : Env0 X.prog X.w X.K X.mg X.base X.A X.stack s H :=
  ⟨I.ok.frames, I.ok.mod, I.bs, Nat.le_trans I.ok.bsz I.sz, I.stack, I.stkFree, I.hok, I.bare⟩
/-- behind a call -/
theorem Inv.after {Q : VK} {u : Value} (I : Inv X pins σ H s) (h : CE X.stack X.prog X.w H s Q u s') : EP X pins σ Q u s' := by
  obtain ⟨v, H', os, bare, un, hok, r, q⟩ := h
  obtain ⟨hh, g, d, t, os'⟩ := s'
  obtain rfl : os' = s.os := os
  exact ⟨v, H', I.call (h' := hh) (g' := g) (d' := d) (t' := t) (ch := []) un hok bare (fun b z => absurd z (by simp)), r, q⟩
end

/-- f(..): the written arguments, then the defaults dvs; E: what is wanted of an exception -/
def tCall (sp : Sp) (dvs : List V) (E : XK) (t : TA) : TE := fun σ H Q => t σ H fun vs H1 => sp (vs ++ dvs) H1 Q E
/-- C(..): a new instance and its dict, then __init__ -/
def tMake (C : Addr) (sp : Sp) (dvs : List V) (E : XK) (t : TA) : TE := fun σ H Q => t σ H fun vs H1 => ∀ x dx, H1 x = none → H1 dx = none → dx ≠ x →
  sp (.ref x :: (vs ++ dvs)) (upd (upd H1 dx (.own x)) x (.ins C dx [])) (fun v H2 => v = .non ∧ Q (.ref x) H2) E

/-- how the parameters are bound: us the positional arguments, kw the keywords' values by name, ds the defaults that fill up -/
def Binds (K : PySem.W.Frag) (fd : FuncData) (ps : List Str) (ds : List Value) : Prop :=
  ∀ (s : Shared) (us : List Value), K.In s.heap → (us ++ ds).length = ps.length → BindsTo s fd ⟨us, []⟩ (ps.zip (us ++ ds))
/-- every parameter is given -/
theorem Binds.all {K : PySem.W.Frag} {fd : FuncData} {ps : List Str} (h : ∀ us : List Value, us.length = ps.length → bindArgs fd ⟨us, []⟩ = pure (ps.zip us)) : Binds K fd ps [] := fun s us _ hl => by
  rw [List.append_nil] at hl ⊢
  exact .of_eq (h us hl)

/-- an exception of a callee reaches what this body wants of exceptions -/
def Passes (CX : CXT) (X : Cx) (E : XK) : Prop := ∀ (pins : List (Addr × Obj)) (σ : St) (H : Hp) (s : Shared) (e : Value) (s' : Shared), Inv X pins σ H s → CX X.stack H s E e s' → X.xe e s'

section
variable {X : Cx} {CX : CXT} {k : Nat} {f C : Addr} {fd : FuncData} {ps : List Str} {sp : Sp} {dvs : List V} {ds : List Value} {E : XK} {x m : Str} {p pos apos : Pos} {e o : Expr} {es : List Expr} {ta : TE} {t : TA}

/-- the callee runs -/
theorem run_fn {pins : List (Addr × Obj)} {σ : St} {H : Hp} {s : Shared} {Q : VK} {us : List Value} {vs : List V} (F : FnOk X.prog X.w X.K X.mg X.base CX k f fd ps sp) (hr : Room k X.A) (hb : Binds X.K fd ps ds) (hd : Vals dvs ds) (hx : Passes CX X E)
    (I : Inv X pins σ H s) (r : Vals vs us) (h : sp (vs ++ dvs) H Q E) : wpAny (model X.prog X.w) X.A (call (.ref f) us) (EP X pins σ Q) X.xe s := by
  have r2 : Vals (vs ++ dvs) (us ++ ds) := r.append hd
  have hl : (us ++ ds).length = ps.length := by rw [← r2.length]; exact F.len _ _ _ _ h
  refine wpAny_call (codeAny_mono (F.run X.A X.stack s H ⟨us, []⟩ (us ++ ds) (vs ++ dvs) Q E hr I.env0 (hb s us I.kIn hl) r2 h) fun r s' hq => ?_)
  cases r with
  | error e => exact hx pins σ H s e s' I hq
  | ok fl =>
    cases fl with
    | ret u => exact I.after hq
    | next => exact False.elim hq
    | brk => exact False.elim hq
    | cont => exact False.elim hq

theorem pe_call (F : FnOk X.prog X.w X.K X.mg X.base CX k f fd ps sp) (hr : Room k X.A) (hg : Gl X x) (hm : X.mg x = some (.ref f)) (hk : PySem.W.keepIn X.K (.ref f) = true) (hb : Binds X.K fd ps ds) (hd : Vals dvs ds) (hx : Passes CX X E)
    (ha : PA X (e :: es) t) (hdb : (x == ("__debug__" : Str)) = false := by decide) (he : starEach (e :: es) X.env = (false, eval e X.env) :: starEach es X.env := by rfl) (hpl : (backTo pos (starEach es X.env)).any (·.1) = false := by rfl) :
    PE X (.Call (.Name x p) (e :: es) [] pos) (tCall sp dvs E t) := by
  intro pins s σ H Q I h
  refine wpAny_Call_Name_kw (ld_glob I hg hm ?_ hdb)
  refine PySem.W.callWith_K (h₀ := X.base) I.ok.mod.kin hk (thn (ha pos pins s σ H _ I h) fun us s1 ⟨vs, H1, I1, r, q⟩ => ⟨I1.kIn, ?_⟩) he hpl
  exact run_fn F hr hb hd hx I1 r q
/-- what a class must have to be made -/
structure Mk (K : PySem.W.Frag) (C f : Addr) : Prop where
  makes : PySem.W.makesIn K C = true
  init : PySem.W.findIn K (.ref C) "__init__" = some (some (.ref f))
  fn : PySem.W.isFn K (.ref f) = true
  kp : PySem.W.keepIn K (.ref C) = true

theorem run_make {pins : List (Addr × Obj)} {σ : St} {H : Hp} {s : Shared} {Q : VK} {us : List Value} {vs : List V} (M : Mk X.K C f) (F : FnOk X.prog X.w X.K X.mg X.base CX k f fd ps sp) (hr : Room (k + 1) X.A) (hb : Binds X.K fd ps ds) (hd : Vals dvs ds)
    (hx : Passes CX X E) (I : Inv X pins σ H s) (r : Vals vs us)
    (h : ∀ x dx, H x = none → H dx = none → dx ≠ x → sp (.ref x :: (vs ++ dvs)) (upd (upd H dx (.own x)) x (.ins C dx [])) (fun v H2 => v = .non ∧ Q (.ref x) H2) E) :
    wpAny (model X.prog X.w) X.A (call (.ref C) us) (EP X pins σ Q) X.xe s := by
  have hq := h (s.heap.objs.size + 1) s.heap.objs.size (I.hok.fresh (Nat.le_succ _)) (I.hok.fresh (Nat.le_refl _)) (Nat.ne_of_lt (Nat.lt_succ_self _))
  have I2 := Inv.made (C := C) I
  have r2 : Vals (V.ref (s.heap.objs.size + 1) :: (vs ++ dvs)) (Value.ref (s.heap.objs.size + 1) :: (us ++ ds)) := .cons rfl (r.append hd)
  have hl : (Value.ref (s.heap.objs.size + 1) :: us ++ ds).length = ps.length := by
    have e := r2.length
    rw [F.len _ _ _ _ hq] at e
    exact e.symm
  refine wpAny_call (make_map (f := f) I.kIn M.makes M.init (beq_iff_eq.mp M.fn) (codeAny_mono (F.run _ X.stack _ _ ⟨Value.ref (s.heap.objs.size + 1) :: us, []⟩ (Value.ref (s.heap.objs.size + 1) :: (us ++ ds)) _ _ E (hr.make C us [])
    (I2.env0.make C us []) (hb _ (Value.ref (s.heap.objs.size + 1) :: us) I2.kIn hl) r2 hq) fun r s' hq' => ?_))
  cases r with
  | error e => exact hx pins σ _ _ e s' I2 hq'
  | ok fl =>
    cases fl with
    | ret u =>
      obtain ⟨v, H', I3, rv, ev, q3⟩ := I2.after hq'
      subst ev
      exact ⟨rv, ⟨V.ref (s.heap.objs.size + 1), H', I3, rfl, q3⟩⟩
    | next => exact False.elim hq'
    | brk => exact False.elim hq'
    | cont => exact False.elim hq'
theorem pe_make (M : Mk X.K C f) (F : FnOk X.prog X.w X.K X.mg X.base CX k f fd ps sp) (hr : Room (k + 1) X.A) (hg : Gl X x) (hm : X.mg x = some (.ref C)) (hb : Binds X.K fd ps ds) (hd : Vals dvs ds) (hx : Passes CX X E)
    (ha : PA X (e :: es) t) (hdb : (x == ("__debug__" : Str)) = false := by decide) (he : starEach (e :: es) X.env = (false, eval e X.env) :: starEach es X.env := by rfl) (hpl : (backTo pos (starEach es X.env)).any (·.1) = false := by rfl) :
    PE X (.Call (.Name x p) (e :: es) [] pos) (tMake C sp dvs E t) := by
  intro pins s σ H Q I h
  refine wpAny_Call_Name_kw (ld_glob I hg hm ?_ hdb)
  refine PySem.W.callWith_K (h₀ := X.base) I.ok.mod.kin M.kp (thn (ha pos pins s σ H _ I h) fun us s1 ⟨vs, H1, I1, r, q⟩ => ⟨I1.kIn, ?_⟩) he hpl
  exact run_make M F hr hb hd hx I1 r q
end

section
variable {X : Cx} {CX : CXT} {k : Nat} {f C : Addr} {fd : FuncData} {ps ks : List Str} {sp : Sp} {E : XK} {x m : Str} {p pos apos kpos : Pos} {e o : Expr} {es : List Expr} {kws : List Keyword} {te ta : TE} {t tk : TA} {nm : Option Str}
variable {g : List Value → List Value → List Value} {gV : List V → List V → List V}
end

/-- names: the parameters first -/
structure FnScope (N P : List Str) (sc : Scope) : Prop where
  kind : sc.kind = .function
  co : sc.isCoroutine = false
  gen : sc.isGenerator = false
  nd : N.Nodup
  pre : N.take P.length = P
  par : ∀ x ∈ P, sc.names.lookup x = some .local ∨ sc.names.lookup x = some .cell
  nofree : ∀ y ∈ sc.names, y.2 ≠ .free

theorem bindL_out {kindOf : Str → Option NameKind} {x : Str} : ∀ {binds : List (Str × Value)} {m : Str → Option Value}, (∀ v, (x, v) ∉ binds) → bindL kindOf binds m x = m x
  | [], _, _ => rfl
  | (n, v) :: r, m, h => by
    unfold bindL
    rw [bindL_out fun w hw => h w (List.mem_cons_of_mem _ hw)]
    split
    · have : x ≠ n := by rintro rfl; exact h v List.mem_cons_self
      simp [this]
    · rfl
theorem bindC_out {kindOf : Str → Option NameKind} {x : Str} : ∀ {binds : List (Str × Value)} {m : Str → Option Value}, (∀ v, (x, v) ∉ binds) → bindC kindOf binds m x = m x
  | [], _, _ => rfl
  | (n, v) :: r, m, h => by
    unfold bindC
    rw [bindC_out fun w hw => h w (List.mem_cons_of_mem _ hw)]
    split
    · rfl
    · have : x ≠ n := by rintro rfl; exact h v List.mem_cons_self
      simp [this]
theorem bindL_get {kindOf : Str → Option NameKind} {x : Str} {v : Value} : ∀ {P : List Str} {vs : List Value} {i : Nat} {m : Str → Option Value}, P.Nodup → P[i]? = some x → vs[i]? = some v → kindOf x = some .local →
    bindL kindOf (P.zip vs) m x = some v
  | [], _, _, _, _, h, _, _ => by simp at h
  | _ :: _, [], _, _, _, _, h, _ => by simp at h
  | p :: P, w :: vs, 0, m, nd, h1, h2, hk => by
    simp at h1 h2; subst h1; subst h2
    show bindL kindOf ((p, w) :: P.zip vs) m p = _
    unfold bindL
    rw [bindL_out fun v hv => (List.nodup_cons.mp nd).1 (List.of_mem_zip hv).1, if_pos hk]
    simp
  | p :: P, w :: vs, i + 1, m, nd, h1, h2, hk => by
    show bindL kindOf ((p, w) :: P.zip vs) m x = _
    unfold bindL
    exact bindL_get (i := i) (List.nodup_cons.mp nd).2 (by simpa using h1) (by simpa using h2) hk
theorem bindC_get {kindOf : Str → Option NameKind} {x : Str} {v : Value} : ∀ {P : List Str} {vs : List Value} {i : Nat} {m : Str → Option Value}, P.Nodup → P[i]? = some x → vs[i]? = some v → kindOf x ≠ some .local →
    bindC kindOf (P.zip vs) m x = some v
  | [], _, _, _, _, h, _, _ => by simp at h
  | _ :: _, [], _, _, _, _, h, _ => by simp at h
  | p :: P, w :: vs, 0, m, nd, h1, h2, hk => by
    simp at h1 h2; subst h1; subst h2
    show bindC kindOf ((p, w) :: P.zip vs) m p = _
    unfold bindC
    rw [bindC_out fun v hv => (List.nodup_cons.mp nd).1 (List.of_mem_zip hv).1, if_neg hk]
    simp
  | p :: P, w :: vs, i + 1, m, nd, h1, h2, hk => by
    show bindC kindOf ((p, w) :: P.zip vs) m x = _
    unfold bindC
    exact bindC_get (i := i) (List.nodup_cons.mp nd).2 (by simpa using h1) (by simpa using h2) hk

/-- the names' values at the entry -/
def start (N : List Str) (vs : List V) : St := vs.map some ++ List.replicate (N.length - vs.length) none

/-- the context of a def's body, at its entry; an exception leaves the frame, then lies as CX says -/
def cxOf (CX : CXT) (P : Program) (w : World) (K : PySem.W.Frag) (mg : Str → Option Value) (base : Heap) (N : List Str) (qual : Str) (scope : Scope) (f : Addr) (cd : Value) (A : Around) (outer : List Env) (s : Shared) (H : Hp) (E : XK) : Cx where
  prog := P
  w := w
  K := K
  mg := mg
  base := base
  A := A.deeper (envOfC qual scope s.heap.objs.size f cd)
  N := N
  s₀ := s
  H₀ := H
  env := envOfC qual scope s.heap.objs.size f cd
  outer := outer
  stack := envOfC qual scope s.heap.objs.size f cd :: outer
  ex := []
  calm := true
  fn := fun _ => true
  pn := []
  xe := fun e s' => wpAny (model P w) (A.deeper (envOfC qual scope s.heap.objs.size f cd)) (leaving (envOfC qual scope s.heap.objs.size f cd) e) (fun _ s'' => CX outer H s E e s'') (fun e' s'' => CX outer H s E e' s'') s'

theorem cell_has {sc : Scope} {n : Nat} {x : Str} (h : sc.names.lookup x = some .cell) : ∃ c, (cellsFrom n sc.names []).lookup x = some c := by
  have q := PySem.W.cellsFrom_some sc.names n [] (.inl h)
  exact Option.isSome_iff_exists.mp q

theorem inv_start {CX : CXT} {P : Program} {w : World} {K : PySem.W.Frag} {mg : Str → Option Value} {base : Heap} {N ps : List Str} {qual : Str} {scope : Scope} {f : Addr} {cd : Value} {A : Around} {outer : List Env} {s s1 : Shared} {H : Hp} {E : XK} {us : List Value} {vs : List V}
    (S : FnScope N ps scope) (hd : A.handled = none) (e0 : Env0 P w K mg base A outer s H) (hl : vs.length = ps.length) (r : Vals vs us)
    (x : InCallC s s.heap.objs.size (bindL (envOfC qual scope s.heap.objs.size f cd).kindOf (ps.zip us) fun _ => none) (cellsFrom (s.heap.objs.size + 1) scope.names []) (bindC (envOfC qual scope s.heap.objs.size f cd).kindOf (ps.zip us) fun _ => none) s1) :
    Inv (cxOf CX P w K mg base N qual scope f cd A outer s H E) [] (start N vs) H s1 := by
  have hpl : ps.length ≤ N.length := by have := congrArg List.length S.pre; rw [List.length_take] at this; omega
  obtain ⟨h1, tk, rfl, hk⟩ := x.done
  have noA : ∀ b : Addr, b ∉ (cxOf CX P w K mg base N qual scope f cd A outer s H E).ex := fun b z => absurd (show b ∈ ([] : List Addr) from z) (by simp)
  refine ⟨⟨e0.mod, S.kind, rfl, rfl, Nat.le_refl _, fun y z c h1 h2 => ?_, fun y hy => ?_, fun y c _ h => ?_, fun _ => hd, Around.frames_deeper e0.frames, .inr ⟨rfl, rfl⟩, fun b z => absurd z (noA b), e0.bs, e0.bsz, fun b _ _ => noA b, fun b z => absurd z (noA b), e0.funs, e0.frf⟩,
    rfl, e0.bare, Un.kept hk, ⟨_, x.toInCall.ns, fun i y v h1 h2 h3 => ?_⟩, fun y c h => ⟨_, x.cell y c h⟩, e0.hok.fresh (Nat.le_refl _), fun y c h => ?_, fun p hp => absurd (show p ∈ ([] : List (Addr × Obj)) from hp) (by simp), e0.hok.kept hk, ?_⟩
  · exact name_of_addr x.apart (PySem.mem_of_lookup h1) (PySem.mem_of_lookup h2)
  · have hy : scope.names.lookup y = some .cell ∨ scope.names.lookup y = some .free := hy
    rcases hy with hy | hy
    · exact cell_has hy
    · exact absurd rfl (S.nofree _ (PySem.mem_of_lookup hy))
  · exact Nat.le_of_lt (x.above y c (PySem.mem_of_lookup h))
  · have hi : i < vs.length := by
      unfold start at h2
      by_cases hi : i < vs.length
      · exact hi
      · rw [List.getElem?_append_right (by simpa using hi)] at h2
        rw [List.getElem?_replicate] at h2
        split at h2 <;> cases h2
    have ha : vs[i]? = some v := by
      unfold start at h2
      rw [List.getElem?_append_left (by simpa using hi), List.getElem?_map] at h2
      cases e : vs[i]? with
      | none => rw [e] at h2; cases h2
      | some a => rw [e] at h2; cases h2; rfl
    obtain ⟨u, hu, rv⟩ := r.get ha
    have hp : ps[i]? = some y := by
      rw [← S.pre, List.getElem?_take_of_lt (by omega)]; exact h1
    have ndP : ps.Nodup := by rw [← S.pre]; exact S.nd.sublist (List.take_sublist _ _)
    refine ⟨u, rv, ?_⟩
    rcases S.par y (List.mem_of_getElem? hp) with k | k
    · exact .inl ⟨k, bindL_get ndP hp hu k⟩
    · obtain ⟨c, e⟩ := cell_has (n := s.heap.objs.size + 1) k
      refine .inr ⟨.inl k, c, e, ?_⟩
      have q := x.cell y c e
      rw [bindC_get ndP hp hu (by show scope.names.lookup y ≠ _; rw [k]; decide)] at q
      exact q
  · exact e0.hok.fresh (Nat.le_of_lt (x.above y c (PySem.mem_of_lookup h)))
  · unfold start
    show _ = N.length
    rw [List.length_append, List.length_map, List.length_replicate]
    omega

/-- THE RULE: a def (or a method) of the text, by its body. The body's reading t is chosen for each entry; it is run at the parameters' values -/
theorem fn_of {CX : CXT} {P : Program} {w : World} {K : PySem.W.Frag} {mg : Str → Option Value} {base : Heap} {k : Nat} {f : Addr} {name qual : Str} {params : Arguments} {body : List Stmt} {scope : Scope} {dV kV doc pm cdv ct oc : Value} {an od : Option Addr}
    {osl : Array (Option Value)} {N ps : List Str} {sp : Sp} (lk : K.lookup f = some ⟨oc, od, .func (PySem.W.fnOf name qual params body scope dV kV doc pm an cdv ct), osl⟩) (hcd : PySem.W.codeIn K cdv qual = true) (S : FnScope N ps scope)
    (len : ∀ vs H Q E, sp vs H Q E → vs.length = ps.length)
    (hbody : ∀ (A : Around) (outer : List Env) (s : Shared) (H : Hp) (vs : List V) (Q : VK) (E : XK), Room k (A.deeper (envOfC qual scope s.heap.objs.size f cdv)) → sp vs H Q E →
      ∃ t, PSs (cxOf CX P w K mg base N qual scope f cdv A outer s H E) body t ∧ t { nx := fun _ H' => Q .non H', rt := Q } (start N vs) H) :
    FnOk P w K mg base CX (k + 1) f (PySem.W.fnOf name qual params body scope dV kV doc pm an cdv ct) ps sp := by
  refine ⟨len, fun A outer s H args us vs Q E hr e0 hb r hsp => ?_⟩
  have hl := len _ _ _ _ hsp
  have KX : K.In s.heap := e0.mod.kin.keeps fun b o e => (e0.bs b o e).1
  have lim : s.heap.NoLimit := e0.mod.nolimit.keeps fun b o e => (e0.bs b o e).1
  have hkind : ∀ y ∈ ps.zip us, scope.names.lookup y.1 = some .local ∨ (scope.names.lookup y.1 = some .cell ∧ ((cellsFrom (s.heap.objs.size + 1) scope.names []).lookup y.1).isSome = true) := fun ⟨n, v⟩ hy => by
    rcases S.par n (List.of_mem_zip hy).1 with q | q
    · exact .inl q
    · exact .inr ⟨q, PySem.W.cellsFrom_some _ _ _ (.inl q)⟩
  refine codeAny_call_function hr.depth (KX _ _ lk) rfl S.co S.gen rfl (PySem.W.codeRec_of KX hcd) (hb _ _ _ _ ?_)
  refine wpAny_newFunctionEnv_cells S.kind hkind fun env he s1 x => ?_
  subst he
  refine ⟨lim.keeps x.toInCall.keep, codeAny_func ?_⟩
  obtain ⟨t, ht, hq⟩ := hbody A outer s H vs Q E (hr.deeper _) hsp
  have I : Inv (cxOf CX P w K mg base N qual scope f cdv A outer s H E) [] (start N vs) H s1 := inv_start S hr.hd e0 hl r x
  refine wpAny_mono (ht [] s1 (start N vs) H _ I hq) (fun fl s' hs => ?_) fun e s' hs => hs
  have fin : ∀ {σ' : St} {H' : Hp} {v : V} {u : Value}, Inv (cxOf CX P w K mg base N qual scope f cdv A outer s H E) [] σ' H' s' → RelV v u → Q v H' → CE outer P w H s Q u s' :=
    fun {σ' H' v u} J rv q => ⟨v, H', J.os, J.bare, J.base, J.hok, rv, q⟩
  cases fl with
  | ret u =>
    obtain ⟨v, σ', H', J, rv, q⟩ := hs
    exact fin J rv q
  | next =>
    obtain ⟨σ', H', J, q⟩ := hs
    exact fin (v := V.non) (u := Value.none) J rfl q
  | brk =>
    obtain ⟨_, _, _, q⟩ := hs
    exact False.elim q
  | cont =>
    obtain ⟨_, _, _, q⟩ := hs
    exact False.elim q
end L2

namespace L2
open PySem PySem.Spec PyProof.Rows
section
variable {X : Cx} {x : Str} {p pos : Pos} {e : Expr} {es : List Expr} {t : TA} {id T : String} {r : List V → Hp → VK → Prop}

def tCB (r : List V → Hp → VK → Prop) (t : TA) : TE := fun σ H Q => t σ H fun vs H1 => r vs H1 Q
/-- f(e, ..), f a built-in function -/
theorem pe_callB (hc : CallR X (.builtin id) r) (hg : Gl X x) (hm : X.mg x = none) (hv : bootBuiltins x = some (.builtin id)) (ha : PA X (e :: es) t) (hn : x ≠ "__name__" := by decide) (hdb : (x == ("__debug__" : Str)) = false := by decide)
    (he : starEach (e :: es) X.env = (false, eval e X.env) :: starEach es X.env := by rfl) (hpl : (backTo pos (starEach es X.env)).any (·.1) = false := by rfl) : PE X (.Call (.Name x p) (e :: es) [] pos) (tCB r t) := by
  intro pins s σ H Q I h
  refine wpAny_Call_Name_kw (ld_blt I hg hm hv ?_ hn hdb)
  exact PyProof.Rows.callWith_builtin1 (thn (ha pos pins s σ H _ I h) fun us s1 ⟨vs, H1, I1, r1, q1⟩ => hc pins s1 σ H1 vs us Q I1 r1 q1) he hpl
/-- T(e, ..), T a built-in type -/
theorem pe_callTy (hc : CallR X (.type T) r) (hg : Gl X x) (hm : X.mg x = none) (hv : bootBuiltins x = some (.type T)) (ha : PA X (e :: es) t) (hn : x ≠ "__name__" := by decide) (hdb : (x == ("__debug__" : Str)) = false := by decide)
    (he : starEach (e :: es) X.env = (false, eval e X.env) :: starEach es X.env := by rfl) (hpl : (backTo pos (starEach es X.env)).any (·.1) = false := by rfl) : PE X (.Call (.Name x p) (e :: es) [] pos) (tCB r t) := by
  intro pins s σ H Q I h
  refine wpAny_Call_Name_kw (ld_blt I hg hm hv ?_ hn hdb)
  exact PyProof.Rows.callWith_type1 (thn (ha pos pins s σ H _ I h) fun us s1 ⟨vs, H1, I1, r1, q1⟩ => hc pins s1 σ H1 vs us Q I1 r1 q1) he hpl
end
end L2

namespace HT
open PySem PyProof.Rows

section
open PySem.SeqAt
open PySem.AutoSeq1 (wpAny_loadPart')
open PySem.MeetsSeq PySem.MeetsSeq2 PySem.MeetsSeq3

end

section
variable {prog : Program} {w : World} {A : Around} {E : Value → Shared → Prop} {s : Shared}

/-- a slice's bound as a place among n (d where it is left out) -/
def sIx (n d : Nat) : Option Int → Nat
  | none => d
  | some v => if v < 0 then (v + (n : Int)).toNat else min v.toNat n
theorem sIx_none (n d : Nat) : sIx n d none = d := rfl
theorem sIx_nat (n d k : Nat) : sIx n d (some (k : Int)) = min k n := by
  show (if (k : Int) < 0 then ((k : Int) + (n : Int)).toNat else min (k : Int).toNat n) = min k n
  rw [if_neg (by omega), Int.toNat_natCast]
theorem sIx_le (n d : Nat) (hd : d ≤ n) (o : Option Int) : sIx n d o ≤ n := by
  cases o with
  | none => exact hd
  | some v =>
    show (if v < 0 then (v + (n : Int)).toNat else min v.toNat n) ≤ n
    by_cases hv : v < 0
    · rw [if_pos hv]; omega
    · rw [if_neg hv]; exact Nat.min_le_right _ _
theorem clip_eq (v : Int) (n d : Nat) : (if v < 0 then max (v + (n : Int)) 0 else min v (n : Int)) = ((sIx n d (some v) : Nat) : Int) := by
  show (if v < 0 then max (v + (n : Int)) 0 else min v (n : Int)) = (((if v < 0 then (v + (n : Int)).toNat else min v.toNat n) : Nat) : Int)
  by_cases hv : v < 0
  · simp only [if_pos hv]; omega
  · simp only [if_neg hv]; omega
theorem adjust_gen (lo hi : Option Int) (n : Nat) : Builtin.Slice.sliceAdjust lo hi 1 (n : Int) = (((sIx n 0 lo : Nat) : Int), ((sIx n n hi : Nat) : Int)) := by
  have h1 : ¬ ((1 : Int) < 0) := by omega
  unfold Builtin.Slice.sliceAdjust
  simp only [h1, if_false]
  refine Prod.ext ?_ ?_
  · cases lo with
    | none => rfl
    | some v => exact clip_eq v n 0
  · cases hi with
    | none => rfl
    | some v => exact clip_eq v n n
theorem places_gen (i j : Nat) : Builtin.Slice.slicePlaces (i : Int) (j : Int) 1 = j - i := by
  unfold Builtin.Slice.slicePlaces
  have h1 : (1 : Int) > 0 := by omega
  simp only [h1, if_true, Int.ediv_one]
  split <;> omega
theorem slicePart_ {v : Value} {o : Option Int} {Q : Option Int → Shared → Prop} (p : IsPart v o) (h : Q o s) : wpAny (model prog w) A (Builtin.Slice.slicePartIndex v) Q E s := by
  cases p with
  | none => exact slicePart_none h
  | int i t => exact slicePart_int h
theorem sliceApplied_gen {sl : Addr} {vl vu : Value} {lo hi : Option Int} {n : Nat} {Q : Int × Int × Nat → Shared → Prop} (hs : s.heap.IsSliceOf sl vl vu .none) (pl : IsPart vl lo) (pu : IsPart vu hi)
    (h : Q (((sIx n 0 lo : Nat) : Int), 1, sIx n n hi - sIx n 0 lo) s) : wpAny (model prog w) A (Builtin.Slice.sliceApplied (.ref sl) (pure (n : Int))) Q E s := by
  obtain ⟨os, hos, hcs, hds⟩ := id hs
  unfold Builtin.Slice.sliceApplied Builtin.Slice.sliceFields
  refine wpAny_bind (wpAny_bind (wpAny_field hos hds (x := vl) rfl (wpAny_bind (wpAny_field hos hds (x := vu) rfl (wpAny_bind (wpAny_field hos hds (x := .none) rfl (wpAny_pure ?_)))))))
  refine wpAny_bind (slicePart_none ?_)
  show wpAny _ _ (if ((1 : Int) == 0) = true then _ else _) _ _ s
  rw [if_neg (by decide)]
  refine wpAny_bind (slicePart_ pl (wpAny_bind (slicePart_ pu (wpAny_bind (wpAny_pure ?_)))))
  show wpAny _ _ (match Builtin.Slice.sliceAdjust lo hi 1 (n : Int) with | (lo, hi) => pure (lo, (1 : Int), Builtin.Slice.slicePlaces lo hi 1)) _ _ s
  rw [adjust_gen lo hi n]
  show wpAny _ _ (pure (((sIx n 0 lo : Nat) : Int), (1 : Int), Builtin.Slice.slicePlaces ((sIx n 0 lo : Nat) : Int) ((sIx n n hi : Nat) : Int) 1)) _ _ s
  rw [places_gen]
  exact wpAny_pure h
theorem pick_gen (xs : Array Value) (i k : Nat) : ((List.range k).filterMap fun (m : Nat) => xs[((i : Int) + (m : Int) * 1).toNat]?).toArray = ((xs.toList.drop i).take k).toArray := by
  have e : (fun (m : Nat) => xs[((i : Int) + (m : Int) * 1).toNat]?) = fun m => xs[i + m]? := by
    funext m
    have : ((i : Int) + (m : Int) * 1).toNat = i + m := by omega
    rw [this]
  rw [e]
  have := pick_run xs i k
  rw [List.filterMap_map] at this
  have e2 : ((fun x => xs[x]?) ∘ fun x => i + x) = fun m => xs[i + m]? := rfl
  rw [e2] at this
  rw [this]

theorem getItem_tuple_cut {t sl : Addr} {items : Array Value} {vl vu : Value} {lo hi : Option Int} {Q : Value → Shared → Prop} (ht : IsTup s.heap t items) (hs : s.heap.IsSliceOf sl vl vu .none) (pl : IsPart vl lo) (pu : IsPart vu hi)
    (hw : ¬ (sIx items.size 0 lo = 0 ∧ sIx items.size items.size hi = items.size))
    (h : Q (.ref s.heap.objs.size) { s with heap := s.heap.push { cls := .type "tuple", data := .seq ((items.toList.drop (sIx items.size 0 lo)).take (sIx items.size items.size hi - sIx items.size 0 lo)).toArray } })
    (hsz : items.size ≤ sizeLine) : wpAny (model prog w) A (getItem (.ref t) (.ref sl)) Q E s := by
  have htake : sizeOk (.seq ((items.toList.drop (sIx items.size 0 lo)).take (sIx items.size items.size hi - sIx items.size 0 lo)).toArray) := by
    show ((items.toList.drop (sIx items.size 0 lo)).take (sIx items.size items.size hi - sIx items.size 0 lo)).toArray.size ≤ sizeLine
    rw [List.size_toArray, List.length_take, List.length_drop, Array.length_toList]
    omega
  have hj : sIx items.size items.size hi ≤ items.size := sIx_le _ _ (Nat.le_refl _) hi
  obtain ⟨os, hos, hcs, hds⟩ := id hs
  have hTs : s.TypeIs (.ref sl) "slice" := ⟨os, hos, hcs⟩
  unfold getItem
  try with_reducible refine wpAny_holding ?_
  first | refine wpAny_bind (wpAny_pure ?_) | skip
  refine wpAny_bind (wpAny_sequenceKey ht.typeIs (by decide) ?_)
  refine wpAny_bind (wpAny_callSpecial?_slot (name := Str.ofString "__getitem__") ht.typeIs PyProof.Rows.slot_tuple_getitem
    (wpAny_call_entry PyProof.Rows.slot_tuple_getitem ht.typeIs entry_tuple_getitem ?_ (args_tuple_getitem _ _)))
  show wpAny _ _ (Builtin.Tuple.tupleItemsOf (.ref t) >>= _) _ _ s
  refine wpAny_bind (tupleItemsOf_ ht ?_)
  refine wpAny_bind (wpAny_typeOf hTs ?_)
  rw [if_pos (by decide)]
  refine wpAny_bind (sliceApplied_gen hs pl pu ?_)
  have hno : ¬ ((((sIx items.size 0 lo : Nat) : Int) == 0 && (1 : Int) == 1 && (sIx items.size items.size hi - sIx items.size 0 lo) == items.size) = true) := by
    intro q
    rw [Bool.and_eq_true, Bool.and_eq_true] at q
    have q1 : ((sIx items.size 0 lo : Nat) : Int) = 0 := eq_of_beq q.1.1
    have q2 : sIx items.size items.size hi - sIx items.size 0 lo = items.size := eq_of_beq q.2
    exact hw ⟨by omega, by omega⟩
  show wpAny _ _ (if (((sIx items.size 0 lo : Nat) : Int) == 0 && (1 : Int) == 1 && (sIx items.size items.size hi - sIx items.size 0 lo) == items.size) = true then _ else _) _ _ s
  rw [if_neg hno, pick_gen]
  first
    | exact wpAny_bind (m := Builtin.Tuple.tupleExact _) (wpAny_newObj_type (wpAny_pure ⟨_, rfl, wpAny_pure h⟩) htake)
    | exact wpAny_bind (m := Builtin.Tuple.tupleExact _) (wpAny_newObj_type (wpAny_bind (wpAny_pure (wpAny_pure ⟨_, rfl, wpAny_pure h⟩))) htake)
    | exact wpAny_bind (wpAny_bind (m := Builtin.Tuple.tupleExact _) (wpAny_newObj_type (wpAny_pure (wpAny_pure ⟨_, rfl, wpAny_pure h⟩)) htake))
    | exact wpAny_bind (wpAny_bind (m := Builtin.Tuple.tupleExact _) (wpAny_newObj_type (wpAny_pure ⟨_, rfl, wpAny_pure h⟩) htake))
end
end HT

namespace L2
open PySem PySem.Spec PyProof.Rows

abbrev TO := St → Hp → (Option Int → Hp → Prop) → Prop
/-- a slice's part (left out, or an int) -/
def PO (X : Cx) (e : Option Expr) (t : TO) : Prop :=
  ∀ (pins : List (Addr × Obj)) (s : Shared) (σ : St) (H : Hp) (Q : Option Int → Hp → Prop), Inv X pins σ H s → t σ H Q →
    wpAny (model X.prog X.w) X.A (evalPart e X.env) (fun u s' => ∃ o H', Inv X pins σ H' s' ∧ IsPart u o ∧ Q o H') X.xe s
def tNoPart : TO := fun _ H Q => Q none H
def tPart (t : TE) : TO := fun σ H Q => t σ H fun x H1 => ∃ i, x = .int i ∧ Q (some i) H1

section
variable {X : Cx} {e : Expr} {te : TE} {lo hi : Option Expr} {tl th : TO} {pos p2 : Pos}

theorem po_none : PO X none tNoPart := by
  intro pins s σ H Q I h
  rw [evalPart_none]
  exact wpAny_pure ⟨none, H, I, .none, h⟩
theorem po_some (h : PE X e te) : PO X (some e) (tPart te) := by
  intro pins s σ H Q I hw
  rw [evalPart_some]
  refine thn (h pins s σ H _ I hw) fun u s1 ⟨x, H1, I1, r1, q1⟩ => ?_
  obtain ⟨i, rfl, q⟩ := q1
  obtain ⟨t, rfl⟩ := r1
  exact ⟨some i, H1, I1, .int i t, q⟩

/-- what a slice of a value is, by values: the slice object stands at sl -/
def SlR (X : Cx) (r : V → Option Int → Option Int → Hp → VK → Prop) : Prop :=
  ∀ (pins : List (Addr × Obj)) (s : Shared) (σ : St) (H : Hp) (x : V) (v vl vu : Value) (lo hi : Option Int) (sl : Addr) (Q : VK), Inv X pins σ H s → RelV x v → s.heap.IsSliceOf sl vl vu .none → IsPart vl lo → IsPart vu hi → r x lo hi H Q →
    ∃ T id, typeLookup (.type T) "__getitem__" = pure (some (.builtin id)) ∧ s.TypeIs v T ∧ wpAny (model X.prog X.w) X.A (getItem v (.ref sl)) (EP X pins σ Q) X.xe s
theorem SlR.or {r r' : V → Option Int → Option Int → Hp → VK → Prop} (h : SlR X r) (h' : SlR X r') : SlR X (fun x lo hi H Q => r x lo hi H Q ∨ r' x lo hi H Q) := by
  intro pins s σ H x v vl vu lo hi sl Q I rx hs pl pu q
  rcases q with q | q
  · exact h pins s σ H x v vl vu lo hi sl Q I rx hs pl pu q
  · exact h' pins s σ H x v vl vu lo hi sl Q I rx hs pl pu q
def tSl (r : V → Option Int → Option Int → Hp → VK → Prop) (te : TE) (tl th : TO) : TE := fun σ H Q => te σ H fun x H1 => tl σ H1 fun l H2 => th σ H2 fun u H3 => r x l u H3 Q
/-- a[lo:hi], any a -/
theorem pe_slice {r : V → Option Int → Option Int → Hp → VK → Prop} (hr : SlR X r) (he : PE X e te) (hl : PO X lo tl) (hu : PO X hi th) : PE X (.Subscript e (.Slice lo hi none p2) pos) (tSl r te tl th) := by
  intro pins s σ H Q I h
  refine Subscript_ (thn (he pins s σ H _ I h) fun v s1 ⟨x, H1, I1, r1, q1⟩ => ?_)
  refine wpAny_Slice (thn (hl pins s1 σ H1 _ I1 q1) fun vl s2 ⟨l, H2, I2, pl, q2⟩ => thn (hu pins s2 σ H2 _ I2 q2) fun vu s3 ⟨u, H3, I3, pu, q3⟩ => ?_)
  rw [evalPart_none]
  refine wpAny_pure ?_
  have I4 : Inv X pins σ H3 { s3 with heap := s3.heap.push { cls := .type "slice", data := .fields #[vl, vu, .none] } } := I3.kept (t' := s3.toks) fun b ob q => Heap.get?_push_of_some _ q
  obtain ⟨T, id, hT, ht, hg⟩ := hr pins { s3 with heap := s3.heap.push { cls := .type "slice", data := .fields #[vl, vu, .none] } } σ H3 x v vl vu l u s3.heap.objs.size Q I4 r1 (Heap.IsSliceOf.new ..) pl pu q3
  show wpAny (model X.prog X.w) X.A (subscriptTail e (.Slice lo hi none p2) v (.ref s3.heap.objs.size)) (EP X pins σ Q) X.xe { s3 with heap := s3.heap.push { cls := .type "slice", data := .fields #[vl, vu, .none] } }
  exact tail_any (ops := [.ref s3.heap.objs.size, v]) ht hT hg (by with_unfolding_all rfl)

/-- the items of xs[lo:hi] -/
def cutV (xs : List V) (lo hi : Option Int) : List V := (xs.drop (HT.sIx xs.length 0 lo)).take (HT.sIx xs.length xs.length hi - HT.sIx xs.length 0 lo)
theorem cutV_length (xs : List V) (lo hi : Option Int) : (cutV xs lo hi).length ≤ xs.length := by
  unfold cutV
  rw [List.length_take, List.length_drop]
  omega
/-- t[lo:hi], not the whole of it (the whole would be t itself) -/
def rSlT (K : PySem.W.Frag) : V → Option Int → Option Int → Hp → VK → Prop := fun x lo hi H Q => ∃ a xs, x = .ref a ∧ SqT K H a xs ∧
  ¬ (HT.sIx xs.length 0 lo = 0 ∧ HT.sIx xs.length xs.length hi = xs.length) ∧ ∀ p, H p = none → Q (.ref p) (upd H p (.tup (cutV xs lo hi)))
theorem sl_tup : SlR X (rSlT X.K) := by
  intro pins s σ H x v vl vu lo hi sl Q I rx hs pl pu h
  obtain ⟨a, xs, rfl, hx, hw, q⟩ := h
  cases rx
  obtain ⟨its, r, ht, hz⟩ := I.tuple hx
  have hlen : its.toArray.size = xs.length := by rw [List.size_toArray]; exact r.length.symm
  refine ⟨"tuple", _, PyProof.Rows.slot_tuple_getitem.lookup, ht.typeIs, ?_⟩
  refine HT.getItem_tuple_cut ht hs pl pu (by rw [hlen]; exact hw) ?_ (by rw [hlen]; exact hz)
  rw [hlen]
  refine ⟨.ref s.heap.objs.size, _, I.laid (t' := s.toks) (o := .tup (cutV xs lo hi)) (fun b ob q => Heap.get?_push_of_some _ q) (Nat.le_refl _) ?_, rfl, q _ (I.hok.fresh (Nat.le_refl _))⟩
  exact ⟨Nat.le_trans (cutV_length xs lo hi) hz, _, (r.drop (HT.sIx xs.length 0 lo)).take (HT.sIx xs.length xs.length hi - HT.sIx xs.length 0 lo), IsTup.new _ _⟩

end
end L2

namespace L2
open PySem PySem.Spec PyProof.Rows

/-- the place that an index of any sign means -/
def ixN (n : Nat) (i : Int) : Option Nat := if 0 ≤ i then (if i < n then some i.toNat else none) else if -(n : Int) ≤ i then some (i + n).toNat else none
def atI {α : Type} (xs : List α) (i : Int) : Option α := (ixN xs.length i).bind fun j => xs[j]?
theorem ixN_seq {n : Nat} {i : Int} {j : Nat} (h : ixN n i = some j) : seqIndex? i n = some j ∧ j < n ∧ -(n : Int) ≤ i ∧ i < n := by
  unfold ixN at h
  by_cases h0 : 0 ≤ i
  · rw [if_pos h0] at h
    by_cases h1 : i < n
    · rw [if_pos h1] at h
      have e : i.toNat = j := Option.some.inj h
      exact ⟨by rw [seqIndex_of h0 h1, e], by omega, by omega, h1⟩
    · rw [if_neg h1] at h; cases h
  · rw [if_neg h0] at h
    by_cases h1 : -(n : Int) ≤ i
    · rw [if_pos h1] at h
      have e : (i + n).toNat = j := Option.some.inj h
      exact ⟨by rw [seqIndex_neg (by omega) h1, e], by omega, h1, by omega⟩
    · rw [if_neg h1] at h; cases h
theorem atI_get {α : Type} {xs : List α} {i : Int} {v : α} (h : atI xs i = some v) : ∃ j, seqIndex? i xs.length = some j ∧ xs[j]? = some v ∧ j < xs.length ∧ -(xs.length : Int) ≤ i ∧ i < xs.length := by
  unfold atI at h
  cases e : ixN xs.length i with
  | none => rw [e] at h; cases h
  | some j =>
    rw [e] at h
    obtain ⟨h1, h2, h3, h4⟩ := ixN_seq e
    exact ⟨j, h1, h, h2, h3, h4⟩
theorem atI_nat {α : Type} {xs : List α} {j : Nat} {v : α} (h : xs[j]? = some v) : atI xs (j : Int) = some v := by
  have hj : j < xs.length := (List.getElem?_eq_some_iff.mp h).1
  have e : ixN xs.length (j : Int) = some j := by
    unfold ixN
    rw [if_pos (by omega), if_pos (by omega)]; simp
  unfold atI; rw [e]; exact h
theorem atI_last {α : Type} (xs : List α) (v : α) : atI (xs ++ [v]) (-1) = some v := by
  have hl : (xs ++ [v]).length = xs.length + 1 := by simp
  have e : ixN (xs ++ [v]).length (-1) = some xs.length := by
    unfold ixN
    rw [hl, if_neg (by decide), if_pos (by omega)]
    congr 1
    omega
  unfold atI
  rw [e]
  show (xs ++ [v])[xs.length]? = some v
  simp

/-- what stands as an index of a plain subscript -/
def PlainIx (b : Expr) : Prop := ∀ o i, subscripted b false o i = operate [o, i] (getItem o i)
/-- a subscript by values -/
def IxR (X : Cx) (r : R2) : Prop :=
  ∀ (value slice : Expr) (pins : List (Addr × Obj)) (s : Shared) (σ : St) (H : Hp) (x y : V) (v u : Value) (Q : VK), Inv X pins σ H s → RelV x v → RelV y u → r x y H Q →
    subscripted slice false v u = operate [v, u] (getItem v u) → wpAny (model X.prog X.w) X.A (subscriptTail value slice v u) (EP X pins σ Q) X.xe s
/-- a call of a builtin's method by values: the receiver, the arguments -/
def MtR (X : Cx) (id : String) (r : V → List V → Hp → VK → Prop) : Prop :=
  ∀ (pins : List (Addr × Obj)) (s : Shared) (σ : St) (H : Hp) (x : V) (xs : List V) (v : Value) (us : List Value) (Q : VK), Inv X pins σ H s → RelV x v → Vals xs us → r x xs H Q →
    wpAny (model X.prog X.w) X.A (call (.builtin id) (v :: us)) (EP X pins σ Q) X.xe s
section
variable {X : Cx} {a b : Expr} {ta tb : TE} {pos : Pos}
theorem IxR.or {r r' : R2} (h : IxR X r) (h' : IxR X r') : IxR X (fun x y H Q => r x y H Q ∨ r' x y H Q) := by
  intro value slice pins s σ H x y v u Q I rx ry q hs
  rcases q with q | q
  · exact h value slice pins s σ H x y v u Q I rx ry q hs
  · exact h' value slice pins s σ H x y v u Q I rx ry q hs
/-- a[b] -/
theorem pe_ix {r : R2} (hr : IxR X r) (ha : PE X a ta) (hb : PE X b tb) (hs : PlainIx b) : PE X (.Subscript a b pos) (tOp r ta tb) := by
  intro pins s σ H Q I h
  exact Subscript_ (binT ha hb I h fun v u s2 x y H2 I2 rx ry q => hr a b pins s2 σ H2 x y v u Q I2 rx ry q (hs _ _))

def rIxL (K : PySem.W.Frag) : R2 := fun x y H Q => ∃ p xs i v, x = .ref p ∧ y = .int i ∧ SqL K H p xs ∧ atI xs i = some v ∧ Q v H
def rIxT (K : PySem.W.Frag) : R2 := fun x y H Q => ∃ p xs i v, x = .ref p ∧ y = .int i ∧ SqT K H p xs ∧ atI xs i = some v ∧ Q v H
def rIxS : R2 := fun x y H Q => ∃ z i c, x = .str z ∧ y = .int i ∧ z.length ≤ sizeLine ∧ atI z.cps.toList i = some c ∧ Q (.str ⟨#[c]⟩) H
theorem ix_list : IxR X (rIxL X.K) := by
  intro value slice pins s σ H x y v u Q I rx ry h hs
  obtain ⟨p, xs, i, z, rfl, rfl, hq, he, q⟩ := h
  cases rx
  obtain ⟨t, rfl⟩ := ry
  obtain ⟨its, r, pl, hz⟩ := I.list hq
  obtain ⟨j, h1, h2, h3, h4, h5⟩ := atI_get he
  obtain ⟨w, ew, rw'⟩ := r.get h2
  have hl := r.length
  have hn := line63
  have fin : EP X pins σ Q w s := ⟨z, H, I, rw', q⟩
  by_cases h0 : 0 ≤ i
  · have hj : i.toNat = j := by
      rw [seqIndex_of h0 h5] at h1
      exact Option.some.inj h1
    exact item_listR pl.isList h0 (by omega) (by rw [hj]; simpa using ew) fin hs
  · have hj : (i + (its.toArray.size : Int)).toNat = j := by
      rw [seqIndex_neg (by omega) h4] at h1
      rw [List.size_toArray, ← hl]
      exact Option.some.inj h1
    exact subscriptTail_builtinR (x := w) pl.isList.typeIs slot_list_getitem.lookup
      (wpAny_getItem_list_neg (Q := fun r s' => r = w ∧ EP X pins σ Q r s') pl.isList (by omega) (by rw [List.size_toArray] <;> omega) (by omega) (by rw [hj]; simpa using ew) ⟨rfl, fin⟩) hs
theorem ix_tup : IxR X (rIxT X.K) := by
  intro value slice pins s σ H x y v u Q I rx ry h hs
  obtain ⟨p, xs, i, z, rfl, rfl, hq, he, q⟩ := h
  cases rx
  obtain ⟨t, rfl⟩ := ry
  obtain ⟨its, r, pl, hz⟩ := I.tuple hq
  obtain ⟨j, h1, h2, h3, h4, h5⟩ := atI_get he
  obtain ⟨w, ew, rw'⟩ := r.get h2
  have hl := r.length
  have hn := line63
  have fin : EP X pins σ Q w s := ⟨z, H, I, rw', q⟩
  exact subscriptTail_builtinR (x := w) pl.typeIs slot_tuple_getitem.lookup
    (getItem_tuple (j := j) (Q := fun r s' => r = w ∧ EP X pins σ Q r s') pl (by omega) (by omega) (by rw [List.size_toArray, ← hl]; exact h1) (by simpa using ew) ⟨rfl, fin⟩) hs
theorem ix_str : IxR X rIxS := by
  intro value slice pins s σ H x y v u Q I rx ry h hs
  obtain ⟨z, i, c, rfl, rfl, hz, he, q⟩ := h
  obtain ⟨t, rfl⟩ := rx
  obtain ⟨t', rfl⟩ := ry
  obtain ⟨j, h1, h2, h3, h4, h5⟩ := atI_get he
  have hl : z.cps.toList.length = z.length := by simp [Str.length]
  rw [hl] at h1 h4 h5
  have hn := line63
  exact tail_any (typeIs_str s z t) slot_str_getitem.lookup (getItem_str (c := c) (by
    have e1 : decide (i < -(2 ^ 63 : Int)) = false := decide_eq_false (by omega)
    have e2 : decide (i ≥ 2 ^ 63) = false := decide_eq_false (by omega)
    rw [e1, e2, Bool.or_false]) (by rw [h1]; simpa using h2) ⟨.str ⟨#[c]⟩, H, I.tok _, ⟨_, rfl⟩, q⟩) hs
/-- list, tuple or str -/
def rIx (K : PySem.W.Frag) : R2 := fun x y H Q => rIxL K x y H Q ∨ rIxT K x y H Q ∨ rIxS x y H Q
theorem ix_seq : IxR X (rIx X.K) := ix_list.or (ix_tup.or ix_str)

theorem slice_bounds (lo hi : Option Int) (n : Nat) : (sliceBounds lo hi none n).1 = ((HT.sIx n 0 lo : Nat) : Int) ∧ (sliceBounds lo hi none n).2.1 = ((HT.sIx n n hi : Nat) : Int) ∧ (sliceBounds lo hi none n).2.2 = 1 := by
  refine ⟨?_, ?_, rfl⟩
  · cases lo with
    | none => simp [sliceBounds, HT.sIx]
    | some i =>
      simp only [sliceBounds, HT.sIx, Option.getD_none, show (1 : Int) > 0 by decide, if_true]
      by_cases h : i < 0
      · simp only [h, if_true] <;> omega
      · simp only [h, if_false] <;> omega
  · cases hi with
    | none => simp [sliceBounds, HT.sIx]
    | some i =>
      simp only [sliceBounds, HT.sIx, Option.getD_none, show (1 : Int) > 0 by decide, if_true]
      by_cases h : i < 0
      · simp only [h, if_true] <;> omega
      · simp only [h, if_false] <;> omega
theorem slicePick_cut (its : List Value) (lo hi : Option Int) : slicePick its.toArray lo hi none = ((its.drop (HT.sIx its.length 0 lo)).take (HT.sIx its.length its.length hi - HT.sIx its.length 0 lo)).toArray := by
  obtain ⟨h1, h2, h3⟩ := slice_bounds lo hi its.toArray.size
  unfold slicePick
  rw [h1, h2, h3]
  simp only [sliceRange_one, pick_run, List.size_toArray] <;> rfl
/-- xs[lo:hi] of a list: a new list -/
def rSlL (K : PySem.W.Frag) : V → Option Int → Option Int → Hp → VK → Prop := fun x lo hi H Q => ∃ a xs, x = .ref a ∧ SqL K H a xs ∧ ∀ p, H p = none → Q (.ref p) (upd H p (.lst (cutV xs lo hi)))
theorem sl_list : SlR X (rSlL X.K) := by
  intro pins s σ H x v vl vu lo hi sl Q I rx hs pl pu h
  obtain ⟨a, xs, rfl, hx, q⟩ := h
  cases rx
  obtain ⟨its, r, ht, hz⟩ := I.list hx
  have hlen := r.length
  refine ⟨"list", _, slot_list_getitem.lookup, ht.isList.typeIs, ?_⟩
  refine wpAny_getItem_list_slice ht.isList hs pl pu .none (by simp) ?_ (by rw [List.size_toArray] <;> omega)
  rw [slicePick_cut, ← hlen]
  refine ⟨.ref s.heap.objs.size, _, I.laid (t' := s.toks) (o := .lst (cutV xs lo hi)) (fun b ob q => Heap.get?_push_of_some _ q) (Nat.le_refl _) ?_, rfl, q _ (I.hok.fresh (Nat.le_refl _))⟩
  exact ⟨Nat.le_trans (cutV_length xs lo hi) hz, _, 0, (r.drop (HT.sIx xs.length 0 lo)).take (HT.sIx xs.length xs.length hi - HT.sIx xs.length 0 lo), Heap.get?_push_size _ rfl⟩

theorem call_list_of : CallR X (.type "list") (fun xs H Q => ∃ p ys, xs = [.ref p] ∧ (SqL X.K H p ys ∨ SqT X.K H p ys) ∧ ∀ l, H l = none → Q (.ref l) (upd H l (.lst ys))) := by
  intro pins s σ H xs us Q I r h
  obtain ⟨p, ys, rfl, hq, q⟩ := h
  obtain ⟨u, rfl, rx⟩ := vals1 r
  cases rx
  have fin : ∀ (its : List Value), Vals ys its → ys.length ≤ sizeLine → ∀ (h' : Heap) (c' : Nat), (∀ b o', s.heap.get? b = some o' → h'.get? b = some o') →
      h'.get? s.heap.objs.size = some { cls := .type "list", dict := none, data := .seq its.toArray c', slots := #[] } → EP X pins σ Q (.ref s.heap.objs.size) { s with heap := h' } := fun its r' hz h' c' kp e =>
    ⟨.ref s.heap.objs.size, _, I.laid (t' := s.toks) kp (Nat.le_refl _) (show ObjOk X.prog X.w _ h' _ (.lst ys) from ⟨hz, its, c', r', e⟩), rfl, q _ (I.hok.fresh (Nat.le_refl _))⟩
  rcases hq with hq | hq
  · obtain ⟨its, r', pl, hz⟩ := I.list hq
    have hlen := r'.length
    obtain ⟨o, ho, hc, n, hd⟩ := pl.isList
    exact call_list_seq p (.inl rfl) ho hc hd (fun h' c' kp e => fin its r' hz h' c' kp e) (by simp only [List.size_toArray] <;> omega)
  · obtain ⟨its, r', pl, hz⟩ := I.tuple hq
    have hlen := r'.length
    obtain ⟨o, ho, hc, n, hd⟩ := pl
    exact call_list_seq p (.inr rfl) ho hc hd (fun h' c' kp e => fin its r' hz h' c' kp e) (by simp only [List.size_toArray] <;> omega)
theorem call_tuple_of : CallR X (.type "tuple") (fun xs H Q => ∃ p ys, xs = [.ref p] ∧ ((SqL X.K H p ys ∧ ∀ l, H l = none → Q (.ref l) (upd H l (.tup ys))) ∨ (SqT X.K H p ys ∧ Q (.ref p) H))) := by
  intro pins s σ H xs us Q I r h
  obtain ⟨p, ys, rfl, h⟩ := h
  obtain ⟨u, rfl, rx⟩ := vals1 r
  cases rx
  rcases h with ⟨hq, q⟩ | ⟨hq, q⟩
  · obtain ⟨its, r', pl, hz⟩ := I.list hq
    have hlen := r'.length
    refine call_tuple_list pl.isList (fun h' kp => ?_) (by simp only [List.size_toArray] <;> omega)
    have I1 : Inv X pins σ H { s with heap := h' } := I.kept (t' := s.toks) kp
    have I2 : Inv X pins σ (upd H h'.objs.size (.tup ys)) { s with heap := h'.push { cls := .type "tuple", data := .seq its.toArray } } :=
      I1.laid (t' := s.toks) (fun b o e => Heap.get?_push_of_some _ e) (Nat.le_refl _) (show ObjOk X.prog X.w _ _ _ (.tup ys) from ⟨hz, its, r', IsTup.new _ _⟩)
    exact ⟨.ref h'.objs.size, _, I2, rfl, q _ (I1.hok.fresh (Nat.le_refl _))⟩
  · obtain ⟨its, r', pl, hz⟩ := I.tuple hq
    exact call_tuple_same pl ⟨.ref p, H, I, rfl, q⟩

/-- the value is of that builtin type -/
def tyV (K : PySem.W.Frag) (T : String) (x : V) (H : Hp) : Prop := match x with
  | .str _ => T = "str"
  | .int _ => T = "int"
  | .ref p => (T = "list" ∧ ∃ xs, SqL K H p xs) ∨ (T = "tuple" ∧ ∃ o, K.lookup p = some o ∧ o.cls = .type "tuple" ∧ o.dict = none) ∨
      (T = "dict" ∧ ((∃ kvs, H p = some (.dK kvs)) ∨ ∃ kvs, H p = some (.dT kvs))) ∨ (T = "set" ∧ ∃ S n, H p = some (.set S n))
  | _ => False
theorem tyV_is {pins : List (Addr × Obj)} {σ : St} {H : Hp} {s : Shared} {T : String} {x : V} {v : Value} (I : Inv X pins σ H s) (r : RelV x v) (ty : tyV X.K T x H) :
    s.TypeIs v T ∧ ∀ a, v = .ref a → ∃ ob, s.heap.get? a = some ob ∧ ob.dict = none := by
  cases x with
  | str z =>
    obtain ⟨t, rfl⟩ := r
    cases (show T = "str" from ty)
    exact ⟨typeIs_str s z t, fun _ e => nomatch e⟩
  | int i =>
    obtain ⟨t, rfl⟩ := r
    cases (show T = "int" from ty)
    exact ⟨typeIs_int s i t, fun _ e => nomatch e⟩
  | ref p =>
    cases r
    rcases ty with ⟨rfl, xs, hq⟩ | ⟨rfl, o, hk, hc, hd⟩ | ⟨rfl, hk⟩ | ⟨rfl, S, n, hk⟩
    · obtain ⟨its, _, pl, _⟩ := I.list hq
      refine ⟨pl.isList.typeIs, fun a e => ?_⟩
      cases e
      obtain ⟨o, n, e, c, hd, _⟩ := pl
      exact ⟨o, e, hd⟩
    · refine ⟨⟨o, I.kIn p o hk, hc⟩, fun a e => ?_⟩
      cases e
      exact ⟨o, I.kIn _ o hk, hd⟩
    · have z : ∃ o, s.heap.get? p = some o ∧ o.ExactDict := by
        rcases hk with ⟨kvs, hk⟩ | ⟨kvs, hk⟩
        · obtain ⟨_, _, _, _, o, _, _, e, ex, _⟩ := I.hok p _ hk
          exact ⟨o, e, ex⟩
        · obtain ⟨_, _, _, _, o, _, _, e, ex, _⟩ := I.hok p _ hk
          exact ⟨o, e, ex⟩
      obtain ⟨o, e, ex⟩ := z
      refine ⟨⟨o, e, ex.1⟩, fun a e2 => ?_⟩
      cases e2
      exact ⟨o, e, ex.2.1⟩
    · obtain ⟨o, _, _, _, e, ex, _⟩ := I.hok p _ hk
      refine ⟨⟨o, e, ex.1⟩, fun a e2 => ?_⟩
      cases e2
      exact ⟨o, e, ex.2.1⟩
  | _ => exact False.elim ty
def tBM0 (K : PySem.W.Frag) (T : String) (r : V → List V → Hp → VK → Prop) (to : TE) : TE := fun σ H Q => to σ H fun x H1 => tyV K T x H1 ∧ r x [] H1 Q
def tBM (K : PySem.W.Frag) (T : String) (r : V → List V → Hp → VK → Prop) (to : TE) (t : TA) : TE := fun σ H Q => to σ H fun x H1 => tyV K T x H1 ∧ t σ H1 fun xs H2 => r x xs H2 Q
variable {o e : Expr} {es : List Expr} {to : TE} {t : TA} {name : Str} {apos cpos : Pos} {T id : String} {r : V → List V → Hp → VK → Prop}
theorem pe_bm0 (pa : PlainAttrs T) (slot : Slot T name id) (hty : typeOf (.builtin id) = pure (.type "method_descriptor")) (hm : MtR X id r) (ho : PE X o to)
    (hbase : attributeBase o name X.env (eval o X.env) = eval o X.env := by rfl) (hline : (apos.endLine == cpos.line) = true := by rfl) : PE X (.Call (.Attribute o name apos) [] [] cpos) (tBM0 X.K T r to) := by
  intro pins s σ H Q I h
  refine wpAny_Call_method0_late hbase hline (thn (ho pins s σ H _ I h) fun v s1 ⟨x, H1, I1, r1, ty, q1⟩ => ?_)
  obtain ⟨h1, h2⟩ := tyV_is I1 r1 ty
  exact ⟨T, id, pa, slot, hty, h1, h2, Calls.callWith_builtin rfl (PySem.evalArgs_none (hm pins s1 σ H1 x [] v [] Q I1 r1 .nil q1))⟩
theorem pe_bm (pa : PlainAttrs T) (slot : Slot T name id) (hty : typeOf (.builtin id) = pure (.type "method_descriptor")) (hm : MtR X id r) (ho : PE X o to) (ha : PA X (e :: es) t)
    (hbase : attributeBase o name X.env (eval o X.env) = eval o X.env := by rfl)
    (hfew : ((backTo cpos (starEach (e :: es) X.env)).all (fun x => !x.1) && (backToKw cpos (keywordEach [] X.env)).all (fun x => x.1.isSome)
      && decide ((e :: es).length + ([] : List Keyword).length + (if ([] : List Keyword).isEmpty then 0 else 1) < 30)) = true := by rfl)
    (hline : (apos.endLine == cpos.line) = true := by rfl) (hs : starEach (e :: es) X.env = (false, eval e X.env) :: starEach es X.env := by rfl) (hplain : (backTo cpos (starEach es X.env)).any (·.1) = false := by rfl) :
    PE X (.Call (.Attribute o name apos) (e :: es) [] cpos) (tBM X.K T r to t) := by
  intro pins s σ H Q I h
  refine wpAny_Call_method_late hbase hfew hline rfl (thn (ho pins s σ H _ I h) fun v s1 ⟨x, H1, I1, r1, ty, q1⟩ => ?_)
  obtain ⟨h1, h2⟩ := tyV_is I1 r1 ty
  refine ⟨T, id, pa, slot, hty, h1, h2, ?_⟩
  have hA := ha cpos pins s1 σ H1 _ I1 q1
  rw [hs] at hA ⊢
  refine Calls.callWith_builtin (by show (false || (backTo cpos (starEach es X.env)).any (·.1)) = false; rw [hplain] <;> rfl) (Calls.evalArgs_plain ?_)
  exact thn hA fun us s2 ⟨vs, H2, I2, r2, q2⟩ => hm pins s2 σ H2 x vs v us Q I2 r1 r2 q2
/- xs.append(e), list.index on a module's tuple .. are MtR facts of 06m -/
end
end L2

namespace L2
open PySem PySem.Spec PyProof.Rows

def MtM (X : Cx) (id : String) (r : V → List V → Hp → VK → Prop) : Prop :=
  ∀ (pins : List (Addr × Obj)) (s : Shared) (σ : St) (H : Hp) (x : V) (xs : List V) (v : Value) (us : List Value) (Q : VK), Inv X pins σ H s → RelV x v → Vals xs us → r x xs H Q →
    wpAny (model X.prog X.w) X.A (call (.builtin id) (v :: us)) (EP X pins σ Q) X.xe s

theorem Vals.one : ∀ {x : V} {us : List Value}, Vals [x] us → ∃ u, us = [u] ∧ RelV x u
  | _, _, .cons r .nil => ⟨_, rfl, r⟩
theorem Vals.zero : ∀ {us : List Value}, Vals [] us → us = []
  | _, .nil => rfl
section
variable {X : Cx} {pins : List (Addr × Obj)} {σ : St} {H : Hp} {s : Shared} {l b : Addr} {xs ys zs : List V}

theorem Inv.lset {its its' : List Value} {n : Nat} {f : Array Value → Array Value} {t' : Nat} (I : Inv X pins σ H s) (hH : H l = some (.lst xs))
    (e : s.heap.get? l = some { cls := .type "list", data := .seq its.toArray n }) (hf : f its.toArray = its'.toArray) (hv : Vals ys its') (hz : ys.length ≤ sizeLine) :
    Inv X pins σ (upd H l (.lst ys)) { s with heap := s.heap.update l (Obj.mapSeq f), toks := t' } := by
  have q := PySem.IsL.update e f
  rw [hf] at q
  refine I.write (x := l) (e := l) (by rw [hH]; exact trivial) (.inl rfl) (fun b' u hb hu => (Heap.get?_update_other s.heap (Obj.mapSeq f) (Ne.symm hb)).trans hu) ⟨_, q⟩ ?_
  exact ⟨hz, its', _, hv, q⟩
theorem Inv.lnew {its : List Value} {t' : Nat} (I : Inv X pins σ H s) (hv : Vals ys its) (hz : ys.length ≤ sizeLine) :
    Inv X pins σ (upd H s.heap.objs.size (.lst ys)) { s with heap := s.heap.push { cls := .type "list", data := .seq its.toArray }, toks := t' } :=
  I.laid (fun _ _ q => Heap.get?_push_of_some _ q) (Nat.le_refl _) ⟨hz, its, 0, hv, Heap.get?_push_size _ rfl⟩
theorem Inv.fresh (I : Inv X pins σ H s) : H s.heap.objs.size = none := I.hok.fresh (Nat.le_refl _)
theorem Inv.lstM (I : Inv X pins σ H s) (hH : H l = some (.lst xs)) : xs.length ≤ sizeLine ∧ ∃ (its : List Value) (n : Nat), Vals xs its ∧ xs.length = its.length ∧ s.heap.get? l = some { cls := .type "list", data := .seq its.toArray n } := by
  obtain ⟨z, its, n, r, e⟩ := I.hok l _ hH
  exact ⟨z, its, n, r, r.length, e⟩

end

section
variable {X : Cx}

def rAppend : V → List V → Hp → VK → Prop := fun x vs H Q => ∃ l xs y, x = .ref l ∧ vs = [y] ∧ H l = some (.lst xs) ∧ xs.length < sizeLine ∧ Q .non (upd H l (.lst (xs ++ [y])))
theorem mt_append : MtM X "list.append" rAppend := by
  intro pins s σ H x vs v us Q I rx rv h
  obtain ⟨l, xs, y, rfl, rfl, hH, hz, q⟩ := h
  cases rx
  obtain ⟨u, rfl, ru⟩ := rv.one
  obtain ⟨z, its, n, r, hl, e⟩ := I.lstM hH
  refine call_meets F.slot_list_append ⟨_, e, rfl⟩ F.entry_list_append (F.args_list_append_2 _ _) (PySem.list_append l its.toArray n u (by rw [List.size_toArray]; omega)) ⟨e, ?_⟩
  refine ⟨.non, _, I.lset (its' := its ++ [u]) hH e (by simp) (r.append (.cons ru .nil)) ?_, rfl, q⟩
  rw [List.length_append, List.length_singleton]
  omega

def rClear : V → List V → Hp → VK → Prop := fun x vs H Q => ∃ l xs, x = .ref l ∧ vs = [] ∧ H l = some (.lst xs) ∧ Q .non (upd H l (.lst []))
theorem mt_clear : MtM X "list.clear" rClear := by
  intro pins s σ H x vs v us Q I rx rv h
  obtain ⟨l, xs, rfl, rfl, hH, q⟩ := h
  cases rx
  have hus := rv.zero
  subst hus
  obtain ⟨z, its, n, r, hl, e⟩ := I.lstM hH
  refine call_meets F.slot_list_clear ⟨_, e, rfl⟩ F.entry_list_clear (F.args_list_clear_1 _) (AutoSeq1.list_clear_list_0 l its.toArray n (by rw [List.size_toArray]; omega)) ⟨e, ?_⟩
  exact ⟨.non, _, I.lset (its' := []) (ys := []) hH e rfl .nil (Nat.zero_le _), rfl, q⟩

def rCat : R2 := fun x y H Q => ∃ l b xs zs, x = .ref l ∧ y = .ref b ∧ H l = some (.lst xs) ∧ H b = some (.lst zs) ∧ xs.length + zs.length ≤ sizeLine ∧ ∀ p, H p = none → Q (.ref p) (upd H p (.lst (xs ++ zs)))
theorem op_cat : OpR X (binaryOp .Add) rCat := by
  intro pins s σ H x y v u Q I rx ry h
  obtain ⟨l, b, xs, zs, rfl, rfl, hH, hB, hz, q⟩ := h
  cases rx
  cases ry
  obtain ⟨z, its, n, r, hl, e⟩ := I.lstM hH
  obtain ⟨z2, its2, n2, r2, hl2, e2⟩ := I.lstM hB
  refine PySem.P.add_list e e2 ?_ (by rw [List.size_toArray, List.size_toArray]; omega)
  have ea : its.toArray ++ its2.toArray = (its ++ its2).toArray := by simp
  rw [ea]
  exact ⟨.ref _, _, I.lnew (t' := s.toks) (r.append r2) (by rw [List.length_append]; omega), rfl, q _ I.fresh⟩
end

section
variable {prog : Program} {w : World} {A : Around} {E : Value → Shared → Prop} {s : Shared}
end

section
variable {X : Cx}
end
end L2

namespace L2
open PySem PySem.Spec PyProof.Rows

section
variable {κ : Type} [DecidableEq κ]
end


section
variable {P : Program} {w : World} {H : Hp} {h : Heap} {a : Addr}
end

section
variable {X : Cx} {pins : List (Addr × Obj)} {σ : St} {H : Hp} {s : Shared} {a : Addr} {y v : V} {u r : Value} {o : Option V} {A : Around} {E : Value → Shared → Prop}

end

section
variable {X : Cx} {pins : List (Addr × Obj)} {σ : St} {H : Hp} {s : Shared} {a : Addr} {kvs : List (Key × V)} {k : Key} {u : Value} {A : Around} {E : Value → Shared → Prop}
end


section
variable {X : Cx} {o i e value : Expr} {pos pos' tpos : Pos} {td ty tv : TE}
end


section
variable {X : Cx} {pos : Pos}
end

section
variable {X : Cx} {pins : List (Addr × Obj)} {σ : St} {H : Hp} {s : Shared} {a : Addr} {y d : V} {u r : Value} {o : Option V} {A : Around} {E : Value → Shared → Prop}
end

section
variable {X : Cx} {o e f : Expr} {apos cpos : Pos} {td ty tx : TE}
end

section
variable {X : Cx} {pins : List (Addr × Obj)} {σ : St} {H : Hp} {s : Shared} {a : Addr} {kvs : List (Key × V)} {A : Around} {E : Value → Shared → Prop}
end


section
variable {X : Cx} {pins : List (Addr × Obj)} {σ : St} {H : Hp} {s : Shared} {a : Addr} {y : V} {u : Value} {A : Around} {E : Value → Shared → Prop}
end
end L2

namespace Att
open PySem PySem.W PySem.Calls PyProof.Rows

theorem ints_of_wellAll {P : Params} {h : Heap} : ∀ (ns : List Int) (vs : List Value), WellAll P h vs (ns.map WData.int) → IntsAre vs ns := by
  intro ns
  induction ns with
  | nil =>
    intro vs w
    rw [List.map_nil] at w
    cases w
    exact .nil
  | cons n ns ih =>
    intro vs w
    rw [List.map_cons] at w
    cases w with
    | cons a b =>
      cases a
      exact .cons _ _ (ih _ b)

theorem script_of {l : OpenLaw} {n : Nat} (hn : l.most = some n) {P : Params} {h : Heap} {args : List WData} {vals : List Value}
    (hpre : l.row.toRowW.claim.pre args = true) (hwl : WellAll P h vals args) :
    ∃ a vs ns, vals = [Value.ref a] ∧ args = [WData.list (ns.map WData.int)] ∧ h.get? a = some { cls := .type "list", data := .seq vs.toArray } ∧ IntsAre vs ns ∧ ns.length ≤ n := by
  have hsh : WShape.hasAll [] args [.list .int] = true := (pre_splitW hpre).1
  have hc : l.pre.holds [] { args := args } = true := (pre_splitW hpre).2
  obtain ⟨d, r, rfl, h1, h2⟩ := hasAllW_cons hsh
  obtain rfl := hasAllW_nil h2
  obtain ⟨xs, rfl, h3⟩ := hasW_list h1
  obtain ⟨ns, rfl⟩ := items_int h3
  have hlen : ns.length ≤ n := by
    unfold OpenLaw.pre at hc
    have h4 : (WTm.not (.lt (.lit (.int (n : Int))) (.len (.arg 0)))).holds [] { args := [.list (ns.map .int)] } = true := by
      have h4 := (holds_andW hc).1
      rw [hn] at h4
      exact h4
    have h5 := condW_of h4 (w_not (w_lt w_lit (w_len_list (w_arg rfl))))
    rw [List.length_map] at h5
    refine Nat.le_of_not_lt fun q => ?_
    have q' : (n : Int) < ((ns.length : Nat) : Int) := by omega
    first
      | (rw [decide_eq_true q'] at h5; exact absurd h5 (by decide))
      | (simp at h5; omega)
  cases hwl with
  | cons w1 w2 =>
    cases w2
    cases w1 with
    | list ho hall => exact ⟨_, _, ns, rfl, rfl, ho, ints_of_wellAll ns _ hall, hlen⟩

theorem post_true (l : OpenLaw) (args : List WData) : l.row.toRowW.claim.post args (.bool true) args = true :=
  postW_of (r := l.row.toRowW) (X := (true == true))
    (show WShape.has [] (.bool true) .bool = true by first | rfl | decide | simp [WShape.has, WShape.arms, WShape.armsAll])
    (show (WTm.eq .res (.lit (.bool true))).value [] { args := args, res := some (.bool true), after := args } = some (.bool (true == true)) from w_eq_bool (w_res rfl) w_lit) rfl

/-- the same from a codeAny of the CALL (for a layer whose function contracts speak of calls) -/
theorem attach_call {l : OpenLaw} {n : Nat} {q : Program} {loose : List Str} {XP : (Str → Option Value) → Heap → Prop} {YP : World → Heap → Prop} {d : DefRec}
    (hn : l.most = some n) (hdf : d.params.defaults = [])
    (call : ∀ (w : World) (s₀ s₁ : Shared) (mg mb : Str → Option Value) (fa : Addr) (o : Obj) (pm cd doc : Value) (a : Addr) (vs : List Value) (ns : List Int),
      Ground q loose [] XP w s₀ mg mb s₁.heap → YP w s₁.heap →
      s₁.heap.get? fa = some o → o.data = .func (docDef d.name d.params d.body d.scope pm cd doc) → s₁.heap.CodeRec cd d.name → mg d.name = some (.ref fa) →
      s₁.heap.get? a = some { cls := .type "list", data := .seq vs.toArray } → IntsAre vs ns → ns.length ≤ n → s₁.gens = #[] →
      codeAny (model l.prog w) callerA (.call (.ref fa) ⟨[.ref a], []⟩) (fun r s' => r = .ok (.ret (.bool true)) ∧ OldK s₁.heap s'.heap ∧ s'.os = s₁.os ∧ AllBare s'.gens) s₁) :
    WalkO q loose XP YP l.row.toRowW d [] (fun f vs => PySem.call f vs) := by
  intro w s₀ s₁ mg mb G Y fa o pm cd doc dV kV ho hd hcd hD hmg hg args vals as hpre hlay hrd hwl hlo
  obtain rfl : dV = .none := Dflts.none hD hdf
  obtain rfl : kV = .none := Dflts.noKw hD
  obtain ⟨a, vs, ns, rfl, rfl, hobj, hints, hlen⟩ := script_of hn hpre hwl
  refine enter_call (codeAny_mono (call w s₀ s₁ mg mb fa o pm cd doc a vs ns G Y ho (fd_plain hd) hcd hmg hobj hints hlen hg) fun r s' hq => ?_)
  obtain ⟨rfl, h2, h3, h4⟩ := hq
  exact ⟨.inl ⟨.bool true, .bool true, [], rfl, fun _ => rfl, .bool true, post_true l _, fun _ => ⟨List.Pairwise.nil, fun _ hm => (nomatch hm)⟩⟩, h2, h3, h4⟩

section
variable {prog : Program} {w : World} {A : Around} {E : Value → Shared → Prop} {s : Shared} {K : Frag}

end
end Att

namespace L2
open PySem PySem.Spec PyProof.Rows

theorem vals_ints : ∀ {vs : List Value} {ns : List Int}, IntsAre vs ns → Vals (ns.map V.int) vs
  | _, _, .nil => .nil
  | _, _, .cons n t h => .cons ⟨t, rfl⟩ (vals_ints h)

/-- nothing is tracked but the script, known to the object (or it is an object of the module) -/
def Only (H : Hp) : Prop := ∀ b, H b = none ∨ ∃ o xs, H b = some (.frz o (.lst xs))

/-- THE HEAD: the law's promise, at the heap behind the top. F, the promise of the law's def, may use that base is part of the heap (so K.In base, base.Ns mainGlobals mg stand in Mod) -/
theorem law_call {P : Program} {w : World} {K : PySem.W.Frag} {mg mb : Str → Option Value} {CX : CXT} {k : Nat} {fa a : Addr} {fd : FuncData} {x : Str} {sp : Sp} {s₁ : Shared} {vs : List Value} {ns : List Int}
    (KX : K.In s₁.heap) (hns : s₁.heap.Ns mainGlobals mg) (hb : s₁.heap.Ns builtinsNs mb) (hbb : ∀ x : Str, x ≠ "__name__" → mb x = bootBuiltins x) (hlim : s₁.heap.NoLimit) (hg : s₁.gens = #[])
    (ha : s₁.heap.get? a = some { cls := .type "list", data := .seq vs.toArray }) (hi : IntsAre vs ns) (hl : ns.length ≤ sizeLine) (hr : Room k callerA)
    (F : ∀ base : Heap, K.In base → base.Ns mainGlobals mg → FnOk P w K mg base CX k fa fd [x] sp) (hbind : ∀ (s : Shared) (u : Value), BindsTo s fd ⟨[u], []⟩ [(x, u)])
    (hsp : ∀ H : Hp, Only H → SqL K H a (ns.map V.int) → sp [.ref a] H (fun v _ => v = .bl true) fun _ _ _ => False)
    (hCX : ∀ H e s', CX [] H s₁ (fun _ _ _ => False) e s' → False) :
    codeAny (model P w) callerA (.call (.ref fa) ⟨[.ref a], []⟩) (fun r s' => r = .ok (.ret (.bool true)) ∧ OldK s₁.heap s'.heap ∧ s'.os = s₁.os ∧ AllBare s'.gens) s₁ := by
  have rv := vals_ints hi
  have lenV := hi.length
  -- from an abstract heap in which nothing but the script may be tracked
  have core : ∀ H : Hp, Only H → SqL K H a (ns.map V.int) → HOk P w H s₁.heap → (∀ b, H b ≠ none → b = a) → (H a ≠ none → K.lookup a = none) →
      codeAny (model P w) callerA (.call (.ref fa) ⟨[.ref a], []⟩) (fun r s' => r = .ok (.ret (.bool true)) ∧ OldK s₁.heap s'.heap ∧ s'.os = s₁.os ∧ AllBare s'.gens) s₁ := by
    intro H hO hS hok hA hK
    have base_of : ∀ {b : Addr} {o : Obj}, s₁.heap.get? b = some o → H b = none → (hidT s₁.heap H).get? b = some o := fun e n => hidT_get e n
    have noA : ∀ {b : Addr} {o : Obj} {es : Array DictEntry} {ep : Nat}, s₁.heap.get? b = some o → o.data = .dict es ep → H b = none := fun {b o es ep} e d => by
      cases q : H b with
      | none => rfl
      | some u =>
        have e' : b = a := hA b (by rw [q]; simp)
        subst e'
        rw [ha] at e; cases e
        have d' : Data.seq vs.toArray _ = Data.dict es ep := d
        cases d'
    have nsK : ∀ {b : Addr} {m : Str → Option Value}, s₁.heap.Ns b m → (hidT s₁.heap H).Ns b m := fun {b m} ⟨o, es, ep, e, d, r⟩ => ⟨o, es, ep, base_of e (noA e d), d, r⟩
    have hKb : K.In (hidT s₁.heap H) := fun b o e => base_of (KX b o e) (by
      cases q : H b with
      | none => rfl
      | some u =>
        have e' : b = a := hA b (by rw [q]; simp)
        subst e'
        rw [hK (by rw [q]; simp)] at e; cases e)
    have hM : Mod K mg (hidT s₁.heap H) := ⟨hKb, nsK hns, ⟨mb, nsK hb, hbb⟩, let ⟨mc, h1, h2⟩ := hlim; ⟨mc, nsK h1, h2⟩⟩
    have e0 : Env0 P w K mg (hidT s₁.heap H) callerA [] s₁ H := ⟨rfl, hM, fun b o e => of_hidT e, Nat.le_of_eq (hidT_size _ _), trivial, fun b hb => absurd (show b ∈ ([] : List Addr) from hb) (by simp), hok, .of_eq hg⟩
    refine codeAny_mono ((F _ hKb (nsK hns)).run callerA [] s₁ H ⟨[.ref a], []⟩ [.ref a] [.ref a] _ _ hr e0 (hbind s₁ (.ref a)) (.cons rfl .nil) (hsp H hO hS)) fun r s' h => ?_
    cases r with
    | error e => exact (hCX H e s' h).elim
    | ok fl =>
      cases fl with
      | next => exact False.elim h
      | brk => exact False.elim h
      | cont => exact False.elim h
      | ret u =>
        obtain ⟨v, H', os, bare, un, hok', r', q⟩ := h
        have q' : v = .bl true := q
        subst q'
        obtain rfl : u = Value.bool true := r'
        refine ⟨rfl, OldK.of_keep fun b o e => ?_, os, bare⟩
        cases q : H b with
        | none => exact un.keep b o e q (by intro z; exact absurd (show b ∈ ([] : List Addr) from z) (by simp)) (by simp)
        | some u =>
          rcases hO b with z | ⟨ob, xs, z⟩
          · rw [q] at z; cases z
          · have z2 := un.frzs b ob _ z
            obtain ⟨e1, _⟩ := hok b _ z
            obtain ⟨e2, _⟩ := hok' b _ z2
            rw [e] at e1; cases e1
            exact e2
  cases hk : K.lookup a with
  | some o =>
    -- the script is one of the module's own objects
    have e := KX a o hk
    rw [ha] at e
    cases e
    refine core (fun _ => none) (fun _ => .inl rfl) (.inr ⟨_, vs.toArray, _, hk, rfl, rfl, rfl, by rw [List.size_toArray, lenV]; exact hl, by simpa using rv⟩) (fun b u z => by have z' : (none : Option HO) = some u := z; cases z') (fun b z => absurd rfl z) fun z => absurd rfl z
  | none =>
    refine core (fun b => if b = a then some (.frz { cls := .type "list", data := .seq vs.toArray } (.lst (ns.map V.int))) else none) (fun b => ?_) (.inl (.inr ⟨{ cls := .type "list", data := .seq vs.toArray }, if_pos rfl⟩)) (fun b u z => ?_) (fun b z => ?_) fun _ => hk
    · by_cases hb : b = a
      · exact .inr ⟨_, _, if_pos hb⟩
      · exact .inl (if_neg hb)
    · by_cases hb : b = a
      · have z' := (if_pos hb).symm.trans z
        cases z'
        subst hb
        exact ⟨ha, by rw [List.length_map]; exact hl, vs, _, rv, ha⟩
      · have z' := (if_neg hb).symm.trans z
        cases z'
    · by_cases hb : b = a
      · exact hb
      · exact absurd (if_neg hb) z
end L2

namespace L2
open PySem PySem.Spec PyProof.Rows

abbrev KOf {K : PySem.W.Frag} {h : Heap} (_ : K.In h) : PySem.W.Frag := K

/-- the goal that k_head leaves (case hc), from the law's promise. F gives the function object fd (K's own) once, then the promise over every base -/
theorem walk_of {l : PySem.W.OpenLaw} {n k : Nat} {q : Program} {loose : List Str} {XP : (Str → Option Value) → Heap → Prop} {YP : World → Heap → Prop} {d : DefRec} {K : Params → PySem.W.Frag} {CX : World → CXT} {sp : World → Sp} {x : Str}
    (hn : l.most = some n) (hn2 : n ≤ sizeLine) (hdf : d.params.defaults = []) (hr : Room k callerA)
    (hY : ∀ (w : World) (h : Heap), YP w h → (K w.params).In h)
    (F : ∀ (w : World) (mg : Str → Option Value) (fa : Addr) (h : Heap), (K w.params).In h → h.Ns mainGlobals mg → mg d.name = some (.ref fa) →
      ∃ fd : FuncData, (∀ (s : Shared) (u : Value), BindsTo s fd ⟨[u], []⟩ [(x, u)]) ∧
        ∀ base : Heap, (K w.params).In base → base.Ns mainGlobals mg → FnOk l.prog w (K w.params) mg base (CX w) k fa fd [x] (sp w))
    (hsp : ∀ (w : World) (H : Hp) (a : Addr) (ns : List Int), ns.length ≤ n → Only H → SqL (K w.params) H a (ns.map V.int) → sp w [.ref a] H (fun v _ => v = .bl true) fun _ _ _ => False)
    (hCX : ∀ (w : World) (H : Hp) (s : Shared) (e : Value) (s' : Shared), CX w [] H s (fun _ _ _ => False) e s' → False) :
    PySem.W.WalkO q loose XP YP l.row.toRowW d [] (fun f vs => PySem.call f vs) := by
  refine Att.attach_call hn hdf fun w s₀ s₁ mg mb fa o pm cd doc a vs ns G Y ho hd hcd hmg hobj hints hlen hg => ?_
  have KX := hY w _ Y
  obtain ⟨fd, hb, hF⟩ := F w mg fa _ KX G.T.g hmg
  exact law_call KX G.T.g G.T.b G.T.builtins G.T.nolimit hg hobj hints (Nat.le_trans hlen hn2) hr hF hb (fun H hO hS => hsp w H a ns hlen hO hS) fun H e s' => hCX w H s₁ e s'
/-- the same where the promise hangs on the written part alone: (sp := My.sp_law), no hole under a binder -/
theorem walk_ofK {l : PySem.W.OpenLaw} {n k : Nat} {q : Program} {loose : List Str} {XP : (Str → Option Value) → Heap → Prop} {YP : World → Heap → Prop} {d : DefRec} {K : Params → PySem.W.Frag} {CX : CXT} {sp : PySem.W.Frag → Sp} {x : Str}
    (hn : l.most = some n) (hn2 : n ≤ sizeLine) (hdf : d.params.defaults = []) (hr : Room k callerA)
    (hY : ∀ (w : World) (h : Heap), YP w h → (K w.params).In h)
    (F : ∀ (w : World) (mg : Str → Option Value) (fa : Addr) (h : Heap), (K w.params).In h → h.Ns mainGlobals mg → mg d.name = some (.ref fa) →
      ∃ fd : FuncData, (∀ (s : Shared) (u : Value), BindsTo s fd ⟨[u], []⟩ [(x, u)]) ∧
        ∀ base : Heap, (K w.params).In base → base.Ns mainGlobals mg → FnOk l.prog w (K w.params) mg base CX k fa fd [x] (sp (K w.params)))
    (hsp : ∀ (K : PySem.W.Frag) (H : Hp) (a : Addr) (ns : List Int), ns.length ≤ n → Only H → SqL K H a (ns.map V.int) → sp K [.ref a] H (fun v _ => v = .bl true) fun _ _ _ => False)
    (hCX : ∀ (H : Hp) (s : Shared) (e : Value) (s' : Shared), CX [] H s (fun _ _ _ => False) e s' → False) :
    PySem.W.WalkO q loose XP YP l.row.toRowW d [] (fun f vs => PySem.call f vs) :=
  walk_of (K := K) (CX := fun _ => CX) (sp := fun w => sp (K w.params)) hn hn2 hdf hr hY F (fun w H a ns h1 h2 h3 => hsp (K w.params) H a ns h1 h2 h3) fun _ H s e s' => hCX H s e s'
end L2

namespace L2
open PySem PySem.Spec PyProof.Rows

/-- the j-th statement of a class's body -/
def inClass (s : Stmt) (j : Nat) : Stmt := match s with
  | .ClassDef _ _ _ body _ _ _ _ _ _ _ => body.getD j (.Pass ⟨0, 0, 0, 0⟩)
  | _ => .Pass ⟨0, 0, 0, 0⟩
def defArgs (s : Stmt) : Arguments := match s with
  | .FunctionDef _ a _ _ _ _ _ _ _ _ => a
  | _ => { posonlyargs := [], args := [], vararg := none, kwonlyargs := [], kw_defaults := [], kwarg := none, defaults := [] }
def defBody (s : Stmt) : List Stmt := match s with
  | .FunctionDef _ _ b _ _ _ _ _ _ _ => b
  | _ => []
def defScope (s : Stmt) : Scope := match s with
  | .FunctionDef _ _ _ _ _ _ sc _ _ _ => sc
  | _ => { kind := .function, names := [], isGenerator := false, isCoroutine := false }

abbrev CX0 : CXT := fun _ _ _ _ _ _ => False
abbrev E0 : XK := fun _ _ _ => False
theorem pass0 {X : Cx} : Passes CX0 X E0 := fun _ _ _ _ _ _ _ h => h.elim

structure Fun (K : PySem.W.Frag) (x qual : Str) (st : Stmt) (f : Addr) (fd : FuncData) : Prop where
  ex : ∃ (oc : Value) (od : Option Addr) (kV doc pm : Value) (an : Option Addr) (cdv ct : Value) (osl : Array (Option Value)),
    fd = PySem.W.fnOf x qual (defArgs st) (defBody st) (defScope st) .none kV doc pm an cdv ct ∧ K.lookup f = some ⟨oc, od, .func fd, osl⟩ ∧ PySem.W.codeIn K cdv qual = true
  kp : PySem.W.keepIn K (.ref f) = true
section
variable {P : Program} {w : World} {K : PySem.W.Frag} {mg : Str → Option Value} {base : Heap}
/-- THE RULE for a def: its body as a term of rules, and the reading of that term -/
theorem Fun.ok {x qual : Str} {st : Stmt} {f : Addr} {fd : FuncData} {N ps : List Str} {k : Nat} {sp : Sp} (F : Fun K x qual st f fd) (S : FnScope N ps (defScope st)) (len : ∀ vs H Q E, sp vs H Q E → vs.length = ps.length)
    (hbody : ∀ (cdv : Value) (A : Around) (outer : List Env) (s : Shared) (H : Hp) (vs : List V) (Q : VK) (E : XK), Room k (A.deeper (envOfC qual (defScope st) s.heap.objs.size f cdv)) → sp vs H Q E →
      ∃ t, PSs (cxOf CX0 P w K mg base N qual (defScope st) f cdv A outer s H E).nox (defBody st) t ∧ t { nx := fun _ H' => Q .non H', rt := Q } (start N vs) H) : FnOk P w K mg base CX0 (k + 1) f fd ps sp := by
  obtain ⟨oc, od, kV, doc, pm, an, cdv, ct, osl, rfl, lk, hcd⟩ := F.ex
  refine fn_of lk hcd S len fun A outer s H vs Q E hr hsp => ?_
  obtain ⟨t, h, q⟩ := hbody cdv A outer s H vs Q E hr hsp
  exact ⟨t, h.nox, q⟩
/-- how its arguments bind (no defaults): h is «fun _ _ _ _ _ _ us hl => match us, hl with | [_, _], _ => rfl», one _ a parameter -/
theorem Fun.binds {x qual : Str} {st : Stmt} {f : Addr} {fd : FuncData} {ps : List Str} (F : Fun K x qual st f fd)
    (h : ∀ (kV doc pm : Value) (an : Option Addr) (cdv ct : Value) (us : List Value), us.length = ps.length → bindArgs (PySem.W.fnOf x qual (defArgs st) (defBody st) (defScope st) .none kV doc pm an cdv ct) ⟨us, []⟩ = pure (ps.zip us)) : Binds K fd ps [] := by
  obtain ⟨oc, od, kV, doc, pm, an, cdv, ct, osl, rfl, lk, hcd⟩ := F.ex
  exact .all (h kV doc pm an cdv ct)
theorem fun_mk {x qual : Str} {st : Stmt} {f : Addr} {oc : Value} {od an : Option Addr} {osl : Array (Option Value)} {kV doc pm cdv ct : Value} (l : K.lookup f = some ⟨oc, od, .func (PySem.W.fnOf x qual (defArgs st) (defBody st) (defScope st) .none kV doc pm an cdv ct), osl⟩)
    (c : PySem.W.codeIn K cdv qual = true) (k : PySem.W.keepIn K (.ref f) = true) : Fun K x qual st f (PySem.W.fnOf x qual (defArgs st) (defBody st) (defScope st) .none kV doc pm an cdv ct) := ⟨⟨oc, od, kV, doc, pm, an, cdv, ct, osl, rfl, l, c⟩, k⟩
end
section
variable {X : Cx}
theorem pv (i : Nat) {x : Str} {pos : Pos} (hN : X.N[i]? = some x := by rfl) (hv : Vis X.env.scope x := by first | exact Or.inl rfl | exact Or.inr (Or.inl rfl) | exact Or.inr (Or.inr rfl)) (hd : (x == ("__debug__" : Str)) = false := by decide)
    (hcd : (x == ("__classdict__" : Str)) = false := by decide) : PE X (.Name x pos) (tVar i) := pe_var hN hv hd hcd
end

/-- all that was tracked is as it was -/
abbrev Same (H H' : Hp) : Prop := ∀ b o, H b = some o → H' b = some o
theorem Same.refl (H : Hp) : Same H H := fun _ _ h => h
theorem Same.trans {H H1 H2 : Hp} (a : Same H H1) (b : Same H1 H2) : Same H H2 := fun c o h => b c o (a c o h)
theorem Same.free {H H' : Hp} (e : Same H H') {l : Addr} (h : H' l = Option.none) : H l = Option.none := by
  cases q : H l with
  | none => rfl
  | some o =>
    rw [e l o q] at h
    cases h
theorem Same.seq {K : PySem.W.Frag} {H H' : Hp} {a : Addr} {xs : List V} (e : Same H H') (h : SqL K H a xs) : SqL K H' a xs := by
  rcases h with (h | ⟨o, h⟩) | h
  · exact .inl (.inl (e _ _ h))
  · exact .inl (.inr ⟨o, e _ _ h⟩)
  · exact .inr h

section
variable {X : Cx}
end
section
variable {κ : Type} [DecidableEq κ]
end
end L2


namespace EM
/-- the number whose bits below n are those of f -/
def bits (f : Nat → Bool) : Nat → Nat
  | 0 => 0
  | n + 1 => bits f n + (if f n then 2 ^ n else 0)
theorem bits_lt (f : Nat → Bool) : ∀ n, bits f n < 2 ^ n
  | 0 => by simp [bits]
  | n + 1 => by
    have h := bits_lt f n
    simp only [bits]
    have e : (2 : Nat) ^ (n + 1) = 2 ^ n + 2 ^ n := by rw [Nat.pow_succ]; omega
    split <;> omega
theorem testBit_bits (f : Nat → Bool) (i : Nat) : ∀ n, (bits f n).testBit i = (decide (i < n) && f i)
  | 0 => by simp [bits]
  | n + 1 => by
    have ih := testBit_bits f i n
    have hl := bits_lt f n
    simp only [bits]
    by_cases hf : f n = true
    · rw [if_pos hf, Nat.add_comm]
      rcases Nat.lt_trichotomy i n with h | h | h
      · rw [Nat.testBit_two_pow_add_gt h, ih]
        simp [h, Nat.lt_succ_of_lt h]
      · subst h
        rw [Nat.testBit_two_pow_add_eq, ih]
        simp [hf]
      · have : (2 : Nat) ^ n + bits f n < 2 ^ i := by
          have e : (2 : Nat) ^ (n + 1) = 2 ^ n + 2 ^ n := by rw [Nat.pow_succ]; omega
          have : (2 : Nat) ^ (n + 1) ≤ 2 ^ i := Nat.pow_le_pow_right (by decide) h
          omega
        rw [Nat.testBit_lt_two_pow this]
        have : ¬ i < n + 1 := by omega
        simp [this]
    · rw [if_neg hf, Nat.add_zero, ih]
      by_cases h : i = n
      · subst h
        have : f i = false := by simpa using hf
        simp [this]
      · have : (i < n + 1) ↔ (i < n) := by omega
        simp [this]
theorem lit_iff (s k : Nat) : s.testBit k = decide (s / 2 ^ k % 2 = 1) := Nat.testBit_eq_decide_div_mod_eq
theorem or_split : ∀ (n x y : Nat), x < n → (x ||| y) = (x &&& y) + (x ^^^ y)
  | 0, x, y, h => absurd h (by omega)
  | n + 1, x, y, h => by
    by_cases hx : x = 0
    · subst hx; simp
    · have ih := or_split n (x / 2) (y / 2) (by omega)
      have e1 := Nat.div_add_mod (x ||| y) 2
      have e2 := Nat.div_add_mod (x &&& y) 2
      have e3 := Nat.div_add_mod (x ^^^ y) 2
      rw [Nat.or_div_two] at e1
      rw [Nat.and_div_two] at e2
      rw [Nat.xor_div_two] at e3
      have m1 : (x ||| y) % 2 = (x % 2 ||| y % 2) := Nat.or_mod_two_pow (n := 1)
      have m2 : (x &&& y) % 2 = (x % 2 &&& y % 2) := Nat.and_mod_two_pow (n := 1)
      have m3 : (x ^^^ y) % 2 = (x % 2 ^^^ y % 2) := Nat.xor_mod_two_pow (n := 1)
      have m4 : (x % 2 ||| y % 2) = (x % 2 &&& y % 2) + (x % 2 ^^^ y % 2) := by
        rcases Nat.mod_two_eq_zero_or_one x with a | a <;> rcases Nat.mod_two_eq_zero_or_one y with b | b <;> rw [a, b] <;> rfl
      omega
end EM

namespace EM
/-- the words that join -/
inductive W3 where
  | a | e | o
  deriving DecidableEq
/-- a formula -/
inductive Fm where
  | lamp (k : Nat)
  | sure (b : Bool)
  | neg (f : Fm)
  | join (w : W3) (fs : List Fm)
def comb : W3 → List Bool → Bool
  | .a, bs => bs.all id
  | .o, bs => bs.any id
  | .e, bs => bs.foldl xor false
mutual
def Fm.holds (s : Nat) : Fm → Bool
  | .lamp k => s.testBit k
  | .sure b => b
  | .neg f => !(f.holds s)
  | .join w fs => comb w (Fm.holdsL s fs)
def Fm.holdsL (s : Nat) : List Fm → List Bool
  | [] => []
  | f :: fs => f.holds s :: Fm.holdsL s fs
end
theorem holdsL_eq (s : Nat) : ∀ fs : List Fm, Fm.holdsL s fs = fs.map (Fm.holds s)
  | [] => by simp [Fm.holdsL]
  | f :: fs => by simp [Fm.holdsL, holdsL_eq s fs]
theorem holds_join (s : Nat) (w : W3) (fs : List Fm) : (Fm.join w fs).holds s = comb w (fs.map (Fm.holds s)) := by
  simp [Fm.holds, holdsL_eq]
theorem comb_snoc_e (bs : List Bool) (b : Bool) : comb .e (bs ++ [b]) = xor (comb .e bs) b := by simp [comb]
theorem comb_snoc_a (bs : List Bool) (b : Bool) : comb .a (bs ++ [b]) = (comb .a bs && b) := by simp [comb]
theorem comb_snoc_o (bs : List Bool) (b : Bool) : comb .o (bs ++ [b]) = (comb .o bs || b) := by simp [comb]
def b2 : W3 → Bool → Bool → Bool
  | .a, x, y => x && y
  | .o, x, y => x || y
  | .e, x, y => xor x y
end EM

set_option maxRecDepth 100000
set_option maxHeartbeats 4000000
namespace L2
open PySem PySem.Spec PyProof.Rows

section
variable {σ : St} {H : Hp} {Q : VK} {D : Ends} {K : PySem.W.Frag} {BQ : Bool → Hp → Prop}
theorem i_var {i : Nat} {v : V} (h : σ[i]? = some (some v)) (k : Q v H) : tVar i σ H Q := ⟨v, h, k⟩
theorem i_c {v : V} (k : Q v H) : tC v σ H Q := k
theorem i_op {r : R2} {ta tb : TE} (h : ta σ H fun x H1 => tb σ H1 fun y H2 => r x y H2 Q) : tOp r ta tb σ H Q := h
theorem i_un {r : V → Hp → VK → Prop} {ta : TE} (h : ta σ H fun x H1 => r x H1 Q) : tUn r ta σ H Q := h
theorem i_rI0 {g : Int → Int → V} {i j : Int} (h : Q (g i j) H) : rI0 g (.int i) (.int j) H Q := ⟨i, j, rfl, rfl, h⟩
theorem i_rI {C : Int → Int → Prop} {g : Int → Int → V} {i j : Int} (c : C i j) (h : Q (g i j) H) : rI C g (.int i) (.int j) H Q := ⟨i, j, rfl, rfl, c, h⟩
theorem i_rU {g : Int → V} {i : Int} (h : Q (g i) H) : rU g (.int i) H Q := ⟨i, rfl, h⟩
theorem i_eqI {i j : Int} (h : Q (.bl (decide (i = j))) H) : rEq (.int i) (.int j) H Q := by
  refine ⟨rfl, ?_⟩
  have e : decide (V.int i = V.int j) = decide (i = j) := by simp
  rw [e]; exact h
theorem i_eqB {i j : Bool} (h : Q (.bl (decide (i = j))) H) : rEq (.bl i) (.bl j) H Q := by
  refine ⟨rfl, ?_⟩
  have e : decide (V.bl i = V.bl j) = decide (i = j) := by simp
  rw [e]; exact h
theorem i_neI {i j : Int} (h : Q (.bl (!decide (i = j))) H) : rNe (.int i) (.int j) H Q := by
  refine ⟨rfl, ?_⟩
  have e : decide (V.int i = V.int j) = decide (i = j) := by simp
  rw [e]; exact h
theorem i_neB {i j : Bool} (h : Q (.bl (!decide (i = j))) H) : rNe (.bl i) (.bl j) H Q := by
  refine ⟨rfl, ?_⟩
  have e : decide (V.bl i = V.bl j) = decide (i = j) := by simp
  rw [e]; exact h
theorem i_test {t : TE} (h : t σ H fun x H' => ∃ k, x = .bl k ∧ BQ k H') : tTest t σ H BQ := h
theorem i_exb {b : Bool} {R : Bool → Prop} (h : R b) : ∃ k, V.bl b = V.bl k ∧ R k := ⟨b, rfl, h⟩
theorem i_and {t u : TT} (h : t σ H fun c H1 => if c = true then u σ H1 BQ else BQ false H1) : tAnd t u σ H BQ := h
theorem i_or {t u : TT} (h : t σ H fun c H1 => if c = true then BQ true H1 else u σ H1 BQ) : tOr t u σ H BQ := h
theorem i_not {t : TT} (h : t σ H fun c H1 => BQ (!c) H1) : tNot t σ H BQ := h
theorem i_andV {t u : TE} (h : t σ H fun x H1 => ∃ c, x = .bl c ∧ if c = true then u σ H1 Q else Q (.bl false) H1) : tAndV t u σ H Q := h
theorem i_orV {t u : TE} (h : t σ H fun x H1 => ∃ c, x = .bl c ∧ if c = true then Q (.bl true) H1 else u σ H1 Q) : tOrV t u σ H Q := h
theorem i_seq {t u : TS} (h : t { D with nx := u D } σ H) : tSeq t u D σ H := h
theorem i_next (h : D.nx σ H) : tNext D σ H := h
theorem i_brk (h : D.bk σ H) : tBreak D σ H := h
theorem i_drop {te : TE} (h : te σ H fun _ H1 => D.nx σ H1) : tDrop te D σ H := h
theorem i_ret {te : TE} (h : te σ H D.rt) : tRet te D σ H := h
theorem i_ifs {c : TT} {t u : TS} (h : c σ H fun b H1 => if b = true then t D σ H1 else u D σ H1) : tIfS c t u D σ H := h
theorem i_asg {te : TE} {g : TG} (h : te σ H fun x H1 => g x σ H1 D.nx) : tAsg te g D σ H := h
theorem i_name {i : Nat} {v : V} {R : St → Hp → Prop} (h : R (σ.set i (some v)) H) : gName i v σ H R := h
theorem i_nil {R : List V → Hp → Prop} (h : R [] H) : tNil σ H R := h
theorem i_cons {ta : TE} {tr : TA} {R : List V → Hp → Prop} (h : ta σ H fun x H1 => tr σ H1 fun xs H2 => R (x :: xs) H2) : tCons ta tr σ H R := h
theorem i_cb {r : List V → Hp → VK → Prop} {t : TA} (h : t σ H fun vs H1 => r vs H1 Q) : tCB r t σ H Q := h
/-- a new list, a new tuple -/
abbrev NewL (xs : List V) (H : Hp) (Q : VK) : Prop := xs.length ≤ sizeLine ∧ ∀ p, H p = none → Q (.ref p) (upd H p (.lst xs))
abbrev NewT (xs : List V) (H : Hp) (Q : VK) : Prop := xs.length ≤ sizeLine ∧ ∀ p, H p = none → Q (.ref p) (upd H p (.tup xs))
theorem i_tup {t : TA} (h : t σ H fun xs H1 => NewT xs H1 Q) : tTup t σ H Q := h
theorem i_lst {t : TA} (h : t σ H fun xs H1 => NewL xs H1 Q) : tLst t σ H Q := h
theorem i_bm {T : String} {r : V → List V → Hp → VK → Prop} {to : TE} {t : TA} (h : to σ H fun x H1 => tyV K T x H1 ∧ t σ H1 fun xs H2 => r x xs H2 Q) : tBM K T r to t σ H Q := h
theorem i_bm0 {T : String} {r : V → List V → Hp → VK → Prop} {to : TE} (h : to σ H fun x H1 => tyV K T x H1 ∧ r x [] H1 Q) : tBM0 K T r to σ H Q := h
theorem i_fld {ta : TE} {f : Str} (h : ta σ H fun x H1 => ∃ a C dx fs v, x = .ref a ∧ H1 a = some (.ins C dx fs) ∧ Cls K C ∧ NoAttr K C f ∧ fs.lookup f = some v ∧ Q v H1) : tFld K ta f σ H Q := h
theorem i_sfld {ta tv : TE} {f : Str} (h : tv σ H fun y H1 => ta σ H1 fun x H2 => ∃ a C dx fs, x = .ref a ∧ H2 a = some (.ins C dx fs) ∧ Cls K C ∧ NoAttr K C f ∧ fs.length < 1000 ∧ D.nx σ (upd H2 a (.ins C dx (putF f y fs)))) : sFld K ta tv f D σ H := h
theorem i_sl {r : V → Option Int → Option Int → Hp → VK → Prop} {te : TE} {tl th : TO} (h : te σ H fun x H1 => tl σ H1 fun l H2 => th σ H2 fun u H3 => r x l u H3 Q) : tSl r te tl th σ H Q := h
theorem i_part {t : TE} {R : Option Int → Hp → Prop} (h : t σ H fun x H1 => ∃ i, x = .int i ∧ R (some i) H1) : tPart t σ H R := h
theorem i_exi {b : Int} {R : Int → Prop} (h : R b) : ∃ k, V.int b = V.int k ∧ R k := ⟨b, rfl, h⟩
theorem i_noPart {R : Option Int → Hp → Prop} (h : R none H) : tNoPart σ H R := h
/-- a test by a value's truth -/
theorem i_truB {b : Bool} {R : Bool → Prop} (h : R b) : ∃ k, TruV K (.bl b) H k ∧ R k := ⟨b, rfl, h⟩
/-- ifs -/
theorem i_ifd {c A B : Prop} [Decidable c] (h1 : c → A) (h2 : ¬ c → B) : if decide c = true then A else B := by
  by_cases h : c
  · rw [if_pos (decide_eq_true h)]; exact h1 h
  · rw [if_neg (by simp [h])]; exact h2 h
theorem i_ifb {b : Bool} {A B : Prop} (h1 : b = true → A) (h2 : b = false → B) : if b = true then A else B := by
  cases b
  · rw [if_neg Bool.false_ne_true]; exact h2 rfl
  · rw [if_pos rfl]; exact h1 rfl
theorem i_ifT {b : Bool} {A B : Prop} (h : b = true) (k : A) : if b = true then A else B := by rw [if_pos h]; exact k
theorem i_ifF {b : Bool} {A B : Prop} (h : b = false) (k : B) : if b = true then A else B := by rw [if_neg (by rw [h]; exact Bool.false_ne_true)]; exact k
end

def LoopR (lo : Int) (n : Nat) (g : TG) (tb : TS) (D : Ends) (σ : St) (H : Hp) : Prop :=
  ∃ W : Nat → Nat → St → Hp → Prop, (∃ m, W 0 m σ H) ∧ ∀ i m σ H, W i m σ H →
      ((Itr lo n).stop i H ∧ D.nx σ H) ∨ ((Itr lo n).go i H ∧ ∃ N : St → Hp → Prop, (∀ σ' H', N σ' H' → ∃ m', m' < m ∧ W (i + 1) m' σ' H') ∧ ∀ x H', (Itr lo n).yld i H x H' → g x σ H' fun σ2 H2 => tb { D with nx := N, ct := N, bk := D.nx } σ2 H2)
def LoopL (K : PySem.W.Frag) (a : Addr) (g : TG) (tb : TS) (D : Ends) (σ : St) (H : Hp) : Prop :=
  ∃ W : Nat → Nat → St → Hp → Prop, (∃ m, W 0 m σ H) ∧ ∀ i m σ H, W i m σ H →
      ((Itl K a).stop i H ∧ D.nx σ H) ∨ ((Itl K a).go i H ∧ ∃ N : St → Hp → Prop, (∀ σ' H', N σ' H' → ∃ m', m' < m ∧ W (i + 1) m' σ' H') ∧ ∀ x H', (Itl K a).yld i H x H' → g x σ H' fun σ2 H2 => tb { D with nx := N, ct := N, bk := D.nx } σ2 H2)
def LoopT (K : PySem.W.Frag) (a : Addr) (g : TG) (tb : TS) (D : Ends) (σ : St) (H : Hp) : Prop :=
  ∃ W : Nat → Nat → St → Hp → Prop, (∃ m, W 0 m σ H) ∧ ∀ i m σ H, W i m σ H →
      ((Itt K a).stop i H ∧ D.nx σ H) ∨ ((Itt K a).go i H ∧ ∃ N : St → Hp → Prop, (∀ σ' H', N σ' H' → ∃ m', m' < m ∧ W (i + 1) m' σ' H') ∧ ∀ x H', (Itt K a).yld i H x H' → g x σ H' fun σ2 H2 => tb { D with nx := N, ct := N, bk := D.nx } σ2 H2)
section
variable {σ : St} {H : Hp} {D : Ends} {K : PySem.W.Frag} {g : TG} {tb : TS}
theorem i_forR1 {ta : TA} (h : ta σ H fun vs H1 => ∃ j : Int, vs = [.int j] ∧ -(2 ^ 62) ≤ j ∧ j < 2 ^ 62 ∧ LoopR 0 j.toNat g tb D σ H1) : tFor (iRng1 ta) g tb D σ H := h
theorem loopR {lo : Int} {n : Nat} (Pv : Nat → St → Hp → Prop) (h0 : Pv 0 σ H) (hs : ∀ i σ H, i < n → Pv i σ H → g (.int (lo + i)) σ H fun σ2 H2 => tb { D with nx := Pv (i + 1), ct := Pv (i + 1), bk := D.nx } σ2 H2) (hd : ∀ σ H, Pv n σ H → D.nx σ H) : LoopR lo n g tb D σ H := for_range Pv h0 hs hd
theorem loopL {a : Addr} {xs : List V} (Pv : Nat → St → Hp → Prop) (h0 : Pv 0 σ H) (hl : ∀ i σ H, i ≤ xs.length → Pv i σ H → SqL K H a xs) (hs : ∀ i x σ H, xs[i]? = some x → Pv i σ H → g x σ H fun σ2 H2 => tb { D with nx := Pv (i + 1), ct := Pv (i + 1), bk := D.nx } σ2 H2) (hd : ∀ σ H, Pv xs.length σ H → D.nx σ H) : LoopL K a g tb D σ H := for_list Pv h0 hl hs hd
theorem loopT {a : Addr} {xs : List V} (Pv : Nat → St → Hp → Prop) (h0 : Pv 0 σ H) (hl : ∀ i σ H, i ≤ xs.length → Pv i σ H → SqT K H a xs) (hs : ∀ i x σ H, xs[i]? = some x → Pv i σ H → g x σ H fun σ2 H2 => tb { D with nx := Pv (i + 1), ct := Pv (i + 1), bk := D.nx } σ2 H2) (hd : ∀ σ H, Pv xs.length σ H → D.nx σ H) : LoopT K a g tb D σ H := for_tup Pv h0 hl hs hd
end

def Its (x : Str) : It := ⟨fun i _ => i < x.cps.size, fun i H v H' => H' = H ∧ ∃ c, x.cps[i]? = some c ∧ v = .str ⟨#[c]⟩, fun i _ => x.cps.size ≤ i⟩
theorem turn_strA {P : Program} {w : World} {K : PySem.W.Frag} {tg : Expr} (x : Str) (t : Tok) (it : Addr) : Turn P w K tg (Its x) [it] it (fun i h => h.IsStrIter it "str_ascii_iterator" x t i) where
  mem := by simp
  obj := fun i h st b hb => by
    have e : b = it := by simpa using hb
    subst e
    obtain ⟨o, e, c, d⟩ := st
    exact ⟨o, e, fun v z => by rw [d] at z; cases z⟩
  keep := fun i h h' st k => let ⟨o, ho, r⟩ := st; ⟨o, k it (by simp) o ho, r⟩
  item := by
    intro X hP hw hK hc i pins s σ H E I hf st hg
    subst hP hw hK
    obtain ⟨f0, f1, f2, f3, f4, f5⟩ := hf it (by simp)
    have hg : i < x.cps.size := hg
    refine wpAny_pyNext_ascii_item st (c := x.cps[i]) (by simp [hg]) fun h' st' sb => ?_
    have I1 : Inv X pins σ H { s with heap := h', toks := s.toks + 1 } := I.turned (fun b o hb e => (sb.2 b hb).trans e) f0 f1 f3 f4 f5
    obtain ⟨o, e, c, d⟩ := id st'
    exact ⟨_, rfl, go_of (s := { s with heap := h', toks := s.toks + 1 }) e c d (by decide) ⟨.str ⟨#[x.cps[i]]⟩, H, I1, ⟨_, rfl⟩, ⟨rfl, _, by simp [hg], rfl⟩, st', fun b hb => (hf b hb).1⟩⟩
  done := by
    intro X hP hw hK hc i pins s σ H E I hf st hg
    subst hP hw hK
    obtain ⟨f0, f1, f2, f3, f4, f5⟩ := hf it (by simp)
    have hg : x.cps.size ≤ i := hg
    exact wpAny_pyNext_ascii_end (I.ok.hd hc) st (by simp [hg]) fun h' eb => ⟨rfl, I.turned (t' := s.toks) (fun b o hb e => eb b o hb e) f0 f1 f3 f4 f5⟩
  self := fun _ _ _ _ _ st h => wpAny_pyIter_striter_ascii st h
theorem turn_strW {P : Program} {w : World} {K : PySem.W.Frag} {tg : Expr} (x : Str) (t : Tok) (it : Addr) : Turn P w K tg (Its x) [it] it (fun i h => h.IsStrIter it "str_iterator" x t i) where
  mem := by simp
  obj := fun i h st b hb => by
    have e : b = it := by simpa using hb
    subst e
    obtain ⟨o, e, c, d⟩ := st
    exact ⟨o, e, fun v z => by rw [d] at z; cases z⟩
  keep := fun i h h' st k => let ⟨o, ho, r⟩ := st; ⟨o, k it (by simp) o ho, r⟩
  item := by
    intro X hP hw hK hc i pins s σ H E I hf st hg
    subst hP hw hK
    obtain ⟨f0, f1, f2, f3, f4, f5⟩ := hf it (by simp)
    have hg : i < x.cps.size := hg
    refine wpAny_pyNext_wide_item st (c := x.cps[i]) (by simp [hg]) fun h' st' sb => ?_
    have I1 : Inv X pins σ H { s with heap := h', toks := s.toks + 1 } := I.turned (fun b o hb e => (sb.2 b hb).trans e) f0 f1 f3 f4 f5
    obtain ⟨o, e, c, d⟩ := id st'
    exact ⟨_, rfl, go_of (s := { s with heap := h', toks := s.toks + 1 }) e c d (by decide) ⟨.str ⟨#[x.cps[i]]⟩, H, I1, ⟨_, rfl⟩, ⟨rfl, _, by simp [hg], rfl⟩, st', fun b hb => (hf b hb).1⟩⟩
  done := by
    intro X hP hw hK hc i pins s σ H E I hf st hg
    subst hP hw hK
    obtain ⟨f0, f1, f2, f3, f4, f5⟩ := hf it (by simp)
    have hg : x.cps.size ≤ i := hg
    exact wpAny_pyNext_wide_end (I.ok.hd hc) st (by simp [hg]) fun h' eb => ⟨rfl, I.turned (t' := s.toks) (fun b o hb e => eb b o hb e) f0 f1 f3 f4 f5⟩
  self := fun _ _ _ _ _ st h => wpAny_pyIter_striter_wide st h
def iSeq (K : PySem.W.Frag) (tl : TE) : TI := fun σ H R => tl σ H fun x H1 => (∃ a xs, x = .ref a ∧ SqL K H1 a xs ∧ R (Itl K a) H1) ∨ (∃ a xs, x = .ref a ∧ SqT K H1 a xs ∧ R (Itt K a) H1) ∨ (∃ z, x = .str z ∧ R (Its z) H1)
theorem pi_seq {X : Cx} {tg : Expr} {l : Expr} {tl : TE} (hl : PE X l tl) : PI X tg l (iSeq X.K tl) := by
  intro pins s σ H R I h
  refine thn (hl pins s σ H _ I h) fun v s1 ⟨x, H1, I1, r1, q1⟩ => ?_
  have fp : ∀ b ∈ [s1.heap.objs.size], FpOk X pins H1 b := fun b hb => by
    have e : b = s1.heap.objs.size := by simpa using hb
    subst e
    exact I1.fpOk (Nat.le_refl _) (I1.hok.fresh (Nat.le_refl _))
  rcases q1 with ⟨a, xs, e, hq, q⟩ | ⟨a, xs, e, hq, q⟩ | ⟨z, e, q⟩
  · subst e
    cases r1
    obtain ⟨its, rv, p, hz⟩ := I1.list hq
    refine wpAny_pyIter_list p.isList ?_
    exact ⟨s1.heap.objs.size, [s1.heap.objs.size], _, _, H1, rfl, I1.kept (t' := s1.toks) fun b o e => Heap.get?_push_of_some _ e, turn_list a _, ⟨_, Heap.get?_push_size _ rfl, rfl, rfl⟩, fp, q⟩
  · subst e
    cases r1
    obtain ⟨its, rv, p, hz⟩ := I1.tuple hq
    refine wpAny_pyIter_tuple (show s1.heap.IsTuple a its.toArray from p) ?_
    exact ⟨s1.heap.objs.size, [s1.heap.objs.size], _, _, H1, rfl, I1.kept (t' := s1.toks) fun b o e => Heap.get?_push_of_some _ e, turn_tuple a _, ⟨_, Heap.get?_push_size _ rfl, rfl, rfl⟩, fp, q⟩
  · subst e
    obtain ⟨t, rfl⟩ := r1
    cases ha : z.cps.all (· < 128) with
    | false =>
      refine wpAny_pyIter_wide ha ?_
      exact ⟨s1.heap.objs.size, [s1.heap.objs.size], _, _, H1, rfl, I1.kept (t' := s1.toks) fun b o e => Heap.get?_push_of_some _ e, turn_strW z t _, ⟨_, Heap.get?_push_size _ rfl, rfl, rfl⟩, fp, q⟩
    | true =>
      refine wpAny_pyIter_ascii ha ?_
      exact ⟨s1.heap.objs.size, [s1.heap.objs.size], _, _, H1, rfl, I1.kept (t' := s1.toks) fun b o e => Heap.get?_push_of_some _ e, turn_strA z t _, ⟨_, Heap.get?_push_size _ rfl, rfl, rfl⟩, fp, q⟩
def LoopX (x : Str) (g : TG) (tb : TS) (D : Ends) (σ : St) (H : Hp) : Prop :=
  ∃ W : Nat → Nat → St → Hp → Prop, (∃ m, W 0 m σ H) ∧ ∀ i m σ H, W i m σ H →
      ((Its x).stop i H ∧ D.nx σ H) ∨ ((Its x).go i H ∧ ∃ N : St → Hp → Prop, (∀ σ' H', N σ' H' → ∃ m', m' < m ∧ W (i + 1) m' σ' H') ∧ ∀ x' H', (Its x).yld i H x' H' → g x' σ H' fun σ2 H2 => tb { D with nx := N, ct := N, bk := D.nx } σ2 H2)
def SeqW (K : PySem.W.Frag) (x : V) (g : TG) (tb : TS) (D : Ends) (σ : St) (H1 : Hp) : Prop :=
  (∃ a xs, x = .ref a ∧ SqL K H1 a xs ∧ LoopL K a g tb D σ H1) ∨ (∃ a xs, x = .ref a ∧ SqT K H1 a xs ∧ LoopT K a g tb D σ H1) ∨ (∃ z, x = .str z ∧ LoopX z g tb D σ H1)
section
variable {σ : St} {H : Hp} {D : Ends} {K : PySem.W.Frag} {g : TG} {tb : TS}
theorem i_forS {tl : TE} (h : tl σ H fun x H1 => SeqW K x g tb D σ H1) : tFor (iSeq K tl) g tb D σ H := h
theorem seqL {a : Addr} {xs : List V} (Pv : Nat → St → Hp → Prop) (h0 : Pv 0 σ H) (hl : ∀ i σ H, i ≤ xs.length → Pv i σ H → SqL K H a xs) (hs : ∀ i x σ H, xs[i]? = some x → Pv i σ H → g x σ H fun σ2 H2 => tb { D with nx := Pv (i + 1), ct := Pv (i + 1), bk := D.nx } σ2 H2) (hd : ∀ σ H, Pv xs.length σ H → D.nx σ H) : SeqW K (.ref a) g tb D σ H := .inl ⟨a, xs, rfl, hl 0 σ H (Nat.zero_le _) h0, loopL Pv h0 hl hs hd⟩
theorem seqT {a : Addr} {xs : List V} (Pv : Nat → St → Hp → Prop) (h0 : Pv 0 σ H) (hl : ∀ i σ H, i ≤ xs.length → Pv i σ H → SqT K H a xs) (hs : ∀ i x σ H, xs[i]? = some x → Pv i σ H → g x σ H fun σ2 H2 => tb { D with nx := Pv (i + 1), ct := Pv (i + 1), bk := D.nx } σ2 H2) (hd : ∀ σ H, Pv xs.length σ H → D.nx σ H) : SeqW K (.ref a) g tb D σ H := .inr (.inl ⟨a, xs, rfl, hl 0 σ H (Nat.zero_le _) h0, loopT Pv h0 hl hs hd⟩)
end

section
variable (P : Program) (w : World) (K : PySem.W.Frag) (mg : Str → Option Value) (base : Heap)
def FnS (k : Nat) (x : Str) (ps : List Str) (sp : Sp) : Prop := ∃ f fd, FnOk P w K mg base CX0 k f fd ps sp ∧ Binds K fd ps [] ∧ PySem.W.keepIn K (.ref f) = true ∧ mg x = some (.ref f)
def MeS (k : Nat) (C : Addr) (m : Str) (ps : List Str) (sp : Sp) : Prop := Cls K C ∧ ∃ f fd, FnOk P w K mg base CX0 k f fd ps sp ∧ Binds K fd ps [] ∧ Meth K C m f
def MkS (k : Nat) (x : Str) (C : Addr) (ps : List Str) (sp : Sp) : Prop := mg x = some (.ref C) ∧ ∃ f fd, Mk K C f ∧ FnOk P w K mg base CX0 k f fd ps sp ∧ Binds K fd ps []
end
def tFn (sp : Sp) (t : TA) : TE := fun σ H Q => t σ H fun vs H1 => sp vs H1 Q E0
def MkG (C : Addr) (sp : Sp) (vs : List V) (H1 : Hp) (Q : VK) : Prop := ∀ x dx, H1 x = none → H1 dx = none → dx ≠ x →
  sp (.ref x :: vs) (upd (upd H1 dx (.own x)) x (.ins C dx [])) (fun v H2 => v = .non ∧ Q (.ref x) H2) E0
def tMk (C : Addr) (sp : Sp) (t : TA) : TE := fun σ H Q => t σ H fun vs H1 => MkG C sp vs H1 Q
/-- o.m(..) of an instance of one of several classes: D tells which, each keeps sp for its own instances -/
def tDy (D : Addr → Prop) (m : Str) (sp : Sp) (ta : TE) (t : TA) : TE := fun σ H Q => ta σ H fun x H1 => ∃ a C dx fs, x = .ref a ∧ H1 a = some (.ins C dx fs) ∧ D C ∧ fs.lookup m = none ∧
  t σ H1 fun vs H2 => H2 a = some (.ins C dx fs) ∧ sp (x :: vs) H2 Q E0
/-- .. the promise of the class at C -/
def spAt (sp : Sp) (C : Addr) : Sp := fun vs H Q E => sp vs H Q E ∧ ∃ a dx fs r, vs = V.ref a :: r ∧ H a = some (.ins C dx fs)
theorem i_fn {sp : Sp} {t : TA} {σ : St} {H : Hp} {Q : VK} (h : t σ H fun vs H1 => sp vs H1 Q E0) : tFn sp t σ H Q := h
theorem i_mk {C : Addr} {sp : Sp} {t : TA} {σ : St} {H : Hp} {Q : VK} (h : t σ H fun vs H1 => MkG C sp vs H1 Q) : tMk C sp t σ H Q := h
theorem i_dy {D : Addr → Prop} {m : Str} {sp : Sp} {ta : TE} {t : TA} {σ : St} {H : Hp} {Q : VK} (h : ta σ H fun x H1 => ∃ a C dx fs, x = .ref a ∧ H1 a = some (.ins C dx fs) ∧ D C ∧ fs.lookup m = none ∧
  t σ H1 fun vs H2 => H2 a = some (.ins C dx fs) ∧ sp (x :: vs) H2 Q E0) : tDy D m sp ta t σ H Q := h
theorem tCall_nil (sp : Sp) (t : TA) : tCall sp [] E0 t = tFn sp t := by
  funext σ H Q
  unfold tCall tFn
  have e : (fun (vs : List V) (H1 : Hp) => sp (vs ++ []) H1 Q E0) = fun vs H1 => sp vs H1 Q E0 := by
    funext vs H1; rw [List.append_nil]
  rw [e]
theorem tMake_nil (C : Addr) (sp : Sp) (t : TA) : tMake C sp [] E0 t = tMk C sp t := by
  funext σ H Q
  unfold tMake tMk MkG
  congr 1
  funext vs H1
  rw [List.append_nil]
section
variable {X : Cx} {k k' : Nat} {x m : Str} {C : Addr} {ps : List Str} {sp : Sp} {e o : Expr} {es : List Expr} {ta : TE} {t : TA} {p pos apos : Pos}
theorem pe_fn (G : FnS X.prog X.w X.K X.mg X.base k x ps sp) (hr : Room k' X.A) (ha : PA X (e :: es) t) (hk : k ≤ k' := by omega) (hg : Gl X x := by rfl) (hdb : (x == ("__debug__" : Str)) = false := by decide)
    (he : starEach (e :: es) X.env = (false, eval e X.env) :: starEach es X.env := by rfl) (hpl : (backTo pos (starEach es X.env)).any (·.1) = false := by rfl) : PE X (.Call (.Name x p) (e :: es) [] pos) (tFn sp t) := by
  obtain ⟨f, fd, F, hb, kp, hm⟩ := G
  rw [← tCall_nil]
  exact pe_call F (hr.mono hk) hg hm kp hb .nil pass0 ha hdb he hpl
theorem pe_mk (G : MkS X.prog X.w X.K X.mg X.base k x C ps sp) (hr : Room k' X.A) (ha : PA X (e :: es) t) (hk : k + 1 ≤ k' := by omega) (hg : Gl X x := by rfl) (hdb : (x == ("__debug__" : Str)) = false := by decide)
    (he : starEach (e :: es) X.env = (false, eval e X.env) :: starEach es X.env := by rfl) (hpl : (backTo pos (starEach es X.env)).any (·.1) = false := by rfl) : PE X (.Call (.Name x p) (e :: es) [] pos) (tMk C sp t) := by
  obtain ⟨hm, f, fd, M, F, hb⟩ := G
  rw [← tMake_nil]
  exact pe_make M F (hr.mono hk) hg hm hb .nil pass0 ha hdb he hpl
theorem pe_dy {pl : Sem Bool} {D : Addr → Prop} (hD : ∀ C, D C → MeS X.prog X.w X.K X.mg X.base k C m ps (spAt sp C)) (hr : Room k' X.A) (ho : PE X o ta) (ha : PA X (e :: es) t) (hk : k ≤ k' := by omega)
    (hst : starEach (e :: es) X.env = (false, eval e X.env) :: starEach es X.env := by rfl) (hpl : (backTo pos (starEach es X.env)).any (·.1) = false := by rfl)
    (ht : eval (.Call (.Attribute o m apos) (e :: es) [] pos) X.env = (do
      let ov ← eval o X.env
      standAt apos.atName
      let (f, first) ← holding [ov] (getMethod ov m pl)
      callWith pos f first (backTo pos (starEach (e :: es) X.env)) (backToKw pos (keywordEach [] X.env))) := by rfl) :
    PE X (.Call (.Attribute o m apos) (e :: es) [] pos) (tDy D m sp ta t) := by
  intro pins s σ H Q I h
  refine PySem.W.methodCall_KW (pl := pl) (thn (ho pins s σ H _ I h) fun u s1 ⟨x, H1, I1, rx, a, C, dx, fs, ex, ea, hC, l, q⟩ => ?_) ht
  subst ex
  obtain rfl : u = Value.ref a := rx
  obtain ⟨c, f, fd, F, hb, hm⟩ := hD C hC
  refine getmeth_ok I1 ea c hm l ?_
  refine PySem.W.callWith_K (first := [.ref a]) (h₀ := X.base) I.ok.mod.kin hm.kp (thn (ha pos pins s1 σ H1 _ I1 q) fun us s2 ⟨vs, H2, I2, r, eb, q2⟩ => ⟨I2.kIn, ?_⟩) hst hpl
  exact run_fn (us := .ref a :: us) (vs := .ref a :: vs) (dvs := []) (E := E0) F (hr.mono hk) hb .nil pass0 I2 (.cons rfl r) (by rw [List.append_nil]; exact ⟨q2, a, dx, fs, vs, rfl, eb⟩)
/-- name = value, the slot i -/
theorem ss (i : Nat) {x : Str} {e : Expr} {te : TE} {pos pos' : Pos} (hN : X.N.Nodup) (he : PE X e te) (hi : X.N[i]? = some x := by rfl) (hx : Loc X.env.scope x := by first | exact Or.inl rfl | exact Or.inr rfl)
    (hs : swapsWith e (some (.Name x pos')) pos.line X.env = pure false := by rfl) (hf : X.fn x = true ∨ X.env.scope.names.lookup x = some .local := by first | exact .inl rfl | exact .inr rfl) : PS X (.Assign [.Name x pos'] e pos) (tAsg te (gName i)) :=
  ps_set hN hi hx he hs hf
theorem sg (i : Nat) {x : Str} {pos : Pos} (hN : X.N.Nodup) (hi : X.N[i]? = some x := by rfl) (hx : Loc X.env.scope x := by first | exact Or.inl rfl | exact Or.inr rfl) (hf : X.fn x = true ∨ X.env.scope.names.lookup x = some .local := by first | exact .inl rfl | exact .inr rfl) : PG X (.Name x pos) (gName i) := pg_name hN hi hx hf
def rIsi (K : PySem.W.Frag) : List V → Hp → VK → Prop := fun xs H Q => ∃ x t b, TyOf K H x t ∧ ((∃ n, xs = [x, .ty n] ∧ PySem.W.kitOne K t (.type n) = some b) ∨ (∃ c, xs = [x, .ref c] ∧ PySem.W.kitOne K t (.ref c) = some b)) ∧ Q (.bl b) H
theorem call_isi : CallR X (.builtin "isinstance") (rIsi X.K) := by
  intro pins s σ H xs us Q I r h
  obtain ⟨x, t, b, ty, h, q⟩ := h
  rcases h with ⟨n, rfl, e⟩ | ⟨c, rfl, e⟩
  · obtain ⟨u, v, rfl, ru, rv⟩ := vals2 r
    obtain rfl : v = Value.type n := rv
    exact isinst_ok I ru ty e fun tk => ⟨.bl b, H, I.tok tk, rfl, q⟩
  · obtain ⟨u, v, rfl, ru, rv⟩ := vals2 r
    obtain rfl : v = Value.ref c := rv
    exact isinst_ok I ru ty e fun tk => ⟨.bl b, H, I.tok tk, rfl, q⟩
theorem i_isiT {K : PySem.W.Frag} {x : V} {n : String} {t : Value} {b : Bool} {H : Hp} {Q : VK} (ty : TyOf K H x t) (e : PySem.W.kitOne K t (.type n) = some b) (h : Q (.bl b) H) : rIsi K [x, .ty n] H Q := ⟨x, t, b, ty, .inl ⟨n, rfl, e⟩, h⟩
def rAddG : R2 := fun x y H Q => rI0 (fun i j => V.int (i + j)) x y H Q ∨ (∃ i j, x = .str i ∧ y = .str j ∧ i.length + j.length ≤ sizeLine ∧ Q (.str (i ++ j)) H) ∨ rCat x y H Q
theorem op_addG : OpR X (binaryOp .Add) rAddG := OpR.or op_add (OpR.or op_add_str op_cat)
theorem i_addI {i j : Int} {H : Hp} {Q : VK} (h : Q (.int (i + j)) H) : rAddG (.int i) (.int j) H Q := .inl ⟨i, j, rfl, rfl, h⟩
theorem i_addL {l b : Addr} {xs zs : List V} {H : Hp} {Q : VK} (h1 : H l = some (.lst xs)) (h2 : H b = some (.lst zs)) (z : xs.length + zs.length ≤ sizeLine) (h : ∀ p, H p = none → Q (.ref p) (upd H p (.lst (xs ++ zs)))) : rAddG (.ref l) (.ref b) H Q := .inr (.inr ⟨l, b, xs, zs, rfl, rfl, h1, h2, z, h⟩)
end

section
variable {X : Cx} {K : PySem.W.Frag} {H : Hp} {Q : VK} {a : Expr} {ta : TE} {pos : Pos}
theorem bt_len : bootBuiltins "len" = some (.builtin "len") := by decide +kernel
theorem bt_isinstance : bootBuiltins "isinstance" = some (.builtin "isinstance") := by decide +kernel
theorem bt_int : bootBuiltins "int" = some (.type "int") := by decide +kernel
theorem bt_bool : bootBuiltins "bool" = some (.type "bool") := by decide +kernel
theorem bt_list : bootBuiltins "list" = some (.type "list") := by decide +kernel
theorem bt_tuple : bootBuiltins "tuple" = some (.type "tuple") := by decide +kernel
theorem bt_reversed : bootBuiltins "reversed" = some (.type "reversed") := by decide +kernel
theorem bt_enumerate : bootBuiltins "enumerate" = some (.type "enumerate") := by decide +kernel
/-- not of any value -/
def tNotG (K : PySem.W.Frag) (ta : TE) : TE := fun σ H Q => ta σ H fun x H1 => ∃ k, TruV K x H1 k ∧ Q (.bl (!k)) H1
theorem pe_notG (ha : PE X a ta) : PE X (.UnaryOp .Not a pos) (tNotG X.K ta) := by
  intro pins s σ H Q I h
  refine UnaryOp_ (thn (ha pins s σ H _ I h) fun v s1 ⟨x, H1, I1, r1, q1⟩ => ?_)
  exact not_of (thn (tru_ok pins s1 σ H1 x v (fun k H2 => Q (.bl (!k)) H2) I1 r1 q1) fun b s2 ⟨H2, I2, q2⟩ => ⟨.bl (!b), H2, I2, rfl, q2⟩)
theorem i_notG {σ : St} (h : ta σ H fun x H1 => ∃ k, TruV K x H1 k ∧ Q (.bl (!k)) H1) : tNotG K ta σ H Q := h
/-- len -/
def rLen (K : PySem.W.Frag) : List V → Hp → VK → Prop := fun xs H Q => ∃ x n, xs = [x] ∧ LenV K x H n ∧ Q (.int n) H
theorem call_lenG : CallR X (.builtin "len") (rLen X.K) := call_len
theorem i_lenS {p : Addr} {xs : List V} (h : SqL K H p xs) (k : Q (.int xs.length) H) : rLen K [.ref p] H Q := ⟨_, _, rfl, .inl ⟨xs, h, rfl⟩, k⟩
theorem i_lenL {p : Addr} {xs : List V} (h : H p = some (.lst xs)) (k : Q (.int xs.length) H) : rLen K [.ref p] H Q := ⟨_, _, rfl, .inl ⟨xs, SqL.of h, rfl⟩, k⟩
theorem i_lenT {p : Addr} {xs : List V} (h : H p = some (.tup xs)) (k : Q (.int xs.length) H) : rLen K [.ref p] H Q := ⟨_, _, rfl, .inr ⟨xs, SqT.of h, rfl⟩, k⟩
/-- int() -/
def rInt1 : List V → Hp → VK → Prop := fun xs H Q => (∃ i, xs = [.int i] ∧ Q (.int i) H) ∨ ∃ k, xs = [.bl k] ∧ Q (.int (if k then 1 else 0)) H
theorem call_intG : CallR X (.type "int") rInt1 := call_int1
theorem i_intB {b : Bool} (h : Q (.int (if b then 1 else 0)) H) : rInt1 [.bl b] H Q := .inr ⟨b, rfl, h⟩
/-- list(), tuple() -/
def rListOf (K : PySem.W.Frag) : List V → Hp → VK → Prop := fun xs H Q => ∃ p ys, xs = [.ref p] ∧ (SqL K H p ys ∨ SqT K H p ys) ∧ ∀ l, H l = none → Q (.ref l) (upd H l (.lst ys))
theorem call_listG : CallR X (.type "list") (rListOf X.K) := call_list_of
def rTupOf (K : PySem.W.Frag) : List V → Hp → VK → Prop := fun xs H Q => ∃ p ys, xs = [.ref p] ∧ ((SqL K H p ys ∧ ∀ l, H l = none → Q (.ref l) (upd H l (.tup ys))) ∨ (SqT K H p ys ∧ Q (.ref p) H))
theorem call_tupleG : CallR X (.type "tuple") (rTupOf X.K) := call_tuple_of
theorem i_tupL {p : Addr} {ys : List V} (h : H p = some (.lst ys)) (k : ∀ l, H l = none → Q (.ref l) (upd H l (.tup ys))) : rTupOf K [.ref p] H Q := ⟨p, ys, rfl, .inl ⟨SqL.of h, k⟩⟩
/-- index -/
theorem i_ixS {p : Addr} {xs : List V} {j : Nat} {v : V} (h : SqL K H p xs) (e : xs[j]? = some v) (k : Q v H) : rIx K (.ref p) (.int (j : Int)) H Q := .inl ⟨p, xs, j, v, rfl, rfl, h, atI_nat e, k⟩
theorem i_ixL {p : Addr} {xs : List V} {j : Nat} {v : V} (h : H p = some (.lst xs)) (e : xs[j]? = some v) (k : Q v H) : rIx K (.ref p) (.int (j : Int)) H Q := .inl ⟨p, xs, j, v, rfl, rfl, SqL.of h, atI_nat e, k⟩
theorem i_ixLi {p : Addr} {xs : List V} {i : Int} {v : V} (h : H p = some (.lst xs)) (e : atI xs i = some v) (k : Q v H) : rIx K (.ref p) (.int i) H Q := .inl ⟨p, xs, i, v, rfl, rfl, SqL.of h, e, k⟩
theorem i_ixT {p : Addr} {xs : List V} {i : Int} {v : V} (h : H p = some (.tup xs)) (e : atI xs i = some v) (k : Q v H) : rIx K (.ref p) (.int i) H Q := .inr (.inl ⟨p, xs, i, v, rfl, rfl, SqT.of h, e, k⟩)
/-- slices of lists and tuples -/
def rSlG (K : PySem.W.Frag) : V → Option Int → Option Int → Hp → VK → Prop := fun x lo hi H Q => rSlL K x lo hi H Q ∨ rSlT K x lo hi H Q
theorem sl_seq : SlR X (rSlG X.K) := SlR.or sl_list sl_tup
theorem i_slS {p : Addr} {xs : List V} {lo hi : Option Int} (h : SqL K H p xs) (k : ∀ l, H l = none → Q (.ref l) (upd H l (.lst (cutV xs lo hi)))) : rSlG K (.ref p) lo hi H Q := .inl ⟨p, xs, rfl, h, k⟩
/-- a times b -/
def rMulG : R2 := rI CMul fun i j => V.int (i * j)
theorem op_mulG : OpR X (binaryOp .Mult) rMulG := op_mul
theorem i_mulI {i j : Int} (c : CMul i j) (h : Q (.int (i * j)) H) : rMulG (.int i) (.int j) H Q := ⟨i, j, rfl, rfl, c, h⟩
/-- list methods -/
theorem i_append {l : Addr} {xs : List V} {y : V} (h : H l = some (.lst xs)) (z : xs.length < sizeLine) (k : Q .non (upd H l (.lst (xs ++ [y])))) : rAppend (.ref l) [y] H Q := ⟨l, xs, y, rfl, rfl, h, z, k⟩
theorem i_clear {l : Addr} {xs : List V} (h : H l = some (.lst xs)) (k : Q .non (upd H l (.lst []))) : rClear (.ref l) [] H Q := ⟨l, xs, rfl, rfl, h, k⟩
theorem tyL {l : Addr} {xs : List V} (h : H l = some (.lst xs)) : tyV K "list" (.ref l) H := .inl ⟨rfl, xs, SqL.of h⟩
end
theorem small {n : Nat} (h : n ≤ 1000000) : n ≤ sizeLine := Nat.le_trans h (by decide)
theorem smallL {n : Nat} (h : n < 1000000) : n < sizeLine := Nat.lt_of_lt_of_le h (by decide)
theorem nd_ne {l : List Addr} (h : l.Nodup) {i j : Nat} {a b : Addr} (ha : l[i]? = some a) (hb : l[j]? = some b) (hij : i ≠ j) : a ≠ b := by
  intro e
  subst e
  obtain ⟨h1, e1⟩ := List.getElem?_eq_some_iff.mp ha
  obtain ⟨h2, e2⟩ := List.getElem?_eq_some_iff.mp hb
  exact hij ((List.getElem_inj h).mp (e1.trans e2.symm))
theorem kit_self (K : PySem.W.Frag) (n : String) : PySem.W.kitOne K (.type n) (.type n) = some true := by
  unfold PySem.W.kitOne
  rw [if_pos (by simp)]
theorem same_new {H : Hp} {p : Addr} (h : H p = none) (o : HO) : Same H (upd H p o) := fun b u q => by rw [upd_ne (ne_of_none q h)]; exact q
theorem same_new2 {H : Hp} {p q : Addr} (hp : H p = none) (hq : H q = none) (o u : HO) : Same H (upd (upd H q u) p o) := fun b v e => by rw [upd_ne (ne_of_none e hp), upd_ne (ne_of_none e hq)]; exact e
theorem kit_prim {K : PySem.W.Frag} {t c : String} {b : Bool} (h1 : t ≠ c) (h2 : PySem.W.kitMeta c = true) (h3 : (PySem.fastBuiltinMro t).map (·.contains (Value.type c)) = some b) : PySem.W.kitOne K (.type t) (.type c) = some b := by
  unfold PySem.W.kitOne
  rw [if_neg (by simp [h1])]
  unfold PySem.W.kitCls
  dsimp only
  rw [if_pos h2]
  exact h3
theorem kit_own {K : PySem.W.Frag} {t : Value} {D : Addr} {b : Bool} (hne : t ≠ .ref D) (h1 : PySem.W.isClsIn K D = true) (h2 : PySem.W.typeIn K (.ref D) = some (.type "type")) (h3 : PySem.W.subIn K t (.ref D) = some b) : PySem.W.kitOne K t (.ref D) = some b := by
  unfold PySem.W.kitOne
  rw [if_neg (by simp [hne])]
  unfold PySem.W.kitCls
  dsimp only
  unfold PySem.W.isClsIn at h1
  rw [if_pos (by rw [h1, h2]; rfl)]
  exact h3
theorem kit_selfR (K : PySem.W.Frag) (D : Addr) : PySem.W.kitOne K (.ref D) (.ref D) = some true := by
  unfold PySem.W.kitOne
  rw [if_pos (by simp)]
theorem kit_int_bool (K : PySem.W.Frag) : PySem.W.kitOne K (.type "int") (.type "bool") = some false := kit_prim (by decide) (by decide +kernel) (by decide +kernel)
/-- an __init__ that stores its one argument -/
def spInit1 (C : Addr) (f : Str) : Sp := fun vs H Q _ => ∃ p dx v, vs = [.ref p, v] ∧ H p = some (.ins C dx []) ∧ Q .non (upd H p (.ins C dx [(f, v)]))
theorem i_init1 {C : Addr} {f : Str} {v : V} {H : Hp} {Q : VK} (h : ∀ (x dx : Addr) (H' : Hp), Same H H' → H x = none → H' x = some (.ins C dx [(f, v)]) → Q (.ref x) H') :
    MkG C (spInit1 C f) [v] H Q := by
  intro x dx hx hdx ne
  refine ⟨x, dx, v, rfl, upd_same, rfl, ?_⟩
  rw [upd_upd]
  exact h x dx _ (same_new2 hx hdx _ _) hx upd_same
theorem lk1 (f : Str) (v : V) : List.lookup f [(f, v)] = some v := by
  have h := lookup_putF f f v []
  rw [if_pos rfl] at h
  exact h
theorem lk0 {f g : Str} (v : V) (h : ¬ g = f) : List.lookup g [(f, v)] = none := by
  have e := lookup_putF f g v []
  rw [if_neg h] at e
  exact e
/-- the built-in names that the text does not bind -/
structure Bt (mg : Str → Option Value) : Prop where
  len : mg "len" = none
  range : mg "range" = none
  isinstance : mg "isinstance" = none
  int : mg "int" = none
  bool : mg "bool" = none
  str : mg "str" = none
  list : mg "list" = none
  tuple : mg "tuple" = none
  dict : mg "dict" = none
  set : mg "set" = none
  sorted : mg "sorted" = none
  max : mg "max" = none
  min : mg "min" = none
  sum : mg "sum" = none
  any : mg "any" = none
  all : mg "all" = none
  abs : mg "abs" = none
  reversed : mg "reversed" = none
  enumerate : mg "enumerate" = none
  zip : mg "zip" = none
/-- all but lists stay: what FmAt and its like lean on -/
def Ext (H H' : Hp) : Prop := ∀ b o, H b = some o → (∀ xs, o ≠ .lst xs) → H' b = some o
theorem Ext.trans {H H1 H2 : Hp} (a : Ext H H1) (b : Ext H1 H2) : Ext H H2 := fun c o h n => b c o (a c o h n) n
theorem Ext.of {H H' : Hp} (a : Same H H') : Ext H H' := fun b o h _ => a b o h
theorem Ext.lst {H : Hp} {l : Addr} {xs : List V} (h : H l = some (.lst xs)) (o : HO) : Ext H (upd H l o) := fun b u e n => by
  rw [upd_ne (ne_of e h (n xs))]; exact e
theorem cut_to {xs : List V} {k : Nat} (h : k ≤ xs.length) : cutV xs none (some (k : Int)) = xs.take k := by
  unfold cutV
  rw [HT.sIx_none, HT.sIx_nat, Nat.min_eq_left h]
  simp
theorem cut_from {xs : List V} {k : Nat} (h : k ≤ xs.length) : cutV xs (some (k : Int)) none = xs.drop k := by
  unfold cutV
  rw [HT.sIx_none, HT.sIx_nat, Nat.min_eq_left h]
  rw [List.take_of_length_le (by rw [List.length_drop]; omega)]
theorem cut_mid (xs : List V) (i j : Nat) : cutV xs (some (i : Int)) (some (j : Int)) = (xs.drop i).take (j - i) := by
  unfold cutV
  rw [HT.sIx_nat, HT.sIx_nat]
  by_cases hi : i ≤ xs.length
  · rw [Nat.min_eq_left hi]
    by_cases hj : j ≤ xs.length
    · rw [Nat.min_eq_left hj]
    · rw [Nat.min_eq_right (by omega), List.take_of_length_le (by rw [List.length_drop]; omega), List.take_of_length_le (by rw [List.length_drop]; omega)]
  · rw [Nat.min_eq_right (show xs.length ≤ i by omega), List.drop_eq_nil_of_le (Nat.le_refl _), List.drop_eq_nil_of_le (show xs.length ≤ i by omega)]
    simp
theorem map_int_mid (ns : List Int) (i j : Nat) : ((ns.map V.int).drop i).take j = ((ns.drop i).take j).map V.int := by
  rw [List.map_take, List.map_drop]
theorem get_int {ns : List Int} {i : Nat} {x : V} (h : (ns.map V.int)[i]? = some x) : ∃ n, x = V.int n ∧ ns[i]? = some n := by
  rw [List.getElem?_map] at h
  cases e : ns[i]? with
  | none => rw [e] at h; cases h
  | some n => rw [e] at h; exact ⟨n, (Option.some.inj h).symm, rfl⟩
theorem snoc_of {α : Type} {l : List α} (h : l ≠ []) : ∃ r x, l = r ++ [x] := ⟨l.dropLast, l.getLast h, (List.dropLast_concat_getLast h).symm⟩
theorem nat_of {i : Int} (h : 0 ≤ i) : ∃ n : Nat, i = (n : Int) := ⟨i.toNat, by omega⟩
section
variable {K : PySem.W.Frag} {H : Hp} {Q : VK}
theorem j_lst {xs : List V} (z : xs.length ≤ 1000000) (h : ∀ (p : Addr) (H' : Hp), Same H H' → H p = none → H' p = some (.lst xs) → Q (.ref p) H') : NewL xs H Q :=
  ⟨small z, fun p hp => h p _ (same_new hp _) hp upd_same⟩
theorem j_tup {xs : List V} (z : xs.length ≤ 1000000) (h : ∀ (p : Addr) (H' : Hp), Same H H' → H p = none → H' p = some (.tup xs) → Q (.ref p) H') : NewT xs H Q :=
  ⟨small z, fun p hp => h p _ (same_new hp _) hp upd_same⟩
theorem j_sl {p : Addr} {xs ys : List V} {lo hi : Option Int} (h : SqL K H p xs) (e : cutV xs lo hi = ys) (k : ∀ (l : Addr) (H' : Hp), Same H H' → H l = none → H' l = some (.lst ys) → Q (.ref l) H') : rSlG K (.ref p) lo hi H Q :=
  i_slS h fun l hl => by rw [e]; exact k l _ (same_new hl _) hl upd_same
theorem j_add {l b : Addr} {xs zs : List V} (h1 : H l = some (.lst xs)) (h2 : H b = some (.lst zs)) (z : xs.length + zs.length ≤ 1000000) (h : ∀ (p : Addr) (H' : Hp), Same H H' → H p = none → H' p = some (.lst (xs ++ zs)) → Q (.ref p) H') : rAddG (.ref l) (.ref b) H Q :=
  i_addL h1 h2 (small z) fun p hp => h p _ (same_new hp _) hp upd_same
theorem j_list {p : Addr} {ys : List V} (h : SqL K H p ys ∨ SqT K H p ys) (k : ∀ (l : Addr) (H' : Hp), Same H H' → H l = none → H' l = some (.lst ys) → Q (.ref l) H') : rListOf K [.ref p] H Q :=
  ⟨p, ys, rfl, h, fun l hl => k l _ (same_new hl _) hl upd_same⟩
/-- all but the list at l stays -/
def But (l : Addr) (H H' : Hp) : Prop := ∀ b o, b ≠ l → H b = some o → H' b = some o
theorem But.ext {l : Addr} {H H' : Hp} {xs : List V} (h : H l = some (.lst xs)) (s : But l H H') : Ext H H' := fun b o e n => s b o (ne_of e h (n xs)) e
theorem But.same {l : Addr} {H0 H H' : Hp} (s : But l H H') (h0 : H0 l = none) (s0 : Same H0 H) : Same H0 H' := fun b o e => s b o (ne_of_none e h0) (s0 b o e)
theorem but_upd {l : Addr} {H : Hp} {o : HO} : But l H (upd H l o) := fun b u n e => by rw [upd_ne n]; exact e
theorem j_append {l : Addr} {xs : List V} {y : V} (h : H l = some (.lst xs)) (z : xs.length < 1000000) (k : ∀ H' : Hp, But l H H' → H' l = some (.lst (xs ++ [y])) → Q .non H') : rAppend (.ref l) [y] H Q := i_append h (smallL z) (k _ but_upd upd_same)
theorem j_clear {l : Addr} {xs : List V} (h : H l = some (.lst xs)) (k : ∀ H' : Hp, But l H H' → H' l = some (.lst []) → Q .non H') : rClear (.ref l) [] H Q := i_clear h (k _ but_upd upd_same)
end
end L2

set_option maxRecDepth 100000
set_option maxHeartbeats 4000000
namespace L2
open PySem PySem.Spec PyProof.Rows
def cxComp (X : Cx) (x : Str) (ns : List Str) (scope : Scope) (cl : List (Str × Addr)) (s : Shared) (H : Hp) (ex : List Addr) : Cx where
  prog := X.prog
  w := X.w
  K := X.K
  mg := X.mg
  base := X.base
  A := X.A
  N := x :: ns
  s₀ := s
  H₀ := H
  env := compEnvC scope cl s.heap.objs.size X.env
  outer := X.stack
  stack := X.stack
  ex := ex
  fn := fun _ => false
  calm := X.calm
  pn := []
  xe := fun _ _ => False
/-- the slots that the block takes from around -/
def subS (σ : St) (ix : List Nat) : St := ix.map fun k => (σ[k]?).join
/-- the block's names: its own one, x; those it takes from around, ns, at the places ix of the frame around -/
def CompOk (sc : Scope) (N : List Str) (x : Str) (ns : List Str) (ix : List Nat) (scope : Scope) : Prop :=
  scope.kind = .function ∧ (∀ y ∈ scope.names, y.2 ≠ .cell ∧ (y.2 = .local → scope.names.lookup y.1 = some .local) ∧ (y.2 = .free → sc.names.lookup y.1 = some .cell ∨ sc.names.lookup y.1 = some .free)) ∧
  scope.names.lookup x = some .local ∧ (∀ y ∈ ns, scope.names.lookup y = some .free) ∧ (ix.map fun k => N[k]?) = ns.map some ∧ (x :: ns).Nodup
instance (sc : Scope) (N : List Str) (x : Str) (ns : List Str) (ix : List Nat) (scope : Scope) : Decidable (CompOk sc N x ns ix scope) := by unfold CompOk; infer_instance
/-- what the walk of the block is to show, the iterator J in hand -/
def CompG (J : It) (ix : List Nat) (tc : TT) (te : TE) (σ : St) (Q : VK) (H1 : Hp) : Prop := ∀ acc, H1 acc = none → ∃ W : Nat → Nat → List V → Hp → Prop, (∃ m, W 0 m [] (upd H1 acc (.lst []))) ∧
  ∀ i m ys H, W i m ys H → (J.stop i H ∧ Q (.ref acc) H) ∨ (J.go i H ∧ ∀ x H', J.yld i H x H' → tc (some x :: subS σ ix) H' fun b H2 =>
    if b = true then te (some x :: subS σ ix) H2 fun y H3 => H3 acc = some (.lst ys) ∧ ys.length < sizeLine ∧ ∃ m', m' < m ∧ W (i + 1) m' (ys ++ [y]) (upd H3 acc (.lst (ys ++ [y]))) else ∃ m', m' < m ∧ W (i + 1) m' ys H2)
def tComp (wi : TI) (ix : List Nat) (tc : TT) (te : TE) : TE := fun σ H Q => wi σ H fun J H1 => CompG J ix tc te σ Q H1
theorem lookup_mem {α β : Type} [BEq α] [LawfulBEq α] : ∀ {l : List (α × β)} {a : α} {b : β}, l.lookup a = some b → (a, b) ∈ l
  | [], _, _, h => by simp at h
  | (k, v) :: r, a, b, h => by
    rw [List.lookup_cons] at h
    cases e : a == k with
    | true =>
      rw [e] at h
      have : a = k := by simpa using e
      subst this
      cases h
      exact List.mem_cons_self
    | false =>
      rw [e] at h
      exact List.mem_cons_of_mem _ (lookup_mem h)
theorem closure_go {env : Env} : ∀ (names : List (Str × NameKind)) (acc : List (Str × Addr)), (∀ y ∈ names, y.2 = .free → ∃ c, env.cells.lookup y.1 = some c) → (∀ y c, acc.lookup y = some c → env.cells.lookup y = some c) →
    ∃ cl, (forIn names acc fun x r => match x with | (name, kind) => if (kind == NameKind.free) = true then (do let a ← cellOf env name; pure (ForInStep.yield ((name, a) :: r))) else pure (ForInStep.yield r) : Sem (List (Str × Addr))) = pure cl ∧
      (∀ y c, cl.lookup y = some c → env.cells.lookup y = some c) ∧ (∀ y, (∃ c, acc.lookup y = some c) → ∃ c, cl.lookup y = some c) ∧ ∀ y ∈ names, y.2 = .free → ∃ c, cl.lookup y.1 = some c
  | [], acc, _, ha => ⟨acc, rfl, ha, fun _ h => h, fun _ h => nomatch h⟩
  | (name, kind) :: r, acc, hn, ha => by
    cases hk : kind == NameKind.free with
    | false =>
      obtain ⟨cl, e, h1, h2, h3⟩ := closure_go r acc (fun y hy => hn y (List.mem_cons_of_mem _ hy)) ha
      refine ⟨cl, ?_, h1, h2, fun y hy hf => ?_⟩
      · rw [List.forIn_cons]
        simp only [hk, Bool.false_eq_true, if_false]
        exact e
      · rcases List.mem_cons.mp hy with rfl | hy
        · have : kind = .free := hf
          subst this
          simp at hk
        · exact h3 y hy hf
    | true =>
      have hkf : kind = .free := by simpa using hk
      obtain ⟨c, hc⟩ := hn (name, kind) List.mem_cons_self hkf
      have hc : env.cells.lookup name = some c := hc
      obtain ⟨cl, e, h1, h2, h3⟩ := closure_go r ((name, c) :: acc) (fun y hy => hn y (List.mem_cons_of_mem _ hy)) (fun y c' hy => by
        rw [List.lookup_cons] at hy
        cases e : y == name with
        | true =>
          rw [e] at hy
          have : y = name := by simpa using e
          subst this
          cases hy
          exact hc
        | false =>
          rw [e] at hy
          exact ha y c' hy)
      refine ⟨cl, ?_, h1, fun y hy => h2 y ?_, fun y hy hf => ?_⟩
      · rw [List.forIn_cons]
        simp only [hk, if_true]
        have : cellOf env name = pure c := by unfold cellOf; rw [hc]
        rw [this]
        exact e
      · obtain ⟨c', hc'⟩ := hy
        rw [List.lookup_cons]
        cases y == name
        · exact ⟨c', hc'⟩
        · exact ⟨c, rfl⟩
      · rcases List.mem_cons.mp hy with rfl | hy
        · exact h2 _ ⟨c, by rw [List.lookup_cons]; simp⟩
        · exact h3 y hy hf
theorem closure_ok {env : Env} (scope : Scope) (h : ∀ y ∈ scope.names, y.2 = .free → ∃ c, env.cells.lookup y.1 = some c) :
    ∃ cl, closureFor scope env = pure cl ∧ (∀ y c, cl.lookup y = some c → env.cells.lookup y = some c) ∧ ∀ y ∈ scope.names, y.2 = .free → ∃ c, cl.lookup y.1 = some c := by
  obtain ⟨cl, e, h1, _, h3⟩ := closure_go (env := env) scope.names [] h (fun _ _ z => by simp at z)
  refine ⟨cl, ?_, h1, h3⟩
  show ((forIn scope.names [] fun x r => match x with | (name, kind) => if (kind == NameKind.free) = true then (do let a ← cellOf env name; pure (ForInStep.yield ((name, a) :: r))) else pure (ForInStep.yield r) : Sem (List (Str × Addr))) >>= fun s => pure s) = pure cl
  rw [e]
  rfl
/-- a name's kind within the block -/
theorem relabel_kind {env : Env} : ∀ (names : List (Str × NameKind)) (y : Str), (names.map fun (n, k) => if (k == NameKind.free && env.scope.kind == .function && env.kindOf n == some .cell) then (n, NameKind.cell) else (n, k)).lookup y =
    (names.lookup y).map fun k => if (k == NameKind.free && env.scope.kind == .function && env.kindOf y == some .cell) = true then NameKind.cell else k
  | [], y => by simp
  | (n, k) :: r, y => by
    have ih := relabel_kind (env := env) r y
    rw [List.map_cons, List.lookup_cons]
    cases e : y == n with
    | true =>
      have ey : y = n := by simpa using e
      subst ey
      by_cases hc : (k == NameKind.free && env.scope.kind == .function && env.kindOf y == some .cell) = true
      · simp only [hc, if_true, List.lookup_cons, beq_self_eq_true, Option.map_some]
      · simp only [hc, if_false, List.lookup_cons, beq_self_eq_true, Option.map_some, Bool.false_eq_true]
    | false =>
      by_cases hc : (k == NameKind.free && env.scope.kind == .function && env.kindOf n == some .cell) = true
      · simp only [hc, if_true, List.lookup_cons, e]; exact ih
      · simp only [hc, if_false, List.lookup_cons, e, Bool.false_eq_true]; exact ih
section
variable {X : Cx} {pins : List (Addr × Obj)} {σ : St} {H : Hp} {s : Shared} {cl : List (Str × Addr)} {x : Str} {ns : List Str} {ix : List Nat} {sc scope : Scope} {N : List Str} {fp : List Addr}
theorem fp_comp (I : Inv X pins σ H s) (f : ∀ b ∈ fp, FpOk X pins H b) (hlt : ∀ b ∈ fp, b < s.heap.objs.size) (hcl : ∀ y c, cl.lookup y = some c → X.env.cells.lookup y = some c) {H' : Hp} (hn : ∀ b ∈ fp, H' b = none) : ∀ b ∈ fp, FpOk (cxComp X x ns scope cl s H fp) [] H' b := fun b hb => by
  obtain ⟨f0, f1, f2, f3, f4, f5⟩ := f b hb
  refine ⟨hn b hb, Nat.ne_of_lt (hlt b hb), fun z => ?_, .inl hb, fun y c e => f4 y c (hcl y c e), fun p hp => ?_⟩
  · rcases List.mem_cons.mp (I.stkSub b z) with z | z
    · exact f1 z
    · exact f2 z
  · exact absurd (show p ∈ ([] : List (Addr × Obj)) from hp) (by simp)
theorem inv_comp {h1 : Heap} {m : Str → Option Value} {t' : Nat} (I : Inv X pins σ H s) (hsc : X.env.scope = sc) (hN : X.N = N) (C : CompOk sc N x ns ix scope) (hcl : ∀ y c, cl.lookup y = some c → X.env.cells.lookup y = some c)
    (hcla : ∀ y ∈ scope.names, y.2 = .free → ∃ c, cl.lookup y.1 = some c) (f : ∀ b ∈ fp, FpOk X pins H b) (hlt : ∀ b ∈ fp, b < s.heap.objs.size) (hn : h1.Ns s.heap.objs.size m) (hk : ∀ b o, s.heap.get? b = some o → h1.get? b = some o) :
    Inv (cxComp X x ns scope cl s H fp) [] (none :: subS σ ix) H { s with heap := h1, toks := t' } := by
  obtain ⟨c1, c2, c3, c4, c5, c6⟩ := C
  have kind : ∀ y, (relabel scope X.env).names.lookup y = (scope.names.lookup y).map fun k => if (k == NameKind.free && X.env.scope.kind == .function && X.env.kindOf y == some .cell) = true then NameKind.cell else k := fun y => relabel_kind scope.names y
  have fr : ∀ y, ((relabel scope X.env).names.lookup y = some .cell ∨ (relabel scope X.env).names.lookup y = some .free) → scope.names.lookup y = some .free := fun y h => by
    rw [kind y] at h
    cases e : scope.names.lookup y with
    | none => rw [e] at h; simp at h
    | some k =>
      rw [e] at h
      have hm := lookup_mem e
      cases k with
      | free => rfl
      | cell => exact absurd rfl (c2 _ hm).1
      | «local» => simp at h
      | globalExplicit => simp at h
      | globalImplicit => simp at h
  have fr' : ∀ y, scope.names.lookup y = some .free → (relabel scope X.env).names.lookup y = some .cell ∨ (relabel scope X.env).names.lookup y = some .free := fun y h => by
    rw [kind y, h]
    by_cases hc : (NameKind.free == NameKind.free && X.env.scope.kind == .function && X.env.kindOf y == some .cell) = true
    · left; rw [Option.map_some, if_pos hc]
    · right; rw [Option.map_some, if_neg hc]
  have noC : ∀ p : Addr × Obj, p ∉ (cxComp X x ns scope cl s H fp).pn ++ [] := fun p hp => absurd (show p ∈ ([] : List (Addr × Obj)) from hp) (by simp)
  have lenE : ix.length = ns.length := by
    have := congrArg List.length c5
    rwa [List.length_map, List.length_map] at this
  refine ⟨⟨I.ok.mod, c1, I.ok.glob, I.ok.blt, Nat.le_refl _, fun y z c h1 h2 => I.ok.inj y z c (hcl y c h1) (hcl z c h2), fun y hy => ?_, fun y c hy => absurd hy (by simp [cxComp]), I.ok.hd, I.ok.frames, .inl rfl, fun b hb => ?_, I.bs,
    Nat.le_trans I.ok.bsz I.sz, fun b o e hb => ?_, fun b hb => ?_, I.stack, I.stkFree⟩, rfl, I.bare, Un.kept hk, ⟨m, hn, fun i y v e1 e2 e3 => ?_⟩, fun y c e => ?_, I.hok.fresh (Nat.le_refl _), fun y c e => I.freeC y c (hcl y c e), fun p hp => absurd hp (noC p), I.hok.kept hk, ?_⟩
  · exact hcla _ (lookup_mem (fr y hy)) rfl
  · obtain ⟨f0, f1, f2, f3, f4, f5⟩ := f b hb
    exact ⟨Nat.ne_of_lt (hlt b hb), fun y c e => f4 y c (hcl y c e)⟩
  · obtain ⟨f0, f1, f2, f3, f4, f5⟩ := f b hb
    rcases f3 with z | z
    · exact I.ok.noex b o e z
    · exact absurd (Nat.lt_of_lt_of_le (Heap.lt_size (I.ok.bs b o e).1) z) (Nat.lt_irrefl _)
  · obtain ⟨f0, f1, f2, f3, f4, f5⟩ := f b hb
    intro z
    rcases List.mem_cons.mp (I.stkSub b z) with z | z
    · exact f1 z
    · exact f2 z
  · cases i with
    | zero => cases e2
    | succ j =>
      have e1' : ns[j]? = some y := e1
      have e2' : (ix.map fun k => (σ[k]?).join)[j]? = some (some v) := e2
      have e5 := congrArg (fun l => l[j]?) c5
      simp only [List.getElem?_map, e1', Option.map_some] at e5 e2'
      cases ek : ix[j]? with
      | none => rw [ek] at e5; cases e5
      | some k =>
        rw [ek] at e5 e2'
        have eN : N[k]? = some y := by simpa using e5
        have eσ : (σ[k]?).join = some v := by simpa using e2'
        have eσ' : σ[k]? = some (some v) := by
          cases q : σ[k]? with
          | none => rw [q] at eσ; cases eσ
          | some w => rw [q] at eσ; have : w = some v := eσ; rw [this]
        have hy := c4 y (List.mem_of_getElem? e1')
        have hk' := (c2 _ (lookup_mem hy)).2.2 rfl
        rw [← hsc] at hk'
        obtain ⟨m0, hn0, hl⟩ := I.loc
        obtain ⟨u, r, l⟩ := hl k y v (by rw [hN]; exact eN) eσ' (.inr hk')
        refine ⟨u, r, ?_⟩
        rcases l with ⟨kl, _⟩ | ⟨_, c, ec, z⟩
        · exfalso
          have kl : X.env.scope.names.lookup y = some .local := kl
          rw [kl] at hk'
          rcases hk' with z | z <;> cases z
        · obtain ⟨c', ec'⟩ := hcla _ (lookup_mem hy) rfl
          have ee : c' = c := by
            have := hcl y c' ec'
            rw [ec] at this
            exact (Option.some.inj this).symm
          subst ee
          obtain ⟨o, ho, hd⟩ := z
          exact .inr ⟨fr' y hy, c', ec', ⟨o, hk _ _ ho, hd⟩⟩
  · obtain ⟨v, o, ho, hd⟩ := I.cell y c (hcl y c e)
    exact ⟨v, o, hk _ _ ho, hd⟩
  · show (none :: subS σ ix).length = (x :: ns).length
    rw [List.length_cons, List.length_cons]
    unfold subS
    rw [List.length_map, lenE]
end
theorem wp_of_pure {α β : Type} {M : Model} {A : Around} {a : α} {P : α → Shared → Prop} {E E' : Value → Shared → Prop} {s s' : Shared} {t : Sem β} {Q : β → Shared → Prop} (h : wpAny M A (pure a) P E s) (k : P a s → wpAny M A t Q E' s') : wpAny M A t Q E' s' :=
  fun Γ p hi => k (h Γ p hi) Γ p hi
/-- the tests of a comprehension -/
def PTs (X : Cx) (ifs : List Expr) (t : TT) : Prop :=
  ∀ (pins : List (Addr × Obj)) (s : Shared) (σ : St) (H : Hp) (Q : Bool → Hp → Prop), Inv X pins σ H s → t σ H Q →
    wpAny (model X.prog X.w) X.A (forIn ifs true fun c r => if r = true then do let ok ← isTrue c X.env (eval c X.env); pure (ForInStep.yield ok) else pure (ForInStep.yield r)) (TP X pins σ Q) X.xe s
def tNoIf : TT := fun _ H Q => Q true H
theorem pts_nil {X : Cx} : PTs X [] tNoIf := fun _ _ _ H _ I h => wpAny_tests_nil ⟨H, I, h⟩
theorem pts_one {X : Cx} {c : Expr} {t : TT} (h : PT X c t) : PTs X [c] t := fun pins s σ H Q I q => wpAny_tests_one (h pins s σ H Q I q)
section
variable {X : Cx} {pins : List (Addr × Obj)} {σ : St} {H : Hp} {s : Shared} {cl : List (Str × Addr)} {x : Str} {ns : List Str} {ix : List Nat} {sc scope : Scope} {N : List Str} {fp : List Addr} {elt iter : Expr} {px pos : Pos} {ifs : List Expr} {tc : TT} {te : TE} {wi : TI}
theorem comp_run {E : Value → Shared → Prop} {J : It} {it : Addr} {tn : Nat → Heap → Prop} {Q : VK} {RR : Value → Addr → Result → Shared → Prop} (hsc : X.env.scope = sc) (hN : X.N = N) (C : CompOk sc N x ns ix scope) (hc : X.calm = true)
    (ht : ∀ cl s H ex, PTs (cxComp X x ns scope cl s H ex) ifs tc) (he : ∀ cl s H ex, PE (cxComp X x ns scope cl s H ex) elt te) (I : Inv X pins σ H s) (hcl : ∀ y c, cl.lookup y = some c → X.env.cells.lookup y = some c)
    (hcla : ∀ y ∈ scope.names, y.2 = .free → ∃ c, cl.lookup y.1 = some c) (T : Turn X.prog X.w X.K (.Name x px) J fp it tn) (st : tn 0 s.heap) (f : ∀ b ∈ fp, FpOk X pins H b) (h : CompG J ix tc te σ Q H)
    (fin : ∀ D C m s' H', Inv X pins σ H' s' → s'.heap.Ns C m → FpOk X pins H' C → Q (.ref D) H' → RR (.ref D) C (.ok .next) s') :
    wpAny (model X.prog X.w) X.A (newList []) (fun ja s3 => wpAny (model X.prog X.w) X.A (newFunctionEnv scope X.env.globals cl [] X.env.qual none .none (some X.env)) (fun ce s4 =>
      codeAny (model X.prog X.w) X.A (.compStart (.ListComp elt [⟨.Name x px, iter, ifs, 0⟩] scope pos) 0 (.ref it) ja { ce with scope := relabel scope X.env }) (RR ja ce.locals) s4) E s3) E s := by
  have hC := C
  obtain ⟨c1, c2, c3, c4, c5, c6⟩ := C
  have hfr : H s.heap.objs.size = none := I.hok.fresh (Nat.le_refl _)
  obtain ⟨W, ⟨m0, w0⟩, turn⟩ := h _ hfr
  refine wpAny_newObj_type (wpAny_newFunctionEnv (fun y hy => (c2 y hy).1) (by intro y hy; simp at hy) (fun h1 hn1 hs1 => ?_) c1)
  have I3 := I.lnew (its := []) (ys := []) (t' := s.toks) .nil (Nat.zero_le _)
  have hlt0 : ∀ b ∈ fp, b < s.heap.objs.size := fun b hb => by
    obtain ⟨o, ho, _⟩ := T.obj _ _ st b hb
    exact Heap.lt_size ho
  generalize hs3 : ({ s with heap := s.heap.push { cls := .type "list", data := .seq ([] : List Value).toArray }, toks := s.toks } : Shared) = s3 at I3
  have e3 : s3.heap = s.heap.push { cls := .type "list", data := .seq ([] : List Value).toArray } := by rw [← hs3]
  have sz3 : s3.heap.objs.size = s.heap.objs.size + 1 := by rw [e3, Heap.size_push]
  have f3 : ∀ b ∈ fp, FpOk X pins (upd H s.heap.objs.size (.lst [])) b := fun b hb => ⟨by rw [upd_ne (Nat.ne_of_lt (hlt0 b hb))]; exact (f b hb).1, (f b hb).2⟩
  have hlt : ∀ b ∈ fp, b < s3.heap.objs.size := fun b hb => by rw [sz3]; exact Nat.lt_succ_of_lt (hlt0 b hb)
  have hk : ∀ b o, s3.heap.get? b = some o → h1.get? b = some o := fun b o e => by
    refine (hs1.2 b ?_).trans (Heap.get?_push_of_some _ ?_)
    · have := Heap.lt_size e
      rw [sz3] at this
      show b ≠ (s.heap.push _).objs.size
      rw [Heap.size_push]
      exact Nat.ne_of_lt this
    · rw [e3] at e; exact e
  have hn3 : h1.Ns s3.heap.objs.size (fun y => ([] : List (Str × Value)).reverse.lookup y) := by rw [e3]; exact hn1
  have I4 := inv_comp (t' := s3.toks + ([] : List (Str × Value)).length) I3 hsc hN hC hcl hcla f3 hlt hn3 hk
  have st4 : tn 0 h1 := T.keep _ _ _ st fun b hb o e => hk b o (by rw [e3]; exact Heap.get?_push_of_some _ e)
  have stat : ∀ {H' : Hp}, (∀ b ∈ fp, H' b = none) → ∀ b ∈ fp, FpOk (cxComp X x ns scope cl s3 (upd H s.heap.objs.size (.lst [])) fp) [] H' b := fun {H'} hn => fp_comp I3 f3 hlt hcl hn
  have loop : ∀ s4 : Shared, s4 = { s3 with heap := h1, toks := s3.toks + ([] : List (Str × Value)).length } →
      codeAny (model X.prog X.w) X.A (.compLoop (.ListComp elt [⟨.Name x px, iter, ifs, 0⟩] scope pos) 0 (.ref it) (.ref s.heap.objs.size) (compEnvC scope cl s3.heap.objs.size X.env)) (RR (.ref s.heap.objs.size) s3.heap.objs.size) s4 := by
    rintro s4 rfl
    refine codeAny_compLoop_tests (fun n s' => ∃ i v0 ys H', Inv (cxComp X x ns scope cl s3 (upd H s.heap.objs.size (.lst [])) fp) [] (v0 :: subS σ ix) H' s' ∧ tn i s'.heap ∧ (∀ b ∈ fp, H' b = none) ∧ W i n ys H') ?_ m0 ⟨0, none, [], _, I4, st4, fun b hb => (f3 b hb).1, w0⟩
    rintro n s5 ⟨i, v0, ys, H5, I5, st5, fr5, w5⟩
    rcases turn i n ys H5 w5 with ⟨stop, q⟩ | ⟨go, step⟩
    · refine wpAny_mono (T.done (cxComp X x ns scope cl s3 (upd H s.heap.objs.size (.lst [])) fp) rfl rfl rfl hc i [] s5 _ H5 _ I5 (stat fr5) st5 stop) (fun r s6 hr => ?_) fun _ _ e => e
      obtain ⟨hr, I6⟩ := hr
      subst hr
      obtain ⟨m6, hn6, _⟩ := id I6.loc
      refine fin _ _ m6 s6 H5 (I3.call' I6.os I6.base I6.hok I6.bare fun b hb => ?_) hn6 (I3.fpOk (Nat.le_refl _) I6.free) q
      obtain ⟨g0, g1, g2, g3, g4, g5⟩ := f3 b hb
      exact ⟨g3, g1, g4, g5⟩
    · refine wpAny_mono (T.item (cxComp X x ns scope cl s3 (upd H s.heap.objs.size (.lst [])) fp) rfl rfl rfl hc i [] s5 _ H5 _ I5 (stat fr5) st5 go) (fun r s6 hr => ?_) fun _ _ e => e
      obtain ⟨u, hr, h6⟩ := hr
      subst hr
      refine wp_of_pure (a := ()) h6 fun q6 => ?_
      obtain ⟨xv, H6, I6, r6, y6, st6, fr6⟩ := q6
      have I6' := I6.pinned (stat fr6) (T.obj _ _ st6)
      have again : ∀ {m' : Nat} {ys' : List V} {H7 : Hp} {s7 : Shared}, Inv (cxComp X x ns scope cl s3 (upd H s.heap.objs.size (.lst [])) fp) ([] ++ pinsAt fp s6.heap) (some xv :: subS σ ix) H7 s7 → W (i + 1) m' ys' H7 →
          ∃ i v0 ys H', Inv (cxComp X x ns scope cl s3 (upd H s.heap.objs.size (.lst [])) fp) [] (v0 :: subS σ ix) H' s7 ∧ tn i s7.heap ∧ (∀ b ∈ fp, H' b = none) ∧ W i m' ys H' := fun {m' ys' H7 s7} I7 w7 => by
        refine ⟨i + 1, some xv, ys', H7, I7.unpinned, T.keep _ _ _ st6 fun b hb o e => (I7.pin (b, o) (List.mem_append_right _ (List.mem_append_right _ (mem_pinsAt hb e)))).1, fun b hb => ?_, w7⟩
        obtain ⟨o, e, d⟩ := T.obj _ _ st6 b hb
        exact (I7.pin (b, o) (List.mem_append_right _ (List.mem_append_right _ (mem_pinsAt hb e)))).2.1
      have lx : (relabel scope X.env).names.lookup x = some .local := lookup_relabel_local c3
      refine wpAny_mono (pg_name (X := cxComp X x ns scope cl s3 (upd H s.heap.objs.size (.lst [])) fp) (i := 0) (x := x) (pos := px) c6 rfl (.inl lx) (.inr lx) _ s6 _ H6 xv u (fun σ' H' => σ' = some xv :: subS σ ix ∧ H' = H6) I6' r6 ⟨rfl, rfl⟩) (fun _ s7 h7 => ?_) fun _ _ e => e.elim
      obtain ⟨σ7, H7, I7, rfl, rfl⟩ := h7
      refine wpAny_mono (ht cl s3 _ fp _ s7 _ _ _ I7 (step xv _ y6)) (fun b s8 h8 => ?_) fun _ _ e => e.elim
      obtain ⟨H8, I8, q8⟩ := h8
      cases b with
      | false =>
        rw [if_neg Bool.false_ne_true] at q8 ⊢
        obtain ⟨m', hm, w8⟩ := q8
        exact ⟨m', hm, again I8 w8⟩
      | true =>
        rw [if_pos rfl] at q8 ⊢
        refine wpAny_mono (he cl s3 _ fp _ s8 _ _ _ I8 q8) (fun uy s9 h9 => ?_) fun _ _ e => e.elim
        obtain ⟨y, H9, I9, r9, hacc, hz, m', hm, w9⟩ := h9
        refine wpAny_mono (mt_append (X := cxComp X x ns scope cl s3 (upd H s.heap.objs.size (.lst [])) fp) _ s9 _ H9 (.ref s.heap.objs.size) [y] _ [uy] (fun v H' => H' = upd H9 s.heap.objs.size (.lst (ys ++ [y]))) I9 rfl (.cons r9 .nil) ⟨_, ys, y, rfl, rfl, hacc, hz, rfl⟩) (fun _ s10 h10 => ?_) fun _ _ e => e.elim
        obtain ⟨v, H10, I10, _, rfl⟩ := h10
        exact ⟨m', hm, again I10 w9⟩
  exact codeAny_compStart_list (loop _ rfl) (T.self _ 0 _ _ _ st4 (loop _ rfl))
/-- y = [..] where the name is no cell -/
theorem ps_comp {y : Str} {py spos : Pos} (i : Nat) (hNd : X.N.Nodup) (hsc : X.env.scope = sc) (hN : X.N = N) (C : CompOk sc N x ns ix scope) (hc : X.calm = true) (hi : PI X (.Name x px) iter wi) (ht : ∀ cl s H ex, PTs (cxComp X x ns scope cl s H ex) ifs tc) (he : ∀ cl s H ex, PE (cxComp X x ns scope cl s H ex) elt te)
    (hs : ∀ v, foldedSetIterable iter X.env v = pure v := by intro _; rfl) (hy : X.N[i]? = some y := by rfl) (hl : X.env.scope.names.lookup y = some .local := by rfl)
    (hsw : swapsWith (.ListComp elt [⟨.Name x px, iter, ifs, 0⟩] scope pos) (some (.Name y py)) spos.line X.env = pure true := by rfl) :
    PS X (.Assign [.Name y py] (.ListComp elt [⟨.Name x px, iter, ifs, 0⟩] scope pos) spos) (tAsg (tComp wi ix tc te) (gName i)) := by
  intro pins s σ H D I h
  obtain ⟨cl, hclos, hcl, hcla⟩ := closure_ok (env := X.env) scope fun y hy hf => I.ok.has y.1 (by
    have := (C.2.1 y hy).2.2 hf
    rw [← hsc] at this
    exact this)
  rw [exec_Assign_Name_used _ _ _ _ hsw]
  refine wpAny_bind (wpAny_standAt (wpAny_bind ?_))
  show wpAny _ X.A (do let _ ← comprehension (.ListComp elt [⟨.Name x px, iter, ifs, 0⟩] scope pos) scope X.env _ (newList []) false (eval iter X.env) (some (assign (.Name y py) X.env))) _ _ s
  refine wpAny_bind (wpAny_mono (wpAny_comprehension_free (use := some (assign (.Name y py) X.env)) (Q := fun _ s' => SP X pins D .next s') rfl hs hclos C.1 (fun y hy => (C.2.1 y hy).2.1)
    (thn (hi pins s σ H _ I h) fun v s1 h1 => thn h1 fun itv s2 h2 => ?_)) (fun _ s' hq => wpAny_pure (wpAny_pure hq)) fun _ _ e => e)
  obtain ⟨it, fp, tn, J, H2, rfl, I2, T, st2, f2, hg⟩ := h2
  refine comp_run (RR := fun ja C => compPost (model X.prog X.w) X.A X.xe (some (assign (.Name y py) X.env)) (fun _ s' => SP X pins D .next s') ja C) hsc hN C hc ht he I2 hcl hcla T st2 f2 hg ?_
  intro D' C' m s' H' I' hn' fC q
  obtain ⟨g0, g1, g2, g3, g4, g5⟩ := fC
  refine wpAny_assign_Name (store_ok2 I' hNd hy (.inl hl) (v := .ref D') rfl (fun s'' I'' hs'' => ?_) (.inr hl))
  obtain ⟨a, sb, ha⟩ := hs''
  have hne : C' ≠ a := by
    rcases ha with ha | ha
    · rw [ha]; exact g1
    · intro z; exact g4 y a ha z.symm
  exact ⟨m, hn'.sameBut sb hne, fun h' hs' => ⟨_, H', I''.turned (t' := s''.toks) (fun b o hb e => hs'.extBut b o hb e) g0 g1 g3 g4 g5, q⟩⟩
end
section
variable {wi : TI} {ix : List Nat} {tc : TT} {te : TE} {σ : St} {H : Hp} {Q : VK} {K : PySem.W.Frag}
theorem i_compR1 {ta : TA} (h : ta σ H fun vs H1 => ∃ j : Int, vs = [.int j] ∧ -(2 ^ 62) ≤ j ∧ j < 2 ^ 62 ∧ CompG (Itr 0 j.toNat) ix tc te σ Q H1) : tComp (iRng1 ta) ix tc te σ H Q := h
theorem i_noif {BQ : Bool → Hp → Prop} (h : BQ true H) : tNoIf σ H BQ := h
/-- J tells the values xs, one by one, as long as what was tracked at H1 stays -/
def Wk (J : It) (xs : List V) (H1 : Hp) : Prop := ∀ H', Same H1 H' → (∀ i, i < xs.length → J.go i H' ∧ ∀ x H2, J.yld i H' x H2 → H2 = H' ∧ xs[i]? = some x) ∧ J.stop xs.length H'
theorem wk_range (lo : Int) (n : Nat) (H : Hp) : Wk (Itr lo n) ((List.range n).map fun i : Nat => V.int (lo + (i : Int))) H := fun H' _ => by
  refine ⟨fun i hi => ?_, ?_⟩
  · rw [List.length_map, List.length_range] at hi
    refine ⟨hi, fun x H2 y => ?_⟩
    obtain ⟨e, y⟩ := y
    refine ⟨e, ?_⟩
    rw [List.getElem?_map, List.getElem?_range hi, y]
    rfl
  · rw [List.length_map, List.length_range]
    exact Nat.le_refl n
theorem wk_list {a : Addr} {xs : List V} (h : SqL K H a xs) : Wk (Itl K a) xs H := fun H' s => by
  have h' := s.seq h
  refine ⟨fun i hi => ⟨⟨xs, xs[i], h', by simp [hi]⟩, fun x H2 y => ?_⟩, ⟨xs, h', Nat.le_refl _⟩⟩
  obtain ⟨e, y⟩ := y
  exact ⟨e, y xs h'⟩
/-- the loop of a block whose turns leave what was tracked as it was: Pv says what the told list is -/
theorem comp_by {J : It} {xs : List V} (Pv : Nat → List V → Prop) (hw : Wk J xs H) (hz : xs.length ≤ 1000000) (h0 : Pv 0 [])
    (hs : ∀ (i : Nat) (x : V) (ys : List V) (acc : Addr) (H' : Hp), xs[i]? = some x → Same H H' → H acc = none → H' acc = some (.lst ys) → Pv i ys → ys.length ≤ i →
      ∀ R : Bool → Hp → Prop, (∀ b H2, Same H' H2 → (b = false → Pv (i + 1) ys) → (b = true → ∀ R2 : V → Hp → Prop, (∀ y H3, Same H2 H3 → Pv (i + 1) (ys ++ [y]) → R2 y H3) → te (some x :: subS σ ix) H2 R2) → R b H2) → tc (some x :: subS σ ix) H' R)
    (hd : ∀ (acc : Addr) (ys : List V) (H' : Hp), H acc = none → Same H H' → H' acc = some (.lst ys) → Pv xs.length ys → Q (.ref acc) H') : CompG J ix tc te σ Q H := by
  intro acc hacc
  have sU : ∀ {H2 : Hp} (o : HO), Same H H2 → Same H (upd H2 acc o) := fun o s b u e => by rw [upd_ne (ne_of_none e hacc)]; exact s b u e
  refine ⟨fun i m ys H' => m = xs.length - i ∧ i ≤ xs.length ∧ Same H H' ∧ H' acc = some (.lst ys) ∧ Pv i ys ∧ ys.length ≤ i, ⟨xs.length, by simp, Nat.zero_le _, same_new hacc _, upd_same, h0, Nat.le_refl _⟩, ?_⟩
  rintro i m ys H' ⟨rfl, hi, sm, ea, pv, hy⟩
  by_cases hlt : i < xs.length
  · obtain ⟨go, yl⟩ := (hw H' sm).1 i hlt
    refine .inr ⟨go, fun x H2 y => ?_⟩
    obtain ⟨rfl, hx⟩ := yl x H2 y
    refine hs i x ys acc _ hx sm hacc ea pv hy _ fun b H3 s3 pf pt => ?_
    cases b with
    | false =>
      rw [if_neg Bool.false_ne_true]
      exact ⟨xs.length - (i + 1), by omega, rfl, hlt, sm.trans s3, s3 _ _ ea, pf rfl, Nat.le_succ_of_le hy⟩
    | true =>
      rw [if_pos rfl]
      refine pt rfl _ fun y H4 s4 py => ⟨s4 _ _ (s3 _ _ ea), smallL (by omega), xs.length - (i + 1), by omega, rfl, hlt, sU _ (sm.trans (s3.trans s4)), upd_same, py, ?_⟩
      rw [List.length_append, List.length_singleton]
      omega
  · have e : i = xs.length := by omega
    subst e
    exact .inl ⟨(hw H' sm).2, hd acc ys H' hacc sm ea pv⟩
end
section
variable {X : Cx} {K : PySem.W.Frag} {a o : Expr} {ta : TE} {pos : Pos}
theorem pe_notGK (hK : X.K = K) (ha : PE X a ta) : PE X (.UnaryOp .Not a pos) (tNotG K ta) := by subst hK; exact pe_notG ha
theorem ix_seqK (hK : X.K = K) : IxR X (rIx K) := by subst hK; exact ix_seq
theorem pt_truthK (hK : X.K = K) (ha : PE X a ta) (he : ∀ whole, isTrue a X.env whole = (do let v ← whole; standAt a.pos; holding [v] (truthy v))) : PT X a (fun σ H Q => ta σ H fun x H' => ∃ k, TruV K x H' k ∧ Q k H') := by subst hK; exact pt_truth ha he
end
end L2

namespace EM
theorem sub_and (x y : Nat) : x - (x &&& y) = (x &&& y) ^^^ x := by
  have h := or_split (x + 1) (x &&& y) x (by have := Nat.and_le_left (n := x) (m := y); omega)
  have e1 : (x &&& y) ||| x = x := by
    apply Nat.eq_of_testBit_eq; intro i; rw [Nat.testBit_or, Nat.testBit_and]; cases x.testBit i <;> simp
  have e2 : (x &&& y) &&& x = x &&& y := by
    apply Nat.eq_of_testBit_eq; intro i; rw [Nat.testBit_and, Nat.testBit_and]; cases x.testBit i <;> simp
  rw [e1, e2] at h
  omega
theorem testBit_sub_and (x y i : Nat) : (x - (x &&& y)).testBit i = (x.testBit i && !y.testBit i) := by
  rw [sub_and, Nat.testBit_xor, Nat.testBit_and]
  cases x.testBit i <;> cases y.testBit i <;> rfl
theorem filter_succ (p : Nat → Bool) (i : Nat) : (List.range (i + 1)).filter p = (List.range i).filter p ++ (if p i = true then [i] else []) := by
  rw [List.range_succ, List.filter_append, List.filter_cons, List.filter_nil]
end EM

set_option maxRecDepth 100000
set_option maxHeartbeats 4000000
namespace L2
open PySem PySem.Spec PyProof.Rows
section
variable {X : Cx} {K : PySem.W.Frag} {σ : St} {H : Hp} {Q : VK} {a : Expr} {ta : TE} {pos : Pos}
/-- a slice -/
def rSlX : V → Option Int → Option Int → Hp → VK → Prop := fun x lo hi H Q => ∃ z, x = .str z ∧ z.length ≤ sizeLine ∧ Q (.str (Txt.slice z lo hi)) H
theorem sl_str : SlR X rSlX := by
  intro pins s σ H x v vl vu lo hi sl Q I rx hs pl pu h
  obtain ⟨z, rfl, hz, q⟩ := h
  obtain ⟨t, rfl⟩ := rx
  refine ⟨"str", _, F.slot_str_getitem.lookup, typeIs_str _ _ _, ?_⟩
  obtain ⟨o, ho, hc, hd⟩ := hs
  have fin : ∀ (l u : Option (Int × Tok)), vl = partValue l → vu = partValue u → l.map (·.1) = lo → u.map (·.1) = hi → wpAny (model X.prog X.w) X.A (getItem (.str z t) (.ref sl)) (EP X pins σ Q) X.xe s := fun l u e1 e2 e3 e4 => by
    subst e1 e2 e3 e4
    exact wpAny_getItem_str_slice (l := l) (u := u) (st := none) ⟨o, ho, hc, hd⟩ rfl
      (post_val_or_str ⟨Nat.le_trans (Txt.slice_le z _ _) hz, fun t' k => ⟨.str _, H, I.tok k, ⟨t', rfl⟩, q⟩⟩)
  have pv : ∀ {v : Value} {o : Option Int}, IsPart v o → ∃ l : Option (Int × Tok), v = partValue l ∧ l.map (·.1) = o := fun {v o} h => by
    cases h <;> first | exact ⟨none, rfl, rfl⟩ | exact ⟨some (_, _), rfl, rfl⟩
  obtain ⟨l, e1, e3⟩ := pv pl
  obtain ⟨u, e2, e4⟩ := pv pu
  exact fin l u e1 e2 e3 e4
/-- slices of lists, tuples, texts -/
def rSlA (K : PySem.W.Frag) : V → Option Int → Option Int → Hp → VK → Prop := fun x lo hi H Q => rSlG K x lo hi H Q ∨ rSlX x lo hi H Q
theorem sl_any : SlR X (rSlA X.K) := SlR.or sl_seq sl_str
abbrev TJ := St → Hp → Str → VK → Prop
def PJ (X : Cx) (es : List Expr) (t : TJ) : Prop :=
  ∀ (out : Str) (pins : List (Addr × Obj)) (s : Shared) (σ : St) (H : Hp) (Q : VK), Inv X pins σ H s → t σ H out Q → wpAny (model X.prog X.w) X.A (joinParts out (evalEach es X.env)) (EP X pins σ Q) X.xe s
def tJn : TJ := fun _ H out Q => out.length ≤ sizeLine ∧ Q (.str out) H
def tJc (te : TE) (tr : TJ) : TJ := fun σ H out Q => te σ H fun x H1 => ∃ y, x = .str y ∧ (out ++ y).length ≤ sizeLine ∧ tr σ H1 (out ++ y) Q
theorem pj_nil : PJ X [] tJn := fun out pins s σ H Q I h => joinParts_nil ⟨.str out, H, I.tok _, ⟨_, rfl⟩, h.2⟩ h.1
theorem pj_cons {e : Expr} {es : List Expr} {te : TE} {tr : TJ} (he : PE X e te) (hr : PJ X es tr) : PJ X (e :: es) (tJc te tr) := by
  intro out pins s σ H Q I h
  show wpAny _ _ (joinParts out (eval e X.env :: evalEach es X.env)) _ _ s
  refine joinParts_cons (thn (he pins s σ H _ I h) fun v s1 ⟨x, H1, I1, r1, y, ex, hz, q⟩ => ?_)
  subst ex
  obtain ⟨t, rfl⟩ := r1
  exact ⟨hz, hr _ pins s1 σ H1 Q I1 q⟩
def tFs (t : TJ) : TE := fun σ H Q => t σ H Str.empty Q
theorem pe_joined {e1 e2 : Expr} {es : List Expr} {t : TJ} (h : PJ X (e1 :: e2 :: es) t) : PE X (.JoinedStr (e1 :: e2 :: es) pos) (tFs t) := by
  intro pins s σ H Q I q
  exact JoinedStr_many (h Str.empty pins s σ H Q I q)
theorem i_jc {te : TE} {tr : TJ} {out : Str} (h : te σ H fun x H1 => ∃ y, x = .str y ∧ (out ++ y).length ≤ sizeLine ∧ tr σ H1 (out ++ y) Q) : tJc te tr σ H out Q := h
end
end L2

set_option maxRecDepth 100000
set_option maxHeartbeats 4000000
namespace L2
open PySem PySem.Spec PyProof.Rows
mutual
def DV (H : Hp) : PyData → V → Prop
  | .none, v => v = .non
  | .bool b, v => v = .bl b
  | .int i, v => v = .int i
  | .str x, v => v = .str x
  | .list ds, v => ∃ p xs, v = .ref p ∧ H p = some (.lst xs) ∧ DVs H ds xs
  | .tuple ds, v => ∃ p xs, v = .ref p ∧ H p = some (.tup xs) ∧ DVs H ds xs
  | .dict _, _ => False
def DVs (H : Hp) : List PyData → List V → Prop
  | [], xs => xs = []
  | d :: ds, xs => ∃ v r, xs = v :: r ∧ DV H d v ∧ DVs H ds r
end
section
variable {X : Cx} {pins : List (Addr × Obj)} {σ : St} {H : Hp} {s : Shared}
mutual
theorem reads_of (I : Inv X pins σ H s) : ∀ (d : PyData) (v : V) (u : Value), DV H d v → RelV v u → ∃ as, Reads s.heap u d as
  | .none, v, u, h, r => by
    rw [DV] at h; subst h; cases r; exact ⟨_, .none⟩
  | .bool b, v, u, h, r => by
    rw [DV] at h; subst h; cases r; exact ⟨_, .bool b⟩
  | .int i, v, u, h, r => by
    rw [DV] at h; subst h; obtain ⟨t, rfl⟩ := r; exact ⟨_, .int i t⟩
  | .str x, v, u, h, r => by
    rw [DV] at h; subst h; obtain ⟨t, rfl⟩ := r; exact ⟨_, .str x t⟩
  | .list ds, v, u, h, r => by
    rw [DV] at h
    obtain ⟨p, xs, rfl, e, hs⟩ := h
    cases r
    obtain ⟨z, its, n, r', e'⟩ := I.hok p _ e
    obtain ⟨as, ra⟩ := reads_all I ds xs its hs r'
    exact ⟨_, .list e' rfl rfl (by simpa using ra)⟩
  | .tuple ds, v, u, h, r => by
    rw [DV] at h
    obtain ⟨p, xs, rfl, e, hs⟩ := h
    cases r
    obtain ⟨z, its, r', o, e', hc, n, hd⟩ := I.hok p _ e
    obtain ⟨as, ra⟩ := reads_all I ds xs its hs r'
    exact ⟨_, .tuple e' hc hd (by simpa using ra)⟩
  | .dict _, v, u, h, r => by rw [DV] at h; exact h.elim
theorem reads_all (I : Inv X pins σ H s) : ∀ (ds : List PyData) (xs : List V) (us : List Value), DVs H ds xs → Vals xs us → ∃ as, ReadsAll s.heap us ds as
  | [], xs, us, h, r => by
    rw [DVs] at h; subst h; cases r; exact ⟨_, .nil⟩
  | d :: ds, xs, us, h, r => by
    rw [DVs] at h
    obtain ⟨v, r0, rfl, h1, h2⟩ := h
    cases r with
    | cons r1 r2 =>
      obtain ⟨a1, q1⟩ := reads_of I d v _ h1 r1
      obtain ⟨a2, q2⟩ := reads_all I ds r0 _ h2 r2
      exact ⟨_, .cons q1 q2⟩
end
def rEqD : R2 := fun x y H Q => ∃ d1 d2, DV H d1 x ∧ DV H d2 y ∧ d1.canLay0 = true ∧ d2.canLay0 = true ∧ d1.depth ≤ 60 ∧ Q (.bl (PyData.eqv d1 d2)) H
theorem op_eqD (hu : X.A.units + 64 < cLine) : OpR X (compareOp .Eq) rEqD := by
  intro pins s σ H x y v u Q I rx ry h
  obtain ⟨d1, d2, h1, h2, c1, c2, hd, q⟩ := h
  obtain ⟨a1, q1⟩ := reads_of I d1 x v h1 rx
  obtain ⟨a2, q2⟩ := reads_of I d2 y u h2 ry
  exact SeqAt.compareEq_reads q1 q2 c1 c2 (Nat.lt_of_le_of_lt (Nat.add_le_add_left (Nat.le_trans (Nat.min_le_left _ _) hd) _) (by omega)) ⟨.bl _, H, I, rfl, q⟩
def rEqA : R2 := fun x y H Q => rEq x y H Q ∨ rEqD x y H Q
theorem op_eqA (hu : X.A.units + 64 < cLine) : OpR X (compareOp .Eq) rEqA := OpR.or op_eq (op_eqD hu)
/-- != of two lists -/
def rNeD : R2 := fun x y H Q => ∃ d1 d2, DV H (.list d1) x ∧ DV H (.list d2) y ∧ PyData.canLayAll0 d1 = true ∧ PyData.canLayAll0 d2 = true ∧ PyData.depthAll d1 ≤ 60 ∧ Q (.bl (!PyData.eqvAll d1 d2)) H
theorem op_neD (hu : X.A.units + 64 < cLine) : OpR X (compareOp .NotEq) rNeD := by
  intro pins s σ H x y v u Q I rx ry h
  obtain ⟨d1, d2, h1, h2, c1, c2, hd, q⟩ := h
  obtain ⟨a1, q1⟩ := reads_of I (.list d1) x v h1 rx
  obtain ⟨a2, q2⟩ := reads_of I (.list d2) y u h2 ry
  cases q1 with
  | @list b1 o vs n _ as1 g1 g2 g3 g4 =>
    cases q2 with
    | @list b2 o' vs' n' _ as2 k1 k2 k3 k4 =>
      have hl : s.heap.IsList _ vs := ⟨_, g1, g2, _, g3⟩
      have hl' : s.heap.IsList _ vs' := ⟨_, k1, k2, _, k3⟩
      have n1 : vs.size = d1.length := by simpa using SeqAt.ReadsAll.length _ _ _ g4
      have n2 : vs'.size = d2.length := by simpa using SeqAt.ReadsAll.length _ _ _ k4
      have fin : EP X pins σ Q (.bool (!PyData.eqvAll d1 d2)) s := ⟨.bl _, H, I, rfl, q⟩
      by_cases hz : vs.size = vs'.size
      · refine SeqAt.RcNeAt.lists hl hl' hz (by omega) (e := SeqAt.pairEq d1 d2) (fun j j1 j2 => ?_) _ _ _ _ ?_
        · have := SeqAt.eqAt_readsAll d1 d2 X.A.in1 s vs.toList vs'.toList _ _ g4 k4 c1 c2 (by
            have : X.A.in1.units = X.A.units + 1 ∨ X.A.in1.units = X.A.units := by first | exact .inl rfl | exact .inr rfl
            have h3 := Nat.min_le_left (PyData.depthAll d1) (PyData.depthAll d2)
            omega) j (by simpa using j1) (by simpa using j2)
          simpa using this
        · have e := SeqAt.eqvAll_eq d1 d2
          rw [← n1, ← n2, ← hz, Nat.min_self, beq_self_eq_true, Bool.and_true] at e
          rw [e]; exact fin
      · refine SeqAt.RcNeAt.lists_lengths hl hl' (by simpa using hz) (by omega) _ _ _ _ ?_
        have e := SeqAt.eqvAll_eq d1 d2
        have hb : (d1.length == d2.length) = false := by
          rw [← n1, ← n2]; simpa using hz
        rw [hb, Bool.and_false] at e
        rw [← e] at fin
        exact fin
/-- != of two tuples -/
def rNeT : R2 := fun x y H Q => ∃ d1 d2, DV H (.tuple d1) x ∧ DV H (.tuple d2) y ∧ PyData.canLayAll0 d1 = true ∧ PyData.canLayAll0 d2 = true ∧ PyData.depthAll d1 ≤ 60 ∧ Q (.bl (!PyData.eqvAll d1 d2)) H
theorem op_neT (hu : X.A.units + 64 < cLine) : OpR X (compareOp .NotEq) rNeT := by
  intro pins s σ H x y v u Q I rx ry h
  obtain ⟨d1, d2, h1, h2, c1, c2, hd, q⟩ := h
  obtain ⟨a1, q1⟩ := reads_of I (.tuple d1) x v h1 rx
  obtain ⟨a2, q2⟩ := reads_of I (.tuple d2) y u h2 ry
  cases q1 with
  | @tuple b1 o vs n _ as1 g1 g2 g3 g4 =>
    cases q2 with
    | @tuple b2 o' vs' n' _ as2 k1 k2 k3 k4 =>
      have hl : s.heap.IsTuple _ vs := ⟨_, g1, g2, _, g3⟩
      have hl' : s.heap.IsTuple _ vs' := ⟨_, k1, k2, _, k3⟩
      have n1 : vs.size = d1.length := by simpa using SeqAt.ReadsAll.length _ _ _ g4
      have n2 : vs'.size = d2.length := by simpa using SeqAt.ReadsAll.length _ _ _ k4
      refine SeqAt.RcNeAt.tuples hl hl' (by omega) (e := SeqAt.pairEq d1 d2) (fun j j1 j2 => ?_) _ _ _ _ ?_
      · have := SeqAt.eqAt_readsAll d1 d2 X.A.in1 s vs.toList vs'.toList _ _ g4 k4 c1 c2 (by
          have : X.A.in1.units = X.A.units + 1 ∨ X.A.in1.units = X.A.units := by first | exact .inl rfl | exact .inr rfl
          have h3 := Nat.min_le_left (PyData.depthAll d1) (PyData.depthAll d2)
          omega) j (by simpa using j1) (by simpa using j2)
        simpa using this
      · rw [n1, n2, SeqAt.eqvAll_eq d1 d2]
        exact ⟨.bl _, H, I, rfl, q⟩
def rNeA : R2 := fun x y H Q => rNe x y H Q ∨ rNeD x y H Q ∨ rNeT x y H Q
theorem op_neA (hu : X.A.units + 64 < cLine) : OpR X (compareOp .NotEq) rNeA := OpR.or op_ne (OpR.or (op_neD hu) (op_neT hu))
end
theorem eqvAll_ints : ∀ a b : List Int, PyData.eqvAll (a.map .int) (b.map .int) = decide (a = b)
  | [], [] => rfl
  | [], _ :: _ => by simp [PyData.eqvAll]
  | _ :: _, [] => by simp [PyData.eqvAll]
  | x :: a, y :: b => by
    simp only [List.map_cons, PyData.eqvAll, PyData.eqv, eqvAll_ints a b, List.cons.injEq]
    by_cases h : x = y
    · subst h; simp
    · simp [h]
theorem lay_ints : ∀ a : List Int, PyData.canLayAll0 (a.map .int) = true
  | [] => rfl
  | _ :: a => by simp [PyData.canLayAll0, PyData.canLay0, lay_ints a]
theorem dep_ints : ∀ a : List Int, PyData.depthAll (a.map .int) ≤ 60
  | [] => by simp [PyData.depthAll]
  | _ :: a => by
    have := dep_ints a
    simp only [List.map_cons, PyData.depthAll, PyData.depth]; omega
theorem dvs_ints (H : Hp) : ∀ a : List Int, DVs H (a.map .int) (a.map V.int)
  | [] => by rw [List.map_nil, DVs]; rfl
  | x :: a => by
    rw [List.map_cons, DVs]
    exact ⟨.int x, a.map V.int, rfl, by rw [DV], dvs_ints H a⟩
section
variable {K : PySem.W.Frag} {H : Hp} {Q : VK}
theorem i_neLI {l l' : Addr} {a b : List Int} (h : H l = some (.lst (a.map V.int))) (h' : H l' = some (.lst (b.map V.int))) (q : Q (.bl (!decide (a = b))) H) : rNeA (.ref l) (.ref l') H Q := by
  refine .inr (.inl ⟨a.map .int, b.map .int, ?_, ?_, lay_ints a, lay_ints b, dep_ints a, ?_⟩)
  · rw [DV]; exact ⟨l, _, rfl, h, dvs_ints H a⟩
  · rw [DV]; exact ⟨l', _, rfl, h', dvs_ints H b⟩
  · rw [eqvAll_ints]; exact q
theorem i_eqAI {i j : Int} (h : Q (.bl (decide (i = j))) H) : rEqA (.int i) (.int j) H Q := .inl (i_eqI h)
theorem i_eqAB {i j : Bool} (h : Q (.bl (decide (i = j))) H) : rEqA (.bl i) (.bl j) H Q := .inl (i_eqB h)
theorem i_neAI {i j : Int} (h : Q (.bl (!decide (i = j))) H) : rNeA (.int i) (.int j) H Q := .inl (i_neI h)
theorem i_neAB {i j : Bool} (h : Q (.bl (!decide (i = j))) H) : rNeA (.bl i) (.bl j) H Q := .inl (i_neB h)
end
end L2

namespace PySem
open Sem (wp)
set_option maxRecDepth 100000
theorem lri_nolen : typeLookup (.type "list_reverseiterator") "__len__" = pure none := by rw [typeLookup_type, builtinLookup_eq_fast]; kernel_rfl
theorem lri_hint : typeLookup (.type "list_reverseiterator") "__length_hint__" = pure (some (.builtin "list_reverseiterator.__length_hint__")) := by rw [typeLookup_type, builtinLookup_eq_fast]; kernel_rfl
section
variable {prog : Program} {w : World} {A : Around} {s : Shared} {R : Result → Shared → Prop}
variable {I : Addr} {fp wr : List Addr} {G : Array GenState → Array GenState → Prop} {n : Nat} {P : Nat → Value → Prop} {St : Nat → Shared → Prop}
theorem extend_lri (W : WalksS prog w A.in1 I fp wr G n P St) (hT : ∀ i s, St i s → s.TypeIs (.ref I) "list_reverseiterator") (S : Addr) (res : Value) (c₀ : Nat) (hst : St 0 s) (hSf : S ∉ fp) (hI : I ∈ fp)
    (hS : s.heap.get? S = some { cls := .type "list", data := .seq #[] c₀ })
    (hR : ∀ s' acc' c', Moved (S :: wr) G s s' → s'.heap.get? S = some { cls := .type "list", dict := none, data := .seq acc' c', slots := #[] } → ItemsOf P acc' n → R (.ok (.ret res)) s') (hn : n ≤ sizeLine) :
    wpAny (model prog w) A.in1 (Builtin.List.listExtendWith (.ref S) (.ref I) res)
      (fun fin s' => match fin with | .done f => R (.ok f) s' | .again c' => c'.quiet = true ∧ codeAny (model prog w) A c' R s') (fun e s' => R (.error e) s') s := by
  have hSI : S ≠ I := fun e => hSf (e ▸ hI)
  have h1 : Builtin.List.listSameRef (.ref S) (.ref I) = false := by simp [Builtin.List.listSameRef, hSI]
  unfold Builtin.List.listExtendWith
  refine wpAny_bind (wpAny_typeOf (hT 0 _ hst) ?_)
  rw [if_neg (by rw [h1]; decide)]
  refine wpAny_bind (W.self 0 _ _ _ hst ?_)
  refine wpAny_bind (wpAny_holding ?_)
  unfold Builtin.List.listLengthHint
  refine wpAny_bind (wpAny_specialOf (hT 0 _ hst) lri_nolen ?_)
  show wpAny _ A.in1 (specialOf (Value.ref I) (Str.ofString "__length_hint__") >>= _) _ _ _
  refine wpAny_bind (wpAny_specialOf (hT 0 _ hst) lri_hint ?_)
  (generalize hid : ("list_reverseiterator.__length_hint__" : String) = id0; (fail_if_success (clear hid id0)); wp_delta; rw [show splitId id0 = some ("list_reverseiterator", "__length_hint__") from by subst hid; decide +kernel]; subst hid)
  refine wpAny_bind (wpAny_isInstance (b := true) (hT 0 _ hst) (by rw [isSubtype_type]; kernel_rfl) ?_)
  refine wpAny_pure ?_
  rw [if_neg (by decide)]
  exact wpAny_pure ⟨plainId_quiet F.plain_extend_loop _, codeAny_extend_loopS W hn _ hSf _ n 0 _ _ _ rfl (Nat.zero_le _) hst hS (ItemsOf.nil P) fun s' acc' c' hm hS' hacc => hR s' acc' c' hm hS' hacc⟩
theorem init_lri (W : WalksS prog w A.in1 I fp wr G n P St) (hT : ∀ i s, St i s → s.TypeIs (.ref I) "list_reverseiterator") (S : Addr) (hst : St 0 s) (hSf : S ∉ fp) (hI : I ∈ fp)
    (hS : s.heap.get? S = some { cls := .type "list", data := .seq #[] })
    (hR : ∀ s' acc' c', Moved (S :: wr) G s s' → s'.heap.get? S = some { cls := .type "list", dict := none, data := .seq acc' c', slots := #[] } → ItemsOf P acc' n → R (.ok (.ret .none)) s') (hn : n ≤ sizeLine) :
    wpAny (model prog w) A.in1 (Builtin.«list.__init__» ⟨[.ref S, .ref I], []⟩)
      (fun fin s' => match fin with | .done f => R (.ok f) s' | .again c' => c'.quiet = true ∧ codeAny (model prog w) A c' R s') (fun e s' => R (.error e) s') s := by
  show wpAny _ A.in1 (do let old ← Builtin.List.listItems (.ref S); Builtin.List.listUpdate (.ref S) (fun _ => #[]); letGo old.toList.reverse; Builtin.List.listExtendWith (.ref S) (.ref I) .none) _ _ s
  refine wpAny_bind ?_
  unfold Builtin.List.listItems
  refine wpAny_bind (wpAny_seqItems hS rfl (wpAny_pure ?_))
  show wpAny _ A.in1 (updateSeq S (fun _ => #[]) >>= fun _ => letGo (#[] : Array Value).toList.reverse >>= fun _ => Builtin.List.listExtendWith (.ref S) (.ref I) .none) _ _ s
  refine wpAny_bind (wpAny_updateSeq hS rfl ?_)
  have hS₂ := Heap.get?_update_self (Obj.mapSeq (fun _ => (#[] : Array Value))) hS rfl
  have oth : ∀ b o, b ≠ S → s.heap.get? b = some o → (s.heap.update S (Obj.mapSeq (fun _ => (#[] : Array Value)))).get? b = some o :=
    fun b o hb e => (Heap.get?_update_other _ _ (Ne.symm hb)).trans e
  refine wpAny_bind (wpAny_letGo ?_)
  refine extend_lri (hn := hn) W hT S .none _ (W.frame 0 s _ s.toks hst (Nat.le_refl _) fun b hb o e => oth b o (fun h => hSf (h ▸ hb)) e) hSf hI hS₂ fun s' acc' c' hm hS' hacc => ?_
  exact hR s' acc' c' (Moved.trans W.gtrans ((Moved.refl W.grefl).then_heap (Nat.le_refl _) fun b o hb e => oth b o (fun h => hb (h ▸ List.mem_cons_self)) e) hm) hS' hacc
end
section
variable {prog : Program} {w : World} {A : Around} {E : Value → Shared → Prop} {s : Shared}
variable {I : Addr} {fp wr : List Addr} {G : Array GenState → Array GenState → Prop} {n : Nat} {P : Nat → Value → Prop} {St : Nat → Shared → Prop}
theorem call_list_lri {Q : Value → Shared → Prop} (W : WalksS prog w A.in1.in1 I fp wr G n P St) (hT : ∀ i s, St i s → s.TypeIs (.ref I) "list_reverseiterator") (hst : St 0 s) (hfp : ∀ b ∈ fp, b < s.heap.objs.size) (hI : I ∈ fp)
    (hQ : ∀ s' acc' c', Moved (s.heap.objs.size :: wr) G { s with heap := s.heap.push { cls := .type "list", data := .seq #[] } } s' →
      s'.heap.get? s.heap.objs.size = some { cls := .type "list", dict := none, data := .seq acc' c', slots := #[] } → ItemsOf P acc' n → Q (.ref s.heap.objs.size) s') (hn : n ≤ sizeLine) :
    wpAny (model prog w) A (call (.type "list") [.ref I]) Q E s := by
  have hSf : s.heap.objs.size ∉ fp := fun hm => Nat.lt_irrefl _ (hfp _ hm)
  refine callType_codes (Q₁ := fun obj s₁ => obj = .ref s.heap.objs.size ∧ s₁ = { s with heap := s.heap.push { cls := .type "list", data := .seq #[] } }) F.called_list (F.typeCall_list_1 _) F.entry_list_init
    (code_list_new _ ⟨rfl, rfl⟩) fun obj s₁ h₁ => ?_
  obtain ⟨rfl, rfl⟩ := h₁
  have hS : (s.heap.push { cls := .type "list", data := .seq #[] }).get? s.heap.objs.size = some { cls := .type "list", data := .seq #[] } := Heap.get?_push_size _ rfl
  refine ⟨⟨_, hS, rfl⟩, F.args_list_init_2 _ _, init_lri (hn := hn) W hT _ (W.frame 0 s _ s.toks hst (Nat.le_refl _) fun b _ o e => Heap.get?_push_of_some _ e) hSf hI hS fun s' acc' c' hm hS' hacc => ?_⟩
  exact ⟨rfl, hQ s' acc' c' hm hS' hacc⟩
end
end PySem
namespace L2
open PySem PySem.Spec PyProof.Rows
section
variable {X : Cx} {tg : Expr}
def tListRev (K : PySem.W.Frag) (te : TE) : TE := fun σ H Q => te σ H fun x H1 => ∃ p ys, x = .ref p ∧ SqL K H1 p ys ∧ ∀ l, H1 l = none → Q (.ref l) (upd H1 l (.lst ys.reverse))
theorem items_rev {its : List Value} {acc : Array Value} (h : ItemsOf (fun i v => its.toArray[its.toArray.size - 1 - i]? = some v) acc its.toArray.size) : acc.toList = its.reverse := by
  obtain ⟨h1, h2⟩ := h
  have h1 : acc.size = its.length := by rw [h1]; simp
  apply List.ext_getElem?
  intro i
  by_cases hi : i < its.length
  · have e : acc[i]? = some (acc[i]'(by omega)) := Array.getElem?_eq_getElem (by omega)
    have := h2 i _ e
    rw [List.size_toArray, List.getElem?_toArray] at this
    rw [Array.getElem?_toList, e, ← this, List.getElem?_reverse hi]
  · rw [Array.getElem?_toList, Array.getElem?_eq_none (by omega), List.getElem?_eq_none (by rw [List.length_reverse]; omega)]
theorem vals_append : ∀ {xs xs' : List V} {us us' : List Value}, Vals xs us → Vals xs' us' → Vals (xs ++ xs') (us ++ us')
  | _, _, _, _, .nil, r => r
  | _, _, _, _, .cons h r, r' => .cons h (vals_append r r')
theorem vals_reverse : ∀ {xs : List V} {us : List Value}, Vals xs us → Vals xs.reverse us.reverse
  | _, _, .nil => .nil
  | _, _, .cons h r => by
    rw [List.reverse_cons, List.reverse_cons]
    exact vals_append (vals_reverse r) (.cons h .nil)
theorem pe_listrev {e : Expr} {te : TE} {p p2 pos pos2 : Pos} (hc : X.calm = true) (hg : Gl X "list") (hm : X.mg "list" = none) (hg2 : Gl X "reversed") (hm2 : X.mg "reversed" = none) (ha : PE X e te)
    (he : starEach [e] X.env = (false, eval e X.env) :: starEach [] X.env := by rfl) :
    PE X (.Call (.Name "list" p) [.Call (.Name "reversed" p2) [e] [] pos2] [] pos) (tListRev X.K te) := by
  intro pins s σ H Q I h
  refine wpAny_Call_Name_kw (ld_blt I hg hm bt_list ?_)
  refine PyProof.Rows.callWith_type1 ?_ rfl rfl
  show wpAny _ _ (spliced ((false, eval (.Call (.Name "reversed" p2) [e] [] pos2) X.env) :: backTo pos (starEach [] X.env))) _ _ s
  refine Calls.spliced_cons ?_
  refine wpAny_Call_Name_kw (ld_blt I hg2 hm2 bt_reversed ?_)
  let R : List V → Hp → Prop := fun vs H1 => match vs with | [x] => (∃ p ys, x = V.ref p ∧ SqL X.K H1 p ys ∧ ∀ l, H1 l = none → Q (.ref l) (upd H1 l (.lst ys.reverse))) | _ => False
  have h' : tCons te tNil σ H R := h
  refine PyProof.Rows.callWith_type1 (thn (pa_cons ha pa_nil he pos2 pins s σ H R I h') fun us s1 ⟨vs, H1, I1, r1, q1⟩ => ?_) he rfl
  match vs, r1, q1 with
  | [x], r1, q1 =>
    obtain ⟨p, ys, rfl, hq, q⟩ := q1
    obtain ⟨u, rfl, rx⟩ := vals1 r1
    cases rx
    obtain ⟨its, rv, pl, hz⟩ := I1.list hq
    have hlen := rv.length
    have pl0 : s1.heap.IsList p its.toArray := pl.isList
    have hpl : p < s1.heap.objs.size := by obtain ⟨o, ho, _⟩ := id pl0; exact Heap.lt_size ho
    refine call_reversed_list pl0 ?_
    refine Calls.spliced_nil ?_
    have I2 : Inv X pins σ H1 { s1 with heap := s1.heap.push (revObj p ((its.toArray.size : Int) - 1)) } := I1.kept (t' := s1.toks) fun b o e => Heap.get?_push_of_some _ e
    have pl2 : (s1.heap.push (revObj p ((its.toArray.size : Int) - 1))).IsList p its.toArray := pl0.at fun o e => Heap.get?_push_of_some _ e
    have W := (Walks.listRev (prog := X.prog) (w := X.w) (A := X.A.in1.in1) (I.ok.hd hc) s1.heap.objs.size p (Nat.ne_of_lt hpl) its.toArray).toS
    refine call_list_lri (s := { s1 with heap := s1.heap.push (revObj p ((its.toArray.size : Int) - 1)) }) W (fun i s st => st.2.1.typeIs) ⟨Nat.zero_le _, ⟨_, Heap.get?_push_size _ rfl, rfl, by simp [revObj]⟩, pl2⟩ (fun b hb => ?_) (by simp) (fun s' acc c' hm hS hacc => ?_) (by simp only [List.size_toArray]; omega)
    · have hs : (s1.heap.push (revObj p ((its.toArray.size : Int) - 1))).objs.size = s1.heap.objs.size + 1 := by simp [Heap.push]
      show b < (s1.heap.push (revObj p ((its.toArray.size : Int) - 1))).objs.size
      rw [hs]
      simp at hb
      rcases hb with rfl | rfl
      · exact Nat.lt_succ_self _
      · exact Nat.lt_succ_of_lt hpl
    · rw [Moved.eq_with hm]
      have hf : H1 (s1.heap.push (revObj p ((its.toArray.size : Int) - 1))).objs.size = none := I2.hok.fresh (Nat.le_refl _)
      have ea := items_rev hacc
      have ea' : acc = its.reverse.toArray := by rw [← ea]
      have hz' : ys.reverse.length ≤ sizeLine := by rw [List.length_reverse]; exact hz
      have kp : ∀ b o, s1.heap.get? b = some o → s'.heap.get? b = some o := fun b o e => by
        have hb := Heap.lt_size e
        refine hm.heap b o (fun hmem => ?_) (Heap.get?_push_of_some _ (Heap.get?_push_of_some _ e))
        rcases List.mem_cons.mp hmem with e' | e'
        · have hs : (s1.heap.push (revObj p ((its.toArray.size : Int) - 1))).objs.size = s1.heap.objs.size + 1 := by simp [Heap.push]
          have e'' : b = (s1.heap.push (revObj p ((its.toArray.size : Int) - 1))).objs.size := e'
          rw [hs] at e''
          exact absurd hb (by rw [e'']; exact Nat.not_lt.mpr (Nat.le_succ _))
        · exact absurd hb (by rw [List.mem_singleton.mp e']; exact Nat.lt_irrefl _)
      refine ⟨.ref _, upd H1 _ (.lst ys.reverse), I1.laid (t' := s'.toks) kp ?_ (show ObjOk X.prog X.w _ s'.heap _ (.lst ys.reverse) from ⟨hz', its.reverse, c', vals_reverse rv, by rw [← ea']; exact hS⟩), rfl, q _ hf⟩
      simp [Heap.push]
end
section
variable {σ : St} {H : Hp} {Q : VK} {D : Ends} {K : PySem.W.Frag} {g : TG} {tb : TS} {ix : List Nat} {tc : TT} {te : TE}
def NewRev (K : PySem.W.Frag) (x : V) (H1 : Hp) (Q : VK) : Prop := ∃ p ys, x = .ref p ∧ SqL K H1 p ys ∧ ∀ l, H1 l = none → Q (.ref l) (upd H1 l (.lst ys.reverse))
theorem i_listrev (h : te σ H fun x H1 => NewRev K x H1 Q) : tListRev K te σ H Q := h
theorem j_listrev {p : Addr} {ys : List V} (h : SqL K H p ys) (k : ∀ (l : Addr) (H' : Hp), Same H H' → H l = none → H' l = some (.lst ys.reverse) → Q (.ref l) H') : NewRev K (.ref p) H Q :=
  ⟨p, ys, rfl, h, fun l hl => k l _ (same_new hl _) hl upd_same⟩
end
end L2

set_option maxRecDepth 100000
namespace PySem
open Sem (wp)
open AutoSeq1 (wpAny_loadPart')
theorem new_enum_tup (a : Addr) (vs : Array Value) (m : Nat) (dc : Option Addr) (sc : Array (Option Value)) : Meets (Builtin.«enumerate.__new__» ⟨[.type "enumerate", .ref a], []⟩) (fun _ R z =>
    z.heap.get? a = some { cls := .type "tuple", dict := dc, data := .seq vs m, slots := sc } ∧
    R (.ok (.ret (.ref (z.heap.push { cls := .type "tuple_iterator", data := .fields #[.ref a, .int 0 0] }).objs.size)))
      { z with heap := (z.heap.push { cls := .type "tuple_iterator", data := .fields #[.ref a, .int 0 0] }).push { cls := .type "enumerate", data := .fields #[.none, .bool false, .ref z.heap.objs.size, rawInt 0, .none, .none] } }) :=
  .of_wp fun pr wo ar R z hz => by
    obtain ⟨hp, gg, dd, tt, ss⟩ := z
    obtain ⟨ha, hR⟩ := hz
    have hsubE := sub_enumerate
    have hT : Heap.IsTuple (Shared.heap ⟨hp, gg, dd, tt, ss⟩) a vs := ⟨_, ha, rfl, m, rfl⟩
    wp_walk using wpAny_loadPart' ha
    refine wpAny_stack_any fun stk => wpAny_pure ?_
    split
    · rename_i cc _ _ _ _ _
      cases (cc == Value.type "enumerate") <;>
        (wp_walk using wpAny_loadPart' ha, wpAny_pyIter_tuple hT
         exact ⟨_, rfl, hR⟩)
    · wp_walk using wpAny_loadPart' ha, wpAny_pyIter_tuple hT
      exact ⟨_, rfl, hR⟩
section
variable {prog : Program} {w : World} {A : Around} {E : Value → Shared → Prop} {s : Shared}
theorem call_enum_tup {a : Addr} {vs : Array Value} {Q : Value → Shared → Prop} (hT : s.heap.IsTuple a vs)
    (q : ∀ h', IsEnum h' (s.heap.objs.size + 1) s.heap.objs.size 0 .none → h'.IsTupleIter s.heap.objs.size a 0 → (∀ b o, s.heap.get? b = some o → h'.get? b = some o) → Q (.ref (s.heap.objs.size + 1)) { s with heap := h' }) :
    wpAny (model prog w) A (call (.type "enumerate") [.ref a]) Q E s := by
  obtain ⟨⟨c, dc, dt, sc⟩, ha, hc, m, hd⟩ := hT
  replace hc : c = .type "tuple" := hc
  replace hd : dt = .seq vs m := hd
  subst hc hd
  refine callType_new F.called_enumerate (by decide) (F.typeCall_enumerate_1 _) (F.newCall_enumerate_1 _) (fun z => F.args_object_init_2 z _) F.entry_enumerate_new (new_enum_tup a vs m dc sc) ⟨ha, ?_⟩
  have hz : (s.heap.push { cls := .type "tuple_iterator", data := .fields #[.ref a, .int 0 0] }).objs.size = s.heap.objs.size + 1 := Heap.size_push ..
  show _ ∧ _
  rw [hz]
  have he : IsEnum ((s.heap.push { cls := .type "tuple_iterator", data := .fields #[.ref a, .int 0 0] }).push { cls := .type "enumerate", data := .fields #[.none, .bool false, .ref s.heap.objs.size, rawInt 0, .none, .none] }) (s.heap.objs.size + 1) s.heap.objs.size 0 .none := by
    have e := Heap.get?_push_size (s.heap.push { cls := .type "tuple_iterator", data := .fields #[.ref a, .int 0 0] }) (o := { cls := .type "enumerate", data := .fields #[.none, .bool false, .ref s.heap.objs.size, rawInt 0, .none, .none] }) rfl
    rw [hz] at e
    exact e
  exact ⟨⟨_, he, rfl⟩, q _ he ⟨_, Heap.get?_push_of_some _ (Heap.get?_push_size _ rfl), rfl, rfl⟩ fun b o e => Heap.get?_push_of_some _ (Heap.get?_push_of_some _ e)⟩
theorem nextOf_tup_item {it t : Addr} {i : Nat} {vs} {x : Value} {Q : Value → Shared → Prop} (hi : s.heap.IsTupleIter it t i) (ht : s.heap.IsTuple t vs) (hx : vs[i]? = some x)
    (q : ∀ h', h'.IsTupleIter it t (i + 1) → Heap.SameBut it s.heap h' → Q x { s with heap := h' }) : wpAny (model prog w) A (Builtin.SmallTypes.nextOf (.ref it)) Q E s := by
  obtain ⟨o, ho, hc, hd⟩ := id hi
  obtain ⟨ot, hot, _, nt, hdt⟩ := ht
  unfold Builtin.SmallTypes.nextOf
  refine wpAny_bind (wpAny_callSpecial?_slot (name := Str.ofString "__next__") hi.typeIs F.slot_tuple_iterator_next (wpAny_call_entry F.slot_tuple_iterator_next hi.typeIs F.entry_tuple_iterator_next ?_ (F.args_tuple_iterator_next_1 _)))
  show wpAny _ _ (field (.ref it) 0 >>= _) _ _ s
  refine wpAny_bind (wpAny_field ho hd (x := .ref t) rfl ?_)
  show wpAny _ _ (if (Value.ref t == Value.none) = true then _ else _) _ _ s
  rw [if_neg (show ¬ ((Value.ref t == Value.none) = true) from Bool.false_ne_true)]
  show wpAny _ _ (field (.ref it) 1 >>= _) _ _ s
  refine wpAny_bind (wpAny_field ho hd (x := .int i 0) rfl ?_)
  show wpAny _ _ (seqItems? (.ref t) >>= _) _ _ s
  refine wpAny_bind (wpAny_seqItems hot hdt ?_)
  simp only [Int.toNat_natCast, hx]
  refine wpAny_bind (wpAny_setField ho hd (by simp) (wpAny_pure ⟨x, rfl, wpAny_pure (q _ ?_ (Heap.SameBut.update ..))⟩))
  exact ⟨_, Heap.get?_update_self _ ho (Obj.isFreed_of_fields (Obj.data_mapFields hd _)), (Obj.cls_mapFields ..).trans hc, by rw [Obj.data_mapFields hd]; simp [rawInt]⟩
theorem nextOf_tup_end {it t : Addr} {i : Nat} {vs} {Q : Value → Shared → Prop} (hh : A.handled = none) (hi : s.heap.IsTupleIter it t i) (ht : s.heap.IsTuple t vs) (hx : vs[i]? = none)
    (q : ∀ h' e, Heap.ExtBut it s.heap h' → (∃ o, h'.get? e = some o ∧ o.cls = .type "StopIteration") → E (.ref e) { s with heap := h' }) : wpAny (model prog w) A (Builtin.SmallTypes.nextOf (.ref it)) Q E s := by
  obtain ⟨o, ho, hc, hd⟩ := id hi
  obtain ⟨ot, hot, _, nt, hdt⟩ := ht
  unfold Builtin.SmallTypes.nextOf
  refine wpAny_bind (wpAny_callSpecial?_slot (name := Str.ofString "__next__") hi.typeIs F.slot_tuple_iterator_next (wpAny_call_entry F.slot_tuple_iterator_next hi.typeIs F.entry_tuple_iterator_next ?_ (F.args_tuple_iterator_next_1 _)))
  show wpAny _ _ (field (.ref it) 0 >>= _) _ _ s
  refine wpAny_bind (wpAny_field ho hd (x := .ref t) rfl ?_)
  show wpAny _ _ (if (Value.ref t == Value.none) = true then _ else _) _ _ s
  rw [if_neg (show ¬ ((Value.ref t == Value.none) = true) from Bool.false_ne_true)]
  show wpAny _ _ (field (.ref it) 1 >>= _) _ _ s
  refine wpAny_bind (wpAny_field ho hd (x := .int i 0) rfl ?_)
  show wpAny _ _ (seqItems? (.ref t) >>= _) _ _ s
  refine wpAny_bind (wpAny_seqItems hot hdt ?_)
  simp only [Int.toNat_natCast, hx]
  refine wpAny_bind (wpAny_rule (wpAny_bind (wpAny_setField ho hd (by simp) ?_)))
  show wpAny _ _ (newExc (.type "StopIteration") [] >>= _) _ _ _
  refine wpAny_bind ?_
  simp only [newExc, newTuple]
  refine wpAny_bind (wpAny_newObj_type ?_ (by size_fits))
  refine wpAny_bind (m := firstArgMember _ _) (wpAny_of_eq (a := Value.none) (by first | rfl | (simp only [firstArgMember]; rfl)) ?_)
  refine wpAny_newObj_type ?_ (by size_fits)
  simp only [raiseNew]
  refine wpAny_bind (wpAny_handled ?_)
  first | rw [show A.in1.handled = none from hh] | rw [hh]
  refine wpAny_bind (wpAny_pure (wpAny_throw ?_))
  exact q _ _ (((Heap.SameBut.update ..).extBut.push _).push _) ⟨_, Heap.get?_push_size _ rfl, rfl⟩
end
theorem Draws.tup {prog : Program} {w : World} {A : Around} (hh : A.handled = none) (it t : Addr) (hne : t ≠ it) (vs : Array Value) : Draws prog w A it [it, t] vs.size (fun i v => vs[i]? = some v) (fun i h => h.IsTupleIter it t i ∧ h.IsTuple t vs) where
  live := fun _ _ z => let ⟨o, ho, _⟩ := z.1; ⟨o, ho⟩
  frame := fun _ _ _ z hk => ⟨(let ⟨o, ho, r⟩ := z.1; ⟨o, hk it (by simp) o ho, r⟩), (let ⟨o, ho, r⟩ := z.2; ⟨o, hk t (by simp) o ho, r⟩)⟩
  item := fun i s Q E hi z q => nextOf_tup_item z.1 z.2 (x := vs[i]) (by simp [hi]) fun h' hi' hs' => q _ h' s.toks (by simp [hi]) ⟨hi', z.2.extBut hs'.extBut hne⟩ hs'
  done := fun s Q E z q => nextOf_tup_end hh z.1 z.2 (by simp) q
theorem push_inv {h : Heap} {o o' : Obj} {b : Addr} (e : (h.push o).get? b = some o') : b = h.objs.size ∧ o' = o ∨ h.get? b = some o' := by
  obtain ⟨e1, e2⟩ := Heap.get?_some_iff.mp e
  have e1 : (h.objs.push o)[b]? = some o' := by simpa [Heap.push] using e1
  rw [Array.getElem?_push] at e1
  split at e1
  · rename_i z
    exact .inl ⟨z, (Option.some.inj e1).symm⟩
  · exact .inr (Heap.get?_some_iff.mpr ⟨e1, e2⟩)
end PySem
namespace L2
open PySem PySem.Spec PyProof.Rows
section
variable {X : Cx} {pins : List (Addr × Obj)} {σ : List (Option V)} {H : Hp} {s : Shared} {h' : Heap}
theorem Inv.turnedL {t' : Nat} {ch : List Addr} (I : Inv X pins σ H s) (k : ∀ b o, b ∉ ch → s.heap.get? b = some o → h'.get? b = some o) (hf : ∀ b ∈ ch, FpOk X pins H b) : Inv X pins σ H { s with heap := h', toks := t' } := by
  have nit : ∀ b u, H b = some u → b ∉ ch := fun b u e z => by rw [(hf b z).1] at e; cases e
  have hL : X.env.locals ∉ ch := fun z => (hf _ z).2.1 rfl
  refine I.step (g' := s.gens) (d' := s.drawn) (ch := ch) (fun b hb => ?_) (fun b o _ _ hc e _ => k b o hc e) (fun b o _ _ hc e _ => ⟨o.slots, k b o hc e⟩) (fun _ _ _ _ n => n) (fun b o hc e => ⟨o, k b o hc e⟩) (fun _ _ e => e) (fun _ _ _ e => e) (fun b ps e => ⟨#[], by rw [e]; simp⟩) (fun m hm => ?_) (fun b u e => ?_) I.bare
  · obtain ⟨f0, f1, f2, f3, f4, f5⟩ := hf b hb
    exact ⟨f3, f1, f4, f5⟩
  · obtain ⟨o, es, ep, ho, r⟩ := hm
    exact ⟨o, es, ep, k _ o hL ho, r⟩
  · refine (I.hok b u e).stay (fun c v hc q => k c v ?_ q) (fun _ q => q) fun _ _ q => q
    rcases hc with z | z
    · rw [z]; exact nit b u e
    · exact nit c _ z
/-- a pair is laid, the iterator's own objects turn -/
theorem Inv.pairTurn {t' : Nat} {ch : List Addr} {x y : V} {u v : Value} (I : Inv X pins σ H s) (rx : RelV x u) (ry : RelV y v) (hf : ∀ b ∈ ch, FpOk X pins H b) (hch : ∀ b ∈ ch, b ≠ s.heap.objs.size)
    (k : ∀ b o, b ∉ ch → s.heap.get? b = some o → h'.get? b = some o) (hT : h'.get? s.heap.objs.size = some { cls := .type "tuple", data := .seq #[u, v] }) :
    Inv X pins σ (upd H s.heap.objs.size (.tup [x, y])) { s with heap := h', toks := t' } := by
  have I1 : Inv X pins σ (upd H s.heap.objs.size (.tup [x, y])) { s with heap := s.heap.push { cls := .type "tuple", data := .seq #[u, v] } } :=
    I.laid (t' := s.toks) (fun b o e => Heap.get?_push_of_some _ e) (Nat.le_refl _) (show ObjOk X.prog X.w _ _ _ (.tup [x, y]) from ⟨Nat.le_of_ble_eq_true rfl, [u, v], .cons rx (.cons ry .nil), IsTup.new _ _⟩)
  refine Inv.turnedL (s := { s with heap := s.heap.push { cls := .type "tuple", data := .seq #[u, v] } }) (ch := ch) I1 (fun b o hb e => ?_) fun b hb => ?_
  · rcases push_inv e with ⟨e1, e2⟩ | e
    · rw [e1, e2]; exact hT
    · exact k b o hb e
  · obtain ⟨f0, f1, f2, f3, f4, f5⟩ := hf b hb
    exact ⟨by rw [upd_ne (hch b hb)]; exact f0, f1, f2, f3, f4, f5⟩
end
def Ite (sq : Hp → Prop) (xs : List V) : It := ⟨fun i H => i < xs.length ∧ sq H, fun i H x H' => ∃ T v, xs[i]? = some v ∧ H T = none ∧ x = .ref T ∧ H' = upd H T (.tup [.int (i : Int), v]), fun i H => i = xs.length ∧ sq H⟩
theorem turn_enum {P : Program} {w : World} {K : PySem.W.Frag} {elts : List Expr} {kk : Nat} {ps : Pos} {sq : Hp → Prop} {xs : List V} {e it : Addr} {stI : Nat → Heap → Prop} (hei : e ≠ it)
    (hobj : ∀ i h, stI i h → ∃ o, h.get? it = some o ∧ ∀ v, o.data ≠ .cell v) (hkeep : ∀ i h h', stI i h → (∀ o, h.get? it = some o → h'.get? it = some o) → stI i h')
    (hD : ∀ (X : Cx), X.prog = P → X.w = w → X.K = K → X.calm = true → ∀ (pins : List (Addr × Obj)) (σ : St) (H : Hp) (s : Shared) (i : Nat), Inv X pins σ H s → sq H → (∃ old, IsEnum s.heap e it i old) → stI i s.heap →
      ∃ (its : List Value) (fp : List Addr) (S : Nat → Heap → Prop), Vals xs its ∧ Draws P w X.A.in1 it fp its.length (fun j v => its[j]? = some v) S ∧ S i s.heap ∧ (∀ j h, S j h → stI j h) ∧ e ∉ fp) :
    Turn P w K (.Tuple elts kk ps) (Ite sq xs) [e, it] e (fun i h => (∃ old, IsEnum h e it i old) ∧ stI i h) where
  mem := by simp
  obj := fun i h st b hb => by
    obtain ⟨⟨old, he⟩, hs⟩ := st
    rcases List.mem_cons.mp hb with rfl | hb
    · exact ⟨_, he, fun v z => by cases z⟩
    · rw [List.mem_singleton.mp hb]; exact hobj i h hs
  keep := fun i h h' st k => by
    obtain ⟨⟨old, he⟩, hs⟩ := st
    exact ⟨⟨old, k e (by simp) _ he⟩, hkeep i h h' hs fun o z => k it (by simp) o z⟩
  item := by
    intro X hP hw hK hc i pins s σ H E I hf st hg
    obtain ⟨⟨old, he⟩, hs⟩ := st
    obtain ⟨its, fp, S, rv, D, hS, hst, hef⟩ := hD X hP hw hK hc pins σ H s i I hg.2 ⟨old, he⟩ hs
    subst hP hw hK
    have hi : i < its.length := by rw [← rv.length]; exact hg.1
    refine wpAny_pyNext_enum_itemD D he hS hi hei hef fun u h1 tk hu ho hs1 hT hsz hk => ?_
    have hel : e < s.heap.objs.size := Heap.lt_size he
    have hil : it < s.heap.objs.size := by obtain ⟨o, q, _⟩ := hobj i _ hs; exact Heap.lt_size q
    refine ⟨_, rfl, wpAny_letOwnedTupleGo_enum ho fun h2 he2 hs2 => ?_⟩
    obtain ⟨v, hv⟩ : ∃ v, xs[i]? = some v := ⟨xs[i]'hg.1, List.getElem?_eq_getElem hg.1⟩
    obtain ⟨u', hu', ru⟩ := rv.get hv
    have eu : u' = u := Option.some.inj (hu'.symm.trans hu)
    subst eu
    have I2 : Inv X pins σ (upd H s.heap.objs.size (.tup [.int (i : Int), v])) { s with heap := h2, toks := tk + 1 } :=
      I.pairTurn (ch := [e, it]) (u := .int i tk) ⟨tk, rfl⟩ ru hf (fun b hb => by
        rcases List.mem_cons.mp hb with rfl | hb
        · exact Nat.ne_of_lt hel
        · rw [List.mem_singleton.mp hb]; exact Nat.ne_of_lt hil) (fun b o hb z => by
        have hb1 : b ≠ e := fun q => hb (by simp [q])
        have hb2 : b ≠ it := fun q => hb (by simp [q])
        exact (hs2.2 b hb1).trans (hk b o hb1 hb2 z)) ((hs2.2 _ (Nat.ne_of_gt hel)).trans hT)
    refine ⟨.ref s.heap.objs.size, _, I2, rfl, ⟨_, v, hv, I.hok.fresh (Nat.le_refl _), rfl, rfl⟩, ⟨⟨_, by simpa using he2⟩, hst _ _ (D.frame _ _ _ hs1 fun b hb o z => (hs2.2 b fun q => hef (q ▸ hb)).trans z)⟩, fun b hb => ?_⟩
    have hne : b ≠ s.heap.objs.size := by
      rcases List.mem_cons.mp hb with rfl | hb
      · exact Nat.ne_of_lt hel
      · rw [List.mem_singleton.mp hb]; exact Nat.ne_of_lt hil
    rw [upd_ne hne]
    exact (hf b hb).1
  done := by
    intro X hP hw hK hc i pins s σ H E I hf st hg
    obtain ⟨⟨old, he⟩, hs⟩ := st
    obtain ⟨its, fp, S, rv, D, hS, hst, hef⟩ := hD X hP hw hK hc pins σ H s i I hg.2 ⟨old, he⟩ hs
    subst hP hw hK
    have hi : i = its.length := by rw [← rv.length]; exact hg.1
    rw [hi] at hS
    obtain ⟨f0, f1, f2, f3, f4, f5⟩ := hf it (by simp)
    exact wpAny_pyNext_enum_endD D he hS fun h1 eb => ⟨rfl, I.turned (t' := s.toks) (fun b o hb z => eb b o hb z) f0 f1 f3 f4 f5⟩
  self := fun _ _ _ _ _ st h => by
    obtain ⟨⟨old, he⟩, _⟩ := st
    exact wpAny_pyIter_enum he h
section
variable {X : Cx}
def iEnum (K : PySem.W.Frag) (tl : TE) : TI := fun σ H R => tl σ H fun x H1 => (∃ a xs, x = .ref a ∧ SqL K H1 a xs ∧ R (Ite (fun H => SqL K H a xs) xs) H1) ∨ (∃ a xs, x = .ref a ∧ SqT K H1 a xs ∧ R (Ite (fun H => SqT K H a xs) xs) H1)
theorem pi_enum {elts : List Expr} {kk : Nat} {ps : Pos} {l : Expr} {tl : TE} {p pos : Pos} (hg : Gl X "enumerate") (hm : X.mg "enumerate" = none) (ha : PE X l tl) (he : starEach [l] X.env = (false, eval l X.env) :: starEach [] X.env := by rfl) :
    PI X (.Tuple elts kk ps) (.Call (.Name "enumerate" p) [l] [] pos) (iEnum X.K tl) := by
  intro pins s σ H R I h
  refine wpAny_Call_Name_kw (ld_blt I hg hm bt_enumerate ?_)
  let R' : List V → Hp → Prop := fun vs H1 => match vs with | [x] => ((∃ a xs, x = V.ref a ∧ SqL X.K H1 a xs ∧ R (Ite (fun H => SqL X.K H a xs) xs) H1) ∨ (∃ a xs, x = V.ref a ∧ SqT X.K H1 a xs ∧ R (Ite (fun H => SqT X.K H a xs) xs) H1)) | _ => False
  have h' : tCons tl tNil σ H R' := h
  refine PyProof.Rows.callWith_type1 (thn (pa_cons ha pa_nil he pos pins s σ H R' I h') fun us s1 ⟨vs, H1, I1, r1, q1⟩ => ?_) he rfl
  have fpk : ∀ b ∈ [s1.heap.objs.size + 1, s1.heap.objs.size], FpOk X pins H1 b := fun b hb => by
    rcases List.mem_cons.mp hb with rfl | hb
    · exact I1.fpOk (Nat.le_succ _) (I1.hok.fresh (Nat.le_succ _))
    · rw [List.mem_singleton.mp hb]; exact I1.fpOk (Nat.le_refl _) (I1.hok.fresh (Nat.le_refl _))
  match vs, r1, q1 with
  | [x], r1, q1 =>
    obtain ⟨u, rfl, rx⟩ := vals1 r1
    rcases q1 with ⟨a, xs, rfl, hq, q⟩ | ⟨a, xs, rfl, hq, q⟩
    · cases rx
      obtain ⟨its, rv, pl, hz⟩ := I1.list hq
      refine call_enumerate_list pl.isList fun h2 he2 hi2 hsz hk => ?_
      refine wpAny_pyIter_enum he2 ⟨s1.heap.objs.size + 1, _, _, _, H1, rfl, I1.kept (t' := s1.toks) hk, turn_enum (e := s1.heap.objs.size + 1) (it := s1.heap.objs.size) (stI := fun i h => h.IsListIter s1.heap.objs.size a i) (Nat.succ_ne_self _) ?_ ?_ ?_, ⟨⟨_, he2⟩, hi2⟩, fpk, q⟩
      · rintro i h ⟨o, e, c, d⟩
        exact ⟨o, e, fun v z => by rw [d] at z; cases z⟩
      · exact fun i h h' z k => z.at k
      · intro Y hP hw hK hc pins' σ' H' s' i I' hs ⟨old, hen⟩ hit
        have hs : SqL Y.K H' a xs := by rw [hK]; exact hs
        obtain ⟨its', rv', pl', hz'⟩ := I'.list hs
        have na : a ≠ s1.heap.objs.size := fun z => by
          obtain ⟨o, e, c, d⟩ := hit
          obtain ⟨o', e', c', d'⟩ := pl'.isList
          rw [z, e] at e'
          cases e'
          rw [c] at c'
          exact absurd c' (by decide)
        have nb : s1.heap.objs.size + 1 ∉ [s1.heap.objs.size, a] := fun z => by
          rcases List.mem_cons.mp z with z | z
          · exact Nat.succ_ne_self _ z
          · obtain ⟨o', e', c', d'⟩ := pl'.isList
            rw [← List.mem_singleton.mp z, hen] at e'
            cases e'
            have c2 : Value.type "enumerate" = Value.type "list" := c'
            exact absurd c2 (by decide)
        have D := Draws.list (prog := Y.prog) (w := Y.w) (A := Y.A.in1) (I'.ok.hd hc) s1.heap.objs.size a na its'.toArray
        rw [hP, hw] at D
        exact ⟨its', [s1.heap.objs.size, a], fun i h => h.IsListIter s1.heap.objs.size a i ∧ h.IsList a its'.toArray, rv', by simpa using D, ⟨hit, pl'.isList⟩, fun j h z => z.1, nb⟩
    · cases rx
      obtain ⟨its, rv, pl, hz⟩ := I1.tuple hq
      refine call_enum_tup (show s1.heap.IsTuple a its.toArray from pl) fun h2 he2 hi2 hk => ?_
      refine wpAny_pyIter_enum he2 ⟨s1.heap.objs.size + 1, _, _, _, H1, rfl, I1.kept (t' := s1.toks) hk, turn_enum (e := s1.heap.objs.size + 1) (it := s1.heap.objs.size) (stI := fun i h => h.IsTupleIter s1.heap.objs.size a i) (Nat.succ_ne_self _) ?_ ?_ ?_, ⟨⟨_, he2⟩, hi2⟩, fpk, q⟩
      · rintro i h ⟨o, e, c, d⟩
        exact ⟨o, e, fun v z => by rw [d] at z; cases z⟩
      · exact fun i h h' z k => let ⟨o, e, r⟩ := z; ⟨o, k o e, r⟩
      · intro Y hP hw hK hc pins' σ' H' s' i I' hs ⟨old, hen⟩ hit
        have hs : SqT Y.K H' a xs := by rw [hK]; exact hs
        obtain ⟨its', rv', pl', hz'⟩ := I'.tuple hs
        have na : a ≠ s1.heap.objs.size := fun z => by
          obtain ⟨o, e, c, d⟩ := hit
          obtain ⟨o', e', c', d'⟩ := pl'
          rw [z, e] at e'
          cases e'
          rw [c] at c'
          exact absurd c' (by decide)
        have nb : s1.heap.objs.size + 1 ∉ [s1.heap.objs.size, a] := fun z => by
          rcases List.mem_cons.mp z with z | z
          · exact Nat.succ_ne_self _ z
          · obtain ⟨o', e', c', d'⟩ := pl'
            rw [← List.mem_singleton.mp z, hen] at e'
            cases e'
            have c2 : Value.type "enumerate" = Value.type "tuple" := c'
            exact absurd c2 (by decide)
        have D := Draws.tup (prog := Y.prog) (w := Y.w) (A := Y.A.in1) (I'.ok.hd hc) s1.heap.objs.size a na its'.toArray
        rw [hP, hw] at D
        exact ⟨its', [s1.heap.objs.size, a], fun i h => h.IsTupleIter s1.heap.objs.size a i ∧ h.IsTuple a its'.toArray, rv', by simpa using D, ⟨hit, pl'⟩, fun j h z => z.1, nb⟩
end
section
variable {σ : St} {H : Hp} {Q : VK} {D : Ends} {K : PySem.W.Frag} {g : TG} {tb : TS}
def LoopE (sq : Hp → Prop) (xs : List V) (g : TG) (tb : TS) (D : Ends) (σ : St) (H : Hp) : Prop :=
  ∃ W : Nat → Nat → St → Hp → Prop, (∃ m, W 0 m σ H) ∧ ∀ i m σ H, W i m σ H →
      ((Ite sq xs).stop i H ∧ D.nx σ H) ∨ ((Ite sq xs).go i H ∧ ∃ N : St → Hp → Prop, (∀ σ' H', N σ' H' → ∃ m', m' < m ∧ W (i + 1) m' σ' H') ∧ ∀ x H', (Ite sq xs).yld i H x H' → g x σ H' fun σ2 H2 => tb { D with nx := N, ct := N, bk := D.nx } σ2 H2)
def SeqE (K : PySem.W.Frag) (x : V) (g : TG) (tb : TS) (D : Ends) (σ : St) (H1 : Hp) : Prop := (∃ a xs, x = .ref a ∧ SqL K H1 a xs ∧ LoopE (fun H => SqL K H a xs) xs g tb D σ H1) ∨ (∃ a xs, x = .ref a ∧ SqT K H1 a xs ∧ LoopE (fun H => SqT K H a xs) xs g tb D σ H1)
theorem i_forE {tl : TE} (h : tl σ H fun x H1 => SeqE K x g tb D σ H1) : tFor (iEnum K tl) g tb D σ H := h
theorem loopE {sq : Hp → Prop} {xs : List V} (Pv : Nat → St → Hp → Prop) (h0 : Pv 0 σ H) (hl : ∀ i σ H, i ≤ xs.length → Pv i σ H → sq H)
    (hs : ∀ (i : Nat) (v : V) (T : Addr) σ H H', xs[i]? = some v → Pv i σ H → Same H H' → H T = none → H' T = some (.tup [.int (i : Int), v]) → g (.ref T) σ H' fun σ2 H2 => tb { D with nx := Pv (i + 1), ct := Pv (i + 1), bk := D.nx } σ2 H2) (hd : ∀ σ H, Pv xs.length σ H → D.nx σ H) : LoopE sq xs g tb D σ H := by
  refine ⟨fun i m σ H => m = xs.length - i ∧ i ≤ xs.length ∧ Pv i σ H, ⟨xs.length, by simp, Nat.zero_le _, h0⟩, ?_⟩
  rintro i m σ H ⟨rfl, hi, p⟩
  by_cases hlt : i < xs.length
  · refine .inr ⟨⟨hlt, hl i σ H hi p⟩, Pv (i + 1), fun σ' H' p' => ⟨xs.length - (i + 1), by omega, rfl, hlt, p'⟩, fun x H' y => ?_⟩
    obtain ⟨T, v, hv, hT, rfl, rfl⟩ := y
    exact hs i v T σ H _ hv p (same_new hT _) hT upd_same
  · have e : i = xs.length := by omega
    subst e
    exact .inl ⟨⟨rfl, hl _ σ H hi p⟩, hd σ H p⟩
theorem seqET {a : Addr} {xs : List V} (Pv : Nat → St → Hp → Prop) (h0 : Pv 0 σ H) (hl : ∀ i σ H, i ≤ xs.length → Pv i σ H → SqT K H a xs)
    (hs : ∀ (i : Nat) (v : V) (T : Addr) σ H H', xs[i]? = some v → Pv i σ H → Same H H' → H T = none → H' T = some (.tup [.int (i : Int), v]) → g (.ref T) σ H' fun σ2 H2 => tb { D with nx := Pv (i + 1), ct := Pv (i + 1), bk := D.nx } σ2 H2) (hd : ∀ σ H, Pv xs.length σ H → D.nx σ H) : SeqE K (.ref a) g tb D σ H := .inr ⟨a, xs, rfl, hl 0 σ H (Nat.zero_le _) h0, loopE Pv h0 hl hs hd⟩
theorem i_gN2 {T : Addr} {x y : V} {i j : Nat} {R : St → Hp → Prop} (e : H T = some (.tup [x, y])) (h : R ((σ.set i (some x)).set j (some y)) H) : gTup K 2 (gCons (gName i) (gCons (gName j) gNil)) (.ref T) σ H R :=
  ⟨T, [x, y], rfl, SqT.of e, rfl, x, [y], rfl, y, [], rfl, rfl, h⟩
end
end L2

set_option maxRecDepth 100000
namespace L2
open PySem PySem.Spec PyProof.Rows
section
variable {X : Cx}
end
section
open PySem.SeqAt
open PySem.AutoSeq1 (wpAny_loadPart')
open PySem.MeetsSeq PySem.MeetsSeq2 PySem.MeetsSeq3
end
def CDivG (i j : Int) : Prop := 0 < j ∧ j ≤ 18446744073709551616
theorem op_fdivG {X : Cx} : OpR X (binaryOp .FloorDiv) (rI CDivG fun i j => .int (i / j)) := opI fun i j _ _ _ _ _ hc q => by
  have h1 : (0 : Int) < j := hc.1
  have h2 : j ≤ 18446744073709551616 := hc.2
  refine floordiv_int (by omega) (by rw [Int.fdiv_eq_ediv_of_nonneg i (by omega)]; exact q) (.inl (PyProof.noPylong_of_log2 ?_))
  have h3 : j.natAbs.log2 < 65 := (Nat.log2_lt (by omega)).mpr (by omega)
  omega
section
variable {σ : St} {H : Hp} {Q : VK} {D : Ends} {K : PySem.W.Frag} {g : TG} {tb : TS}
end
end L2

set_option maxRecDepth 100000
namespace PySem
open Sem (wp)
theorem Obj.dict_mapFields (o : Obj) (f : Array Value → Array Value) : (Obj.mapFields f o).dict = o.dict := by unfold Obj.mapFields; split <;> rfl
def frsOf (l : List Env) : List Addr := l.filterMap (·.frame)
/-- the exception at e, of class cls, its traceback's first entry at T, not in flight -/
def Heap.Tr (h : Heap) (e : Addr) (cls : Value) (T : Addr) : Prop := ∃ oe vs oT ts, h.get? e = some oe ∧ oe.cls = cls ∧ oe.dict = none ∧ oe.data = .fields vs ∧ vs[1]? = some (.ref T) ∧ T ≠ e ∧ h.get? T = some oT ∧ oT.data = .fields ts ∧ ts[3]? = some .none
/-- all but own and the frames is as it was; of the frames the slots alone have changed -/
structure Heap.Gone (fs own : List Addr) (h h' : Heap) : Prop where
  kept : ∀ b o, b ∉ fs → b ∉ own → h.get? b = some o → h'.get? b = some o
  slot : ∀ b o, b ∈ fs → b ∉ own → h.get? b = some o → ∃ sl, h'.get? b = some { o with slots := sl }
section
variable {M : Model} {A : Around} {E : Value → Shared → Prop} {s : Shared}
theorem leave_entry {base : Heap} {env : Env} {outer : List Env} {L e : Addr} {oe : Obj} {vs : Array Value} {head : Value} {nx : Bool} {Q : Unit → Shared → Prop} (hfr : A.frames = some (env :: outer)) (hl : s.heap.FunFrames base (env :: outer)) (hf : env.frame = some L)
    (he : s.heap.get? e = some oe) (hdi : oe.dict = none) (hd : oe.data = .fields vs) (hsz : 1 < vs.size)
    (q : ∀ h' T, Heap.Gone (frsOf (env :: outer)) [e] s.heap h' → s.heap.get? T = none → s.heap.objs.size ≤ T → h'.Tr e oe.cls T → Q () { s with heap := h' }) :
    wpAny M A (do let a ← frameOf env; let pl ← entryPlaceOf L nx; let b ← EntryCells.newEntry head a .none (rawInt L) .none pl; setField (.ref e) 1 b) (fun _ s' => wpAny M A (setFlight (.ref e) none) Q E s') E s := by
  have hene : e ∉ frsOf (env :: outer) := fun hm => by
    obtain ⟨_, o, ho, hnf⟩ := hl.mem hm
    rw [he] at ho; injection ho with ho; subst ho; exact hnf vs hd
  refine wpAny_bind (wpAny_frameOf_fun hfr hl hf fun h₁ hs₁ => ?_)
  refine wpAny_bind (wpAny_entryPlaceOf fun pl hpl => ?_)
  unfold EntryCells.newEntry newFields
  refine wpAny_bind (wpAny_newObj_type ?_ (hpl.sizeOk5 _ _ _ _ _))
  have he₁ : h₁.get? e = some oe := (hs₁.2.1 e hene).trans he
  generalize hrec : ({ cls := .type "traceback", dict := none, data := .fields ([head, .ref L, .none, rawInt L, .none] ++ (if pl.isEmpty then List.replicate 6 Value.none else pl)).toArray } : Obj) = rec
  have hfree : rec.isFreed = false := by subst hrec; rfl
  have hrd : rec.data = .fields ([head, .ref L, .none, rawInt L, .none] ++ (if pl.isEmpty then List.replicate 6 Value.none else pl)).toArray := by subst hrec; rfl
  have he₂ := Heap.get?_push_of_some (h := h₁) rec he₁
  refine wpAny_setField he₂ hd hsz ?_
  have hTe : h₁.objs.size ≠ e := Nat.ne_of_gt (Heap.lt_size he₁)
  have hd₃ := Obj.data_mapFields hd (·.setIfInBounds 1 (Value.ref h₁.objs.size))
  have he₃ := Heap.get?_update_self (Obj.mapFields (·.setIfInBounds 1 (Value.ref h₁.objs.size))) he₂ (Obj.isFreed_of_fields hd₃)
  have hT₃ := (Heap.get?_update_other (h₁.push rec) (Obj.mapFields (·.setIfInBounds 1 (Value.ref h₁.objs.size))) (Ne.symm hTe)).trans (Heap.get?_push_size h₁ hfree)
  unfold setFlight
  refine wpAny_bind (wpAny_field he₃ hd₃ (x := .ref h₁.objs.size) (by simp [hsz]) ?_)
  rw [if_pos (show (Value.ref h₁.objs.size != Value.none) = true from by simp)]
  refine wpAny_setField hT₃ hrd (by simp only [List.size_toArray, List.length_append, List.length_cons, List.length_nil] <;> omega) ?_
  have keep : ∀ b o, b ≠ e → h₁.get? b = some o → (((h₁.push rec).update e (Obj.mapFields (·.setIfInBounds 1 (Value.ref h₁.objs.size)))).update h₁.objs.size (Obj.mapFields (·.setIfInBounds 3 ((none : Option Addr).elim Value.none fun f => rawInt f)))).get? b = some o := fun b o hbe hb => by
    have hbT : h₁.objs.size ≠ b := Nat.ne_of_gt (Heap.lt_size hb)
    rw [Heap.get?_update_other _ _ hbT, Heap.get?_update_other _ _ (Ne.symm hbe)]
    exact Heap.get?_push_of_some _ hb
  refine q _ h₁.objs.size ⟨fun b o hb ho e' => ?_, fun b o hb ho e' => ?_⟩ (Heap.get?_none_of_le (by rw [hs₁.1]; exact Nat.le_refl _)) (by rw [hs₁.1]; exact Nat.le_refl _) ?_
  · exact keep b o (fun z => ho (by rw [z]; exact List.mem_singleton.mpr rfl)) ((hs₁.2.1 b hb).trans e')
  · obtain ⟨sl, e2⟩ := hs₁.2.2 b o e'
    exact ⟨sl, keep b _ (fun z => ho (by rw [z]; exact List.mem_singleton.mpr rfl)) e2⟩
  · refine ⟨_, _, _, _, ?_, Obj.cls_mapFields _ _, (Obj.dict_mapFields _ _).trans hdi, hd₃, by simp [hsz], hTe, Heap.get?_update_self _ hT₃ (Obj.isFreed_of_fields (Obj.data_mapFields hrd _)), Obj.data_mapFields hrd _, by first | (simp; done) | (rcases hpl with rfl | ⟨_, _, _, _, _, _, _, rfl⟩ <;> simp)⟩
    rw [Heap.get?_update_other _ _ hTe]; exact he₃
/-- the frame in which it was raised -/
theorem leave_first {base : Heap} {env : Env} {outer : List Env} {L e : Addr} {oe : Obj} {vs : Array Value} {Q : Unit → Shared → Prop} (hfr : A.frames = some (env :: outer)) (hl : s.heap.FunFrames base (env :: outer)) (hf : env.frame = some L)
    (he : s.heap.get? e = some oe) (hdi : oe.dict = none) (hd : oe.data = .fields vs) (h1 : vs[1]? = some .none)
    (q : ∀ h' T, Heap.Gone (frsOf (env :: outer)) [e] s.heap h' → s.heap.get? T = none → s.heap.objs.size ≤ T → h'.Tr e oe.cls T → Q () { s with heap := h' }) : wpAny M A (leaving env (.ref e)) Q E s := by
  unfold leaving noteFrame
  simp only [hf]
  refine wpAny_bind (wpAny_bind (wpAny_field he hd h1 ?_))
  rw [if_neg (by decide)]
  exact leave_entry hfr hl hf he hdi hd (Array.getElem?_eq_some_iff.mp h1).1 q
/-- a frame that it passes -/
theorem note_next {base : Heap} {env : Env} {outer : List Env} {L e T : Addr} {cls : Value} {Q : Unit → Shared → Prop} (hfr : A.frames = some (env :: outer)) (hl : s.heap.FunFrames base (env :: outer)) (hf : env.frame = some L) (ht : s.heap.Tr e cls T)
    (q : ∀ h' T', Heap.Gone (frsOf (env :: outer)) [e, T] s.heap h' → s.heap.get? T' = none → s.heap.objs.size ≤ T' → h'.Tr e cls T' → Q () { s with heap := h' }) : wpAny M A (noteFrame (.ref e) env) (fun _ s' => wpAny M A (setFlight (.ref e) none) Q E s') E s := by
  obtain ⟨oe, vs, oT, ts, he, hcls, hdi, hd, h1, hTe, hT, hdT, h3⟩ := ht
  subst hcls
  unfold noteFrame
  simp only [hf]
  refine wpAny_bind (wpAny_field he hd h1 ?_)
  rw [if_pos (show (Value.ref T != Value.none) = true from by simp)]
  refine wpAny_bind (wpAny_field hT hdT h3 ?_)
  rw [if_neg (show ¬ ((Value.none == rawInt L) = true) from by simp [rawInt])]
  refine wpAny_bind (wpAny_setField hT hdT (Array.getElem?_eq_some_iff.mp h3).1 ?_)
  have other : ∀ b, b ≠ T → (s.heap.update T (Obj.mapFields (·.setIfInBounds 3 Value.none))).get? b = s.heap.get? b := fun b hb => Heap.get?_update_other _ _ (Ne.symm hb)
  have noRec : ∀ b o, s.heap.get? b = some o → (∀ vs, o.data ≠ .fields vs) → b ≠ T := fun b o hb hnf z => by
    rw [z, hT] at hb; injection hb with hb; subst hb; exact hnf ts hdT
  have hsz : (s.heap.update T (Obj.mapFields (·.setIfInBounds 3 Value.none))).objs.size = s.heap.objs.size := Heap.size_after_update ..
  refine leave_entry (s := { s with heap := s.heap.update T (Obj.mapFields (·.setIfInBounds 3 Value.none)) }) hfr (hl.of_keeps fun b o hb hnf => ⟨o, (other b (noRec b o hb hnf)).trans hb, rfl⟩) hf ((other e (Ne.symm hTe)).trans he) hdi hd (Array.getElem?_eq_some_iff.mp h1).1 fun h' T' g n le tr => ?_
  have le' : s.heap.objs.size ≤ T' := by rw [← hsz]; exact le
  refine q h' T' ⟨fun b o hb ho e' => ?_, fun b o hb ho e' => ?_⟩ (Heap.get?_none_of_le le') le' tr
  · have hbT : b ≠ T := fun z => ho (by simp [z])
    exact g.kept b o hb (fun z => ho (by simp [List.mem_singleton.mp z])) ((other b hbT).trans e')
  · have hbT : b ≠ T := fun z => ho (by simp [z])
    exact g.slot b o hb (fun z => ho (by simp [List.mem_singleton.mp z])) ((other b hbT).trans e')
end
end PySem

namespace L2
open PySem PySem.Spec PyProof.Rows
section
variable {P : Program} {w : World} {H H' : Hp} {h h' h1 h2 : Heap} {a : Addr} {o : HO} {fs own : List Addr}
theorem ObjOk.at (x : ObjOk P w H h a o) : ∃ u, h.get? a = some u := by
  cases o with
  | lst xs => obtain ⟨_, _, _, _, e⟩ := x; exact ⟨_, e⟩
  | tup xs => obtain ⟨_, _, _, ⟨_, e, _⟩⟩ := x; exact ⟨_, e⟩
  | dK kvs => obtain ⟨_, _, _, _, o, _, _, e, _⟩ := x; exact ⟨_, e⟩
  | dT kvs => obtain ⟨_, _, _, _, o, _, _, e, _⟩ := x; exact ⟨_, e⟩
  | set S n => obtain ⟨o, _, _, _, e, _⟩ := x; exact ⟨_, e⟩
  | ins C dx fs => obtain ⟨_, _, _, e, _⟩ := x; exact ⟨_, e⟩
  | own y => obtain ⟨_, e⟩ := x; exact ⟨_, e⟩
  | xd fs => obtain ⟨_, ⟨_, _, _, e, _⟩, _⟩ := x; exact ⟨_, e⟩
  | rng lo hi => obtain ⟨_, _, _, e⟩ := x; exact ⟨_, e⟩
  | frz ob u => obtain ⟨e, _⟩ := x; exact ⟨_, e⟩
  | tbl ps => exact ⟨_, (show h.get? a = some _ from x)⟩
  | met f y => exact ⟨_, (show h.get? a = some _ from x)⟩
  | ext φ => obtain ⟨_, ⟨_, e⟩, _⟩ := x; exact ⟨_, e⟩
theorem HOk.out (x : HOk P w H h) (e : h.get? a = none) : H a = none := by
  cases q : H a with
  | none => rfl
  | some u => obtain ⟨v, z⟩ := ObjOk.at (x a u q); rw [e] at z; cases z
theorem gone_un (u : Un fs [] H H' h h1) (g : Heap.Gone fs own h1 h2) (hn : ∀ b ∈ own, h.get? b = none) : Un fs [] H H' h h2 := by
  have no : ∀ b o, h.get? b = some o → b ∉ own := fun b o e z => by rw [hn b z] at e; cases e
  refine ⟨fun b o e n hf hx => g.kept b o hf (no b o e) (u.keep b o e n hf hx), fun b o e n hf hx => ?_, u.free, fun b o e hx => ?_, u.tups, u.frzs, u.tbls⟩
  · obtain ⟨sl, q⟩ := u.slot b o e n hf hx
    obtain ⟨sl', q'⟩ := g.slot b _ hf (no b o e) q
    exact ⟨sl', q'⟩
  · obtain ⟨o', q⟩ := u.there b o e hx
    by_cases hf : b ∈ fs
    · obtain ⟨sl', q'⟩ := g.slot b _ hf (no b o e) q
      exact ⟨_, q'⟩
    · exact ⟨_, g.kept b _ hf (no b o e) q⟩
theorem gone_hok (x : HOk P w H h) (g : Heap.Gone fs own h h2) (hf : ∀ b ∈ fs, H b = none) (ho : ∀ b ∈ own, H b = none) : HOk P w H h2 := fun b u e => by
  refine (x b u e).stay (fun c v hc q => ?_) (fun _ q => q) fun _ _ q => q
  have hs : ∃ z, H c = some z := by
    rcases hc with z | z
    · rw [z]; exact ⟨_, e⟩
    · exact ⟨_, z⟩
  obtain ⟨z, hz⟩ := hs
  exact g.kept c v (fun m => by rw [hf c m] at hz; cases hz) (fun m => by rw [ho c m] at hz; cases hz) q
end

/-- an exception behind a call: new, of an own class, not tracked, the heap's change known -/
def CX1 (P : Program) (w : World) : CXT := fun outer H s E e s' => ∃ ea T C H', e = .ref ea ∧ s'.os = s.os ∧ AllBare s'.gens ∧ Un (frs outer) [] H H' s.heap s'.heap ∧ HOk P w H' s'.heap ∧ H' ea = none ∧ H' T = none ∧
  s.heap.get? ea = none ∧ s.heap.get? T = none ∧ s'.heap.Tr ea (.ref C) T ∧ E (.ref C) none H'
/-- a new exception may leave -/
def Lets (X : Cx) (E : XK) : Prop := ∀ (pins : List (Addr × Obj)) (σ : St) (H : Hp) (s : Shared) (h' : Heap) (e C : Addr) (args : List Value), Inv X pins σ H s → Heap.MadeExcOf s.heap h' e (.ref C) args → E (.ref C) none H → X.xe (.ref e) { s with heap := h' }
section
variable {P : Program} {w : World} {K : PySem.W.Frag} {mg : Str → Option Value} {base : Heap} {N : List Str} {qual : Str} {scope : Scope} {f : Addr} {cd : Value} {A : Around} {outer : List Env} {s : Shared} {H : Hp} {E : XK}
theorem lets1 : Lets (cxOf (CX1 P w) P w K mg base N qual scope f cd A outer s H E) E := by
  intro pins σ H1 s1 h' e C args I hm hE
  obtain ⟨t, ho, _, _⟩ := hm.there
  have I1 : Inv (cxOf (CX1 P w) P w K mg base N qual scope f cd A outer s H E) pins σ H1 { s1 with heap := h' } := I.kept (t' := s1.toks) hm.keeps
  show wpAny _ _ (leaving _ _) _ _ _
  refine leave_first (s := { s1 with heap := h' }) I.ok.frames I1.stack rfl ho rfl rfl (by simp) fun h2 T g nT _ tr => ?_
  have He : H1 e = none := I.hok.out hm.new
  have HT : H1 T = none := I1.hok.out nT
  have un : Un (frs (cxOf (CX1 P w) P w K mg base N qual scope f cd A outer s H E).stack) [] H1 H1 s1.heap h2 := gone_un (Un.kept hm.keeps) g (fun b hb => by rw [List.mem_singleton.mp hb]; exact hm.new)
  have hk : HOk P w H1 h2 := gone_hok I1.hok g I1.stkFree (fun b hb => by rw [List.mem_singleton.mp hb]; exact He)
  have I2 : Inv (cxOf (CX1 P w) P w K mg base N qual scope f cd A outer s H E) pins σ H1 { s1 with heap := h2 } := I.call (g' := s1.gens) (t' := s1.toks) (d' := s1.drawn) (ch := []) un hk I.bare (fun b z => absurd z (by simp))
  have back : ∀ b, s1.heap.get? b = none → s.heap.get? b = none := fun b hb => by
    cases q : s.heap.get? b with
    | none => rfl
    | some o =>
      obtain ⟨o', z⟩ := I.base.there b o q (by show b ∉ []; simp)
      rw [hb] at z; cases z
  have nT1 : s1.heap.get? T = none := by
    cases q : s1.heap.get? T with
    | none => rfl
    | some o => have z := hm.keeps T o q; rw [show h'.get? T = none from nT] at z; cases z
  exact ⟨e, T, C, H1, rfl, I.os, I.bare, I2.base, hk, He, HT, back e hm.new, back T nT1, tr, hE⟩
end
/-- THE RULE for a def out of which an exception may come -/
theorem Fun.ok1 {P : Program} {w : World} {K : PySem.W.Frag} {mg : Str → Option Value} {base : Heap} {x qual : Str} {st : Stmt} {f : Addr} {fd : FuncData} {N ps : List Str} {k : Nat} {sp : Sp} (F : Fun K x qual st f fd) (S : FnScope N ps (defScope st)) (len : ∀ vs H Q E, sp vs H Q E → vs.length = ps.length)
    (hbody : ∀ (cdv : Value) (A : Around) (outer : List Env) (s : Shared) (H : Hp) (vs : List V) (Q : VK) (E : XK), Room k (A.deeper (envOfC qual (defScope st) s.heap.objs.size f cdv)) → sp vs H Q E →
      ∃ t, PSs (cxOf (CX1 P w) P w K mg base N qual (defScope st) f cdv A outer s H E) (defBody st) t ∧ t { nx := fun _ H' => Q .non H', rt := Q } (start N vs) H) : FnOk P w K mg base (CX1 P w) (k + 1) f fd ps sp := by
  obtain ⟨oc, od, kV, doc, pm, an, cdv, ct, osl, rfl, lk, hcd⟩ := F.ex
  exact fn_of lk hcd S len fun A outer s H vs Q E hr hsp => hbody cdv A outer s H vs Q E hr hsp
end L2

set_option maxRecDepth 100000
namespace L2
open PySem PySem.Spec PyProof.Rows
abbrev vErr : List Value := [.type "ValueError", .type "Exception", .type "BaseException", .type "object"]
abbrev OwnExc (K : PySem.W.Frag) (C : Addr) : Prop := PySem.W.excIn K C vErr "ValueError.__new__" = true
theorem exc_at {K : PySem.W.Frag} {h : Heap} {C : Addr} (X : K.In h) (q : OwnExc K C) : ∃ bm N nm qn bs hdct sn sub ab col dd k0 k1 k2 k3 k5 mN,
    h.get? C = some (excClassObj nm qn C N bs bm hdct sn sub ab col dd k0 k1 k2 k3 k5 "ValueError.__new__") ∧ h.Ns N mN ∧ mN "__init__" = none ∧ OwnTail h vErr bm := by
  unfold OwnExc PySem.W.excIn at q
  split at q
  · rename_i dd cd sl ho
    split at q
    · rename_i C' bm k0 k1 k2 k3 n k5 hm hs
      simp only [Bool.and_eq_true, beq_iff_eq, Bool.not_eq_true'] at q
      obtain ⟨⟨⟨⟨⟨rfl, rfl⟩, hdel⟩, ht⟩, hok⟩, hni⟩ := q
      obtain ⟨nm, bs, mro, ns, qn, hd, sn, sub, ab, col, del⟩ := cd
      dsimp only at hm hdel hok hni
      subst hm hdel
      have hsl : sl = #[k0, k1, k2, k3, some (.builtin "ValueError.__new__"), k5] := by
        obtain ⟨l⟩ := sl
        simp only at hs
        rw [hs]
      subst hsl
      exact ⟨bm, ns, nm, qn, bs, hd, sn, sub, ab, col, dd, k0, k1, k2, k3, k5, _, X _ _ ho, .of_isNs (PySem.W.isNs_of_in X hok), PySem.W.nsMap_none_of_in X hok hni, PySem.W.tail_of_in X ht⟩
    · cases q
  · cases q

section
variable {X : Cx} {E : XK} {C : Addr} {x : Str} {np cpos pos : Pos} {e : Expr} {es : List Expr} {t : TA}
/-- raise C(e, ..) -/
def tRaise (C : Addr) (E : XK) (t : TA) : TS := fun _ σ H => t σ H fun vs H1 => vs.length ≤ 9 ∧ E (.ref C) none H1
theorem ps_raise (hc : X.calm = true) (hl : Lets X E) (q : OwnExc X.K C) (hg : Gl X x) (hm : X.mg x = some (.ref C)) (ha : PA X (e :: es) t) (hdb : (x == ("__debug__" : Str)) = false := by decide)
    (he : starEach (e :: es) X.env = (false, eval e X.env) :: starEach es X.env := by rfl) (hpl : (backTo cpos (starEach es X.env)).any (·.1) = false := by rfl) :
    PS X (.Raise (some (.Call (.Name x np) (e :: es) [] cpos)) none pos) (tRaise C E t) := by
  intro pins s σ H D I h
  obtain ⟨tl, N, nm, qn, bs, hdct, sn, sub, ab, col, dd, k0, k1, k2, k3, k5, mN, hC, hN, hni, T⟩ := exc_at I.mod.kin q
  have F := PySem.F.excBase_ValueError
  refine wpAny_Raise_call_subU (C := C) (nm := nm) (q := qn) (N := N) (bs := bs) (bm := tl) (hdct := hdct) (sn := sn) (sub := sub) (ab := ab) (col := col) (dd := dd) (k0 := k0) (k1 := k1) (k2 := k2) (k3 := k3) (k5 := k5)
    F F.hasB F (mN := mN) (T.hasType F.hasBase) (I.ok.hd hc) (by rw [he]; show (false || (backTo cpos (starEach es X.env)).any (·.1)) = false; rw [hpl]; rfl) hni (ld_glob I hg hm ⟨rfl, ?_⟩ hdb)
  have h2 := ha cpos pins s σ H _ I h
  rw [he] at h2 ⊢
  refine Calls.evalArgs_plain (wpAny_mono h2 (fun vs s2 h3 => ?_) fun _ _ y => y)
  obtain ⟨us, H2, I2, r, hlen, hE⟩ := h3
  refine ⟨rfl, ?_, I2.bk _ _ hC, hN.keeps I2.bk, T.keeps I2.bk, fun h' e hm => hl pins σ H2 s2 h' e C vs I2 hm hE⟩
  show vs.length ≤ sizeLine
  rw [← r.length]; exact Nat.le_trans hlen (by decide)
end

def XP (X : Cx) (pins : List (Addr × Obj)) (σ : St) (E : XK) (e : Value) (s' : Shared) : Prop := ∃ s1 H1, Inv X pins σ H1 s1 ∧ CX1 X.prog X.w X.stack H1 s1 E e s'
abbrev TEx := St → Hp → VK → XK → Prop
def PEx (X : Cx) (e : Expr) (t : TEx) : Prop := ∀ (pins : List (Addr × Obj)) (s : Shared) (σ : St) (H : Hp) (Q : VK) (E : XK), Inv X pins σ H s → t σ H Q E → wpAny (model X.prog X.w) X.A (eval e X.env) (EP X pins σ Q) (XP X pins σ E) s
section
variable {X : Cx} {k : Nat} {f C : Addr} {fd : FuncData} {ps : List Str} {sp : Sp} {dvs : List V} {ds : List Value} {x m : Str} {p pos apos : Pos} {e o : Expr} {es : List Expr} {ta : TE} {t : TA}
theorem run_fnx {pins : List (Addr × Obj)} {σ : St} {H : Hp} {s : Shared} {Q : VK} {E : XK} {us : List Value} {vs : List V} (F : FnOk X.prog X.w X.K X.mg X.base (CX1 X.prog X.w) k f fd ps sp) (hr : Room k X.A) (hb : Binds X.K fd ps ds) (hd : Vals dvs ds)
    (I : Inv X pins σ H s) (r : Vals vs us) (h : sp (vs ++ dvs) H Q E) : wpAny (model X.prog X.w) X.A (call (.ref f) us) (EP X pins σ Q) (XP X pins σ E) s := by
  have r2 : Vals (vs ++ dvs) (us ++ ds) := r.append hd
  have hl : (us ++ ds).length = ps.length := by rw [← r2.length]; exact F.len _ _ _ _ h
  refine wpAny_call (codeAny_mono (F.run X.A X.stack s H ⟨us, []⟩ (us ++ ds) (vs ++ dvs) Q E hr I.env0 (hb s us I.kIn hl) r2 h) fun r s' hq => ?_)
  cases r with
  | error e => exact ⟨s, H, I, hq⟩
  | ok fl =>
    cases fl with
    | ret u => exact I.after hq
    | next => exact False.elim hq
    | brk => exact False.elim hq
    | cont => exact False.elim hq
end

/-- an exception that is caught: as it lies -/
structure Caught (X : Cx) (pins : List (Addr × Obj)) (σ : St) (H : Hp) (s : Shared) (ea T C : Addr) : Prop where
  inv : Inv X pins σ H s
  from_ : ∃ s1 H1, Inv X pins σ H1 s1 ∧ s.os = s1.os ∧ Un (frs X.stack) [] H1 H s1.heap s.heap ∧ s1.heap.get? ea = none ∧ s1.heap.get? T = none
  he : H ea = none
  hT : H T = none
  tr : s.heap.Tr ea (.ref C) T
section
variable {X : Cx} {pins : List (Addr × Obj)} {σ : St} {H : Hp} {s : Shared} {ea T T' C : Addr} {h' : Heap}
theorem Inv.new (I : Inv X pins σ H s) {b : Addr} (n : s.heap.get? b = none) : b ≠ X.env.locals ∧ b ∉ X.fs ∧ ∀ p ∈ X.pn ++ pins, p.1 ≠ b := by
  refine ⟨fun z => ?_, fun z => ?_, fun p hp z => ?_⟩
  · obtain ⟨m, ⟨o, es, ep, ho, _⟩, _⟩ := I.loc
    rw [z, ho] at n; cases n
  · obtain ⟨_, o, ho, _⟩ := I.funs.mem z
    rw [n] at ho; cases ho
  · have q := (I.pin p hp).1
    rw [z, n] at q; cases q
/-- its records have turned -/
theorem Caught.gone (c : Caught X pins σ H s ea T C) (g : Heap.Gone (frs X.stack) [ea, T] s.heap h') (hn : T' = T ∨ s.heap.get? T' = none) (tr : h'.Tr ea (.ref C) T') : Caught X pins σ H { s with heap := h' } ea T' C := by
  obtain ⟨s1, H1, I1, os, un, ne, nT⟩ := c.from_
  have un2 := gone_un un g (fun b hb => by
    rcases List.mem_cons.mp hb with z | z
    · rw [z]; exact ne
    · rw [List.mem_singleton.mp z]; exact nT)
  have hk : HOk X.prog X.w H h' := gone_hok c.inv.hok g c.inv.stkFree (fun b hb => by
    rcases List.mem_cons.mp hb with z | z
    · rw [z]; exact c.he
    · rw [List.mem_singleton.mp z]; exact c.hT)
  have nT' : s1.heap.get? T' = none := by
    rcases hn with z | z
    · rw [z]; exact nT
    · cases q : s1.heap.get? T' with
      | none => rfl
      | some o =>
        obtain ⟨o', q'⟩ := un.there T' o q (by simp)
        rw [z] at q'; cases q'
  refine ⟨I1.call' (s' := { s with heap := h' }) (ch := []) os un2 hk c.inv.bare (fun b z => absurd z (by simp)), ⟨s1, H1, I1, os, un2, ne, nT'⟩, c.he, ?_, tr⟩
  rcases hn with z | z
  · rw [z]; exact c.hT
  · exact c.inv.hok.out z
theorem caught_flight {M : Model} {A : Around} {E : Value → Shared → Prop} {Q : Unit → Shared → Prop} (c : Caught X pins σ H s ea T C) (q : ∀ h', Caught X pins σ H { s with heap := h' } ea T C → Q () { s with heap := h' }) : wpAny M A (setFlight (.ref ea) none) Q E s := by
  obtain ⟨oe, vs, oT, ts, he, hcls, hdi, hd, h1, hTe, hT, hdT, h3⟩ := id c.tr
  refine wpAny_setFlight_none he hd h1 hT hdT (Array.getElem?_eq_some_iff.mp h3).1 (q _ ?_)
  have other : ∀ b, b ≠ T → (s.heap.update T (Obj.mapFields (·.setIfInBounds 3 Value.none))).get? b = s.heap.get? b := fun b hb => Heap.get?_update_other _ _ (Ne.symm hb)
  have hd' := Obj.data_mapFields hdT (·.setIfInBounds 3 Value.none)
  refine c.gone ⟨fun b o hf ho e => (other b fun z => ho (by simp [z])).trans e, fun b o hf ho e => ⟨o.slots, (other b fun z => ho (by simp [z])).trans e⟩⟩ (.inl rfl)
    ⟨oe, vs, _, _, (other ea (Ne.symm hTe)).trans he, hcls, hdi, hd, h1, hTe, Heap.get?_update_self _ hT (Obj.isFreed_of_fields hd'), hd', ?_⟩
  simp [(Array.getElem?_eq_some_iff.mp h3).1]
/-- it is noted in the frame of the try -/
theorem caught_note {M : Model} {E : Value → Shared → Prop} {Q : Unit → Shared → Prop} {EX : XK} {e : Value} (hst : X.stack = X.env :: X.outer) (hf : X.env.frame = some X.env.locals) (h : XP X pins σ EX e s)
    (q : ∀ ea T C H' h', e = .ref ea → EX (.ref C) none H' → Caught X pins σ H' { s with heap := h' } ea T C → Q () { s with heap := h' }) :
    wpAny M X.A (noteFrame e X.env) (fun _ s' => wpAny M X.A (setFlight e none) Q E s') E s := by
  obtain ⟨s1, H1, I1, ea, T, C, H2, rfl, os, bare, un, hok, He, HT, ne, nT, tr, hE⟩ := h
  have I2 : Inv X pins σ H2 s := I1.call' (ch := []) os un hok bare (fun b z => absurd z (by simp))
  have c : Caught X pins σ H2 s ea T C := ⟨I2, ⟨s1, H1, I1, os, un, ne, nT⟩, He, HT, tr⟩
  refine note_next (base := X.base) (env := X.env) (outer := X.outer) (by rw [I2.ok.frames, hst]) (by have := I2.stack; rwa [hst] at this) hf tr fun h3 T' g nT' _ tr' => q ea T' C H2 h3 rfl hE (c.gone (T' := T') ?_ (.inr nT') tr')
  rw [hst]; exact g
end

abbrev TSx := Ends → (St → XK) → St → Hp → Prop
def PSx (X : Cx) (b : List Stmt) (t : TSx) : Prop := ∀ (pins : List (Addr × Obj)) (s : Shared) (σ : St) (H : Hp) (D : Ends) (E : St → XK), Inv X pins σ H s → t D E σ H → wpAny (model X.prog X.w) X.A (execs b X.env) (SP X pins D) (fun e s' => ∃ σ', XP X pins σ' (E σ') e s') s
/-- handlers: an exception of class C is caught -/
def PH (X : Cx) (hs : List ExceptHandler) (t : Addr → TS) : Prop := ∀ (pins : List (Addr × Obj)) (s : Shared) (σ : St) (H : Hp) (D : Ends) (ea T C : Addr), Caught X pins σ H s ea T C → t C D σ H → wpAny (model X.prog X.w) X.A (handleBy (.ref ea) X.env hs) (SP X pins D) X.xe s
def tTry (tb : TSx) (th : Addr → TS) : TS := fun D σ H => tb D (fun σ' v _ H' => ∃ C, v = .ref C ∧ th C D σ' H') σ H
section
variable {X : Cx} {b : List Stmt} {h₀ : ExceptHandler} {hs : List ExceptHandler} {tb : TSx} {th : Addr → TS} {pos : Pos} {e : Expr} {te : TEx}
theorem ps_try (hb : PSx X b tb) (hh : PH X (h₀ :: hs) th) (hst : X.stack = X.env :: X.outer := by rfl) (hf : X.env.frame = some X.env.locals := by rfl) : PS X (.Try b (h₀ :: hs) [] [] pos) (tTry tb th) := by
  intro pins s σ H D I h
  refine wpAny_Try_except (wpAny_mono (hb pins s σ H D _ I h) (fun fl s1 h1 => ?_) fun e s1 h1 => ?_)
  · cases fl with
    | next => exact wpAny_execs_nil h1
    | brk => exact h1
    | cont => exact h1
    | ret u => exact h1
  · obtain ⟨σ', hx⟩ := h1
    refine caught_note hst hf hx fun ea T C H' h' e1 hE c => ?_
    subst e1
    obtain ⟨C', hC, ht⟩ := hE
    cases hC
    exact hh pins _ σ' H' D ea T C c ht
theorem psx_expr {pos : Pos} (he : PEx X e te) (hs : swapsWith e none pos.line X.env = pure false := by rfl) : PSx X [.Expr e pos] (fun D E σ H => te σ H (fun _ H' => D.nx σ H') (E σ)) := by
  intro pins s σ H D E I h
  refine wpAny_execs_cons (wpAny_Expr_any (wpAny_mono (he pins s σ H _ _ I h) (fun u s1 h1 => ?_) fun e s1 h1 => ⟨σ, h1⟩) I.quiet hs)
  obtain ⟨v, H', I', r, q⟩ := h1
  exact wpAny_execs_nil ⟨σ, H', I', q⟩
end
end L2

set_option maxRecDepth 100000
namespace L2
open PySem PySem.Spec PyProof.Rows
/-- what the fragment says of a class of exceptions -/
structure ExcK (K : PySem.W.Frag) (C : Addr) : Prop where
  own : OwnExc K C
  cl : (PySem.W.clsIn K C).isSome = true
  ga : PySem.W.findIn K (.ref C) "__getattribute__" = some (some (.builtin "BaseException.__getattribute__"))
  gb : PySem.W.findIn K (.ref C) "__getattr__" = some none
  cc : PySem.W.findIn K (.ref C) "__class__" = some (some (.builtin "object.__class__"))
  mb : PySem.W.mroIn K C (.type "BaseException") = some true
  mo : PySem.W.mroIn K C (.type "object") = some true
section
variable {prog : Program} {w : World} {A : Around} {E : Value → Shared → Prop} {h : Heap} {g : Array GenState} {d : Drawn} {t : Nat} {os : OsState} {a C : Addr} {o : Obj} {K : PySem.W.Frag}
theorem exc_check {M : Model} {nameV : Value} {Q : Unit → Shared → Prop} (X : K.In h) (c : ExcK K C) (I : PySem.W.InstAt h a o C none) (hq : Q () ⟨h, g, d, t, os⟩) : wpAny M A (checkBuiltinCall "BaseException.__getattribute__" ⟨[.ref a, nameV], []⟩) Q E ⟨h, g, d, t, os⟩ := by
  have hk : builtinKind "BaseException.__getattribute__" = some .slot := by decide +kernel
  have hsplit : splitId "BaseException.__getattribute__" = some ("BaseException", "__getattribute__") := by decide +kernel
  have ha := F.args_bexc_ga (.ref a) nameV
  have L0 := I.type (M := M)
  have L1 := PySem.W.looks_mroIn (M := M) X c.mb
  simp only [checkBuiltinCall, hk, hsplit]
  refine wpAny_bind ?_
  · unfold isInstance
    repeat (first | with_reducible refine L0.at ?_ | with_reducible refine L1.at ?_ | wp_step)
    exact hq
theorem exc_entry {tk : Tok} {Q : Fin → Shared → Prop} (X : K.In h) (c : ExcK K C) (I : PySem.W.InstAt h a o C none) (hq : Q (.done (.ret (.ref C))) ⟨h, g, d, t, os⟩) :
    wpAny (model prog w) A (Builtin.«object.__getattribute__» ⟨[.ref a, .str "__class__" tk], []⟩) Q E ⟨h, g, d, t, os⟩ := by
  have hT5 : (⟨h, g, d, t, os⟩ : Shared).TypeIs (.builtin "object.__class__") "getset_descriptor" := F.typeOf_object_class
  have f5 := F.typeOf_object_class
  have f6 := F.slot_gs_get.lookup
  have f7 := F.slot_gs_set.lookup
  have L0 := I.type (M := model prog w)
  have L1 := PySem.W.looks_findIn (M := model prog w) X c.cc
  repeat (any_goals (first | assumption | with_reducible refine L0.at ?_ | with_reducible refine L1.at ?_ | wp_step))
  refine PySem.W.class_get (s := ⟨h, g, d, t, os⟩) X I c.mo ?_
  repeat (any_goals (first | assumption | wp_step))
theorem exc_by {tk : Tok} {Q : Value → Shared → Prop} (X : K.In h) (c : ExcK K C) (I : PySem.W.InstAt h a o C none) (hq : Q (.ref C) ⟨h, g, d, t, os⟩) : wpAny (model prog w) A (getAttrBy (.ref a) (.str "__class__" tk) false) Q E ⟨h, g, d, t, os⟩ := by
  have f3 := PySem.F.attr_ValueError.ga.bind (.ref a)
  have hx2 : (Value.builtin "BaseException.__getattribute__" == Value.builtin "object.__getattribute__") = false := by decide +kernel
  have hx1 : (onTheHeap (Value.ref C) && Value.builtin "BaseException.__getattribute__" == Value.builtin "object.__getattribute__") = false := by rw [hx2]; rfl
  have L0 := I.type (M := model prog w)
  have L1 := PySem.W.looks_findIn (M := model prog w) X c.ga
  have L2 := PySem.W.looks_findIn (M := model prog w) X c.gb
  repeat (any_goals (first | assumption | with_reducible refine L0.at ?_ | with_reducible refine L1.at ?_ | with_reducible refine L2.at ?_ | wp_step))
  refine codeAny_call_builtin PySem.F.attr_ValueError.ga.plain F.entry_bexc_ga (exc_check X c I (exc_entry X c I ?_))
  repeat (any_goals (first | assumption | wp_step))
theorem exc_class {Q : Option Value → Shared → Prop} (X : K.In h) (c : ExcK K C) (I : PySem.W.InstAt h a o C none) (hq : Q (some (.ref C)) ⟨h, g, d, t + 1, os⟩) : wpAny (model prog w) A (getAttr? (.ref a) "__class__") Q E ⟨h, g, d, t, os⟩ := by
  unfold getAttr? getAttrBy?
  repeat (any_goals (first | assumption | with_reducible apply exc_by X c I | wp_step))
theorem kitx_exc (c : ExcK K C) : PySem.W.KitX K (.ref a) (.ref C) (fun h => ∃ o, PySem.W.InstAt h a o C none) where
  ty := fun _ _ _ ⟨_, I⟩ => I.type
  it := fun _ _ X _ => by
    have hcD := c.cl
    unfold PySem.W.clsIn at hcD
    split at hcD
    · rename_i c' d' cd' sl' ho
      intro A' Q' E' s' k q
      unfold isType loadHead
      exact wpAny_bind (wpAny_loadPart (k _ _ (X _ _ ho)) (wpAny_pure q))
    · cases hcD
  ne := fun h tp dd its n sl X htp => by
    have hcD := c.cl
    refine Bool.eq_false_iff.mpr fun q => ?_
    have e : C = tp := Value.ref.inj (beq_iff_eq.mp q)
    subst e
    unfold PySem.W.clsIn at hcD
    split at hcD
    · rename_i c' d' cd' sl' ho
      have z := (X _ _ ho).symm.trans htp
      cases z
    · cases hcD
  ca := fun {_ _ _ _ _ s} X ⟨_, I⟩ k => by obtain ⟨h, g, d, t, os⟩ := s; exact exc_class X c I k
theorem exc_matches {M : Model} {C' : Addr} {b : Bool} {Q : Bool → Shared → Prop} (X : K.In h) (I : PySem.W.InstAt h a o C none) (ty : PySem.W.typeIn K (.ref C') = some (.type "type")) (cl : (PySem.W.clsIn K C').isSome = true) (mb : PySem.W.mroIn K C' (.type "BaseException") = some true) (e : PySem.W.mroIn K C (.ref C') = some b)
    (hq : Q b ⟨h, g, d, t, os⟩) : wpAny M A (excMatches (.ref a) (.ref C')) Q E ⟨h, g, d, t, os⟩ := by
  have f := tc_notTuple
  have L0 := I.type (M := M)
  have L1 := PySem.W.looks_typeIn (M := M) X ty
  have L2 := PySem.W.looks_mroIn (M := M) X mb
  have L3 := PySem.W.looks_mroIn (M := M) X e
  have L4 : PySem.W.Looks M h (isType (.ref C')) true := by
    unfold PySem.W.clsIn at cl
    split at cl
    · rename_i c' d' cd' sl' ho
      intro A' Q' E' s' k q
      unfold isType loadHead
      exact wpAny_bind (wpAny_loadPart (k _ _ (X _ _ ho)) (wpAny_pure q))
    · cases cl
  unfold excMatches isInstance isExcClass
  repeat (first | with_reducible refine L0.at ?_ | with_reducible refine L1.at ?_ | with_reducible refine L2.at ?_ | with_reducible refine L3.at ?_ | with_reducible refine L4.at ?_ | wp_step)
  cases b <;> first | exact hq | (wp_walk; exact hq) | skip
end

abbrev Cx.hand (X : Cx) (ea : Addr) (pn' : List (Addr × Obj)) : Cx := { X with A := X.A.mark (some (.ref ea)), calm := false, pn := pn', xe := fun _ _ => False }
section
variable {X : Cx} {pins l : List (Addr × Obj)} {σ : St} {H : Hp} {s : Shared} {ea T C : Addr} {h' : Heap} {oe : Obj}
theorem Caught.inst (c : Caught X pins σ H s ea T C) : ∃ oe, PySem.W.InstAt s.heap ea oe C none ∧ ∀ v, oe.data ≠ .cell v := by
  obtain ⟨oe, vs, oT, ts, he, hcls, hdi, hd, _⟩ := c.tr
  refine ⟨oe, ⟨he, hcls, ?_, ?_⟩, fun v z => ?_⟩
  · unfold PySem.W.notCls; rw [hd]
  · rw [hdi]; trivial
  · rw [hd] at z; cases z
theorem Cx.Ok.hand (ok : X.Ok) (pn' : List (Addr × Obj)) : (X.hand ea pn').Ok :=
  ⟨ok.mod, ok.kind, ok.glob, ok.blt, ok.above, ok.inj, ok.has, ok.cab, fun z => Bool.noConfusion z, ok.frames, ok.stk, ok.exf, ok.bs, ok.bsz, ok.noex, ok.exfs, ok.funs, ok.frf⟩
theorem Caught.hand (c : Caught X pins σ H s ea T C) (I : PySem.W.InstAt s.heap ea oe C none) (nc : ∀ v, oe.data ≠ .cell v) : Inv (X.hand ea (X.pn ++ pins ++ [(ea, oe)])) [] σ H s := by
  have J := c.inv
  refine ⟨J.ok.hand _, J.os, J.bare, J.base, J.loc, J.cell, J.free, J.freeC, fun p hp => ?_, J.hok, J.len⟩
  have hp' : p ∈ X.pn ++ pins ∨ p = (ea, oe) := by
    rcases List.mem_append.mp hp with z | z
    · rcases List.mem_append.mp z with z | z
      · exact .inl z
      · exact .inr (List.mem_singleton.mp z)
    · cases z
  rcases hp' with z | z
  · exact J.pin p z
  · subst z
    obtain ⟨s1, H1, I1, _, _, ne, _⟩ := c.from_
    obtain ⟨n1, n2, _⟩ := I1.new ne
    exact ⟨I.at_, c.he, n1, n2, nc⟩
theorem Inv.unhand (ok : X.Ok) (J : Inv (X.hand ea (X.pn ++ pins ++ l)) [] σ H s) : Inv X pins σ H s :=
  ⟨ok, J.os, J.bare, J.base, J.loc, J.cell, J.free, J.freeC, fun p hp => J.pin p (List.mem_append_left _ (List.mem_append_left _ hp)), J.hok, J.len⟩
theorem SP.unhand {D : Ends} {f : Flow} {s' : Shared} (ok : X.Ok) (h : SP (X.hand ea (X.pn ++ pins ++ l)) [] D f s') : SP X pins D f s' := by
  cases f with
  | next => obtain ⟨σ', H', I, q⟩ := h; exact ⟨σ', H', I.unhand ok, q⟩
  | brk => obtain ⟨σ', H', I, q⟩ := h; exact ⟨σ', H', I.unhand ok, q⟩
  | cont => obtain ⟨σ', H', I, q⟩ := h; exact ⟨σ', H', I.unhand ok, q⟩
  | ret u => obtain ⟨v, σ', H', I, r, q⟩ := h; exact ⟨v, σ', H', I.unhand ok, r, q⟩
/-- the local names are forgotten -/
theorem Inv.forgot {t' : Nat} {m' : Str → Option Value} (I : Inv X pins σ H s) (hn' : h'.Ns X.env.locals m') (hs : Heap.SameBut X.env.locals s.heap h') : Inv X pins (List.replicate X.N.length none) H { s with heap := h', toks := t' } := by
  obtain ⟨m, hn, hl⟩ := id I.loc
  obtain ⟨oL, _, _, hoL, _⟩ := id hn
  have hok : HOk X.prog X.w H h' := fun b ob e => by
    refine (I.hok b ob e).stay (fun c w' hc q => (hs.2 c ?_).trans q) (fun _ q => q) fun _ _ q => q
    rintro rfl
    have hfree := I.free
    rcases hc with z | hc
    · rw [← z, hfree] at e; cases e
    · rw [hfree] at hc; cases hc
  refine ⟨I.ok, I.os, I.bare, ⟨fun b o e n hb hx => ?_, fun b o e n hb hx => ?_, I.base.free, fun b o e hx => ?_, I.base.tups, I.base.frzs, I.base.tbls⟩, ⟨m', hn', fun j y v' e1 e2 e3 => ?_⟩, fun y c e => ?_, I.free, I.freeC, fun p hp => ?_, hok, by simp⟩
  · exact (hs.2 b (Nat.ne_of_lt (Nat.lt_of_lt_of_le (Heap.lt_size e) I.ok.above))).trans (I.base.keep b o e n hb hx)
  · obtain ⟨sl, e1⟩ := I.base.slot b o e n hb hx
    exact ⟨sl, (hs.2 b (Nat.ne_of_lt (Nat.lt_of_lt_of_le (Heap.lt_size e) I.ok.above))).trans e1⟩
  · obtain ⟨o', e1⟩ := I.base.there b o e hx
    exact ⟨o', (hs.2 b (Nat.ne_of_lt (Nat.lt_of_lt_of_le (Heap.lt_size e) I.ok.above))).trans e1⟩
  · rw [List.getElem?_replicate] at e2
    split at e2 <;> cases e2
  · obtain ⟨w', o, ho, hd⟩ := I.cell y c e
    exact ⟨w', o, (hs.2 c (I.cne y c e)).trans ho, hd⟩
  · obtain ⟨e, n, ne, nf, d⟩ := I.pin p hp
    exact ⟨(hs.2 p.1 ne).trans e, n, ne, nf, d⟩
end

/-- a class by its name in an except clause -/
structure Clause (X : Cx) (N : Str) (C' : Addr) : Prop where
  gl : Gl X N
  mg : X.mg N = some (.ref C')
  ty : PySem.W.typeIn X.K (.ref C') = some (.type "type")
  cl : (PySem.W.clsIn X.K C').isSome = true
  mb : PySem.W.mroIn X.K C' (.type "BaseException") = some true
  db : (N == ("__debug__" : Str)) = false
def tHand (K : PySem.W.Frag) (C' : Addr) (ts tr : Addr → TS) : Addr → TS := fun C D σ H => ∃ b, PySem.W.mroIn K C (.ref C') = some b ∧ (b = true → ts C D σ H) ∧ (b = false → tr C D σ H)
section
variable {X : Cx} {N : Str} {C' : Addr} {np pos : Pos} {b₀ : Stmt} {suite : List Stmt} {rest : List ExceptHandler} {ts tr : Addr → TS}
theorem ph_nil : PH X [] (fun _ _ _ _ => False) := fun _ _ _ _ _ _ _ _ _ z => False.elim z
/-- except N: suite -/
theorem ph_exc (cn : Clause X N C') (hs : ∀ ea oe C pn', (ea, oe) ∈ pn' → oe.cls = .ref C → PSs (X.hand ea pn') (b₀ :: suite) (ts C)) (hr : PH X rest tr) :
    PH X (.ExceptHandler (some (.Name N np)) none (b₀ :: suite) pos :: rest) (tHand X.K C' ts tr) := by
  intro pins s σ H D ea T C c h
  obtain ⟨b, eb, h1, h2⟩ := h
  obtain ⟨oe, IA, nc⟩ := c.inst
  have J := c.hand IA nc
  refine wpAny_handleBy_cons (codeAny_handlers_test (ld_glob (X := X.hand ea (X.pn ++ pins ++ [(ea, oe)])) J cn.gl cn.mg ?_ cn.db)) (by intro q; cases q)
  obtain ⟨hp, g, d, t, os⟩ := s
  refine exc_matches c.inv.kIn IA cn.ty cn.cl cn.mb eb ?_
  cases b with
  | false => exact hr pins _ σ H D ea T C c (h2 rfl)
  | true =>
    refine codeAny_handlers_suite (caught_flight c fun h' c' => ?_)
    obtain ⟨oe', IA', nc'⟩ := c'.inst
    refine wpAny_mono (hs ea oe' C _ (List.mem_append_right _ (List.mem_singleton.mpr rfl)) IA'.cls [] _ σ H D (c'.hand IA' nc') (h1 rfl)) (fun f s2 q => q.unhand c.inv.ok) fun _ _ z => False.elim z
end
/-- isinstance of the exception that is caught -/
def rIsiX (K : PySem.W.Frag) (ea C : Addr) : List V → Hp → VK → Prop := fun xs H Q => ∃ b, ((∃ n, xs = [.ref ea, .ty n] ∧ PySem.W.kitOne K (.ref C) (.type n) = some b) ∨ (∃ c, xs = [.ref ea, .ref c] ∧ PySem.W.kitOne K (.ref C) (.ref c) = some b) ∨
  (∃ c vs, xs = [.ref ea, .ref c] ∧ H c = some (.tup vs) ∧ ∀ us, Vals vs us → PySem.W.kitAny K (.ref C) us = some b)) ∧ Q (.bl b) H
theorem call_isiX {X : Cx} {ea C : Addr} {oe : Obj} {pn' : List (Addr × Obj)} (k : ExcK X.K C) (hm : (ea, oe) ∈ pn') (hc : oe.cls = .ref C) (hd : oe.dict = none) (hn : PySem.W.notCls oe = true) : CallR (X.hand ea pn') (.builtin "isinstance") (rIsiX X.K ea C) := by
  intro pins s σ H xs us Q I r h
  obtain ⟨b, h, q⟩ := h
  have at_ := (I.pin _ (List.mem_append_left _ hm)).1
  have IA : ∃ o, PySem.W.InstAt s.heap ea o C none := ⟨oe, at_, hc, hn, by rw [hd]; trivial⟩
  rcases h with ⟨n, rfl, e⟩ | ⟨c, rfl, e⟩ | ⟨c, vs, rfl, et, e⟩
  · obtain ⟨u, v, rfl, ru, rv⟩ := vals2 r
    obtain rfl : v = Value.type n := rv
    obtain rfl : u = Value.ref ea := ru
    exact PySem.W.kia_one (kitx_exc k) I.kIn IA e (fun z => nomatch z) fun tk => ⟨.bl b, H, I.tok tk, rfl, q⟩
  · obtain ⟨u, v, rfl, ru, rv⟩ := vals2 r
    obtain rfl : v = Value.ref c := rv
    obtain rfl : u = Value.ref ea := ru
    exact PySem.W.kia_one (kitx_exc k) I.kIn IA e (fun z => nomatch z) fun tk => ⟨.bl b, H, I.tok tk, rfl, q⟩
  · obtain ⟨u, v, rfl, ru, rv⟩ := vals2 r
    obtain rfl : v = Value.ref c := rv
    obtain rfl : u = Value.ref ea := ru
    obtain ⟨_, its, rv, ⟨o, h1, h2, n, h3⟩⟩ := (show ObjOk X.prog X.w H s.heap c (.tup vs) from I.hok c _ et)
    obtain ⟨oc, od, oda, osl⟩ := o
    dsimp only at h2 h3
    subst h2 h3
    exact PySem.W.kia_tup (kitx_exc k) I.kIn IA h1 (e its rv) (fun z => nomatch z) fun tk => ⟨.bl b, H, I.tok tk, rfl, q⟩

theorem PS.nox {X : Cx} {st : Stmt} {t : TS} (h : PS X.nox st t) : PS X st t := fun pins s σ H D I hw =>
  wpAny_mono (h pins s σ H D (I.wish _) hw) (fun _ _ q => q.unwish) fun _ _ z => False.elim z
theorem PA.nox {X : Cx} {es : List Expr} {t : TA} (h : PA X.nox es t) : PA X es t := fun pos pins s σ H Q I hw =>
  wpAny_mono (h pos pins s σ H Q (I.wish _) hw) (fun _ _ ⟨v, H', I', r, q⟩ => ⟨v, H', I'.unwish, r, q⟩) fun _ _ z => False.elim z
theorem kit_val {K : PySem.W.Frag} {C : Addr} (h : PySem.W.subIn K (.ref C) (.type "ValueError") = some true) : PySem.W.kitOne K (.ref C) (.type "ValueError") = some true := by
  unfold PySem.W.kitOne PySem.W.kitCls
  dsimp only
  rw [if_neg (by simp), if_pos (show PySem.W.kitMeta "ValueError" = true by decide +kernel)]
  exact h
section
variable {X : Cx} {k k' : Nat} {x : Str} {ps : List Str} {sp : Sp} {e : Expr} {es : List Expr} {t : TA} {p pos : Pos}
theorem pass10 {X : Cx} : Passes (CX1 X.prog X.w) X E0 := fun _ _ _ _ _ _ _ ⟨_, _, _, _, _, _, _, _, _, _, _, _, _, _, hE⟩ => hE.elim
end
section
variable {K : PySem.W.Frag} {D : Ends} {σ : St} {H : Hp} {Q : VK} {C C' : Addr}
theorem i_tryX {te : TEx} {th : Addr → TS} (h : te σ H (fun _ H' => D.nx σ H') (fun v _ H' => ∃ C, v = .ref C ∧ th C D σ H')) : tTry (fun D E σ H => te σ H (fun _ H' => D.nx σ H') (E σ)) th D σ H := h
theorem i_handT {ts tr : Addr → TS} (e : PySem.W.mroIn K C (.ref C') = some true) (h : ts C D σ H) : tHand K C' ts tr C D σ H := ⟨true, e, fun _ => h, fun z => Bool.noConfusion z⟩
theorem i_isiXT {ea : Addr} {n : String} {b : Bool} (e : PySem.W.kitOne K (.ref C) (.type n) = some b) (h : Q (.bl b) H) : rIsiX K ea C [.ref ea, .ty n] H Q := ⟨b, .inl ⟨n, rfl, e⟩, h⟩
/-- of a tuple of classes, none of which it is of -/
theorem i_isiXN {ea c : Addr} {cs : List Addr} (hc : H c = some (.tup (cs.map V.ref))) (e : ∀ d ∈ cs, PySem.W.kitOne K (.ref C) (.ref d) = some false) (h : Q (.bl false) H) : rIsiX K ea C [.ref ea, .ref c] H Q := by
  refine ⟨false, .inr (.inr ⟨c, _, rfl, hc, fun us r => ?_⟩), h⟩
  have : ∀ (cs : List Addr) (us : List Value), (∀ d ∈ cs, PySem.W.kitOne K (.ref C) (.ref d) = some false) → Vals (cs.map V.ref) us → PySem.W.kitAny K (.ref C) us = some false := by
    intro cs
    induction cs with
    | nil => intro us _ r; cases r; rfl
    | cons d cs ih =>
      intro us e r
      rw [List.map_cons] at r
      cases r with
      | cons r1 r2 =>
        rename_i u us'
        obtain rfl : u = Value.ref d := r1
        unfold PySem.W.kitAny
        rw [e d List.mem_cons_self]
        exact ih us' (fun x hx => e x (List.mem_cons_of_mem _ hx)) r2
  exact this cs us e r
end
end L2

set_option maxRecDepth 100000
namespace L2
open PySem PySem.Spec PyProof.Rows
section
variable {X : Cx} {a : Expr} {ta : TE} {pos : Pos}
end
section
variable {σ : St} {H : Hp} {Q : VK} {D : Ends} {K : PySem.W.Frag} {g : TG} {tb : TS} {ta : TE}
end
theorem len_append (x y : Str) : (x ++ y).length = x.length + y.length := by
  show (x.cps ++ y.cps).size = _
  rw [Array.size_append]; rfl
end L2

set_option maxRecDepth 100000
namespace L2
open PySem PySem.Spec PyProof.Rows
section
variable {X : Cx} {k k' : Nat} {f C : Addr} {fd : FuncData} {ps : List Str} {sp : Sp} {x : Str} {p pos : Pos} {e : Expr} {es : List Expr} {t : TA}
end
structure RoomH (k : Nat) (A : Around) : Prop where
  dp : A.depth + 3 * k + 5 < recursionLimit
  un : A.units + 16 * k + 200 < cLine
theorem Room.mark {k : Nat} {A : Around} {v : Option Value} (r : Room k A) : RoomH k (A.mark v) := ⟨r.dp, r.un⟩
/-- the exception as it lies -/
structure Lies (s : Shared) (H : Hp) (outer : List Env) (ea : Addr) (oe : Obj) (C : Addr) : Prop where
  at_ : s.heap.get? ea = some oe
  no : H ea = none
  nf : ea ∉ frs outer
  nc : ∀ v, oe.data ≠ .cell v
  cls : oe.cls = .ref C
  dict : oe.dict = none
  nk : PySem.W.notCls oe = true
structure FnH (P : Program) (w : World) (K : PySem.W.Frag) (mg : Str → Option Value) (base : Heap) (k : Nat) (f : Addr) (fd : FuncData) (ps : List Str) (sp : Addr → Addr → Sp) : Prop where
  len : ∀ ea C vs H Q E, sp ea C vs H Q E → vs.length = ps.length
  run : ∀ (A : Around) (outer : List Env) (s : Shared) (H : Hp) (args : Args) (us : List Value) (vs : List V) (Q : VK) (ea C : Addr) (oe : Obj), RoomH k A → Env0 P w K mg base A outer s H → Lies s H outer ea oe C → BindsTo s fd args (ps.zip us) → Vals vs us → sp ea C vs H Q E0 →
    codeAny (model P w) A (.call (.ref f) args) (CR CX0 outer P w H s Q E0) s
abbrev cxH (P : Program) (w : World) (K : PySem.W.Frag) (mg : Str → Option Value) (base : Heap) (N : List Str) (qual : Str) (scope : Scope) (f : Addr) (cd : Value) (A : Around) (outer : List Env) (s : Shared) (H : Hp) (ea : Addr) (oe : Obj) : Cx :=
  { cxOf CX0 P w K mg base N qual scope f cd A outer s H E0 with calm := false, pn := [(ea, oe)] }
theorem fn_ofH {P : Program} {w : World} {K : PySem.W.Frag} {mg : Str → Option Value} {base : Heap} {k : Nat} {f : Addr} {name qual : Str} {params : Arguments} {body : List Stmt} {scope : Scope} {dV kV doc pm cdv ct oc : Value} {an od : Option Addr}
    {osl : Array (Option Value)} {N ps : List Str} {sp : Addr → Addr → Sp} (lk : K.lookup f = some ⟨oc, od, .func (PySem.W.fnOf name qual params body scope dV kV doc pm an cdv ct), osl⟩) (hcd : PySem.W.codeIn K cdv qual = true) (S : FnScope N ps scope)
    (len : ∀ ea C vs H Q E, sp ea C vs H Q E → vs.length = ps.length)
    (hbody : ∀ (A : Around) (outer : List Env) (s : Shared) (H : Hp) (vs : List V) (Q : VK) (ea C : Addr) (oe : Obj), Lies s H outer ea oe C → sp ea C vs H Q E0 →
      ∃ t, PSs (cxH P w K mg base N qual scope f cdv A outer s H ea oe) body t ∧ t { nx := fun _ H' => Q .non H', rt := Q } (start N vs) H) :
    FnH P w K mg base k f (PySem.W.fnOf name qual params body scope dV kV doc pm an cdv ct) ps sp := by
  refine ⟨len, fun A outer s H args us vs Q ea C oe hr e0 hy hb r hsp => ?_⟩
  have hl := len _ _ _ _ _ _ hsp
  have KX : K.In s.heap := e0.mod.kin.keeps fun b o e => (e0.bs b o e).1
  have lim : s.heap.NoLimit := e0.mod.nolimit.keeps fun b o e => (e0.bs b o e).1
  have hkind : ∀ y ∈ ps.zip us, scope.names.lookup y.1 = some .local ∨ (scope.names.lookup y.1 = some .cell ∧ ((cellsFrom (s.heap.objs.size + 1) scope.names []).lookup y.1).isSome = true) := fun ⟨n, v⟩ hy => by
    rcases S.par n (List.of_mem_zip hy).1 with q | q
    · exact .inl q
    · exact .inr ⟨q, PySem.W.cellsFrom_some _ _ _ (.inl q)⟩
  have hdp : A.depth < recursionLimit := by have := hr.dp; omega
  refine codeAny_call_function hdp (KX _ _ lk) rfl S.co S.gen rfl (PySem.W.codeRec_of KX hcd) (hb _ _ _ _ ?_)
  refine wpAny_newFunctionEnv_cells S.kind hkind fun env he s1 x => ?_
  subst he
  refine ⟨lim.keeps x.toInCall.keep, codeAny_func ?_⟩
  obtain ⟨t, ht, hq⟩ := hbody A outer s H vs Q ea C oe hy hsp
  have e1 : Env0 P w K mg base { A with handled := none } outer s H := ⟨e0.frames, e0.mod, e0.bs, e0.bsz, e0.funs, e0.frf, e0.hok, e0.bare⟩
  have J : Inv (cxOf CX0 P w K mg base N qual scope f cdv { A with handled := none } outer s H E0) [] (start N vs) H s1 := inv_start S rfl e1 hl r x
  have I : Inv (cxH P w K mg base N qual scope f cdv A outer s H ea oe) [] (start N vs) H s1 := by
    refine ⟨⟨J.ok.mod, J.ok.kind, J.ok.glob, J.ok.blt, J.ok.above, J.ok.inj, J.ok.has, J.ok.cab, fun z => Bool.noConfusion z, J.ok.frames, J.ok.stk, J.ok.exf, J.ok.bs, J.ok.bsz, J.ok.noex, J.ok.exfs, J.ok.funs, J.ok.frf⟩, J.os, J.bare, J.base, J.loc, J.cell, J.free, J.freeC, fun p hp => ?_, J.hok, J.len⟩
    have hp' : p = (ea, oe) := by
      have z : p ∈ [(ea, oe)] ++ [] := hp
      simpa using z
    subst hp'
    exact ⟨x.toInCall.keep _ _ hy.at_, hy.no, Nat.ne_of_lt (Heap.lt_size hy.at_), hy.nf, hy.nc⟩
  refine wpAny_mono (ht [] s1 (start N vs) H _ I hq) (fun fl s' hs => ?_) fun e s' hs => hs
  have fin : ∀ {σ' : St} {H' : Hp} {v : V} {u : Value}, Inv (cxH P w K mg base N qual scope f cdv A outer s H ea oe) [] σ' H' s' → RelV v u → Q v H' → CE outer P w H s Q u s' :=
    fun {σ' H' v u} J rv q => ⟨v, H', J.os, J.bare, J.base, J.hok, rv, q⟩
  cases fl with
  | ret u =>
    obtain ⟨v, σ', H', J, rv, q⟩ := hs
    exact fin J rv q
  | next =>
    obtain ⟨σ', H', J, q⟩ := hs
    exact fin (v := V.non) (u := Value.none) J rfl q
  | brk =>
    obtain ⟨_, _, _, q⟩ := hs
    exact False.elim q
  | cont =>
    obtain ⟨_, _, _, q⟩ := hs
    exact False.elim q
theorem Fun.okH {P : Program} {w : World} {K : PySem.W.Frag} {mg : Str → Option Value} {base : Heap} {x qual : Str} {st : Stmt} {f : Addr} {fd : FuncData} {N ps : List Str} {k : Nat} {sp : Addr → Addr → Sp} (F : Fun K x qual st f fd) (S : FnScope N ps (defScope st)) (len : ∀ ea C vs H Q E, sp ea C vs H Q E → vs.length = ps.length)
    (hbody : ∀ (cdv : Value) (A : Around) (outer : List Env) (s : Shared) (H : Hp) (vs : List V) (Q : VK) (ea C : Addr) (oe : Obj), Lies s H outer ea oe C → sp ea C vs H Q E0 →
      ∃ t, PSs (cxH P w K mg base N qual (defScope st) f cdv A outer s H ea oe) (defBody st) t ∧ t { nx := fun _ H' => Q .non H', rt := Q } (start N vs) H) : FnH P w K mg base k f fd ps sp := by
  obtain ⟨oc, od, kV, doc, pm, an, cdv, ct, osl, rfl, lk, hcd⟩ := F.ex
  exact fn_ofH lk hcd S len fun A outer s H vs Q ea C oe hy hsp => hbody cdv A outer s H vs Q ea C oe hy hsp
def FnSH (P : Program) (w : World) (K : PySem.W.Frag) (mg : Str → Option Value) (base : Heap) (k : Nat) (x : Str) (ps : List Str) (sp : Addr → Addr → Sp) : Prop := ∃ f fd, FnH P w K mg base k f fd ps sp ∧ Binds K fd ps [] ∧ PySem.W.keepIn K (.ref f) = true ∧ mg x = some (.ref f)
/-- f(..) within an except suite -/
def tFnH (sp : Addr → Addr → Sp) (ea C : Addr) (t : TA) : TE := fun σ H Q => t σ H fun vs H1 => sp ea C vs H1 Q E0
theorem pe_fnH {X : Cx} {k k' : Nat} {x : Str} {ps : List Str} {sp : Addr → Addr → Sp} {ea C : Addr} {oe : Obj} {pn' : List (Addr × Obj)} {e : Expr} {es : List Expr} {t : TA} {p pos : Pos} (G : FnSH X.prog X.w X.K X.mg X.base k x ps sp) (hr : Room k' X.A)
    (hm : (ea, oe) ∈ pn') (hc : oe.cls = .ref C) (hd : oe.dict = none) (hn : PySem.W.notCls oe = true) (hst : X.stack = X.env :: X.outer) (hfr : X.env.frame = some X.env.locals)
    (ha : PA (X.hand ea pn') (e :: es) t) (hk : k ≤ k' := by omega) (hg : Gl X x := by rfl) (hdb : (x == ("__debug__" : Str)) = false := by decide)
    (he : starEach (e :: es) X.env = (false, eval e X.env) :: starEach es X.env := by rfl) (hpl : (backTo pos (starEach es X.env)).any (·.1) = false := by rfl) : PE (X.hand ea pn') (.Call (.Name x p) (e :: es) [] pos) (tFnH sp ea C t) := by
  obtain ⟨f, fd, F, hb, kp, hmg⟩ := G
  intro pins s σ H Q I h
  refine wpAny_Call_Name_kw (ld_glob (X := X.hand ea pn') I hg hmg ?_ hdb)
  refine PySem.W.callWith_K (h₀ := X.base) I.ok.mod.kin kp (thn (ha pos pins s σ H _ I h) fun us s1 ⟨vs, H1, I1, r, q⟩ => ⟨I1.kIn, ?_⟩) he hpl
  have hl : (us ++ []).length = ps.length := by rw [List.append_nil, ← r.length]; exact F.len _ _ _ _ _ _ q
  have hb' := hb s1 us I1.kIn hl
  rw [List.append_nil] at hb'
  obtain ⟨pe, pno, pl, pf, pc⟩ := I1.pin _ (List.mem_append_left _ hm)
  have nf : ea ∉ frs X.stack := fun z => by
    rw [hst] at z
    unfold frs at z
    rw [List.filterMap_cons, hfr] at z
    rcases List.mem_cons.mp z with z | z
    · exact pl z
    · exact pf z
  refine wpAny_call (codeAny_mono (F.run (X.hand ea pn').A X.stack s1 H1 ⟨us, []⟩ us vs Q ea C oe (hr.mono hk).mark I1.env0 ⟨pe, pno, nf, pc, hc, hd, hn⟩ hb' r q) fun r s' hq => ?_)
  cases r with
  | error e => exact hq.elim
  | ok fl =>
    cases fl with
    | ret u => exact I1.after hq
    | next => exact False.elim hq
    | brk => exact False.elim hq
    | cont => exact False.elim hq
/-- isinstance of the exception that the context bears -/
theorem call_isiY {X : Cx} {ea C : Addr} {oe : Obj} (k : ExcK X.K C) (hm : (ea, oe) ∈ X.pn) (hc : oe.cls = .ref C) (hd : oe.dict = none) (hn : PySem.W.notCls oe = true) : CallR X (.builtin "isinstance") (rIsiX X.K ea C) := by
  intro pins s σ H xs us Q I r h
  obtain ⟨b, h, q⟩ := h
  have at_ := (I.pin _ (List.mem_append_left _ hm)).1
  have IA : ∃ o, PySem.W.InstAt s.heap ea o C none := ⟨oe, at_, hc, hn, by rw [hd]; trivial⟩
  rcases h with ⟨n, rfl, e⟩ | ⟨c, rfl, e⟩ | ⟨c, vs, rfl, et, e⟩
  · obtain ⟨u, v, rfl, ru, rv⟩ := vals2 r
    obtain rfl : v = Value.type n := rv
    obtain rfl : u = Value.ref ea := ru
    exact PySem.W.kia_one (kitx_exc k) I.kIn IA e (fun z => nomatch z) fun tk => ⟨.bl b, H, I.tok tk, rfl, q⟩
  · obtain ⟨u, v, rfl, ru, rv⟩ := vals2 r
    obtain rfl : v = Value.ref c := rv
    obtain rfl : u = Value.ref ea := ru
    exact PySem.W.kia_one (kitx_exc k) I.kIn IA e (fun z => nomatch z) fun tk => ⟨.bl b, H, I.tok tk, rfl, q⟩
  · obtain ⟨u, v, rfl, ru, rv⟩ := vals2 r
    obtain rfl : v = Value.ref c := rv
    obtain rfl : u = Value.ref ea := ru
    obtain ⟨_, its, rv, ⟨o, h1, h2, n, h3⟩⟩ := (show ObjOk X.prog X.w H s.heap c (.tup vs) from I.hok c _ et)
    obtain ⟨oc, od, oda, osl⟩ := o
    dsimp only at h2 h3
    subst h2 h3
    exact PySem.W.kia_tup (kitx_exc k) I.kIn IA h1 (e its rv) (fun z => nomatch z) fun tk => ⟨.bl b, H, I.tok tk, rfl, q⟩
theorem i_fnH {sp : Addr → Addr → Sp} {ea C : Addr} {t : TA} {σ : St} {H : Hp} {Q : VK} (h : t σ H fun vs H1 => sp ea C vs H1 Q E0) : tFnH sp ea C t σ H Q := h
end L2

set_option maxRecDepth 100000
set_option maxHeartbeats 4000000
namespace PySem
theorem compLoop2 {prog : Program} {w : World} {A : Around} {R : Result → Shared → Prop} {s : Shared} {elt target iter : Expr} {ifs : List Expr} {scope : Scope} {pos : Pos} {it acc : Value} {env : Env} (I : Nat → Shared → Prop)
    (turn : ∀ n s, I n s → wpAny (model prog w) A (pyNext it) (fun r s1 => match r with
      | none => R (.ok .next) s1
      | some v => wpAny (model prog w) A (letOwnedTupleGo target it v) (fun _ s2 => wpAny (model prog w) A (assign target env v) (fun _ s3 =>
          wpAny (model prog w) A (forIn ifs true fun c r => if r = true then do let ok ← isTrue c env (eval c env); pure (ForInStep.yield ok) else pure (ForInStep.yield r)) (fun ok s4 =>
            if ok = true then wpAny (model prog w) A (eval elt env) (fun x s5 =>
              wpAny (model prog w) A (call (.builtin "list.append") [acc, x]) (fun _ s6 => ∃ m, m < n ∧ I m s6) (notedBy (model prog w) A env fun e s' => R (.error e) s') s5) (notedBy (model prog w) A env fun e s' => R (.error e) s') s4
            else ∃ m, m < n ∧ I m s4) (notedBy (model prog w) A env fun e s' => R (.error e) s') s3) (notedBy (model prog w) A env fun e s' => R (.error e) s') s2) (notedBy (model prog w) A env fun e s' => R (.error e) s') s1) (notedBy (model prog w) A env fun e s' => R (.error e) s') s)
    (n : Nat) (h : I n s) : codeAny (model prog w) A (.compLoop (.ListComp elt [⟨target, iter, ifs, 0⟩] scope pos) 0 it acc env) R s := by
  refine codeAny_loop rfl I (fun n s hI => ?_) n h
  show wpAny _ A ((compTurn (.ListComp elt [⟨target, iter, ifs, 0⟩] scope pos) 0 it acc env).onRaise (fun x => do noteFrame x env; theTreesLotGoes x)) _ _ s
  refine wpAny_noted ?_
  rw [compTurn_list]
  refine wpAny_bind (wpAny_standAt (wpAny_bind (wpAny_mono (turn n s hI) (fun r s1 h1 => ?_) fun _ _ z => z)))
  cases r with
  | none => exact wpAny_pure h1
  | some v =>
    refine wpAny_bind (wpAny_mono h1 (fun _ s2 h2 => ?_) fun _ _ z => z)
    refine wpAny_bind (wpAny_mono h2 (fun _ s3 h3 => wpAny_bind (wpAny_mono h3 (fun ok s4 h4 => ?_) fun _ _ z => z)) fun _ _ z => z)
    cases ok with
    | false => exact wpAny_pure ⟨rfl, h4⟩
    | true =>
      exact wpAny_bind (wpAny_bind (wpAny_mono h4 (fun x s5 h5 => wpAny_bind (wpAny_mono h5 (fun _ s6 h6 => wpAny_pure (wpAny_pure ⟨rfl, h6⟩)) fun _ _ z => z)) fun _ _ z => z))
end PySem
namespace L2
open PySem PySem.Spec PyProof.Rows
def cxComp2 (X : Cx) (x x' : Str) (ns : List Str) (scope : Scope) (cl : List (Str × Addr)) (s : Shared) (H : Hp) (ex : List Addr) : Cx := { cxComp X x ns scope cl s H ex with N := x :: x' :: ns }
def CompOk2 (sc : Scope) (N : List Str) (x x' : Str) (ns : List Str) (ix : List Nat) (scope : Scope) : Prop :=
  scope.kind = .function ∧ (∀ y ∈ scope.names, y.2 ≠ .cell ∧ (y.2 = .local → scope.names.lookup y.1 = some .local) ∧ (y.2 = .free → sc.names.lookup y.1 = some .cell ∨ sc.names.lookup y.1 = some .free)) ∧
  scope.names.lookup x = some .local ∧ scope.names.lookup x' = some .local ∧ (∀ y ∈ ns, scope.names.lookup y = some .free) ∧ (ix.map fun k => N[k]?) = ns.map some ∧ (x :: x' :: ns).Nodup
instance (sc : Scope) (N : List Str) (x x' : Str) (ns : List Str) (ix : List Nat) (scope : Scope) : Decidable (CompOk2 sc N x x' ns ix scope) := by unfold CompOk2; infer_instance
def CompG2 (J : It) (ix : List Nat) (tc : TT) (te : TE) (σ : St) (Q : VK) (H1 : Hp) : Prop := ∀ acc, H1 acc = none → ∃ W : Nat → Nat → List V → Hp → Prop, (∃ m, W 0 m [] (upd H1 acc (.lst []))) ∧
  ∀ i m ys H, W i m ys H → (J.stop i H ∧ Q (.ref acc) H) ∨ (J.go i H ∧ ∀ x H', J.yld i H x H' → ∃ T va vb, x = .ref T ∧ H' T = some (.tup [va, vb]) ∧ tc (some va :: some vb :: subS σ ix) H' fun b H2 =>
    if b = true then te (some va :: some vb :: subS σ ix) H2 fun y H3 => H3 acc = some (.lst ys) ∧ ys.length < sizeLine ∧ ∃ m', m' < m ∧ W (i + 1) m' (ys ++ [y]) (upd H3 acc (.lst (ys ++ [y]))) else ∃ m', m' < m ∧ W (i + 1) m' ys H2)
def tComp2 (wi : TI) (ix : List Nat) (tc : TT) (te : TE) : TE := fun σ H Q => wi σ H fun J H1 => CompG2 J ix tc te σ Q H1
section
variable {X : Cx} {pins : List (Addr × Obj)} {σ : St} {H : Hp} {s : Shared} {cl : List (Str × Addr)} {x x' : Str} {ns : List Str} {ix : List Nat} {sc scope : Scope} {N : List Str} {fp : List Addr}
theorem fp_comp2 (I : Inv X pins σ H s) (f : ∀ b ∈ fp, FpOk X pins H b) (hlt : ∀ b ∈ fp, b < s.heap.objs.size) (hcl : ∀ y c, cl.lookup y = some c → X.env.cells.lookup y = some c) {H' : Hp} (hn : ∀ b ∈ fp, H' b = none) : ∀ b ∈ fp, FpOk (cxComp2 X x x' ns scope cl s H fp) [] H' b := fun b hb => by
  obtain ⟨f0, f1, f2, f3, f4, f5⟩ := f b hb
  refine ⟨hn b hb, Nat.ne_of_lt (hlt b hb), fun z => ?_, .inl hb, fun y c e => f4 y c (hcl y c e), fun p hp => ?_⟩
  · rcases List.mem_cons.mp (I.stkSub b z) with z | z
    · exact f1 z
    · exact f2 z
  · exact absurd (show p ∈ ([] : List (Addr × Obj)) from hp) (by simp)
theorem inv_comp2 {h1 : Heap} {m : Str → Option Value} {t' : Nat} (I : Inv X pins σ H s) (hsc : X.env.scope = sc) (hN : X.N = N) (C : CompOk2 sc N x x' ns ix scope) (hcl : ∀ y c, cl.lookup y = some c → X.env.cells.lookup y = some c)
    (hcla : ∀ y ∈ scope.names, y.2 = .free → ∃ c, cl.lookup y.1 = some c) (f : ∀ b ∈ fp, FpOk X pins H b) (hlt : ∀ b ∈ fp, b < s.heap.objs.size) (hn : h1.Ns s.heap.objs.size m) (hk : ∀ b o, s.heap.get? b = some o → h1.get? b = some o) :
    Inv (cxComp2 X x x' ns scope cl s H fp) [] (none :: none :: subS σ ix) H { s with heap := h1, toks := t' } := by
  obtain ⟨c1, c2, c3, c3', c4, c5, c6⟩ := C
  have kind : ∀ y, (relabel scope X.env).names.lookup y = (scope.names.lookup y).map fun k => if (k == NameKind.free && X.env.scope.kind == .function && X.env.kindOf y == some .cell) = true then NameKind.cell else k := fun y => relabel_kind scope.names y
  have fr : ∀ y, ((relabel scope X.env).names.lookup y = some .cell ∨ (relabel scope X.env).names.lookup y = some .free) → scope.names.lookup y = some .free := fun y h => by
    rw [kind y] at h
    cases e : scope.names.lookup y with
    | none => rw [e] at h; simp at h
    | some k =>
      rw [e] at h
      have hm := lookup_mem e
      cases k with
      | free => rfl
      | cell => exact absurd rfl (c2 _ hm).1
      | «local» => simp at h
      | globalExplicit => simp at h
      | globalImplicit => simp at h
  have fr' : ∀ y, scope.names.lookup y = some .free → (relabel scope X.env).names.lookup y = some .cell ∨ (relabel scope X.env).names.lookup y = some .free := fun y h => by
    rw [kind y, h]
    by_cases hc : (NameKind.free == NameKind.free && X.env.scope.kind == .function && X.env.kindOf y == some .cell) = true
    · left; rw [Option.map_some, if_pos hc]
    · right; rw [Option.map_some, if_neg hc]
  have noC : ∀ p : Addr × Obj, p ∉ (cxComp2 X x x' ns scope cl s H fp).pn ++ [] := fun p hp => absurd (show p ∈ ([] : List (Addr × Obj)) from hp) (by simp)
  have lenE : ix.length = ns.length := by
    have := congrArg List.length c5
    rwa [List.length_map, List.length_map] at this
  refine ⟨⟨I.ok.mod, c1, I.ok.glob, I.ok.blt, Nat.le_refl _, fun y z c h1 h2 => I.ok.inj y z c (hcl y c h1) (hcl z c h2), fun y hy => ?_, fun y c hy => absurd hy (by simp [cxComp2, cxComp]), I.ok.hd, I.ok.frames, .inl rfl, fun b hb => ?_, I.bs,
    Nat.le_trans I.ok.bsz I.sz, fun b o e hb => ?_, fun b hb => ?_, I.stack, I.stkFree⟩, rfl, I.bare, Un.kept hk, ⟨m, hn, fun i y v e1 e2 e3 => ?_⟩, fun y c e => ?_, I.hok.fresh (Nat.le_refl _), fun y c e => I.freeC y c (hcl y c e), fun p hp => absurd hp (noC p), I.hok.kept hk, ?_⟩
  · exact hcla _ (lookup_mem (fr y hy)) rfl
  · obtain ⟨f0, f1, f2, f3, f4, f5⟩ := f b hb
    exact ⟨Nat.ne_of_lt (hlt b hb), fun y c e => f4 y c (hcl y c e)⟩
  · obtain ⟨f0, f1, f2, f3, f4, f5⟩ := f b hb
    rcases f3 with z | z
    · exact I.ok.noex b o e z
    · exact absurd (Nat.lt_of_lt_of_le (Heap.lt_size (I.ok.bs b o e).1) z) (Nat.lt_irrefl _)
  · obtain ⟨f0, f1, f2, f3, f4, f5⟩ := f b hb
    intro z
    rcases List.mem_cons.mp (I.stkSub b z) with z | z
    · exact f1 z
    · exact f2 z
  · cases i with
    | zero => cases e2
    | succ i =>
    cases i with
    | zero => cases e2
    | succ j =>
      have e1' : ns[j]? = some y := e1
      have e2' : (ix.map fun k => (σ[k]?).join)[j]? = some (some v) := e2
      have e5 := congrArg (fun l => l[j]?) c5
      simp only [List.getElem?_map, e1', Option.map_some] at e5 e2'
      cases ek : ix[j]? with
      | none => rw [ek] at e5; cases e5
      | some k =>
        rw [ek] at e5 e2'
        have eN : N[k]? = some y := by simpa using e5
        have eσ : (σ[k]?).join = some v := by simpa using e2'
        have eσ' : σ[k]? = some (some v) := by
          cases q : σ[k]? with
          | none => rw [q] at eσ; cases eσ
          | some w => rw [q] at eσ; have : w = some v := eσ; rw [this]
        have hy := c4 y (List.mem_of_getElem? e1')
        have hk' := (c2 _ (lookup_mem hy)).2.2 rfl
        rw [← hsc] at hk'
        obtain ⟨m0, hn0, hl⟩ := I.loc
        obtain ⟨u, r, l⟩ := hl k y v (by rw [hN]; exact eN) eσ' (.inr hk')
        refine ⟨u, r, ?_⟩
        rcases l with ⟨kl, _⟩ | ⟨_, c, ec, z⟩
        · exfalso
          have kl : X.env.scope.names.lookup y = some .local := kl
          rw [kl] at hk'
          rcases hk' with z | z <;> cases z
        · obtain ⟨c', ec'⟩ := hcla _ (lookup_mem hy) rfl
          have ee : c' = c := by
            have := hcl y c' ec'
            rw [ec] at this
            exact (Option.some.inj this).symm
          subst ee
          obtain ⟨o, ho, hd⟩ := z
          exact .inr ⟨fr' y hy, c', ec', ⟨o, hk _ _ ho, hd⟩⟩
  · obtain ⟨v, o, ho, hd⟩ := I.cell y c (hcl y c e)
    exact ⟨v, o, hk _ _ ho, hd⟩
  · show (none :: none :: subS σ ix).length = (x :: x' :: ns).length
    rw [List.length_cons, List.length_cons, List.length_cons, List.length_cons]
    unfold subS
    rw [List.length_map, lenE]
end
section
variable {X : Cx} {pins : List (Addr × Obj)} {σ : St} {H : Hp} {s : Shared} {cl : List (Str × Addr)} {x x' : Str} {ns : List Str} {ix : List Nat} {sc scope : Scope} {N : List Str} {fp : List Addr} {elt iter : Expr} {px px' tp pos : Pos} {tk : Nat} {ifs : List Expr} {tc : TT} {te : TE} {wi : TI}
theorem comp_run2 {E : Value → Shared → Prop} {J : It} {it : Addr} {tn : Nat → Heap → Prop} {Q : VK} {RR : Value → Addr → Result → Shared → Prop} (hsc : X.env.scope = sc) (hN : X.N = N) (C : CompOk2 sc N x x' ns ix scope) (hc : X.calm = true)
    (ht : ∀ cl s H ex, PTs (cxComp2 X x x' ns scope cl s H ex) ifs tc) (he : ∀ cl s H ex, PE (cxComp2 X x x' ns scope cl s H ex) elt te) (I : Inv X pins σ H s) (hcl : ∀ y c, cl.lookup y = some c → X.env.cells.lookup y = some c)
    (hcla : ∀ y ∈ scope.names, y.2 = .free → ∃ c, cl.lookup y.1 = some c) (T : Turn X.prog X.w X.K (.Tuple [.Name x px, .Name x' px'] tk tp) J fp it tn) (st : tn 0 s.heap) (f : ∀ b ∈ fp, FpOk X pins H b) (h : CompG2 J ix tc te σ Q H)
    (fin : ∀ D C m s' H', Inv X pins σ H' s' → s'.heap.Ns C m → FpOk X pins H' C → Q (.ref D) H' → RR (.ref D) C (.ok .next) s') :
    wpAny (model X.prog X.w) X.A (newList []) (fun ja s3 => wpAny (model X.prog X.w) X.A (newFunctionEnv scope X.env.globals cl [] X.env.qual none .none (some X.env)) (fun ce s4 =>
      codeAny (model X.prog X.w) X.A (.compStart (.ListComp elt [⟨.Tuple [.Name x px, .Name x' px'] tk tp, iter, ifs, 0⟩] scope pos) 0 (.ref it) ja { ce with scope := relabel scope X.env }) (RR ja ce.locals) s4) E s3) E s := by
  have hC := C
  obtain ⟨c1, c2, c3, c3', c4, c5, c6⟩ := C
  have hfr : H s.heap.objs.size = none := I.hok.fresh (Nat.le_refl _)
  obtain ⟨W, ⟨m0, w0⟩, turn⟩ := h _ hfr
  refine wpAny_newObj_type (wpAny_newFunctionEnv (fun y hy => (c2 y hy).1) (by intro y hy; simp at hy) (fun h1 hn1 hs1 => ?_) c1)
  have I3 := I.lnew (its := []) (ys := []) (t' := s.toks) .nil (Nat.zero_le _)
  have hlt0 : ∀ b ∈ fp, b < s.heap.objs.size := fun b hb => by
    obtain ⟨o, ho, _⟩ := T.obj _ _ st b hb
    exact Heap.lt_size ho
  generalize hs3 : ({ s with heap := s.heap.push { cls := .type "list", data := .seq ([] : List Value).toArray }, toks := s.toks } : Shared) = s3 at I3
  have e3 : s3.heap = s.heap.push { cls := .type "list", data := .seq ([] : List Value).toArray } := by rw [← hs3]
  have sz3 : s3.heap.objs.size = s.heap.objs.size + 1 := by rw [e3, Heap.size_push]
  have f3 : ∀ b ∈ fp, FpOk X pins (upd H s.heap.objs.size (.lst [])) b := fun b hb => ⟨by rw [upd_ne (Nat.ne_of_lt (hlt0 b hb))]; exact (f b hb).1, (f b hb).2⟩
  have hlt : ∀ b ∈ fp, b < s3.heap.objs.size := fun b hb => by rw [sz3]; exact Nat.lt_succ_of_lt (hlt0 b hb)
  have hk : ∀ b o, s3.heap.get? b = some o → h1.get? b = some o := fun b o e => by
    refine (hs1.2 b ?_).trans (Heap.get?_push_of_some _ ?_)
    · have := Heap.lt_size e
      rw [sz3] at this
      show b ≠ (s.heap.push _).objs.size
      rw [Heap.size_push]
      exact Nat.ne_of_lt this
    · rw [e3] at e; exact e
  have hn3 : h1.Ns s3.heap.objs.size (fun y => ([] : List (Str × Value)).reverse.lookup y) := by rw [e3]; exact hn1
  have I4 := inv_comp2 (t' := s3.toks + ([] : List (Str × Value)).length) I3 hsc hN hC hcl hcla f3 hlt hn3 hk
  have st4 : tn 0 h1 := T.keep _ _ _ st fun b hb o e => hk b o (by rw [e3]; exact Heap.get?_push_of_some _ e)
  have stat : ∀ {H' : Hp}, (∀ b ∈ fp, H' b = none) → ∀ b ∈ fp, FpOk (cxComp2 X x x' ns scope cl s3 (upd H s.heap.objs.size (.lst [])) fp) [] H' b := fun {H'} hn => fp_comp2 I3 f3 hlt hcl hn
  have loop : ∀ s4 : Shared, s4 = { s3 with heap := h1, toks := s3.toks + ([] : List (Str × Value)).length } →
      codeAny (model X.prog X.w) X.A (.compLoop (.ListComp elt [⟨.Tuple [.Name x px, .Name x' px'] tk tp, iter, ifs, 0⟩] scope pos) 0 (.ref it) (.ref s.heap.objs.size) (compEnvC scope cl s3.heap.objs.size X.env)) (RR (.ref s.heap.objs.size) s3.heap.objs.size) s4 := by
    rintro s4 rfl
    refine compLoop2 (fun n s' => ∃ i v0 v1 ys H', Inv (cxComp2 X x x' ns scope cl s3 (upd H s.heap.objs.size (.lst [])) fp) [] (v0 :: v1 :: subS σ ix) H' s' ∧ tn i s'.heap ∧ (∀ b ∈ fp, H' b = none) ∧ W i n ys H') ?_ m0 ⟨0, none, none, [], _, I4, st4, fun b hb => (f3 b hb).1, w0⟩
    rintro n s5 ⟨i, v0, v1, ys, H5, I5, st5, fr5, w5⟩
    rcases turn i n ys H5 w5 with ⟨stop, q⟩ | ⟨go, step⟩
    · refine wpAny_mono (T.done (cxComp2 X x x' ns scope cl s3 (upd H s.heap.objs.size (.lst [])) fp) rfl rfl rfl hc i [] s5 _ H5 _ I5 (stat fr5) st5 stop) (fun r s6 hr => ?_) fun _ _ e => e
      obtain ⟨hr, I6⟩ := hr
      subst hr
      obtain ⟨m6, hn6, _⟩ := id I6.loc
      refine fin _ _ m6 s6 H5 (I3.call' I6.os I6.base I6.hok I6.bare fun b hb => ?_) hn6 (I3.fpOk (Nat.le_refl _) I6.free) q
      obtain ⟨g0, g1, g2, g3, g4, g5⟩ := f3 b hb
      exact ⟨g3, g1, g4, g5⟩
    · refine wpAny_mono (T.item (cxComp2 X x x' ns scope cl s3 (upd H s.heap.objs.size (.lst [])) fp) rfl rfl rfl hc i [] s5 _ H5 _ I5 (stat fr5) st5 go) (fun r s6 hr => ?_) fun _ _ e => e
      obtain ⟨u, hr, h6⟩ := hr
      subst hr
      refine wpAny_mono h6 (fun _ s6 q6 => ?_) fun _ _ e => e
      obtain ⟨xv, H6, I6, r6, y6, st6, fr6⟩ := q6
      have I6' := I6.pinned (stat fr6) (T.obj _ _ st6)
      obtain ⟨Tt, va, vb, rfl, eT, step'⟩ := step xv _ y6
      have again : ∀ {m' : Nat} {ys' : List V} {H7 : Hp} {s7 : Shared}, Inv (cxComp2 X x x' ns scope cl s3 (upd H s.heap.objs.size (.lst [])) fp) ([] ++ pinsAt fp s6.heap) (some va :: some vb :: subS σ ix) H7 s7 → W (i + 1) m' ys' H7 →
          ∃ i v0 v1 ys H', Inv (cxComp2 X x x' ns scope cl s3 (upd H s.heap.objs.size (.lst [])) fp) [] (v0 :: v1 :: subS σ ix) H' s7 ∧ tn i s7.heap ∧ (∀ b ∈ fp, H' b = none) ∧ W i m' ys H' := fun {m' ys' H7 s7} I7 w7 => by
        refine ⟨i + 1, some va, some vb, ys', H7, I7.unpinned, T.keep _ _ _ st6 fun b hb o e => (I7.pin (b, o) (List.mem_append_right _ (List.mem_append_right _ (mem_pinsAt hb e)))).1, fun b hb => ?_, w7⟩
        obtain ⟨o, e, d⟩ := T.obj _ _ st6 b hb
        exact (I7.pin (b, o) (List.mem_append_right _ (List.mem_append_right _ (mem_pinsAt hb e)))).2.1
      have lx : (relabel scope X.env).names.lookup x = some .local := lookup_relabel_local c3
      have lx' : (relabel scope X.env).names.lookup x' = some .local := lookup_relabel_local c3'
      have hg2 : PG (cxComp2 X x x' ns scope cl s3 (upd H s.heap.objs.size (.lst [])) fp) (.Tuple [.Name x px, .Name x' px'] tk tp) _ := pg_tup (show X.calm = true from hc) (pgs_cons (pg_name (i := 0) (x := x) (pos := px) c6 rfl (.inl lx) (.inr lx)) (pgs_cons (pg_name (i := 1) (x := x') (pos := px') c6 rfl (.inl lx') (.inr lx')) pgs_nil))
      refine wpAny_mono (hg2 _ s6 _ H6 (.ref Tt) u (fun σ' H' => σ' = some va :: some vb :: subS σ ix ∧ H' = H6) I6' r6 (i_gN2 eT ⟨rfl, rfl⟩)) (fun _ s7 h7 => ?_) fun _ _ e => e.elim
      obtain ⟨σ7, H7, I7, rfl, rfl⟩ := h7
      refine wpAny_mono (ht cl s3 _ fp _ s7 _ _ _ I7 step') (fun b s8 h8 => ?_) fun _ _ e => e.elim
      obtain ⟨H8, I8, q8⟩ := h8
      cases b with
      | false =>
        rw [if_neg Bool.false_ne_true] at q8 ⊢
        obtain ⟨m', hm, w8⟩ := q8
        exact ⟨m', hm, again I8 w8⟩
      | true =>
        rw [if_pos rfl] at q8 ⊢
        refine wpAny_mono (he cl s3 _ fp _ s8 _ _ _ I8 q8) (fun uy s9 h9 => ?_) fun _ _ e => e.elim
        obtain ⟨y, H9, I9, r9, hacc, hz, m', hm, w9⟩ := h9
        refine wpAny_mono (mt_append (X := cxComp2 X x x' ns scope cl s3 (upd H s.heap.objs.size (.lst [])) fp) _ s9 _ H9 (.ref s.heap.objs.size) [y] _ [uy] (fun v H' => H' = upd H9 s.heap.objs.size (.lst (ys ++ [y]))) I9 rfl (.cons r9 .nil) ⟨_, ys, y, rfl, rfl, hacc, hz, rfl⟩) (fun _ s10 h10 => ?_) fun _ _ e => e.elim
        obtain ⟨v, H10, I10, _, rfl⟩ := h10
        exact ⟨m', hm, again I10 w9⟩
  exact codeAny_compStart_list (loop _ rfl) (T.self _ 0 _ _ _ st4 (loop _ rfl))
end
end L2

set_option maxRecDepth 100000
namespace L2
open PySem PySem.Spec PyProof.Rows
section
variable {ix : List Nat} {tc : TT} {te : TE} {σ : St} {H : Hp} {Q : VK}
end
def MeS1 (P : Program) (w : World) (K : PySem.W.Frag) (mg : Str → Option Value) (base : Heap) (k : Nat) (C : Addr) (m : Str) (ps : List Str) (sp : Sp) : Prop := Cls K C ∧ ∃ f fd, FnOk P w K mg base (CX1 P w) k f fd ps sp ∧ Binds K fd ps [] ∧ Meth K C m f
def tDyX (D : Addr → Prop) (m : Str) (sp : Sp) (ta : TE) (t : TA) : TEx := fun σ H Q E => ta σ H fun x H1 => ∃ a C dx fs, x = .ref a ∧ H1 a = some (.ins C dx fs) ∧ D C ∧ fs.lookup m = none ∧
  t σ H1 fun vs H2 => H2 a = some (.ins C dx fs) ∧ sp (x :: vs) H2 Q E
section
variable {X : Cx} {k k' : Nat} {m : Str} {ps : List Str} {sp : Sp} {e o : Expr} {es : List Expr} {ta : TE} {t : TA} {pos apos : Pos}
/-- o.m(..) under try -/
theorem pex_dy {pl : Sem Bool} {D : Addr → Prop} (hD : ∀ C, D C → MeS1 X.prog X.w X.K X.mg X.base k C m ps (spAt sp C)) (hr : Room k' X.A) (ho : PE X.nox o ta) (ha : PA X.nox (e :: es) t) (hk : k ≤ k' := by omega)
    (hst : starEach (e :: es) X.env = (false, eval e X.env) :: starEach es X.env := by rfl) (hpl : (backTo pos (starEach es X.env)).any (·.1) = false := by rfl)
    (ht : eval (.Call (.Attribute o m apos) (e :: es) [] pos) X.env = (do
      let ov ← eval o X.env
      standAt apos.atName
      let (f, first) ← holding [ov] (getMethod ov m pl)
      callWith pos f first (backTo pos (starEach (e :: es) X.env)) (backToKw pos (keywordEach [] X.env))) := by rfl) :
    PEx X (.Call (.Attribute o m apos) (e :: es) [] pos) (tDyX D m sp ta t) := by
  intro pins s σ H Q E I h
  refine PySem.W.methodCall_KW (pl := pl) (wpAny_mono (ho pins s σ H _ (I.wish _) h) (fun u s1 hu => ?_) fun _ _ z => False.elim z) ht
  obtain ⟨x, H1, I1', rx, a, C, dx, fs, ex, ea, hC, l, q⟩ := hu
  have I1 := I1'.unwish
  subst ex
  obtain rfl : u = Value.ref a := rx
  obtain ⟨c, f, fd, F, hb, hm⟩ := hD C hC
  refine getmeth_ok I1 ea c hm l ?_
  refine PySem.W.callWith_K (first := [.ref a]) (h₀ := X.base) I.ok.mod.kin hm.kp (wpAny_mono (ha pos pins s1 σ H1 _ (I1.wish _) q) (fun us s2 hu => ?_) fun _ _ z => False.elim z) hst hpl
  obtain ⟨vs, H2, I2', r, eb, q2⟩ := hu
  have I2 := I2'.unwish
  refine ⟨I2.kIn, ?_⟩
  exact run_fnx (us := .ref a :: us) (vs := .ref a :: vs) (dvs := []) F (hr.mono hk) hb .nil I2 (.cons rfl r) (by rw [List.append_nil]; exact ⟨q2, a, dx, fs, vs, rfl, eb⟩)
/-- no exception comes out of this call -/
theorem pe_dy1 {pl : Sem Bool} {D : Addr → Prop} (hD : ∀ C, D C → MeS1 X.prog X.w X.K X.mg X.base k C m ps (spAt sp C)) (hr : Room k' X.A) (ho : PE X o ta) (ha : PA X (e :: es) t) (hk : k ≤ k' := by omega)
    (hst : starEach (e :: es) X.env = (false, eval e X.env) :: starEach es X.env := by rfl) (hpl : (backTo pos (starEach es X.env)).any (·.1) = false := by rfl)
    (ht : eval (.Call (.Attribute o m apos) (e :: es) [] pos) X.env = (do
      let ov ← eval o X.env
      standAt apos.atName
      let (f, first) ← holding [ov] (getMethod ov m pl)
      callWith pos f first (backTo pos (starEach (e :: es) X.env)) (backToKw pos (keywordEach [] X.env))) := by rfl) :
    PE X (.Call (.Attribute o m apos) (e :: es) [] pos) (tDy D m sp ta t) := by
  intro pins s σ H Q I h
  refine PySem.W.methodCall_KW (pl := pl) (thn (ho pins s σ H _ I h) fun u s1 ⟨x, H1, I1, rx, a, C, dx, fs, ex, ea, hC, l, q⟩ => ?_) ht
  subst ex
  obtain rfl : u = Value.ref a := rx
  obtain ⟨c, f, fd, F, hb, hm⟩ := hD C hC
  refine getmeth_ok I1 ea c hm l ?_
  refine PySem.W.callWith_K (first := [.ref a]) (h₀ := X.base) I.ok.mod.kin hm.kp (thn (ha pos pins s1 σ H1 _ I1 q) fun us s2 ⟨vs, H2, I2, r, eb, q2⟩ => ⟨I2.kIn, ?_⟩) hst hpl
  exact run_fn (us := .ref a :: us) (vs := .ref a :: vs) (dvs := []) (E := E0) F (hr.mono hk) hb .nil pass10 I2 (.cons rfl r) (by rw [List.append_nil]; exact ⟨q2, a, dx, fs, vs, rfl, eb⟩)
end
theorem i_dyX {D : Addr → Prop} {m : Str} {sp : Sp} {ta : TE} {t : TA} {σ : St} {H : Hp} {Q : VK} {E : XK} (h : ta σ H fun x H1 => ∃ a C dx fs, x = .ref a ∧ H1 a = some (.ins C dx fs) ∧ D C ∧ fs.lookup m = none ∧
  t σ H1 fun vs H2 => H2 a = some (.ins C dx fs) ∧ sp (x :: vs) H2 Q E) : tDyX D m sp ta t σ H Q E := h
end L2

set_option maxRecDepth 100000
set_option maxHeartbeats 4000000
namespace L2
open PySem PySem.Spec PyProof.Rows
section
variable {X : Cx}
end
section
variable {X : Cx} {x x' : Str} {ns : List Str} {ix : List Nat} {sc scope : Scope} {N : List Str} {elt iter : Expr} {px px' tp pos : Pos} {tk : Nat} {ifs : List Expr} {tc : TT} {te : TE} {wi : TI}
theorem ps_comp2 {y : Str} {py spos : Pos} (i : Nat) (hNd : X.N.Nodup) (hsc : X.env.scope = sc) (hN : X.N = N) (C : CompOk2 sc N x x' ns ix scope) (hc : X.calm = true) (hi : PI X (.Tuple [.Name x px, .Name x' px'] tk tp) iter wi) (ht : ∀ cl s H ex, PTs (cxComp2 X x x' ns scope cl s H ex) ifs tc) (he : ∀ cl s H ex, PE (cxComp2 X x x' ns scope cl s H ex) elt te)
    (hs : ∀ v, foldedSetIterable iter X.env v = pure v := by intro _; rfl) (hy : X.N[i]? = some y := by rfl) (hl : X.env.scope.names.lookup y = some .local := by rfl)
    (hsw : swapsWith (.ListComp elt [⟨.Tuple [.Name x px, .Name x' px'] tk tp, iter, ifs, 0⟩] scope pos) (some (.Name y py)) spos.line X.env = pure true := by rfl) :
    PS X (.Assign [.Name y py] (.ListComp elt [⟨.Tuple [.Name x px, .Name x' px'] tk tp, iter, ifs, 0⟩] scope pos) spos) (tAsg (tComp2 wi ix tc te) (gName i)) := by
  intro pins s σ H D I h
  obtain ⟨cl, hclos, hcl, hcla⟩ := closure_ok (env := X.env) scope fun y hy hf => I.ok.has y.1 (by
    have := (C.2.1 y hy).2.2 hf
    rw [← hsc] at this
    exact this)
  rw [exec_Assign_Name_used _ _ _ _ hsw]
  refine wpAny_bind (wpAny_standAt (wpAny_bind ?_))
  show wpAny _ X.A (do let _ ← comprehension (.ListComp elt [⟨.Tuple [.Name x px, .Name x' px'] tk tp, iter, ifs, 0⟩] scope pos) scope X.env _ (newList []) false (eval iter X.env) (some (assign (.Name y py) X.env))) _ _ s
  refine wpAny_bind (wpAny_mono (wpAny_comprehension_free (use := some (assign (.Name y py) X.env)) (Q := fun _ s' => SP X pins D .next s') rfl hs hclos C.1 (fun y hy => (C.2.1 y hy).2.1)
    (thn (hi pins s σ H _ I h) fun v s1 h1 => thn h1 fun itv s2 h2 => ?_)) (fun _ s' hq => wpAny_pure (wpAny_pure hq)) fun _ _ e => e)
  obtain ⟨it, fp, tn, J, H2, rfl, I2, T, st2, f2, hg⟩ := h2
  refine comp_run2 (RR := fun ja C => compPost (model X.prog X.w) X.A X.xe (some (assign (.Name y py) X.env)) (fun _ s' => SP X pins D .next s') ja C) hsc hN C hc ht he I2 hcl hcla T st2 f2 hg ?_
  intro D' C' m s' H' I' hn' fC q
  obtain ⟨g0, g1, g2, g3, g4, g5⟩ := fC
  refine wpAny_assign_Name (store_ok2 I' hNd hy (.inl hl) (v := .ref D') rfl (fun s'' I'' hs'' => ?_) (.inr hl))
  obtain ⟨a, sb, ha⟩ := hs''
  have hne : C' ≠ a := by
    rcases ha with ha | ha
    · rw [ha]; exact g1
    · intro z; exact g4 y a ha z.symm
  exact ⟨m, hn'.sameBut sb hne, fun h' hs' => ⟨_, H', I''.turned (t' := s''.toks) (fun b o hb e => hs'.extBut b o hb e) g0 g1 g3 g4 g5, q⟩⟩
end
section
variable {ix : List Nat} {tc : TT} {te : TE} {σ : St} {H : Hp} {Q : VK} {K : PySem.W.Frag}
def CompS2 (K : PySem.W.Frag) (x : V) (ix : List Nat) (tc : TT) (te : TE) (σ : St) (Q : VK) (H1 : Hp) : Prop :=
  (∃ a xs, x = .ref a ∧ SqL K H1 a xs ∧ CompG2 (Itl K a) ix tc te σ Q H1) ∨ (∃ a xs, x = .ref a ∧ SqT K H1 a xs ∧ CompG2 (Itt K a) ix tc te σ Q H1) ∨ (∃ z, x = .str z ∧ CompG2 (Its z) ix tc te σ Q H1)
theorem i_compS2 {tl : TE} (h : tl σ H fun x H1 => CompS2 K x ix tc te σ Q H1) : tComp2 (iSeq K tl) ix tc te σ H Q := h
/-- [.. for a, b in l], l a list of pairs -/
theorem comp2_by {J : It} {xs : List V} (Pv : Nat → List V → Hp → Prop) (hw : Wk J xs H) (hz : xs.length ≤ 1000000) (hp : ∀ (i : Nat) (x : V), xs[i]? = some x → ∃ T va vb, x = .ref T ∧ H T = some (.tup [va, vb])) (h0 : ∀ H', Same H H' → Pv 0 [] H')
    (hm : ∀ i ys H1 H2, Ext H1 H2 → Pv i ys H1 → Pv i ys H2)
    (hs : ∀ (i : Nat) (T : Addr) (va vb : V) (ys : List V) (acc : Addr) (H' : Hp), xs[i]? = some (.ref T) → H T = some (.tup [va, vb]) → Same H H' → H acc = none → H' acc = some (.lst ys) → Pv i ys H' → ys.length ≤ i →
      ∀ R : Bool → Hp → Prop, (∀ b H2, Same H' H2 → (b = false → Pv (i + 1) ys H2) → (b = true → ∀ R2 : V → Hp → Prop, (∀ y H3, Same H2 H3 → Pv (i + 1) (ys ++ [y]) H3 → R2 y H3) → te (some va :: some vb :: subS σ ix) H2 R2) → R b H2) → tc (some va :: some vb :: subS σ ix) H' R)
    (hd : ∀ (acc : Addr) (ys : List V) (H' : Hp), H acc = none → Same H H' → H' acc = some (.lst ys) → Pv xs.length ys H' → Q (.ref acc) H') : CompG2 J ix tc te σ Q H := by
  intro acc hacc
  have sU : ∀ {H2 : Hp} (o : HO), Same H H2 → Same H (upd H2 acc o) := fun o s b u e => by rw [upd_ne (ne_of_none e hacc)]; exact s b u e
  refine ⟨fun i m ys H' => m = xs.length - i ∧ i ≤ xs.length ∧ Same H H' ∧ H' acc = some (.lst ys) ∧ Pv i ys H' ∧ ys.length ≤ i, ⟨xs.length, by simp, Nat.zero_le _, same_new hacc _, upd_same, h0 _ (same_new hacc _), Nat.le_refl _⟩, ?_⟩
  rintro i m ys H' ⟨rfl, hi, sm, ea, pv, hy⟩
  by_cases hlt : i < xs.length
  · obtain ⟨go, yl⟩ := (hw H' sm).1 i hlt
    refine .inr ⟨go, fun x H2 y => ?_⟩
    obtain ⟨rfl, hx⟩ := yl x H2 y
    obtain ⟨T, va, vb, rfl, eT⟩ := hp i x hx
    refine ⟨T, va, vb, rfl, sm _ _ eT, ?_⟩
    refine hs i T va vb ys acc _ hx eT sm hacc ea pv hy _ fun b H3 s3 pf pt => ?_
    cases b with
    | false =>
      rw [if_neg Bool.false_ne_true]
      exact ⟨xs.length - (i + 1), by omega, rfl, hlt, sm.trans s3, s3 _ _ ea, pf rfl, Nat.le_succ_of_le hy⟩
    | true =>
      rw [if_pos rfl]
      refine pt rfl _ fun y H4 s4 py => ?_
      have ea4 := s4 _ _ (s3 _ _ ea)
      refine ⟨ea4, smallL (by omega), xs.length - (i + 1), by omega, rfl, hlt, sU _ (sm.trans (s3.trans s4)), upd_same, hm _ _ _ _ (Ext.lst ea4 _) py, ?_⟩
      rw [List.length_append, List.length_singleton]
      omega
  · have e : i = xs.length := by omega
    subst e
    exact .inl ⟨(hw H' sm).2, hd acc ys H' hacc sm ea pv⟩
end
section
variable {X : Cx} {k k' : Nat} {m : Str} {ps : List Str} {sp : Sp} {e o : Expr} {es : List Expr} {ta : TE} {t : TA} {pos apos : Pos} {E : XK}
end
section
variable {X : Cx} {a : Expr} {ta : TE} {pos : Pos}
def tFmtI (ta : TE) : TE := fun σ H Q => ta σ H fun x H1 => ∃ i : Int, x = .int i ∧ i.natAbs.log2 < 1920 ∧ Q (.str (Str.ofString (toString i))) H1
theorem pe_fmtI (ha : PE X a ta) : PE X (.FormattedValue a (-1) none pos) (tFmtI ta) := by
  intro pins s σ H Q I h
  refine FormattedValue_plain (thn (ha pins s σ H _ I h) fun v s1 ⟨x, H1, I1, r1, i, ex, hz, q⟩ => ?_)
  subst ex
  obtain ⟨t, rfl⟩ := r1
  exact PySem.wpAny_formatField_int hz ⟨.str _, H1, I1.tok _, ⟨_, rfl⟩, q⟩
theorem i_fmtI {σ : St} {H : Hp} {Q : VK} (h : ta σ H fun x H1 => ∃ i : Int, x = .int i ∧ i.natAbs.log2 < 1920 ∧ Q (.str (Str.ofString (toString i))) H1) : tFmtI ta σ H Q := h
theorem log_small {i : Int} (h : i.natAbs < 2 ^ 200) : i.natAbs.log2 < 1920 := by
  by_cases e : i.natAbs = 0
  · rw [e]; decide
  · exact (Nat.log2_lt e).mpr (Nat.lt_of_lt_of_le h (Nat.pow_le_pow_right (by decide) (by decide)))
theorem int_len {i : Int} (h : i.natAbs.log2 < 1920) : (Str.ofString (toString i)).length ≤ 1921 := by
  have := int_text_length_le (a := i) (k := 1920) (by decide) h
  rw [PySem.ofString_length]
  exact this
end
end L2

set_option maxRecDepth 100000
set_option maxHeartbeats 4000000
namespace L2
open PySem PySem.Spec PyProof.Rows
section
variable {X : Cx} {pins : List (Addr × Obj)} {σ : St} {H : Hp} {s : Shared} {h' : Heap}
/-- one local name is forgotten -/
theorem Inv.forgot1 {t' : Nat} {i : Nat} {n : Str} {m : Str → Option Value} {v0 : Option Value} (I : Inv X pins σ H s) (hN : X.N.Nodup) (hi : X.N[i]? = some n)
    (hl : ∀ (j : Nat) (x : Str) (v : V), X.N[j]? = some x → σ[j]? = some (some v) → Vis X.env.scope x → ∃ u, RelV v u ∧ Look X.env s.heap m x u)
    (hn' : h'.Ns X.env.locals (fun x => if x = n then v0 else m x)) (hs : Heap.SameBut X.env.locals s.heap h') : Inv X pins (σ.set i none) H { s with heap := h', toks := t' } := by
  have J := I.forgot (t' := t') hn' hs
  refine ⟨J.ok, J.os, J.bare, J.base, ⟨_, hn', fun j y v' e1 e2 e3 => ?_⟩, J.cell, J.free, J.freeC, J.pin, J.hok, by rw [List.length_set]; exact I.len⟩
  have hji : j ≠ i := fun e => by
    subst e
    rw [List.getElem?_set] at e2
    split at e2
    · split at e2 <;> cases e2
    · rename_i z; exact z rfl
  rw [List.getElem?_set, if_neg (Ne.symm hji)] at e2
  have hyn : y ≠ n := fun e => by
    subst e
    have hjl := (List.getElem?_eq_some_iff.mp e1).1
    exact hji ((List.getElem?_inj hjl hN).mp (e1.trans hi.symm))
  obtain ⟨u, r, l⟩ := hl j y v' e1 e2 e3
  refine ⟨u, r, ?_⟩
  rcases l with ⟨k1, k2⟩ | ⟨k1, c, k2, k3⟩
  · exact .inl ⟨k1, by show (if y = n then v0 else m y) = _; rw [if_neg hyn]; exact k2⟩
  · obtain ⟨o, ho, hd⟩ := k3
    exact .inr ⟨k1, c, k2, ⟨o, (hs.2 c (I.cne y c k2)).trans ho, hd⟩⟩
end
def tAsN (K : PySem.W.Frag) (i : Nat) (ts : Addr → Addr → TS) : Addr → TS := fun C D σ H => ExcK K C ∧ ∀ ea, ts ea C { nx := fun σ' H' => D.nx (σ'.set i none) H', rt := D.rt } (σ.set i (some (.ref ea))) H
section
variable {X : Cx} {N : Str} {C' : Addr} {np pos : Pos} {b₀ : Stmt} {suite : List Stmt} {rest : List ExceptHandler} {ts tr : Addr → TS}
/-- except N as n: suite, and the suite goes on behind -/
theorem ph_excAsN {i : Nat} {n : Str} {ts : Addr → Addr → TS} (cn : Clause X N C') (hN : X.N.Nodup) (hi : X.N[i]? = some n) (hx : X.env.scope.names.lookup n = some .local)
    (hs : ∀ ea oe C pn', (ea, oe) ∈ pn' → oe.cls = .ref C → oe.dict = none → PySem.W.notCls oe = true → ExcK X.K C → PSs (X.hand ea pn') (b₀ :: suite) (ts ea C)) (hr : PH X rest tr) :
    PH X (.ExceptHandler (some (.Name N np)) (some n) (b₀ :: suite) pos :: rest) (tHand X.K C' (tAsN X.K i ts) tr) := by
  intro pins s σ H D ea T C c h
  obtain ⟨b, eb, h1, h2⟩ := h
  obtain ⟨oe, IA, nc⟩ := c.inst
  have J := c.hand IA nc
  refine wpAny_handleBy_cons (codeAny_handlers_test (ld_glob (X := X.hand ea (X.pn ++ pins ++ [(ea, oe)])) J cn.gl cn.mg ?_ cn.db)) (by intro q; cases q)
  obtain ⟨hp, g, d, t, os⟩ := s
  refine exc_matches c.inv.kIn IA cn.ty cn.cl cn.mb eb ?_
  cases b with
  | false => exact hr pins _ σ H D ea T C c (h2 rfl)
  | true =>
    refine codeAny_handlers_suite_as (caught_flight c fun h' c' => ?_)
    obtain ⟨oe', IA', nc'⟩ := c'.inst
    have J' := c'.hand IA' nc'
    refine store_ok (X := X.hand ea (X.pn ++ pins ++ [(ea, oe')])) (v := .ref ea) J' hN hi (.inl hx) rfl (fun s1 I1 => ?_) (.inr hx)
    have hd : oe'.dict = none := by
      have z := IA'.dict
      cases q : oe'.dict with
      | none => rfl
      | some y => rw [q] at z; exact z.elim
    refine wpAny_mono (hs ea oe' C _ (List.mem_append_right _ (List.mem_singleton.mpr rfl)) IA'.cls hd IA'.no (h1 rfl).1 [] _ _ H _ I1 ((h1 rfl).2 ea)) (fun f s2 q => ?_) fun _ _ z => False.elim z
    have q' := SP.unhand c.inv.ok q
    cases f with
    | next =>
      obtain ⟨σ', H', I2, z⟩ := q'
      obtain ⟨m, hn, hl⟩ := id I2.loc
      refine wpAny_nameGoes_keeps hx hn (by rw [I2.ok.kind]; rfl) fun h3 m3 hn3 hs3 => ?_
      exact ⟨_, H', I2.forgot1 (t' := s2.toks + 1) hN hi hl hn3 hs3, z⟩
    | brk => obtain ⟨_, _, _, z⟩ := q'; exact False.elim z
    | cont => obtain ⟨_, _, _, z⟩ := q'; exact False.elim z
    | ret u =>
      obtain ⟨v, σ', H', I2, r, z⟩ := q'
      obtain ⟨m, hn, _⟩ := id I2.loc
      refine wpAny_nameGoes hx hn (by rw [I2.ok.kind]; rfl) fun h3 m3 hn3 hs3 => ?_
      exact ⟨v, _, H', I2.forgot (t' := s2.toks + 1) hn3 hs3, r, z⟩
theorem i_asN {K : PySem.W.Frag} {i : Nat} {ts : Addr → Addr → TS} {C : Addr} {D : Ends} {σ : St} {H : Hp} (e : ExcK K C) (h : ∀ ea, ts ea C { nx := fun σ' H' => D.nx (σ'.set i none) H', rt := D.rt } (σ.set i (some (.ref ea))) H) : tAsN K i ts C D σ H := ⟨e, h⟩
end
end L2

open PySem L2
local macro_rules | `(tactic| walk_at "side") => `(tactic| first | omega | (show (_ : Int) < _; omega) | exact ⟨by omega, by omega⟩ | exact ⟨by omega, by omega, by decide⟩)
local macro_rules | `(tactic| walk_at "rd1") => `(tactic| first
  | (with_reducible first | refine i_seq ?_ | refine i_asg ?_ | refine i_op ?_ | refine i_c ?_ | refine i_cons ?_ | refine i_nil ?_ | refine i_ifs ?_ | refine i_ret ?_ | refine i_fn ?_ | refine i_cb ?_ | refine i_test ?_ | refine i_exb ?_ | refine i_exi ?_ | refine i_truB ?_ | refine i_dy ?_ | refine i_mk ?_ | refine i_fld ?_ | refine i_sfld ?_ | refine i_drop ?_ | refine i_next ?_ | refine i_retN ?_ | refine i_brk ?_ | refine i_cont ?_ | refine i_un ?_ | refine i_and ?_ | refine i_or ?_ | refine i_not ?_ | refine i_andV ?_ | refine i_orV ?_ | refine i_notG ?_ | refine i_if ?_ | refine i_tup ?_ | refine i_lst ?_ | refine i_bm ?_ | refine i_bm0 ?_ | refine i_sl ?_ | refine i_part ?_ | refine i_noPart ?_ | refine i_forR1 ?_ | refine i_forR2 ?_ | refine i_forR3 ?_ | refine i_compR3 ?_ | refine i_listrev ?_ | refine i_forS ?_ | refine i_forE ?_ | refine i_forEX ?_ | refine i_forRep ?_ | refine i_forD ?_ | refine i_compD ?_ | refine i_compS2 ?_ | refine i_fmtI ?_ | refine i_dyP ?_ | refine i_listrng ?_ | refine i_frz ?_ | refine i_addF ?_ | refine i_forZ ?_ | refine i_forV ?_ | refine i_bitlen ?_ | refine i_chain ?_ | refine i_truI ?_ | refine i_compR1 ?_ | refine i_compR2 ?_ | refine i_compS ?_ | refine i_noif ?_ | refine i_rI0 ?_ | refine i_addI ?_ | refine i_rU ?_ | refine i_eqAI ?_ | refine i_eqAS ?_ | refine i_eqAB ?_ | refine i_neAI ?_ | refine i_neAS ?_ | refine i_neAB ?_ | refine i_fs ?_ | refine i_gsub ?_ | refine i_jc ?_ | refine i_fmt ?_ | refine i_fmtR ?_ | refine i_eqI ?_ | refine i_eqS ?_ | refine i_eqB ?_ | refine i_neI ?_ | refine i_neS ?_ | refine i_neB ?_ | refine i_intI ?_ | refine i_intB ?_ | refine i_max ?_ | refine i_min ?_)
  | ((with_reducible refine i_name ?_); (try dsimp only [List.set_cons_succ, List.set_cons_zero]))
  | ((with_reducible refine' i_var ?hv ?_); (case hv => exact rfl))
  | ((with_reducible refine i_rI ?hc ?_); (case hc => walk_at "side"))
  | ((with_reducible refine' i_lenS ?hc ?_); (case hc => assumption))
  | ((with_reducible refine' i_lenL ?hc ?_); (case hc => assumption))
  | ((with_reducible refine' i_lenT ?hc ?_); (case hc => assumption))
  | ((with_reducible refine' i_isiT ?ht ?he ?_); (case ht => first | exact TyOf.bl _ | exact TyOf.int _ | exact TyOf.str _ | exact TyOf.non | exact TyOf.lst (by assumption) | exact TyOf.tup (by assumption)); (case he => first | exact kit_self _ _ | exact kit_int_bool _ | exact kit_bool_int _ | exact kit_str_bool _ | exact kit_str_int _ | exact kit_list_int _ | exact kit_list_bool _ | exact kit_none_int _ | exact kit_none_list _ | exact kit_none_str _ | exact kit_none_tuple _ | exact kit_list_tuple _ | exact kit_tuple_list _ | exact kit_str_list _ | exact kit_int_str _ | exact kit_int_list _ | exact kit_bool_str _ | exact kit_bool_list _ | exact kit_int_tuple _ | exact kit_str_tuple _ | exact kit_bool_tuple _ | exact kit_tuple_int _ | exact kit_tuple_bool _ | exact kit_tuple_str _ | exact kit_list_str _ | exact kit_none_bool _)))
local macro_rules | `(tactic| walk_at "rs1") => `(tactic| first
  | (with_reducible first | refine i_asg ?_ | refine i_op ?_ | refine i_c ?_ | refine i_cons ?_ | refine i_nil ?_ | refine i_ifs ?_ | refine i_ret ?_ | refine i_fn ?_ | refine i_cb ?_ | refine i_test ?_ | refine i_exb ?_ | refine i_exi ?_ | refine i_truB ?_ | refine i_dy ?_ | refine i_mk ?_ | refine i_fld ?_ | refine i_sfld ?_ | refine i_drop ?_ | refine i_next ?_ | refine i_retN ?_ | refine i_brk ?_ | refine i_cont ?_ | refine i_un ?_ | refine i_and ?_ | refine i_or ?_ | refine i_not ?_ | refine i_andV ?_ | refine i_orV ?_ | refine i_notG ?_ | refine i_if ?_ | refine i_tup ?_ | refine i_lst ?_ | refine i_bm ?_ | refine i_bm0 ?_ | refine i_sl ?_ | refine i_part ?_ | refine i_noPart ?_ | refine i_forR1 ?_ | refine i_forR2 ?_ | refine i_forR3 ?_ | refine i_compR3 ?_ | refine i_listrev ?_ | refine i_forS ?_ | refine i_forE ?_ | refine i_forEX ?_ | refine i_forRep ?_ | refine i_forD ?_ | refine i_compD ?_ | refine i_compS2 ?_ | refine i_fmtI ?_ | refine i_dyP ?_ | refine i_listrng ?_ | refine i_frz ?_ | refine i_addF ?_ | refine i_forZ ?_ | refine i_forV ?_ | refine i_bitlen ?_ | refine i_chain ?_ | refine i_truI ?_ | refine i_compR1 ?_ | refine i_compR2 ?_ | refine i_compS ?_ | refine i_noif ?_ | refine i_rI0 ?_ | refine i_addI ?_ | refine i_rU ?_ | refine i_eqAI ?_ | refine i_eqAS ?_ | refine i_eqAB ?_ | refine i_neAI ?_ | refine i_neAS ?_ | refine i_neAB ?_ | refine i_fs ?_ | refine i_gsub ?_ | refine i_jc ?_ | refine i_fmt ?_ | refine i_fmtR ?_ | refine i_eqI ?_ | refine i_eqS ?_ | refine i_eqB ?_ | refine i_neI ?_ | refine i_neS ?_ | refine i_neB ?_ | refine i_intI ?_ | refine i_intB ?_ | refine i_max ?_ | refine i_min ?_)
  | ((with_reducible refine i_name ?_); (try dsimp only [List.set_cons_succ, List.set_cons_zero]))
  | ((with_reducible refine' i_var ?hv ?_); (case hv => exact rfl))
  | ((with_reducible refine i_rI ?hc ?_); (case hc => walk_at "side"))
  | ((with_reducible refine' i_lenS ?hc ?_); (case hc => assumption))
  | ((with_reducible refine' i_lenL ?hc ?_); (case hc => assumption))
  | ((with_reducible refine' i_lenT ?hc ?_); (case hc => assumption))
  | ((with_reducible refine' i_isiT ?ht ?he ?_); (case ht => first | exact TyOf.bl _ | exact TyOf.int _ | exact TyOf.str _ | exact TyOf.non | exact TyOf.lst (by assumption) | exact TyOf.tup (by assumption)); (case he => first | exact kit_self _ _ | exact kit_int_bool _ | exact kit_bool_int _ | exact kit_str_bool _ | exact kit_str_int _ | exact kit_list_int _ | exact kit_list_bool _ | exact kit_none_int _ | exact kit_none_list _ | exact kit_none_str _ | exact kit_none_tuple _ | exact kit_list_tuple _ | exact kit_tuple_list _ | exact kit_str_list _ | exact kit_int_str _ | exact kit_int_list _ | exact kit_bool_str _ | exact kit_bool_list _ | exact kit_int_tuple _ | exact kit_str_tuple _ | exact kit_bool_tuple _ | exact kit_tuple_int _ | exact kit_tuple_bool _ | exact kit_tuple_str _ | exact kit_list_str _ | exact kit_none_bool _)))
local macro_rules | `(tactic| walk_at "rs") => `(tactic| repeat walk_at "rs1")
local macro_rules | `(tactic| walk_at "hp") => `(tactic| first | assumption | solve_by_elim (maxDepth := 16) only [*, ne_of_none])
local macro_rules | `(tactic| walk_at "rd0") => `(tactic| ((try dsimp only [cxOf]); (try simp only [L2.start, List.map_cons, List.map_nil, List.length_cons, List.length_nil, Nat.reduceAdd, Nat.reduceSub, List.replicate_zero, List.append_nil, List.cons_append, List.nil_append, List.replicate_succ]); (repeat walk_at "rd1")))
local macro_rules | `(tactic| walk_at "rd") => `(tactic| repeat walk_at "rd1")
local macro_rules | `(tactic| walk_at "tst") => `(tactic| repeat first | walk_at "rd1" | refine i_ifT (decide_eq_true (by omega)) ?_ | refine i_ifF (decide_eq_false (by omega)) ?_ | refine i_ifF rfl ?_ | refine i_ifT rfl ?_ | refine ⟨_, rfl, ?_⟩)

set_option maxRecDepth 100000
set_option maxHeartbeats 4000000
open PySem L2

namespace LW
open PySem L2 EM
def top (i : Nat) : Stmt := PySem.Challenge.pw_evernever_k15_which_and_walked.main.body.getD i (.Pass ⟨0, 0, 0, 0⟩)
abbrev s__law_cell_at : Stmt := top 28
abbrev s__law_lit : Stmt := top 29
abbrev s__law_recipe : Stmt := top 30
abbrev s__law_made : Stmt := top 31
abbrev s__law_due : Stmt := top 32
abbrev s__law_changes : Stmt := top 33
abbrev s__law_onward : Stmt := top 34
abbrev s__law_first : Stmt := top 35
abbrev s__law_machines : Stmt := top 36
abbrev s__law_walk : Stmt := top 37
abbrev s__law_wrong : Stmt := top 38
abbrev s__law_of_others : Stmt := top 39
abbrev s__law_refused : Stmt := top 40
abbrev s__law_which : Stmt := top 41
abbrev s__law_whichs : Stmt := top 42
abbrev s_law : Stmt := top 43
abbrev s_Move_init : Stmt := inClass (top 16) 0
abbrev s_Move_fits : Stmt := inClass (top 16) 1
abbrev s_Move_onward : Stmt := inClass (top 16) 2
abbrev s_Machine_init : Stmt := inClass (top 17) 0
abbrev s_Machine_which : Stmt := inClass (top 17) 3
abbrev s_Machine_walked : Stmt := inClass (top 17) 4
abbrev s_Lamp_init : Stmt := inClass (top 20) 0
abbrev s_Lamp_holds : Stmt := inClass (top 20) 1
abbrev s_Sure_init : Stmt := inClass (top 21) 0
abbrev s_Sure_holds : Stmt := inClass (top 21) 1
abbrev s_Not_init : Stmt := inClass (top 22) 0
abbrev s_Not_holds : Stmt := inClass (top 22) 1
abbrev s_Joined_init : Stmt := inClass (top 23) 0
abbrev s_And_holds : Stmt := inClass (top 24) 2
abbrev s_Either_holds : Stmt := inClass (top 25) 2
abbrev s_Or_holds : Stmt := inClass (top 26) 2
theorem sc__law_cell_at : FnScope ["_law_script", "_law_k"] ["_law_script", "_law_k"] (defScope s__law_cell_at) := ⟨rfl, rfl, rfl, by decide +kernel, rfl, by decide +kernel, by decide +kernel⟩
theorem sc__law_lit : FnScope ["_law_stand", "_law_lamp"] ["_law_stand", "_law_lamp"] (defScope s__law_lit) := ⟨rfl, rfl, rfl, by decide +kernel, rfl, by decide +kernel, by decide +kernel⟩
theorem sc__law_recipe : FnScope ["_law_cell", "_law_many"] ["_law_cell", "_law_many"] (defScope s__law_recipe) := ⟨rfl, rfl, rfl, by decide +kernel, rfl, by decide +kernel, by decide +kernel⟩
theorem sc__law_made : FnScope ["_law_recipe_here", "_law_one", "_law_other"] ["_law_recipe_here"] (defScope s__law_made) := ⟨rfl, rfl, rfl, by decide +kernel, rfl, by decide +kernel, by decide +kernel⟩
theorem sc__law_due : FnScope ["_law_recipe_here", "_law_stand", "_law_one", "_law_other"] ["_law_recipe_here", "_law_stand"] (defScope s__law_due) := ⟨rfl, rfl, rfl, by decide +kernel, rfl, by decide +kernel, by decide +kernel⟩
theorem sc__law_changes : FnScope ["_law_cell", "_law_many", "_law_lamp", "_law_changes_here"] ["_law_cell", "_law_many"] (defScope s__law_changes) := ⟨rfl, rfl, rfl, by decide +kernel, rfl, by decide +kernel, by decide +kernel⟩
theorem sc__law_onward : FnScope ["_law_stand", "_law_changes_here", "_law_there", "_law_lamp", "_law_recipe_here", "_law_turn"] ["_law_stand", "_law_changes_here"] (defScope s__law_onward) := ⟨rfl, rfl, rfl, by decide +kernel, rfl, by decide +kernel, by decide +kernel⟩
theorem sc__law_first : FnScope ["_law_moves", "_law_stand", "_law_other", "_law_k"] ["_law_moves", "_law_stand", "_law_other"] (defScope s__law_first) := ⟨rfl, rfl, rfl, by decide +kernel, rfl, by decide +kernel, by decide +kernel⟩
theorem sc__law_machines : FnScope ["_law_many", "_law_moves", "_law_handed", "_law_guard", "_law_changes_here", "_law_some", "_law_names", "_law_machine", "_law_other"] ["_law_many", "_law_moves"] (defScope s__law_machines) := ⟨rfl, rfl, rfl, by decide +kernel, rfl, by decide +kernel, by decide +kernel⟩
theorem sc__law_walk : FnScope ["_law_moves", "_law_stand", "_law_cells", "_law_passed", "_law_picks", "_law_cell", "_law_fitting"] ["_law_moves", "_law_stand", "_law_cells"] (defScope s__law_walk) := ⟨rfl, rfl, rfl, by decide +kernel, rfl, by decide +kernel, by decide +kernel⟩
theorem sc__law_wrong : FnScope ["_law_moves", "_law_stand", "_law_way", "_law_more", "_law_unfit", "_law_far"] ["_law_moves", "_law_stand", "_law_way", "_law_more"] (defScope s__law_wrong) := ⟨rfl, rfl, rfl, by decide +kernel, rfl, by decide +kernel, by decide +kernel⟩
theorem sc__law_of_others : FnScope ["_law_e"] ["_law_e"] (defScope s__law_of_others) := ⟨rfl, rfl, rfl, by decide +kernel, rfl, by decide +kernel, by decide +kernel⟩
theorem sc__law_refused : FnScope ["_law_machine", "_law_stand", "_law_picks", "_law_refused_here", "_law_rightly", "_law_e"] ["_law_machine", "_law_stand", "_law_picks"] (defScope s__law_refused) := ⟨rfl, rfl, rfl, by decide +kernel, rfl, by decide +kernel, by decide +kernel⟩
theorem sc__law_which : FnScope ["_law_machine", "_law_moves", "_law_stand", "_law_other", "_law_found", "_law_due_here"] ["_law_machine", "_law_moves", "_law_stand", "_law_other"] (defScope s__law_which) := ⟨rfl, rfl, rfl, by decide +kernel, rfl, by decide +kernel, by decide +kernel⟩
theorem sc__law_whichs : FnScope ["_law_machine", "_law_moves", "_law_passed", "_law_beside", "_law_k", "_law_guard", "_law_changes_here"] ["_law_machine", "_law_moves", "_law_passed", "_law_beside"] (defScope s__law_whichs) := ⟨rfl, rfl, rfl, by decide +kernel, rfl, by decide +kernel, by decide +kernel⟩
theorem sc_law : FnScope ["_law_script", "_law_first_here", "_law_many", "_law_count", "_law_second", "_law_moves", "_law_k", "_law_guard", "_law_machine", "_law_other", "_law_stand", "_law_passed", "_law_picks", "_law_place", "_law_wrong_here", "_law_handed", "_law_found", "_law_beside"] ["_law_script"] (defScope s_law) := ⟨rfl, rfl, rfl, by decide +kernel, rfl, by decide +kernel, by decide +kernel⟩
theorem sc_Move_init : FnScope ["self", "guard", "changes"] ["self", "guard", "changes"] (defScope s_Move_init) := ⟨rfl, rfl, rfl, by decide +kernel, rfl, by decide +kernel, by decide +kernel⟩
theorem sc_Move_fits : FnScope ["self", "stand"] ["self", "stand"] (defScope s_Move_fits) := ⟨rfl, rfl, rfl, by decide +kernel, rfl, by decide +kernel, by decide +kernel⟩
theorem sc_Move_onward : FnScope ["self", "stand", "found", "lamp", "formula"] ["self", "stand"] (defScope s_Move_onward) := ⟨rfl, rfl, rfl, by decide +kernel, rfl, by decide +kernel, by decide +kernel⟩
theorem sc_Machine_init : FnScope ["self", "names", "starts", "bads", "moves"] ["self", "names", "starts", "bads", "moves"] (defScope s_Machine_init) := ⟨rfl, rfl, rfl, by decide +kernel, rfl, by decide +kernel, by decide +kernel⟩
theorem sc_Machine_which : FnScope ["self", "stand", "other", "number", "move"] ["self", "stand", "other"] (defScope s_Machine_which) := ⟨rfl, rfl, rfl, by decide +kernel, rfl, by decide +kernel, by decide +kernel⟩
theorem sc_Machine_walked : FnScope ["self", "stand", "picks", "passed", "pick", "move"] ["self", "stand", "picks"] (defScope s_Machine_walked) := ⟨rfl, rfl, rfl, by decide +kernel, rfl, by decide +kernel, by decide +kernel⟩
theorem sc_Lamp_init : FnScope ["self", "at"] ["self", "at"] (defScope s_Lamp_init) := ⟨rfl, rfl, rfl, by decide +kernel, rfl, by decide +kernel, by decide +kernel⟩
theorem sc_Lamp_holds : FnScope ["self", "stand"] ["self", "stand"] (defScope s_Lamp_holds) := ⟨rfl, rfl, rfl, by decide +kernel, rfl, by decide +kernel, by decide +kernel⟩
theorem sc_Sure_init : FnScope ["self", "truth"] ["self", "truth"] (defScope s_Sure_init) := ⟨rfl, rfl, rfl, by decide +kernel, rfl, by decide +kernel, by decide +kernel⟩
theorem sc_Sure_holds : FnScope ["self", "stand"] ["self", "stand"] (defScope s_Sure_holds) := ⟨rfl, rfl, rfl, by decide +kernel, rfl, by decide +kernel, by decide +kernel⟩
theorem sc_Not_init : FnScope ["self", "part"] ["self", "part"] (defScope s_Not_init) := ⟨rfl, rfl, rfl, by decide +kernel, rfl, by decide +kernel, by decide +kernel⟩
theorem sc_Not_holds : FnScope ["self", "stand"] ["self", "stand"] (defScope s_Not_holds) := ⟨rfl, rfl, rfl, by decide +kernel, rfl, by decide +kernel, by decide +kernel⟩
theorem sc_Joined_init : FnScope ["self", "parts"] ["self", "parts"] (defScope s_Joined_init) := ⟨rfl, rfl, rfl, by decide +kernel, rfl, by decide +kernel, by decide +kernel⟩
theorem sc_And_holds : FnScope ["self", "stand", "part"] ["self", "stand"] (defScope s_And_holds) := ⟨rfl, rfl, rfl, by decide +kernel, rfl, by decide +kernel, by decide +kernel⟩
theorem sc_Either_holds : FnScope ["self", "stand", "odd", "part"] ["self", "stand"] (defScope s_Either_holds) := ⟨rfl, rfl, rfl, by decide +kernel, rfl, by decide +kernel, by decide +kernel⟩
theorem sc_Or_holds : FnScope ["self", "stand", "part"] ["self", "stand"] (defScope s_Or_holds) := ⟨rfl, rfl, rfl, by decide +kernel, rfl, by decide +kernel, by decide +kernel⟩
/-- the addresses of what the top has made -/
structure Ad where
  f__law_cell_at : Addr
  d__law_cell_at : FuncData
  f__law_lit : Addr
  d__law_lit : FuncData
  f__law_recipe : Addr
  d__law_recipe : FuncData
  f__law_made : Addr
  d__law_made : FuncData
  f__law_due : Addr
  d__law_due : FuncData
  f__law_changes : Addr
  d__law_changes : FuncData
  f__law_onward : Addr
  d__law_onward : FuncData
  f__law_first : Addr
  d__law_first : FuncData
  f__law_machines : Addr
  d__law_machines : FuncData
  f__law_walk : Addr
  d__law_walk : FuncData
  f__law_wrong : Addr
  d__law_wrong : FuncData
  f__law_of_others : Addr
  d__law_of_others : FuncData
  f__law_refused : Addr
  d__law_refused : FuncData
  f__law_which : Addr
  d__law_which : FuncData
  f__law_whichs : Addr
  d__law_whichs : FuncData
  f_law : Addr
  d_law : FuncData
  f_Move_init : Addr
  d_Move_init : FuncData
  f_Move_fits : Addr
  d_Move_fits : FuncData
  f_Move_onward : Addr
  d_Move_onward : FuncData
  f_Machine_init : Addr
  d_Machine_init : FuncData
  f_Machine_which : Addr
  d_Machine_which : FuncData
  f_Machine_walked : Addr
  d_Machine_walked : FuncData
  f_Lamp_init : Addr
  d_Lamp_init : FuncData
  f_Lamp_holds : Addr
  d_Lamp_holds : FuncData
  f_Sure_init : Addr
  d_Sure_init : FuncData
  f_Sure_holds : Addr
  d_Sure_holds : FuncData
  f_Not_init : Addr
  d_Not_init : FuncData
  f_Not_holds : Addr
  d_Not_holds : FuncData
  f_Joined_init : Addr
  d_Joined_init : FuncData
  f_And_holds : Addr
  d_And_holds : FuncData
  f_Either_holds : Addr
  d_Either_holds : FuncData
  f_Or_holds : Addr
  d_Or_holds : FuncData
  C_Move : Addr
  C_Machine : Addr
  C_Formula : Addr
  C_Lamp : Addr
  C_Sure : Addr
  C_Not : Addr
  C_Joined : Addr
  C_And : Addr
  C_Either : Addr
  C_Or : Addr
  C_NoStep : Addr
  C_NoBar : Addr
  C_NoChart : Addr
  C_NoFence : Addr
  C_NoFormula : Addr
  C_NoFrame : Addr
  C_NoLine : Addr
  C_NoMachine : Addr
  C_NoName : Addr
  C_NotShut : Addr
  C_NothingLeft : Addr
  C_TooMany : Addr
  C_EverError : Addr
/-- what the top has written -/
structure Txt (K : PySem.W.Frag) (mg : Str → Option Value) (t : Ad) : Prop where
  F__law_cell_at : Fun K "_law_cell_at" "_law_cell_at" s__law_cell_at t.f__law_cell_at t.d__law_cell_at
  b__law_cell_at : Binds K t.d__law_cell_at ["_law_script", "_law_k"] []
  m__law_cell_at : mg "_law_cell_at" = some (.ref t.f__law_cell_at)
  F__law_lit : Fun K "_law_lit" "_law_lit" s__law_lit t.f__law_lit t.d__law_lit
  b__law_lit : Binds K t.d__law_lit ["_law_stand", "_law_lamp"] []
  m__law_lit : mg "_law_lit" = some (.ref t.f__law_lit)
  F__law_recipe : Fun K "_law_recipe" "_law_recipe" s__law_recipe t.f__law_recipe t.d__law_recipe
  b__law_recipe : Binds K t.d__law_recipe ["_law_cell", "_law_many"] []
  m__law_recipe : mg "_law_recipe" = some (.ref t.f__law_recipe)
  F__law_made : Fun K "_law_made" "_law_made" s__law_made t.f__law_made t.d__law_made
  b__law_made : Binds K t.d__law_made ["_law_recipe_here"] []
  m__law_made : mg "_law_made" = some (.ref t.f__law_made)
  F__law_due : Fun K "_law_due" "_law_due" s__law_due t.f__law_due t.d__law_due
  b__law_due : Binds K t.d__law_due ["_law_recipe_here", "_law_stand"] []
  m__law_due : mg "_law_due" = some (.ref t.f__law_due)
  F__law_changes : Fun K "_law_changes" "_law_changes" s__law_changes t.f__law_changes t.d__law_changes
  b__law_changes : Binds K t.d__law_changes ["_law_cell", "_law_many"] []
  m__law_changes : mg "_law_changes" = some (.ref t.f__law_changes)
  F__law_onward : Fun K "_law_onward" "_law_onward" s__law_onward t.f__law_onward t.d__law_onward
  b__law_onward : Binds K t.d__law_onward ["_law_stand", "_law_changes_here"] []
  m__law_onward : mg "_law_onward" = some (.ref t.f__law_onward)
  F__law_first : Fun K "_law_first" "_law_first" s__law_first t.f__law_first t.d__law_first
  b__law_first : Binds K t.d__law_first ["_law_moves", "_law_stand", "_law_other"] []
  m__law_first : mg "_law_first" = some (.ref t.f__law_first)
  F__law_machines : Fun K "_law_machines" "_law_machines" s__law_machines t.f__law_machines t.d__law_machines
  b__law_machines : Binds K t.d__law_machines ["_law_many", "_law_moves"] []
  m__law_machines : mg "_law_machines" = some (.ref t.f__law_machines)
  F__law_walk : Fun K "_law_walk" "_law_walk" s__law_walk t.f__law_walk t.d__law_walk
  b__law_walk : Binds K t.d__law_walk ["_law_moves", "_law_stand", "_law_cells"] []
  m__law_walk : mg "_law_walk" = some (.ref t.f__law_walk)
  F__law_wrong : Fun K "_law_wrong" "_law_wrong" s__law_wrong t.f__law_wrong t.d__law_wrong
  b__law_wrong : Binds K t.d__law_wrong ["_law_moves", "_law_stand", "_law_way", "_law_more"] []
  m__law_wrong : mg "_law_wrong" = some (.ref t.f__law_wrong)
  F__law_of_others : Fun K "_law_of_others" "_law_of_others" s__law_of_others t.f__law_of_others t.d__law_of_others
  b__law_of_others : Binds K t.d__law_of_others ["_law_e"] []
  m__law_of_others : mg "_law_of_others" = some (.ref t.f__law_of_others)
  F__law_refused : Fun K "_law_refused" "_law_refused" s__law_refused t.f__law_refused t.d__law_refused
  b__law_refused : Binds K t.d__law_refused ["_law_machine", "_law_stand", "_law_picks"] []
  m__law_refused : mg "_law_refused" = some (.ref t.f__law_refused)
  F__law_which : Fun K "_law_which" "_law_which" s__law_which t.f__law_which t.d__law_which
  b__law_which : Binds K t.d__law_which ["_law_machine", "_law_moves", "_law_stand", "_law_other"] []
  m__law_which : mg "_law_which" = some (.ref t.f__law_which)
  F__law_whichs : Fun K "_law_whichs" "_law_whichs" s__law_whichs t.f__law_whichs t.d__law_whichs
  b__law_whichs : Binds K t.d__law_whichs ["_law_machine", "_law_moves", "_law_passed", "_law_beside"] []
  m__law_whichs : mg "_law_whichs" = some (.ref t.f__law_whichs)
  F_law : Fun K "law" "law" s_law t.f_law t.d_law
  b_law : Binds K t.d_law ["_law_script"] []
  m_law : mg "law" = some (.ref t.f_law)
  F_Move_init : Fun K "__init__" "Move.__init__" s_Move_init t.f_Move_init t.d_Move_init
  b_Move_init : Binds K t.d_Move_init ["self", "guard", "changes"] []
  F_Move_fits : Fun K "fits" "Move.fits" s_Move_fits t.f_Move_fits t.d_Move_fits
  b_Move_fits : Binds K t.d_Move_fits ["self", "stand"] []
  F_Move_onward : Fun K "onward" "Move.onward" s_Move_onward t.f_Move_onward t.d_Move_onward
  b_Move_onward : Binds K t.d_Move_onward ["self", "stand"] []
  F_Machine_init : Fun K "__init__" "Machine.__init__" s_Machine_init t.f_Machine_init t.d_Machine_init
  b_Machine_init : Binds K t.d_Machine_init ["self", "names", "starts", "bads", "moves"] []
  F_Machine_which : Fun K "which" "Machine.which" s_Machine_which t.f_Machine_which t.d_Machine_which
  b_Machine_which : Binds K t.d_Machine_which ["self", "stand", "other"] []
  F_Machine_walked : Fun K "walked" "Machine.walked" s_Machine_walked t.f_Machine_walked t.d_Machine_walked
  b_Machine_walked : Binds K t.d_Machine_walked ["self", "stand", "picks"] []
  F_Lamp_init : Fun K "__init__" "Lamp.__init__" s_Lamp_init t.f_Lamp_init t.d_Lamp_init
  b_Lamp_init : Binds K t.d_Lamp_init ["self", "at"] []
  F_Lamp_holds : Fun K "holds" "Lamp.holds" s_Lamp_holds t.f_Lamp_holds t.d_Lamp_holds
  b_Lamp_holds : Binds K t.d_Lamp_holds ["self", "stand"] []
  F_Sure_init : Fun K "__init__" "Sure.__init__" s_Sure_init t.f_Sure_init t.d_Sure_init
  b_Sure_init : Binds K t.d_Sure_init ["self", "truth"] []
  F_Sure_holds : Fun K "holds" "Sure.holds" s_Sure_holds t.f_Sure_holds t.d_Sure_holds
  b_Sure_holds : Binds K t.d_Sure_holds ["self", "stand"] []
  F_Not_init : Fun K "__init__" "Not.__init__" s_Not_init t.f_Not_init t.d_Not_init
  b_Not_init : Binds K t.d_Not_init ["self", "part"] []
  F_Not_holds : Fun K "holds" "Not.holds" s_Not_holds t.f_Not_holds t.d_Not_holds
  b_Not_holds : Binds K t.d_Not_holds ["self", "stand"] []
  F_Joined_init : Fun K "__init__" "Joined.__init__" s_Joined_init t.f_Joined_init t.d_Joined_init
  b_Joined_init : Binds K t.d_Joined_init ["self", "parts"] []
  F_And_holds : Fun K "holds" "And.holds" s_And_holds t.f_And_holds t.d_And_holds
  b_And_holds : Binds K t.d_And_holds ["self", "stand"] []
  F_Either_holds : Fun K "holds" "Either.holds" s_Either_holds t.f_Either_holds t.d_Either_holds
  b_Either_holds : Binds K t.d_Either_holds ["self", "stand"] []
  F_Or_holds : Fun K "holds" "Or.holds" s_Or_holds t.f_Or_holds t.d_Or_holds
  b_Or_holds : Binds K t.d_Or_holds ["self", "stand"] []
  m_Move : mg "Move" = some (.ref t.C_Move)
  c_Move : Cls K t.C_Move
  y_Move : ∀ (H : Hp) (a dx : Addr) (fs : List (Str × V)), H a = some (.ins t.C_Move dx fs) → TyOf K H (.ref a) (.ref t.C_Move)
  k_Move : Mk K t.C_Move t.f_Move_init
  n_Move_guard : NoAttr K t.C_Move "guard"
  n_Move_changes : NoAttr K t.C_Move "changes"
  n_Move_names : NoAttr K t.C_Move "names"
  n_Move_starts : NoAttr K t.C_Move "starts"
  n_Move_bads : NoAttr K t.C_Move "bads"
  n_Move_moves : NoAttr K t.C_Move "moves"
  n_Move_at : NoAttr K t.C_Move "at"
  n_Move_truth : NoAttr K t.C_Move "truth"
  n_Move_part : NoAttr K t.C_Move "part"
  n_Move_parts : NoAttr K t.C_Move "parts"
  h_Move_fits : Meth K t.C_Move "fits" t.f_Move_fits
  h_Move_onward : Meth K t.C_Move "onward" t.f_Move_onward
  m_Machine : mg "Machine" = some (.ref t.C_Machine)
  c_Machine : Cls K t.C_Machine
  y_Machine : ∀ (H : Hp) (a dx : Addr) (fs : List (Str × V)), H a = some (.ins t.C_Machine dx fs) → TyOf K H (.ref a) (.ref t.C_Machine)
  k_Machine : Mk K t.C_Machine t.f_Machine_init
  n_Machine_guard : NoAttr K t.C_Machine "guard"
  n_Machine_changes : NoAttr K t.C_Machine "changes"
  n_Machine_names : NoAttr K t.C_Machine "names"
  n_Machine_starts : NoAttr K t.C_Machine "starts"
  n_Machine_bads : NoAttr K t.C_Machine "bads"
  n_Machine_moves : NoAttr K t.C_Machine "moves"
  n_Machine_at : NoAttr K t.C_Machine "at"
  n_Machine_truth : NoAttr K t.C_Machine "truth"
  n_Machine_part : NoAttr K t.C_Machine "part"
  n_Machine_parts : NoAttr K t.C_Machine "parts"
  h_Machine_which : Meth K t.C_Machine "which" t.f_Machine_which
  h_Machine_walked : Meth K t.C_Machine "walked" t.f_Machine_walked
  m_Formula : mg "Formula" = some (.ref t.C_Formula)
  c_Formula : Cls K t.C_Formula
  y_Formula : ∀ (H : Hp) (a dx : Addr) (fs : List (Str × V)), H a = some (.ins t.C_Formula dx fs) → TyOf K H (.ref a) (.ref t.C_Formula)
  n_Formula_guard : NoAttr K t.C_Formula "guard"
  n_Formula_changes : NoAttr K t.C_Formula "changes"
  n_Formula_names : NoAttr K t.C_Formula "names"
  n_Formula_starts : NoAttr K t.C_Formula "starts"
  n_Formula_bads : NoAttr K t.C_Formula "bads"
  n_Formula_moves : NoAttr K t.C_Formula "moves"
  n_Formula_at : NoAttr K t.C_Formula "at"
  n_Formula_truth : NoAttr K t.C_Formula "truth"
  n_Formula_part : NoAttr K t.C_Formula "part"
  n_Formula_parts : NoAttr K t.C_Formula "parts"
  m_Lamp : mg "Lamp" = some (.ref t.C_Lamp)
  c_Lamp : Cls K t.C_Lamp
  y_Lamp : ∀ (H : Hp) (a dx : Addr) (fs : List (Str × V)), H a = some (.ins t.C_Lamp dx fs) → TyOf K H (.ref a) (.ref t.C_Lamp)
  k_Lamp : Mk K t.C_Lamp t.f_Lamp_init
  n_Lamp_guard : NoAttr K t.C_Lamp "guard"
  n_Lamp_changes : NoAttr K t.C_Lamp "changes"
  n_Lamp_names : NoAttr K t.C_Lamp "names"
  n_Lamp_starts : NoAttr K t.C_Lamp "starts"
  n_Lamp_bads : NoAttr K t.C_Lamp "bads"
  n_Lamp_moves : NoAttr K t.C_Lamp "moves"
  n_Lamp_at : NoAttr K t.C_Lamp "at"
  n_Lamp_truth : NoAttr K t.C_Lamp "truth"
  n_Lamp_part : NoAttr K t.C_Lamp "part"
  n_Lamp_parts : NoAttr K t.C_Lamp "parts"
  h_Lamp_holds : Meth K t.C_Lamp "holds" t.f_Lamp_holds
  m_Sure : mg "Sure" = some (.ref t.C_Sure)
  c_Sure : Cls K t.C_Sure
  y_Sure : ∀ (H : Hp) (a dx : Addr) (fs : List (Str × V)), H a = some (.ins t.C_Sure dx fs) → TyOf K H (.ref a) (.ref t.C_Sure)
  k_Sure : Mk K t.C_Sure t.f_Sure_init
  n_Sure_guard : NoAttr K t.C_Sure "guard"
  n_Sure_changes : NoAttr K t.C_Sure "changes"
  n_Sure_names : NoAttr K t.C_Sure "names"
  n_Sure_starts : NoAttr K t.C_Sure "starts"
  n_Sure_bads : NoAttr K t.C_Sure "bads"
  n_Sure_moves : NoAttr K t.C_Sure "moves"
  n_Sure_at : NoAttr K t.C_Sure "at"
  n_Sure_truth : NoAttr K t.C_Sure "truth"
  n_Sure_part : NoAttr K t.C_Sure "part"
  n_Sure_parts : NoAttr K t.C_Sure "parts"
  h_Sure_holds : Meth K t.C_Sure "holds" t.f_Sure_holds
  m_Not : mg "Not" = some (.ref t.C_Not)
  c_Not : Cls K t.C_Not
  y_Not : ∀ (H : Hp) (a dx : Addr) (fs : List (Str × V)), H a = some (.ins t.C_Not dx fs) → TyOf K H (.ref a) (.ref t.C_Not)
  k_Not : Mk K t.C_Not t.f_Not_init
  n_Not_guard : NoAttr K t.C_Not "guard"
  n_Not_changes : NoAttr K t.C_Not "changes"
  n_Not_names : NoAttr K t.C_Not "names"
  n_Not_starts : NoAttr K t.C_Not "starts"
  n_Not_bads : NoAttr K t.C_Not "bads"
  n_Not_moves : NoAttr K t.C_Not "moves"
  n_Not_at : NoAttr K t.C_Not "at"
  n_Not_truth : NoAttr K t.C_Not "truth"
  n_Not_part : NoAttr K t.C_Not "part"
  n_Not_parts : NoAttr K t.C_Not "parts"
  h_Not_holds : Meth K t.C_Not "holds" t.f_Not_holds
  m_Joined : mg "Joined" = some (.ref t.C_Joined)
  c_Joined : Cls K t.C_Joined
  y_Joined : ∀ (H : Hp) (a dx : Addr) (fs : List (Str × V)), H a = some (.ins t.C_Joined dx fs) → TyOf K H (.ref a) (.ref t.C_Joined)
  k_Joined : Mk K t.C_Joined t.f_Joined_init
  n_Joined_guard : NoAttr K t.C_Joined "guard"
  n_Joined_changes : NoAttr K t.C_Joined "changes"
  n_Joined_names : NoAttr K t.C_Joined "names"
  n_Joined_starts : NoAttr K t.C_Joined "starts"
  n_Joined_bads : NoAttr K t.C_Joined "bads"
  n_Joined_moves : NoAttr K t.C_Joined "moves"
  n_Joined_at : NoAttr K t.C_Joined "at"
  n_Joined_truth : NoAttr K t.C_Joined "truth"
  n_Joined_part : NoAttr K t.C_Joined "part"
  n_Joined_parts : NoAttr K t.C_Joined "parts"
  m_And : mg "And" = some (.ref t.C_And)
  c_And : Cls K t.C_And
  y_And : ∀ (H : Hp) (a dx : Addr) (fs : List (Str × V)), H a = some (.ins t.C_And dx fs) → TyOf K H (.ref a) (.ref t.C_And)
  k_And : Mk K t.C_And t.f_Joined_init
  n_And_guard : NoAttr K t.C_And "guard"
  n_And_changes : NoAttr K t.C_And "changes"
  n_And_names : NoAttr K t.C_And "names"
  n_And_starts : NoAttr K t.C_And "starts"
  n_And_bads : NoAttr K t.C_And "bads"
  n_And_moves : NoAttr K t.C_And "moves"
  n_And_at : NoAttr K t.C_And "at"
  n_And_truth : NoAttr K t.C_And "truth"
  n_And_part : NoAttr K t.C_And "part"
  n_And_parts : NoAttr K t.C_And "parts"
  h_And_holds : Meth K t.C_And "holds" t.f_And_holds
  m_Either : mg "Either" = some (.ref t.C_Either)
  c_Either : Cls K t.C_Either
  y_Either : ∀ (H : Hp) (a dx : Addr) (fs : List (Str × V)), H a = some (.ins t.C_Either dx fs) → TyOf K H (.ref a) (.ref t.C_Either)
  k_Either : Mk K t.C_Either t.f_Joined_init
  n_Either_guard : NoAttr K t.C_Either "guard"
  n_Either_changes : NoAttr K t.C_Either "changes"
  n_Either_names : NoAttr K t.C_Either "names"
  n_Either_starts : NoAttr K t.C_Either "starts"
  n_Either_bads : NoAttr K t.C_Either "bads"
  n_Either_moves : NoAttr K t.C_Either "moves"
  n_Either_at : NoAttr K t.C_Either "at"
  n_Either_truth : NoAttr K t.C_Either "truth"
  n_Either_part : NoAttr K t.C_Either "part"
  n_Either_parts : NoAttr K t.C_Either "parts"
  h_Either_holds : Meth K t.C_Either "holds" t.f_Either_holds
  m_Or : mg "Or" = some (.ref t.C_Or)
  c_Or : Cls K t.C_Or
  y_Or : ∀ (H : Hp) (a dx : Addr) (fs : List (Str × V)), H a = some (.ins t.C_Or dx fs) → TyOf K H (.ref a) (.ref t.C_Or)
  k_Or : Mk K t.C_Or t.f_Joined_init
  n_Or_guard : NoAttr K t.C_Or "guard"
  n_Or_changes : NoAttr K t.C_Or "changes"
  n_Or_names : NoAttr K t.C_Or "names"
  n_Or_starts : NoAttr K t.C_Or "starts"
  n_Or_bads : NoAttr K t.C_Or "bads"
  n_Or_moves : NoAttr K t.C_Or "moves"
  n_Or_at : NoAttr K t.C_Or "at"
  n_Or_truth : NoAttr K t.C_Or "truth"
  n_Or_part : NoAttr K t.C_Or "part"
  n_Or_parts : NoAttr K t.C_Or "parts"
  h_Or_holds : Meth K t.C_Or "holds" t.f_Or_holds
  b_ValueError : mg "ValueError" = none
  m_NoStep : mg "NoStep" = some (.ref t.C_NoStep)
  ty_NoStep : PySem.W.typeIn K (.ref t.C_NoStep) = some (.type "type")
  cl_NoStep : (PySem.W.clsIn K t.C_NoStep).isSome = true
  mb_NoStep : PySem.W.mroIn K t.C_NoStep (.type "BaseException") = some true
  m_NoBar : mg "NoBar" = some (.ref t.C_NoBar)
  ty_NoBar : PySem.W.typeIn K (.ref t.C_NoBar) = some (.type "type")
  cl_NoBar : (PySem.W.clsIn K t.C_NoBar).isSome = true
  mb_NoBar : PySem.W.mroIn K t.C_NoBar (.type "BaseException") = some true
  m_NoChart : mg "NoChart" = some (.ref t.C_NoChart)
  ty_NoChart : PySem.W.typeIn K (.ref t.C_NoChart) = some (.type "type")
  cl_NoChart : (PySem.W.clsIn K t.C_NoChart).isSome = true
  mb_NoChart : PySem.W.mroIn K t.C_NoChart (.type "BaseException") = some true
  m_NoFence : mg "NoFence" = some (.ref t.C_NoFence)
  ty_NoFence : PySem.W.typeIn K (.ref t.C_NoFence) = some (.type "type")
  cl_NoFence : (PySem.W.clsIn K t.C_NoFence).isSome = true
  mb_NoFence : PySem.W.mroIn K t.C_NoFence (.type "BaseException") = some true
  m_NoFormula : mg "NoFormula" = some (.ref t.C_NoFormula)
  ty_NoFormula : PySem.W.typeIn K (.ref t.C_NoFormula) = some (.type "type")
  cl_NoFormula : (PySem.W.clsIn K t.C_NoFormula).isSome = true
  mb_NoFormula : PySem.W.mroIn K t.C_NoFormula (.type "BaseException") = some true
  m_NoFrame : mg "NoFrame" = some (.ref t.C_NoFrame)
  ty_NoFrame : PySem.W.typeIn K (.ref t.C_NoFrame) = some (.type "type")
  cl_NoFrame : (PySem.W.clsIn K t.C_NoFrame).isSome = true
  mb_NoFrame : PySem.W.mroIn K t.C_NoFrame (.type "BaseException") = some true
  m_NoLine : mg "NoLine" = some (.ref t.C_NoLine)
  ty_NoLine : PySem.W.typeIn K (.ref t.C_NoLine) = some (.type "type")
  cl_NoLine : (PySem.W.clsIn K t.C_NoLine).isSome = true
  mb_NoLine : PySem.W.mroIn K t.C_NoLine (.type "BaseException") = some true
  m_NoMachine : mg "NoMachine" = some (.ref t.C_NoMachine)
  ty_NoMachine : PySem.W.typeIn K (.ref t.C_NoMachine) = some (.type "type")
  cl_NoMachine : (PySem.W.clsIn K t.C_NoMachine).isSome = true
  mb_NoMachine : PySem.W.mroIn K t.C_NoMachine (.type "BaseException") = some true
  m_NoName : mg "NoName" = some (.ref t.C_NoName)
  ty_NoName : PySem.W.typeIn K (.ref t.C_NoName) = some (.type "type")
  cl_NoName : (PySem.W.clsIn K t.C_NoName).isSome = true
  mb_NoName : PySem.W.mroIn K t.C_NoName (.type "BaseException") = some true
  m_NotShut : mg "NotShut" = some (.ref t.C_NotShut)
  ty_NotShut : PySem.W.typeIn K (.ref t.C_NotShut) = some (.type "type")
  cl_NotShut : (PySem.W.clsIn K t.C_NotShut).isSome = true
  mb_NotShut : PySem.W.mroIn K t.C_NotShut (.type "BaseException") = some true
  m_NothingLeft : mg "NothingLeft" = some (.ref t.C_NothingLeft)
  ty_NothingLeft : PySem.W.typeIn K (.ref t.C_NothingLeft) = some (.type "type")
  cl_NothingLeft : (PySem.W.clsIn K t.C_NothingLeft).isSome = true
  mb_NothingLeft : PySem.W.mroIn K t.C_NothingLeft (.type "BaseException") = some true
  m_TooMany : mg "TooMany" = some (.ref t.C_TooMany)
  ty_TooMany : PySem.W.typeIn K (.ref t.C_TooMany) = some (.type "type")
  cl_TooMany : (PySem.W.clsIn K t.C_TooMany).isSome = true
  mb_TooMany : PySem.W.mroIn K t.C_TooMany (.type "BaseException") = some true
  m_EverError : mg "EverError" = some (.ref t.C_EverError)
  ty_EverError : PySem.W.typeIn K (.ref t.C_EverError) = some (.type "type")
  cl_EverError : (PySem.W.clsIn K t.C_EverError).isSome = true
  mb_EverError : PySem.W.mroIn K t.C_EverError (.type "BaseException") = some true
  q_NoStep : ExcK K t.C_NoStep
  v_NoStep : PySem.W.kitOne K (.ref t.C_NoStep) (.type "ValueError") = some true
  xs_NoStep_NoStep : PySem.W.mroIn K t.C_NoStep (.ref t.C_NoStep) = some true
  xz_NoStep_NoStep : PySem.W.kitOne K (.ref t.C_NoStep) (.ref t.C_NoStep) = some true
  xs_NoStep_NoBar : PySem.W.mroIn K t.C_NoStep (.ref t.C_NoBar) = some false
  xz_NoStep_NoBar : PySem.W.kitOne K (.ref t.C_NoStep) (.ref t.C_NoBar) = some false
  xs_NoStep_NoChart : PySem.W.mroIn K t.C_NoStep (.ref t.C_NoChart) = some false
  xz_NoStep_NoChart : PySem.W.kitOne K (.ref t.C_NoStep) (.ref t.C_NoChart) = some false
  xs_NoStep_NoFence : PySem.W.mroIn K t.C_NoStep (.ref t.C_NoFence) = some false
  xz_NoStep_NoFence : PySem.W.kitOne K (.ref t.C_NoStep) (.ref t.C_NoFence) = some false
  xs_NoStep_NoFormula : PySem.W.mroIn K t.C_NoStep (.ref t.C_NoFormula) = some false
  xz_NoStep_NoFormula : PySem.W.kitOne K (.ref t.C_NoStep) (.ref t.C_NoFormula) = some false
  xs_NoStep_NoFrame : PySem.W.mroIn K t.C_NoStep (.ref t.C_NoFrame) = some false
  xz_NoStep_NoFrame : PySem.W.kitOne K (.ref t.C_NoStep) (.ref t.C_NoFrame) = some false
  xs_NoStep_NoLine : PySem.W.mroIn K t.C_NoStep (.ref t.C_NoLine) = some false
  xz_NoStep_NoLine : PySem.W.kitOne K (.ref t.C_NoStep) (.ref t.C_NoLine) = some false
  xs_NoStep_NoMachine : PySem.W.mroIn K t.C_NoStep (.ref t.C_NoMachine) = some false
  xz_NoStep_NoMachine : PySem.W.kitOne K (.ref t.C_NoStep) (.ref t.C_NoMachine) = some false
  xs_NoStep_NoName : PySem.W.mroIn K t.C_NoStep (.ref t.C_NoName) = some false
  xz_NoStep_NoName : PySem.W.kitOne K (.ref t.C_NoStep) (.ref t.C_NoName) = some false
  xs_NoStep_NotShut : PySem.W.mroIn K t.C_NoStep (.ref t.C_NotShut) = some false
  xz_NoStep_NotShut : PySem.W.kitOne K (.ref t.C_NoStep) (.ref t.C_NotShut) = some false
  xs_NoStep_NothingLeft : PySem.W.mroIn K t.C_NoStep (.ref t.C_NothingLeft) = some false
  xz_NoStep_NothingLeft : PySem.W.kitOne K (.ref t.C_NoStep) (.ref t.C_NothingLeft) = some false
  xs_NoStep_TooMany : PySem.W.mroIn K t.C_NoStep (.ref t.C_TooMany) = some false
  xz_NoStep_TooMany : PySem.W.kitOne K (.ref t.C_NoStep) (.ref t.C_TooMany) = some false
  xs_NoStep_EverError : PySem.W.mroIn K t.C_NoStep (.ref t.C_EverError) = some true
  xz_NoStep_EverError : PySem.W.kitOne K (.ref t.C_NoStep) (.ref t.C_EverError) = some true
  x_Move_Machine : t.C_Move ≠ t.C_Machine
  x_Move_Formula : t.C_Move ≠ t.C_Formula
  x_Move_Lamp : t.C_Move ≠ t.C_Lamp
  x_Move_Sure : t.C_Move ≠ t.C_Sure
  x_Move_Not : t.C_Move ≠ t.C_Not
  x_Move_Joined : t.C_Move ≠ t.C_Joined
  x_Move_And : t.C_Move ≠ t.C_And
  x_Move_Either : t.C_Move ≠ t.C_Either
  x_Move_Or : t.C_Move ≠ t.C_Or
  x_Machine_Formula : t.C_Machine ≠ t.C_Formula
  x_Machine_Lamp : t.C_Machine ≠ t.C_Lamp
  x_Machine_Sure : t.C_Machine ≠ t.C_Sure
  x_Machine_Not : t.C_Machine ≠ t.C_Not
  x_Machine_Joined : t.C_Machine ≠ t.C_Joined
  x_Machine_And : t.C_Machine ≠ t.C_And
  x_Machine_Either : t.C_Machine ≠ t.C_Either
  x_Machine_Or : t.C_Machine ≠ t.C_Or
  x_Formula_Lamp : t.C_Formula ≠ t.C_Lamp
  x_Formula_Sure : t.C_Formula ≠ t.C_Sure
  x_Formula_Not : t.C_Formula ≠ t.C_Not
  x_Formula_Joined : t.C_Formula ≠ t.C_Joined
  x_Formula_And : t.C_Formula ≠ t.C_And
  x_Formula_Either : t.C_Formula ≠ t.C_Either
  x_Formula_Or : t.C_Formula ≠ t.C_Or
  x_Lamp_Sure : t.C_Lamp ≠ t.C_Sure
  x_Lamp_Not : t.C_Lamp ≠ t.C_Not
  x_Lamp_Joined : t.C_Lamp ≠ t.C_Joined
  x_Lamp_And : t.C_Lamp ≠ t.C_And
  x_Lamp_Either : t.C_Lamp ≠ t.C_Either
  x_Lamp_Or : t.C_Lamp ≠ t.C_Or
  x_Sure_Not : t.C_Sure ≠ t.C_Not
  x_Sure_Joined : t.C_Sure ≠ t.C_Joined
  x_Sure_And : t.C_Sure ≠ t.C_And
  x_Sure_Either : t.C_Sure ≠ t.C_Either
  x_Sure_Or : t.C_Sure ≠ t.C_Or
  x_Not_Joined : t.C_Not ≠ t.C_Joined
  x_Not_And : t.C_Not ≠ t.C_And
  x_Not_Either : t.C_Not ≠ t.C_Either
  x_Not_Or : t.C_Not ≠ t.C_Or
  x_Joined_And : t.C_Joined ≠ t.C_And
  x_Joined_Either : t.C_Joined ≠ t.C_Either
  x_Joined_Or : t.C_Joined ≠ t.C_Or
  x_And_Either : t.C_And ≠ t.C_Either
  x_And_Or : t.C_And ≠ t.C_Or
  x_Either_Or : t.C_Either ≠ t.C_Or
  bl : ∀ (s : Shared) (u : Value), BindsTo s t.d_law ⟨[u], []⟩ [("_law_script", u)]
  B : Bt mg
theorem txt_mk {K : PySem.W.Frag} {h : Heap} {mg : Str → Option Value} (X : K.In h) (G : h.Ns mainGlobals mg)
    {f__law_cell_at : Addr} {od__law_cell_at an__law_cell_at : Option Addr} {sl__law_cell_at : Array (Option Value)} {oc__law_cell_at kV__law_cell_at dc__law_cell_at pm__law_cell_at cd__law_cell_at ct__law_cell_at : Value}
    {f__law_lit : Addr} {od__law_lit an__law_lit : Option Addr} {sl__law_lit : Array (Option Value)} {oc__law_lit kV__law_lit dc__law_lit pm__law_lit cd__law_lit ct__law_lit : Value}
    {f__law_recipe : Addr} {od__law_recipe an__law_recipe : Option Addr} {sl__law_recipe : Array (Option Value)} {oc__law_recipe kV__law_recipe dc__law_recipe pm__law_recipe cd__law_recipe ct__law_recipe : Value}
    {f__law_made : Addr} {od__law_made an__law_made : Option Addr} {sl__law_made : Array (Option Value)} {oc__law_made kV__law_made dc__law_made pm__law_made cd__law_made ct__law_made : Value}
    {f__law_due : Addr} {od__law_due an__law_due : Option Addr} {sl__law_due : Array (Option Value)} {oc__law_due kV__law_due dc__law_due pm__law_due cd__law_due ct__law_due : Value}
    {f__law_changes : Addr} {od__law_changes an__law_changes : Option Addr} {sl__law_changes : Array (Option Value)} {oc__law_changes kV__law_changes dc__law_changes pm__law_changes cd__law_changes ct__law_changes : Value}
    {f__law_onward : Addr} {od__law_onward an__law_onward : Option Addr} {sl__law_onward : Array (Option Value)} {oc__law_onward kV__law_onward dc__law_onward pm__law_onward cd__law_onward ct__law_onward : Value}
    {f__law_first : Addr} {od__law_first an__law_first : Option Addr} {sl__law_first : Array (Option Value)} {oc__law_first kV__law_first dc__law_first pm__law_first cd__law_first ct__law_first : Value}
    {f__law_machines : Addr} {od__law_machines an__law_machines : Option Addr} {sl__law_machines : Array (Option Value)} {oc__law_machines kV__law_machines dc__law_machines pm__law_machines cd__law_machines ct__law_machines : Value}
    {f__law_walk : Addr} {od__law_walk an__law_walk : Option Addr} {sl__law_walk : Array (Option Value)} {oc__law_walk kV__law_walk dc__law_walk pm__law_walk cd__law_walk ct__law_walk : Value}
    {f__law_wrong : Addr} {od__law_wrong an__law_wrong : Option Addr} {sl__law_wrong : Array (Option Value)} {oc__law_wrong kV__law_wrong dc__law_wrong pm__law_wrong cd__law_wrong ct__law_wrong : Value}
    {f__law_of_others : Addr} {od__law_of_others an__law_of_others : Option Addr} {sl__law_of_others : Array (Option Value)} {oc__law_of_others kV__law_of_others dc__law_of_others pm__law_of_others cd__law_of_others ct__law_of_others : Value}
    {f__law_refused : Addr} {od__law_refused an__law_refused : Option Addr} {sl__law_refused : Array (Option Value)} {oc__law_refused kV__law_refused dc__law_refused pm__law_refused cd__law_refused ct__law_refused : Value}
    {f__law_which : Addr} {od__law_which an__law_which : Option Addr} {sl__law_which : Array (Option Value)} {oc__law_which kV__law_which dc__law_which pm__law_which cd__law_which ct__law_which : Value}
    {f__law_whichs : Addr} {od__law_whichs an__law_whichs : Option Addr} {sl__law_whichs : Array (Option Value)} {oc__law_whichs kV__law_whichs dc__law_whichs pm__law_whichs cd__law_whichs ct__law_whichs : Value}
    {f_law : Addr} {od_law an_law : Option Addr} {sl_law : Array (Option Value)} {oc_law kV_law dc_law pm_law cd_law ct_law : Value}
    {f_Move_init : Addr} {od_Move_init an_Move_init : Option Addr} {sl_Move_init : Array (Option Value)} {oc_Move_init kV_Move_init dc_Move_init pm_Move_init cd_Move_init ct_Move_init : Value}
    {f_Move_fits : Addr} {od_Move_fits an_Move_fits : Option Addr} {sl_Move_fits : Array (Option Value)} {oc_Move_fits kV_Move_fits dc_Move_fits pm_Move_fits cd_Move_fits ct_Move_fits : Value}
    {f_Move_onward : Addr} {od_Move_onward an_Move_onward : Option Addr} {sl_Move_onward : Array (Option Value)} {oc_Move_onward kV_Move_onward dc_Move_onward pm_Move_onward cd_Move_onward ct_Move_onward : Value}
    {f_Machine_init : Addr} {od_Machine_init an_Machine_init : Option Addr} {sl_Machine_init : Array (Option Value)} {oc_Machine_init kV_Machine_init dc_Machine_init pm_Machine_init cd_Machine_init ct_Machine_init : Value}
    {f_Machine_which : Addr} {od_Machine_which an_Machine_which : Option Addr} {sl_Machine_which : Array (Option Value)} {oc_Machine_which kV_Machine_which dc_Machine_which pm_Machine_which cd_Machine_which ct_Machine_which : Value}
    {f_Machine_walked : Addr} {od_Machine_walked an_Machine_walked : Option Addr} {sl_Machine_walked : Array (Option Value)} {oc_Machine_walked kV_Machine_walked dc_Machine_walked pm_Machine_walked cd_Machine_walked ct_Machine_walked : Value}
    {f_Lamp_init : Addr} {od_Lamp_init an_Lamp_init : Option Addr} {sl_Lamp_init : Array (Option Value)} {oc_Lamp_init kV_Lamp_init dc_Lamp_init pm_Lamp_init cd_Lamp_init ct_Lamp_init : Value}
    {f_Lamp_holds : Addr} {od_Lamp_holds an_Lamp_holds : Option Addr} {sl_Lamp_holds : Array (Option Value)} {oc_Lamp_holds kV_Lamp_holds dc_Lamp_holds pm_Lamp_holds cd_Lamp_holds ct_Lamp_holds : Value}
    {f_Sure_init : Addr} {od_Sure_init an_Sure_init : Option Addr} {sl_Sure_init : Array (Option Value)} {oc_Sure_init kV_Sure_init dc_Sure_init pm_Sure_init cd_Sure_init ct_Sure_init : Value}
    {f_Sure_holds : Addr} {od_Sure_holds an_Sure_holds : Option Addr} {sl_Sure_holds : Array (Option Value)} {oc_Sure_holds kV_Sure_holds dc_Sure_holds pm_Sure_holds cd_Sure_holds ct_Sure_holds : Value}
    {f_Not_init : Addr} {od_Not_init an_Not_init : Option Addr} {sl_Not_init : Array (Option Value)} {oc_Not_init kV_Not_init dc_Not_init pm_Not_init cd_Not_init ct_Not_init : Value}
    {f_Not_holds : Addr} {od_Not_holds an_Not_holds : Option Addr} {sl_Not_holds : Array (Option Value)} {oc_Not_holds kV_Not_holds dc_Not_holds pm_Not_holds cd_Not_holds ct_Not_holds : Value}
    {f_Joined_init : Addr} {od_Joined_init an_Joined_init : Option Addr} {sl_Joined_init : Array (Option Value)} {oc_Joined_init kV_Joined_init dc_Joined_init pm_Joined_init cd_Joined_init ct_Joined_init : Value}
    {f_And_holds : Addr} {od_And_holds an_And_holds : Option Addr} {sl_And_holds : Array (Option Value)} {oc_And_holds kV_And_holds dc_And_holds pm_And_holds cd_And_holds ct_And_holds : Value}
    {f_Either_holds : Addr} {od_Either_holds an_Either_holds : Option Addr} {sl_Either_holds : Array (Option Value)} {oc_Either_holds kV_Either_holds dc_Either_holds pm_Either_holds cd_Either_holds ct_Either_holds : Value}
    {f_Or_holds : Addr} {od_Or_holds an_Or_holds : Option Addr} {sl_Or_holds : Array (Option Value)} {oc_Or_holds kV_Or_holds dc_Or_holds pm_Or_holds cd_Or_holds ct_Or_holds : Value}
    {C_Move : Addr}
    {C_Machine : Addr}
    {C_Formula : Addr}
    {C_Lamp : Addr}
    {C_Sure : Addr}
    {C_Not : Addr}
    {C_Joined : Addr}
    {C_And : Addr}
    {C_Either : Addr}
    {C_Or : Addr}
    {C_NoStep : Addr}
    {C_NoBar : Addr}
    {C_NoChart : Addr}
    {C_NoFence : Addr}
    {C_NoFormula : Addr}
    {C_NoFrame : Addr}
    {C_NoLine : Addr}
    {C_NoMachine : Addr}
    {C_NoName : Addr}
    {C_NotShut : Addr}
    {C_NothingLeft : Addr}
    {C_TooMany : Addr}
    {C_EverError : Addr}
    (a__law_cell_at : PySem.W.nsIn K mainGlobals "_law_cell_at" = some (some (.ref f__law_cell_at)))
    (a__law_lit : PySem.W.nsIn K mainGlobals "_law_lit" = some (some (.ref f__law_lit)))
    (a__law_recipe : PySem.W.nsIn K mainGlobals "_law_recipe" = some (some (.ref f__law_recipe)))
    (a__law_made : PySem.W.nsIn K mainGlobals "_law_made" = some (some (.ref f__law_made)))
    (a__law_due : PySem.W.nsIn K mainGlobals "_law_due" = some (some (.ref f__law_due)))
    (a__law_changes : PySem.W.nsIn K mainGlobals "_law_changes" = some (some (.ref f__law_changes)))
    (a__law_onward : PySem.W.nsIn K mainGlobals "_law_onward" = some (some (.ref f__law_onward)))
    (a__law_first : PySem.W.nsIn K mainGlobals "_law_first" = some (some (.ref f__law_first)))
    (a__law_machines : PySem.W.nsIn K mainGlobals "_law_machines" = some (some (.ref f__law_machines)))
    (a__law_walk : PySem.W.nsIn K mainGlobals "_law_walk" = some (some (.ref f__law_walk)))
    (a__law_wrong : PySem.W.nsIn K mainGlobals "_law_wrong" = some (some (.ref f__law_wrong)))
    (a__law_of_others : PySem.W.nsIn K mainGlobals "_law_of_others" = some (some (.ref f__law_of_others)))
    (a__law_refused : PySem.W.nsIn K mainGlobals "_law_refused" = some (some (.ref f__law_refused)))
    (a__law_which : PySem.W.nsIn K mainGlobals "_law_which" = some (some (.ref f__law_which)))
    (a__law_whichs : PySem.W.nsIn K mainGlobals "_law_whichs" = some (some (.ref f__law_whichs)))
    (a_law : PySem.W.nsIn K mainGlobals "law" = some (some (.ref f_law)))
    (a_Move : PySem.W.nsIn K mainGlobals "Move" = some (some (.ref C_Move)))
    (a_Machine : PySem.W.nsIn K mainGlobals "Machine" = some (some (.ref C_Machine)))
    (a_Formula : PySem.W.nsIn K mainGlobals "Formula" = some (some (.ref C_Formula)))
    (a_Lamp : PySem.W.nsIn K mainGlobals "Lamp" = some (some (.ref C_Lamp)))
    (a_Sure : PySem.W.nsIn K mainGlobals "Sure" = some (some (.ref C_Sure)))
    (a_Not : PySem.W.nsIn K mainGlobals "Not" = some (some (.ref C_Not)))
    (a_Joined : PySem.W.nsIn K mainGlobals "Joined" = some (some (.ref C_Joined)))
    (a_And : PySem.W.nsIn K mainGlobals "And" = some (some (.ref C_And)))
    (a_Either : PySem.W.nsIn K mainGlobals "Either" = some (some (.ref C_Either)))
    (a_Or : PySem.W.nsIn K mainGlobals "Or" = some (some (.ref C_Or)))
    (a_NoStep : PySem.W.nsIn K mainGlobals "NoStep" = some (some (.ref C_NoStep)))
    (a_NoBar : PySem.W.nsIn K mainGlobals "NoBar" = some (some (.ref C_NoBar)))
    (a_NoChart : PySem.W.nsIn K mainGlobals "NoChart" = some (some (.ref C_NoChart)))
    (a_NoFence : PySem.W.nsIn K mainGlobals "NoFence" = some (some (.ref C_NoFence)))
    (a_NoFormula : PySem.W.nsIn K mainGlobals "NoFormula" = some (some (.ref C_NoFormula)))
    (a_NoFrame : PySem.W.nsIn K mainGlobals "NoFrame" = some (some (.ref C_NoFrame)))
    (a_NoLine : PySem.W.nsIn K mainGlobals "NoLine" = some (some (.ref C_NoLine)))
    (a_NoMachine : PySem.W.nsIn K mainGlobals "NoMachine" = some (some (.ref C_NoMachine)))
    (a_NoName : PySem.W.nsIn K mainGlobals "NoName" = some (some (.ref C_NoName)))
    (a_NotShut : PySem.W.nsIn K mainGlobals "NotShut" = some (some (.ref C_NotShut)))
    (a_NothingLeft : PySem.W.nsIn K mainGlobals "NothingLeft" = some (some (.ref C_NothingLeft)))
    (a_TooMany : PySem.W.nsIn K mainGlobals "TooMany" = some (some (.ref C_TooMany)))
    (a_EverError : PySem.W.nsIn K mainGlobals "EverError" = some (some (.ref C_EverError)))
    (ic_NoStep : PySem.W.isClsIn K C_NoStep = true)
    (ty_NoStep : PySem.W.typeIn K (.ref C_NoStep) = some (.type "type"))
    (mb_NoStep : PySem.W.mroIn K C_NoStep (.type "BaseException") = some true)
    (ic_NoBar : PySem.W.isClsIn K C_NoBar = true)
    (ty_NoBar : PySem.W.typeIn K (.ref C_NoBar) = some (.type "type"))
    (mb_NoBar : PySem.W.mroIn K C_NoBar (.type "BaseException") = some true)
    (ic_NoChart : PySem.W.isClsIn K C_NoChart = true)
    (ty_NoChart : PySem.W.typeIn K (.ref C_NoChart) = some (.type "type"))
    (mb_NoChart : PySem.W.mroIn K C_NoChart (.type "BaseException") = some true)
    (ic_NoFence : PySem.W.isClsIn K C_NoFence = true)
    (ty_NoFence : PySem.W.typeIn K (.ref C_NoFence) = some (.type "type"))
    (mb_NoFence : PySem.W.mroIn K C_NoFence (.type "BaseException") = some true)
    (ic_NoFormula : PySem.W.isClsIn K C_NoFormula = true)
    (ty_NoFormula : PySem.W.typeIn K (.ref C_NoFormula) = some (.type "type"))
    (mb_NoFormula : PySem.W.mroIn K C_NoFormula (.type "BaseException") = some true)
    (ic_NoFrame : PySem.W.isClsIn K C_NoFrame = true)
    (ty_NoFrame : PySem.W.typeIn K (.ref C_NoFrame) = some (.type "type"))
    (mb_NoFrame : PySem.W.mroIn K C_NoFrame (.type "BaseException") = some true)
    (ic_NoLine : PySem.W.isClsIn K C_NoLine = true)
    (ty_NoLine : PySem.W.typeIn K (.ref C_NoLine) = some (.type "type"))
    (mb_NoLine : PySem.W.mroIn K C_NoLine (.type "BaseException") = some true)
    (ic_NoMachine : PySem.W.isClsIn K C_NoMachine = true)
    (ty_NoMachine : PySem.W.typeIn K (.ref C_NoMachine) = some (.type "type"))
    (mb_NoMachine : PySem.W.mroIn K C_NoMachine (.type "BaseException") = some true)
    (ic_NoName : PySem.W.isClsIn K C_NoName = true)
    (ty_NoName : PySem.W.typeIn K (.ref C_NoName) = some (.type "type"))
    (mb_NoName : PySem.W.mroIn K C_NoName (.type "BaseException") = some true)
    (ic_NotShut : PySem.W.isClsIn K C_NotShut = true)
    (ty_NotShut : PySem.W.typeIn K (.ref C_NotShut) = some (.type "type"))
    (mb_NotShut : PySem.W.mroIn K C_NotShut (.type "BaseException") = some true)
    (ic_NothingLeft : PySem.W.isClsIn K C_NothingLeft = true)
    (ty_NothingLeft : PySem.W.typeIn K (.ref C_NothingLeft) = some (.type "type"))
    (mb_NothingLeft : PySem.W.mroIn K C_NothingLeft (.type "BaseException") = some true)
    (ic_TooMany : PySem.W.isClsIn K C_TooMany = true)
    (ty_TooMany : PySem.W.typeIn K (.ref C_TooMany) = some (.type "type"))
    (mb_TooMany : PySem.W.mroIn K C_TooMany (.type "BaseException") = some true)
    (ic_EverError : PySem.W.isClsIn K C_EverError = true)
    (ty_EverError : PySem.W.typeIn K (.ref C_EverError) = some (.type "type"))
    (mb_EverError : PySem.W.mroIn K C_EverError (.type "BaseException") = some true)
    (xo_NoStep : PySem.W.excIn K C_NoStep [.type "ValueError", .type "Exception", .type "BaseException", .type "object"] "ValueError.__new__" = true)
    (xg_NoStep : PySem.W.findIn K (.ref C_NoStep) "__getattribute__" = some (some (.builtin "BaseException.__getattribute__")))
    (xh_NoStep : PySem.W.findIn K (.ref C_NoStep) "__getattr__" = some none)
    (xc_NoStep : PySem.W.findIn K (.ref C_NoStep) "__class__" = some (some (.builtin "object.__class__")))
    (xm_NoStep : PySem.W.mroIn K C_NoStep (.type "object") = some true)
    (xv_NoStep : PySem.W.subIn K (.ref C_NoStep) (.type "ValueError") = some true)
    (xs_NoStep_NoStep : PySem.W.mroIn K C_NoStep (.ref C_NoStep) = some true)
    (xs_NoStep_NoBar : PySem.W.mroIn K C_NoStep (.ref C_NoBar) = some false)
    (xs_NoStep_NoChart : PySem.W.mroIn K C_NoStep (.ref C_NoChart) = some false)
    (xs_NoStep_NoFence : PySem.W.mroIn K C_NoStep (.ref C_NoFence) = some false)
    (xs_NoStep_NoFormula : PySem.W.mroIn K C_NoStep (.ref C_NoFormula) = some false)
    (xs_NoStep_NoFrame : PySem.W.mroIn K C_NoStep (.ref C_NoFrame) = some false)
    (xs_NoStep_NoLine : PySem.W.mroIn K C_NoStep (.ref C_NoLine) = some false)
    (xs_NoStep_NoMachine : PySem.W.mroIn K C_NoStep (.ref C_NoMachine) = some false)
    (xs_NoStep_NoName : PySem.W.mroIn K C_NoStep (.ref C_NoName) = some false)
    (xs_NoStep_NotShut : PySem.W.mroIn K C_NoStep (.ref C_NotShut) = some false)
    (xs_NoStep_NothingLeft : PySem.W.mroIn K C_NoStep (.ref C_NothingLeft) = some false)
    (xs_NoStep_TooMany : PySem.W.mroIn K C_NoStep (.ref C_TooMany) = some false)
    (xs_NoStep_EverError : PySem.W.mroIn K C_NoStep (.ref C_EverError) = some true)
    (b_ValueError : PySem.W.nsIn K mainGlobals "ValueError" = some none)
    (ne_ : [C_NoStep, C_NoBar, C_NoChart, C_NoFence, C_NoFormula, C_NoFrame, C_NoLine, C_NoMachine, C_NoName, C_NotShut, C_NothingLeft, C_TooMany, C_EverError].Nodup)
    (e_Move_init : PySem.W.findIn K (.ref C_Move) "__init__" = some (some (.ref f_Move_init)))
    (e_Move_fits : PySem.W.findIn K (.ref C_Move) "fits" = some (some (.ref f_Move_fits)))
    (e_Move_onward : PySem.W.findIn K (.ref C_Move) "onward" = some (some (.ref f_Move_onward)))
    (e_Machine_init : PySem.W.findIn K (.ref C_Machine) "__init__" = some (some (.ref f_Machine_init)))
    (e_Machine_which : PySem.W.findIn K (.ref C_Machine) "which" = some (some (.ref f_Machine_which)))
    (e_Machine_walked : PySem.W.findIn K (.ref C_Machine) "walked" = some (some (.ref f_Machine_walked)))
    (e_Lamp_init : PySem.W.findIn K (.ref C_Lamp) "__init__" = some (some (.ref f_Lamp_init)))
    (e_Lamp_holds : PySem.W.findIn K (.ref C_Lamp) "holds" = some (some (.ref f_Lamp_holds)))
    (e_Sure_init : PySem.W.findIn K (.ref C_Sure) "__init__" = some (some (.ref f_Sure_init)))
    (e_Sure_holds : PySem.W.findIn K (.ref C_Sure) "holds" = some (some (.ref f_Sure_holds)))
    (e_Not_init : PySem.W.findIn K (.ref C_Not) "__init__" = some (some (.ref f_Not_init)))
    (e_Not_holds : PySem.W.findIn K (.ref C_Not) "holds" = some (some (.ref f_Not_holds)))
    (e_Joined_init : PySem.W.findIn K (.ref C_Joined) "__init__" = some (some (.ref f_Joined_init)))
    (e_And_holds : PySem.W.findIn K (.ref C_And) "holds" = some (some (.ref f_And_holds)))
    (e_And_init : PySem.W.findIn K (.ref C_And) "__init__" = some (some (.ref f_Joined_init)))
    (e_Either_holds : PySem.W.findIn K (.ref C_Either) "holds" = some (some (.ref f_Either_holds)))
    (e_Either_init : PySem.W.findIn K (.ref C_Either) "__init__" = some (some (.ref f_Joined_init)))
    (e_Or_holds : PySem.W.findIn K (.ref C_Or) "holds" = some (some (.ref f_Or_holds)))
    (e_Or_init : PySem.W.findIn K (.ref C_Or) "__init__" = some (some (.ref f_Joined_init)))
    (l__law_cell_at : K.lookup f__law_cell_at = some ⟨oc__law_cell_at, od__law_cell_at, .func (PySem.W.fnOf "_law_cell_at" "_law_cell_at" (defArgs s__law_cell_at) (defBody s__law_cell_at) (defScope s__law_cell_at) .none kV__law_cell_at dc__law_cell_at pm__law_cell_at an__law_cell_at cd__law_cell_at ct__law_cell_at), sl__law_cell_at⟩)
    (c__law_cell_at : PySem.W.codeIn K cd__law_cell_at "_law_cell_at" = true)
    (k__law_cell_at : PySem.W.keepIn K (.ref f__law_cell_at) = true)
    (l__law_lit : K.lookup f__law_lit = some ⟨oc__law_lit, od__law_lit, .func (PySem.W.fnOf "_law_lit" "_law_lit" (defArgs s__law_lit) (defBody s__law_lit) (defScope s__law_lit) .none kV__law_lit dc__law_lit pm__law_lit an__law_lit cd__law_lit ct__law_lit), sl__law_lit⟩)
    (c__law_lit : PySem.W.codeIn K cd__law_lit "_law_lit" = true)
    (k__law_lit : PySem.W.keepIn K (.ref f__law_lit) = true)
    (l__law_recipe : K.lookup f__law_recipe = some ⟨oc__law_recipe, od__law_recipe, .func (PySem.W.fnOf "_law_recipe" "_law_recipe" (defArgs s__law_recipe) (defBody s__law_recipe) (defScope s__law_recipe) .none kV__law_recipe dc__law_recipe pm__law_recipe an__law_recipe cd__law_recipe ct__law_recipe), sl__law_recipe⟩)
    (c__law_recipe : PySem.W.codeIn K cd__law_recipe "_law_recipe" = true)
    (k__law_recipe : PySem.W.keepIn K (.ref f__law_recipe) = true)
    (l__law_made : K.lookup f__law_made = some ⟨oc__law_made, od__law_made, .func (PySem.W.fnOf "_law_made" "_law_made" (defArgs s__law_made) (defBody s__law_made) (defScope s__law_made) .none kV__law_made dc__law_made pm__law_made an__law_made cd__law_made ct__law_made), sl__law_made⟩)
    (c__law_made : PySem.W.codeIn K cd__law_made "_law_made" = true)
    (k__law_made : PySem.W.keepIn K (.ref f__law_made) = true)
    (l__law_due : K.lookup f__law_due = some ⟨oc__law_due, od__law_due, .func (PySem.W.fnOf "_law_due" "_law_due" (defArgs s__law_due) (defBody s__law_due) (defScope s__law_due) .none kV__law_due dc__law_due pm__law_due an__law_due cd__law_due ct__law_due), sl__law_due⟩)
    (c__law_due : PySem.W.codeIn K cd__law_due "_law_due" = true)
    (k__law_due : PySem.W.keepIn K (.ref f__law_due) = true)
    (l__law_changes : K.lookup f__law_changes = some ⟨oc__law_changes, od__law_changes, .func (PySem.W.fnOf "_law_changes" "_law_changes" (defArgs s__law_changes) (defBody s__law_changes) (defScope s__law_changes) .none kV__law_changes dc__law_changes pm__law_changes an__law_changes cd__law_changes ct__law_changes), sl__law_changes⟩)
    (c__law_changes : PySem.W.codeIn K cd__law_changes "_law_changes" = true)
    (k__law_changes : PySem.W.keepIn K (.ref f__law_changes) = true)
    (l__law_onward : K.lookup f__law_onward = some ⟨oc__law_onward, od__law_onward, .func (PySem.W.fnOf "_law_onward" "_law_onward" (defArgs s__law_onward) (defBody s__law_onward) (defScope s__law_onward) .none kV__law_onward dc__law_onward pm__law_onward an__law_onward cd__law_onward ct__law_onward), sl__law_onward⟩)
    (c__law_onward : PySem.W.codeIn K cd__law_onward "_law_onward" = true)
    (k__law_onward : PySem.W.keepIn K (.ref f__law_onward) = true)
    (l__law_first : K.lookup f__law_first = some ⟨oc__law_first, od__law_first, .func (PySem.W.fnOf "_law_first" "_law_first" (defArgs s__law_first) (defBody s__law_first) (defScope s__law_first) .none kV__law_first dc__law_first pm__law_first an__law_first cd__law_first ct__law_first), sl__law_first⟩)
    (c__law_first : PySem.W.codeIn K cd__law_first "_law_first" = true)
    (k__law_first : PySem.W.keepIn K (.ref f__law_first) = true)
    (l__law_machines : K.lookup f__law_machines = some ⟨oc__law_machines, od__law_machines, .func (PySem.W.fnOf "_law_machines" "_law_machines" (defArgs s__law_machines) (defBody s__law_machines) (defScope s__law_machines) .none kV__law_machines dc__law_machines pm__law_machines an__law_machines cd__law_machines ct__law_machines), sl__law_machines⟩)
    (c__law_machines : PySem.W.codeIn K cd__law_machines "_law_machines" = true)
    (k__law_machines : PySem.W.keepIn K (.ref f__law_machines) = true)
    (l__law_walk : K.lookup f__law_walk = some ⟨oc__law_walk, od__law_walk, .func (PySem.W.fnOf "_law_walk" "_law_walk" (defArgs s__law_walk) (defBody s__law_walk) (defScope s__law_walk) .none kV__law_walk dc__law_walk pm__law_walk an__law_walk cd__law_walk ct__law_walk), sl__law_walk⟩)
    (c__law_walk : PySem.W.codeIn K cd__law_walk "_law_walk" = true)
    (k__law_walk : PySem.W.keepIn K (.ref f__law_walk) = true)
    (l__law_wrong : K.lookup f__law_wrong = some ⟨oc__law_wrong, od__law_wrong, .func (PySem.W.fnOf "_law_wrong" "_law_wrong" (defArgs s__law_wrong) (defBody s__law_wrong) (defScope s__law_wrong) .none kV__law_wrong dc__law_wrong pm__law_wrong an__law_wrong cd__law_wrong ct__law_wrong), sl__law_wrong⟩)
    (c__law_wrong : PySem.W.codeIn K cd__law_wrong "_law_wrong" = true)
    (k__law_wrong : PySem.W.keepIn K (.ref f__law_wrong) = true)
    (l__law_of_others : K.lookup f__law_of_others = some ⟨oc__law_of_others, od__law_of_others, .func (PySem.W.fnOf "_law_of_others" "_law_of_others" (defArgs s__law_of_others) (defBody s__law_of_others) (defScope s__law_of_others) .none kV__law_of_others dc__law_of_others pm__law_of_others an__law_of_others cd__law_of_others ct__law_of_others), sl__law_of_others⟩)
    (c__law_of_others : PySem.W.codeIn K cd__law_of_others "_law_of_others" = true)
    (k__law_of_others : PySem.W.keepIn K (.ref f__law_of_others) = true)
    (l__law_refused : K.lookup f__law_refused = some ⟨oc__law_refused, od__law_refused, .func (PySem.W.fnOf "_law_refused" "_law_refused" (defArgs s__law_refused) (defBody s__law_refused) (defScope s__law_refused) .none kV__law_refused dc__law_refused pm__law_refused an__law_refused cd__law_refused ct__law_refused), sl__law_refused⟩)
    (c__law_refused : PySem.W.codeIn K cd__law_refused "_law_refused" = true)
    (k__law_refused : PySem.W.keepIn K (.ref f__law_refused) = true)
    (l__law_which : K.lookup f__law_which = some ⟨oc__law_which, od__law_which, .func (PySem.W.fnOf "_law_which" "_law_which" (defArgs s__law_which) (defBody s__law_which) (defScope s__law_which) .none kV__law_which dc__law_which pm__law_which an__law_which cd__law_which ct__law_which), sl__law_which⟩)
    (c__law_which : PySem.W.codeIn K cd__law_which "_law_which" = true)
    (k__law_which : PySem.W.keepIn K (.ref f__law_which) = true)
    (l__law_whichs : K.lookup f__law_whichs = some ⟨oc__law_whichs, od__law_whichs, .func (PySem.W.fnOf "_law_whichs" "_law_whichs" (defArgs s__law_whichs) (defBody s__law_whichs) (defScope s__law_whichs) .none kV__law_whichs dc__law_whichs pm__law_whichs an__law_whichs cd__law_whichs ct__law_whichs), sl__law_whichs⟩)
    (c__law_whichs : PySem.W.codeIn K cd__law_whichs "_law_whichs" = true)
    (k__law_whichs : PySem.W.keepIn K (.ref f__law_whichs) = true)
    (l_law : K.lookup f_law = some ⟨oc_law, od_law, .func (PySem.W.fnOf "law" "law" (defArgs s_law) (defBody s_law) (defScope s_law) .none kV_law dc_law pm_law an_law cd_law ct_law), sl_law⟩)
    (c_law : PySem.W.codeIn K cd_law "law" = true)
    (k_law : PySem.W.keepIn K (.ref f_law) = true)
    (l_Move_init : K.lookup f_Move_init = some ⟨oc_Move_init, od_Move_init, .func (PySem.W.fnOf "__init__" "Move.__init__" (defArgs s_Move_init) (defBody s_Move_init) (defScope s_Move_init) .none kV_Move_init dc_Move_init pm_Move_init an_Move_init cd_Move_init ct_Move_init), sl_Move_init⟩)
    (c_Move_init : PySem.W.codeIn K cd_Move_init "Move.__init__" = true)
    (k_Move_init : PySem.W.keepIn K (.ref f_Move_init) = true)
    (i_Move_init : PySem.W.isFn K (.ref f_Move_init) = true)
    (l_Move_fits : K.lookup f_Move_fits = some ⟨oc_Move_fits, od_Move_fits, .func (PySem.W.fnOf "fits" "Move.fits" (defArgs s_Move_fits) (defBody s_Move_fits) (defScope s_Move_fits) .none kV_Move_fits dc_Move_fits pm_Move_fits an_Move_fits cd_Move_fits ct_Move_fits), sl_Move_fits⟩)
    (c_Move_fits : PySem.W.codeIn K cd_Move_fits "Move.fits" = true)
    (k_Move_fits : PySem.W.keepIn K (.ref f_Move_fits) = true)
    (i_Move_fits : PySem.W.isFn K (.ref f_Move_fits) = true)
    (l_Move_onward : K.lookup f_Move_onward = some ⟨oc_Move_onward, od_Move_onward, .func (PySem.W.fnOf "onward" "Move.onward" (defArgs s_Move_onward) (defBody s_Move_onward) (defScope s_Move_onward) .none kV_Move_onward dc_Move_onward pm_Move_onward an_Move_onward cd_Move_onward ct_Move_onward), sl_Move_onward⟩)
    (c_Move_onward : PySem.W.codeIn K cd_Move_onward "Move.onward" = true)
    (k_Move_onward : PySem.W.keepIn K (.ref f_Move_onward) = true)
    (i_Move_onward : PySem.W.isFn K (.ref f_Move_onward) = true)
    (l_Machine_init : K.lookup f_Machine_init = some ⟨oc_Machine_init, od_Machine_init, .func (PySem.W.fnOf "__init__" "Machine.__init__" (defArgs s_Machine_init) (defBody s_Machine_init) (defScope s_Machine_init) .none kV_Machine_init dc_Machine_init pm_Machine_init an_Machine_init cd_Machine_init ct_Machine_init), sl_Machine_init⟩)
    (c_Machine_init : PySem.W.codeIn K cd_Machine_init "Machine.__init__" = true)
    (k_Machine_init : PySem.W.keepIn K (.ref f_Machine_init) = true)
    (i_Machine_init : PySem.W.isFn K (.ref f_Machine_init) = true)
    (l_Machine_which : K.lookup f_Machine_which = some ⟨oc_Machine_which, od_Machine_which, .func (PySem.W.fnOf "which" "Machine.which" (defArgs s_Machine_which) (defBody s_Machine_which) (defScope s_Machine_which) .none kV_Machine_which dc_Machine_which pm_Machine_which an_Machine_which cd_Machine_which ct_Machine_which), sl_Machine_which⟩)
    (c_Machine_which : PySem.W.codeIn K cd_Machine_which "Machine.which" = true)
    (k_Machine_which : PySem.W.keepIn K (.ref f_Machine_which) = true)
    (i_Machine_which : PySem.W.isFn K (.ref f_Machine_which) = true)
    (l_Machine_walked : K.lookup f_Machine_walked = some ⟨oc_Machine_walked, od_Machine_walked, .func (PySem.W.fnOf "walked" "Machine.walked" (defArgs s_Machine_walked) (defBody s_Machine_walked) (defScope s_Machine_walked) .none kV_Machine_walked dc_Machine_walked pm_Machine_walked an_Machine_walked cd_Machine_walked ct_Machine_walked), sl_Machine_walked⟩)
    (c_Machine_walked : PySem.W.codeIn K cd_Machine_walked "Machine.walked" = true)
    (k_Machine_walked : PySem.W.keepIn K (.ref f_Machine_walked) = true)
    (i_Machine_walked : PySem.W.isFn K (.ref f_Machine_walked) = true)
    (l_Lamp_init : K.lookup f_Lamp_init = some ⟨oc_Lamp_init, od_Lamp_init, .func (PySem.W.fnOf "__init__" "Lamp.__init__" (defArgs s_Lamp_init) (defBody s_Lamp_init) (defScope s_Lamp_init) .none kV_Lamp_init dc_Lamp_init pm_Lamp_init an_Lamp_init cd_Lamp_init ct_Lamp_init), sl_Lamp_init⟩)
    (c_Lamp_init : PySem.W.codeIn K cd_Lamp_init "Lamp.__init__" = true)
    (k_Lamp_init : PySem.W.keepIn K (.ref f_Lamp_init) = true)
    (i_Lamp_init : PySem.W.isFn K (.ref f_Lamp_init) = true)
    (l_Lamp_holds : K.lookup f_Lamp_holds = some ⟨oc_Lamp_holds, od_Lamp_holds, .func (PySem.W.fnOf "holds" "Lamp.holds" (defArgs s_Lamp_holds) (defBody s_Lamp_holds) (defScope s_Lamp_holds) .none kV_Lamp_holds dc_Lamp_holds pm_Lamp_holds an_Lamp_holds cd_Lamp_holds ct_Lamp_holds), sl_Lamp_holds⟩)
    (c_Lamp_holds : PySem.W.codeIn K cd_Lamp_holds "Lamp.holds" = true)
    (k_Lamp_holds : PySem.W.keepIn K (.ref f_Lamp_holds) = true)
    (i_Lamp_holds : PySem.W.isFn K (.ref f_Lamp_holds) = true)
    (l_Sure_init : K.lookup f_Sure_init = some ⟨oc_Sure_init, od_Sure_init, .func (PySem.W.fnOf "__init__" "Sure.__init__" (defArgs s_Sure_init) (defBody s_Sure_init) (defScope s_Sure_init) .none kV_Sure_init dc_Sure_init pm_Sure_init an_Sure_init cd_Sure_init ct_Sure_init), sl_Sure_init⟩)
    (c_Sure_init : PySem.W.codeIn K cd_Sure_init "Sure.__init__" = true)
    (k_Sure_init : PySem.W.keepIn K (.ref f_Sure_init) = true)
    (i_Sure_init : PySem.W.isFn K (.ref f_Sure_init) = true)
    (l_Sure_holds : K.lookup f_Sure_holds = some ⟨oc_Sure_holds, od_Sure_holds, .func (PySem.W.fnOf "holds" "Sure.holds" (defArgs s_Sure_holds) (defBody s_Sure_holds) (defScope s_Sure_holds) .none kV_Sure_holds dc_Sure_holds pm_Sure_holds an_Sure_holds cd_Sure_holds ct_Sure_holds), sl_Sure_holds⟩)
    (c_Sure_holds : PySem.W.codeIn K cd_Sure_holds "Sure.holds" = true)
    (k_Sure_holds : PySem.W.keepIn K (.ref f_Sure_holds) = true)
    (i_Sure_holds : PySem.W.isFn K (.ref f_Sure_holds) = true)
    (l_Not_init : K.lookup f_Not_init = some ⟨oc_Not_init, od_Not_init, .func (PySem.W.fnOf "__init__" "Not.__init__" (defArgs s_Not_init) (defBody s_Not_init) (defScope s_Not_init) .none kV_Not_init dc_Not_init pm_Not_init an_Not_init cd_Not_init ct_Not_init), sl_Not_init⟩)
    (c_Not_init : PySem.W.codeIn K cd_Not_init "Not.__init__" = true)
    (k_Not_init : PySem.W.keepIn K (.ref f_Not_init) = true)
    (i_Not_init : PySem.W.isFn K (.ref f_Not_init) = true)
    (l_Not_holds : K.lookup f_Not_holds = some ⟨oc_Not_holds, od_Not_holds, .func (PySem.W.fnOf "holds" "Not.holds" (defArgs s_Not_holds) (defBody s_Not_holds) (defScope s_Not_holds) .none kV_Not_holds dc_Not_holds pm_Not_holds an_Not_holds cd_Not_holds ct_Not_holds), sl_Not_holds⟩)
    (c_Not_holds : PySem.W.codeIn K cd_Not_holds "Not.holds" = true)
    (k_Not_holds : PySem.W.keepIn K (.ref f_Not_holds) = true)
    (i_Not_holds : PySem.W.isFn K (.ref f_Not_holds) = true)
    (l_Joined_init : K.lookup f_Joined_init = some ⟨oc_Joined_init, od_Joined_init, .func (PySem.W.fnOf "__init__" "Joined.__init__" (defArgs s_Joined_init) (defBody s_Joined_init) (defScope s_Joined_init) .none kV_Joined_init dc_Joined_init pm_Joined_init an_Joined_init cd_Joined_init ct_Joined_init), sl_Joined_init⟩)
    (c_Joined_init : PySem.W.codeIn K cd_Joined_init "Joined.__init__" = true)
    (k_Joined_init : PySem.W.keepIn K (.ref f_Joined_init) = true)
    (i_Joined_init : PySem.W.isFn K (.ref f_Joined_init) = true)
    (l_And_holds : K.lookup f_And_holds = some ⟨oc_And_holds, od_And_holds, .func (PySem.W.fnOf "holds" "And.holds" (defArgs s_And_holds) (defBody s_And_holds) (defScope s_And_holds) .none kV_And_holds dc_And_holds pm_And_holds an_And_holds cd_And_holds ct_And_holds), sl_And_holds⟩)
    (c_And_holds : PySem.W.codeIn K cd_And_holds "And.holds" = true)
    (k_And_holds : PySem.W.keepIn K (.ref f_And_holds) = true)
    (i_And_holds : PySem.W.isFn K (.ref f_And_holds) = true)
    (l_Either_holds : K.lookup f_Either_holds = some ⟨oc_Either_holds, od_Either_holds, .func (PySem.W.fnOf "holds" "Either.holds" (defArgs s_Either_holds) (defBody s_Either_holds) (defScope s_Either_holds) .none kV_Either_holds dc_Either_holds pm_Either_holds an_Either_holds cd_Either_holds ct_Either_holds), sl_Either_holds⟩)
    (c_Either_holds : PySem.W.codeIn K cd_Either_holds "Either.holds" = true)
    (k_Either_holds : PySem.W.keepIn K (.ref f_Either_holds) = true)
    (i_Either_holds : PySem.W.isFn K (.ref f_Either_holds) = true)
    (l_Or_holds : K.lookup f_Or_holds = some ⟨oc_Or_holds, od_Or_holds, .func (PySem.W.fnOf "holds" "Or.holds" (defArgs s_Or_holds) (defBody s_Or_holds) (defScope s_Or_holds) .none kV_Or_holds dc_Or_holds pm_Or_holds an_Or_holds cd_Or_holds ct_Or_holds), sl_Or_holds⟩)
    (c_Or_holds : PySem.W.codeIn K cd_Or_holds "Or.holds" = true)
    (k_Or_holds : PySem.W.keepIn K (.ref f_Or_holds) = true)
    (i_Or_holds : PySem.W.isFn K (.ref f_Or_holds) = true)
    (pg_Move : PySem.W.plainGet K C_Move Str.empty = true)
    (hd_Move : PySem.W.hasDictIn K C_Move = true)
    (po_Move : PySem.W.plainOver K C_Move = true)
    (sa_Move : PySem.W.findIn K (.ref C_Move) "__setattr__" = some (some (.builtin "object.__setattr__")))
    (kc_Move : PySem.W.keepIn K (.ref C_Move) = true)
    (ha_Move : PySem.W.findIn K (.ref C_Move) "__class__" = some (some (.builtin "object.__class__")))
    (hm_Move : PySem.W.mroIn K C_Move (.type "object") = some true)
    (mk_Move : PySem.W.makesIn K C_Move = true)
    (n_Move_guard : PySem.W.findIn K (.ref C_Move) "guard" = some none)
    (n_Move_changes : PySem.W.findIn K (.ref C_Move) "changes" = some none)
    (n_Move_names : PySem.W.findIn K (.ref C_Move) "names" = some none)
    (n_Move_starts : PySem.W.findIn K (.ref C_Move) "starts" = some none)
    (n_Move_bads : PySem.W.findIn K (.ref C_Move) "bads" = some none)
    (n_Move_moves : PySem.W.findIn K (.ref C_Move) "moves" = some none)
    (n_Move_at : PySem.W.findIn K (.ref C_Move) "at" = some none)
    (n_Move_truth : PySem.W.findIn K (.ref C_Move) "truth" = some none)
    (n_Move_part : PySem.W.findIn K (.ref C_Move) "part" = some none)
    (n_Move_parts : PySem.W.findIn K (.ref C_Move) "parts" = some none)
    (pg_Machine : PySem.W.plainGet K C_Machine Str.empty = true)
    (hd_Machine : PySem.W.hasDictIn K C_Machine = true)
    (po_Machine : PySem.W.plainOver K C_Machine = true)
    (sa_Machine : PySem.W.findIn K (.ref C_Machine) "__setattr__" = some (some (.builtin "object.__setattr__")))
    (kc_Machine : PySem.W.keepIn K (.ref C_Machine) = true)
    (ha_Machine : PySem.W.findIn K (.ref C_Machine) "__class__" = some (some (.builtin "object.__class__")))
    (hm_Machine : PySem.W.mroIn K C_Machine (.type "object") = some true)
    (mk_Machine : PySem.W.makesIn K C_Machine = true)
    (n_Machine_guard : PySem.W.findIn K (.ref C_Machine) "guard" = some none)
    (n_Machine_changes : PySem.W.findIn K (.ref C_Machine) "changes" = some none)
    (n_Machine_names : PySem.W.findIn K (.ref C_Machine) "names" = some none)
    (n_Machine_starts : PySem.W.findIn K (.ref C_Machine) "starts" = some none)
    (n_Machine_bads : PySem.W.findIn K (.ref C_Machine) "bads" = some none)
    (n_Machine_moves : PySem.W.findIn K (.ref C_Machine) "moves" = some none)
    (n_Machine_at : PySem.W.findIn K (.ref C_Machine) "at" = some none)
    (n_Machine_truth : PySem.W.findIn K (.ref C_Machine) "truth" = some none)
    (n_Machine_part : PySem.W.findIn K (.ref C_Machine) "part" = some none)
    (n_Machine_parts : PySem.W.findIn K (.ref C_Machine) "parts" = some none)
    (pg_Formula : PySem.W.plainGet K C_Formula Str.empty = true)
    (hd_Formula : PySem.W.hasDictIn K C_Formula = true)
    (po_Formula : PySem.W.plainOver K C_Formula = true)
    (sa_Formula : PySem.W.findIn K (.ref C_Formula) "__setattr__" = some (some (.builtin "object.__setattr__")))
    (kc_Formula : PySem.W.keepIn K (.ref C_Formula) = true)
    (ha_Formula : PySem.W.findIn K (.ref C_Formula) "__class__" = some (some (.builtin "object.__class__")))
    (hm_Formula : PySem.W.mroIn K C_Formula (.type "object") = some true)
    (n_Formula_guard : PySem.W.findIn K (.ref C_Formula) "guard" = some none)
    (n_Formula_changes : PySem.W.findIn K (.ref C_Formula) "changes" = some none)
    (n_Formula_names : PySem.W.findIn K (.ref C_Formula) "names" = some none)
    (n_Formula_starts : PySem.W.findIn K (.ref C_Formula) "starts" = some none)
    (n_Formula_bads : PySem.W.findIn K (.ref C_Formula) "bads" = some none)
    (n_Formula_moves : PySem.W.findIn K (.ref C_Formula) "moves" = some none)
    (n_Formula_at : PySem.W.findIn K (.ref C_Formula) "at" = some none)
    (n_Formula_truth : PySem.W.findIn K (.ref C_Formula) "truth" = some none)
    (n_Formula_part : PySem.W.findIn K (.ref C_Formula) "part" = some none)
    (n_Formula_parts : PySem.W.findIn K (.ref C_Formula) "parts" = some none)
    (pg_Lamp : PySem.W.plainGet K C_Lamp Str.empty = true)
    (hd_Lamp : PySem.W.hasDictIn K C_Lamp = true)
    (po_Lamp : PySem.W.plainOver K C_Lamp = true)
    (sa_Lamp : PySem.W.findIn K (.ref C_Lamp) "__setattr__" = some (some (.builtin "object.__setattr__")))
    (kc_Lamp : PySem.W.keepIn K (.ref C_Lamp) = true)
    (ha_Lamp : PySem.W.findIn K (.ref C_Lamp) "__class__" = some (some (.builtin "object.__class__")))
    (hm_Lamp : PySem.W.mroIn K C_Lamp (.type "object") = some true)
    (mk_Lamp : PySem.W.makesIn K C_Lamp = true)
    (n_Lamp_guard : PySem.W.findIn K (.ref C_Lamp) "guard" = some none)
    (n_Lamp_changes : PySem.W.findIn K (.ref C_Lamp) "changes" = some none)
    (n_Lamp_names : PySem.W.findIn K (.ref C_Lamp) "names" = some none)
    (n_Lamp_starts : PySem.W.findIn K (.ref C_Lamp) "starts" = some none)
    (n_Lamp_bads : PySem.W.findIn K (.ref C_Lamp) "bads" = some none)
    (n_Lamp_moves : PySem.W.findIn K (.ref C_Lamp) "moves" = some none)
    (n_Lamp_at : PySem.W.findIn K (.ref C_Lamp) "at" = some none)
    (n_Lamp_truth : PySem.W.findIn K (.ref C_Lamp) "truth" = some none)
    (n_Lamp_part : PySem.W.findIn K (.ref C_Lamp) "part" = some none)
    (n_Lamp_parts : PySem.W.findIn K (.ref C_Lamp) "parts" = some none)
    (pg_Sure : PySem.W.plainGet K C_Sure Str.empty = true)
    (hd_Sure : PySem.W.hasDictIn K C_Sure = true)
    (po_Sure : PySem.W.plainOver K C_Sure = true)
    (sa_Sure : PySem.W.findIn K (.ref C_Sure) "__setattr__" = some (some (.builtin "object.__setattr__")))
    (kc_Sure : PySem.W.keepIn K (.ref C_Sure) = true)
    (ha_Sure : PySem.W.findIn K (.ref C_Sure) "__class__" = some (some (.builtin "object.__class__")))
    (hm_Sure : PySem.W.mroIn K C_Sure (.type "object") = some true)
    (mk_Sure : PySem.W.makesIn K C_Sure = true)
    (n_Sure_guard : PySem.W.findIn K (.ref C_Sure) "guard" = some none)
    (n_Sure_changes : PySem.W.findIn K (.ref C_Sure) "changes" = some none)
    (n_Sure_names : PySem.W.findIn K (.ref C_Sure) "names" = some none)
    (n_Sure_starts : PySem.W.findIn K (.ref C_Sure) "starts" = some none)
    (n_Sure_bads : PySem.W.findIn K (.ref C_Sure) "bads" = some none)
    (n_Sure_moves : PySem.W.findIn K (.ref C_Sure) "moves" = some none)
    (n_Sure_at : PySem.W.findIn K (.ref C_Sure) "at" = some none)
    (n_Sure_truth : PySem.W.findIn K (.ref C_Sure) "truth" = some none)
    (n_Sure_part : PySem.W.findIn K (.ref C_Sure) "part" = some none)
    (n_Sure_parts : PySem.W.findIn K (.ref C_Sure) "parts" = some none)
    (pg_Not : PySem.W.plainGet K C_Not Str.empty = true)
    (hd_Not : PySem.W.hasDictIn K C_Not = true)
    (po_Not : PySem.W.plainOver K C_Not = true)
    (sa_Not : PySem.W.findIn K (.ref C_Not) "__setattr__" = some (some (.builtin "object.__setattr__")))
    (kc_Not : PySem.W.keepIn K (.ref C_Not) = true)
    (ha_Not : PySem.W.findIn K (.ref C_Not) "__class__" = some (some (.builtin "object.__class__")))
    (hm_Not : PySem.W.mroIn K C_Not (.type "object") = some true)
    (mk_Not : PySem.W.makesIn K C_Not = true)
    (n_Not_guard : PySem.W.findIn K (.ref C_Not) "guard" = some none)
    (n_Not_changes : PySem.W.findIn K (.ref C_Not) "changes" = some none)
    (n_Not_names : PySem.W.findIn K (.ref C_Not) "names" = some none)
    (n_Not_starts : PySem.W.findIn K (.ref C_Not) "starts" = some none)
    (n_Not_bads : PySem.W.findIn K (.ref C_Not) "bads" = some none)
    (n_Not_moves : PySem.W.findIn K (.ref C_Not) "moves" = some none)
    (n_Not_at : PySem.W.findIn K (.ref C_Not) "at" = some none)
    (n_Not_truth : PySem.W.findIn K (.ref C_Not) "truth" = some none)
    (n_Not_part : PySem.W.findIn K (.ref C_Not) "part" = some none)
    (n_Not_parts : PySem.W.findIn K (.ref C_Not) "parts" = some none)
    (pg_Joined : PySem.W.plainGet K C_Joined Str.empty = true)
    (hd_Joined : PySem.W.hasDictIn K C_Joined = true)
    (po_Joined : PySem.W.plainOver K C_Joined = true)
    (sa_Joined : PySem.W.findIn K (.ref C_Joined) "__setattr__" = some (some (.builtin "object.__setattr__")))
    (kc_Joined : PySem.W.keepIn K (.ref C_Joined) = true)
    (ha_Joined : PySem.W.findIn K (.ref C_Joined) "__class__" = some (some (.builtin "object.__class__")))
    (hm_Joined : PySem.W.mroIn K C_Joined (.type "object") = some true)
    (mk_Joined : PySem.W.makesIn K C_Joined = true)
    (n_Joined_guard : PySem.W.findIn K (.ref C_Joined) "guard" = some none)
    (n_Joined_changes : PySem.W.findIn K (.ref C_Joined) "changes" = some none)
    (n_Joined_names : PySem.W.findIn K (.ref C_Joined) "names" = some none)
    (n_Joined_starts : PySem.W.findIn K (.ref C_Joined) "starts" = some none)
    (n_Joined_bads : PySem.W.findIn K (.ref C_Joined) "bads" = some none)
    (n_Joined_moves : PySem.W.findIn K (.ref C_Joined) "moves" = some none)
    (n_Joined_at : PySem.W.findIn K (.ref C_Joined) "at" = some none)
    (n_Joined_truth : PySem.W.findIn K (.ref C_Joined) "truth" = some none)
    (n_Joined_part : PySem.W.findIn K (.ref C_Joined) "part" = some none)
    (n_Joined_parts : PySem.W.findIn K (.ref C_Joined) "parts" = some none)
    (pg_And : PySem.W.plainGet K C_And Str.empty = true)
    (hd_And : PySem.W.hasDictIn K C_And = true)
    (po_And : PySem.W.plainOver K C_And = true)
    (sa_And : PySem.W.findIn K (.ref C_And) "__setattr__" = some (some (.builtin "object.__setattr__")))
    (kc_And : PySem.W.keepIn K (.ref C_And) = true)
    (ha_And : PySem.W.findIn K (.ref C_And) "__class__" = some (some (.builtin "object.__class__")))
    (hm_And : PySem.W.mroIn K C_And (.type "object") = some true)
    (mk_And : PySem.W.makesIn K C_And = true)
    (n_And_guard : PySem.W.findIn K (.ref C_And) "guard" = some none)
    (n_And_changes : PySem.W.findIn K (.ref C_And) "changes" = some none)
    (n_And_names : PySem.W.findIn K (.ref C_And) "names" = some none)
    (n_And_starts : PySem.W.findIn K (.ref C_And) "starts" = some none)
    (n_And_bads : PySem.W.findIn K (.ref C_And) "bads" = some none)
    (n_And_moves : PySem.W.findIn K (.ref C_And) "moves" = some none)
    (n_And_at : PySem.W.findIn K (.ref C_And) "at" = some none)
    (n_And_truth : PySem.W.findIn K (.ref C_And) "truth" = some none)
    (n_And_part : PySem.W.findIn K (.ref C_And) "part" = some none)
    (n_And_parts : PySem.W.findIn K (.ref C_And) "parts" = some none)
    (pg_Either : PySem.W.plainGet K C_Either Str.empty = true)
    (hd_Either : PySem.W.hasDictIn K C_Either = true)
    (po_Either : PySem.W.plainOver K C_Either = true)
    (sa_Either : PySem.W.findIn K (.ref C_Either) "__setattr__" = some (some (.builtin "object.__setattr__")))
    (kc_Either : PySem.W.keepIn K (.ref C_Either) = true)
    (ha_Either : PySem.W.findIn K (.ref C_Either) "__class__" = some (some (.builtin "object.__class__")))
    (hm_Either : PySem.W.mroIn K C_Either (.type "object") = some true)
    (mk_Either : PySem.W.makesIn K C_Either = true)
    (n_Either_guard : PySem.W.findIn K (.ref C_Either) "guard" = some none)
    (n_Either_changes : PySem.W.findIn K (.ref C_Either) "changes" = some none)
    (n_Either_names : PySem.W.findIn K (.ref C_Either) "names" = some none)
    (n_Either_starts : PySem.W.findIn K (.ref C_Either) "starts" = some none)
    (n_Either_bads : PySem.W.findIn K (.ref C_Either) "bads" = some none)
    (n_Either_moves : PySem.W.findIn K (.ref C_Either) "moves" = some none)
    (n_Either_at : PySem.W.findIn K (.ref C_Either) "at" = some none)
    (n_Either_truth : PySem.W.findIn K (.ref C_Either) "truth" = some none)
    (n_Either_part : PySem.W.findIn K (.ref C_Either) "part" = some none)
    (n_Either_parts : PySem.W.findIn K (.ref C_Either) "parts" = some none)
    (pg_Or : PySem.W.plainGet K C_Or Str.empty = true)
    (hd_Or : PySem.W.hasDictIn K C_Or = true)
    (po_Or : PySem.W.plainOver K C_Or = true)
    (sa_Or : PySem.W.findIn K (.ref C_Or) "__setattr__" = some (some (.builtin "object.__setattr__")))
    (kc_Or : PySem.W.keepIn K (.ref C_Or) = true)
    (ha_Or : PySem.W.findIn K (.ref C_Or) "__class__" = some (some (.builtin "object.__class__")))
    (hm_Or : PySem.W.mroIn K C_Or (.type "object") = some true)
    (mk_Or : PySem.W.makesIn K C_Or = true)
    (n_Or_guard : PySem.W.findIn K (.ref C_Or) "guard" = some none)
    (n_Or_changes : PySem.W.findIn K (.ref C_Or) "changes" = some none)
    (n_Or_names : PySem.W.findIn K (.ref C_Or) "names" = some none)
    (n_Or_starts : PySem.W.findIn K (.ref C_Or) "starts" = some none)
    (n_Or_bads : PySem.W.findIn K (.ref C_Or) "bads" = some none)
    (n_Or_moves : PySem.W.findIn K (.ref C_Or) "moves" = some none)
    (n_Or_at : PySem.W.findIn K (.ref C_Or) "at" = some none)
    (n_Or_truth : PySem.W.findIn K (.ref C_Or) "truth" = some none)
    (n_Or_part : PySem.W.findIn K (.ref C_Or) "part" = some none)
    (n_Or_parts : PySem.W.findIn K (.ref C_Or) "parts" = some none)
    (nd_ : [C_Move, C_Machine, C_Formula, C_Lamp, C_Sure, C_Not, C_Joined, C_And, C_Either, C_Or].Nodup)
    (hn_ : PySem.W.specialIn K (.builtin "object.__class__") "__get__" = some (some (.builtin "getset_descriptor.__get__")))
    (htk_ : PySem.W.takesIn K (.builtin "object.__class__") = some true)
    (b_len : PySem.W.nsIn K mainGlobals "len" = some none)
    (b_range : PySem.W.nsIn K mainGlobals "range" = some none)
    (b_isinstance : PySem.W.nsIn K mainGlobals "isinstance" = some none)
    (b_int : PySem.W.nsIn K mainGlobals "int" = some none)
    (b_bool : PySem.W.nsIn K mainGlobals "bool" = some none)
    (b_str : PySem.W.nsIn K mainGlobals "str" = some none)
    (b_list : PySem.W.nsIn K mainGlobals "list" = some none)
    (b_tuple : PySem.W.nsIn K mainGlobals "tuple" = some none)
    (b_dict : PySem.W.nsIn K mainGlobals "dict" = some none)
    (b_set : PySem.W.nsIn K mainGlobals "set" = some none)
    (b_sorted : PySem.W.nsIn K mainGlobals "sorted" = some none)
    (b_max : PySem.W.nsIn K mainGlobals "max" = some none)
    (b_min : PySem.W.nsIn K mainGlobals "min" = some none)
    (b_sum : PySem.W.nsIn K mainGlobals "sum" = some none)
    (b_any : PySem.W.nsIn K mainGlobals "any" = some none)
    (b_all : PySem.W.nsIn K mainGlobals "all" = some none)
    (b_abs : PySem.W.nsIn K mainGlobals "abs" = some none)
    (b_reversed : PySem.W.nsIn K mainGlobals "reversed" = some none)
    (b_enumerate : PySem.W.nsIn K mainGlobals "enumerate" = some none)
    (b_zip : PySem.W.nsIn K mainGlobals "zip" = some none)
    : ∃ t : Ad, Txt K mg t := by
  refine ⟨⟨f__law_cell_at, PySem.W.fnOf "_law_cell_at" "_law_cell_at" (defArgs s__law_cell_at) (defBody s__law_cell_at) (defScope s__law_cell_at) .none kV__law_cell_at dc__law_cell_at pm__law_cell_at an__law_cell_at cd__law_cell_at ct__law_cell_at, f__law_lit, PySem.W.fnOf "_law_lit" "_law_lit" (defArgs s__law_lit) (defBody s__law_lit) (defScope s__law_lit) .none kV__law_lit dc__law_lit pm__law_lit an__law_lit cd__law_lit ct__law_lit, f__law_recipe, PySem.W.fnOf "_law_recipe" "_law_recipe" (defArgs s__law_recipe) (defBody s__law_recipe) (defScope s__law_recipe) .none kV__law_recipe dc__law_recipe pm__law_recipe an__law_recipe cd__law_recipe ct__law_recipe, f__law_made, PySem.W.fnOf "_law_made" "_law_made" (defArgs s__law_made) (defBody s__law_made) (defScope s__law_made) .none kV__law_made dc__law_made pm__law_made an__law_made cd__law_made ct__law_made, f__law_due, PySem.W.fnOf "_law_due" "_law_due" (defArgs s__law_due) (defBody s__law_due) (defScope s__law_due) .none kV__law_due dc__law_due pm__law_due an__law_due cd__law_due ct__law_due, f__law_changes, PySem.W.fnOf "_law_changes" "_law_changes" (defArgs s__law_changes) (defBody s__law_changes) (defScope s__law_changes) .none kV__law_changes dc__law_changes pm__law_changes an__law_changes cd__law_changes ct__law_changes, f__law_onward, PySem.W.fnOf "_law_onward" "_law_onward" (defArgs s__law_onward) (defBody s__law_onward) (defScope s__law_onward) .none kV__law_onward dc__law_onward pm__law_onward an__law_onward cd__law_onward ct__law_onward, f__law_first, PySem.W.fnOf "_law_first" "_law_first" (defArgs s__law_first) (defBody s__law_first) (defScope s__law_first) .none kV__law_first dc__law_first pm__law_first an__law_first cd__law_first ct__law_first, f__law_machines, PySem.W.fnOf "_law_machines" "_law_machines" (defArgs s__law_machines) (defBody s__law_machines) (defScope s__law_machines) .none kV__law_machines dc__law_machines pm__law_machines an__law_machines cd__law_machines ct__law_machines, f__law_walk, PySem.W.fnOf "_law_walk" "_law_walk" (defArgs s__law_walk) (defBody s__law_walk) (defScope s__law_walk) .none kV__law_walk dc__law_walk pm__law_walk an__law_walk cd__law_walk ct__law_walk, f__law_wrong, PySem.W.fnOf "_law_wrong" "_law_wrong" (defArgs s__law_wrong) (defBody s__law_wrong) (defScope s__law_wrong) .none kV__law_wrong dc__law_wrong pm__law_wrong an__law_wrong cd__law_wrong ct__law_wrong, f__law_of_others, PySem.W.fnOf "_law_of_others" "_law_of_others" (defArgs s__law_of_others) (defBody s__law_of_others) (defScope s__law_of_others) .none kV__law_of_others dc__law_of_others pm__law_of_others an__law_of_others cd__law_of_others ct__law_of_others, f__law_refused, PySem.W.fnOf "_law_refused" "_law_refused" (defArgs s__law_refused) (defBody s__law_refused) (defScope s__law_refused) .none kV__law_refused dc__law_refused pm__law_refused an__law_refused cd__law_refused ct__law_refused, f__law_which, PySem.W.fnOf "_law_which" "_law_which" (defArgs s__law_which) (defBody s__law_which) (defScope s__law_which) .none kV__law_which dc__law_which pm__law_which an__law_which cd__law_which ct__law_which, f__law_whichs, PySem.W.fnOf "_law_whichs" "_law_whichs" (defArgs s__law_whichs) (defBody s__law_whichs) (defScope s__law_whichs) .none kV__law_whichs dc__law_whichs pm__law_whichs an__law_whichs cd__law_whichs ct__law_whichs, f_law, PySem.W.fnOf "law" "law" (defArgs s_law) (defBody s_law) (defScope s_law) .none kV_law dc_law pm_law an_law cd_law ct_law, f_Move_init, PySem.W.fnOf "__init__" "Move.__init__" (defArgs s_Move_init) (defBody s_Move_init) (defScope s_Move_init) .none kV_Move_init dc_Move_init pm_Move_init an_Move_init cd_Move_init ct_Move_init, f_Move_fits, PySem.W.fnOf "fits" "Move.fits" (defArgs s_Move_fits) (defBody s_Move_fits) (defScope s_Move_fits) .none kV_Move_fits dc_Move_fits pm_Move_fits an_Move_fits cd_Move_fits ct_Move_fits, f_Move_onward, PySem.W.fnOf "onward" "Move.onward" (defArgs s_Move_onward) (defBody s_Move_onward) (defScope s_Move_onward) .none kV_Move_onward dc_Move_onward pm_Move_onward an_Move_onward cd_Move_onward ct_Move_onward, f_Machine_init, PySem.W.fnOf "__init__" "Machine.__init__" (defArgs s_Machine_init) (defBody s_Machine_init) (defScope s_Machine_init) .none kV_Machine_init dc_Machine_init pm_Machine_init an_Machine_init cd_Machine_init ct_Machine_init, f_Machine_which, PySem.W.fnOf "which" "Machine.which" (defArgs s_Machine_which) (defBody s_Machine_which) (defScope s_Machine_which) .none kV_Machine_which dc_Machine_which pm_Machine_which an_Machine_which cd_Machine_which ct_Machine_which, f_Machine_walked, PySem.W.fnOf "walked" "Machine.walked" (defArgs s_Machine_walked) (defBody s_Machine_walked) (defScope s_Machine_walked) .none kV_Machine_walked dc_Machine_walked pm_Machine_walked an_Machine_walked cd_Machine_walked ct_Machine_walked, f_Lamp_init, PySem.W.fnOf "__init__" "Lamp.__init__" (defArgs s_Lamp_init) (defBody s_Lamp_init) (defScope s_Lamp_init) .none kV_Lamp_init dc_Lamp_init pm_Lamp_init an_Lamp_init cd_Lamp_init ct_Lamp_init, f_Lamp_holds, PySem.W.fnOf "holds" "Lamp.holds" (defArgs s_Lamp_holds) (defBody s_Lamp_holds) (defScope s_Lamp_holds) .none kV_Lamp_holds dc_Lamp_holds pm_Lamp_holds an_Lamp_holds cd_Lamp_holds ct_Lamp_holds, f_Sure_init, PySem.W.fnOf "__init__" "Sure.__init__" (defArgs s_Sure_init) (defBody s_Sure_init) (defScope s_Sure_init) .none kV_Sure_init dc_Sure_init pm_Sure_init an_Sure_init cd_Sure_init ct_Sure_init, f_Sure_holds, PySem.W.fnOf "holds" "Sure.holds" (defArgs s_Sure_holds) (defBody s_Sure_holds) (defScope s_Sure_holds) .none kV_Sure_holds dc_Sure_holds pm_Sure_holds an_Sure_holds cd_Sure_holds ct_Sure_holds, f_Not_init, PySem.W.fnOf "__init__" "Not.__init__" (defArgs s_Not_init) (defBody s_Not_init) (defScope s_Not_init) .none kV_Not_init dc_Not_init pm_Not_init an_Not_init cd_Not_init ct_Not_init, f_Not_holds, PySem.W.fnOf "holds" "Not.holds" (defArgs s_Not_holds) (defBody s_Not_holds) (defScope s_Not_holds) .none kV_Not_holds dc_Not_holds pm_Not_holds an_Not_holds cd_Not_holds ct_Not_holds, f_Joined_init, PySem.W.fnOf "__init__" "Joined.__init__" (defArgs s_Joined_init) (defBody s_Joined_init) (defScope s_Joined_init) .none kV_Joined_init dc_Joined_init pm_Joined_init an_Joined_init cd_Joined_init ct_Joined_init, f_And_holds, PySem.W.fnOf "holds" "And.holds" (defArgs s_And_holds) (defBody s_And_holds) (defScope s_And_holds) .none kV_And_holds dc_And_holds pm_And_holds an_And_holds cd_And_holds ct_And_holds, f_Either_holds, PySem.W.fnOf "holds" "Either.holds" (defArgs s_Either_holds) (defBody s_Either_holds) (defScope s_Either_holds) .none kV_Either_holds dc_Either_holds pm_Either_holds an_Either_holds cd_Either_holds ct_Either_holds, f_Or_holds, PySem.W.fnOf "holds" "Or.holds" (defArgs s_Or_holds) (defBody s_Or_holds) (defScope s_Or_holds) .none kV_Or_holds dc_Or_holds pm_Or_holds an_Or_holds cd_Or_holds ct_Or_holds, C_Move, C_Machine, C_Formula, C_Lamp, C_Sure, C_Not, C_Joined, C_And, C_Either, C_Or, C_NoStep, C_NoBar, C_NoChart, C_NoFence, C_NoFormula, C_NoFrame, C_NoLine, C_NoMachine, C_NoName, C_NotShut, C_NothingLeft, C_TooMany, C_EverError⟩, ?_⟩
  exact {
    F__law_cell_at := fun_mk (st := s__law_cell_at) l__law_cell_at c__law_cell_at k__law_cell_at,
    b__law_cell_at := (fun_mk (st := s__law_cell_at) l__law_cell_at c__law_cell_at k__law_cell_at).binds (ps := ["_law_script", "_law_k"]) fun _ _ _ _ _ _ us hl => match us, hl with | [_, _], _ => rfl,
    m__law_cell_at := PySem.W.mg_of X G a__law_cell_at,
    F__law_lit := fun_mk (st := s__law_lit) l__law_lit c__law_lit k__law_lit,
    b__law_lit := (fun_mk (st := s__law_lit) l__law_lit c__law_lit k__law_lit).binds (ps := ["_law_stand", "_law_lamp"]) fun _ _ _ _ _ _ us hl => match us, hl with | [_, _], _ => rfl,
    m__law_lit := PySem.W.mg_of X G a__law_lit,
    F__law_recipe := fun_mk (st := s__law_recipe) l__law_recipe c__law_recipe k__law_recipe,
    b__law_recipe := (fun_mk (st := s__law_recipe) l__law_recipe c__law_recipe k__law_recipe).binds (ps := ["_law_cell", "_law_many"]) fun _ _ _ _ _ _ us hl => match us, hl with | [_, _], _ => rfl,
    m__law_recipe := PySem.W.mg_of X G a__law_recipe,
    F__law_made := fun_mk (st := s__law_made) l__law_made c__law_made k__law_made,
    b__law_made := (fun_mk (st := s__law_made) l__law_made c__law_made k__law_made).binds (ps := ["_law_recipe_here"]) fun _ _ _ _ _ _ us hl => match us, hl with | [_], _ => rfl,
    m__law_made := PySem.W.mg_of X G a__law_made,
    F__law_due := fun_mk (st := s__law_due) l__law_due c__law_due k__law_due,
    b__law_due := (fun_mk (st := s__law_due) l__law_due c__law_due k__law_due).binds (ps := ["_law_recipe_here", "_law_stand"]) fun _ _ _ _ _ _ us hl => match us, hl with | [_, _], _ => rfl,
    m__law_due := PySem.W.mg_of X G a__law_due,
    F__law_changes := fun_mk (st := s__law_changes) l__law_changes c__law_changes k__law_changes,
    b__law_changes := (fun_mk (st := s__law_changes) l__law_changes c__law_changes k__law_changes).binds (ps := ["_law_cell", "_law_many"]) fun _ _ _ _ _ _ us hl => match us, hl with | [_, _], _ => rfl,
    m__law_changes := PySem.W.mg_of X G a__law_changes,
    F__law_onward := fun_mk (st := s__law_onward) l__law_onward c__law_onward k__law_onward,
    b__law_onward := (fun_mk (st := s__law_onward) l__law_onward c__law_onward k__law_onward).binds (ps := ["_law_stand", "_law_changes_here"]) fun _ _ _ _ _ _ us hl => match us, hl with | [_, _], _ => rfl,
    m__law_onward := PySem.W.mg_of X G a__law_onward,
    F__law_first := fun_mk (st := s__law_first) l__law_first c__law_first k__law_first,
    b__law_first := (fun_mk (st := s__law_first) l__law_first c__law_first k__law_first).binds (ps := ["_law_moves", "_law_stand", "_law_other"]) fun _ _ _ _ _ _ us hl => match us, hl with | [_, _, _], _ => rfl,
    m__law_first := PySem.W.mg_of X G a__law_first,
    F__law_machines := fun_mk (st := s__law_machines) l__law_machines c__law_machines k__law_machines,
    b__law_machines := (fun_mk (st := s__law_machines) l__law_machines c__law_machines k__law_machines).binds (ps := ["_law_many", "_law_moves"]) fun _ _ _ _ _ _ us hl => match us, hl with | [_, _], _ => rfl,
    m__law_machines := PySem.W.mg_of X G a__law_machines,
    F__law_walk := fun_mk (st := s__law_walk) l__law_walk c__law_walk k__law_walk,
    b__law_walk := (fun_mk (st := s__law_walk) l__law_walk c__law_walk k__law_walk).binds (ps := ["_law_moves", "_law_stand", "_law_cells"]) fun _ _ _ _ _ _ us hl => match us, hl with | [_, _, _], _ => rfl,
    m__law_walk := PySem.W.mg_of X G a__law_walk,
    F__law_wrong := fun_mk (st := s__law_wrong) l__law_wrong c__law_wrong k__law_wrong,
    b__law_wrong := (fun_mk (st := s__law_wrong) l__law_wrong c__law_wrong k__law_wrong).binds (ps := ["_law_moves", "_law_stand", "_law_way", "_law_more"]) fun _ _ _ _ _ _ us hl => match us, hl with | [_, _, _, _], _ => rfl,
    m__law_wrong := PySem.W.mg_of X G a__law_wrong,
    F__law_of_others := fun_mk (st := s__law_of_others) l__law_of_others c__law_of_others k__law_of_others,
    b__law_of_others := (fun_mk (st := s__law_of_others) l__law_of_others c__law_of_others k__law_of_others).binds (ps := ["_law_e"]) fun _ _ _ _ _ _ us hl => match us, hl with | [_], _ => rfl,
    m__law_of_others := PySem.W.mg_of X G a__law_of_others,
    F__law_refused := fun_mk (st := s__law_refused) l__law_refused c__law_refused k__law_refused,
    b__law_refused := (fun_mk (st := s__law_refused) l__law_refused c__law_refused k__law_refused).binds (ps := ["_law_machine", "_law_stand", "_law_picks"]) fun _ _ _ _ _ _ us hl => match us, hl with | [_, _, _], _ => rfl,
    m__law_refused := PySem.W.mg_of X G a__law_refused,
    F__law_which := fun_mk (st := s__law_which) l__law_which c__law_which k__law_which,
    b__law_which := (fun_mk (st := s__law_which) l__law_which c__law_which k__law_which).binds (ps := ["_law_machine", "_law_moves", "_law_stand", "_law_other"]) fun _ _ _ _ _ _ us hl => match us, hl with | [_, _, _, _], _ => rfl,
    m__law_which := PySem.W.mg_of X G a__law_which,
    F__law_whichs := fun_mk (st := s__law_whichs) l__law_whichs c__law_whichs k__law_whichs,
    b__law_whichs := (fun_mk (st := s__law_whichs) l__law_whichs c__law_whichs k__law_whichs).binds (ps := ["_law_machine", "_law_moves", "_law_passed", "_law_beside"]) fun _ _ _ _ _ _ us hl => match us, hl with | [_, _, _, _], _ => rfl,
    m__law_whichs := PySem.W.mg_of X G a__law_whichs,
    F_law := fun_mk (st := s_law) l_law c_law k_law,
    b_law := (fun_mk (st := s_law) l_law c_law k_law).binds (ps := ["_law_script"]) fun _ _ _ _ _ _ us hl => match us, hl with | [_], _ => rfl,
    m_law := PySem.W.mg_of X G a_law,
    F_Move_init := fun_mk (st := s_Move_init) l_Move_init c_Move_init k_Move_init,
    b_Move_init := (fun_mk (st := s_Move_init) l_Move_init c_Move_init k_Move_init).binds (ps := ["self", "guard", "changes"]) fun _ _ _ _ _ _ us hl => match us, hl with | [_, _, _], _ => rfl,
    F_Move_fits := fun_mk (st := s_Move_fits) l_Move_fits c_Move_fits k_Move_fits,
    b_Move_fits := (fun_mk (st := s_Move_fits) l_Move_fits c_Move_fits k_Move_fits).binds (ps := ["self", "stand"]) fun _ _ _ _ _ _ us hl => match us, hl with | [_, _], _ => rfl,
    F_Move_onward := fun_mk (st := s_Move_onward) l_Move_onward c_Move_onward k_Move_onward,
    b_Move_onward := (fun_mk (st := s_Move_onward) l_Move_onward c_Move_onward k_Move_onward).binds (ps := ["self", "stand"]) fun _ _ _ _ _ _ us hl => match us, hl with | [_, _], _ => rfl,
    F_Machine_init := fun_mk (st := s_Machine_init) l_Machine_init c_Machine_init k_Machine_init,
    b_Machine_init := (fun_mk (st := s_Machine_init) l_Machine_init c_Machine_init k_Machine_init).binds (ps := ["self", "names", "starts", "bads", "moves"]) fun _ _ _ _ _ _ us hl => match us, hl with | [_, _, _, _, _], _ => rfl,
    F_Machine_which := fun_mk (st := s_Machine_which) l_Machine_which c_Machine_which k_Machine_which,
    b_Machine_which := (fun_mk (st := s_Machine_which) l_Machine_which c_Machine_which k_Machine_which).binds (ps := ["self", "stand", "other"]) fun _ _ _ _ _ _ us hl => match us, hl with | [_, _, _], _ => rfl,
    F_Machine_walked := fun_mk (st := s_Machine_walked) l_Machine_walked c_Machine_walked k_Machine_walked,
    b_Machine_walked := (fun_mk (st := s_Machine_walked) l_Machine_walked c_Machine_walked k_Machine_walked).binds (ps := ["self", "stand", "picks"]) fun _ _ _ _ _ _ us hl => match us, hl with | [_, _, _], _ => rfl,
    F_Lamp_init := fun_mk (st := s_Lamp_init) l_Lamp_init c_Lamp_init k_Lamp_init,
    b_Lamp_init := (fun_mk (st := s_Lamp_init) l_Lamp_init c_Lamp_init k_Lamp_init).binds (ps := ["self", "at"]) fun _ _ _ _ _ _ us hl => match us, hl with | [_, _], _ => rfl,
    F_Lamp_holds := fun_mk (st := s_Lamp_holds) l_Lamp_holds c_Lamp_holds k_Lamp_holds,
    b_Lamp_holds := (fun_mk (st := s_Lamp_holds) l_Lamp_holds c_Lamp_holds k_Lamp_holds).binds (ps := ["self", "stand"]) fun _ _ _ _ _ _ us hl => match us, hl with | [_, _], _ => rfl,
    F_Sure_init := fun_mk (st := s_Sure_init) l_Sure_init c_Sure_init k_Sure_init,
    b_Sure_init := (fun_mk (st := s_Sure_init) l_Sure_init c_Sure_init k_Sure_init).binds (ps := ["self", "truth"]) fun _ _ _ _ _ _ us hl => match us, hl with | [_, _], _ => rfl,
    F_Sure_holds := fun_mk (st := s_Sure_holds) l_Sure_holds c_Sure_holds k_Sure_holds,
    b_Sure_holds := (fun_mk (st := s_Sure_holds) l_Sure_holds c_Sure_holds k_Sure_holds).binds (ps := ["self", "stand"]) fun _ _ _ _ _ _ us hl => match us, hl with | [_, _], _ => rfl,
    F_Not_init := fun_mk (st := s_Not_init) l_Not_init c_Not_init k_Not_init,
    b_Not_init := (fun_mk (st := s_Not_init) l_Not_init c_Not_init k_Not_init).binds (ps := ["self", "part"]) fun _ _ _ _ _ _ us hl => match us, hl with | [_, _], _ => rfl,
    F_Not_holds := fun_mk (st := s_Not_holds) l_Not_holds c_Not_holds k_Not_holds,
    b_Not_holds := (fun_mk (st := s_Not_holds) l_Not_holds c_Not_holds k_Not_holds).binds (ps := ["self", "stand"]) fun _ _ _ _ _ _ us hl => match us, hl with | [_, _], _ => rfl,
    F_Joined_init := fun_mk (st := s_Joined_init) l_Joined_init c_Joined_init k_Joined_init,
    b_Joined_init := (fun_mk (st := s_Joined_init) l_Joined_init c_Joined_init k_Joined_init).binds (ps := ["self", "parts"]) fun _ _ _ _ _ _ us hl => match us, hl with | [_, _], _ => rfl,
    F_And_holds := fun_mk (st := s_And_holds) l_And_holds c_And_holds k_And_holds,
    b_And_holds := (fun_mk (st := s_And_holds) l_And_holds c_And_holds k_And_holds).binds (ps := ["self", "stand"]) fun _ _ _ _ _ _ us hl => match us, hl with | [_, _], _ => rfl,
    F_Either_holds := fun_mk (st := s_Either_holds) l_Either_holds c_Either_holds k_Either_holds,
    b_Either_holds := (fun_mk (st := s_Either_holds) l_Either_holds c_Either_holds k_Either_holds).binds (ps := ["self", "stand"]) fun _ _ _ _ _ _ us hl => match us, hl with | [_, _], _ => rfl,
    F_Or_holds := fun_mk (st := s_Or_holds) l_Or_holds c_Or_holds k_Or_holds,
    b_Or_holds := (fun_mk (st := s_Or_holds) l_Or_holds c_Or_holds k_Or_holds).binds (ps := ["self", "stand"]) fun _ _ _ _ _ _ us hl => match us, hl with | [_, _], _ => rfl,
    m_Move := PySem.W.mg_of X G a_Move,
    c_Move := ⟨pg_Move, hd_Move, po_Move, sa_Move⟩,
    y_Move := fun H a dx fs e => TyOf.ins e ⟨pg_Move, hd_Move, po_Move, sa_Move⟩ ha_Move hn_ htk_ hm_Move,
    k_Move := ⟨mk_Move, e_Move_init, i_Move_init, kc_Move⟩,
    n_Move_guard := n_Move_guard,
    n_Move_changes := n_Move_changes,
    n_Move_names := n_Move_names,
    n_Move_starts := n_Move_starts,
    n_Move_bads := n_Move_bads,
    n_Move_moves := n_Move_moves,
    n_Move_at := n_Move_at,
    n_Move_truth := n_Move_truth,
    n_Move_part := n_Move_part,
    n_Move_parts := n_Move_parts,
    h_Move_fits := ⟨e_Move_fits, i_Move_fits, k_Move_fits⟩,
    h_Move_onward := ⟨e_Move_onward, i_Move_onward, k_Move_onward⟩,
    m_Machine := PySem.W.mg_of X G a_Machine,
    c_Machine := ⟨pg_Machine, hd_Machine, po_Machine, sa_Machine⟩,
    y_Machine := fun H a dx fs e => TyOf.ins e ⟨pg_Machine, hd_Machine, po_Machine, sa_Machine⟩ ha_Machine hn_ htk_ hm_Machine,
    k_Machine := ⟨mk_Machine, e_Machine_init, i_Machine_init, kc_Machine⟩,
    n_Machine_guard := n_Machine_guard,
    n_Machine_changes := n_Machine_changes,
    n_Machine_names := n_Machine_names,
    n_Machine_starts := n_Machine_starts,
    n_Machine_bads := n_Machine_bads,
    n_Machine_moves := n_Machine_moves,
    n_Machine_at := n_Machine_at,
    n_Machine_truth := n_Machine_truth,
    n_Machine_part := n_Machine_part,
    n_Machine_parts := n_Machine_parts,
    h_Machine_which := ⟨e_Machine_which, i_Machine_which, k_Machine_which⟩,
    h_Machine_walked := ⟨e_Machine_walked, i_Machine_walked, k_Machine_walked⟩,
    m_Formula := PySem.W.mg_of X G a_Formula,
    c_Formula := ⟨pg_Formula, hd_Formula, po_Formula, sa_Formula⟩,
    y_Formula := fun H a dx fs e => TyOf.ins e ⟨pg_Formula, hd_Formula, po_Formula, sa_Formula⟩ ha_Formula hn_ htk_ hm_Formula,
    n_Formula_guard := n_Formula_guard,
    n_Formula_changes := n_Formula_changes,
    n_Formula_names := n_Formula_names,
    n_Formula_starts := n_Formula_starts,
    n_Formula_bads := n_Formula_bads,
    n_Formula_moves := n_Formula_moves,
    n_Formula_at := n_Formula_at,
    n_Formula_truth := n_Formula_truth,
    n_Formula_part := n_Formula_part,
    n_Formula_parts := n_Formula_parts,
    m_Lamp := PySem.W.mg_of X G a_Lamp,
    c_Lamp := ⟨pg_Lamp, hd_Lamp, po_Lamp, sa_Lamp⟩,
    y_Lamp := fun H a dx fs e => TyOf.ins e ⟨pg_Lamp, hd_Lamp, po_Lamp, sa_Lamp⟩ ha_Lamp hn_ htk_ hm_Lamp,
    k_Lamp := ⟨mk_Lamp, e_Lamp_init, i_Lamp_init, kc_Lamp⟩,
    n_Lamp_guard := n_Lamp_guard,
    n_Lamp_changes := n_Lamp_changes,
    n_Lamp_names := n_Lamp_names,
    n_Lamp_starts := n_Lamp_starts,
    n_Lamp_bads := n_Lamp_bads,
    n_Lamp_moves := n_Lamp_moves,
    n_Lamp_at := n_Lamp_at,
    n_Lamp_truth := n_Lamp_truth,
    n_Lamp_part := n_Lamp_part,
    n_Lamp_parts := n_Lamp_parts,
    h_Lamp_holds := ⟨e_Lamp_holds, i_Lamp_holds, k_Lamp_holds⟩,
    m_Sure := PySem.W.mg_of X G a_Sure,
    c_Sure := ⟨pg_Sure, hd_Sure, po_Sure, sa_Sure⟩,
    y_Sure := fun H a dx fs e => TyOf.ins e ⟨pg_Sure, hd_Sure, po_Sure, sa_Sure⟩ ha_Sure hn_ htk_ hm_Sure,
    k_Sure := ⟨mk_Sure, e_Sure_init, i_Sure_init, kc_Sure⟩,
    n_Sure_guard := n_Sure_guard,
    n_Sure_changes := n_Sure_changes,
    n_Sure_names := n_Sure_names,
    n_Sure_starts := n_Sure_starts,
    n_Sure_bads := n_Sure_bads,
    n_Sure_moves := n_Sure_moves,
    n_Sure_at := n_Sure_at,
    n_Sure_truth := n_Sure_truth,
    n_Sure_part := n_Sure_part,
    n_Sure_parts := n_Sure_parts,
    h_Sure_holds := ⟨e_Sure_holds, i_Sure_holds, k_Sure_holds⟩,
    m_Not := PySem.W.mg_of X G a_Not,
    c_Not := ⟨pg_Not, hd_Not, po_Not, sa_Not⟩,
    y_Not := fun H a dx fs e => TyOf.ins e ⟨pg_Not, hd_Not, po_Not, sa_Not⟩ ha_Not hn_ htk_ hm_Not,
    k_Not := ⟨mk_Not, e_Not_init, i_Not_init, kc_Not⟩,
    n_Not_guard := n_Not_guard,
    n_Not_changes := n_Not_changes,
    n_Not_names := n_Not_names,
    n_Not_starts := n_Not_starts,
    n_Not_bads := n_Not_bads,
    n_Not_moves := n_Not_moves,
    n_Not_at := n_Not_at,
    n_Not_truth := n_Not_truth,
    n_Not_part := n_Not_part,
    n_Not_parts := n_Not_parts,
    h_Not_holds := ⟨e_Not_holds, i_Not_holds, k_Not_holds⟩,
    m_Joined := PySem.W.mg_of X G a_Joined,
    c_Joined := ⟨pg_Joined, hd_Joined, po_Joined, sa_Joined⟩,
    y_Joined := fun H a dx fs e => TyOf.ins e ⟨pg_Joined, hd_Joined, po_Joined, sa_Joined⟩ ha_Joined hn_ htk_ hm_Joined,
    k_Joined := ⟨mk_Joined, e_Joined_init, i_Joined_init, kc_Joined⟩,
    n_Joined_guard := n_Joined_guard,
    n_Joined_changes := n_Joined_changes,
    n_Joined_names := n_Joined_names,
    n_Joined_starts := n_Joined_starts,
    n_Joined_bads := n_Joined_bads,
    n_Joined_moves := n_Joined_moves,
    n_Joined_at := n_Joined_at,
    n_Joined_truth := n_Joined_truth,
    n_Joined_part := n_Joined_part,
    n_Joined_parts := n_Joined_parts,
    m_And := PySem.W.mg_of X G a_And,
    c_And := ⟨pg_And, hd_And, po_And, sa_And⟩,
    y_And := fun H a dx fs e => TyOf.ins e ⟨pg_And, hd_And, po_And, sa_And⟩ ha_And hn_ htk_ hm_And,
    k_And := ⟨mk_And, e_And_init, i_Joined_init, kc_And⟩,
    n_And_guard := n_And_guard,
    n_And_changes := n_And_changes,
    n_And_names := n_And_names,
    n_And_starts := n_And_starts,
    n_And_bads := n_And_bads,
    n_And_moves := n_And_moves,
    n_And_at := n_And_at,
    n_And_truth := n_And_truth,
    n_And_part := n_And_part,
    n_And_parts := n_And_parts,
    h_And_holds := ⟨e_And_holds, i_And_holds, k_And_holds⟩,
    m_Either := PySem.W.mg_of X G a_Either,
    c_Either := ⟨pg_Either, hd_Either, po_Either, sa_Either⟩,
    y_Either := fun H a dx fs e => TyOf.ins e ⟨pg_Either, hd_Either, po_Either, sa_Either⟩ ha_Either hn_ htk_ hm_Either,
    k_Either := ⟨mk_Either, e_Either_init, i_Joined_init, kc_Either⟩,
    n_Either_guard := n_Either_guard,
    n_Either_changes := n_Either_changes,
    n_Either_names := n_Either_names,
    n_Either_starts := n_Either_starts,
    n_Either_bads := n_Either_bads,
    n_Either_moves := n_Either_moves,
    n_Either_at := n_Either_at,
    n_Either_truth := n_Either_truth,
    n_Either_part := n_Either_part,
    n_Either_parts := n_Either_parts,
    h_Either_holds := ⟨e_Either_holds, i_Either_holds, k_Either_holds⟩,
    m_Or := PySem.W.mg_of X G a_Or,
    c_Or := ⟨pg_Or, hd_Or, po_Or, sa_Or⟩,
    y_Or := fun H a dx fs e => TyOf.ins e ⟨pg_Or, hd_Or, po_Or, sa_Or⟩ ha_Or hn_ htk_ hm_Or,
    k_Or := ⟨mk_Or, e_Or_init, i_Joined_init, kc_Or⟩,
    n_Or_guard := n_Or_guard,
    n_Or_changes := n_Or_changes,
    n_Or_names := n_Or_names,
    n_Or_starts := n_Or_starts,
    n_Or_bads := n_Or_bads,
    n_Or_moves := n_Or_moves,
    n_Or_at := n_Or_at,
    n_Or_truth := n_Or_truth,
    n_Or_part := n_Or_part,
    n_Or_parts := n_Or_parts,
    h_Or_holds := ⟨e_Or_holds, i_Or_holds, k_Or_holds⟩,
    b_ValueError := PySem.W.mg_none_of X G b_ValueError,
    m_NoStep := PySem.W.mg_of X G a_NoStep,
    ty_NoStep := ty_NoStep,
    cl_NoStep := ic_NoStep,
    mb_NoStep := mb_NoStep,
    m_NoBar := PySem.W.mg_of X G a_NoBar,
    ty_NoBar := ty_NoBar,
    cl_NoBar := ic_NoBar,
    mb_NoBar := mb_NoBar,
    m_NoChart := PySem.W.mg_of X G a_NoChart,
    ty_NoChart := ty_NoChart,
    cl_NoChart := ic_NoChart,
    mb_NoChart := mb_NoChart,
    m_NoFence := PySem.W.mg_of X G a_NoFence,
    ty_NoFence := ty_NoFence,
    cl_NoFence := ic_NoFence,
    mb_NoFence := mb_NoFence,
    m_NoFormula := PySem.W.mg_of X G a_NoFormula,
    ty_NoFormula := ty_NoFormula,
    cl_NoFormula := ic_NoFormula,
    mb_NoFormula := mb_NoFormula,
    m_NoFrame := PySem.W.mg_of X G a_NoFrame,
    ty_NoFrame := ty_NoFrame,
    cl_NoFrame := ic_NoFrame,
    mb_NoFrame := mb_NoFrame,
    m_NoLine := PySem.W.mg_of X G a_NoLine,
    ty_NoLine := ty_NoLine,
    cl_NoLine := ic_NoLine,
    mb_NoLine := mb_NoLine,
    m_NoMachine := PySem.W.mg_of X G a_NoMachine,
    ty_NoMachine := ty_NoMachine,
    cl_NoMachine := ic_NoMachine,
    mb_NoMachine := mb_NoMachine,
    m_NoName := PySem.W.mg_of X G a_NoName,
    ty_NoName := ty_NoName,
    cl_NoName := ic_NoName,
    mb_NoName := mb_NoName,
    m_NotShut := PySem.W.mg_of X G a_NotShut,
    ty_NotShut := ty_NotShut,
    cl_NotShut := ic_NotShut,
    mb_NotShut := mb_NotShut,
    m_NothingLeft := PySem.W.mg_of X G a_NothingLeft,
    ty_NothingLeft := ty_NothingLeft,
    cl_NothingLeft := ic_NothingLeft,
    mb_NothingLeft := mb_NothingLeft,
    m_TooMany := PySem.W.mg_of X G a_TooMany,
    ty_TooMany := ty_TooMany,
    cl_TooMany := ic_TooMany,
    mb_TooMany := mb_TooMany,
    m_EverError := PySem.W.mg_of X G a_EverError,
    ty_EverError := ty_EverError,
    cl_EverError := ic_EverError,
    mb_EverError := mb_EverError,
    q_NoStep := ⟨xo_NoStep, ic_NoStep, xg_NoStep, xh_NoStep, xc_NoStep, mb_NoStep, xm_NoStep⟩,
    v_NoStep := kit_val xv_NoStep,
    xs_NoStep_NoStep := xs_NoStep_NoStep,
    xz_NoStep_NoStep := kit_selfR _ _,
    xs_NoStep_NoBar := xs_NoStep_NoBar,
    xz_NoStep_NoBar := kit_own (fun e => nd_ne ne_ (i := 0) (j := 1) rfl rfl (by decide) (Value.ref.inj e)) ic_NoBar ty_NoBar xs_NoStep_NoBar,
    xs_NoStep_NoChart := xs_NoStep_NoChart,
    xz_NoStep_NoChart := kit_own (fun e => nd_ne ne_ (i := 0) (j := 2) rfl rfl (by decide) (Value.ref.inj e)) ic_NoChart ty_NoChart xs_NoStep_NoChart,
    xs_NoStep_NoFence := xs_NoStep_NoFence,
    xz_NoStep_NoFence := kit_own (fun e => nd_ne ne_ (i := 0) (j := 3) rfl rfl (by decide) (Value.ref.inj e)) ic_NoFence ty_NoFence xs_NoStep_NoFence,
    xs_NoStep_NoFormula := xs_NoStep_NoFormula,
    xz_NoStep_NoFormula := kit_own (fun e => nd_ne ne_ (i := 0) (j := 4) rfl rfl (by decide) (Value.ref.inj e)) ic_NoFormula ty_NoFormula xs_NoStep_NoFormula,
    xs_NoStep_NoFrame := xs_NoStep_NoFrame,
    xz_NoStep_NoFrame := kit_own (fun e => nd_ne ne_ (i := 0) (j := 5) rfl rfl (by decide) (Value.ref.inj e)) ic_NoFrame ty_NoFrame xs_NoStep_NoFrame,
    xs_NoStep_NoLine := xs_NoStep_NoLine,
    xz_NoStep_NoLine := kit_own (fun e => nd_ne ne_ (i := 0) (j := 6) rfl rfl (by decide) (Value.ref.inj e)) ic_NoLine ty_NoLine xs_NoStep_NoLine,
    xs_NoStep_NoMachine := xs_NoStep_NoMachine,
    xz_NoStep_NoMachine := kit_own (fun e => nd_ne ne_ (i := 0) (j := 7) rfl rfl (by decide) (Value.ref.inj e)) ic_NoMachine ty_NoMachine xs_NoStep_NoMachine,
    xs_NoStep_NoName := xs_NoStep_NoName,
    xz_NoStep_NoName := kit_own (fun e => nd_ne ne_ (i := 0) (j := 8) rfl rfl (by decide) (Value.ref.inj e)) ic_NoName ty_NoName xs_NoStep_NoName,
    xs_NoStep_NotShut := xs_NoStep_NotShut,
    xz_NoStep_NotShut := kit_own (fun e => nd_ne ne_ (i := 0) (j := 9) rfl rfl (by decide) (Value.ref.inj e)) ic_NotShut ty_NotShut xs_NoStep_NotShut,
    xs_NoStep_NothingLeft := xs_NoStep_NothingLeft,
    xz_NoStep_NothingLeft := kit_own (fun e => nd_ne ne_ (i := 0) (j := 10) rfl rfl (by decide) (Value.ref.inj e)) ic_NothingLeft ty_NothingLeft xs_NoStep_NothingLeft,
    xs_NoStep_TooMany := xs_NoStep_TooMany,
    xz_NoStep_TooMany := kit_own (fun e => nd_ne ne_ (i := 0) (j := 11) rfl rfl (by decide) (Value.ref.inj e)) ic_TooMany ty_TooMany xs_NoStep_TooMany,
    xs_NoStep_EverError := xs_NoStep_EverError,
    xz_NoStep_EverError := kit_own (fun e => nd_ne ne_ (i := 0) (j := 12) rfl rfl (by decide) (Value.ref.inj e)) ic_EverError ty_EverError xs_NoStep_EverError,
    x_Move_Machine := nd_ne nd_ (i := 0) (j := 1) rfl rfl (by decide),
    x_Move_Formula := nd_ne nd_ (i := 0) (j := 2) rfl rfl (by decide),
    x_Move_Lamp := nd_ne nd_ (i := 0) (j := 3) rfl rfl (by decide),
    x_Move_Sure := nd_ne nd_ (i := 0) (j := 4) rfl rfl (by decide),
    x_Move_Not := nd_ne nd_ (i := 0) (j := 5) rfl rfl (by decide),
    x_Move_Joined := nd_ne nd_ (i := 0) (j := 6) rfl rfl (by decide),
    x_Move_And := nd_ne nd_ (i := 0) (j := 7) rfl rfl (by decide),
    x_Move_Either := nd_ne nd_ (i := 0) (j := 8) rfl rfl (by decide),
    x_Move_Or := nd_ne nd_ (i := 0) (j := 9) rfl rfl (by decide),
    x_Machine_Formula := nd_ne nd_ (i := 1) (j := 2) rfl rfl (by decide),
    x_Machine_Lamp := nd_ne nd_ (i := 1) (j := 3) rfl rfl (by decide),
    x_Machine_Sure := nd_ne nd_ (i := 1) (j := 4) rfl rfl (by decide),
    x_Machine_Not := nd_ne nd_ (i := 1) (j := 5) rfl rfl (by decide),
    x_Machine_Joined := nd_ne nd_ (i := 1) (j := 6) rfl rfl (by decide),
    x_Machine_And := nd_ne nd_ (i := 1) (j := 7) rfl rfl (by decide),
    x_Machine_Either := nd_ne nd_ (i := 1) (j := 8) rfl rfl (by decide),
    x_Machine_Or := nd_ne nd_ (i := 1) (j := 9) rfl rfl (by decide),
    x_Formula_Lamp := nd_ne nd_ (i := 2) (j := 3) rfl rfl (by decide),
    x_Formula_Sure := nd_ne nd_ (i := 2) (j := 4) rfl rfl (by decide),
    x_Formula_Not := nd_ne nd_ (i := 2) (j := 5) rfl rfl (by decide),
    x_Formula_Joined := nd_ne nd_ (i := 2) (j := 6) rfl rfl (by decide),
    x_Formula_And := nd_ne nd_ (i := 2) (j := 7) rfl rfl (by decide),
    x_Formula_Either := nd_ne nd_ (i := 2) (j := 8) rfl rfl (by decide),
    x_Formula_Or := nd_ne nd_ (i := 2) (j := 9) rfl rfl (by decide),
    x_Lamp_Sure := nd_ne nd_ (i := 3) (j := 4) rfl rfl (by decide),
    x_Lamp_Not := nd_ne nd_ (i := 3) (j := 5) rfl rfl (by decide),
    x_Lamp_Joined := nd_ne nd_ (i := 3) (j := 6) rfl rfl (by decide),
    x_Lamp_And := nd_ne nd_ (i := 3) (j := 7) rfl rfl (by decide),
    x_Lamp_Either := nd_ne nd_ (i := 3) (j := 8) rfl rfl (by decide),
    x_Lamp_Or := nd_ne nd_ (i := 3) (j := 9) rfl rfl (by decide),
    x_Sure_Not := nd_ne nd_ (i := 4) (j := 5) rfl rfl (by decide),
    x_Sure_Joined := nd_ne nd_ (i := 4) (j := 6) rfl rfl (by decide),
    x_Sure_And := nd_ne nd_ (i := 4) (j := 7) rfl rfl (by decide),
    x_Sure_Either := nd_ne nd_ (i := 4) (j := 8) rfl rfl (by decide),
    x_Sure_Or := nd_ne nd_ (i := 4) (j := 9) rfl rfl (by decide),
    x_Not_Joined := nd_ne nd_ (i := 5) (j := 6) rfl rfl (by decide),
    x_Not_And := nd_ne nd_ (i := 5) (j := 7) rfl rfl (by decide),
    x_Not_Either := nd_ne nd_ (i := 5) (j := 8) rfl rfl (by decide),
    x_Not_Or := nd_ne nd_ (i := 5) (j := 9) rfl rfl (by decide),
    x_Joined_And := nd_ne nd_ (i := 6) (j := 7) rfl rfl (by decide),
    x_Joined_Either := nd_ne nd_ (i := 6) (j := 8) rfl rfl (by decide),
    x_Joined_Or := nd_ne nd_ (i := 6) (j := 9) rfl rfl (by decide),
    x_And_Either := nd_ne nd_ (i := 7) (j := 8) rfl rfl (by decide),
    x_And_Or := nd_ne nd_ (i := 7) (j := 9) rfl rfl (by decide),
    x_Either_Or := nd_ne nd_ (i := 8) (j := 9) rfl rfl (by decide),
    bl := fun s u => .of_eq rfl,
    B := ⟨PySem.W.mg_none_of X G b_len, PySem.W.mg_none_of X G b_range, PySem.W.mg_none_of X G b_isinstance, PySem.W.mg_none_of X G b_int, PySem.W.mg_none_of X G b_bool, PySem.W.mg_none_of X G b_str, PySem.W.mg_none_of X G b_list, PySem.W.mg_none_of X G b_tuple, PySem.W.mg_none_of X G b_dict, PySem.W.mg_none_of X G b_set, PySem.W.mg_none_of X G b_sorted, PySem.W.mg_none_of X G b_max, PySem.W.mg_none_of X G b_min, PySem.W.mg_none_of X G b_sum, PySem.W.mg_none_of X G b_any, PySem.W.mg_none_of X G b_all, PySem.W.mg_none_of X G b_abs, PySem.W.mg_none_of X G b_reversed, PySem.W.mg_none_of X G b_enumerate, PySem.W.mg_none_of X G b_zip⟩ }
theorem and_nat (x y : Nat) : Builtin.bitAnd (x : Int) (y : Int) = ((x &&& y : Nat) : Int) := by simp [Builtin.bitAnd]
theorem not_not (x : Int) : Builtin.bitNot (Builtin.bitNot x) = x := by unfold Builtin.bitNot; omega
theorem or_nat (x y : Nat) : Builtin.bitOr (x : Int) (y : Int) = ((x ||| y : Nat) : Int) := by
  show Builtin.bitNot (Builtin.bitAnd (Builtin.bitNot x) (Builtin.bitNot y)) = _
  rw [PyProof.Rows.bitAnd_nn (by unfold Builtin.bitNot; omega) (by unfold Builtin.bitNot; omega), not_not, not_not, not_not]
  simp
def cell (ns : List Int) (k : Nat) : Int := ns.getD k 0
def spLaw (K : PySem.W.Frag) : Sp := fun vs H Q _ => ∃ (a : Addr) (ns : List Int), vs = [.ref a] ∧ SqL K H a (ns.map V.int) ∧ ns.length ≤ 63 ∧ Only H ∧ ∀ H', Q (.bl true) H'
def spCell (K : PySem.W.Frag) : Sp := fun vs H Q _ => ∃ (a : Addr) (ns : List Int) (k : Nat), vs = [.ref a, .int (k : Int)] ∧ SqL K H a (ns.map V.int) ∧ Q (.int (cell ns k)) H
section
variable {P : Program} {w : World} {K : PySem.W.Frag} {mg : Str → Option Value} {base : Heap} {t : Ad}
theorem ok_cell_at (T : Txt K mg t) : FnS P w K mg base 1 "_law_cell_at" ["_law_script", "_law_k"] (spCell K) := by
  refine ⟨_, _, T.F__law_cell_at.ok sc__law_cell_at (fun vs H Q E h => ?_) (fun cdv A outer s H vs Q E hr h => ?_), T.b__law_cell_at, T.F__law_cell_at.kp, T.m__law_cell_at⟩
  · obtain ⟨a, ns, k, rfl, _⟩ := h
    rfl
  · obtain ⟨a, ns, k, rfl, hS, q⟩ := h
    refine ⟨_, (pss_cons (ps_if (pt_cmpR op_lt (pv 1) (pe_callB call_lenG rfl T.B.len bt_len (pa_cons (pv 0) pa_nil)) (nomark _))
      (pss_one (ps_ret (pe_ix ix_seq (pv 0) (pv 1) (fun _ _ => rfl))))
      pss_nil)
      (pss_one (ps_ret pe_int))), ?_⟩
    walk_at "rd0"
    refine i_ifd (fun h => ?_) (fun h => ?_)
    · rw [List.length_map] at h
      have hk : k < ns.length := by omega
      walk_at "rd"
      refine i_ixS (j := k) (v := .int (cell ns k)) hS ?_ q
      rw [List.getElem?_map, List.getElem?_eq_getElem hk]
      simp [cell, List.getD_eq_getElem?_getD, List.getElem?_eq_getElem hk]
    · rw [List.length_map] at h
      walk_at "rd"
      have e : cell ns k = 0 := by
        simp only [cell, List.getD_eq_getElem?_getD]
        rw [List.getElem?_eq_none (by omega)]
        rfl
      rw [e] at q
      exact q
end

def cw (t : Ad) : W3 → Addr
  | .a => t.C_And
  | .e => t.C_Either
  | .o => t.C_Or
def FmAt (t : Ad) (H : Hp) : Nat → Addr → Fm → Prop
  | 0, _, _ => False
  | n + 1, p, f => match f with
    | .lamp k => ∃ dx, H p = some (.ins t.C_Lamp dx [(("at" : Str), .int (k : Int))])
    | .sure b => ∃ dx, H p = some (.ins t.C_Sure dx [(("truth" : Str), .bl b)])
    | .neg g => ∃ dx q, H p = some (.ins t.C_Not dx [(("part" : Str), .ref q)]) ∧ FmAt t H n q g
    | .join w gs => ∃ dx tp ps, H p = some (.ins (cw t w) dx [(("parts" : Str), .ref tp)]) ∧ H tp = some (.tup (ps.map V.ref)) ∧ Paired (FmAt t H n) ps gs
def isFm (t : Ad) (C : Addr) : Prop := C = t.C_Lamp ∨ C = t.C_Sure ∨ C = t.C_Not ∨ C = t.C_And ∨ C = t.C_Either ∨ C = t.C_Or
theorem paired_imp {α β : Type} {F G : α → β → Prop} (h : ∀ a b, F a b → G a b) : ∀ {xs : List α} {ys : List β}, Paired F xs ys → Paired G xs ys
  | _, _, .nil => .nil
  | _, _, .cons r s => .cons (h _ _ r) (paired_imp h s)
theorem paired_get {α β : Type} {F : α → β → Prop} : ∀ {xs : List α} {ys : List β} {i : Nat} {x : α}, Paired F xs ys → xs[i]? = some x → ∃ y, ys[i]? = some y ∧ F x y
  | _, _, _, _, .nil, e => by simp at e
  | _, _, 0, _, .cons r _, e => by simp at e; subst e; exact ⟨_, rfl, r⟩
  | _, _, i + 1, x, .cons _ s, e => by
    obtain ⟨u, h1, h2⟩ := paired_get (i := i) (x := x) s (by simpa using e)
    exact ⟨u, by simpa using h1, h2⟩
theorem paired_append {α β : Type} {F : α → β → Prop} : ∀ {xs xs' : List α} {ys ys' : List β}, Paired F xs ys → Paired F xs' ys' → Paired F (xs ++ xs') (ys ++ ys')
  | _, _, _, _, .nil, s => s
  | _, _, _, _, .cons r q, s => .cons r (paired_append q s)
theorem paired_len {α β : Type} {F : α → β → Prop} {xs : List α} {ys : List β} (h : Paired F xs ys) : xs.length = ys.length := Paired.length h
theorem get_ref {ps : List Addr} {i : Nat} {x : V} (h : (ps.map V.ref)[i]? = some x) : ∃ p, x = V.ref p ∧ ps[i]? = some p := by
  rw [List.getElem?_map] at h
  cases e : ps[i]? with
  | none => rw [e] at h; cases h
  | some p => rw [e] at h; exact ⟨p, (Option.some.inj h).symm, rfl⟩
theorem take_snoc {α : Type} {l : List α} {i : Nat} {x : α} (h : l[i]? = some x) : l.take (i + 1) = l.take i ++ [x] := by
  rw [List.take_add_one, h]; rfl
section
variable {P : Program} {w : World} {K : PySem.W.Frag} {mg : Str → Option Value} {base : Heap} {t : Ad} {H H' : Hp} {n : Nat} {p : Addr} {f : Fm}
theorem FmAt.mono (s : Ext H H') : ∀ {n : Nat} {p : Addr} {f : Fm}, FmAt t H n p f → FmAt t H' n p f
  | 0, _, _, h => h
  | n + 1, p, f, h => by
    cases f with
    | lamp k => obtain ⟨dx, e⟩ := h; exact ⟨dx, s _ _ e (fun _ z => nomatch z)⟩
    | sure b => obtain ⟨dx, e⟩ := h; exact ⟨dx, s _ _ e (fun _ z => nomatch z)⟩
    | neg g => obtain ⟨dx, q, e, h⟩ := h; exact ⟨dx, q, s _ _ e (fun _ z => nomatch z), FmAt.mono s h⟩
    | join w gs => obtain ⟨dx, tp, ps, e, e2, h⟩ := h; exact ⟨dx, tp, ps, s _ _ e (fun _ z => nomatch z), s _ _ e2 (fun _ z => nomatch z), paired_imp (fun a b h => FmAt.mono s h) h⟩
theorem FmAt.le : ∀ {n m : Nat} {p : Addr} {f : Fm}, n ≤ m → FmAt t H n p f → FmAt t H m p f
  | 0, _, _, _, _, h => h.elim
  | n + 1, 0, _, _, hm, _ => absurd hm (by omega)
  | n + 1, m + 1, p, f, hm, h => by
    have hm' : n ≤ m := by omega
    cases f with
    | lamp k => exact h
    | sure b => exact h
    | neg g => obtain ⟨dx, q, e, h⟩ := h; exact ⟨dx, q, e, FmAt.le hm' h⟩
    | join w gs => obtain ⟨dx, tp, ps, e, e2, h⟩ := h; exact ⟨dx, tp, ps, e, e2, paired_imp (fun a b h => FmAt.le hm' h) h⟩
theorem isFm_cw (t : Ad) (w : W3) : isFm t (cw t w) := by
  cases w
  · exact .inr (.inr (.inr (.inl rfl)))
  · exact .inr (.inr (.inr (.inr (.inl rfl))))
  · exact .inr (.inr (.inr (.inr (.inr rfl))))
theorem FmAt.ins (h : FmAt t H n p f) (m : Str) (h1 : ¬ m = "at") (h2 : ¬ m = "truth") (h3 : ¬ m = "part") (h4 : ¬ m = "parts") : ∃ C dx fs, H p = some (.ins C dx fs) ∧ isFm t C ∧ fs.lookup m = none := by
  cases n with
  | zero => exact h.elim
  | succ n =>
    cases f with
    | lamp k => obtain ⟨dx, e⟩ := h; exact ⟨_, dx, _, e, .inl rfl, lk0 _ h1⟩
    | sure b => obtain ⟨dx, e⟩ := h; exact ⟨_, dx, _, e, .inr (.inl rfl), lk0 _ h2⟩
    | neg g => obtain ⟨dx, q, e, h⟩ := h; exact ⟨_, dx, _, e, .inr (.inr (.inl rfl)), lk0 _ h3⟩
    | join w gs => obtain ⟨dx, tp, ps, e, e2, h⟩ := h; exact ⟨_, dx, _, e, isFm_cw t w, lk0 _ h4⟩
theorem FmAt.lamp {dx : Addr} {fs : List (Str × V)} (T : Txt K mg t) (h : FmAt t H (n + 1) p f) (e : H p = some (.ins t.C_Lamp dx fs)) : ∃ k : Nat, f = .lamp k ∧ fs = [(("at" : Str), .int (k : Int))] := by
  cases f with
  | lamp k => obtain ⟨dx', e'⟩ := h; rw [e] at e'; injection e' with e'; injection e' with _ _ e'; exact ⟨k, rfl, e'⟩
  | sure b => obtain ⟨dx', e'⟩ := h; rw [e] at e'; injection e' with e'; injection e' with e' _ _; exact absurd e' T.x_Lamp_Sure
  | neg g => obtain ⟨dx', q, e', _⟩ := h; rw [e] at e'; injection e' with e'; injection e' with e' _ _; exact absurd e' T.x_Lamp_Not
  | join w gs => obtain ⟨dx', tp, ps, e', _⟩ := h; rw [e] at e'; injection e' with e'; injection e' with e' _ _; cases w; exact absurd e' T.x_Lamp_And; exact absurd e' T.x_Lamp_Either; exact absurd e' T.x_Lamp_Or
theorem FmAt.sure {dx : Addr} {fs : List (Str × V)} (T : Txt K mg t) (h : FmAt t H (n + 1) p f) (e : H p = some (.ins t.C_Sure dx fs)) : ∃ b : Bool, f = .sure b ∧ fs = [(("truth" : Str), .bl b)] := by
  cases f with
  | lamp k => obtain ⟨dx', e'⟩ := h; rw [e] at e'; injection e' with e'; injection e' with e' _ _; exact absurd e'.symm T.x_Lamp_Sure
  | sure b => obtain ⟨dx', e'⟩ := h; rw [e] at e'; injection e' with e'; injection e' with _ _ e'; exact ⟨b, rfl, e'⟩
  | neg g => obtain ⟨dx', q, e', _⟩ := h; rw [e] at e'; injection e' with e'; injection e' with e' _ _; exact absurd e' T.x_Sure_Not
  | join w gs => obtain ⟨dx', tp, ps, e', _⟩ := h; rw [e] at e'; injection e' with e'; injection e' with e' _ _; cases w; exact absurd e' T.x_Sure_And; exact absurd e' T.x_Sure_Either; exact absurd e' T.x_Sure_Or
theorem FmAt.neg {dx : Addr} {fs : List (Str × V)} (T : Txt K mg t) (h : FmAt t H (n + 1) p f) (e : H p = some (.ins t.C_Not dx fs)) : ∃ g q, f = .neg g ∧ fs = [(("part" : Str), .ref q)] ∧ FmAt t H n q g := by
  cases f with
  | lamp k => obtain ⟨dx', e'⟩ := h; rw [e] at e'; injection e' with e'; injection e' with e' _ _; exact absurd e'.symm T.x_Lamp_Not
  | sure b => obtain ⟨dx', e'⟩ := h; rw [e] at e'; injection e' with e'; injection e' with e' _ _; exact absurd e'.symm T.x_Sure_Not
  | neg g => obtain ⟨dx', q, e', h⟩ := h; rw [e] at e'; injection e' with e'; injection e' with _ _ e'; exact ⟨g, q, rfl, e', h⟩
  | join w gs => obtain ⟨dx', tp, ps, e', _⟩ := h; rw [e] at e'; injection e' with e'; injection e' with e' _ _; cases w; exact absurd e' T.x_Not_And; exact absurd e' T.x_Not_Either; exact absurd e' T.x_Not_Or
theorem cw_inj (T : Txt K mg t) {v w : W3} (e : cw t v = cw t w) : v = w := by
  cases v <;> cases w <;> first
    | rfl
    | exact absurd e T.x_And_Either
    | exact absurd e T.x_And_Or
    | exact absurd e T.x_Either_Or
    | exact absurd e.symm T.x_And_Either
    | exact absurd e.symm T.x_And_Or
    | exact absurd e.symm T.x_Either_Or
theorem FmAt.join {dx : Addr} {fs : List (Str × V)} {w : W3} (T : Txt K mg t) (h : FmAt t H (n + 1) p f) (e : H p = some (.ins (cw t w) dx fs)) :
    ∃ gs tp ps, f = .join w gs ∧ fs = [(("parts" : Str), .ref tp)] ∧ H tp = some (.tup (ps.map V.ref)) ∧ Paired (FmAt t H n) ps gs := by
  cases f with
  | lamp k => obtain ⟨dx', e'⟩ := h; rw [e] at e'; injection e' with e'; injection e' with e' _ _; cases w; exact absurd e'.symm T.x_Lamp_And; exact absurd e'.symm T.x_Lamp_Either; exact absurd e'.symm T.x_Lamp_Or
  | sure b => obtain ⟨dx', e'⟩ := h; rw [e] at e'; injection e' with e'; injection e' with e' _ _; cases w; exact absurd e'.symm T.x_Sure_And; exact absurd e'.symm T.x_Sure_Either; exact absurd e'.symm T.x_Sure_Or
  | neg g => obtain ⟨dx', q, e', _⟩ := h; rw [e] at e'; injection e' with e'; injection e' with e' _ _; cases w; exact absurd e'.symm T.x_Not_And; exact absurd e'.symm T.x_Not_Either; exact absurd e'.symm T.x_Not_Or
  | join v gs =>
    obtain ⟨dx', tp, ps, e', e2, h⟩ := h
    rw [e] at e'; injection e' with e'; injection e' with e1 _ e3
    obtain rfl := cw_inj T e1
    exact ⟨gs, tp, ps, rfl, e3, e2, h⟩
theorem ok_Lamp (T : Txt K mg t) : MkS P w K mg base 1 "Lamp" t.C_Lamp ["self", "at"] (spInit1 t.C_Lamp "at") := by
  refine ⟨T.m_Lamp, _, _, T.k_Lamp, T.F_Lamp_init.ok sc_Lamp_init (fun vs H Q E h => ?_) (fun cdv A outer s H vs Q E hr h => ?_), T.b_Lamp_init⟩
  · obtain ⟨p, dx, v, rfl, _⟩ := h
    rfl
  · obtain ⟨p, dx, v, rfl, hp, q⟩ := h
    refine ⟨_, (pss_one (ps_fld (pv 0) (pv 1) rfl)), ?_⟩
    walk_at "rd0"
    exact ⟨p, _, _, _, rfl, hp, T.c_Lamp, T.n_Lamp_at, by decide, q⟩
theorem ok_Sure (T : Txt K mg t) : MkS P w K mg base 1 "Sure" t.C_Sure ["self", "truth"] (spInit1 t.C_Sure "truth") := by
  refine ⟨T.m_Sure, _, _, T.k_Sure, T.F_Sure_init.ok sc_Sure_init (fun vs H Q E h => ?_) (fun cdv A outer s H vs Q E hr h => ?_), T.b_Sure_init⟩
  · obtain ⟨p, dx, v, rfl, _⟩ := h
    rfl
  · obtain ⟨p, dx, v, rfl, hp, q⟩ := h
    refine ⟨_, (pss_one (ps_fld (pv 0) (pv 1) rfl)), ?_⟩
    walk_at "rd0"
    exact ⟨p, _, _, _, rfl, hp, T.c_Sure, T.n_Sure_truth, by decide, q⟩
theorem ok_Not (T : Txt K mg t) : MkS P w K mg base 1 "Not" t.C_Not ["self", "part"] (spInit1 t.C_Not "part") := by
  refine ⟨T.m_Not, _, _, T.k_Not, T.F_Not_init.ok sc_Not_init (fun vs H Q E h => ?_) (fun cdv A outer s H vs Q E hr h => ?_), T.b_Not_init⟩
  · obtain ⟨p, dx, v, rfl, _⟩ := h
    rfl
  · obtain ⟨p, dx, v, rfl, hp, q⟩ := h
    refine ⟨_, (pss_one (ps_fld (pv 0) (pv 1) rfl)), ?_⟩
    walk_at "rd0"
    exact ⟨p, _, _, _, rfl, hp, T.c_Not, T.n_Not_part, by decide, q⟩
def spInitJ (C : Addr) : Sp := fun vs H Q _ => ∃ p dx l ys, vs = [.ref p, .ref l] ∧ H p = some (.ins C dx []) ∧ H l = some (.lst ys) ∧ ∀ tp, H tp = none → Q .non (upd (upd H tp (.tup ys)) p (.ins C dx [(("parts" : Str), .ref tp)]))
theorem ok_JoinedC {C : Addr} (T : Txt K mg t) (cl : Cls K C) (na : NoAttr K C "parts") : FnOk P w K mg base CX0 1 t.f_Joined_init t.d_Joined_init ["self", "parts"] (spInitJ C) := by
  refine T.F_Joined_init.ok sc_Joined_init (fun vs H Q E h => ?_) (fun cdv A outer s H vs Q E hr h => ?_)
  · obtain ⟨p, dx, l, ys, rfl, _⟩ := h
    rfl
  · obtain ⟨p, dx, l, ys, rfl, hp, hl, q⟩ := h
    refine ⟨_, (pss_one (ps_fld (pv 0) (pe_callTy call_tupleG rfl T.B.tuple bt_tuple (pa_cons (pv 1) pa_nil)) rfl)), ?_⟩
    walk_at "rd0"
    refine i_tupL hl fun tp htp => ?_
    walk_at "rd"
    exact ⟨p, _, _, _, rfl, by rw [upd_ne (ne_of_none hp htp)]; exact hp, cl, na, by decide, q tp htp⟩
theorem ok_And (T : Txt K mg t) : MkS P w K mg base 1 "And" t.C_And ["self", "parts"] (spInitJ t.C_And) := ⟨T.m_And, _, _, T.k_And, ok_JoinedC T T.c_And T.n_And_parts, T.b_Joined_init⟩
theorem ok_Either (T : Txt K mg t) : MkS P w K mg base 1 "Either" t.C_Either ["self", "parts"] (spInitJ t.C_Either) := ⟨T.m_Either, _, _, T.k_Either, ok_JoinedC T T.c_Either T.n_Either_parts, T.b_Joined_init⟩
theorem ok_Or (T : Txt K mg t) : MkS P w K mg base 1 "Or" t.C_Or ["self", "parts"] (spInitJ t.C_Or) := ⟨T.m_Or, _, _, T.k_Or, ok_JoinedC T T.c_Or T.n_Or_parts, T.b_Joined_init⟩
theorem i_initJ {C l : Addr} {ys : List V} {H : Hp} {Q : VK} (hl : H l = some (.lst ys)) (h : ∀ (x dx tp : Addr) (H' : Hp), Same H H' → H x = none → H' x = some (.ins C dx [(("parts" : Str), .ref tp)]) → H' tp = some (.tup ys) → Q (.ref x) H') :
    MkG C (spInitJ C) [.ref l] H Q := by
  intro x dx hx hdx ne
  have s2 := same_new2 hx hdx (.ins C dx []) (.own x)
  refine ⟨x, dx, l, ys, rfl, upd_same, s2 _ _ hl, fun tp htp => ⟨rfl, ?_⟩⟩
  have hxt : tp ≠ x := by
    intro e; subst e; rw [upd_same] at htp; cases htp
  have htp0 : H tp = none := s2.free htp
  refine h x dx tp _ (fun b o e => ?_) hx upd_same (by rw [upd_ne hxt, upd_same])
  rw [upd_ne (ne_of_none e hx), upd_ne (ne_of_none e htp0), upd_ne (ne_of_none e hx), upd_ne (ne_of_none e hdx)]
  exact e
end

def spHolds (t : Ad) (n : Nat) : Sp := fun vs H Q _ => ∃ (p : Addr) (s : Nat) (f : Fm), vs = [.ref p, .int (s : Int)] ∧ FmAt t H n p f ∧ Q (.bl (f.holds s)) H
theorem lit_eq (s k : Nat) : decide (Builtin.bitAnd ((s : Int) / 2 ^ ((k : Int)).toNat) 1 = 1) = s.testBit k := by
  have e : ((s : Int) / 2 ^ ((k : Int)).toNat) = ((s / 2 ^ k : Nat) : Int) := by simp
  have h : Builtin.bitAnd ((s : Int) / 2 ^ ((k : Int)).toNat) 1 = ((s / 2 ^ k % 2 : Nat) : Int) := by
    rw [e, show (1 : Int) = ((1 : Nat) : Int) from rfl, and_nat, Nat.and_one_is_mod]
  rw [h, lit_iff]
  exact decide_eq_decide.mpr (by omega)
section
variable {P : Program} {w : World} {K : PySem.W.Frag} {mg : Str → Option Value} {base : Heap} {t : Ad} {n : Nat}
theorem ok_Lamp_holds (T : Txt K mg t) : MeS P w K mg base (n + 1) t.C_Lamp "holds" ["self", "stand"] (spAt (spHolds t (n + 1)) t.C_Lamp) := by
  refine ⟨T.c_Lamp, _, _, T.F_Lamp_holds.ok sc_Lamp_holds (fun vs H Q E h => ?_) (fun cdv A outer s H vs Q E hr h => ?_), T.b_Lamp_holds, T.h_Lamp_holds⟩
  · obtain ⟨⟨p, s, f, rfl, _⟩, _⟩ := h
    rfl
  · obtain ⟨⟨p, s, f, rfl, hf, q⟩, a, dx, fs, r, e, ea⟩ := h
    cases e
    obtain ⟨k, rfl, rfl⟩ := hf.lamp T ea
    refine ⟨_, (pss_one (ps_ret (pe_cmpR (op_eqA hr.units) (pe_op op_and (pe_op op_shr (pv 1) (pe_fld (pv 0) rfl)) pe_int) pe_int (nomark _)))), ?_⟩
    walk_at "rd0"
    refine ⟨p, _, _, _, _, rfl, ea, T.c_Lamp, T.n_Lamp_at, lk1 _ _, ?_⟩
    walk_at "rd"
    rw [lit_eq]
    simpa [Fm.holds] using q
theorem ok_Sure_holds (T : Txt K mg t) : MeS P w K mg base (n + 1) t.C_Sure "holds" ["self", "stand"] (spAt (spHolds t (n + 1)) t.C_Sure) := by
  refine ⟨T.c_Sure, _, _, T.F_Sure_holds.ok sc_Sure_holds (fun vs H Q E h => ?_) (fun cdv A outer s H vs Q E hr h => ?_), T.b_Sure_holds, T.h_Sure_holds⟩
  · obtain ⟨⟨p, s, f, rfl, _⟩, _⟩ := h
    rfl
  · obtain ⟨⟨p, s, f, rfl, hf, q⟩, a, dx, fs, r, e, ea⟩ := h
    cases e
    obtain ⟨b, rfl, rfl⟩ := hf.sure T ea
    refine ⟨_, (pss_one (ps_ret (pe_fld (pv 0) rfl))), ?_⟩
    walk_at "rd0"
    exact ⟨p, _, _, _, _, rfl, ea, T.c_Sure, T.n_Sure_truth, lk1 _ _, by simpa [Fm.holds] using q⟩
theorem ok_Not_holds (T : Txt K mg t) (D_holds : ∀ C, isFm t C → MeS P w K mg base n C "holds" ["self", "stand"] (spAt (spHolds t n) C)) : MeS P w K mg base (n + 1) t.C_Not "holds" ["self", "stand"] (spAt (spHolds t (n + 1)) t.C_Not) := by
  refine ⟨T.c_Not, _, _, T.F_Not_holds.ok sc_Not_holds (fun vs H Q E h => ?_) (fun cdv A outer s H vs Q E hr h => ?_), T.b_Not_holds, T.h_Not_holds⟩
  · obtain ⟨⟨p, s, f, rfl, _⟩, _⟩ := h
    rfl
  · obtain ⟨⟨p, s, f, rfl, hf, q⟩, a, dx, fs, r, e, ea⟩ := h
    cases e
    obtain ⟨g, p', rfl, rfl, hg⟩ := hf.neg T ea
    obtain ⟨C, dx', fs', e', hC, hl⟩ := hg.ins "holds" (by decide +kernel) (by decide +kernel) (by decide +kernel) (by decide +kernel)
    refine ⟨_, (pss_one (ps_ret (pe_notG (pe_dy D_holds hr (pe_fld (pv 0) rfl) (pa_cons (pv 1) pa_nil))))), ?_⟩
    walk_at "rd0"
    refine ⟨p, _, _, _, _, rfl, ea, T.c_Not, T.n_Not_part, lk1 _ _, ?_⟩
    walk_at "rd"
    refine ⟨p', C, dx', fs', rfl, e', hC, hl, ?_⟩
    walk_at "rd"
    refine ⟨e', p', s, g, rfl, hg, ?_⟩
    walk_at "rd"
    simpa [Fm.holds] using q
theorem ok_And_holds (T : Txt K mg t) (D_holds : ∀ C, isFm t C → MeS P w K mg base n C "holds" ["self", "stand"] (spAt (spHolds t n) C)) : MeS P w K mg base (n + 1) t.C_And "holds" ["self", "stand"] (spAt (spHolds t (n + 1)) t.C_And) := by
  refine ⟨T.c_And, _, _, T.F_And_holds.ok sc_And_holds (fun vs H Q E h => ?_) (fun cdv A outer s H vs Q E hr h => ?_), T.b_And_holds, T.h_And_holds⟩
  · obtain ⟨⟨p, s, f, rfl, _⟩, _⟩ := h
    rfl
  · obtain ⟨⟨p, s, f, rfl, hf, q⟩, a, dx, fs, r, e, ea⟩ := h
    cases e
    obtain ⟨gs, tp, ps, rfl, rfl, htp, hg⟩ := hf.join (w := .a) T ea
    refine ⟨_, (pss_cons (ps_for PassesOwn.never rfl (pi_seq (pe_fld (pv 0) rfl)) (sg 2 sc_And_holds.nd)
      (pss_one (ps_if (pt_not (pt_truth (pe_dy D_holds hr (pv 2) (pa_cons (pv 1) pa_nil)) (fun _ => rfl)))
      (pss_one (ps_ret pe_bl))
      pss_nil)))
      (pss_one (ps_ret pe_bl))), ?_⟩
    walk_at "rd0"
    refine ⟨p, _, _, _, _, rfl, ea, T.c_And, T.n_And_parts, lk1 _ _, ?_⟩
    refine seqT (xs := ps.map V.ref) (fun i σ H' => H' = H ∧ comb .a ((gs.take i).map (Fm.holds s)) = true ∧ ∃ v, σ = [some (.ref p), some (.int (s : Int)), v]) ⟨rfl, rfl, _, rfl⟩ (fun i σ H' _ hp => by obtain ⟨rfl, _⟩ := hp; exact SqT.of htp) ?_ ?_
    · rintro i x σ H' hx ⟨rfl, hc, v, rfl⟩
      obtain ⟨p', rfl, hx'⟩ := get_ref hx
      obtain ⟨g, hgi, hf'⟩ := paired_get hg hx'
      obtain ⟨C, dx', fs', e', hC, hl⟩ := hf'.ins "holds" (by decide +kernel) (by decide +kernel) (by decide +kernel) (by decide +kernel)
      walk_at "rd"
      refine ⟨p', C, dx', fs', rfl, e', hC, hl, ?_⟩
      walk_at "rd"
      refine ⟨e', p', s, g, rfl, hf', ?_⟩
      walk_at "rd"
      refine i_ifb (fun hb => ?_) (fun hb => ?_)
      · walk_at "rd"
        have hz : (Fm.join .a gs).holds s = false := by
          rw [holds_join]
          have hm : g ∈ gs := List.mem_of_getElem? hgi
          have hgf : g.holds s = false := by simpa using hb
          simp only [comb]
          rw [List.all_eq_false]
          exact ⟨_, List.mem_map_of_mem hm, by simp [hgf]⟩
        rw [hz] at q
        exact q
      · walk_at "rd"
        refine ⟨rfl, ?_, _, rfl⟩
        have hgt : g.holds s = true := by simpa using hb
        rw [take_snoc hgi, List.map_append, List.map_cons, List.map_nil, comb_snoc_a, hc, hgt]
        rfl
    · rintro σ H' ⟨rfl, hc, v, rfl⟩
      walk_at "rd"
      rw [List.length_map, paired_len hg, List.take_length] at hc
      rw [holds_join, hc] at q
      exact q
theorem ok_Or_holds (T : Txt K mg t) (D_holds : ∀ C, isFm t C → MeS P w K mg base n C "holds" ["self", "stand"] (spAt (spHolds t n) C)) : MeS P w K mg base (n + 1) t.C_Or "holds" ["self", "stand"] (spAt (spHolds t (n + 1)) t.C_Or) := by
  refine ⟨T.c_Or, _, _, T.F_Or_holds.ok sc_Or_holds (fun vs H Q E h => ?_) (fun cdv A outer s H vs Q E hr h => ?_), T.b_Or_holds, T.h_Or_holds⟩
  · obtain ⟨⟨p, s, f, rfl, _⟩, _⟩ := h
    rfl
  · obtain ⟨⟨p, s, f, rfl, hf, q⟩, a, dx, fs, r, e, ea⟩ := h
    cases e
    obtain ⟨gs, tp, ps, rfl, rfl, htp, hg⟩ := hf.join (w := .o) T ea
    refine ⟨_, (pss_cons (ps_for PassesOwn.never rfl (pi_seq (pe_fld (pv 0) rfl)) (sg 2 sc_Or_holds.nd)
      (pss_one (ps_if (pt_truth (pe_dy D_holds hr (pv 2) (pa_cons (pv 1) pa_nil)) (fun _ => rfl))
      (pss_one (ps_ret pe_bl))
      pss_nil)))
      (pss_one (ps_ret pe_bl))), ?_⟩
    walk_at "rd0"
    refine ⟨p, _, _, _, _, rfl, ea, T.c_Or, T.n_Or_parts, lk1 _ _, ?_⟩
    refine seqT (xs := ps.map V.ref) (fun i σ H' => H' = H ∧ comb .o ((gs.take i).map (Fm.holds s)) = false ∧ ∃ v, σ = [some (.ref p), some (.int (s : Int)), v]) ⟨rfl, rfl, _, rfl⟩ (fun i σ H' _ hp => by obtain ⟨rfl, _⟩ := hp; exact SqT.of htp) ?_ ?_
    · rintro i x σ H' hx ⟨rfl, hc, v, rfl⟩
      obtain ⟨p', rfl, hx'⟩ := get_ref hx
      obtain ⟨g, hgi, hf'⟩ := paired_get hg hx'
      obtain ⟨C, dx', fs', e', hC, hl⟩ := hf'.ins "holds" (by decide +kernel) (by decide +kernel) (by decide +kernel) (by decide +kernel)
      walk_at "rd"
      refine ⟨p', C, dx', fs', rfl, e', hC, hl, ?_⟩
      walk_at "rd"
      refine ⟨e', p', s, g, rfl, hf', ?_⟩
      walk_at "rd"
      refine i_ifb (fun hb => ?_) (fun hb => ?_)
      · walk_at "rd"
        have hz : (Fm.join .o gs).holds s = true := by
          rw [holds_join]
          have hm : g ∈ gs := List.mem_of_getElem? hgi
          simp only [comb]
          rw [List.any_eq_true]
          exact ⟨_, List.mem_map_of_mem hm, by simp [hb]⟩
        rw [hz] at q
        exact q
      · walk_at "rd"
        refine ⟨rfl, ?_, _, rfl⟩
        rw [take_snoc hgi, List.map_append, List.map_cons, List.map_nil, comb_snoc_o, hc, hb]
        rfl
    · rintro σ H' ⟨rfl, hc, v, rfl⟩
      walk_at "rd"
      rw [List.length_map, paired_len hg, List.take_length] at hc
      rw [holds_join, hc] at q
      exact q
theorem ok_Either_holds (T : Txt K mg t) (D_holds : ∀ C, isFm t C → MeS P w K mg base n C "holds" ["self", "stand"] (spAt (spHolds t n) C)) : MeS P w K mg base (n + 1) t.C_Either "holds" ["self", "stand"] (spAt (spHolds t (n + 1)) t.C_Either) := by
  refine ⟨T.c_Either, _, _, T.F_Either_holds.ok sc_Either_holds (fun vs H Q E h => ?_) (fun cdv A outer s H vs Q E hr h => ?_), T.b_Either_holds, T.h_Either_holds⟩
  · obtain ⟨⟨p, s, f, rfl, _⟩, _⟩ := h
    rfl
  · obtain ⟨⟨p, s, f, rfl, hf, q⟩, a, dx, fs, r, e, ea⟩ := h
    cases e
    obtain ⟨gs, tp, ps, rfl, rfl, htp, hg⟩ := hf.join (w := .e) T ea
    refine ⟨_, (pss_cons (ss 2 sc_Either_holds.nd pe_bl)
      (pss_cons (ps_for PassesOwn.never rfl (pi_seq (pe_fld (pv 0) rfl)) (sg 3 sc_Either_holds.nd)
      (pss_one (ps_if (pt_truth (pe_dy D_holds hr (pv 3) (pa_cons (pv 1) pa_nil)) (fun _ => rfl))
      (pss_one (ss 2 sc_Either_holds.nd (pe_notG (pv 2))))
      pss_nil)))
      (pss_one (ps_ret (pv 2))))), ?_⟩
    walk_at "rd0"
    refine ⟨p, _, _, _, _, rfl, ea, T.c_Either, T.n_Either_parts, lk1 _ _, ?_⟩
    refine seqT (xs := ps.map V.ref) (fun i σ H' => H' = H ∧ ∃ v, σ = [some (.ref p), some (.int (s : Int)), some (.bl (comb .e ((gs.take i).map (Fm.holds s)))), v]) ⟨rfl, _, rfl⟩ (fun i σ H' _ hp => by obtain ⟨rfl, _⟩ := hp; exact SqT.of htp) ?_ ?_
    · rintro i x σ H' hx ⟨rfl, v, rfl⟩
      obtain ⟨p', rfl, hx'⟩ := get_ref hx
      obtain ⟨g, hgi, hf'⟩ := paired_get hg hx'
      obtain ⟨C, dx', fs', e', hC, hl⟩ := hf'.ins "holds" (by decide +kernel) (by decide +kernel) (by decide +kernel) (by decide +kernel)
      have hs : comb .e ((gs.take (i + 1)).map (Fm.holds s)) = xor (comb .e ((gs.take i).map (Fm.holds s))) (g.holds s) := by
        rw [take_snoc hgi, List.map_append, List.map_cons, List.map_nil, comb_snoc_e]
      walk_at "rd"
      refine ⟨p', C, dx', fs', rfl, e', hC, hl, ?_⟩
      walk_at "rd"
      refine ⟨e', p', s, g, rfl, hf', ?_⟩
      walk_at "rd"
      refine i_ifb (fun hb => ?_) (fun hb => ?_)
      · walk_at "rd"
        refine ⟨rfl, some (.ref p'), ?_⟩
        rw [hs, hb, Bool.xor_true]
      · walk_at "rd"
        refine ⟨rfl, some (.ref p'), ?_⟩
        rw [hs, hb, Bool.xor_false]
    · rintro σ H' ⟨rfl, v, rfl⟩
      walk_at "rd"
      rw [List.length_map, paired_len hg, List.take_length]
      rw [holds_join] at q
      exact q
theorem me_none {C f : Addr} {fd : FuncData} {m : Str} {ps : List Str} {sp : Sp} (no : ∀ vs H Q E, ¬ sp vs H Q E) (c : Cls K C) (b : Binds K fd ps []) (h : Meth K C m f) : MeS P w K mg base 0 C m ps sp :=
  ⟨c, f, fd, ⟨fun vs H Q E h => absurd h (no vs H Q E), fun A outer s H args us vs Q E _ _ _ _ h => absurd h (no vs H Q E)⟩, b, h⟩
theorem D_holds_of (T : Txt K mg t) : ∀ n : Nat, ∀ C, isFm t C → MeS P w K mg base n C "holds" ["self", "stand"] (spAt (spHolds t n) C)
  | 0 => by
    have no : ∀ C vs H Q E, ¬ spAt (spHolds t 0) C vs H Q E := fun C vs H Q E h => by
      obtain ⟨⟨p, s, f, _, h, _⟩, _⟩ := h
      exact h
    rintro C (rfl | rfl | rfl | rfl | rfl | rfl)
    · exact me_none (no _) T.c_Lamp T.b_Lamp_holds T.h_Lamp_holds
    · exact me_none (no _) T.c_Sure T.b_Sure_holds T.h_Sure_holds
    · exact me_none (no _) T.c_Not T.b_Not_holds T.h_Not_holds
    · exact me_none (no _) T.c_And T.b_And_holds T.h_And_holds
    · exact me_none (no _) T.c_Either T.b_Either_holds T.h_Either_holds
    · exact me_none (no _) T.c_Or T.b_Or_holds T.h_Or_holds
  | n + 1 => by
    have ih := D_holds_of T n
    rintro C (rfl | rfl | rfl | rfl | rfl | rfl)
    · exact ok_Lamp_holds T
    · exact ok_Sure_holds T
    · exact ok_Not_holds T ih
    · exact ok_And_holds T ih
    · exact ok_Either_holds T ih
    · exact ok_Or_holds T ih
end

theorem get_range {n i : Nat} {lo : Int} {x : V} (h : ((List.range n).map fun i : Nat => V.int (lo + (i : Int)))[i]? = some x) : i < n ∧ x = .int (lo + (i : Int)) := by
  rw [List.getElem?_map] at h
  by_cases hi : i < n
  · rw [List.getElem?_range hi] at h
    exact ⟨hi, (Option.some.inj h).symm⟩
  · rw [List.getElem?_eq_none (by rw [List.length_range]; omega)] at h
    cases h
theorem pow_small {m : Nat} (h : m ≤ 6) : (2 : Nat) ^ m ≤ 64 := Nat.le_trans (Nat.pow_le_pow_right (by decide) h) (by decide)
theorem shl_nat (m : Nat) : (1 : Int) * 2 ^ ((m : Int)).toNat = ((2 ^ m : Nat) : Int) := by
  simp
theorem andnot_nat (x y : Nat) : Builtin.bitAnd (x : Int) (Builtin.bitNot (y : Int)) = ((x - (x &&& y) : Nat) : Int) := by
  rw [PyProof.Rows.bitAnd_not, and_nat]
  have := Nat.and_le_left (n := x) (m := y)
  omega
def nums (l : List Nat) : List Int := l.map fun k : Nat => (k : Int)
/-- [s for s in range(n) if p s] -/
theorem comp_range {ix : List Nat} {tc : TT} {te : TE} {σ : St} {H : Hp} {Q : VK} {n : Nat} (p : Nat → Bool) (hz : n ≤ 1000000)
    (ht : ∀ (i : Nat) (H' : Hp), i < n → Same H H' → ∀ R : Bool → Hp → Prop, (∀ H2, Same H' H2 → R (p i) H2) → tc (some (.int (i : Int)) :: subS σ ix) H' R)
    (he : ∀ (i : Nat) (H' : Hp), i < n → Same H H' → ∀ R2 : V → Hp → Prop, (∀ H3, Same H' H3 → R2 (.int (i : Int)) H3) → te (some (.int (i : Int)) :: subS σ ix) H' R2)
    (hd : ∀ (acc : Addr) (H' : Hp), H acc = none → Same H H' → H' acc = some (.lst ((nums ((List.range n).filter p)).map V.int)) → Q (.ref acc) H') : CompG (Itr 0 n) ix tc te σ Q H := by
  refine comp_by (fun i ys => ys = (nums ((List.range i).filter p)).map V.int) (wk_range 0 n H) (by rw [List.length_map, List.length_range]; exact hz) rfl ?_ ?_
  · intro i x ys acc H' hx s1 hacc ea hy _ R k
    obtain ⟨hi, rfl⟩ := get_range hx
    rw [Int.zero_add]
    rw [Int.zero_add] at k
    refine ht i H' hi s1 R fun H2 s2 => k (p i) H2 s2 (fun z => ?_) fun z R2 k2 => ?_
    · rw [filter_succ, z, if_neg Bool.false_ne_true, List.append_nil]; exact hy
    · refine he i H2 hi (s1.trans s2) R2 fun H3 s3 => k2 _ H3 s3 ?_
      rw [filter_succ, z, if_pos rfl, hy]
      unfold nums
      rw [List.map_append, List.map_append]
      rfl
  · intro acc ys H' n1 s1 e1 hy
    rw [List.length_map, List.length_range] at hy
    subst hy
    exact hd acc H' n1 s1 e1

theorem get_nums {af : List Nat} {i : Nat} (h : i < af.length) : ((nums af).map V.int)[i]? = some (.int ((af.getD i 0 : Nat) : Int)) := by
  unfold nums
  rw [List.getElem?_map, List.getElem?_map, List.getD_eq_getElem?_getD, List.getElem?_eq_getElem h]
  rfl
theorem len_nums (af : List Nat) : ((nums af).map V.int).length = af.length := by unfold nums; rw [List.length_map, List.length_map]
theorem nums_snoc (af : List Nat) (x : Nat) : (nums (af ++ [x])).map V.int = (nums af).map V.int ++ [V.int (x : Int)] := by unfold nums; rw [List.map_append, List.map_append]; rfl
theorem div_lit (s k : Nat) : (s : Int) / ((2 ^ k : Nat) : Int) % 2 = if s.testBit k = true then 1 else 0 := by
  have e1 : (s : Int) / ((2 ^ k : Nat) : Int) % 2 = ((s / 2 ^ k % 2 : Nat) : Int) := by rw [← Int.natCast_ediv]; omega
  rw [e1, lit_iff]
  by_cases h : s / 2 ^ k % 2 = 1
  · rw [decide_eq_true h, if_pos rfl, h]; rfl
  · rw [decide_eq_false h, if_neg Bool.false_ne_true]
    have : s / 2 ^ k % 2 = 0 := by omega
    rw [this]; rfl
theorem But.trans {l : Addr} {H H' H'' : Hp} (a : But l H H') (b : But l H' H'') : But l H H'' := fun c o h e => b c o h (a c o h e)
abbrev Chg := Nat × (Addr × Fm)
def litAt (s : Nat) (cs : List Chg) (i : Nat) : Bool := cs.foldl (fun b c => if c.1 = i then c.2.2.holds s else b) (s.testBit i)
def onN (s : Nat) (cs : List Chg) : Nat := cs.foldl (fun f c => if c.2.2.holds s then f ||| 2 ^ c.1 else f - (f &&& 2 ^ c.1)) s
theorem litAt_snoc (s : Nat) (cs : List Chg) (c : Chg) (i : Nat) : litAt s (cs ++ [c]) i = if c.1 = i then c.2.2.holds s else litAt s cs i := by
  unfold litAt
  rw [List.foldl_append]
  rfl
theorem onN_snoc (s : Nat) (cs : List Chg) (c : Chg) : onN s (cs ++ [c]) = if c.2.2.holds s then onN s cs ||| 2 ^ c.1 else onN s cs - (onN s cs &&& 2 ^ c.1) := by
  unfold onN
  rw [List.foldl_append]
  rfl
theorem testBit_onN (s i : Nat) : ∀ (n : Nat) (cs : List Chg), cs.length = n → (onN s cs).testBit i = litAt s cs i
  | 0, cs, h => by rw [List.length_eq_zero_iff.mp h]; rfl
  | n + 1, cs, h => by
    obtain ⟨r, c, rfl⟩ := snoc_of (l := cs) (fun e => by rw [e] at h; exact absurd h (by simp))
    have ih := testBit_onN s i n r (by simpa using h)
    rw [onN_snoc, litAt_snoc]
    by_cases hb : c.2.2.holds s = true
    · rw [if_pos hb, Nat.testBit_or, ih, Nat.testBit_two_pow, hb]
      by_cases e : c.1 = i
      · rw [if_pos e, decide_eq_true e, Bool.or_true]
      · rw [if_neg e, decide_eq_false e, Bool.or_false]
    · have hb' : c.2.2.holds s = false := by simpa using hb
      rw [if_neg hb, testBit_sub_and, ih, Nat.testBit_two_pow, hb']
      by_cases e : c.1 = i
      · rw [if_pos e, decide_eq_true e, Bool.not_true, Bool.and_false]
      · rw [if_neg e, decide_eq_false e, Bool.not_false, Bool.and_true]
theorem litAt_out {s m i : Nat} (hs : s < 2 ^ m) (hi : m ≤ i) : ∀ (n : Nat) (cs : List Chg), cs.length = n → (∀ c ∈ cs, c.1 < m) → litAt s cs i = false
  | 0, cs, h, _ => by
    rw [List.length_eq_zero_iff.mp h]
    exact Nat.testBit_lt_two_pow (Nat.lt_of_lt_of_le hs (Nat.pow_le_pow_right (by decide) hi))
  | n + 1, cs, h, hc => by
    obtain ⟨r, c, rfl⟩ := snoc_of (l := cs) (fun e => by rw [e] at h; exact absurd h (by simp))
    rw [litAt_snoc, if_neg (by have := hc c (by simp); omega)]
    exact litAt_out hs hi n r (by simpa using h) fun c' h' => hc c' (by simp [h'])
theorem onN_due {s m : Nat} {cs : List Chg} (hs : s < 2 ^ m) (hc : ∀ c ∈ cs, c.1 < m) : onN s cs = bits (fun i => litAt s cs i) m := by
  apply Nat.eq_of_testBit_eq
  intro i
  rw [testBit_onN s i _ cs rfl, testBit_bits]
  by_cases hi : i < m
  · rw [decide_eq_true hi, Bool.true_and]
  · rw [decide_eq_false hi, Bool.false_and]
    exact litAt_out hs (by omega) _ cs rfl hc
section
variable {P : Program} {w : World} {K : PySem.W.Frag} {mg : Str → Option Value} {base : Heap} {t : Ad} {n : Nat}
def moveF (g tp : Addr) : List (Str × V) := putF "changes" (.ref tp) (putF "guard" (.ref g) [])
theorem lk_changes (g tp : Addr) : (moveF g tp).lookup ("changes" : Str) = some (.ref tp) := by
  unfold moveF
  rw [lookup_putF, if_pos rfl]
theorem lk_guard (g tp : Addr) : (moveF g tp).lookup ("guard" : Str) = some (.ref g) := by
  unfold moveF
  rw [lookup_putF, if_neg (by decide), lookup_putF, if_pos rfl]
theorem lk_noF (g tp : Addr) (f : Str) (h1 : ¬ f = "changes") (h2 : ¬ f = "guard") : (moveF g tp).lookup f = none := by
  unfold moveF
  rw [lookup_putF, if_neg h1, lookup_putF, if_neg h2]
  rfl
/-- a change as it is handed in: the lamp and the formula -/
def HdAt (t : Ad) (H : Hp) (n : Nat) (h : Addr) (c : Chg) : Prop := H h = some (.tup [.int (c.1 : Int), .ref c.2.1]) ∧ FmAt t H n c.2.1 c.2.2
theorem HdAt.ext {H H' : Hp} {h : Addr} {c : Chg} (s : Ext H H') (a : HdAt t H n h c) : HdAt t H' n h c := ⟨s _ _ a.1 (fun _ z => nomatch z), a.2.mono s⟩
def MvAt (t : Ad) (H : Hp) (n : Nat) (x g : Addr) (f : Fm) (cs : List Chg) : Prop := ∃ dx tp hs, H x = some (.ins t.C_Move dx (moveF g tp)) ∧ H tp = some (.tup (hs.map V.ref)) ∧ FmAt t H n g f ∧ Paired (HdAt t H n) hs cs
theorem MvAt.ext {H H' : Hp} {x g : Addr} {f : Fm} {cs : List Chg} (s : Ext H H') (a : MvAt t H n x g f cs) : MvAt t H' n x g f cs := by
  obtain ⟨dx, tp, hs, e1, e2, f1, p⟩ := a
  exact ⟨dx, tp, hs, s _ _ e1 (fun _ z => nomatch z), s _ _ e2 (fun _ z => nomatch z), f1.mono s, paired_imp (fun _ _ q => q.ext s) p⟩
def spInitM (C : Addr) : Sp := fun vs H Q _ => ∃ (p dx g l : Addr) (ys : List V), vs = [.ref p, .ref g, .ref l] ∧ H p = some (.ins C dx []) ∧ H l = some (.lst ys) ∧ ∀ tp H', (∀ b o, b ≠ p → H b = some o → H' b = some o) → H' tp = some (.tup ys) → H' p = some (.ins C dx (moveF g tp)) → Q .non H'
theorem len_putF (f : Str) (v : V) : ∀ fs : List (Str × V), (putF f v fs).length ≤ fs.length + 1
  | [] => Nat.le_refl _
  | (g, x) :: r => by
    unfold putF
    by_cases h : g = f
    · rw [if_pos h]; exact Nat.le_succ _
    · rw [if_neg h]; exact Nat.succ_le_succ (len_putF f v r)
theorem ok_Move (T : Txt K mg t) : MkS P w K mg base 2 "Move" t.C_Move ["self", "guard", "changes"] (spInitM t.C_Move) := by
  refine ⟨T.m_Move, _, _, T.k_Move, T.F_Move_init.ok sc_Move_init (fun vs H Q E h => ?_) (fun cdv A outer s H vs Q E hr h => ?_), T.b_Move_init⟩
  · obtain ⟨p, dx, g, l, ys, rfl, _⟩ := h
    rfl
  obtain ⟨p, dx, g, l, ys, rfl, hp, hl, q⟩ := h
  have z1 := len_putF "guard" (.ref g) []
  rw [List.length_nil] at z1
  have hlp : l ≠ p := fun e => by rw [e, hp] at hl; cases hl
  refine ⟨_, (pss_cons (ps_fld (pv 0) (pv 1) rfl)
      (pss_one (ps_fld (pv 0) (pe_callTy call_tupleG rfl T.B.tuple bt_tuple (pa_cons (pv 2) pa_nil)) rfl))), ?_⟩
  walk_at "rd0"
  refine ⟨p, _, _, _, rfl, hp, T.c_Move, T.n_Move_guard, by decide, ?_⟩
  walk_at "rd"
  refine i_tupL (ys := ys) (by rw [upd_ne hlp]; exact hl) fun tp htp => ?_
  have hpt : tp ≠ p := fun e => by rw [e, upd_same] at htp; cases htp
  walk_at "rd"
  refine ⟨p, _, _, _, rfl, by rw [upd_ne (Ne.symm hpt)]; exact upd_same, T.c_Move, T.n_Move_changes, by omega, ?_⟩
  refine q tp _ (fun b o hb e => ?_) (by rw [upd_ne hpt]; exact upd_same) upd_same
  have hb' : b ≠ tp := fun z => by rw [← z, upd_ne hb, e] at htp; cases htp
  rw [upd_ne hb, upd_ne hb', upd_ne hb]
  exact e
theorem i_move {l g : Addr} {hs : List Addr} {f : Fm} {cs : List Chg} {H : Hp} {Q : VK} (hl : H l = some (.lst (hs.map V.ref))) (hf : FmAt t H n g f) (hc : Paired (HdAt t H n) hs cs) (h : ∀ (x : Addr) (H' : Hp), Same H H' → H x = none → MvAt t H' n x g f cs → Q (.ref x) H') :
    MkG t.C_Move (spInitM t.C_Move) [.ref g, .ref l] H Q := by
  intro x dx hx hdx ne
  have s2 := same_new2 hx hdx (.ins t.C_Move dx []) (.own x)
  refine ⟨x, dx, g, l, _, rfl, upd_same, s2 _ _ hl, fun tp H' s3 h1 h2 => ⟨rfl, ?_⟩⟩
  have s4 : Same H H' := fun b o e => s3 b o (ne_of_none e hx) (s2 b o e)
  exact h x H' s4 hx ⟨dx, tp, hs, h2, h1, hf.mono (Ext.of s4), paired_imp (fun _ _ q => q.ext (Ext.of s4)) hc⟩
def isMv (t : Ad) (C : Addr) : Prop := C = t.C_Move
theorem MvAt.ins {H : Hp} {x g : Addr} {f : Fm} {cs : List Chg} (h : MvAt t H n x g f cs) (m : Str) (h1 : ¬ m = "changes") (h2 : ¬ m = "guard") : ∃ C dx fs, H x = some (.ins C dx fs) ∧ isMv t C ∧ fs.lookup m = none := by
  obtain ⟨dx, tp, hs, e, _⟩ := h
  exact ⟨_, dx, _, e, rfl, lk_noF _ _ _ h1 h2⟩
def spFits (t : Ad) (n : Nat) : Sp := fun vs H Q _ => ∃ (x g : Addr) (s : Nat) (f : Fm) (cs : List Chg), vs = [.ref x, .int (s : Int)] ∧ MvAt t H n x g f cs ∧ Q (.bl (f.holds s)) H
theorem D_fits_of (T : Txt K mg t) : ∀ C, isMv t C → MeS P w K mg base (n + 1) C "fits" ["self", "stand"] (spAt (spFits t n) C) := by
  rintro C rfl
  refine ⟨T.c_Move, _, _, T.F_Move_fits.ok sc_Move_fits (fun vs H Q E h => ?_) (fun cdv A outer s H vs Q E hr h => ?_), T.b_Move_fits, T.h_Move_fits⟩
  · obtain ⟨⟨x, g, s, f, cs, rfl, _⟩, _⟩ := h
    rfl
  obtain ⟨⟨x, g, s, f, cs, rfl, ⟨dx, tp, hs, e1, e2, f1, p⟩, q⟩, _⟩ := h
  have D_holds := D_holds_of (P := P) (w := w) (base := base) T n
  obtain ⟨C, dx', fs', e', hC, hl⟩ := f1.ins "holds" (by decide +kernel) (by decide +kernel) (by decide +kernel) (by decide +kernel)
  refine ⟨_, (pss_one (ps_ret (pe_dy D_holds hr (pe_fld (pv 0) rfl) (pa_cons (pv 1) pa_nil)))), ?_⟩
  walk_at "rd0"
  refine ⟨x, _, _, _, _, rfl, e1, T.c_Move, T.n_Move_guard, lk_guard _ _, ?_⟩
  walk_at "rd"
  refine ⟨g, C, dx', fs', rfl, e', hC, hl, ?_⟩
  walk_at "rd"
  exact ⟨e', g, s, f, rfl, f1, q⟩
def spOnward (t : Ad) (n : Nat) : Sp := fun vs H Q _ => ∃ (x g : Addr) (s : Nat) (f : Fm) (cs : List Chg), vs = [.ref x, .int (s : Int)] ∧ MvAt t H n x g f cs ∧ (∀ c ∈ cs, c.1 ≤ 6) ∧ Q (.int ((onN s cs : Nat) : Int)) H
theorem D_onward_of (T : Txt K mg t) : ∀ C, isMv t C → MeS P w K mg base (n + 1) C "onward" ["self", "stand"] (spAt (spOnward t n) C) := by
  rintro C rfl
  refine ⟨T.c_Move, _, _, T.F_Move_onward.ok sc_Move_onward (fun vs H Q E h => ?_) (fun cdv A outer s H vs Q E hr h => ?_), T.b_Move_onward, T.h_Move_onward⟩
  · obtain ⟨⟨x, g, s, f, cs, rfl, _⟩, _⟩ := h
    rfl
  obtain ⟨⟨x, g, s, f, cs, rfl, ⟨dx, tp, hs, e1, e2, f1, p⟩, h6, q⟩, _⟩ := h
  have D_holds := D_holds_of (P := P) (w := w) (base := base) T n
  refine ⟨_, (pss_cons (ss 2 sc_Move_onward.nd (pv 1))
      (pss_cons (ps_for PassesOwn.never rfl (pi_seq (pe_fld (pv 0) rfl)) (pg_tup rfl (pgs_cons (sg 3 sc_Move_onward.nd) (pgs_cons (sg 4 sc_Move_onward.nd) pgs_nil)))
      (pss_one (ps_if (pt_truth (pe_dy D_holds hr (pv 4) (pa_cons (pv 1) pa_nil)) (fun _ => rfl))
      (pss_one (ss 2 sc_Move_onward.nd (pe_op op_or (pv 2) (pe_op op_shl pe_int (pv 3)))))
      (pss_one (ss 2 sc_Move_onward.nd (pe_op op_and (pv 2) (pe_un un_inv (pe_op op_shl pe_int (pv 3)))))))))
      (pss_one (ps_ret (pv 2))))), ?_⟩
  walk_at "rd0"
  refine ⟨x, _, _, _, _, rfl, e1, T.c_Move, T.n_Move_changes, lk_changes _ _, ?_⟩
  refine seqT (xs := hs.map V.ref) (fun i σ H' => H' = H ∧ ∃ v v', σ = [some (.ref x), some (.int (s : Int)), some (.int ((onN s (cs.take i) : Nat) : Int)), v, v']) ⟨rfl, _, _, rfl⟩ (fun i σ H' _ hp => by obtain ⟨rfl, _⟩ := hp; exact SqT.of e2) ?_ ?_
  · rintro i y σ H' hy ⟨rfl, v, v', rfl⟩
    obtain ⟨h, rfl, hx'⟩ := get_ref hy
    obtain ⟨c, hgi, ht, hf⟩ := paired_get p hx'
    have hc6 := h6 c (List.mem_of_getElem? hgi)
    obtain ⟨C, dx', fs', e', hC, hl⟩ := hf.ins "holds" (by decide +kernel) (by decide +kernel) (by decide +kernel) (by decide +kernel)
    have hs' := onN_snoc s (cs.take i) c
    rw [← take_snoc hgi] at hs'
    refine i_gN2 ht ?_
    walk_at "rd"
    refine ⟨c.2.1, C, dx', fs', rfl, e', hC, hl, ?_⟩
    walk_at "rd"
    refine ⟨e', c.2.1, s, c.2.2, rfl, hf, ?_⟩
    walk_at "rd"
    refine i_ifb (fun hb => ?_) (fun hb => ?_)
    · walk_at "rd"
      rw [shl_nat, or_nat]
      refine ⟨rfl, some (.int (c.1 : Int)), some (.ref c.2.1), ?_⟩
      rw [hs', if_pos hb]
      all_goals rfl
    · walk_at "rd"
      rw [shl_nat, andnot_nat]
      refine ⟨rfl, some (.int (c.1 : Int)), some (.ref c.2.1), ?_⟩
      rw [hs', if_neg (by rw [hb]; exact Bool.false_ne_true)]
      all_goals rfl
  · rintro σ H' ⟨rfl, v, v', rfl⟩
    rw [List.length_map, paired_len p, List.take_length]
    walk_at "rd"
    exact q
end

theorem add_split : ∀ (n x y : Nat), x < n → x + y = (x ||| y) + (x &&& y)
  | 0, x, y, h => absurd h (by omega)
  | n + 1, x, y, h => by
    by_cases hx : x = 0
    · subst hx; simp
    · have ih := add_split n (x / 2) (y / 2) (by omega)
      have e1 := Nat.div_add_mod (x ||| y) 2
      have e2 := Nat.div_add_mod (x &&& y) 2
      rw [Nat.or_div_two] at e1
      rw [Nat.and_div_two] at e2
      have m1 : (x ||| y) % 2 = (x % 2 ||| y % 2) := Nat.or_mod_two_pow (n := 1)
      have m2 : (x &&& y) % 2 = (x % 2 &&& y % 2) := Nat.and_mod_two_pow (n := 1)
      have m4 : x % 2 + y % 2 = (x % 2 ||| y % 2) + (x % 2 &&& y % 2) := by
        rcases Nat.mod_two_eq_zero_or_one x with a | a <;> rcases Nat.mod_two_eq_zero_or_one y with b | b <;> rw [a, b] <;> rfl
      omega
theorem and_pow (x l : Nat) : x &&& 2 ^ l = if x.testBit l = true then 2 ^ l else 0 := by
  apply Nat.eq_of_testBit_eq
  intro i
  rw [Nat.testBit_and, Nat.testBit_two_pow]
  by_cases e : l = i
  · subst e
    cases h : x.testBit l
    · simp
    · simp [Nat.testBit_two_pow_self]
  · cases h : x.testBit l
    · simp [e]
    · simp [e, Nat.testBit_two_pow]
theorem litAt_none {s i : Nat} : ∀ (n : Nat) (cs : List Chg), cs.length = n → (∀ c ∈ cs, c.1 ≠ i) → litAt s cs i = s.testBit i
  | 0, cs, h, _ => by rw [List.length_eq_zero_iff.mp h]; rfl
  | n + 1, cs, h, hc => by
    obtain ⟨r, c, rfl⟩ := snoc_of (l := cs) (fun e => by rw [e] at h; exact absurd h (by simp))
    rw [litAt_snoc, if_neg (hc c (by simp))]
    exact litAt_none n r (by simpa using h) fun c' h' => hc c' (by simp [h'])
def bI (b : Bool) : Int := if b = true then 1 else 0
def onI (s : Nat) (cs : List Chg) : Int := cs.foldl (fun a c => a + (bI (c.2.2.holds s) - bI (s.testBit c.1)) * ((2 ^ c.1 : Nat) : Int)) (s : Int)
theorem onI_snoc (s : Nat) (cs : List Chg) (c : Chg) : onI s (cs ++ [c]) = onI s cs + (bI (c.2.2.holds s) - bI (s.testBit c.1)) * ((2 ^ c.1 : Nat) : Int) := by
  unfold onI
  rw [List.foldl_append]
  rfl
theorem onI_eq (s : Nat) : ∀ (n : Nat) (cs : List Chg), cs.length = n → (cs.map Prod.fst).Nodup → onI s cs = ((onN s cs : Nat) : Int)
  | 0, cs, h, _ => by rw [List.length_eq_zero_iff.mp h]; rfl
  | n + 1, cs, h, nd => by
    obtain ⟨r, c, rfl⟩ := snoc_of (l := cs) (fun e => by rw [e] at h; exact absurd h (by simp))
    rw [List.map_append, List.map_cons, List.map_nil, List.nodup_append] at nd
    obtain ⟨n1, n2, n3⟩ := nd
    have ih := onI_eq s n r (by simpa using h) n1
    have hb : (onN s r).testBit c.1 = s.testBit c.1 := by
      rw [testBit_onN s c.1 _ r rfl]
      exact litAt_none _ r rfl fun c' h' e => n3 c'.1 (List.mem_map_of_mem h') c.1 (by simp) e
    have ha := and_pow (onN s r) c.1
    have hs := add_split (onN s r + 1) (onN s r) (2 ^ c.1) (Nat.lt_succ_self _)
    rw [hb] at ha
    rw [onI_snoc, ih, onN_snoc]
    unfold bI
    cases h1 : c.2.2.holds s <;> cases h2 : s.testBit c.1 <;> rw [h2] at ha <;> simp only [Bool.false_eq_true, if_false, if_true] at ha ⊢
    · omega
    · have := Nat.and_le_left (n := onN s r) (m := 2 ^ c.1)
      omega
    · omega
    · omega
theorem onN_lt {s m : Nat} {cs : List Chg} (hs : s < 2 ^ m) (hc : ∀ c ∈ cs, c.1 < m) : onN s cs < 2 ^ m := by
  rw [onN_due hs hc]
  exact bits_lt _ _
abbrev Mv := (Addr × Fm) × List Chg
structure GoodMv (m : Nat) (v : Mv) : Prop where
  lo : ∀ c ∈ v.2, c.1 < m
  nd : (v.2.map Prod.fst).Nodup
section
variable {P : Program} {w : World} {K : PySem.W.Frag} {mg : Str → Option Value} {base : Heap} {t : Ad} {n : Nat}
def macF (n s b v : Addr) : List (Str × V) := putF "moves" (.ref v) (putF "bads" (.ref b) (putF "starts" (.ref s) (putF "names" (.ref n) [])))
theorem lm_moves (n s b v : Addr) : (macF n s b v).lookup ("moves" : Str) = some (.ref v) := by
  unfold macF
  rw [lookup_putF, if_pos rfl]
theorem lm_no (n s b v : Addr) (f : Str) (h1 : ¬ f = "moves") (h2 : ¬ f = "bads") (h3 : ¬ f = "starts") (h4 : ¬ f = "names") : (macF n s b v).lookup f = none := by
  unfold macF
  rw [lookup_putF, if_neg h1, lookup_putF, if_neg h2, lookup_putF, if_neg h3, lookup_putF, if_neg h4]
  rfl
def MvP (t : Ad) (H : Hp) (x : Addr) (v : Mv) : Prop := MvAt t H 62 x v.1.1 v.1.2 v.2
structure MacAt (t : Ad) (H : Hp) (x dx n s b v : Addr) (xs : List V) (sp bp : List (Addr × Fm)) (ms : List Addr) (vs : List Mv) : Prop where
  ob : H x = some (.ins t.C_Machine dx (macF n s b v))
  en : H n = some (.tup xs)
  es : H s = some (.tup ((sp.map Prod.fst).map V.ref))
  eb : H b = some (.tup ((bp.map Prod.fst).map V.ref))
  ev : H v = some (.tup (ms.map V.ref))
  fs : Paired (FmAt t H 62) (sp.map Prod.fst) (sp.map Prod.snd)
  fb : Paired (FmAt t H 62) (bp.map Prod.fst) (bp.map Prod.snd)
  fv : Paired (MvP t H) ms vs
theorem MacAt.ext {H H' : Hp} {x dx n s b v : Addr} {xs : List V} {sp bp : List (Addr × Fm)} {ms : List Addr} {vs : List Mv} (e : Ext H H') (A : MacAt t H x dx n s b v xs sp bp ms vs) : MacAt t H' x dx n s b v xs sp bp ms vs :=
  ⟨e _ _ A.ob (fun _ z => nomatch z), e _ _ A.en (fun _ z => nomatch z), e _ _ A.es (fun _ z => nomatch z), e _ _ A.eb (fun _ z => nomatch z), e _ _ A.ev (fun _ z => nomatch z), paired_imp (fun _ _ q => q.mono e) A.fs, paired_imp (fun _ _ q => q.mono e) A.fb, paired_imp (fun _ _ q => MvAt.ext e q) A.fv⟩
def spInitMac (C : Addr) : Sp := fun vs H Q _ => ∃ (p dx ln ls lb lv : Addr) (xn xs xb xv : List V), vs = [.ref p, .ref ln, .ref ls, .ref lb, .ref lv] ∧ H p = some (.ins C dx []) ∧ H ln = some (.lst xn) ∧ H ls = some (.lst xs) ∧ H lb = some (.lst xb) ∧ H lv = some (.lst xv) ∧
  ∀ n s b v H', But p H H' → H' n = some (.tup xn) → H' s = some (.tup xs) → H' b = some (.tup xb) → H' v = some (.tup xv) → H' p = some (.ins C dx (macF n s b v)) → Q .non H'
theorem mac_step {H : Hp} {p tp : Addr} {o o' : HO} {ys : List V} (h : H p = some o) (n : H tp = none) : But p H (upd (upd H tp (.tup ys)) p o') ∧ (upd (upd H tp (.tup ys)) p o') p = some o' ∧ (upd (upd H tp (.tup ys)) p o') tp = some (.tup ys) := by
  have ne : tp ≠ p := fun e => by rw [e, h] at n; cases n
  exact ⟨fun b u hb e => by rw [upd_ne hb, upd_ne (ne_of_none e n)]; exact e, upd_same, by rw [upd_ne ne]; exact upd_same⟩
theorem ok_Machine (T : Txt K mg t) : MkS P w K mg base 2 "Machine" t.C_Machine ["self", "names", "starts", "bads", "moves"] (spInitMac t.C_Machine) := by
  refine ⟨T.m_Machine, _, _, T.k_Machine, T.F_Machine_init.ok sc_Machine_init (fun vs H Q E h => ?_) (fun cdv A outer s H vs Q E hr h => ?_), T.b_Machine_init⟩
  · obtain ⟨p, dx, ln, ls, lb, lv, xn, xs, xb, xv, rfl, _⟩ := h
    rfl
  obtain ⟨p, dx, ln, ls, lb, lv, xn, xs, xb, xv, rfl, hp, hn, hs, hb, hv, q⟩ := h
  have z1 := fun v : V => len_putF "names" v []
  have z2 := fun (v : V) fs => len_putF "starts" v fs
  have z3 := fun (v : V) fs => len_putF "bads" v fs
  have nn : ln ≠ p := fun e => by rw [e, hp] at hn; cases hn
  have ns : ls ≠ p := fun e => by rw [e, hp] at hs; cases hs
  have nb : lb ≠ p := fun e => by rw [e, hp] at hb; cases hb
  have nv : lv ≠ p := fun e => by rw [e, hp] at hv; cases hv
  refine ⟨_, (pss_cons (ps_fld (pv 0) (pe_callTy call_tupleG rfl T.B.tuple bt_tuple (pa_cons (pv 1) pa_nil)) rfl)
      (pss_cons (ps_fld (pv 0) (pe_callTy call_tupleG rfl T.B.tuple bt_tuple (pa_cons (pv 2) pa_nil)) rfl)
      (pss_cons (ps_fld (pv 0) (pe_callTy call_tupleG rfl T.B.tuple bt_tuple (pa_cons (pv 3) pa_nil)) rfl)
      (pss_one (ps_fld (pv 0) (pe_callTy call_tupleG rfl T.B.tuple bt_tuple (pa_cons (pv 4) pa_nil)) rfl))))), ?_⟩
  walk_at "rd0"
  refine i_tupL hn fun t1 n1 => ?_
  walk_at "rd"
  refine ⟨p, _, _, _, rfl, by rw [upd_ne (ne_of_none hp n1)]; exact hp, T.c_Machine, T.n_Machine_names, by decide, ?_⟩
  obtain ⟨b1, p1, e1⟩ := mac_step (o' := .ins t.C_Machine dx (putF "names" (.ref t1) [])) (ys := xn) hp n1
  generalize upd (upd H t1 (.tup xn)) p (.ins t.C_Machine dx (putF "names" (.ref t1) [])) = H1 at b1 p1 e1 ⊢
  walk_at "rd"
  refine i_tupL (b1 _ _ ns hs) fun t2 n2 => ?_
  walk_at "rd"
  refine ⟨p, _, _, _, rfl, by rw [upd_ne (ne_of_none p1 n2)]; exact p1, T.c_Machine, T.n_Machine_starts, by have := z1 (.ref t1); rw [List.length_nil] at this; omega, ?_⟩
  obtain ⟨b2, p2, e2⟩ := mac_step (o' := .ins t.C_Machine dx (putF "starts" (.ref t2) (putF "names" (.ref t1) []))) (ys := xs) p1 n2
  generalize upd (upd H1 t2 (.tup xs)) p (.ins t.C_Machine dx (putF "starts" (.ref t2) (putF "names" (.ref t1) []))) = H2 at b2 p2 e2 ⊢
  walk_at "rd"
  refine i_tupL (b2 _ _ nb (b1 _ _ nb hb)) fun t3 n3 => ?_
  walk_at "rd"
  refine ⟨p, _, _, _, rfl, by rw [upd_ne (ne_of_none p2 n3)]; exact p2, T.c_Machine, T.n_Machine_bads, by have := z1 (.ref t1); have := z2 (.ref t2) (putF "names" (.ref t1) []); rw [List.length_nil] at *; omega, ?_⟩
  obtain ⟨b3, p3, e3⟩ := mac_step (o' := .ins t.C_Machine dx (putF "bads" (.ref t3) (putF "starts" (.ref t2) (putF "names" (.ref t1) [])))) (ys := xb) p2 n3
  generalize upd (upd H2 t3 (.tup xb)) p (.ins t.C_Machine dx (putF "bads" (.ref t3) (putF "starts" (.ref t2) (putF "names" (.ref t1) [])))) = H3 at b3 p3 e3 ⊢
  walk_at "rd"
  refine i_tupL (b3 _ _ nv (b2 _ _ nv (b1 _ _ nv hv))) fun t4 n4 => ?_
  walk_at "rd"
  refine ⟨p, _, _, _, rfl, by rw [upd_ne (ne_of_none p3 n4)]; exact p3, T.c_Machine, T.n_Machine_moves, by have := z1 (.ref t1); have := z2 (.ref t2) (putF "names" (.ref t1) []); have := z3 (.ref t3) (putF "starts" (.ref t2) (putF "names" (.ref t1) [])); rw [List.length_nil] at *; omega, ?_⟩
  obtain ⟨b4, p4, e4⟩ := mac_step (o' := .ins t.C_Machine dx (macF t1 t2 t3 t4)) (ys := xv) p3 n4
  have n1p : t1 ≠ p := ne_of e1 p1 (fun z => nomatch z)
  have n2p : t2 ≠ p := ne_of e2 p2 (fun z => nomatch z)
  have n3p : t3 ≠ p := ne_of e3 p3 (fun z => nomatch z)
  exact q t1 t2 t3 t4 _ (But.trans (But.trans (But.trans b1 b2) b3) b4) (b4 _ _ n1p (b3 _ _ n1p (b2 _ _ n1p e1))) (b4 _ _ n2p (b3 _ _ n2p e2)) (b4 _ _ n3p e3) e4 p4
theorem i_machine {ln ls lb lv : Addr} {xn : List V} {sp bp : List (Addr × Fm)} {ms : List Addr} {vs : List Mv} {H : Hp} {Q : VK} (hn : H ln = some (.lst xn)) (hs : H ls = some (.lst ((sp.map Prod.fst).map V.ref))) (hb : H lb = some (.lst ((bp.map Prod.fst).map V.ref))) (hv : H lv = some (.lst (ms.map V.ref)))
    (fs : Paired (FmAt t H 62) (sp.map Prod.fst) (sp.map Prod.snd)) (fb : Paired (FmAt t H 62) (bp.map Prod.fst) (bp.map Prod.snd)) (fv : Paired (MvP t H) ms vs)
    (h : ∀ (x dx n s b v : Addr) (H' : Hp), Same H H' → H x = none → MacAt t H' x dx n s b v xn sp bp ms vs → Q (.ref x) H') :
    MkG t.C_Machine (spInitMac t.C_Machine) [.ref ln, .ref ls, .ref lb, .ref lv] H Q := by
  intro x dx hx hdx ne
  have s2 := same_new2 hx hdx (.ins t.C_Machine dx []) (.own x)
  refine ⟨x, dx, ln, ls, lb, lv, _, _, _, _, rfl, upd_same, s2 _ _ hn, s2 _ _ hs, s2 _ _ hb, s2 _ _ hv, fun n s b v H' s3 h1 h2 h3 h4 h5 => ⟨rfl, ?_⟩⟩
  have s4 : Same H H' := fun b o e => s3 b o (ne_of_none e hx) (s2 b o e)
  exact h x dx n s b v H' s4 hx ⟨h5, h1, h2, h3, h4, paired_imp (fun _ _ q => q.mono (Ext.of s4)) fs, paired_imp (fun _ _ q => q.mono (Ext.of s4)) fb, paired_imp (fun _ _ q => MvAt.ext (Ext.of s4) q) fv⟩
def isMac (t : Ad) (C : Addr) : Prop := C = t.C_Machine
end

def fitN (s o : Nat) (v : Mv) : Bool := v.1.2.holds s && decide (onN s v.2 = o)
def wV (s o : Nat) (mv : List Mv) : V := match mv.findIdx? (fitN s o) with
  | some k => .int (k : Int)
  | none => .non
theorem wV_some {s o i : Nat} {mv : List Mv} {v : Mv} (h : mv[i]? = some v) (f : fitN s o v = true) (b : ∀ j u, j < i → mv[j]? = some u → fitN s o u = false) : wV s o mv = .int (i : Int) := by
  have e : mv.findIdx? (fitN s o) = some i := by
    obtain ⟨hi, hv⟩ := List.getElem?_eq_some_iff.mp h
    rw [List.findIdx?_eq_some_iff_getElem]
    refine ⟨hi, by rw [hv]; exact f, fun j hj => ?_⟩
    have := b j mv[j] hj (List.getElem?_eq_getElem (by omega))
    rw [this]; exact Bool.false_ne_true
  unfold wV
  rw [e]
theorem wV_none {s o : Nat} {mv : List Mv} (b : ∀ j u, j < mv.length → mv[j]? = some u → fitN s o u = false) : wV s o mv = .non := by
  have e : mv.findIdx? (fitN s o) = none := by
    rw [List.findIdx?_eq_none_iff]
    intro x hx
    obtain ⟨j, hj, rfl⟩ := List.mem_iff_getElem.mp hx
    exact b j _ hj (List.getElem?_eq_getElem hj)
  unfold wV
  rw [e]
def stepW (mv : List Mv) (s : Nat) (p : Int) : Option Nat := if 0 ≤ p then (match mv[p.toNat]? with
  | some v => if v.1.2.holds s = true then some (onN s v.2) else none
  | none => none) else none
def runW (mv : List Mv) (s0 : Nat) (pk : List Int) : Option (List Nat) := pk.foldl (fun a p => a.bind fun l => (stepW mv (l.getLastD s0) p).map fun t => l ++ [t]) (some [s0])
theorem runW_snoc (mv : List Mv) (s0 : Nat) (pk : List Int) (p : Int) : runW mv s0 (pk ++ [p]) = (runW mv s0 pk).bind fun l => (stepW mv (l.getLastD s0) p).map fun t => l ++ [t] := by
  unfold runW
  rw [List.foldl_append]
  rfl
theorem fold_none (mv : List Mv) (s0 : Nat) : ∀ pk : List Int, pk.foldl (fun a p => a.bind fun l => (stepW mv (l.getLastD s0) p).map fun t => l ++ [t]) none = none
  | [] => rfl
  | _ :: r => fold_none mv s0 r
theorem runW_none (mv : List Mv) (s0 : Nat) (pk qk : List Int) (h : runW mv s0 pk = none) : runW mv s0 (pk ++ qk) = none := by
  unfold runW at h ⊢
  rw [List.foldl_append, h]
  exact fold_none mv s0 qk
theorem getLastD_snoc (l : List Nat) (y d : Nat) : (l ++ [y]).getLastD d = y := by
  rw [List.getLastD_eq_getLast?, List.getLast?_append]
  rfl
theorem stepW_at {mv : List Mv} {s k : Nat} {v : Mv} (h : mv[k]? = some v) : stepW mv s (k : Int) = if v.1.2.holds s = true then some (onN s v.2) else none := by
  unfold stepW
  rw [if_pos (by omega), Int.toNat_natCast, h]
theorem stepW_neg {mv : List Mv} {s : Nat} {p : Int} (h : p < 0) : stepW mv s p = none := by
  unfold stepW
  rw [if_neg (by omega)]
theorem stepW_off {mv : List Mv} {s : Nat} {p : Int} (h : (mv.length : Int) ≤ p) : stepW mv s p = none := by
  unfold stepW
  rw [if_pos (by omega), List.getElem?_eq_none (by omega)]
section
variable {P : Program} {w : World} {K : PySem.W.Frag} {mg : Str → Option Value} {base : Heap} {t : Ad} {n : Nat}
def spWhich (t : Ad) : Sp := fun vs H Q _ => ∃ (x dx n s b v : Addr) (xs : List V) (sp bp : List (Addr × Fm)) (ms : List Addr) (mv : List Mv) (k o m : Nat), vs = [.ref x, .int (k : Int), .int (o : Int)] ∧ MacAt t H x dx n s b v xs sp bp ms mv ∧ m ≤ 6 ∧ (∀ u ∈ mv, GoodMv m u) ∧ ∀ H', Same H H' → Q (wV k o mv) H'
theorem D_which_of (T : Txt K mg t) : ∀ C, isMac t C → MeS P w K mg base 64 C "which" ["self", "stand", "other"] (spAt (spWhich t) C) := by
  rintro C rfl
  refine ⟨T.c_Machine, _, _, T.F_Machine_which.ok sc_Machine_which (fun vs H Q E h => ?_) (fun cdv A outer s H vs Q E hr h => ?_), T.b_Machine_which, T.h_Machine_which⟩
  · obtain ⟨⟨x, dx, n, s, b, v, xs, sp, bp, ms, mv, k, o, m, rfl, _⟩, _⟩ := h
    rfl
  obtain ⟨⟨x, dx, n, s, b, v, xs, sp, bp, ms, mv, k, o, m, rfl, A, hm, g, q⟩, _⟩ := h
  have D_fits := D_fits_of (P := P) (w := w) (base := base) (n := 62) T
  have D_onward := D_onward_of (P := P) (w := w) (base := base) (n := 62) T
  refine ⟨_, (pss_cons (ps_for PassesOwn.never rfl (pi_enum rfl T.B.enumerate (pe_fld (pv 0) rfl)) (pg_tup rfl (pgs_cons (sg 3 sc_Machine_which.nd) (pgs_cons (sg 4 sc_Machine_which.nd) pgs_nil)))
      (pss_one (ps_if (PW.pt (pw_and (pt_truth (pe_dy D_fits hr (pv 4) (pa_cons (pv 1) pa_nil)) (fun _ => rfl)) (pw_and1 (pt_cmpR (op_eqA hr.units) (pe_dy D_onward hr (pv 4) (pa_cons (pv 1) pa_nil)) (pv 2) (nomark _)))))
      (pss_one (ps_ret (pv 3)))
      pss_nil)))
      (pss_one (ps_ret pe_non))), ?_⟩
  walk_at "rd0"
  refine ⟨x, _, _, _, _, rfl, A.ob, T.c_Machine, T.n_Machine_moves, lm_moves _ _ _ _, ?_⟩
  refine seqET (xs := ms.map V.ref) (fun i σ H' => Same H H' ∧ (∀ j u, j < i → mv[j]? = some u → fitN k o u = false) ∧ ∃ v3 v4, σ = [some (.ref x), some (.int (k : Int)), some (.int (o : Int)), v3, v4]) ⟨Same.refl _, fun j u h => absurd h (by omega), _, _, rfl⟩ (fun i σ H' _ hp => SqT.of (hp.1 _ _ A.ev)) ?_ ?_
  · rintro i y T' σ H0 H' hy ⟨s1, bf, v3, v4, rfl⟩ s2 n2 eT
    obtain ⟨p, rfl, hx'⟩ := get_ref hy
    obtain ⟨u, hgi, hu0⟩ := paired_get A.fv hx'
    have hu := MvAt.ext (Ext.of (s1.trans s2)) hu0
    have gu := g u (List.mem_of_getElem? hgi)
    obtain ⟨C, dx', fs', e', hC, hl⟩ := MvAt.ins hu "fits" (by decide +kernel) (by decide +kernel)
    obtain ⟨C2, dx2, fs2, e2, hC2, hl2⟩ := MvAt.ins hu "onward" (by decide +kernel) (by decide +kernel)
    have nxt : fitN k o u = false → ∀ j u', j < i + 1 → mv[j]? = some u' → fitN k o u' = false := fun hf j u' hj e => by
      by_cases z : j = i
      · subst z
        rw [hgi] at e
        cases e
        exact hf
      · exact bf j u' (by omega) e
    refine i_gN2 eT ?_
    walk_at "rd"
    refine ⟨p, C, dx', fs', rfl, e', hC, hl, ?_⟩
    walk_at "rd"
    refine ⟨e', p, u.1.1, k, u.1.2, u.2, rfl, hu, ?_⟩
    walk_at "rd"
    refine i_ifb (fun hb => ?_) (fun hb => ?_)
    · walk_at "rd"
      refine ⟨p, C2, dx2, fs2, rfl, e2, hC2, hl2, ?_⟩
      walk_at "rd"
      refine ⟨e2, p, u.1.1, k, u.1.2, u.2, rfl, hu, fun c h => by have := gu.lo c h; omega, ?_⟩
      walk_at "rd"
      refine i_ifd (fun h0 => ?_) (fun h0 => ?_)
      · walk_at "rd"
        have := wV_some (s := k) (o := o) hgi (by unfold fitN; rw [hb, Bool.true_and]; exact decide_eq_true (by omega)) bf
        rw [this] at q
        exact q H' (s1.trans s2)
      · walk_at "rd"
        exact ⟨s1.trans s2, nxt (by unfold fitN; rw [hb, Bool.true_and]; exact decide_eq_false (by omega)), _, _, rfl⟩
    · refine i_ifF rfl ?_
      walk_at "rd"
      exact ⟨s1.trans s2, nxt (by unfold fitN; rw [hb]; rfl), _, _, rfl⟩
  · rintro σ H' ⟨s1, bf, v3, v4, rfl⟩
    rw [List.length_map, paired_len A.fv] at bf
    rw [wV_none bf] at q
    walk_at "rd"
    exact q H' s1
def spWalked (t : Ad) : Sp := fun vs H Q E => ∃ (x dx n s b v : Addr) (xs : List V) (sp bp : List (Addr × Fm)) (ms : List Addr) (mv : List Mv) (k m : Nat) (lp : Addr) (pk : List Int), vs = [.ref x, .int (k : Int), .ref lp] ∧ MacAt t H x dx n s b v xs sp bp ms mv ∧ m ≤ 6 ∧ (∀ u ∈ mv, GoodMv m u) ∧ k < 2 ^ m ∧ H lp = some (.lst (pk.map V.int)) ∧ pk.length ≤ 100 ∧ (∀ p ∈ pk, p.natAbs < 2 ^ 200) ∧
  (runW mv k pk = none → ∀ H', Same H H' → E (.ref t.C_NoStep) none H') ∧ (∀ l, runW mv k pk = some l → ∀ a H', Same H H' → H a = none → H' a = some (.lst ((nums l).map V.int)) → Q (.ref a) H')
theorem D_walked_of (T : Txt K mg t) : ∀ C, isMac t C → MeS1 P w K mg base 64 C "walked" ["self", "stand", "picks"] (spAt (spWalked t) C) := by
  rintro C rfl
  refine ⟨T.c_Machine, _, _, T.F_Machine_walked.ok1 sc_Machine_walked (fun vs H Q E h => ?_) (fun cdv A outer s H vs Q E hr h => ?_), T.b_Machine_walked, T.h_Machine_walked⟩
  · obtain ⟨⟨x, dx, n, s, b, v, xs, sp, bp, ms, mv, k, m, lp, pk, rfl, _⟩, _⟩ := h
    rfl
  obtain ⟨⟨x, dx, n, s, b, v, xs, sp, bp, ms, mv, k, m, lp, pk, rfl, A, hm, g, hk, hl, hz, hpz, qE, qN⟩, _⟩ := h
  have D_fits := D_fits_of (P := P) (w := w) (base := base) (n := 62) T
  have D_onward := D_onward_of (P := P) (w := w) (base := base) (n := 62) T
  have hml := paired_len A.fv
  refine ⟨_, (pss_cons (PS.nox (ss 3 sc_Machine_walked.nd (pe_lst (pa_cons (pv 1) pa_nil))))
      (pss_cons (ps_for PassesOwn.leaving rfl (pi_seq (pv 2)) (sg 4 sc_Machine_walked.nd)
      (pss_cons (ps_if (PT.nox (PW.pt (pw_or (pt_cmpR op_lt (pv 4) pe_int (nomark _)) (pw_or1 (pt_cmpR op_ge (pv 4) (pe_callB call_lenG rfl T.B.len bt_len (pa_cons (pe_fld (pv 0) rfl) pa_nil)) (nomark _))))))
      (pss_one (ps_raise rfl lets1 T.q_NoStep.own rfl T.m_NoStep (PA.nox (pa_cons (pe_joined (pj_cons pe_str (pj_cons (pe_fmtI (pv 4)) pj_nil))) pa_nil))))
      (PSs.nox pss_nil))
      (pss_cons (PS.nox (ss 5 sc_Machine_walked.nd (pe_ix ix_seq (pe_fld (pv 0) rfl) (pv 4) (fun _ _ => rfl))))
      (pss_cons (ps_if (PT.nox (pt_not (pt_truth (pe_dy D_fits hr (pv 5) (pa_cons (pe_ix ix_seq (pv 3) (pe_un un_neg pe_int) (fun _ _ => rfl)) pa_nil)) (fun _ => rfl))))
      (pss_one (ps_raise rfl lets1 T.q_NoStep.own rfl T.m_NoStep (PA.nox (pa_cons (pe_joined (pj_cons pe_str (pj_cons (pe_fmtI (pv 4)) (pj_cons pe_str pj_nil)))) pa_nil))))
      (PSs.nox pss_nil))
      (PSs.nox (pss_one (ps_expr (pe_bm PySem.F.plainAttrs_list PySem.F.slot_list_append PySem.F.type_list_append mt_append (pv 3) (pa_cons (pe_dy D_onward hr (pv 5) (pa_cons (pe_ix ix_seq (pv 3) (pe_un un_neg pe_int) (fun _ _ => rfl)) pa_nil)) pa_nil)))))))))
      (PSs.nox (pss_one (ps_ret (pv 3)))))), ?_⟩
  walk_at "rd0"
  refine j_lst (by simp) fun pa H1 s1 n1 e1 => ?_
  walk_at "rd"
  refine seqL (xs := pk.map V.int) (fun i σ H' => ∃ l0 y v4 v5, σ = [some (.ref x), some (.int (k : Int)), some (.ref lp), some (.ref pa), v4, v5] ∧ Same H H' ∧ H' pa = some (.lst ((nums (l0 ++ [y])).map V.int)) ∧ runW mv k (pk.take i) = some (l0 ++ [y]) ∧ y < 2 ^ m ∧ l0.length = i)
    ⟨[], k, _, _, rfl, s1, e1, rfl, hk, rfl⟩ (fun i σ H' _ hp => by obtain ⟨l0, y, v4, v5, _, s, _⟩ := hp; exact SqL.of (s _ _ hl)) ?_ ?_
  · rintro i z σ H2 hz' ⟨l0, y, v4, v5, rfl, s2, e2, hr2, hy, hl0⟩
    obtain ⟨p, rfl, hpi⟩ := get_int hz'
    have hil := (List.getElem?_eq_some_iff.mp hpi).1
    have hp200 := hpz p (List.mem_of_getElem? hpi)
    have A2 := A.ext (Ext.of s2)
    have ev := A2.ev
    have nx : runW mv k (pk.take (i + 1)) = (stepW mv y p).map fun t => l0 ++ [y] ++ [t] := by
      rw [take_snoc hpi, runW_snoc, hr2]
      show (stepW mv ((l0 ++ [y]).getLastD k) p).map _ = _
      rw [getLastD_snoc]
    have bad : stepW mv y p = none → runW mv k pk = none := fun h => by
      rw [h] at nx
      have := runW_none mv k _ (pk.drop (i + 1)) nx
      rwa [List.take_append_drop] at this
    have z1 := int_len (log_small hp200)
    have hm1 : (Str.empty ++ Str.ofString "there is no move " ++ Str.ofString (toString p)).length ≤ sizeLine := by
      have z2 : (Str.empty ++ Str.ofString "there is no move ").length ≤ 1000 := by decide
      rw [len_append]
      exact small (by omega)
    have hm2 : (Str.empty ++ Str.ofString "move " ++ Str.ofString (toString p)).length ≤ 3000 := by
      have z2 : (Str.empty ++ Str.ofString "move ").length ≤ 1000 := by decide
      rw [len_append]
      omega
    have hm3 : (Str.empty ++ Str.ofString "move " ++ Str.ofString (toString p) ++ Str.ofString " does not fit there").length ≤ sizeLine := by
      have z2 : (Str.ofString " does not fit there").length ≤ 1000 := by decide
      rw [len_append]
      exact small (by omega)
    rw [nums_snoc] at e2
    have hll : ((nums l0).map V.int ++ [V.int (y : Int)]).length ≤ 200 := by rw [List.length_append, len_nums]; simp; omega
    walk_at "rd"
    refine i_ifd (fun h => ?_) (fun h => ?_)
    · refine i_ifT rfl ?_
      walk_at "rd"
      refine ⟨_, rfl, small (by decide), ?_⟩
      walk_at "rd"
      refine ⟨log_small hp200, ?_⟩
      refine ⟨_, rfl, hm1, hm1, ?_⟩
      exact ⟨by simp, qE (bad (stepW_neg h)) H2 s2⟩
    walk_at "rd"
    refine ⟨x, _, _, _, _, rfl, A2.ob, T.c_Machine, T.n_Machine_moves, lm_moves _ _ _ _, ?_⟩
    walk_at "rd"
    rw [List.length_map]
    refine i_ifd (fun h' => ?_) (fun h' => ?_)
    · walk_at "rd"
      refine ⟨_, rfl, small (by decide), ?_⟩
      walk_at "rd"
      refine ⟨log_small hp200, ?_⟩
      refine ⟨_, rfl, hm1, hm1, ?_⟩
      exact ⟨by simp, qE (bad (stepW_off (by omega))) H2 s2⟩
    obtain ⟨j, rfl⟩ := nat_of (show 0 ≤ p by omega)
    have hjm : j < ms.length := by omega
    obtain ⟨u, hgi, hu⟩ := paired_get A2.fv (List.getElem?_eq_getElem hjm)
    have gu := g u (List.mem_of_getElem? hgi)
    have hst := stepW_at (s := y) hgi
    obtain ⟨C, dx', fs', e', hC, hlk⟩ := MvAt.ins hu "fits" (by decide +kernel) (by decide +kernel)
    walk_at "rd"
    refine ⟨x, _, _, _, _, rfl, A2.ob, T.c_Machine, T.n_Machine_moves, lm_moves _ _ _ _, ?_⟩
    walk_at "rd"
    refine i_ixT A2.ev (v := .ref ms[j]) (atI_nat (by rw [List.getElem?_map, List.getElem?_eq_getElem hjm]; rfl)) ?_
    walk_at "rd"
    refine ⟨ms[j], C, dx', fs', rfl, e', hC, hlk, ?_⟩
    walk_at "rd"
    refine i_ixLi e2 (atI_last _ _) ?_
    walk_at "rd"
    refine ⟨e', ms[j], u.1.1, y, u.1.2, u.2, rfl, hu, ?_⟩
    walk_at "rd"
    cases hb : u.1.2.holds y with
    | false =>
      refine i_ifT rfl ?_
      walk_at "rd"
      refine ⟨_, rfl, small (by decide), ?_⟩
      walk_at "rd"
      refine ⟨log_small hp200, ?_⟩
      refine ⟨_, rfl, small (by omega), ?_⟩
      walk_at "rd"
      refine ⟨_, rfl, hm3, hm3, ?_⟩
      exact ⟨by simp, qE (bad (by rw [hst, hb]; rfl)) H2 s2⟩
    | true =>
      refine i_ifF rfl ?_
      obtain ⟨C2, dx2, fs2, e3, hC2, hl2⟩ := MvAt.ins hu "onward" (by decide +kernel) (by decide +kernel)
      walk_at "rd"
      refine ⟨tyL e2, ?_⟩
      walk_at "rd"
      refine ⟨ms[j], C2, dx2, fs2, rfl, e3, hC2, hl2, ?_⟩
      walk_at "rd"
      refine i_ixLi e2 (atI_last _ _) ?_
      walk_at "rd"
      refine ⟨e3, ms[j], u.1.1, y, u.1.2, u.2, rfl, hu, fun c h => by have := gu.lo c h; omega, ?_⟩
      walk_at "rd"
      refine j_append e2 (by omega) fun H3 b3 e4 => ?_
      walk_at "rd"
      refine ⟨l0 ++ [y], onN y u.2, _, _, rfl, b3.same n1 s2, ?_, ?_, onN_lt hy gu.lo, by rw [List.length_append, hl0]; rfl⟩
      · rw [e4, nums_snoc, nums_snoc]
      · rw [nx, hst, hb, if_pos rfl]
        rfl
  · rintro σ H2 ⟨l0, y, v4, v5, rfl, s2, e2, hr2, hy, hl0⟩
    rw [List.length_map, List.take_length] at hr2
    walk_at "rd"
    exact qN _ hr2 pa H2 s2 n1 e2
end


end LW

set_option maxRecDepth 100000
set_option maxHeartbeats 4000000
open PySem L2

namespace LW
open PySem L2 EM
def OffX (X : Addr → Prop) (H H' : Hp) : Prop := Ext H H' ∧ ∀ b xs, ¬ X b → H b = some (.lst xs) → H' b = some (.lst xs)
theorem OffX.of {X : Addr → Prop} {H H' : Hp} (s : Same H H') : OffX X H H' := ⟨Ext.of s, fun b xs _ e => s _ _ e⟩
theorem OffX.trans {X : Addr → Prop} {H H1 H2 : Hp} (a : OffX X H H1) (b : OffX X H1 H2) : OffX X H H2 := ⟨a.1.trans b.1, fun c xs n e => b.2 c xs n (a.2 c xs n e)⟩
theorem OffX.but {X : Addr → Prop} {H H' : Hp} {l : Addr} {xs : List V} (x : X l) (e : H l = some (.lst xs)) (b : But l H H') : OffX X H H' := ⟨b.ext e, fun c ys n q => b c _ (fun z => n (z ▸ x)) q⟩

abbrev Rc := Nat × Nat × Nat
def recF (r : Rc) : Fm := if r.1 = 0 then .lamp r.2.1 else if r.1 = 1 then .neg (.lamp r.2.1) else if r.1 = 2 then .join .a [.lamp r.2.1, .neg (.lamp r.2.2)] else if r.1 = 3 then .join .o [.lamp r.2.1, .lamp r.2.2] else if r.1 = 4 then .join .e [.lamp r.2.1, .lamp r.2.2] else if r.1 = 5 then .sure true else .neg (.join .a [.lamp r.2.1, .lamp r.2.2])
structure RcAt (m : Nat) (H : Hp) (q : Addr) (r : Rc) : Prop where
  at_ : H q = some (.tup [.int (r.1 : Int), .int (r.2.1 : Int), .int (r.2.2 : Int)])
  k6 : r.1 ≤ 6
  l1 : r.2.1 < m
  l2 : r.2.2 < m
theorem RcAt.ext {m : Nat} {H H' : Hp} {q : Addr} {r : Rc} (s : Ext H H') (a : RcAt m H q r) : RcAt m H' q r := ⟨s _ _ a.at_ (fun _ z => nomatch z), a.k6, a.l1, a.l2⟩
theorem holds_two (w : W3) (f g : Fm) (s : Nat) : (Fm.join w [f, g]).holds s = b2 w (f.holds s) (g.holds s) := by
  rw [holds_join]
  cases w <;> simp [comb, b2]
theorem pick2 {m a x : Int} (hm : m = 2 ∨ m = 3 ∨ m = 4 ∨ m = 5 ∨ m = 6) (h1 : 0 ≤ a) (h2 : a < m) (h3 : 0 ≤ x) (h4 : x < m - 1) : (a + 1 + x) % m ≠ a := by
  rcases hm with rfl | rfl | rfl | rfl | rfl <;> omega
def dat (c : Chg) : Nat × Fm := (c.1, c.2.2)
def dv (v : Mv) : Fm × List (Nat × Fm) := (v.1.2, v.2.map dat)
def onD (s : Nat) (ds : List (Nat × Fm)) : Nat := ds.foldl (fun f d => if d.2.holds s then f ||| 2 ^ d.1 else f - (f &&& 2 ^ d.1)) s
theorem onN_dat (s : Nat) (cs : List Chg) : onN s cs = onD s (cs.map dat) := by
  unfold onN onD
  rw [List.foldl_map]
  rfl
theorem fitN_dv (s o : Nat) : fitN s o = (fun d : Fm × List (Nat × Fm) => d.1.holds s && decide (onD s d.2 = o)) ∘ dv := by
  funext v
  show (v.1.2.holds s && decide (onN s v.2 = o)) = _
  rw [onN_dat]
  rfl
theorem wV_dv {mv mv0 : List Mv} (h : mv.map dv = mv0.map dv) (s o : Nat) : wV s o mv = wV s o mv0 := by
  unfold wV
  rw [fitN_dv, ← List.findIdx?_map, ← List.findIdx?_map, h]
theorem stepW_dv {mv mv0 : List Mv} (h : mv.map dv = mv0.map dv) (s : Nat) (p : Int) : stepW mv s p = stepW mv0 s p := by
  have key : ∀ l : List Mv, stepW l s p = if 0 ≤ p then (match (l.map dv)[p.toNat]? with
    | some d => if d.1.holds s = true then some (onD s d.2) else none
    | none => none) else none := fun l => by
    unfold stepW
    rw [List.getElem?_map]
    cases l[p.toNat]? with
    | none => rfl
    | some v =>
      show (if 0 ≤ p then (if v.1.2.holds s = true then some (onN s v.2) else none) else none) = (if 0 ≤ p then (if v.1.2.holds s = true then some (onD s (v.2.map dat)) else none) else none)
      rw [onN_dat]
  rw [key, key, h]
theorem runW_dv {mv mv0 : List Mv} (h : mv.map dv = mv0.map dv) (s : Nat) (pk : List Int) : runW mv s pk = runW mv0 s pk := by
  have e : (fun (a : Option (List Nat)) (p : Int) => a.bind fun l => (stepW mv (l.getLastD s) p).map fun t => l ++ [t]) = (fun a p => a.bind fun l => (stepW mv0 (l.getLastD s) p).map fun t => l ++ [t]) := by
    funext a p
    congr 1
    funext l
    rw [stepW_dv h]
  unfold runW
  rw [e]
theorem good_dv {m : Nat} {v v0 : Mv} (h : dv v = dv v0) (g : GoodMv m v0) : GoodMv m v := by
  have e : v.2.map dat = v0.2.map dat := (Prod.mk.inj h).2
  have f : v.2.map Prod.fst = v0.2.map Prod.fst := by
    have := congrArg (List.map Prod.fst) e
    rw [List.map_map, List.map_map] at this
    exact this
  refine ⟨fun c hc => ?_, by rw [f]; exact g.nd⟩
  have : c.1 ∈ v0.2.map Prod.fst := by rw [← f]; exact List.mem_map_of_mem hc
  obtain ⟨c', hc', e'⟩ := List.mem_map.mp this
  rw [← e']
  exact g.lo c' hc'
theorem good_all {m : Nat} {mv mv0 : List Mv} (h : mv.map dv = mv0.map dv) (g : ∀ u ∈ mv0, GoodMv m u) : ∀ u ∈ mv, GoodMv m u := fun u hu => by
  have : dv u ∈ mv0.map dv := by rw [← h]; exact List.mem_map_of_mem hu
  obtain ⟨v0, h0, e⟩ := List.mem_map.mp this
  exact good_dv e.symm (g v0 h0)
section
variable {P : Program} {w : World} {K : PySem.W.Frag} {mg : Str → Option Value} {base : Heap} {t : Ad} {n : Nat}
def spLit : Sp := fun vs H Q _ => ∃ (s k : Nat), vs = [.int (s : Int), .int (k : Int)] ∧ k ≤ 6 ∧ Q (.bl (s.testBit k)) H
theorem one_bit (b : Bool) : decide ((if b = true then (1 : Int) else 0) = 1) = b := by cases b <;> rfl
theorem ok_lit (T : Txt K mg t) : FnS P w K mg base 1 "_law_lit" ["_law_stand", "_law_lamp"] (spLit) := by
  refine ⟨_, _, T.F__law_lit.ok sc__law_lit (fun vs H Q E h => ?_) (fun cdv A outer s H vs Q E hr h => ?_), T.b__law_lit, T.F__law_lit.kp, T.m__law_lit⟩
  · obtain ⟨s0, k, rfl, hk, q⟩ := h
    rfl
  obtain ⟨s0, k, rfl, hk, q⟩ := h
  have hpk : 0 < 2 ^ k := Nat.two_pow_pos k
  have hpk6 := pow_small hk
  refine ⟨_, (pss_one (ps_ret (pe_cmpR (op_eqA hr.units) (pe_op op_mod (pe_op op_fdivG (pv 0) (pe_op op_shl pe_int (pv 1))) pe_int) pe_int (nomark _)))), ?_⟩
  walk_at "rd0"
  rw [shl_nat]
  refine i_rI ⟨by omega, by omega⟩ ?_
  walk_at "rd"
  rw [div_lit, one_bit]
  exact q
def spRecipe : Sp := fun vs H Q _ => ∃ (c : Int) (m : Nat), vs = [.int c, .int (m : Int)] ∧ 1 ≤ m ∧ m ≤ 6 ∧ ∀ q r H', Same H H' → H q = none → RcAt m H' q r → Q (.ref q) H'
theorem mod_len (a : Int) {n : Nat} (h : 0 < n) : ∃ i : Nat, a % (n : Int) = (i : Int) ∧ i < n := by
  have x := Int.emod_nonneg a (show (n : Int) ≠ 0 by omega)
  have y := Int.emod_lt_of_pos a (show (0 : Int) < (n : Int) by omega)
  exact ⟨(a % (n : Int)).toNat, by omega, by omega⟩
theorem ok_recipe (T : Txt K mg t) : FnS P w K mg base 1 "_law_recipe" ["_law_cell", "_law_many"] (spRecipe) := by
  refine ⟨_, _, T.F__law_recipe.ok sc__law_recipe (fun vs H Q E h => ?_) (fun cdv A outer s H vs Q E hr h => ?_), T.b__law_recipe, T.F__law_recipe.kp, T.m__law_recipe⟩
  · obtain ⟨c, m, rfl, h1, hm, q⟩ := h
    rfl
  obtain ⟨c, m, rfl, h1, hm, q⟩ := h
  obtain ⟨k0, e0, h0⟩ : ∃ k : Nat, c % 7 = (k : Int) ∧ k ≤ 6 := ⟨(c % 7).toNat, by omega, by omega⟩
  obtain ⟨k1, e1, l1⟩ := mod_len (c / 7) (show 0 < m by omega)
  obtain ⟨k2, e2, l2⟩ := mod_len (c / 7 % (m : Int) + 1 + c / 42) (show 0 < m by omega)
  refine ⟨_, (pss_one (ps_ret (pe_tup (pa_cons (pe_op op_mod (pv 0) pe_int) (pa_cons (pe_op op_mod (pe_op op_fdivG (pv 0) pe_int) (pv 1)) (pa_cons (pe_op op_mod (pe_op op_addG (pe_op op_addG (pe_op op_mod (pe_op op_fdivG (pv 0) pe_int) (pv 1)) pe_int) (pe_op op_fdivG (pv 0) pe_int)) (pv 1)) pa_nil)))))), ?_⟩
  walk_at "rd0"
  rw [e2, e0, e1]
  exact j_tup (by simp) fun p H1 s1 n1 f1 => q p (k0, k1, k2) H1 s1 n1 ⟨f1, h0, l1, l2⟩
def spMade (t : Ad) : Sp := fun vs H Q _ => ∃ (m : Nat) (q : Addr) (r : Rc), vs = [.ref q] ∧ RcAt m H q r ∧ ∀ p H', Same H H' → FmAt t H' 62 p (recF r) → Q (.ref p) H'
theorem ok_made (T : Txt K mg t) : FnS P w K mg base 3 "_law_made" ["_law_recipe_here"] (spMade t) := by
  refine ⟨_, _, T.F__law_made.ok sc__law_made (fun vs H Q E h => ?_) (fun cdv A outer s H vs Q E hr h => ?_), T.b__law_made, T.F__law_made.kp, T.m__law_made⟩
  · obtain ⟨m, q0, r, rfl, R, q⟩ := h
    rfl
  obtain ⟨m, q0, r, rfl, R, q⟩ := h
  have M_Lamp := ok_Lamp (P := P) (w := w) (base := base) T
  have M_Sure := ok_Sure (P := P) (w := w) (base := base) T
  have M_Not := ok_Not (P := P) (w := w) (base := base) T
  have M_And := ok_And (P := P) (w := w) (base := base) T
  have M_Or := ok_Or (P := P) (w := w) (base := base) T
  have M_Either := ok_Either (P := P) (w := w) (base := base) T
  obtain ⟨k, i, j⟩ := r
  have e0 := R.at_
  refine ⟨_, (pss_cons (ss 1 sc__law_made.nd (pe_mk M_Lamp hr (pa_cons (pe_ix ix_seq (pv 0) pe_int (fun _ _ => rfl)) pa_nil)))
      (pss_cons (ss 2 sc__law_made.nd (pe_mk M_Lamp hr (pa_cons (pe_ix ix_seq (pv 0) pe_int (fun _ _ => rfl)) pa_nil)))
      (pss_cons (ps_if (pt_cmpR (op_eqA hr.units) (pe_ix ix_seq (pv 0) pe_int (fun _ _ => rfl)) pe_int (nomark _))
      (pss_one (ps_ret (pv 1)))
      pss_nil)
      (pss_cons (ps_if (pt_cmpR (op_eqA hr.units) (pe_ix ix_seq (pv 0) pe_int (fun _ _ => rfl)) pe_int (nomark _))
      (pss_one (ps_ret (pe_mk M_Not hr (pa_cons (pv 1) pa_nil))))
      pss_nil)
      (pss_cons (ps_if (pt_cmpR (op_eqA hr.units) (pe_ix ix_seq (pv 0) pe_int (fun _ _ => rfl)) pe_int (nomark _))
      (pss_one (ps_ret (pe_mk M_And hr (pa_cons (pe_lst (pa_cons (pv 1) (pa_cons (pe_mk M_Not hr (pa_cons (pv 2) pa_nil)) pa_nil))) pa_nil))))
      pss_nil)
      (pss_cons (ps_if (pt_cmpR (op_eqA hr.units) (pe_ix ix_seq (pv 0) pe_int (fun _ _ => rfl)) pe_int (nomark _))
      (pss_one (ps_ret (pe_mk M_Or hr (pa_cons (pe_lst (pa_cons (pv 1) (pa_cons (pv 2) pa_nil))) pa_nil))))
      pss_nil)
      (pss_cons (ps_if (pt_cmpR (op_eqA hr.units) (pe_ix ix_seq (pv 0) pe_int (fun _ _ => rfl)) pe_int (nomark _))
      (pss_one (ps_ret (pe_mk M_Either hr (pa_cons (pe_lst (pa_cons (pv 1) (pa_cons (pv 2) pa_nil))) pa_nil))))
      pss_nil)
      (pss_cons (ps_if (pt_cmpR (op_eqA hr.units) (pe_ix ix_seq (pv 0) pe_int (fun _ _ => rfl)) pe_int (nomark _))
      (pss_one (ps_ret (pe_mk M_Sure hr (pa_cons pe_bl pa_nil))))
      pss_nil)
      (pss_one (ps_ret (pe_mk M_Not hr (pa_cons (pe_mk M_And hr (pa_cons (pe_lst (pa_cons (pv 1) (pa_cons (pv 2) pa_nil))) pa_nil)) pa_nil)))))))))))), ?_⟩
  walk_at "rd0"
  refine i_ixT e0 (v := .int (i : Int)) rfl ?_
  walk_at "rd"
  refine i_init1 fun x dx H1 s1 nx ex => ?_
  walk_at "rd"
  refine i_ixT (s1 _ _ e0) (v := .int (j : Int)) rfl ?_
  walk_at "rd"
  refine i_init1 fun y dy H2 s2 ny ey => ?_
  have s12 : Same H H2 := s1.trans s2
  have e2 := s12 _ _ e0
  have ex2 := s2 _ _ ex
  have fx : ∀ {H' : Hp}, Same H2 H' → FmAt t H' 2 x (.lamp i) := fun s => ⟨dx, s _ _ ex2⟩
  have fy : ∀ {H' : Hp}, Same H2 H' → FmAt t H' 2 y (.lamp j) := fun s => ⟨dy, s _ _ ey⟩
  walk_at "rd"
  refine i_ixT e2 (v := .int (k : Int)) rfl ?_
  walk_at "rd"
  refine i_ifd (fun h => ?_) (fun h => ?_)
  · walk_at "rd"
    exact q x H2 s12 (FmAt.le (n := 2) (by decide) (by unfold recF; rw [if_pos (show k = 0 by omega)]; exact fx (Same.refl _)))
  walk_at "rd"
  refine i_ixT e2 (v := .int (k : Int)) rfl ?_
  walk_at "rd"
  refine i_ifd (fun h' => ?_) (fun h' => ?_)
  · walk_at "rd"
    refine i_init1 fun z dz H3 s3 nz ez => ?_
    refine q z H3 (s12.trans s3) (FmAt.le (n := 3) (by decide) ?_)
    unfold recF
    rw [if_neg (show ¬ k = 0 by omega), if_pos (show k = 1 by omega)]
    exact ⟨dz, x, ez, fx s3⟩
  walk_at "rd"
  refine i_ixT e2 (v := .int (k : Int)) rfl ?_
  walk_at "rd"
  refine i_ifd (fun h2 => ?_) (fun h2 => ?_)
  · walk_at "rd"
    refine i_init1 fun z dz H3 s3 nz ez => ?_
    walk_at "rd"
    refine j_lst (by simp) fun l H4 s4 nl el => ?_
    refine i_initJ el fun u du tp H5 s5 nu eu et => ?_
    refine q u H5 (s12.trans (s3.trans (s4.trans s5))) (FmAt.le (n := 4) (by decide) ?_)
    unfold recF
    rw [if_neg (show ¬ k = 0 by omega), if_neg (show ¬ k = 1 by omega), if_pos (show k = 2 by omega)]
    exact ⟨du, tp, [x, z], eu, et, .cons (FmAt.le (by decide) (fx (s3.trans (s4.trans s5)))) (.cons ⟨dz, y, s5 _ _ (s4 _ _ ez), fy (s3.trans (s4.trans s5))⟩ .nil)⟩
  walk_at "rd"
  refine i_ixT e2 (v := .int (k : Int)) rfl ?_
  walk_at "rd"
  refine i_ifd (fun h3 => ?_) (fun h3 => ?_)
  · walk_at "rd"
    refine j_lst (by simp) fun l H4 s4 nl el => ?_
    refine i_initJ el fun u du tp H5 s5 nu eu et => ?_
    refine q u H5 (s12.trans (s4.trans s5)) (FmAt.le (n := 3) (by decide) ?_)
    unfold recF
    rw [if_neg (show ¬ k = 0 by omega), if_neg (show ¬ k = 1 by omega), if_neg (show ¬ k = 2 by omega), if_pos (show k = 3 by omega)]
    exact ⟨du, tp, [x, y], eu, et, .cons (fx (s4.trans s5)) (.cons (fy (s4.trans s5)) .nil)⟩
  walk_at "rd"
  refine i_ixT e2 (v := .int (k : Int)) rfl ?_
  walk_at "rd"
  refine i_ifd (fun h4 => ?_) (fun h4 => ?_)
  · walk_at "rd"
    refine j_lst (by simp) fun l H4 s4 nl el => ?_
    refine i_initJ el fun u du tp H5 s5 nu eu et => ?_
    refine q u H5 (s12.trans (s4.trans s5)) (FmAt.le (n := 3) (by decide) ?_)
    unfold recF
    rw [if_neg (show ¬ k = 0 by omega), if_neg (show ¬ k = 1 by omega), if_neg (show ¬ k = 2 by omega), if_neg (show ¬ k = 3 by omega), if_pos (show k = 4 by omega)]
    exact ⟨du, tp, [x, y], eu, et, .cons (fx (s4.trans s5)) (.cons (fy (s4.trans s5)) .nil)⟩
  walk_at "rd"
  refine i_ixT e2 (v := .int (k : Int)) rfl ?_
  walk_at "rd"
  refine i_ifd (fun h5 => ?_) (fun h5 => ?_)
  · walk_at "rd"
    refine i_init1 fun z dz H3 s3 nz ez => ?_
    refine q z H3 (s12.trans s3) (FmAt.le (n := 1) (by decide) ?_)
    unfold recF
    rw [if_neg (show ¬ k = 0 by omega), if_neg (show ¬ k = 1 by omega), if_neg (show ¬ k = 2 by omega), if_neg (show ¬ k = 3 by omega), if_neg (show ¬ k = 4 by omega), if_pos (show k = 5 by omega)]
    exact ⟨dz, ez⟩
  · walk_at "rd"
    refine j_lst (by simp) fun l H4 s4 nl el => ?_
    walk_at "rd"
    refine i_initJ el fun u du tp H5 s5 nu eu et => ?_
    walk_at "rd"
    refine i_init1 fun z dz H6 s6 nz ez => ?_
    refine q z H6 (s12.trans (s4.trans (s5.trans s6))) (FmAt.le (n := 4) (by decide) ?_)
    unfold recF
    rw [if_neg (show ¬ k = 0 by omega), if_neg (show ¬ k = 1 by omega), if_neg (show ¬ k = 2 by omega), if_neg (show ¬ k = 3 by omega), if_neg (show ¬ k = 4 by omega), if_neg (show ¬ k = 5 by omega)]
    exact ⟨dz, u, ez, du, tp, [x, y], s6 _ _ eu, s6 _ _ et, .cons (fx (s4.trans (s5.trans s6))) (.cons (fy (s4.trans (s5.trans s6))) .nil)⟩
def spDue : Sp := fun vs H Q _ => ∃ (m : Nat) (q : Addr) (r : Rc) (s : Nat), vs = [.ref q, .int (s : Int)] ∧ m ≤ 6 ∧ RcAt m H q r ∧ Q (.bl ((recF r).holds s)) H
theorem ok_due (T : Txt K mg t) : FnS P w K mg base 2 "_law_due" ["_law_recipe_here", "_law_stand"] (spDue) := by
  refine ⟨_, _, T.F__law_due.ok sc__law_due (fun vs H Q E h => ?_) (fun cdv A outer s H vs Q E hr h => ?_), T.b__law_due, T.F__law_due.kp, T.m__law_due⟩
  · obtain ⟨m, q0, r, s0, rfl, hm, R, q⟩ := h
    rfl
  obtain ⟨m, q0, r, s0, rfl, hm, R, q⟩ := h
  have G__law_lit := ok_lit (P := P) (w := w) (base := base) T
  obtain ⟨k, i, j⟩ := r
  have e0 := R.at_
  have hi : i < m := R.l1
  have hj : j < m := R.l2
  refine ⟨_, (pss_cons (ss 2 sc__law_due.nd (pe_fn G__law_lit hr (pa_cons (pv 1) (pa_cons (pe_ix ix_seq (pv 0) pe_int (fun _ _ => rfl)) pa_nil))))
      (pss_cons (ss 3 sc__law_due.nd (pe_fn G__law_lit hr (pa_cons (pv 1) (pa_cons (pe_ix ix_seq (pv 0) pe_int (fun _ _ => rfl)) pa_nil))))
      (pss_cons (ps_if (pt_cmpR op_lt (pe_ix ix_seq (pv 0) pe_int (fun _ _ => rfl)) pe_int (nomark _))
      (pss_one (ps_ret (pe_cmpR (op_eqA hr.units) (pv 2) (pe_cmpR (op_eqA hr.units) (pe_ix ix_seq (pv 0) pe_int (fun _ _ => rfl)) pe_int (nomark _)) (nomark _))))
      pss_nil)
      (pss_cons (ps_if (pt_cmpR (op_eqA hr.units) (pe_ix ix_seq (pv 0) pe_int (fun _ _ => rfl)) pe_int (nomark _))
      (pss_one (ps_ret (pe_and (pv 2) (pe_one (pe_notG (pv 3))))))
      pss_nil)
      (pss_cons (ps_if (pt_cmpR (op_eqA hr.units) (pe_ix ix_seq (pv 0) pe_int (fun _ _ => rfl)) pe_int (nomark _))
      (pss_one (ps_ret (pe_or (pv 2) (pe_one (pv 3)))))
      pss_nil)
      (pss_cons (ps_if (pt_cmpR (op_eqA hr.units) (pe_ix ix_seq (pv 0) pe_int (fun _ _ => rfl)) pe_int (nomark _))
      (pss_one (ps_ret (pe_cmpR (op_neA hr.units) (pv 2) (pv 3) (nomark _))))
      pss_nil)
      (pss_one (ps_ret (pe_or (pe_cmpR (op_eqA hr.units) (pe_ix ix_seq (pv 0) pe_int (fun _ _ => rfl)) pe_int (nomark _)) (pe_one (pe_notG (pe_and (pv 2) (pe_one (pv 3)))))))))))))), ?_⟩
  walk_at "rd0"
  refine i_ixT e0 (v := .int (i : Int)) rfl ?_
  walk_at "rd"
  refine ⟨s0, i, rfl, by omega, ?_⟩
  walk_at "rd"
  refine i_ixT e0 (v := .int (j : Int)) rfl ?_
  walk_at "rd"
  refine ⟨s0, j, rfl, by omega, ?_⟩
  walk_at "rd"
  refine i_ixT e0 (v := .int (k : Int)) rfl ?_
  walk_at "rd"
  refine i_ifd (fun h => ?_) (fun h => ?_)
  · walk_at "rd"
    refine i_ixT e0 (v := .int (k : Int)) rfl ?_
    walk_at "rd"
    have e : decide (s0.testBit i = decide ((k : Int) = 0)) = (recF (k, i, j)).holds s0 := by
      unfold recF
      rcases (show k = 0 ∨ k = 1 by omega) with rfl | rfl
      · cases z : s0.testBit i <;> simp [Fm.holds, z]
      · cases z : s0.testBit i <;> simp [Fm.holds, z]
    rw [e]
    exact q
  walk_at "rd"
  refine i_ixT e0 (v := .int (k : Int)) rfl ?_
  walk_at "rd"
  refine i_ifd (fun h2 => ?_) (fun h2 => ?_)
  · have e : (s0.testBit i && !s0.testBit j) = (recF (k, i, j)).holds s0 := by
      unfold recF
      rw [if_neg (show ¬ k = 0 by omega), if_neg (show ¬ k = 1 by omega), if_pos (show k = 2 by omega), holds_two]
      simp [Fm.holds, b2]
    rw [← e] at q
    walk_at "rd"
    refine i_ifb (fun hb => ?_) (fun hb => ?_)
    · walk_at "rd"
      rw [hb, Bool.true_and] at q
      exact q
    · rw [hb, Bool.false_and] at q
      exact q
  walk_at "rd"
  refine i_ixT e0 (v := .int (k : Int)) rfl ?_
  walk_at "rd"
  refine i_ifd (fun h3 => ?_) (fun h3 => ?_)
  · have e : (s0.testBit i || s0.testBit j) = (recF (k, i, j)).holds s0 := by
      unfold recF
      rw [if_neg (show ¬ k = 0 by omega), if_neg (show ¬ k = 1 by omega), if_neg (show ¬ k = 2 by omega), if_pos (show k = 3 by omega), holds_two]
      simp [Fm.holds, b2]
    rw [← e] at q
    walk_at "rd"
    refine i_ifb (fun hb => ?_) (fun hb => ?_)
    · rw [hb, Bool.true_or] at q
      exact q
    · walk_at "rd"
      rw [hb, Bool.false_or] at q
      exact q
  walk_at "rd"
  refine i_ixT e0 (v := .int (k : Int)) rfl ?_
  walk_at "rd"
  refine i_ifd (fun h4 => ?_) (fun h4 => ?_)
  · walk_at "rd"
    have e : (!decide (s0.testBit i = s0.testBit j)) = (recF (k, i, j)).holds s0 := by
      unfold recF
      rw [if_neg (show ¬ k = 0 by omega), if_neg (show ¬ k = 1 by omega), if_neg (show ¬ k = 2 by omega), if_neg (show ¬ k = 3 by omega), if_pos (show k = 4 by omega), holds_two]
      show _ = xor (s0.testBit i) (s0.testBit j)
      cases s0.testBit i <;> cases s0.testBit j <;> rfl
    rw [e]
    exact q
  walk_at "rd"
  refine i_ixT e0 (v := .int (k : Int)) rfl ?_
  walk_at "rd"
  refine i_ifd (fun h5 => ?_) (fun h5 => ?_)
  · have e : true = (recF (k, i, j)).holds s0 := by
      unfold recF
      rw [if_neg (show ¬ k = 0 by omega), if_neg (show ¬ k = 1 by omega), if_neg (show ¬ k = 2 by omega), if_neg (show ¬ k = 3 by omega), if_neg (show ¬ k = 4 by omega), if_pos (show k = 5 by omega)]
      rfl
    rw [← e] at q
    exact q
  · have e : (!(s0.testBit i && s0.testBit j)) = (recF (k, i, j)).holds s0 := by
      unfold recF
      rw [if_neg (show ¬ k = 0 by omega), if_neg (show ¬ k = 1 by omega), if_neg (show ¬ k = 2 by omega), if_neg (show ¬ k = 3 by omega), if_neg (show ¬ k = 4 by omega), if_neg (show ¬ k = 5 by omega)]
      show _ = !((Fm.join .a [Fm.lamp i, Fm.lamp j]).holds s0)
      rw [holds_two]
      rfl
    rw [← e] at q
    walk_at "rd"
    refine i_ifb (fun hb => ?_) (fun hb => ?_)
    · walk_at "rd"
      rw [hb, Bool.true_and] at q
      exact q
    · walk_at "rd"
      rw [hb, Bool.false_and] at q
      exact q
end

structure ChR (m : Nat) (H : Hp) (h : Addr) (c : Chg) : Prop where
  ex : ∃ q r, H h = some (.tup [.int (c.1 : Int), .ref q]) ∧ RcAt m H q r ∧ recF r = c.2.2
  lo : c.1 < m
theorem ChR.ext {m : Nat} {H H' : Hp} {h : Addr} {c : Chg} (s : Ext H H') (a : ChR m H h c) : ChR m H' h c := by
  obtain ⟨q, r, e, R, f⟩ := a.ex
  exact ⟨⟨q, r, s _ _ e (fun _ z => nomatch z), R.ext s, f⟩, a.lo⟩
theorem chr_lo {m : Nat} {H : Hp} {hs : List Addr} {cs : List Chg} (p : Paired (ChR m H) hs cs) : ∀ c ∈ cs, c.1 < m := by
  induction p with
  | nil => intro c h; cases h
  | cons r _ ih =>
    intro c h
    rcases List.mem_cons.mp h with rfl | h
    · exact r.lo
    · exact ih c h
structure LMv (m : Nat) (X : Addr → Prop) (H : Hp) (T : Addr) (v : Mv) : Prop where
  ex : ∃ q r cl hs, H T = some (.tup [.ref q, .ref cl]) ∧ RcAt m H q r ∧ recF r = v.1.2 ∧ ¬ X cl ∧ H cl = some (.lst (hs.map V.ref)) ∧ Paired (ChR m H) hs v.2
  gd : GoodMv m v
  ln : v.2.length ≤ 2
theorem LMv.off {m : Nat} {X : Addr → Prop} {H H' : Hp} {T : Addr} {v : Mv} (o : OffX X H H') (a : LMv m X H T v) : LMv m X H' T v := by
  obtain ⟨q, r, cl, hs, e1, R, f, nx, e2, p⟩ := a.ex
  exact ⟨⟨q, r, cl, hs, o.1 _ _ e1 (fun _ z => nomatch z), R.ext o.1, f, nx, o.2 _ _ nx e2, paired_imp (fun _ _ q => q.ext o.1) p⟩, a.gd, a.ln⟩
abbrev NoX : Addr → Prop := fun _ => False
theorem LMv.free {m : Nat} {X : Addr → Prop} {H : Hp} {T : Addr} {v : Mv} (a : LMv m X H T v) : LMv m NoX H T v := by
  obtain ⟨q, r, cl, hs, e1, R, f, nx, e2, p⟩ := a.ex
  exact ⟨⟨q, r, cl, hs, e1, R, f, id, e2, p⟩, a.gd, a.ln⟩
structure LmL (m : Nat) (H : Hp) (l : Addr) (Ts : List Addr) (mv : List Mv) : Prop where
  fl : H l = some (.lst (Ts.map V.ref))
  ff : Paired (LMv m NoX H) Ts mv
  sz : Ts.length ≤ 9
theorem LmL.same {m : Nat} {H H' : Hp} {l : Addr} {Ts : List Addr} {mv : List Mv} (s : Same H H') (a : LmL m H l Ts mv) : LmL m H' l Ts mv := ⟨s _ _ a.fl, paired_imp (fun _ _ q => q.off (OffX.of s)) a.ff, a.sz⟩
theorem LmL.good {m : Nat} {H : Hp} {l : Addr} {Ts : List Addr} {mv : List Mv} (a : LmL m H l Ts mv) : ∀ u ∈ mv, GoodMv m u := fun u hu => by
  obtain ⟨i, hi, rfl⟩ := List.mem_iff_getElem.mp hu
  have hi' : i < Ts.length := by rw [paired_len a.ff]; exact hi
  obtain ⟨u', e, M⟩ := paired_get a.ff (List.getElem?_eq_getElem hi')
  rw [List.getElem?_eq_getElem hi] at e
  cases e
  exact M.gd
theorem LmL.get {m : Nat} {H : Hp} {l : Addr} {Ts : List Addr} {mv : List Mv} (a : LmL m H l Ts mv) {i : Nat} (h : i < mv.length) : ∃ T v, (Ts.map V.ref)[i]? = some (.ref T) ∧ mv[i]? = some v ∧ LMv m NoX H T v := by
  have hi' : i < Ts.length := by rw [paired_len a.ff]; exact h
  obtain ⟨v, e, M⟩ := paired_get a.ff (List.getElem?_eq_getElem hi')
  exact ⟨Ts[i], v, by rw [List.getElem?_map, List.getElem?_eq_getElem hi']; rfl, e, M⟩
section
variable {P : Program} {w : World} {K : PySem.W.Frag} {mg : Str → Option Value} {base : Heap} {t : Ad} {n : Nat}
def spChanges : Sp := fun vs H Q _ => ∃ (c : Int) (m : Nat), vs = [.int c, .int (m : Int)] ∧ 1 ≤ m ∧ m ≤ 6 ∧ ∀ l hs cs H', Same H H' → H l = none → H' l = some (.lst (hs.map V.ref)) → Paired (ChR m H') hs cs → (cs.map Prod.fst).Nodup → cs.length ≤ 2 → Q (.ref l) H'
theorem ok_changes (T : Txt K mg t) : FnS P w K mg base 3 "_law_changes" ["_law_cell", "_law_many"] (spChanges) := by
  refine ⟨_, _, T.F__law_changes.ok sc__law_changes (fun vs H Q E h => ?_) (fun cdv A outer s H vs Q E hr h => ?_), T.b__law_changes, T.F__law_changes.kp, T.m__law_changes⟩
  · obtain ⟨c, m, rfl, h1, hm, q⟩ := h
    rfl
  obtain ⟨c, m, rfl, h1, hm, q⟩ := h
  have G__law_recipe := ok_recipe (P := P) (w := w) (base := base) T
  obtain ⟨a, ea, ha⟩ := mod_len c (show 0 < m by omega)
  refine ⟨_, (pss_cons (ss 2 sc__law_changes.nd (pe_op op_mod (pv 0) (pv 1)))
      (pss_cons (ss 3 sc__law_changes.nd (pe_lst (pa_cons (pe_tup (pa_cons (pv 2) (pa_cons (pe_fn G__law_recipe hr (pa_cons (pe_op op_fdivG (pv 0) pe_int) (pa_cons (pv 1) pa_nil))) pa_nil))) pa_nil)))
      (pss_cons (ps_if (PW.pt (pw_and (pt_cmpR op_gt (pv 1) pe_int (nomark _)) (pw_and1 (pt_cmpR (op_eqA hr.units) (pe_op op_mod (pe_op op_fdivG (pv 0) pe_int) pe_int) pe_int (nomark _)))))
      (pss_one (ps_expr (pe_bm PySem.F.plainAttrs_list PySem.F.slot_list_append PySem.F.type_list_append mt_append (pv 3) (pa_cons (pe_tup (pa_cons (pe_op op_mod (pe_op op_addG (pe_op op_addG (pv 2) pe_int) (pe_op op_mod (pe_op op_fdivG (pv 0) pe_int) (pe_op op_sub (pv 1) pe_int))) (pv 1)) (pa_cons (pe_fn G__law_recipe hr (pa_cons (pe_op op_fdivG (pv 0) pe_int) (pa_cons (pv 1) pa_nil))) pa_nil))) pa_nil))))
      pss_nil)
      (pss_one (ps_ret (pv 3)))))), ?_⟩
  walk_at "rd0"
  rw [ea]
  refine ⟨_, m, rfl, h1, hm, fun q1 r1 H1 s1 n1 R1 => ?_⟩
  walk_at "rd"
  refine j_tup (by simp) fun T1 H2 s2 n2 e2 => ?_
  walk_at "rd"
  refine j_lst (by simp) fun l H3 s3 n3 e3 => ?_
  have c1 : ChR m H3 T1 (a, (0, recF r1)) := ⟨⟨q1, r1, s3 _ _ e2, R1.ext (Ext.of (s2.trans s3)), rfl⟩, ha⟩
  have s13 : Same H H3 := s1.trans (s2.trans s3)
  have nl : H l = none := (s1.trans s2).free n3
  walk_at "rd"
  refine i_ifd (fun h => ?_) (fun h => ?_)
  · walk_at "rd"
    refine i_ifd (fun h' => ?_) (fun h' => ?_)
    · walk_at "rd"
      refine ⟨tyL e3, ?_⟩
      walk_at "rd"
      have x1 := Int.emod_nonneg (c / 12) (show (m : Int) - 1 ≠ 0 by omega)
      have x2 := Int.emod_lt_of_pos (c / 12) (show (0 : Int) < (m : Int) - 1 by omega)
      have pk := pick2 (m := (m : Int)) (a := (a : Int)) (by omega) (by omega) (by omega) x1 x2
      obtain ⟨b, eb, hb⟩ := mod_len ((a : Int) + 1 + c / 12 % ((m : Int) - 1)) (show 0 < m by omega)
      rw [eb]
      rw [eb] at pk
      refine ⟨_, m, rfl, h1, hm, fun q4 r4 H4 s4 n4 R4 => ?_⟩
      walk_at "rd"
      refine j_tup (by simp) fun T5 H5 s5 n5 e5 => ?_
      walk_at "rd"
      refine j_append (s5 _ _ (s4 _ _ e3)) (by simp) fun H6 b6 e6 => ?_
      have x6 : Ext H5 H6 := b6.ext (s5 _ _ (s4 _ _ e3))
      walk_at "rd"
      refine q l [T1, T5] [(a, (0, recF r1)), (b, (0, recF r4))] H6 (b6.same nl (s13.trans (s4.trans s5))) nl e6 (.cons (c1.ext ((Ext.of (s4.trans s5)).trans x6)) (.cons (ChR.ext x6 ⟨⟨q4, r4, e5, R4.ext (Ext.of s5), rfl⟩, hb⟩) .nil)) ?_ (by simp)
      have hab : a ≠ b := by omega
      simp [hab]
    · walk_at "rd"
      exact q l [T1] [(a, (0, recF r1))] H3 s13 nl e3 (.cons c1 .nil) (by simp) (by simp)
  · refine i_ifF rfl ?_
    walk_at "rd"
    exact q l [T1] [(a, (0, recF r1))] H3 s13 nl e3 (.cons c1 .nil) (by simp) (by simp)
def spOnw : Sp := fun vs H Q _ => ∃ (s m : Nat) (l : Addr) (hs : List Addr) (cs : List Chg), vs = [.int (s : Int), .ref l] ∧ m ≤ 6 ∧ H l = some (.lst (hs.map V.ref)) ∧ Paired (ChR m H) hs cs ∧ (cs.map Prod.fst).Nodup ∧ Q (.int ((onN s cs : Nat) : Int)) H
theorem ok_onward (T : Txt K mg t) : FnS P w K mg base 3 "_law_onward" ["_law_stand", "_law_changes_here"] (spOnw) := by
  refine ⟨_, _, T.F__law_onward.ok sc__law_onward (fun vs H Q E h => ?_) (fun cdv A outer s H vs Q E hr h => ?_), T.b__law_onward, T.F__law_onward.kp, T.m__law_onward⟩
  · obtain ⟨s0, m, l, hs, cs, rfl, hm, hl, hg, nd, q⟩ := h
    rfl
  obtain ⟨s0, m, l, hs, cs, rfl, hm, hl, hg, nd, q⟩ := h
  have G__law_due := ok_due (P := P) (w := w) (base := base) T
  have G__law_lit := ok_lit (P := P) (w := w) (base := base) T
  refine ⟨_, (pss_cons (ss 2 sc__law_onward.nd (pv 0))
      (pss_cons (ps_for PassesOwn.never rfl (pi_seq (pv 1)) (pg_tup rfl (pgs_cons (sg 3 sc__law_onward.nd) (pgs_cons (sg 4 sc__law_onward.nd) pgs_nil)))
      (pss_cons (ss 5 sc__law_onward.nd (pe_op op_sub (pe_callTy call_intG rfl T.B.int bt_int (pa_cons (pe_fn G__law_due hr (pa_cons (pv 4) (pa_cons (pv 0) pa_nil))) pa_nil)) (pe_callTy call_intG rfl T.B.int bt_int (pa_cons (pe_fn G__law_lit hr (pa_cons (pv 0) (pa_cons (pv 3) pa_nil))) pa_nil))))
      (pss_one (ss 2 sc__law_onward.nd (pe_op op_addG (pv 2) (pe_op op_mulG (pv 5) (pe_op op_shl pe_int (pv 3))))))))
      (pss_one (ps_ret (pv 2))))), ?_⟩
  walk_at "rd0"
  refine seqL (xs := hs.map V.ref) (fun k σ H' => H' = H ∧ ∃ v3 v4 v5, σ = [some (.int (s0 : Int)), some (.ref l), some (.int (onI s0 (cs.take k))), v3, v4, v5]) ⟨rfl, _, _, _, rfl⟩ (fun k σ H' _ hp => by obtain ⟨rfl, _⟩ := hp; exact SqL.of hl) ?_ ?_
  · rintro k y σ H' hy ⟨rfl, v3, v4, v5, rfl⟩
    obtain ⟨h, rfl, hx'⟩ := get_ref hy
    obtain ⟨c, hgi, C⟩ := paired_get hg hx'
    obtain ⟨q', r, ht, R, hf⟩ := C.ex
    have hcm := C.lo
    have hs' := onI_snoc s0 (cs.take k) c
    rw [← take_snoc hgi] at hs'
    refine i_gN2 ht ?_
    walk_at "rd"
    refine ⟨m, q', r, s0, rfl, hm, R, ?_⟩
    walk_at "rd"
    refine ⟨s0, c.1, rfl, by omega, ?_⟩
    walk_at "rd"
    refine i_mulI (.inl ⟨by split <;> split <;> decide, by split <;> split <;> decide⟩) ?_
    walk_at "rd"
    rw [shl_nat, hf]
    refine ⟨rfl, some (.int (c.1 : Int)), some (.ref q'), some (.int (bI (c.2.2.holds s0) - bI (s0.testBit c.1))), ?_⟩
    rw [hs']
    all_goals rfl
  · rintro σ H' ⟨rfl, v3, v4, v5, rfl⟩
    rw [List.length_map, paired_len hg, List.take_length, onI_eq s0 _ cs rfl nd]
    walk_at "rd"
    exact q
def spFirst : Sp := fun vs H Q _ => ∃ (m : Nat) (lm : Addr) (Ts : List Addr) (mv : List Mv) (s o : Nat), vs = [.ref lm, .int (s : Int), .int (o : Int)] ∧ m ≤ 6 ∧ LmL m H lm Ts mv ∧ Q (wV s o mv) H
theorem ok_first (T : Txt K mg t) : FnS P w K mg base 4 "_law_first" ["_law_moves", "_law_stand", "_law_other"] (spFirst) := by
  refine ⟨_, _, T.F__law_first.ok sc__law_first (fun vs H Q E h => ?_) (fun cdv A outer s H vs Q E hr h => ?_), T.b__law_first, T.F__law_first.kp, T.m__law_first⟩
  · obtain ⟨m, lm, Ts, mv, s0, o, rfl, hm, L, q⟩ := h
    rfl
  obtain ⟨m, lm, Ts, mv, s0, o, rfl, hm, L, q⟩ := h
  have G__law_due := ok_due (P := P) (w := w) (base := base) T
  have G__law_onward := ok_onward (P := P) (w := w) (base := base) T
  have fl := L.fl
  have hml := paired_len L.ff
  have hsz := L.sz
  refine ⟨_, (pss_cons (ps_for PassesOwn.never rfl (pi_range1 rfl T.B.range (pa_cons (pe_callB call_lenG rfl T.B.len bt_len (pa_cons (pv 0) pa_nil)) pa_nil)) (sg 3 sc__law_first.nd)
      (pss_one (ps_if (PW.pt (pw_and (pt_truth (pe_fn G__law_due hr (pa_cons (pe_ix ix_seq (pe_ix ix_seq (pv 0) (pv 3) (fun _ _ => rfl)) pe_int (fun _ _ => rfl)) (pa_cons (pv 1) pa_nil))) (fun _ => rfl)) (pw_and1 (pt_cmpR (op_eqA hr.units) (pe_fn G__law_onward hr (pa_cons (pv 1) (pa_cons (pe_ix ix_seq (pe_ix ix_seq (pv 0) (pv 3) (fun _ _ => rfl)) pe_int (fun _ _ => rfl)) pa_nil))) (pv 2) (nomark _)))))
      (pss_one (ps_ret (pv 3)))
      pss_nil)))
      (pss_one (ps_ret pe_non))), ?_⟩
  walk_at "rd0"
  refine ⟨_, rfl, by rw [List.length_map]; omega, by rw [List.length_map]; omega, ?_⟩
  rw [Int.toNat_natCast, List.length_map, hml]
  refine loopR (fun k σ H' => H' = H ∧ (∀ j u, j < k → mv[j]? = some u → fitN s0 o u = false) ∧ ∃ v3, σ = [some (.ref lm), some (.int (s0 : Int)), some (.int (o : Int)), v3]) ⟨rfl, fun j u h => absurd h (by omega), _, rfl⟩ ?_ ?_
  · rintro k σ H' hk ⟨rfl, bf, v3, rfl⟩
    rw [Int.zero_add]
    obtain ⟨T', v, eT, ev, M⟩ := L.get hk
    obtain ⟨q', r, cl, hs, e1, R, hf, _, e2, p⟩ := M.ex
    have nxt : fitN s0 o v = false → ∀ j u', j < k + 1 → mv[j]? = some u' → fitN s0 o u' = false := fun hf j u' hj e => by
      by_cases z : j = k
      · subst z
        rw [ev] at e
        cases e
        exact hf
      · exact bf j u' (by omega) e
    walk_at "rd"
    refine i_ixL (j := k) fl eT ?_
    walk_at "rd"
    refine i_ixT e1 (v := .ref q') rfl ?_
    walk_at "rd"
    refine ⟨m, q', r, s0, rfl, hm, R, ?_⟩
    rw [hf]
    walk_at "rd"
    refine i_ifb (fun hb => ?_) (fun hb => ?_)
    · walk_at "rd"
      refine i_ixL (j := k) fl eT ?_
      walk_at "rd"
      refine i_ixT e1 (v := .ref cl) rfl ?_
      walk_at "rd"
      refine ⟨s0, m, cl, hs, v.2, rfl, hm, e2, p, M.gd.nd, ?_⟩
      walk_at "rd"
      refine i_ifd (fun h0 => ?_) (fun h0 => ?_)
      · walk_at "rd"
        have := wV_some (s := s0) (o := o) ev (by unfold fitN; rw [hb, Bool.true_and]; exact decide_eq_true (by omega)) bf
        rw [this] at q
        exact q
      · walk_at "rd"
        exact ⟨rfl, nxt (by unfold fitN; rw [hb, Bool.true_and]; exact decide_eq_false (by omega)), _, rfl⟩
    · refine i_ifF rfl ?_
      walk_at "rd"
      exact ⟨rfl, nxt (by unfold fitN; rw [hb]; rfl), _, rfl⟩
  · rintro σ H' ⟨rfl, bf, v3, rfl⟩
    rw [wV_none bf] at q
    walk_at "rd"
    exact q
theorem paired_rev {α β : Type} {F : α → β → Prop} : ∀ {xs : List α} {ys : List β}, Paired F xs ys → Paired F xs.reverse ys.reverse
  | _, _, .nil => .nil
  | _, _, .cons r q => by
    rw [List.reverse_cons, List.reverse_cons]
    exact paired_append (paired_rev q) (.cons r .nil)
/-- a machine of such moves stands at x -/
def MacL (t : Ad) (H : Hp) (x : Addr) (mv0 : List Mv) : Prop := ∃ dx n s b v xs sp bp ms mv, MacAt t H x dx n s b v xs sp bp ms mv ∧ mv.map dv = mv0.map dv
theorem MacL.ext {H H' : Hp} {x : Addr} {mv0 : List Mv} (e : Ext H H') (a : MacL t H x mv0) : MacL t H' x mv0 := by
  obtain ⟨dx, n, s, b, v, xs, sp, bp, ms, mv, A, h⟩ := a
  exact ⟨dx, n, s, b, v, xs, sp, bp, ms, mv, A.ext e, h⟩
def spMachines (t : Ad) : Sp := fun vs H Q _ => ∃ (m : Nat) (lm : Addr) (Ts : List Addr) (mv0 : List Mv), vs = [.int (m : Int), .ref lm] ∧ m ≤ 6 ∧ LmL m H lm Ts mv0 ∧ ∀ T x y H', Same H H' → H' T = some (.tup [.ref x, .ref y]) → MacL t H' x mv0 → MacL t H' y mv0.reverse → Q (.ref T) H'
theorem ok_machines (T : Txt K mg t) : FnS P w K mg base 5 "_law_machines" ["_law_many", "_law_moves"] (spMachines t) := by
  refine ⟨_, _, T.F__law_machines.ok sc__law_machines (fun vs H Q E h => ?_) (fun cdv A outer s H vs Q E hr h => ?_), T.b__law_machines, T.F__law_machines.kp, T.m__law_machines⟩
  · obtain ⟨m, lm, Ts, mv0, rfl, hm, L, q⟩ := h
    rfl
  obtain ⟨m, lm, Ts, mv0, rfl, hm, L, q⟩ := h
  have G__law_made := ok_made (P := P) (w := w) (base := base) T
  have M_Lamp := ok_Lamp (P := P) (w := w) (base := base) T
  have M_Move := ok_Move (P := P) (w := w) (base := base) T
  have M_Machine := ok_Machine (P := P) (w := w) (base := base) T
  have hml := paired_len L.ff
  have hsz := L.sz
  refine ⟨_, (pss_cons (ss 2 sc__law_machines.nd (pe_lst pa_nil))
      (pss_cons (ps_for PassesOwn.never rfl (pi_seq (pv 1)) (pg_tup rfl (pgs_cons (sg 3 sc__law_machines.nd) (pgs_cons (sg 4 sc__law_machines.nd) pgs_nil)))
      (pss_cons (ps_comp2 5 sc__law_machines.nd (sc := defScope s__law_machines) (N := ["_law_many", "_law_moves", "_law_handed", "_law_guard", "_law_changes_here", "_law_some", "_law_names", "_law_machine", "_law_other"]) (ns := []) (ix := []) rfl rfl (by decide +kernel) rfl (pi_seq (pv 4)) (fun _ _ _ _ => pts_nil) (fun _ _ _ _ => (pe_tup (pa_cons (pv 0) (pa_cons (pe_fn G__law_made hr (pa_cons (pv 1) pa_nil)) pa_nil)))))
      (pss_cons (ps_expr (pe_bm PySem.F.plainAttrs_list PySem.F.slot_list_append PySem.F.type_list_append mt_append (pv 2) (pa_cons (pe_mk M_Move hr (pa_cons (pe_fn G__law_made hr (pa_cons (pv 3) pa_nil)) (pa_cons (pv 5) pa_nil))) pa_nil)))
      (pss_one (ps_expr (pe_bm0 PySem.F.plainAttrs_list PySem.F.slot_list_clear PySem.F.type_list_clear mt_clear (pv 5)))))))
      (pss_cons (ss 6 sc__law_machines.nd (pe_lst (pa_cons pe_str (pa_cons pe_str (pa_cons pe_str (pa_cons pe_str (pa_cons pe_str (pa_cons pe_str pa_nil))))))))
      (pss_cons (ss 7 sc__law_machines.nd (pe_mk M_Machine hr (pa_cons (pe_slice sl_any (pv 6) po_none (po_some (pv 0))) (pa_cons (pe_lst pa_nil) (pa_cons (pe_lst (pa_cons (pe_mk M_Lamp hr (pa_cons pe_int pa_nil)) pa_nil)) (pa_cons (pv 2) pa_nil))))))
      (pss_cons (ss 8 sc__law_machines.nd (pe_mk M_Machine hr (pa_cons (pe_slice sl_any (pv 6) po_none (po_some (pv 0))) (pa_cons (pe_lst pa_nil) (pa_cons (pe_lst (pa_cons (pe_mk M_Lamp hr (pa_cons pe_int pa_nil)) pa_nil)) (pa_cons (pe_listrev rfl rfl T.B.list rfl T.B.reversed (pv 2)) pa_nil))))))
      (pss_cons (ps_expr (pe_bm0 PySem.F.plainAttrs_list PySem.F.slot_list_clear PySem.F.type_list_clear mt_clear (pv 2)))
      (pss_one (ps_ret (pe_tup (pa_cons (pv 7) (pa_cons (pv 8) pa_nil))))))))))), ?_⟩
  walk_at "rd0"
  refine j_lst (by simp) fun hd H1 s1 n1 e1 => ?_
  walk_at "rd"
  refine seqL (xs := Ts.map V.ref) (fun i σ H' => ∃ ms mv v3 v4 v5, σ = [some (.int (m : Int)), some (.ref lm), some (.ref hd), v3, v4, v5, none, none, none] ∧ Same H H' ∧ H' hd = some (.lst (ms.map V.ref)) ∧ Paired (MvP t H') ms mv ∧ mv.map dv = (mv0.take i).map dv)
    ⟨[], [], _, _, _, rfl, s1, e1, .nil, rfl⟩ (fun i σ H' _ hp => by obtain ⟨ms, mv, v3, v4, v5, _, s, _⟩ := hp; exact SqL.of (s _ _ L.fl)) ?_ ?_
  · rintro i y σ H2 hy ⟨ms, mv, v3, v4, v5, rfl, s2, e2, pm, hdv⟩
    obtain ⟨T', rfl, hx'⟩ := get_ref hy
    obtain ⟨v, hgi, M⟩ := paired_get (L.same s2).ff hx'
    have hi : i < Ts.length := (List.getElem?_eq_some_iff.mp hx').1
    have hmsl : ms.length ≤ 9 := by
      have a := paired_len pm
      have b := congrArg List.length hdv
      rw [List.length_map, List.length_map, List.length_take] at b
      omega
    obtain ⟨q', r, cl, hs, f1, R, hf, _, f2, p⟩ := M.ex
    have hpl := paired_len p
    have hln := M.ln
    refine i_gN2 f1 ?_
    walk_at "rd"
    refine .inl ⟨cl, _, rfl, SqL.of f2, ?_⟩
    refine comp2_by (fun i ys H' => ∃ ds cs, ys = ds.map V.ref ∧ Paired (HdAt t H' 62) ds cs ∧ cs.map dat = (v.2.take i).map dat) (wk_list (SqL.of f2)) (by rw [List.length_map]; omega) (fun i x hx => ?_) (fun H' _ => ⟨[], [], rfl, .nil, rfl⟩) (by rintro i ys H1 H2 x ⟨ds, cs, e, p, d⟩; exact ⟨ds, cs, e, paired_imp (fun _ _ q => q.ext x) p, d⟩) ?_ ?_
    · obtain ⟨h, rfl, hx''⟩ := get_ref hx
      obtain ⟨c, hgc, C⟩ := paired_get p hx''
      obtain ⟨q2, r2, ht, _⟩ := C.ex
      exact ⟨h, _, _, rfl, ht⟩
    · rintro i2 h va vb ys acc H3 hx eh s3 hacc ea ⟨ds, cs, rfl, pd, hd2⟩ _ R' kk
      obtain ⟨h', e', hx''⟩ := get_ref hx
      cases e'
      obtain ⟨c, hgc, C⟩ := paired_get p hx''
      obtain ⟨q2, r2, ht, R2', hf2⟩ := C.ex
      rw [ht] at eh
      cases eh
      simp only [subS, List.map_nil]
      walk_at "rd"
      refine kk true H3 (Same.refl _) (fun z => by cases z) fun _ R2 k2 => ?_
      walk_at "rd"
      refine ⟨m, q2, r2, rfl, R2'.ext (Ext.of s3), fun pf H4 s4 ff => ?_⟩
      walk_at "rd"
      refine j_tup (by simp) fun d H5 s5 n5 e5 => ?_
      refine k2 _ H5 (s4.trans s5) ⟨ds ++ [d], cs ++ [(c.1, (pf, recF r2))], by rw [List.map_append]; rfl, paired_append (paired_imp (fun _ _ q => q.ext (Ext.of (s4.trans s5))) pd) (.cons ⟨e5, ff.mono (Ext.of s5)⟩ .nil), ?_⟩
      rw [take_snoc hgc, List.map_append, List.map_append, hd2, hf2]
      rfl
    rintro sm ys H3 nsm s3 esm ⟨ds, cs, rfl, pd, hd2⟩
    rw [List.length_map, hpl, List.take_length] at hd2
    walk_at "rd"
    refine ⟨tyL (s3 _ _ e2), ?_⟩
    walk_at "rd"
    refine ⟨m, q', r, rfl, R.ext (Ext.of s3), fun pg H4 s4 fg => ?_⟩
    walk_at "rd"
    refine i_move (s4 _ _ esm) fg (paired_imp (fun _ _ q => q.ext (Ext.of s4)) pd) fun x H5 s5 nx hv => ?_
    have e5 := s5 _ _ (s4 _ _ (s3 _ _ e2))
    walk_at "rd"
    refine j_append e5 (by rw [List.length_map]; omega) fun H6 b6 e6 => ?_
    have nsh : sm ≠ hd := (ne_of_none e2 nsm).symm
    have esm6 := b6 _ _ nsh (s5 _ _ (s4 _ _ esm))
    walk_at "rd"
    refine ⟨tyL esm6, ?_⟩
    walk_at "rd"
    refine j_clear esm6 fun H7 b7 e7 => ?_
    have x7 : Ext H5 H7 := (b6.ext e5).trans (b7.ext esm6)
    walk_at "rd"
    refine ⟨ms ++ [x], mv ++ [((pg, recF r), cs)], _, _, _, rfl, fun b o e => b7 _ _ (ne_of_none (s2 _ _ e) nsm) (b6 _ _ (ne_of_none e n1) (s5 _ _ (s4 _ _ (s3 _ _ (s2 _ _ e))))), by rw [b7 _ _ nsh.symm e6, List.map_append]; rfl, paired_append (paired_imp (fun _ _ q => MvAt.ext ((Ext.of (s3.trans (s4.trans s5))).trans x7) q) pm) (.cons (MvAt.ext x7 hv) .nil), ?_⟩
    rw [take_snoc hgi, List.map_append, List.map_append, hdv]
    have : dv ((pg, recF r), cs) = dv v := by
      unfold dv
      rw [hd2]
      show (recF r, _) = _
      rw [hf]
    rw [List.map_cons, this]
    rfl
  · rintro σ H2 ⟨ms, mv, v3, v4, v5, rfl, s2, e2, pm, hdv⟩
    rw [List.length_map, hml, List.take_length] at hdv
    walk_at "rd"
    refine j_lst (by simp) fun nm H3 s3 n3 e3 => ?_
    walk_at "rd"
    refine .inl (j_sl (SqL.of e3) rfl fun n4 H4 s4 nn4 e4 => ?_)
    walk_at "rd"
    refine j_lst (by simp) fun l5 H5 s5 n5 e5 => ?_
    walk_at "rd"
    refine i_init1 fun x6 dx6 H6 s6 nx6 ex6 => ?_
    walk_at "rd"
    refine j_lst (by simp) fun l7 H7 s7 n7 e7 => ?_
    have w7 : Same H2 H7 := s3.trans (s4.trans (s5.trans (s6.trans s7)))
    walk_at "rd"
    refine i_machine (sp := []) (bp := [(x6, .lamp 0)]) (s7 _ _ (s6 _ _ (s5 _ _ e4))) (s7 _ _ (s6 _ _ e5)) e7 (w7 _ _ e2) .nil (.cons ⟨dx6, s7 _ _ ex6⟩ .nil) (paired_imp (fun _ _ q => MvAt.ext (Ext.of w7) q) pm) fun x dx nn ss bb vv H8 s8 nx A => ?_
    have w8 := w7.trans s8
    walk_at "rd"
    refine .inl (j_sl (SqL.of (s8 _ _ (s7 _ _ (s6 _ _ (s5 _ _ (s4 _ _ e3)))))) rfl fun n9 H9 s9 nn9 e9 => ?_)
    walk_at "rd"
    refine j_lst (by simp) fun l10 H10 s10 n10 e10 => ?_
    walk_at "rd"
    refine i_init1 fun x11 dx11 H11 s11 nx11 ex11 => ?_
    walk_at "rd"
    refine j_lst (by simp) fun l12 H12 s12 n12 e12 => ?_
    have w12 : Same H2 H12 := w8.trans (s9.trans (s10.trans (s11.trans s12)))
    walk_at "rd"
    refine j_listrev (SqL.of (w12 _ _ e2)) fun rv H13 s13 n13 e13 => ?_
    rw [← List.map_reverse] at e13
    have w13 := w12.trans s13
    walk_at "rd"
    refine i_machine (sp := []) (bp := [(x11, .lamp 0)]) (s13 _ _ (s12 _ _ (s11 _ _ (s10 _ _ e9)))) (s13 _ _ (s12 _ _ (s11 _ _ e10))) (s13 _ _ e12) e13 .nil (.cons ⟨dx11, s13 _ _ (s12 _ _ ex11)⟩ .nil) (paired_rev (paired_imp (fun _ _ q => MvAt.ext (Ext.of w13) q) pm)) fun y dy nn2 ss2 bb2 vv2 H14 s14 ny B => ?_
    have e14 := s14 _ _ (w13 _ _ e2)
    walk_at "rd"
    refine ⟨tyL e14, ?_⟩
    walk_at "rd"
    refine j_clear e14 fun H15 b15 e15 => ?_
    walk_at "rd"
    refine j_tup (by simp) fun TT H16 s16 n16 e16 => ?_
    have x16 : Ext H14 H16 := (b15.ext e14).trans (Ext.of s16)
    refine q TT x y H16 (fun b o e => s16 _ _ (b15 _ _ (ne_of_none e n1) (s14 _ _ (w13 _ _ (s2 _ _ e))))) e16 ⟨dx, nn, ss, bb, vv, _, _, _, _, mv, A.ext ((Ext.of (s9.trans (s10.trans (s11.trans (s12.trans (s13.trans s14)))))).trans x16), hdv⟩ ⟨dy, nn2, ss2, bb2, vv2, _, _, _, _, mv.reverse, B.ext x16, ?_⟩
    rw [List.map_reverse, List.map_reverse, hdv]
end


end LW

set_option maxRecDepth 100000
set_option maxHeartbeats 4000000
open PySem L2

namespace LW
open PySem L2 EM
theorem i_join {t u : TS} {D : Ends} {σ : St} {H : Hp} (Pn : St → Hp → Prop) (h2 : ∀ σ H, Pn σ H → u D σ H) (h1 : ∀ Kn : St → Hp → Prop, (∀ σ H, Pn σ H → Kn σ H) → t { D with nx := Kn } σ H) : tSeq t u D σ H := h1 (u D) h2
/-- between two turns of a walk -/
structure WS (m : Nat) (mv : List Mv) (s : Nat) (H H' : Hp) (pa pi : Addr) (l0 : List Nat) (y : Nat) (pk : List Int) : Prop where
  sm : Same H H'
  ea : H' pa = some (.lst ((nums (l0 ++ [y])).map V.int))
  ei : H' pi = some (.lst (pk.map V.int))
  run : runW mv s pk = some (l0 ++ [y])
  ln : l0.length = pk.length
  lt : ∀ z ∈ l0 ++ [y], z < 2 ^ m
  pz : ∀ p ∈ pk, p.natAbs < 100
theorem run_take (mv : List Mv) (s : Nat) : ∀ (n : Nat) (pk : List Int) (l : List Nat), pk.length = n → runW mv s pk = some l → l.length = n + 1 ∧ ∀ i, i ≤ n → runW mv s (pk.take i) = some (l.take (i + 1))
  | 0, pk, l, h, r => by
    rw [List.length_eq_zero_iff.mp h] at r ⊢
    cases r
    refine ⟨rfl, fun i hi => ?_⟩
    rw [List.take_nil]
    rw [show i = 0 by omega]
    rfl
  | n + 1, pk, l, h, r => by
    obtain ⟨r0, p, rfl⟩ := snoc_of (l := pk) (fun e => by rw [e] at h; exact absurd h (by simp))
    have hn : r0.length = n := by simpa using h
    rw [runW_snoc] at r
    cases e : runW mv s r0 with
    | none => rw [e] at r; cases r
    | some l1 =>
      rw [e] at r
      have r' : (stepW mv (l1.getLastD s) p).map (fun t => l1 ++ [t]) = some l := r
      cases e2 : stepW mv (l1.getLastD s) p with
      | none => rw [e2] at r'; cases r'
      | some t =>
        rw [e2] at r'
        have hl : l1 ++ [t] = l := Option.some.inj r'
        subst hl
        obtain ⟨k1, k2⟩ := run_take mv s n r0 l1 hn e
        refine ⟨by rw [List.length_append, k1]; rfl, fun i hi => ?_⟩
        by_cases z : i ≤ n
        · rw [List.take_append_of_le_length (by omega), List.take_append_of_le_length (by omega)]
          exact k2 i z
        · have zi : i = n + 1 := by omega
          rw [List.take_of_length_le (by rw [List.length_append, hn]; simp; omega), List.take_of_length_le (by rw [List.length_append, k1]; simp; omega), runW_snoc, e]
          show (stepW mv (l1.getLastD s) p).map (fun t => l1 ++ [t]) = _
          rw [e2]
          rfl
theorem run_bad {mv : List Mv} {s i : Nat} {pk : List Int} {l : List Nat} {z : Int} (r : runW mv s pk = some l) (hi : i < l.length) (h : stepW mv (l.getD i 0) z = none) : runW mv s (pk.take i ++ [z] ++ pk.drop i) = none := by
  obtain ⟨k1, k2⟩ := run_take mv s _ pk l rfl r
  apply runW_none
  rw [runW_snoc, k2 i (by omega)]
  show (stepW mv ((l.take (i + 1)).getLastD s) z).map _ = none
  have e : l.take (i + 1) = l.take i ++ [l.getD i 0] := by
    rw [List.getD_eq_getElem?_getD, List.getElem?_eq_getElem hi]
    exact take_snoc (List.getElem?_eq_getElem hi)
  rw [e, getLastD_snoc, h]
  rfl
section
variable {P : Program} {w : World} {K : PySem.W.Frag} {mg : Str → Option Value} {base : Heap} {t : Ad} {n : Nat}
def spWalk : Sp := fun vs H Q _ => ∃ (m : Nat) (lm cl : Addr) (Ts : List Addr) (mv : List Mv) (s : Nat) (cs : List Int), vs = [.ref lm, .int (s : Int), .ref cl] ∧ m ≤ 6 ∧ s < 2 ^ m ∧ LmL m H lm Ts mv ∧ H cl = some (.lst (cs.map V.int)) ∧ cs.length ≤ 60 ∧
  ∀ T pa pi l0 y pk H', WS m mv s H H' pa pi l0 y pk → H pa = none → H pi = none → pk.length ≤ 60 → H' T = some (.tup [.ref pa, .ref pi]) → Q (.ref T) H'
def hN (mv : List Mv) (y : Nat) (k : Nat) : Bool := match mv[k]? with
  | some v => v.1.2.holds y
  | none => false
theorem ok_walk (T : Txt K mg t) : FnS P w K mg base 5 "_law_walk" ["_law_moves", "_law_stand", "_law_cells"] (spWalk) := by
  refine ⟨_, _, T.F__law_walk.ok sc__law_walk (fun vs H Q E h => ?_) (fun cdv A outer s H vs Q E hr h => ?_), T.b__law_walk, T.F__law_walk.kp, T.m__law_walk⟩
  · obtain ⟨m, lm, cl, Ts, mv, s0, cs, rfl, hm, hs0, L, hcl, hcz, q⟩ := h
    rfl
  obtain ⟨m, lm, cl, Ts, mv, s0, cs, rfl, hm, hs0, L, hcl, hcz, q⟩ := h
  have G__law_due := ok_due (P := P) (w := w) (base := base) T
  have G__law_onward := ok_onward (P := P) (w := w) (base := base) T
  have hml := paired_len L.ff
  have hsz := L.sz
  have gd := L.good
  refine ⟨_, (pss_cons (ss 3 sc__law_walk.nd (pe_lst (pa_cons (pv 1) pa_nil)))
      (pss_cons (ss 4 sc__law_walk.nd (pe_lst pa_nil))
      (pss_cons (ps_for PassesOwn.never rfl (pi_seq (pv 2)) (sg 5 sc__law_walk.nd)
      (pss_cons (ps_comp 6 sc__law_walk.nd (sc := defScope s__law_walk) (N := ["_law_moves", "_law_stand", "_law_cells", "_law_passed", "_law_picks", "_law_cell", "_law_fitting"]) (ns := ["_law_passed", "_law_moves"]) (ix := [3, 0]) rfl rfl (by decide +kernel) rfl (pi_range1 rfl T.B.range (pa_cons (pe_callB call_lenG rfl T.B.len bt_len (pa_cons (pv 0) pa_nil)) pa_nil)) (fun _ _ _ _ => (pts_one (pt_truthK (K := K) rfl (pe_fn G__law_due hr (pa_cons (pe_ix (ix_seqK (K := K) rfl) (pe_ix (ix_seqK (K := K) rfl) (pv 2) (pv 0) (fun _ _ => rfl)) pe_int (fun _ _ => rfl)) (pa_cons (pe_ix (ix_seqK (K := K) rfl) (pv 1) (pe_un un_neg pe_int) (fun _ _ => rfl)) pa_nil))) (fun _ => rfl)))) (fun _ _ _ _ => (pv 0)))
      (pss_cons (ps_if (pt_cmpR (op_eqA hr.units) (pe_callB call_lenG rfl T.B.len bt_len (pa_cons (pv 6) pa_nil)) pe_int (nomark _))
      (pss_one ps_break)
      pss_nil)
      (pss_cons (ps_expr (pe_bm PySem.F.plainAttrs_list PySem.F.slot_list_append PySem.F.type_list_append mt_append (pv 4) (pa_cons (pe_ix ix_seq (pv 6) (pe_op op_mod (pv 5) (pe_callB call_lenG rfl T.B.len bt_len (pa_cons (pv 6) pa_nil))) (fun _ _ => rfl)) pa_nil)))
      (pss_one (ps_expr (pe_bm PySem.F.plainAttrs_list PySem.F.slot_list_append PySem.F.type_list_append mt_append (pv 3) (pa_cons (pe_fn G__law_onward hr (pa_cons (pe_ix ix_seq (pv 3) (pe_un un_neg pe_int) (fun _ _ => rfl)) (pa_cons (pe_ix ix_seq (pe_ix ix_seq (pv 0) (pe_ix ix_seq (pv 4) (pe_un un_neg pe_int) (fun _ _ => rfl)) (fun _ _ => rfl)) pe_int (fun _ _ => rfl)) pa_nil))) pa_nil))))))))
      (pss_one (ps_ret (pe_tup (pa_cons (pv 3) (pa_cons (pv 4) pa_nil)))))))), ?_⟩
  walk_at "rd0"
  refine j_lst (by simp) fun pa H1 s1 n1 e1 => ?_
  walk_at "rd"
  refine j_lst (by simp) fun pi H2 s2 n2 e2 => ?_
  have npi : H pi = none := s1.free n2
  have nap : pa ≠ pi := ne_of_none e1 n2
  walk_at "rd"
  refine seqL (xs := cs.map V.int) (fun i σ H' => ∃ l0 y pk v5 v6, σ = [some (.ref lm), some (.int (s0 : Int)), some (.ref cl), some (.ref pa), some (.ref pi), v5, v6] ∧ pk.length = i ∧ WS m mv s0 H H' pa pi l0 y pk)
    ⟨[], s0, [], _, _, rfl, rfl, s1.trans s2, s2 _ _ e1, e2, rfl, rfl, fun z hz => by rw [List.mem_singleton.mp hz]; exact hs0, fun p hp => by cases hp⟩ (fun i σ H' _ hp => by obtain ⟨l0, y, pk, v5, v6, _, _, W⟩ := hp; exact SqL.of (W.sm _ _ hcl)) ?_ ?_
  · rintro i z σ H3 hz ⟨l0, y, pk, v5, v6, rfl, hpi, W⟩
    obtain ⟨c, rfl, hci⟩ := get_int hz
    have hil := (List.getElem?_eq_some_iff.mp hci).1
    have L3 := L.same W.sm
    have fl := L3.fl
    have ea := W.ea
    rw [nums_snoc] at ea
    have ei := W.ei
    have hy : y < 2 ^ m := W.lt y (by simp)
    walk_at "rd"
    refine ⟨_, rfl, by rw [List.length_map]; omega, by rw [List.length_map]; omega, ?_⟩
    rw [Int.toNat_natCast, List.length_map, hml]
    refine comp_range (hN mv y) (by omega) (fun k H' hk s R kk => ?_) (fun k H' hk s R2 k2 => ?_) fun fa H4 n4 s4 e4 => ?_
    · obtain ⟨T', v, eT, ev, M⟩ := L3.get hk
      obtain ⟨q', r, cl', hs, f1, Rr, hf, _, f2, p⟩ := M.ex
      have eh : hN mv y k = v.1.2.holds y := by unfold hN; rw [ev]
      rw [eh] at kk
      simp only [subS, List.map_cons, List.map_nil]
      walk_at "rd"
      refine i_ixL (j := k) (s _ _ fl) eT ?_
      walk_at "rd"
      refine i_ixT (s _ _ f1) (v := .ref q') rfl ?_
      walk_at "rd"
      refine i_ixLi (s _ _ ea) (atI_last _ _) ?_
      walk_at "rd"
      refine ⟨m, q', r, y, rfl, hm, Rr.ext (Ext.of s), ?_⟩
      rw [hf]
      walk_at "rd"
      exact kk H' (Same.refl _)
    · simp only [subS, List.map_cons, List.map_nil]
      walk_at "rd"
      exact k2 H' (Same.refl _)
    generalize hF : (List.range mv.length).filter (hN mv y) = F at e4
    have e4l : ((nums F).map V.int).length = F.length := len_nums F
    walk_at "rd"
    refine i_ifd (fun h => ?_) (fun h => ?_)
    · walk_at "rd"
      refine j_tup (by simp) fun TT H5 s5 n5 e5 => ?_
      have W5 : WS m mv s0 H H5 pa pi l0 y pk := ⟨W.sm.trans (s4.trans s5), s5 _ _ (s4 _ _ W.ea), s5 _ _ (s4 _ _ W.ei), W.run, W.ln, W.lt, W.pz⟩
      exact q TT pa pi l0 y pk H5 W5 n1 npi (by omega) e5
    walk_at "rd"
    refine ⟨tyL (s4 _ _ ei), ?_⟩
    walk_at "rd"
    have hFl : 0 < F.length := by omega
    obtain ⟨j, ej, hj⟩ := mod_len c hFl
    rw [e4l]
    (try refine i_rI (by omega) ?_)
    rw [ej]
    refine i_ixL (j := j) e4 (get_nums hj) ?_
    have hmem : F.getD j 0 ∈ F := by rw [List.getD_eq_getElem?_getD, List.getElem?_eq_getElem hj]; exact List.getElem_mem hj
    generalize F.getD j 0 = k at hmem ⊢
    rw [← hF] at hmem
    obtain ⟨hk1, hk2⟩ := List.mem_filter.mp hmem
    rw [List.mem_range] at hk1
    walk_at "rd"
    refine j_append (s4 _ _ ei) (by rw [List.length_map]; omega) fun H5 b5 e5 => ?_
    have ea5 := b5 _ _ nap (s4 _ _ ea)
    have sm5 : Same H H5 := b5.same npi (W.sm.trans s4)
    have L5 := L.same sm5
    have fl5 := L5.fl
    obtain ⟨T', v, eT, ev, M⟩ := L5.get hk1
    obtain ⟨q', r, cl', hs, f1, Rr, hf, _, f2, p⟩ := M.ex
    have hh : v.1.2.holds y = true := by
      unfold hN at hk2
      rw [ev] at hk2
      exact hk2
    have hll : ((nums l0).map V.int ++ [V.int (y : Int)]).length ≤ 200 := by rw [List.length_append, len_nums, W.ln]; simp; omega
    walk_at "rd"
    refine ⟨tyL ea5, ?_⟩
    walk_at "rd"
    refine i_ixLi ea5 (atI_last _ _) ?_
    walk_at "rd"
    refine i_ixLi e5 (atI_last _ _) ?_
    walk_at "rd"
    refine i_ixL (j := k) fl5 eT ?_
    walk_at "rd"
    refine i_ixT f1 (v := .ref cl') rfl ?_
    walk_at "rd"
    refine ⟨y, m, cl', hs, v.2, rfl, hm, f2, p, M.gd.nd, ?_⟩
    walk_at "rd"
    refine j_append ea5 (by omega) fun H6 b6 e6 => ?_
    walk_at "rd"
    refine ⟨l0 ++ [y], onN y v.2, pk ++ [(k : Int)], _, _, rfl, by rw [List.length_append, hpi]; rfl, b6.same n1 sm5, by rw [e6, nums_snoc, nums_snoc], by rw [b6 _ _ nap.symm e5, List.map_append]; rfl, ?_, by rw [List.length_append, List.length_append, W.ln]; rfl, fun z hz => ?_, fun p hp => ?_⟩
    · rw [runW_snoc, W.run]
      show (stepW mv ((l0 ++ [y]).getLastD s0) (k : Int)).map _ = _
      rw [getLastD_snoc, stepW_at ev, hh, if_pos rfl]
      rfl
    · rcases List.mem_append.mp hz with hz | hz
      · exact W.lt z hz
      · rw [List.mem_singleton.mp hz]
        exact onN_lt hy M.gd.lo
    · rcases List.mem_append.mp hp with hp | hp
      · exact W.pz p hp
      · rw [List.mem_singleton.mp hp]
        omega
  · rintro σ H3 ⟨l0, y, pk, v5, v6, rfl, hpi, W⟩
    rw [List.length_map] at hpi
    walk_at "rd"
    refine j_tup (by simp) fun TT H5 s5 n5 e5 => ?_
    have W5 : WS m mv s0 H H5 pa pi l0 y pk := ⟨W.sm.trans s5, s5 _ _ W.ea, s5 _ _ W.ei, W.run, W.ln, W.lt, W.pz⟩
    exact q TT pa pi l0 y pk H5 W5 n1 npi (by omega) e5
def spWrong : Sp := fun vs H Q _ => ∃ (m : Nat) (lm : Addr) (Ts : List Addr) (mv : List Mv) (s : Nat) (way more : Int), vs = [.ref lm, .int (s : Int), .int way, .int more] ∧ m ≤ 6 ∧ LmL m H lm Ts mv ∧ ∀ z H', Same H H' → stepW mv s z = none → z.natAbs < 2 ^ 200 → Q (.int z) H'
theorem ok_wrong (T : Txt K mg t) : FnS P w K mg base 4 "_law_wrong" ["_law_moves", "_law_stand", "_law_way", "_law_more"] (spWrong) := by
  refine ⟨_, _, T.F__law_wrong.ok sc__law_wrong (fun vs H Q E h => ?_) (fun cdv A outer s H vs Q E hr h => ?_), T.b__law_wrong, T.F__law_wrong.kp, T.m__law_wrong⟩
  · obtain ⟨m, lm, Ts, mv, s0, way, more, rfl, hm, L, q⟩ := h
    rfl
  obtain ⟨m, lm, Ts, mv, s0, way, more, rfl, hm, L, q⟩ := h
  have G__law_due := ok_due (P := P) (w := w) (base := base) T
  have hml := paired_len L.ff
  have hsz := L.sz
  have fl := L.fl
  refine ⟨_, (pss_cons (ps_comp 4 sc__law_wrong.nd (sc := defScope s__law_wrong) (N := ["_law_moves", "_law_stand", "_law_way", "_law_more", "_law_unfit", "_law_far"]) (ns := ["_law_stand", "_law_moves"]) (ix := [1, 0]) rfl rfl (by decide +kernel) rfl (pi_range1 rfl T.B.range (pa_cons (pe_callB call_lenG rfl T.B.len bt_len (pa_cons (pv 0) pa_nil)) pa_nil)) (fun _ _ _ _ => (pts_one (pt_not (pt_truthK (K := K) rfl (pe_fn G__law_due hr (pa_cons (pe_ix (ix_seqK (K := K) rfl) (pe_ix (ix_seqK (K := K) rfl) (pv 2) (pv 0) (fun _ _ => rfl)) pe_int (fun _ _ => rfl)) (pa_cons (pv 1) pa_nil))) (fun _ => rfl))))) (fun _ _ _ _ => (pv 0)))
      (pss_cons (ss 5 sc__law_wrong.nd (pe_ix ix_seq (pe_lst (pa_cons pe_int (pa_cons pe_int (pa_cons (pe_op op_pow pe_int pe_int) pa_nil)))) (pe_op op_mod (pv 3) pe_int) (fun _ _ => rfl)))
      (pss_cons (ps_if (pt_cmpR (op_eqA hr.units) (pv 2) pe_int (nomark _))
      (pss_one (ps_ret (pe_op op_sub (pe_un un_neg pe_int) (pe_op op_mod (pe_op op_fdivG (pv 3) pe_int) (pv 5)))))
      pss_nil)
      (pss_cons (ps_if (PW.pt (pw_or (pt_cmpR (op_eqA hr.units) (pv 2) pe_int (nomark _)) (pw_or1 (pt_cmpR (op_eqA hr.units) (pe_callB call_lenG rfl T.B.len bt_len (pa_cons (pv 4) pa_nil)) pe_int (nomark _)))))
      (pss_one (ps_ret (pe_op op_addG (pe_callB call_lenG rfl T.B.len bt_len (pa_cons (pv 0) pa_nil)) (pe_op op_mod (pe_op op_fdivG (pv 3) pe_int) (pv 5)))))
      pss_nil)
      (pss_one (ps_ret (pe_ix ix_seq (pv 4) (pe_op op_mod (pv 3) (pe_callB call_lenG rfl T.B.len bt_len (pa_cons (pv 4) pa_nil))) (fun _ _ => rfl)))))))), ?_⟩
  walk_at "rd0"
  refine ⟨_, rfl, by rw [List.length_map]; omega, by rw [List.length_map]; omega, ?_⟩
  rw [Int.toNat_natCast, List.length_map, hml]
  refine comp_range (fun k => !hN mv s0 k) (by omega) (fun k H' hk s R kk => ?_) (fun k H' hk s R2 k2 => ?_) fun fa H4 n4 s4 e4 => ?_
  · obtain ⟨T', v, eT, ev, M⟩ := L.get hk
    obtain ⟨q', r, cl', hs, f1, Rr, hf, _, f2, p⟩ := M.ex
    have eh : hN mv s0 k = v.1.2.holds s0 := by unfold hN; rw [ev]
    rw [eh] at kk
    simp only [subS, List.map_cons, List.map_nil]
    walk_at "rd"
    refine i_ixL (j := k) (s _ _ fl) eT ?_
    walk_at "rd"
    refine i_ixT (s _ _ f1) (v := .ref q') rfl ?_
    walk_at "rd"
    refine ⟨m, q', r, s0, rfl, hm, Rr.ext (Ext.of s), ?_⟩
    rw [hf]
    walk_at "rd"
    exact kk H' (Same.refl _)
  · simp only [subS, List.map_cons, List.map_nil]
    walk_at "rd"
    exact k2 H' (Same.refl _)
  generalize hF : (List.range mv.length).filter (fun k => !hN mv s0 k) = F at e4
  have e4l : ((nums F).map V.int).length = F.length := len_nums F
  have fl4 := s4 _ _ fl
  have hl4 : (Ts.map V.ref).length = mv.length := by rw [List.length_map, hml]
  walk_at "rd"
  (try refine i_rI (by decide) ?_)
  (try walk_at "rd")
  refine j_lst (by simp) fun fr H5 s5 n5 e5 => ?_
  obtain ⟨j, ej, hj⟩ := mod_len more (show 0 < 3 by decide)
  have ej' : more % 3 = (j : Int) := ej
  walk_at "rd"
  rw [ej']
  obtain ⟨far, ef, hf1, hf2⟩ : ∃ far : Int, ([V.int 9, V.int 9, V.int (10 ^ Int.toNat 30)] : List V)[j]? = some (.int far) ∧ 0 < far ∧ far ≤ 10 ^ 30 := by
    match j, hj with
    | 0, _ => exact ⟨9, rfl, by decide, by decide⟩
    | 1, _ => exact ⟨9, rfl, by decide, by decide⟩
    | 2, _ => exact ⟨10 ^ Int.toNat 30, rfl, by decide, by decide⟩
  refine i_ixL (j := j) e5 ef ?_
  have fl5 := s5 _ _ fl4
  have e45 := s5 _ _ e4
  have g0 := Int.emod_nonneg (more / 3) (show far ≠ 0 by omega)
  have g1 := Int.emod_lt_of_pos (more / 3) hf1
  walk_at "rd"
  refine i_ifd (fun h => ?_) (fun h => ?_)
  · walk_at "rd"
    exact q _ H5 (s4.trans s5) (stepW_neg (by omega)) (by omega)
  walk_at "rd"
  have off : stepW mv s0 (((Ts.map V.ref).length : Int) + more / 3 % far) = none := stepW_off (by rw [hl4]; omega)
  have offz : (((Ts.map V.ref).length : Int) + more / 3 % far).natAbs < 2 ^ 200 := by rw [hl4]; omega
  refine i_ifd (fun h' => ?_) (fun h' => ?_)
  · refine i_ifT rfl ?_
    walk_at "rd"
    exact q _ H5 (s4.trans s5) off offz
  walk_at "rd"
  refine i_ifd (fun h2 => ?_) (fun h2 => ?_)
  · walk_at "rd"
    exact q _ H5 (s4.trans s5) off offz
  walk_at "rd"
  have hFl : 0 < F.length := by omega
  obtain ⟨j2, ej2, hj2⟩ := mod_len more hFl
  rw [e4l]
  (try refine i_rI (by omega) ?_)
  rw [ej2]
  refine i_ixL (j := j2) e45 (get_nums hj2) ?_
  have hmem : F.getD j2 0 ∈ F := by rw [List.getD_eq_getElem?_getD, List.getElem?_eq_getElem hj2]; exact List.getElem_mem hj2
  generalize F.getD j2 0 = k at hmem ⊢
  rw [← hF] at hmem
  obtain ⟨hk1, hk2⟩ := List.mem_filter.mp hmem
  rw [List.mem_range] at hk1
  obtain ⟨T', v, eT, ev, M⟩ := L.get hk1
  have hh : v.1.2.holds s0 = false := by
    unfold hN at hk2
    rw [ev] at hk2
    simpa using hk2
  exact q _ H5 (s4.trans s5) (by rw [stepW_at ev, hh]; rfl) (by omega)
def spOthH (t : Ad) : Addr → Addr → Sp := fun ea C vs H Q _ => vs = [.ref ea] ∧ C = t.C_NoStep ∧ ∀ H', Same H H' → Q (.bl false) H'
theorem ok_of_others (T : Txt K mg t) : FnSH P w K mg base 1 "_law_of_others" ["_law_e"] (spOthH t) := by
  refine ⟨_, _, T.F__law_of_others.okH sc__law_of_others (fun ea C vs H Q E h => ?_) (fun cdv A outer s H vs Q ea C oe hy h => ?_), T.b__law_of_others, T.F__law_of_others.kp, T.m__law_of_others⟩
  · obtain ⟨rfl, _⟩ := h
    rfl
  obtain ⟨rfl, rfl, q⟩ := h
  have hx := T.q_NoStep
  refine ⟨_, (pss_cons (ps_if (pt_truth (pe_callB (call_isiY hx List.mem_cons_self hy.cls hy.dict hy.nk) rfl T.B.isinstance bt_isinstance (pa_cons (pv 0) (pa_cons (pe_tup (pa_cons (pe_glob (v := .ref t.C_NoBar) rfl T.m_NoBar rfl) (pa_cons (pe_glob (v := .ref t.C_NoChart) rfl T.m_NoChart rfl) (pa_cons (pe_glob (v := .ref t.C_NoFence) rfl T.m_NoFence rfl) (pa_cons (pe_glob (v := .ref t.C_NoFormula) rfl T.m_NoFormula rfl) (pa_cons (pe_glob (v := .ref t.C_NoFrame) rfl T.m_NoFrame rfl) (pa_cons (pe_glob (v := .ref t.C_NoLine) rfl T.m_NoLine rfl) pa_nil))))))) pa_nil))) (fun _ => rfl))
      (pss_one (ps_ret pe_bl))
      pss_nil)
      (pss_one (ps_ret (pe_callB (call_isiY hx List.mem_cons_self hy.cls hy.dict hy.nk) rfl T.B.isinstance bt_isinstance (pa_cons (pv 0) (pa_cons (pe_tup (pa_cons (pe_glob (v := .ref t.C_NoMachine) rfl T.m_NoMachine rfl) (pa_cons (pe_glob (v := .ref t.C_NoName) rfl T.m_NoName rfl) (pa_cons (pe_glob (v := .ref t.C_NotShut) rfl T.m_NotShut rfl) (pa_cons (pe_glob (v := .ref t.C_NothingLeft) rfl T.m_NothingLeft rfl) (pa_cons (pe_glob (v := .ref t.C_TooMany) rfl T.m_TooMany rfl) pa_nil)))))) pa_nil)))))), ?_⟩
  walk_at "rd0"
  refine j_tup (Nat.le_of_ble_eq_true rfl) fun p1 H2 s2 n2 e2 => ?_
  walk_at "rd"
  refine i_isiXN (cs := [t.C_NoBar, t.C_NoChart, t.C_NoFence, t.C_NoFormula, t.C_NoFrame, t.C_NoLine]) e2 (fun d hd => ?_) ?_
  · simp only [List.mem_cons, List.not_mem_nil, or_false] at hd
    rcases hd with rfl | rfl | rfl | rfl | rfl | rfl
    all_goals first | exact T.xz_NoStep_NoBar | exact T.xz_NoStep_NoChart | exact T.xz_NoStep_NoFence | exact T.xz_NoStep_NoFormula | exact T.xz_NoStep_NoFrame | exact T.xz_NoStep_NoLine
  walk_at "rd"
  refine i_ifF rfl ?_
  walk_at "rd"
  refine j_tup (Nat.le_of_ble_eq_true rfl) fun p2 H3 s3 n3 e3 => ?_
  walk_at "rd"
  refine i_isiXN (cs := [t.C_NoMachine, t.C_NoName, t.C_NotShut, t.C_NothingLeft, t.C_TooMany]) e3 (fun d hd => ?_) ?_
  · simp only [List.mem_cons, List.not_mem_nil, or_false] at hd
    rcases hd with rfl | rfl | rfl | rfl | rfl
    all_goals first | exact T.xz_NoStep_NoMachine | exact T.xz_NoStep_NoName | exact T.xz_NoStep_NotShut | exact T.xz_NoStep_NothingLeft | exact T.xz_NoStep_TooMany
  exact q H3 (s2.trans s3)
def spRefused (t : Ad) : Sp := fun vs H Q _ => ∃ (m : Nat) (x lp : Addr) (mv0 : List Mv) (s : Nat) (pk : List Int), vs = [.ref x, .int (s : Int), .ref lp] ∧ m ≤ 6 ∧ MacL t H x mv0 ∧ (∀ u ∈ mv0, GoodMv m u) ∧ s < 2 ^ m ∧ H lp = some (.lst (pk.map V.int)) ∧ pk.length ≤ 100 ∧ (∀ p ∈ pk, p.natAbs < 2 ^ 200) ∧ runW mv0 s pk = none ∧ ∀ H', Same H H' → Q (.bl true) H'
theorem ok_refused (T : Txt K mg t) : FnS P w K mg base 66 "_law_refused" ["_law_machine", "_law_stand", "_law_picks"] (spRefused t) := by
  refine ⟨_, _, T.F__law_refused.ok sc__law_refused (fun vs H Q E h => ?_) (fun cdv A outer s H vs Q E hr h => ?_), T.b__law_refused, T.F__law_refused.kp, T.m__law_refused⟩
  · obtain ⟨m, x, lp, mv0, s0, pk, rfl, hm, M, g0, hs, hl, hz, hpz, hr0, q⟩ := h
    rfl
  obtain ⟨m, x, lp, mv0, s0, pk, rfl, hm, M, g0, hs, hl, hz, hpz, hr0, q⟩ := h
  have D_walked := D_walked_of (P := P) (w := w) (base := base) T
  have G__law_of_others := ok_of_others (P := P) (w := w) (base := base) T
  obtain ⟨dx, nn, sS, bb, vv, xs, sp, bp, ms, mv, A, hdv⟩ := M
  have g := good_all hdv g0
  have hr1 : runW mv s0 pk = none := by rw [runW_dv hdv]; exact hr0
  refine ⟨_, (pss_cons (ss 3 sc__law_refused.nd pe_bl)
      (pss_cons (ps_try (psx_expr (pex_dy D_walked hr (pv 0) (pa_cons (pv 1) (pa_cons (pe_callTy call_listG rfl T.B.list bt_list (pa_cons (pv 2) pa_nil)) pa_nil))))
      (ph_exc ⟨rfl, T.m_NoStep, T.ty_NoStep, T.cl_NoStep, T.mb_NoStep, by decide⟩ (fun _ _ _ _ _ _ => (pss_one (ss 3 sc__law_refused.nd pe_bl)))
      ph_nil))
      (pss_cons (ss 4 sc__law_refused.nd pe_bl)
      (pss_cons (ps_try (psx_expr (pex_dy D_walked hr (pv 0) (pa_cons (pv 1) (pa_cons (pe_callTy call_listG rfl T.B.list bt_list (pa_cons (pv 2) pa_nil)) pa_nil))))
      (ph_excAsN (i := 5) ⟨rfl, T.m_EverError, T.ty_EverError, T.cl_EverError, T.mb_EverError, by decide⟩ sc__law_refused.nd rfl rfl (fun ea oe C pn h1 h2 h3 h4 hx => (pss_one (ss 4 sc__law_refused.nd (pe_and (pe_callB (call_isiX hx h1 h2 h3 h4) (by rfl) T.B.isinstance bt_isinstance (pa_cons (pv 5) (pa_cons (pe_bltn (v := .ty "ValueError") (by rfl) T.b_ValueError (by decide +kernel) rfl) pa_nil))) (pe_one (pe_notGK (K := K) (by rfl) (pe_fnH G__law_of_others hr h1 h2 h3 h4 (by rfl) rfl (pa_cons (pv 5) pa_nil))))))))
      (ph_exc ⟨rfl, T.m_NoStep, T.ty_NoStep, T.cl_NoStep, T.mb_NoStep, by decide⟩ (fun _ _ _ _ _ _ => (pss_one (ss 4 sc__law_refused.nd pe_bl)))
      ph_nil)))
      (pss_one (ps_ret (pe_and (pv 3) (pe_one (pv 4))))))))), ?_⟩
  walk_at "rd0"
  refine i_tryX ?_
  refine i_dyX ?_
  walk_at "rd"
  refine ⟨x, _, _, _, rfl, A.ob, rfl, lm_no _ _ _ _ _ (by decide +kernel) (by decide +kernel) (by decide +kernel) (by decide +kernel), ?_⟩
  walk_at "rd"
  refine j_list (.inl (SqL.of hl)) fun l1 H1 s1 n1 e1 => ?_
  have A1 := A.ext (Ext.of s1)
  walk_at "rd"
  refine ⟨A1.ob, x, dx, nn, sS, bb, vv, xs, sp, bp, ms, mv, s0, m, l1, pk, rfl, A1, hm, g, hs, e1, hz, hpz, fun _ H2 s2 => ⟨_, rfl, ?_⟩, fun l h => (by rw [hr1] at h; cases h)⟩
  refine i_handT T.xs_NoStep_NoStep ?_
  have s12 : Same H H2 := s1.trans s2
  have A2 := A.ext (Ext.of s12)
  walk_at "rd"
  refine i_tryX ?_
  refine i_dyX ?_
  walk_at "rd"
  refine ⟨x, _, _, _, rfl, A2.ob, rfl, lm_no _ _ _ _ _ (by decide +kernel) (by decide +kernel) (by decide +kernel) (by decide +kernel), ?_⟩
  walk_at "rd"
  refine j_list (.inl (SqL.of (s12 _ _ hl))) fun l3 H3 s3 n3 e3 => ?_
  have A3 := A2.ext (Ext.of s3)
  walk_at "rd"
  refine ⟨A3.ob, x, dx, nn, sS, bb, vv, xs, sp, bp, ms, mv, s0, m, l3, pk, rfl, A3, hm, g, hs, e3, hz, hpz, fun _ H4 s4 => ⟨_, rfl, ?_⟩, fun l h => (by rw [hr1] at h; cases h)⟩
  refine i_handT T.xs_NoStep_EverError ?_
  refine i_asN T.q_NoStep fun ea => ?_
  (try dsimp only [List.set_cons_succ, List.set_cons_zero])
  walk_at "rd"
  refine i_isiXT T.v_NoStep ?_
  walk_at "rd"
  refine i_ifT rfl ?_
  walk_at "rd"
  refine i_fnH ?_
  walk_at "rd"
  refine ⟨rfl, rfl, fun H5 s5 => ?_⟩
  walk_at "rd"
  (try dsimp only [List.set_cons_succ, List.set_cons_zero])
  walk_at "rd"
  refine i_ifT rfl ?_
  walk_at "rd"
  exact q H5 (s12.trans (s3.trans (s4.trans s5)))
theorem wV_cases (s o : Nat) (mv : List Mv) : (∃ k : Nat, wV s o mv = .int (k : Int)) ∨ wV s o mv = .non := by
  unfold wV
  cases mv.findIdx? (fitN s o) with
  | none => exact .inr rfl
  | some k => exact .inl ⟨k, rfl⟩
def spWh (t : Ad) : Sp := fun vs H Q _ => ∃ (m : Nat) (x lm : Addr) (Ts : List Addr) (mv0 : List Mv) (s o : Nat), vs = [.ref x, .ref lm, .int (s : Int), .int (o : Int)] ∧ m ≤ 6 ∧ MacL t H x mv0 ∧ LmL m H lm Ts mv0 ∧ ∀ H', Same H H' → Q (.bl true) H'
theorem ok_which (T : Txt K mg t) : FnS P w K mg base 66 "_law_which" ["_law_machine", "_law_moves", "_law_stand", "_law_other"] (spWh t) := by
  refine ⟨_, _, T.F__law_which.ok sc__law_which (fun vs H Q E h => ?_) (fun cdv A outer s H vs Q E hr h => ?_), T.b__law_which, T.F__law_which.kp, T.m__law_which⟩
  · obtain ⟨m, x, lm, Ts, mv0, s0, o, rfl, hm, M, L, q⟩ := h
    rfl
  obtain ⟨m, x, lm, Ts, mv0, s0, o, rfl, hm, M, L, q⟩ := h
  have G__law_first := ok_first (P := P) (w := w) (base := base) T
  have D_which := D_which_of (P := P) (w := w) (base := base) T
  obtain ⟨dx, nn, sS, bb, vv, xs, sp, bp, ms, mv, A, hdv⟩ := M
  have g := good_all hdv L.good
  refine ⟨_, (pss_cons (ss 4 sc__law_which.nd (pe_dy D_which hr (pv 0) (pa_cons (pv 2) (pa_cons (pv 3) pa_nil))))
      (pss_cons (ss 5 sc__law_which.nd (pe_fn G__law_first hr (pa_cons (pv 1) (pa_cons (pv 2) (pa_cons (pv 3) pa_nil)))))
      (pss_cons (ps_if (pt_cmpR op_isN (pv 5) pe_non (nomark _))
      (pss_one (ps_ret (pe_cmpR op_isN (pv 4) pe_non (nomark _))))
      pss_nil)
      (pss_one (ps_ret (pe_and (pe_callB call_isi rfl T.B.isinstance bt_isinstance (pa_cons (pv 4) (pa_cons (pe_bltn (v := .ty "int") rfl T.B.int bt_int rfl) pa_nil))) (pe_and (pe_notG (pe_callB call_isi rfl T.B.isinstance bt_isinstance (pa_cons (pv 4) (pa_cons (pe_bltn (v := .ty "bool") rfl T.B.bool bt_bool rfl) pa_nil)))) (pe_one (pe_cmpR (op_eqA hr.units) (pv 4) (pv 5) (nomark _)))))))))), ?_⟩
  walk_at "rd0"
  refine ⟨x, _, _, _, rfl, A.ob, rfl, lm_no _ _ _ _ _ (by decide +kernel) (by decide +kernel) (by decide +kernel) (by decide +kernel), ?_⟩
  walk_at "rd"
  refine ⟨A.ob, x, dx, nn, sS, bb, vv, xs, sp, bp, ms, mv, s0, o, m, rfl, A, hm, g, fun H1 s1 => ?_⟩
  rw [wV_dv hdv]
  walk_at "rd"
  refine ⟨m, lm, Ts, mv0, s0, o, rfl, hm, L.same s1, ?_⟩
  rcases wV_cases s0 o mv0 with ⟨k, hk⟩ | hk
  · rw [hk]
    walk_at "rd"
    refine ⟨rfl, ?_⟩
    walk_at "rd"
    refine i_ifF (decide_eq_false (by intro z; cases z)) ?_
    walk_at "rd"
    refine i_ifT rfl ?_
    walk_at "rd"
    refine i_ifT rfl ?_
    walk_at "rd"
    rw [decide_eq_true rfl]
    exact q H1 s1
  · rw [hk]
    walk_at "rd"
    refine ⟨rfl, ?_⟩
    walk_at "rd"
    refine i_ifT (decide_eq_true rfl) ?_
    walk_at "rd"
    refine ⟨rfl, ?_⟩
    rw [decide_eq_true rfl]
    exact q H1 s1
def spWhichs (t : Ad) : Sp := fun vs H Q _ => ∃ (m : Nat) (x lm pa : Addr) (Ts : List Addr) (mv0 : List Mv) (l0 : List Nat) (y b : Nat), vs = [.ref x, .ref lm, .ref pa, .int (b : Int)] ∧ m ≤ 6 ∧ MacL t H x mv0 ∧ LmL m H lm Ts mv0 ∧ H pa = some (.lst ((nums (l0 ++ [y])).map V.int)) ∧ l0.length ≤ 100 ∧ ∀ H', Same H H' → Q (.bl true) H'
theorem ok_whichs (T : Txt K mg t) : FnS P w K mg base 67 "_law_whichs" ["_law_machine", "_law_moves", "_law_passed", "_law_beside"] (spWhichs t) := by
  refine ⟨_, _, T.F__law_whichs.ok sc__law_whichs (fun vs H Q E h => ?_) (fun cdv A outer s H vs Q E hr h => ?_), T.b__law_whichs, T.F__law_whichs.kp, T.m__law_whichs⟩
  · obtain ⟨m, x, lm, pa, Ts, mv0, l0, y, b, rfl, hm, M, L, hp, hz, q⟩ := h
    rfl
  obtain ⟨m, x, lm, pa, Ts, mv0, l0, y, b, rfl, hm, M, L, hp, hz, q⟩ := h
  have G__law_which := ok_which (P := P) (w := w) (base := base) T
  have G__law_onward := ok_onward (P := P) (w := w) (base := base) T
  have hpl : ((nums (l0 ++ [y])).map V.int).length = l0.length + 1 := by rw [len_nums, List.length_append]; rfl
  refine ⟨_, (pss_cons (ps_for PassesOwn.never rfl (pi_range1 rfl T.B.range (pa_cons (pe_op op_sub (pe_callB call_lenG rfl T.B.len bt_len (pa_cons (pv 2) pa_nil)) pe_int) pa_nil)) (sg 4 sc__law_whichs.nd)
      (pss_one (ps_if (pt_not (pt_truth (pe_fn G__law_which hr (pa_cons (pv 0) (pa_cons (pv 1) (pa_cons (pe_ix ix_seq (pv 2) (pv 4) (fun _ _ => rfl)) (pa_cons (pe_ix ix_seq (pv 2) (pe_op op_addG (pv 4) pe_int) (fun _ _ => rfl)) pa_nil))))) (fun _ => rfl)))
      (pss_one (ps_ret pe_bl))
      pss_nil)))
      (pss_cons (ps_for PassesOwn.never rfl (pi_seq (pv 1)) (pg_tup rfl (pgs_cons (sg 5 sc__law_whichs.nd) (pgs_cons (sg 6 sc__law_whichs.nd) pgs_nil)))
      (pss_one (ps_if (pt_not (pt_truth (pe_fn G__law_which hr (pa_cons (pv 0) (pa_cons (pv 1) (pa_cons (pv 3) (pa_cons (pe_fn G__law_onward hr (pa_cons (pv 3) (pa_cons (pv 6) pa_nil))) pa_nil))))) (fun _ => rfl)))
      (pss_one (ps_ret pe_bl))
      pss_nil)))
      (pss_one (ps_ret (pe_fn G__law_which hr (pa_cons (pv 0) (pa_cons (pv 1) (pa_cons (pe_ix ix_seq (pv 2) (pe_un un_neg pe_int) (fun _ _ => rfl)) (pa_cons (pv 3) pa_nil))))))))), ?_⟩
  walk_at "rd0"
  rw [hpl]
  refine ⟨_, rfl, by omega, by omega, ?_⟩
  rw [show (((l0.length + 1 : Nat) : Int) - 1).toNat = l0.length by omega]
  refine loopR (fun i σ H' => Same H H' ∧ ∃ v4, σ = [some (.ref x), some (.ref lm), some (.ref pa), some (.int (b : Int)), v4, none, none]) ⟨Same.refl _, _, rfl⟩ ?_ ?_
  · rintro i σ H1 hi ⟨s1, v4, rfl⟩
    rw [Int.zero_add]
    have hp1 := s1 _ _ hp
    walk_at "rd"
    refine i_ixL (j := i) hp1 (get_nums (by rw [List.length_append]; omega)) ?_
    walk_at "rd"
    rw [show ((i : Int) + 1) = ((i + 1 : Nat) : Int) by omega]
    refine i_ixL (j := i + 1) hp1 (get_nums (by rw [List.length_append]; simp; omega)) ?_
    walk_at "rd"
    refine ⟨m, x, lm, Ts, mv0, _, _, rfl, hm, M.ext (Ext.of s1), L.same s1, fun H2 s2 => ?_⟩
    walk_at "rd"
    refine i_ifF rfl ?_
    walk_at "rd"
    exact ⟨s1.trans s2, _, rfl⟩
  rintro σ H1 ⟨s1, v4, rfl⟩
  walk_at "rd"
  refine seqL (xs := Ts.map V.ref) (fun i σ H' => Same H H' ∧ ∃ v5 v6, σ = [some (.ref x), some (.ref lm), some (.ref pa), some (.int (b : Int)), v4, v5, v6]) ⟨s1, _, _, rfl⟩ (fun i σ H' _ hp => SqL.of (hp.1 _ _ L.fl)) ?_ ?_
  · rintro i z σ H2 hz' ⟨s2, v5, v6, rfl⟩
    obtain ⟨T', rfl, hx'⟩ := get_ref hz'
    obtain ⟨v, hgi, Mv'⟩ := paired_get (L.same s2).ff hx'
    obtain ⟨q', r, cl, hs, e1, R, hf, _, e2, p⟩ := Mv'.ex
    refine i_gN2 e1 ?_
    walk_at "rd"
    refine ⟨b, m, cl, hs, v.2, rfl, hm, e2, p, Mv'.gd.nd, ?_⟩
    walk_at "rd"
    refine ⟨m, x, lm, Ts, mv0, _, _, rfl, hm, M.ext (Ext.of s2), L.same s2, fun H3 s3 => ?_⟩
    walk_at "rd"
    refine i_ifF rfl ?_
    walk_at "rd"
    exact ⟨s2.trans s3, _, _, rfl⟩
  · rintro σ H2 ⟨s2, v5, v6, rfl⟩
    have hp2 := s2 _ _ hp
    rw [nums_snoc] at hp2
    walk_at "rd"
    refine i_ixLi hp2 (atI_last _ _) ?_
    walk_at "rd"
    exact ⟨m, x, lm, Ts, mv0, y, b, rfl, hm, M.ext (Ext.of s2), L.same s2, fun H3 s3 => q H3 (s2.trans s3)⟩
theorem ok_law (T : Txt K mg t) : FnOk P w K mg base CX0 70 t.f_law t.d_law ["_law_script"] (spLaw K) := by
  refine T.F_law.ok sc_law (fun vs H Q E h => ?_) (fun cdv A outer s H vs Q E hr h => ?_)
  · obtain ⟨a, ns, rfl, _⟩ := h
    rfl
  obtain ⟨sc, ns, rfl, hS, h63, hO, q⟩ := h
  have G__law_cell_at := ok_cell_at (P := P) (w := w) (base := base) T
  have G__law_recipe := ok_recipe (P := P) (w := w) (base := base) T
  have G__law_changes := ok_changes (P := P) (w := w) (base := base) T
  have G__law_machines := ok_machines (P := P) (w := w) (base := base) T
  have G__law_walk := ok_walk (P := P) (w := w) (base := base) T
  have G__law_wrong := ok_wrong (P := P) (w := w) (base := base) T
  have G__law_refused := ok_refused (P := P) (w := w) (base := base) T
  have G__law_whichs := ok_whichs (P := P) (w := w) (base := base) T
  have D_walked := D_walked_of (P := P) (w := w) (base := base) T
  obtain ⟨m, hm, hm1, hm6⟩ : ∃ m : Nat, 1 + cell ns 0 % 6 = (m : Int) ∧ 1 ≤ m ∧ m ≤ 6 := ⟨(1 + cell ns 0 % 6).toNat, by omega, by omega, by omega⟩
  obtain ⟨ct, hct, hct9⟩ : ∃ k : Nat, cell ns 0 / 6 % 9 = (k : Int) ∧ k < 9 := ⟨(cell ns 0 / 6 % 9).toNat, by omega, by omega⟩
  have hp := pow_small hm6
  have hp0 : 0 < 2 ^ m := Nat.two_pow_pos m
  refine ⟨_, (pss_cons (ss 1 sc_law.nd (pe_fn G__law_cell_at hr (pa_cons (pv 0) (pa_cons pe_int pa_nil))))
      (pss_cons (ss 2 sc_law.nd (pe_op op_addG pe_int (pe_op op_mod (pv 1) pe_int)))
      (pss_cons (ss 3 sc_law.nd (pe_op op_mod (pe_op op_fdivG (pv 1) pe_int) pe_int))
      (pss_cons (ss 4 sc_law.nd (pe_fn G__law_cell_at hr (pa_cons (pv 0) (pa_cons pe_int pa_nil))))
      (pss_cons (ss 5 sc_law.nd (pe_lst pa_nil))
      (pss_cons (ps_for PassesOwn.never rfl (pi_range1 rfl T.B.range (pa_cons (pv 3) pa_nil)) (sg 6 sc_law.nd)
      (pss_cons (ss 7 sc_law.nd (pe_fn G__law_recipe hr (pa_cons (pe_fn G__law_cell_at hr (pa_cons (pv 0) (pa_cons (pe_op op_addG pe_int (pe_op op_mulG pe_int (pv 6))) pa_nil))) (pa_cons (pv 2) pa_nil))))
      (pss_one (ps_expr (pe_bm PySem.F.plainAttrs_list PySem.F.slot_list_append PySem.F.type_list_append mt_append (pv 5) (pa_cons (pe_tup (pa_cons (pv 7) (pa_cons (pe_fn G__law_changes hr (pa_cons (pe_fn G__law_cell_at hr (pa_cons (pv 0) (pa_cons (pe_op op_addG pe_int (pe_op op_mulG pe_int (pv 6))) pa_nil))) (pa_cons (pv 2) pa_nil))) pa_nil))) pa_nil))))))
      (pss_cons (ps_asg (pe_fn G__law_machines hr (pa_cons (pv 2) (pa_cons (pv 5) pa_nil))) (pg_tup rfl (pgs_cons (sg 8 sc_law.nd) (pgs_cons (sg 9 sc_law.nd) pgs_nil))))
      (pss_cons (ss 10 sc_law.nd (pe_op op_mod (pe_op op_fdivG (pv 4) pe_int) (pe_op op_shl pe_int (pv 2))))
      (pss_cons (ps_asg (pe_fn G__law_walk hr (pa_cons (pv 5) (pa_cons (pv 10) (pa_cons (pe_slice sl_any (pv 0) (po_some pe_int) (po_some pe_int)) pa_nil)))) (pg_tup rfl (pgs_cons (sg 11 sc_law.nd) (pgs_cons (sg 12 sc_law.nd) pgs_nil))))
      (pss_cons (ps_if (pt_cmpR op_gt (pe_op op_mod (pv 4) pe_int) pe_int (nomark _))
      (pss_cons (ss 13 sc_law.nd (pe_op op_mod (pe_op op_fdivG (pv 1) pe_int) (pe_callB call_lenG rfl T.B.len bt_len (pa_cons (pv 11) pa_nil))))
      (pss_cons (ss 14 sc_law.nd (pe_fn G__law_wrong hr (pa_cons (pv 5) (pa_cons (pe_ix ix_seq (pv 11) (pv 13) (fun _ _ => rfl)) (pa_cons (pe_op op_mod (pv 4) pe_int) (pa_cons (pe_op op_fdivG (pv 1) pe_int) pa_nil))))))
      (pss_one (ps_if (pt_not (pt_truth (pe_fn G__law_refused hr (pa_cons (pv 8) (pa_cons (pv 10) (pa_cons (pe_op op_addG (pe_op op_addG (pe_slice sl_any (pv 12) po_none (po_some (pv 13))) (pe_lst (pa_cons (pv 14) pa_nil))) (pe_slice sl_any (pv 12) (po_some (pv 13)) po_none)) pa_nil)))) (fun _ => rfl)))
      (pss_one (ps_ret pe_bl))
      pss_nil))))
      pss_nil)
      (pss_cons (ss 15 sc_law.nd (pe_callTy call_listG rfl T.B.list bt_list (pa_cons (pv 12) pa_nil)))
      (pss_cons (ss 16 sc_law.nd (pe_dy1 D_walked hr (pv 8) (pa_cons (pv 10) (pa_cons (pv 15) pa_nil))))
      (pss_cons (ps_if (PW.pt (pw_or (pt_cmpR (op_neA hr.units) (pv 15) (pv 12) (nomark _)) (pw_or (pt_not (pt_truth (pe_callB call_isi rfl T.B.isinstance bt_isinstance (pa_cons (pv 16) (pa_cons (pe_bltn (v := .ty "list") rfl T.B.list bt_list rfl) pa_nil))) (fun _ => rfl))) (pw_or1 (pt_cmpR (op_neA hr.units) (pe_callB call_lenG rfl T.B.len bt_len (pa_cons (pv 16) pa_nil)) (pe_callB call_lenG rfl T.B.len bt_len (pa_cons (pv 11) pa_nil)) (nomark _))))))
      (pss_one (ps_ret pe_bl))
      pss_nil)
      (pss_cons (ps_for PassesOwn.never rfl (pi_range1 rfl T.B.range (pa_cons (pe_callB call_lenG rfl T.B.len bt_len (pa_cons (pv 11) pa_nil)) pa_nil)) (sg 6 sc_law.nd)
      (pss_one (ps_if (PW.pt (pw_or (pt_not (pt_truth (pe_callB call_isi rfl T.B.isinstance bt_isinstance (pa_cons (pe_ix ix_seq (pv 16) (pv 6) (fun _ _ => rfl)) (pa_cons (pe_bltn (v := .ty "int") rfl T.B.int bt_int rfl) pa_nil))) (fun _ => rfl))) (pw_or (pt_truth (pe_callB call_isi rfl T.B.isinstance bt_isinstance (pa_cons (pe_ix ix_seq (pv 16) (pv 6) (fun _ _ => rfl)) (pa_cons (pe_bltn (v := .ty "bool") rfl T.B.bool bt_bool rfl) pa_nil))) (fun _ => rfl)) (pw_or1 (pt_cmpR (op_neA hr.units) (pe_ix ix_seq (pv 16) (pv 6) (fun _ _ => rfl)) (pe_ix ix_seq (pv 11) (pv 6) (fun _ _ => rfl)) (nomark _))))))
      (pss_one (ps_ret pe_bl))
      pss_nil)))
      (pss_cons (ss 17 sc_law.nd (pe_op op_mod (pe_op op_fdivG (pv 4) pe_int) (pe_op op_shl pe_int (pv 2))))
      (pss_cons (ps_if (pt_not (pt_truth (pe_fn G__law_whichs hr (pa_cons (pv 9) (pa_cons (pe_listrev rfl rfl T.B.list rfl T.B.reversed (pv 5)) (pa_cons (pv 11) (pa_cons (pv 17) pa_nil))))) (fun _ => rfl)))
      (pss_one (ps_ret pe_bl))
      pss_nil)
      (pss_one (ps_ret (pe_fn G__law_whichs hr (pa_cons (pv 8) (pa_cons (pv 5) (pa_cons (pv 11) (pa_cons (pv 17) pa_nil))))))))))))))))))))))), ?_⟩
  walk_at "rd0"
  refine ⟨sc, ns, 0, rfl, hS, ?_⟩
  walk_at "rd"
  rw [hm, hct]
  refine ⟨sc, ns, 1, rfl, hS, ?_⟩
  walk_at "rd"
  refine j_lst (by simp) fun lm H1 s1 n1 e1 => ?_
  walk_at "rd"
  refine ⟨_, rfl, by omega, by omega, ?_⟩
  rw [Int.toNat_natCast]
  refine loopR (fun k σ H' => ∃ Ts mv v6 v7, σ = [some (.ref sc), some (.int (cell ns 0)), some (.int (m : Int)), some (.int (ct : Int)), some (.int (cell ns 1)), some (.ref lm), v6, v7, none, none, none, none, none, none, none, none, none, none] ∧ Same H H' ∧ H' lm = some (.lst (Ts.map V.ref)) ∧ Paired (LMv m (fun a => a = lm) H') Ts mv ∧ Ts.length = k) ⟨[], [], _, _, rfl, s1, e1, .nil, rfl⟩ ?_ ?_
  · rintro k σ H2 hk ⟨Ts, mv, v6, v7, rfl, s2, e2, p2, l2⟩
    rw [Int.zero_add]
    walk_at "rd"
    refine i_mulI (.inl ⟨by decide, by decide⟩) ?_
    walk_at "rd"
    rw [show (2 : Int) + 2 * (k : Int) = ((2 + 2 * k : Nat) : Int) by omega]
    refine ⟨sc, ns, 2 + 2 * k, rfl, s2.seq hS, ?_⟩
    walk_at "rd"
    refine ⟨_, m, rfl, hm1, hm6, fun gq r H3 s3 n3 R3 => ?_⟩
    walk_at "rd"
    refine ⟨tyL (s3 _ _ e2), ?_⟩
    walk_at "rd"
    refine i_mulI (.inl ⟨by decide, by decide⟩) ?_
    walk_at "rd"
    rw [show (3 : Int) + 2 * (k : Int) = ((3 + 2 * k : Nat) : Int) by omega]
    refine ⟨sc, ns, 3 + 2 * k, rfl, (s2.trans s3).seq hS, ?_⟩
    walk_at "rd"
    refine ⟨_, m, rfl, hm1, hm6, fun cl hs cs H4 s4 n4 e4 p4 nd4 z4 => ?_⟩
    walk_at "rd"
    refine j_tup (by simp) fun T' H5 s5 n5 e5 => ?_
    have e25 := s5 _ _ (s4 _ _ (s3 _ _ e2))
    walk_at "rd"
    refine j_append e25 (by rw [List.length_map]; omega) fun H6 b6 e6 => ?_
    have x6 : Ext H5 H6 := b6.ext e25
    have ncl : cl ≠ lm := (ne_of_none (s3 _ _ e2) n4).symm
    have o6 : OffX (fun a => a = lm) H2 H6 := (OffX.of (s3.trans (s4.trans s5))).trans (OffX.but rfl e25 b6)
    have M : LMv m (fun a => a = lm) H6 T' ((0, recF r), cs) := ⟨⟨gq, r, cl, hs, b6 _ _ (ne_of e5 e25 (fun z => nomatch z)) e5, R3.ext ((Ext.of (s4.trans s5)).trans x6), rfl, ncl, b6 _ _ ncl (s5 _ _ e4), paired_imp (fun _ _ q => q.ext ((Ext.of s5).trans x6)) p4⟩, ⟨chr_lo p4, nd4⟩, z4⟩
    walk_at "rd"
    exact ⟨Ts ++ [T'], mv ++ [((0, recF r), cs)], _, _, rfl, b6.same n1 (s2.trans (s3.trans (s4.trans s5))), by rw [e6, List.map_append]; rfl, paired_append (paired_imp (fun _ _ q => q.off o6) p2) (.cons M .nil), by rw [List.length_append, l2]; rfl⟩
  rintro σ H2 ⟨Ts, mv, v6, v7, rfl, s2, e2, p2, l2⟩
  have L : LmL m H2 lm Ts mv := ⟨e2, paired_imp (fun _ _ q => q.free) p2, by omega⟩
  have gd := L.good
  walk_at "rd"
  refine ⟨m, lm, Ts, mv, rfl, hm6, L, fun TT x y H3 s3 e3 Mx My => ?_⟩
  refine i_gN2 e3 ?_
  walk_at "rd"
  rw [shl_nat]
  (try refine i_rI (by omega) ?_)
  obtain ⟨st, est, hst⟩ := mod_len (cell ns 1 / 4) hp0
  rw [est]
  walk_at "rd"
  refine .inl (j_sl ((s2.trans s3).seq hS) ((cut_mid _ 2 62).trans (map_int_mid ns 2 60)) fun cl H4 s4 n4 e4 => ?_)
  walk_at "rd"
  refine ⟨m, lm, cl, Ts, mv, st, _, rfl, hm6, hst, L.same (s3.trans s4), e4, by rw [List.length_take]; omega, fun T5 pa pi l0 y0 pk H5 W n5 n6 hpk e5 => ?_⟩
  refine i_gN2 e5 ?_
  have s5 : Same H2 H5 := s3.trans (s4.trans W.sm)
  have L5 := L.same s5
  have Mx5 := Mx.ext (Ext.of (s4.trans W.sm))
  have My5 := My.ext (Ext.of (s4.trans W.sm))
  have ea := W.ea
  have ei := W.ei
  have run := W.run
  have lt := W.lt
  have pz := W.pz
  have hln := W.ln
  clear W
  have hpl : ((nums (l0 ++ [y0])).map V.int).length = l0.length + 1 := by rw [len_nums, List.length_append]; rfl
  (try dsimp only [List.set_cons_succ, List.set_cons_zero])
  refine i_join (fun σ H' => Same H5 H' ∧ ∃ v13 v14, σ = [some (.ref sc), some (.int (cell ns 0)), some (.int (m : Int)), some (.int (ct : Int)), some (.int (cell ns 1)), some (.ref lm), v6, v7, some (.ref x), some (.ref y), some (.int (st : Int)), some (.ref pa), some (.ref pi), v13, v14, none, none, none]) ?_ ?_
  rotate_left
  · intro Kn hK
    walk_at "rd"
    refine i_ifd (fun h => ?_) (fun h => ?_)
    · walk_at "rd"
      obtain ⟨pl, epl, hpl'⟩ := mod_len (cell ns 0 / 54) (n := ((nums (l0 ++ [y0])).map V.int).length) (by rw [hpl]; omega)
      (try refine i_rI (by rw [hpl]; omega) ?_)
      rw [epl]
      rw [hpl] at hpl'
      walk_at "rd"
      have hpx : pl < (l0 ++ [y0]).length := by rw [List.length_append]; simp; omega
      refine i_ixL (j := pl) ea (get_nums hpx) ?_
      walk_at "rd"
      refine ⟨m, lm, Ts, mv, _, _, _, rfl, hm6, L5, fun z H6 s6 hz1 hz2 => ?_⟩
      have ei6 := s6 _ _ ei
      walk_at "rd"
      refine .inl (j_sl (SqL.of ei6) (cut_to (by rw [List.length_map]; omega)) fun a7 H7 s7 n7 e7 => ?_)
      walk_at "rd"
      refine j_lst (by simp) fun a8 H8 s8 n8 e8 => ?_
      refine j_add (s8 _ _ e7) e8 (by rw [List.length_take, List.length_map]; simp; omega) fun a9 H9 s9 n9 e9 => ?_
      walk_at "rd"
      refine .inl (j_sl (SqL.of (s9 _ _ (s8 _ _ (s7 _ _ ei6)))) (cut_from (by rw [List.length_map]; omega)) fun a10 H10 s10 n10 e10 => ?_)
      refine j_add (s10 _ _ e9) e10 (by rw [List.length_append, List.length_take, List.length_drop, List.length_map]; simp; omega) fun a11 H11 s11 n11 e11 => ?_
      have e11' : H11 a11 = some (.lst ((pk.take pl ++ [z] ++ pk.drop pl).map V.int)) := by rw [e11, List.map_append, List.map_append, List.map_take, List.map_drop]; rfl
      have w11 : Same H5 H11 := s6.trans (s7.trans (s8.trans (s9.trans (s10.trans s11))))
      walk_at "rd"
      refine ⟨m, x, a11, mv, st, pk.take pl ++ [z] ++ pk.drop pl, rfl, hm6, Mx5.ext (Ext.of w11), gd, hst, e11', by rw [List.length_append, List.length_append, List.length_take, List.length_drop]; simp; omega, fun p hp => ?_, run_bad run hpx hz1, fun H12 s12 => ?_⟩
      · rcases List.mem_append.mp hp with hp | hp
        · rcases List.mem_append.mp hp with hp | hp
          · have := pz p (List.mem_of_mem_take hp); omega
          · rw [List.mem_singleton.mp hp]; exact hz2
        · have := pz p (List.mem_of_mem_drop hp); omega
      walk_at "rd"
      refine i_ifF rfl ?_
      walk_at "rd"
      exact hK _ _ ⟨w11.trans s12, _, _, rfl⟩
    · walk_at "rd"
      exact hK _ _ ⟨Same.refl _, _, _, rfl⟩
  rintro σ H6 ⟨s6, v13, v14, rfl⟩
  have ei6 := s6 _ _ ei
  have ea6 := s6 _ _ ea
  have Mx6 := Mx5.ext (Ext.of s6)
  walk_at "rd"
  refine j_list (.inl (SqL.of ei6)) fun hd H7 s7 n7 e7 => ?_
  obtain ⟨dx, nn, sS, bb, vv, xs, sp, bp, ms, mvx, A, hdv⟩ := Mx6.ext (Ext.of s7)
  walk_at "rd"
  refine ⟨x, _, _, _, rfl, A.ob, rfl, lm_no _ _ _ _ _ (by decide +kernel) (by decide +kernel) (by decide +kernel) (by decide +kernel), ?_⟩
  walk_at "rd"
  refine ⟨A.ob, x, dx, nn, sS, bb, vv, xs, sp, bp, ms, mvx, st, m, hd, pk, rfl, A, hm6, good_all hdv gd, hst, e7, by omega, fun p hp => by have := pz p hp; omega, fun z => (by rw [runW_dv hdv, run] at z; cases z), fun l hl fa H8 s8 n8 e8 => ?_⟩
  rw [runW_dv hdv, run] at hl
  have hl' : l0 ++ [y0] = l := Option.some.inj hl
  subst hl'
  have w8 : Same H5 H8 := s6.trans (s7.trans s8)
  have ea8 := w8 _ _ ea
  have ei8 := w8 _ _ ei
  walk_at "rd"
  refine i_neLI (s8 _ _ e7) ei8 ?_
  rw [decide_eq_true rfl]
  walk_at "rd"
  refine i_ifF rfl ?_
  walk_at "rd"
  refine i_ifF rfl ?_
  walk_at "rd"
  refine i_ifF (by simp) ?_
  walk_at "rd"
  rw [hpl]
  refine ⟨_, rfl, by omega, by omega, ?_⟩
  rw [Int.toNat_natCast]
  refine loopR (fun k σ H' => H' = H8 ∧ ∃ v6, σ = [some (.ref sc), some (.int (cell ns 0)), some (.int (m : Int)), some (.int (ct : Int)), some (.int (cell ns 1)), some (.ref lm), v6, v7, some (.ref x), some (.ref y), some (.int (st : Int)), some (.ref pa), some (.ref pi), v13, v14, some (.ref hd), some (.ref fa), none]) ⟨rfl, _, rfl⟩ ?_ ?_
  · rintro k σ _ hk ⟨rfl, v6', rfl⟩
    rw [Int.zero_add]
    have hkx : k < (l0 ++ [y0]).length := by rw [List.length_append]; simp; omega
    walk_at "rd"
    refine i_ixL (j := k) e8 (get_nums hkx) ?_
    walk_at "rd"
    refine i_ifF rfl ?_
    walk_at "rd"
    refine i_ixL (j := k) e8 (get_nums hkx) ?_
    walk_at "rd"
    refine i_ifF rfl ?_
    walk_at "rd"
    refine i_ixL (j := k) e8 (get_nums hkx) ?_
    walk_at "rd"
    refine i_ixL (j := k) ea8 (get_nums hkx) ?_
    walk_at "rd"
    refine i_ifF (by simp) ?_
    walk_at "rd"
    exact ⟨rfl, _, rfl⟩
  rintro σ _ ⟨rfl, v6', rfl⟩
  walk_at "rd"
  rw [shl_nat]
  (try refine i_rI (by omega) ?_)
  obtain ⟨be, ebe, hbe⟩ := mod_len (cell ns 1 / 256) hp0
  rw [ebe]
  walk_at "rd"
  have L8 := L5.same w8
  refine j_listrev (SqL.of L8.fl) fun rv H9 s9 n9 e9 => ?_
  rw [← List.map_reverse] at e9
  have L9 : LmL m H9 rv Ts.reverse mv.reverse := ⟨e9, paired_rev (L8.same s9).ff, by rw [List.length_reverse]; exact L8.sz⟩
  walk_at "rd"
  refine ⟨m, y, rv, pa, Ts.reverse, mv.reverse, l0, y0, be, rfl, hm6, My5.ext (Ext.of (w8.trans s9)), L9, s9 _ _ ea8, by omega, fun H10 s10 => ?_⟩
  walk_at "rd"
  refine i_ifF rfl ?_
  walk_at "rd"
  exact ⟨m, x, lm, pa, Ts, mv, l0, y0, be, rfl, hm6, Mx5.ext (Ext.of (w8.trans (s9.trans s10))), L8.same (s9.trans s10), s10 _ _ (s9 _ _ ea8), by omega, fun H11 s11 => q _⟩
end


end LW
theorem PySem.W.Fast.tw4080578233832607685 : True := trivial
theorem PySem.W.Fast.tw18296325555348735214 : True := trivial
theorem PySem.W.Fast.tw16826233659942047386 : True := trivial
theorem PySem.W.Fast.tw141600118731742014 : True := trivial
theorem PySem.W.Fast.tw3391047361275527587 : True := trivial
theorem PySem.W.Fast.tw11653491845530163855 : True := trivial
theorem PySem.W.Fast.tw4518151860380008162 : True := trivial
theorem PySem.W.Fast.tw7695323785286519681 : True := trivial
theorem PySem.W.Fast.tw18126378363396611886 : True := trivial
theorem PySem.W.Fast.tw18368182865493981410 : True := trivial
theorem PySem.W.Fast.tw8759267509323395250 : True := trivial
theorem PySem.W.Fast.tw15937528669186753980 : True := trivial
theorem PySem.W.Fast.tw926289352078783386 : True := trivial
theorem PySem.W.Fast.tw16866608722772289382 : True := trivial
theorem PySem.W.Fast.tw16479750759563143079 : True := trivial
theorem PySem.W.Fast.tw5829581013304726191 : True := trivial
theorem PySem.W.Fast.tw9974638382873086927 : True := trivial
theorem PySem.W.Fast.tw7956890014533052308 : True := trivial
theorem PySem.W.Fast.tw12584526089915955787 : True := trivial
theorem PySem.W.Fast.tw10994432438991362567 : True := trivial
theorem PySem.W.Fast.tw3425263040432177169 : True := trivial
theorem PySem.W.Fast.tw15617259251622051669 : True := trivial
theorem PySem.W.Fast.tw15051811966443749701 : True := trivial
theorem PySem.W.Fast.tw9867829917769064155 : True := trivial
theorem PySem.W.Fast.tw6732763814258759564 : True := trivial
theorem PySem.W.Fast.tw11340081289087881703 : True := trivial
theorem PySem.W.Fast.tw14394078252369237687 : True := trivial
theorem PySem.W.Fast.tw15283427140057631512 : True := trivial
theorem PySem.W.Fast.tw11350709871371599018 : True := trivial
theorem PySem.W.Fast.tw5855132573868675142 : True := trivial
theorem PySem.W.Fast.tw10220569604573334374 : True := trivial
theorem PySem.W.Fast.tw13550160797603441059 : True := trivial
theorem PySem.W.Fast.tw7209798555709552590 : True := trivial
theorem PySem.W.Fast.tw14608573912186279634 : True := trivial
theorem PySem.W.Fast.tw14650505583692208816 : True := trivial
theorem PySem.W.Fast.tw12986396017941767563 : True := trivial
theorem PySem.W.Fast.tw1836404181774585324 : True := trivial
theorem PySem.W.Fast.tw18227338032591290712 : True := trivial
theorem PySem.W.Fast.tw18250195560160845155 : True := trivial
theorem PySem.W.Fast.tw1334516499058585823 : True := trivial
theorem PySem.W.Fast.tw3450516701095421303 : True := trivial
theorem PySem.W.Fast.tw7807440193584602939 : True := trivial
theorem PySem.W.Fast.tw17193816505054500602 : True := trivial
theorem PySem.W.Fast.tw8059375160326622221 : True := trivial
theorem PySem.W.Fast.tw5843256595937716722 : True := trivial
theorem PySem.W.Fast.tw8897749552598542561 : True := trivial
theorem PySem.W.Fast.tw1443424783980814238 : True := trivial
theorem PySem.W.Fast.tw2144059128161120351 : True := trivial
theorem PySem.W.Fast.tw9190712529844284716 : True := trivial
theorem PySem.W.Fast.tw7271566659383227674 : True := trivial
theorem PySem.W.Fast.tw9849051731246508592 : True := trivial
theorem PySem.W.Fast.tw16396892338662981030 : True := trivial
theorem PySem.W.Fast.tw6180397192957777411 : True := trivial
theorem PySem.W.Fast.tw14153670331745855946 : True := trivial
theorem PySem.W.Fast.tw1421115156151416517 : True := trivial
theorem PySem.W.Fast.tw7853602429996192390 : True := trivial
theorem PySem.W.Fast.tw14653616403589938401 : True := trivial
theorem PySem.W.Fast.tw17643098673817341931 : True := trivial
theorem PySem.W.Fast.tw18013586903213793822 : True := trivial
theorem PySem.W.Fast.tw15848145971384327067 : True := trivial
theorem PySem.W.Fast.tw15388347964642977781 : True := trivial
theorem PySem.W.Fast.tw17316182733254158174 : True := trivial
theorem PySem.W.Fast.tw16448246866508966332 : True := trivial
theorem PySem.W.Fast.tw3606016473228253316 : True := trivial
theorem PySem.W.Fast.tw12279874907189769413 : True := trivial
theorem PySem.W.Fast.tw3963654438846578071 : True := trivial
theorem PySem.W.Fast.tw14402124961677955203 : True := trivial
theorem PySem.W.Fast.tw4730590794231552618 : True := trivial
theorem PySem.W.Fast.tw3971310904091247176 : True := trivial
theorem PySem.W.Fast.tw8129089839819439704 : True := trivial
theorem PySem.W.Fast.tw15005888035403464130 : True := trivial
theorem PySem.W.Fast.tw297628501374363187 : True := trivial
theorem PySem.W.Fast.tw3119042980122632913 : True := trivial
theorem PySem.W.Fast.tw9846972678134415196 : True := trivial
theorem PySem.W.Fast.tw11728764263784719051 : True := trivial
theorem PySem.W.Fast.tw3514890585225296709 : True := trivial
theorem PySem.W.Fast.tw13228203911413047087 : True := trivial
theorem PySem.W.Fast.tw9625521334518754192 : True := trivial
theorem PySem.W.Fast.tw16609413563204229406 : True := trivial
theorem PySem.W.Fast.tw15921220915698915909 : True := trivial
theorem PySem.W.Fast.tw8010022427531394994 : True := trivial
theorem PySem.W.Fast.tw7719167923694996759 : True := trivial
theorem PySem.W.Fast.tw10916403377496507413 : True := trivial
theorem PySem.W.Fast.tw15358723726263867024 : True := trivial
theorem PySem.W.Fast.tw12065310147544762374 : True := trivial
theorem PySem.W.Fast.tw13143056113155103791 : True := trivial
theorem PySem.W.Fast.tw16669182418035586058 : True := trivial
theorem PySem.W.Fast.tw4282142494053435659 : True := trivial
theorem PySem.W.Fast.tw14042139218515172723 : True := trivial
theorem PySem.W.Fast.tw3190071421833306245 : True := trivial
theorem PySem.W.Fast.tw115454720179889010 : True := trivial
theorem PySem.W.Fast.tw1450675648500690098 : True := trivial
theorem PySem.W.Fast.tw3600950592774819136 : True := trivial
theorem PySem.W.Fast.tw1577123620171610090 : True := trivial
theorem PySem.W.Fast.tw7772222626200485979 : True := trivial
theorem PySem.W.Fast.tw14911792543512925957 : True := trivial
theorem PySem.W.Fast.tw15810310171306725127 : True := trivial
theorem PySem.W.Fast.tw5880122622348261483 : True := trivial
theorem PySem.W.Fast.tw12260595148374126314 : True := trivial
theorem PySem.W.Fast.tw4865390808943373454 : True := trivial
theorem PySem.W.Fast.tw16411901228084055551 : True := trivial
theorem PySem.W.Fast.tw17177614505443367944 : True := trivial
theorem PySem.W.Fast.tw15365459580220761810 : True := trivial
theorem PySem.W.Fast.tw2964931366799096237 : True := trivial
theorem PySem.W.Fast.tw15781934244920898252 : True := trivial
theorem PySem.W.Fast.tw10668335166512740741 : True := trivial
theorem PySem.W.Fast.tw10801305709216918382 : True := trivial
theorem PySem.W.Fast.tw5143592768435496482 : True := trivial
theorem PySem.W.Fast.tw3688979912717262867 : True := trivial
theorem PySem.W.Fast.tw2630916621661712129 : True := trivial
theorem PySem.W.Fast.tw10208156689051330434 : True := trivial
theorem PySem.W.Fast.tw1355419622003434752 : True := trivial
theorem PySem.W.Fast.tw8023814012228029981 : True := trivial
theorem PySem.W.Fast.tw14617362920849168714 : True := trivial
theorem PySem.W.Fast.tw1328471374561562618 : True := trivial
theorem PySem.W.Fast.tw2457829256480525774 : True := trivial
theorem PySem.W.Fast.tw11462386209325297441 : True := trivial
theorem PySem.W.Fast.tw12638644436377517032 : True := trivial
theorem PySem.W.Fast.tw5724597544459051142 : True := trivial
theorem PySem.W.Fast.tw1163505696649967675 : True := trivial
theorem PySem.W.Fast.tw6326862039154225842 : True := trivial
theorem PySem.W.Fast.tw17512522641289104019 : True := trivial
theorem PySem.W.Fast.tw11327488835282533451 : True := trivial
theorem PySem.W.Fast.tw2148793698233245013 : True := trivial
theorem PySem.W.Fast.tw7094994657628031531 : True := trivial
theorem PySem.W.Fast.tw10398675462339580278 : True := trivial
theorem PySem.W.Fast.tw2170950220177516613 : True := trivial
theorem PySem.W.Fast.tw14478686254773919771 : True := trivial
theorem PySem.W.Fast.tw8964516660092733628 : True := trivial
theorem PySem.W.Fast.tw6286533411536275168 : True := trivial
theorem PySem.W.Fast.tw4795803856950696787 : True := trivial
theorem PySem.W.Fast.tw17821933678859082833 : True := trivial
theorem PySem.W.Fast.tw10938293791352225774 : True := trivial
theorem PySem.W.Fast.tw327812553087176136 : True := trivial
theorem PySem.W.Fast.tw11140491142529705051 : True := trivial
theorem PySem.W.Fast.tw10072908630186786638 : True := trivial
theorem PySem.W.Fast.tw12182929344819004115 : True := trivial
theorem PySem.W.Fast.tw14977729535821645152 : True := trivial
theorem PySem.W.Fast.tw3229264104244796492 : True := trivial
theorem PySem.W.Fast.tw16160795928121387452 : True := trivial
theorem PySem.W.Fast.tw5957277683152407035 : True := trivial
theorem PySem.W.Fast.tw15797901613760434777 : True := trivial
theorem PySem.W.Fast.tw14180469471824120646 : True := trivial
theorem PySem.W.Fast.tw4285859098809060729 : True := trivial
theorem PySem.W.Fast.tw1055528171672971937 : True := trivial
theorem PySem.W.Fast.tw17482800411159813582 : True := trivial
theorem PySem.W.Fast.tw12844648734700577702 : True := trivial
theorem PySem.W.Fast.tw8434972315591912566 : True := trivial
theorem PySem.W.Fast.tw12534584343683511106 : True := trivial
theorem PySem.W.Fast.tw3551754962860734806 : True := trivial
theorem PySem.W.Fast.tw17090060046527329235 : True := trivial
theorem PySem.W.Fast.tw1006468704923041507 : True := trivial
theorem PySem.W.Fast.tw8441467644947387222 : True := trivial
theorem PySem.W.Fast.tw3406465797295688603 : True := trivial
theorem PySem.W.Fast.tw7815153342830109020 : True := trivial
theorem PySem.W.Fast.tw13403879942286453920 : True := trivial
theorem PySem.W.Fast.tw13566913223214633611 : True := trivial
theorem PySem.W.Fast.tw15362123107385467015 : True := trivial
theorem PySem.W.Fast.tw12779047511413314544 : True := trivial
theorem PySem.W.Fast.tw9013146854818659403 : True := trivial
theorem PySem.W.Fast.tw17777181286021007142 : True := trivial
theorem PySem.W.Fast.tw13173800868724995506 : True := trivial
theorem PySem.W.Fast.tw8373850611288844309 : True := trivial
theorem PySem.W.Fast.tw14333174399296295216 : True := trivial
theorem PySem.W.Fast.tw6599208985205705287 : True := trivial
theorem PySem.W.Fast.tw16239026387570533156 : True := trivial
theorem PySem.W.Fast.tw12183584611288314019 : True := trivial
theorem PySem.W.Fast.tw10950103714246074525 : True := trivial
theorem PySem.W.Fast.tw17934357383811547863 : True := trivial
theorem PySem.W.Fast.tw1764728667942877569 : True := trivial
theorem PySem.W.Fast.tw8286725676944703436 : True := trivial
theorem PySem.W.Fast.tw10207548218408374069 : True := trivial
theorem PySem.W.Fast.tw9841901976977246152 : True := trivial
theorem PySem.W.Fast.tw13328996948433665965 : True := trivial
theorem PySem.W.Fast.tw4589330090511195929 : True := trivial
theorem PySem.W.Fast.tw336071422331791397 : True := trivial
theorem PySem.W.Fast.tw12909906862385887343 : True := trivial
theorem PySem.W.Fast.tw2066328742426429390 : True := trivial
theorem PySem.W.Fast.tw282687664462985357 : True := trivial
theorem PySem.W.Fast.tw12884616489230046527 : True := trivial
theorem PySem.W.Fast.tw3899286525377317516 : True := trivial
theorem PySem.W.Fast.tw10436421793559562504 : True := trivial
theorem PySem.W.Fast.tw12086120651831697324 : True := trivial
theorem PySem.W.Fast.tw9513877714610506127 : True := trivial
theorem PySem.W.Fast.tw7654135606302159967 : True := trivial
theorem PySem.W.Fast.tw9524528364515154082 : True := trivial
theorem PySem.W.Fast.tw4018536026551226420 : True := trivial
theorem PySem.W.Fast.tw11797102513006870303 : True := trivial
theorem PySem.W.Fast.tw8770761564261880658 : True := trivial
theorem PySem.W.Fast.tw14561027375163575445 : True := trivial
theorem PySem.W.Fast.tw3880130485873810441 : True := trivial
theorem PySem.W.Fast.tw2217286829894201440 : True := trivial
theorem PySem.W.Fast.tw2506357141030973664 : True := trivial
theorem PySem.W.Fast.tw667559619981781405 : True := trivial
theorem PySem.W.Fast.tw18112840069817787390 : True := trivial
theorem PySem.W.Fast.tw18082445981817830201 : True := trivial
theorem PySem.W.Fast.tw2321946385384156437 : True := trivial
theorem PySem.W.Fast.tw9202770174361121814 : True := trivial
theorem PySem.W.Fast.tw6165033699921997741 : True := trivial
theorem PySem.W.Fast.tw10733227803954448870 : True := trivial
theorem PySem.W.Fast.tw14761429994274790399 : True := trivial
theorem PySem.W.Fast.tw8590118426716522795 : True := trivial
theorem PySem.W.Fast.tw17295919178063872767 : True := trivial
theorem PySem.W.Fast.tw9311013755915857321 : True := trivial
theorem PySem.W.Fast.tw8721124887490799793 : True := trivial
theorem PySem.W.Fast.tw16292727302494354368 : True := trivial
theorem PySem.W.Fast.tw1901905884796936328 : True := trivial
theorem PySem.W.Fast.tw18392184309094035968 : True := trivial
theorem PySem.W.Fast.tw3198486562410275709 : True := trivial
theorem PySem.W.Fast.tw13112504559768292378 : True := trivial
theorem PySem.W.Fast.tw4481647744809710203 : True := trivial
theorem PySem.W.Fast.tw8610039461956497150 : True := trivial
theorem PySem.W.Fast.tw699599597590874199 : True := trivial
theorem PySem.W.Fast.tw18289915443823110929 : True := trivial
theorem PySem.W.Fast.tw10591123242543028821 : True := trivial
theorem PySem.W.Fast.tw1052965520183074540 : True := trivial
theorem PySem.W.Fast.tw1007529147034634036 : True := trivial
theorem PySem.W.Fast.tw18002988792110684253 : True := trivial
theorem PySem.W.Fast.tw1462905420167917475 : True := trivial
theorem PySem.W.Fast.tw14854907588763081781 : True := trivial
theorem PySem.W.Fast.tw9355203599915818561 : True := trivial
theorem PySem.W.Fast.tw9388280439718599588 : True := trivial
theorem PySem.W.Fast.tw13723218639126912251 : True := trivial
theorem PySem.W.Fast.tw1025303257400401348 : True := trivial
theorem PySem.W.Fast.tw9747854789702516074 : True := trivial
theorem PySem.W.Fast.tw6387247873134975316 : True := trivial
theorem PySem.W.Fast.tw3374661222727054111 : True := trivial
theorem PySem.W.Fast.tw12764083530823094553 : True := trivial
theorem PySem.W.Fast.tw14062146181976641089 : True := trivial
theorem PySem.W.Fast.tw16370031561883524654 : True := trivial
theorem PySem.W.Fast.tw10562615024273220046 : True := trivial
theorem PySem.W.Fast.tw15536984252714058176 : True := trivial
theorem PySem.W.Fast.tw242244974800084762 : True := trivial
theorem PySem.W.Fast.tw9421541093501169433 : True := trivial
theorem PySem.W.Fast.tw5516337311486736488 : True := trivial
theorem PySem.W.Fast.tw10283542343240087161 : True := trivial
theorem PySem.W.Fast.tw14742440467351949856 : True := trivial
theorem PySem.W.Fast.tw7966786081554805807 : True := trivial
theorem PySem.W.Fast.tw18286792525771438259 : True := trivial
theorem PySem.W.Fast.tw16337739558549184979 : True := trivial
theorem PySem.W.Fast.tw3104728255394246860 : True := trivial
theorem PySem.W.Fast.tw12141489383729592354 : True := trivial
theorem PySem.W.Fast.tw793104165455083713 : True := trivial
theorem PySem.W.Fast.tw8112282397941555505 : True := trivial
theorem PySem.W.Fast.tw7876426632304890410 : True := trivial
theorem PySem.W.Fast.tw13709306567152061314 : True := trivial
theorem PySem.W.Fast.tw15455058062385771282 : True := trivial
theorem PySem.W.Fast.tw12917166374504931468 : True := trivial
theorem PySem.W.Fast.tw8455414112145583667 : True := trivial
theorem PySem.W.Fast.tw11364820357781142500 : True := trivial
theorem PySem.W.Fast.tw18299179898977376888 : True := trivial
theorem PySem.W.Fast.tw10509053199595551778 : True := trivial
theorem PySem.W.Fast.tw1674534513571688984 : True := trivial
theorem PySem.W.Fast.tw9166114327736269024 : True := trivial
theorem PySem.W.Fast.tw1388135672198159782 : True := trivial
theorem PySem.W.Fast.tw9216199555693439635 : True := trivial
theorem PySem.W.Fast.tw525626993361056037 : True := trivial
theorem PySem.W.Fast.tw15124787040507854655 : True := trivial
theorem PySem.W.Fast.tw7070728545407554867 : True := trivial
theorem PySem.W.Fast.tw9914060919501868604 : True := trivial
theorem PySem.W.Fast.tw8406372756634300256 : True := trivial
theorem PySem.W.Fast.tw9807092259827409427 : True := trivial
theorem PySem.W.Fast.tw4573024496830945720 : True := trivial
theorem PySem.W.Fast.tw12833818427022995540 : True := trivial
theorem PySem.W.Fast.tw261048285517230852 : True := trivial
theorem PySem.W.Fast.tw13485686306993333427 : True := trivial
theorem PySem.W.Fast.tw16412724584151382280 : True := trivial
theorem PySem.W.Fast.tw8223185584838429857 : True := trivial
theorem PySem.W.Fast.tw5966691315584159556 : True := trivial
theorem PySem.W.Fast.tw6895905304293425922 : True := trivial
theorem PySem.W.Fast.tw1289195953483573290 : True := trivial
theorem PySem.W.Fast.tw10916918650991229054 : True := trivial
theorem PySem.W.Fast.tw6920305616123429556 : True := trivial
theorem PySem.W.Fast.tw9747284271209786386 : True := trivial
theorem PySem.W.Fast.tw11824175184034918849 : True := trivial
theorem PySem.W.Fast.tw6182569146626541010 : True := trivial
theorem PySem.W.Fast.tw17725205944900063825 : True := trivial
theorem PySem.W.Fast.tw15911461652105285011 : True := trivial
theorem PySem.W.Fast.tw6446545276834648489 : True := trivial
theorem PySem.W.Fast.tw16774835710910637733 : True := trivial
theorem PySem.W.Fast.tw15130782823095627378 : True := trivial
theorem PySem.W.Fast.tw17896149967941632110 : True := trivial
theorem PySem.W.Fast.tw6967488157408495775 : True := trivial
theorem PySem.W.Fast.tw15013331286804215813 : True := trivial
theorem PySem.W.Fast.tw5381862181769084122 : True := trivial
theorem PySem.W.Fast.tw3506605852092030885 : True := trivial
theorem PySem.W.Fast.tw12595877562913302449 : True := trivial
theorem PySem.W.Fast.tw13183914570906935263 : True := trivial
theorem PySem.W.Fast.tw10108346158416051018 : True := trivial
theorem PySem.W.Fast.tw3852347546428531134 : True := trivial
theorem PySem.W.Fast.tw17737486168463781200 : True := trivial
theorem PySem.W.Fast.tw15647413644166882711 : True := trivial
theorem PySem.W.Fast.tw7234773053074618669 : True := trivial
theorem PySem.W.Fast.tw17260710673135273458 : True := trivial
theorem PySem.W.Fast.tw10255301018385669075 : True := trivial
theorem PySem.W.Fast.tw17408858159403695241 : True := trivial
theorem PySem.W.Fast.tw9657416592929890701 : True := trivial
theorem PySem.W.Fast.tw10278486203861943948 : True := trivial
theorem PySem.W.Fast.tw16181720236104352180 : True := trivial
theorem PySem.W.Fast.tw363953049147304314 : True := trivial
theorem PySem.W.Fast.tw5354189762126244580 : True := trivial
theorem PySem.W.Fast.tw233314994920860665 : True := trivial
theorem PySem.W.Fast.tw4078075082631859726 : True := trivial
theorem PySem.W.Fast.tw16499266239888655903 : True := trivial
theorem PySem.W.Fast.tw12802291871622012840 : True := trivial
theorem PySem.W.Fast.tw10498986512246160176 : True := trivial
theorem PySem.W.Fast.tw147481321383135510 : True := trivial
theorem PySem.W.Fast.tw6096311612291784226 : True := trivial
theorem PySem.W.Fast.tw8479330843127751195 : True := trivial
theorem PySem.W.Fast.tw8831078451419266099 : True := trivial
theorem PySem.W.Fast.tw10181844176828451123 : True := trivial
theorem PySem.W.Fast.tw693049865241546649 : True := trivial
theorem PySem.W.Fast.tw12634065948457819885 : True := trivial
theorem PySem.W.Fast.tw10444942042835998509 : True := trivial
theorem PySem.W.Fast.tw3126685526889252819 : True := trivial
theorem PySem.W.Fast.tw8553615579260613335 : True := trivial
theorem PySem.W.Fast.tw4124337929167299581 : True := trivial
theorem PySem.W.Fast.tw14301670555921324126 : True := trivial
theorem PySem.W.Fast.tw5101350426718192256 : True := trivial
theorem PySem.W.Fast.tw16389696023696159138 : True := trivial
theorem PySem.W.Fast.tw3693691165023555370 : True := trivial
theorem PySem.W.Fast.tw13006742314329601226 : True := trivial
theorem PySem.W.Fast.tw9972613971782421061 : True := trivial
theorem PySem.W.Fast.tw6031329473694032762 : True := trivial
theorem PySem.W.Fast.tw7433103557113950853 : True := trivial
theorem PySem.W.Fast.tw8324661805462938601 : True := trivial
theorem PySem.W.Fast.tw6628287958413910074 : True := trivial
theorem PySem.W.Fast.tw7295439243743889100 : True := trivial
theorem PySem.W.Fast.tw14180523867257656459 : True := trivial
theorem PySem.W.Fast.tw13434685903334687384 : True := trivial
theorem PySem.W.Fast.tw5523321369848842030 : True := trivial
theorem PySem.W.Fast.tw12268981484681071391 : True := trivial
theorem PySem.W.Fast.tw7504276032356770737 : True := trivial
theorem PySem.W.Fast.tw14057260159871341674 : True := trivial
theorem PySem.W.Fast.tw14483091275110455328 : True := trivial
theorem PySem.W.Fast.tw13506600715450974495 : True := trivial
theorem PySem.W.Fast.tw14835328191471527633 : True := trivial
theorem PySem.W.Fast.tw4766807763532623671 : True := trivial
theorem PySem.W.Fast.tw2793817437535124446 : True := trivial
theorem PySem.W.Fast.tw17055741604068902686 : True := trivial
theorem PySem.W.Fast.tw6403783733560124803 : True := trivial
theorem PySem.W.Fast.tw6919779010873614242 : True := trivial
theorem PySem.W.Fast.tw14785230976929521953 : True := trivial
theorem PySem.W.Fast.tw238787970069765040 : True := trivial
theorem PySem.W.Fast.tw10656484732911290885 : True := trivial
theorem PySem.W.Fast.tw14651427274246685938 : True := trivial
theorem PySem.W.Fast.tw4521229825102127578 : True := trivial
theorem PySem.W.Fast.tw9746283658280144031 : True := trivial
theorem PySem.W.Fast.tw1907450180626459969 : True := trivial
theorem PySem.W.Fast.tw10606600743833047898 : True := trivial
theorem PySem.W.Fast.tw11165121366380150810 : True := trivial
theorem PySem.W.Fast.tw11523317876754901957 : True := trivial
theorem PySem.W.Fast.tw10152191742628635560 : True := trivial
theorem PySem.W.Fast.tw14827000217628026937 : True := trivial
theorem PySem.W.Fast.tw4386953931852552113 : True := trivial
theorem PySem.W.Fast.tw11093961647953221339 : True := trivial
theorem PySem.W.Fast.tw11487353090164618467 : True := trivial
theorem PySem.W.Fast.tw5514303286301610034 : True := trivial
theorem PySem.W.Fast.tw16684694786013608979 : True := trivial
theorem PySem.W.Fast.tw7658156838249799768 : True := trivial
theorem PySem.W.Fast.tw8310327123231741338 : True := trivial
theorem PySem.W.Fast.tw1255221486835739567 : True := trivial
theorem PySem.W.Fast.tw17502561294081753325 : True := trivial
theorem PySem.W.Fast.tw8711594310886992490 : True := trivial
theorem PySem.W.Fast.tw13660256887533450598 : True := trivial
theorem PySem.W.Fast.tw16798062630519990072 : True := trivial
theorem PySem.W.Fast.tw10591188292225831349 : True := trivial
theorem PySem.W.Fast.tw11256084749833322819 : True := trivial
theorem PySem.W.Fast.tw5326306993159049024 : True := trivial
theorem PySem.W.Fast.tw7052524753332204107 : True := trivial
theorem PySem.W.Fast.tw7758906440598334093 : True := trivial
theorem PySem.W.Fast.tw3453241383832104546 : True := trivial
theorem PySem.W.Fast.tw2029213745614470434 : True := trivial
theorem PySem.W.Fast.tw8320834419433471355 : True := trivial
theorem PySem.W.Fast.tw9392849735183651018 : True := trivial
theorem PySem.W.Fast.tw1758389053674864580 : True := trivial
theorem PySem.W.Fast.tw15749310382616333119 : True := trivial
theorem PySem.W.Fast.tw6975191599058744609 : True := trivial
theorem PySem.W.Fast.tw6845039546440764324 : True := trivial
theorem PySem.W.Fast.tw10380936696783068354 : True := trivial
theorem PySem.W.Fast.tw7085828198053860535 : True := trivial
theorem PySem.W.Fast.tw5978088367752602953 : True := trivial
theorem PySem.W.Fast.tw12147555053028674797 : True := trivial
theorem PySem.W.Fast.tw17369049932943770630 : True := trivial
theorem PySem.W.Fast.tw9603794711608193590 : True := trivial
theorem PySem.W.Fast.tw18336603326427856867 : True := trivial
theorem PySem.W.Fast.tw8592865178570008143 : True := trivial
theorem PySem.W.Fast.tw14008459253612616375 : True := trivial
theorem PySem.W.Fast.tw5961817818760642741 : True := trivial
theorem PySem.W.Fast.tw16690586897412780192 : True := trivial
theorem PySem.W.Fast.tw11961463806555231685 : True := trivial
theorem PySem.W.Fast.tw15449035496021952886 : True := trivial
theorem PySem.W.Fast.tw5269130868582543975 : True := trivial
theorem PySem.W.Fast.tw2441743665505342436 : True := trivial
theorem PySem.W.Fast.tw2444344221168467818 : True := trivial
theorem PySem.W.Fast.tw10152972607540485279 : True := trivial
theorem PySem.W.Fast.tw9296669952411807293 : True := trivial
theorem PySem.W.Fast.tw16700825102187920901 : True := trivial
theorem PySem.W.Fast.tw12402132885484983943 : True := trivial
theorem PySem.W.Fast.tw6586664051488425658 : True := trivial
theorem PySem.W.Fast.tw7797499201654130910 : True := trivial
theorem PySem.W.Fast.tw16226996239926474284 : True := trivial
theorem PySem.W.Fast.tw16857376236675322876 : True := trivial
theorem PySem.W.Fast.tw15982668515407831905 : True := trivial
theorem PySem.W.Fast.tw16506997514031805099 : True := trivial
theorem PySem.W.Fast.tw7410830419627366901 : True := trivial
theorem PySem.W.Fast.tw9207629932600981375 : True := trivial
theorem PySem.W.Fast.tw4741749115837584446 : True := trivial
theorem PySem.W.Fast.tw4895554713267490923 : True := trivial
theorem PySem.W.Fast.tw12356855629967831283 : True := trivial
theorem PySem.W.Fast.tw15806505213767417924 : True := trivial
theorem PySem.W.Fast.tw9958155097941198240 : True := trivial
theorem PySem.W.Fast.tw8573490335478765753 : True := trivial
theorem PySem.W.Fast.tw10314176102273205180 : True := trivial
theorem PySem.W.Fast.tw6378182874069996075 : True := trivial
theorem PySem.W.Fast.tw10457099138274252877 : True := trivial
theorem PySem.W.Fast.tw4575547762728778995 : True := trivial
theorem PySem.W.Fast.tw3452161352498310059 : True := trivial
theorem PySem.W.Fast.tw15951873881877809214 : True := trivial
theorem PySem.W.Fast.tw8694293694581805010 : True := trivial
theorem PySem.W.Fast.tw16594612431500794630 : True := trivial
theorem PySem.W.Fast.tw9607430762653686451 : True := trivial
theorem PySem.W.Fast.tw17723111265101847339 : True := trivial
theorem PySem.W.Fast.tw5257424237924154683 : True := trivial
theorem PySem.W.Fast.tw17869964570358554435 : True := trivial
theorem PySem.W.Fast.tw10147112116386785868 : True := trivial
theorem PySem.W.Fast.tw4700755332137795640 : True := trivial
theorem PySem.W.Fast.tw8440791264689134835 : True := trivial
theorem PySem.W.Fast.tw9939049467668584998 : True := trivial
theorem PySem.W.Fast.tw9294188655526958065 : True := trivial
theorem PySem.W.Fast.tw8323088885870371870 : True := trivial
theorem PySem.W.Fast.tw11484018519290057302 : True := trivial
theorem PySem.W.Fast.tw6608236018333145660 : True := trivial
theorem PySem.W.Fast.tw4841487056335645532 : True := trivial
theorem PySem.W.Fast.tw12425966947526808156 : True := trivial
theorem PySem.W.Fast.tw14636346998199466757 : True := trivial
theorem PySem.W.Fast.tw12828520853084655923 : True := trivial
theorem PySem.W.Fast.tw15412534354928183855 : True := trivial
theorem PySem.W.Fast.tw11973943337398776775 : True := trivial
theorem PySem.W.Fast.tw9555437740960081075 : True := trivial
theorem PySem.W.Fast.tw16516439305653617959 : True := trivial
theorem PySem.W.Fast.tw15916162135503633505 : True := trivial
theorem PySem.W.Fast.tw4854805440354458302 : True := trivial
theorem PySem.W.Fast.tw3892984990375647608 : True := trivial
theorem PySem.W.Fast.tw12173823922737650680 : True := trivial
theorem PySem.W.Fast.tw9206970028255936684 : True := trivial
theorem PySem.W.Fast.tw7307933371238551226 : True := trivial
theorem PySem.W.Fast.tw17472021565506559642 : True := trivial
theorem PySem.W.Fast.tw15005018984728954044 : True := trivial
theorem PySem.W.Fast.tw9095738241461484149 : True := trivial
theorem PySem.W.Fast.tw11466096148740062275 : True := trivial
theorem PySem.W.Fast.tw1043686762679674300 : True := trivial
theorem PySem.W.Fast.tw10271317771618513552 : True := trivial
theorem PySem.W.Fast.tw6715558007898703012 : True := trivial
theorem PySem.W.Fast.tw9681922297170985024 : True := trivial
theorem PySem.W.Fast.tw6216583692808790303 : True := trivial
theorem PySem.W.Fast.tw1553771217764997374 : True := trivial
theorem PySem.W.Fast.tw8745749216553019452 : True := trivial
theorem PySem.W.Fast.tw8014430248081317443 : True := trivial
theorem PySem.W.Fast.tw3840250272460897874 : True := trivial
theorem PySem.W.Fast.tw7002794194957361255 : True := trivial
theorem PySem.W.Fast.tw7527302152731547501 : True := trivial
theorem PySem.W.Fast.tw431177669004227350 : True := trivial
theorem PySem.W.Fast.tw14128226515915124547 : True := trivial
theorem PySem.W.Fast.tw4148942153136994368 : True := trivial
theorem PySem.W.Fast.tw29530717136838101 : True := trivial
theorem PySem.W.Fast.tw13988919791485983528 : True := trivial
theorem PySem.W.Fast.tw1267947694183844669 : True := trivial
theorem PySem.W.Fast.tw16397514625239272649 : True := trivial
theorem PySem.W.Fast.tw3315892142984267630 : True := trivial
theorem PySem.W.Fast.tw13456346208551500014 : True := trivial
theorem PySem.W.Fast.tw5097021554168839374 : True := trivial
theorem PySem.W.Fast.tw132978453666835542 : True := trivial
theorem PySem.W.Fast.tw7512699102686059830 : True := trivial
theorem PySem.W.Fast.tw15097837257806499811 : True := trivial
theorem PySem.W.Fast.tw18142659415914010530 : True := trivial
theorem PySem.W.Fast.tw13040227916755905289 : True := trivial
theorem PySem.W.Fast.tw2300107045776627123 : True := trivial
theorem PySem.W.Fast.tw15834199558309669819 : True := trivial
theorem PySem.W.Fast.tw1462889907071078224 : True := trivial
theorem PySem.W.Fast.tw7467140696259497639 : True := trivial
theorem PySem.W.Fast.tw4635960355597310013 : True := trivial
theorem PySem.W.Fast.tw5653920799806843332 : True := trivial
theorem PySem.W.Fast.tw7993065916466881102 : True := trivial
theorem PySem.W.Fast.tw14761379103656370020 : True := trivial
theorem PySem.W.Fast.tw15883507888837551507 : True := trivial
theorem PySem.W.Fast.tw13081614220656876669 : True := trivial
theorem PySem.W.Fast.tw12429171075751990448 : True := trivial
theorem PySem.W.Fast.tw10513966067629785602 : True := trivial
theorem PySem.W.Fast.tw456373225235951963 : True := trivial
theorem PySem.W.Fast.tw9441230829070429745 : True := trivial
theorem PySem.W.Fast.tw16269044989559162046 : True := trivial
theorem PySem.W.Fast.tw16562651052277457082 : True := trivial
theorem PySem.W.Fast.tw7142434579058842174 : True := trivial
theorem PySem.W.Fast.tw13969713710368668526 : True := trivial
theorem PySem.W.Fast.tw1095895311126729548 : True := trivial
theorem PySem.W.Fast.tw4906805609660403064 : True := trivial
theorem PySem.W.Fast.tw17107159106630406450 : True := trivial
theorem PySem.W.Fast.tw7313659375727767500 : True := trivial
theorem PySem.W.Fast.tw1850642278942489134 : True := trivial
theorem PySem.W.Fast.tw14343018281795686395 : True := trivial
theorem PySem.W.Fast.tw6727097274471688766 : True := trivial
theorem PySem.W.Fast.tw10581009235072925074 : True := trivial
theorem PySem.W.Fast.tw13748239070499157673 : True := trivial
theorem PySem.W.Fast.tw5963952031371013456 : True := trivial
theorem PySem.W.Fast.tw7717365925755993827 : True := trivial
theorem PySem.W.Fast.tw7511883894437563294 : True := trivial
theorem PySem.W.Fast.tw2763363372379173547 : True := trivial
theorem PySem.W.Fast.tw14406928560762235706 : True := trivial
theorem PySem.W.Fast.tw6850725727294988138 : True := trivial
theorem PySem.W.Fast.tw10176070151072196184 : True := trivial
theorem PySem.W.Fast.tw8620017926836307376 : True := trivial
theorem PySem.W.Fast.tw15735730081855924311 : True := trivial
theorem PySem.W.Fast.tw205250902508755742 : True := trivial
theorem PySem.W.Fast.tw13632503633672656234 : True := trivial
theorem PySem.W.Fast.tw8702613724214891933 : True := trivial
theorem PySem.W.Fast.tw4409102910767104053 : True := trivial
theorem PySem.W.Fast.tw7687345310567202175 : True := trivial
theorem PySem.W.Fast.tw17908951691069253995 : True := trivial
theorem PySem.W.Fast.tw11045159811176299430 : True := trivial
theorem PySem.W.Fast.tw15366995557451371931 : True := trivial
theorem PySem.W.Fast.tw15756829480087956400 : True := trivial
theorem PySem.W.Fast.tw15572669550057767764 : True := trivial
theorem PySem.W.Fast.tw5447156514368506764 : True := trivial
theorem PySem.W.Fast.tw15354328260885167565 : True := trivial
theorem PySem.W.Fast.tw12468455794187840346 : True := trivial
theorem PySem.W.Fast.tw3309603488018478852 : True := trivial
theorem PySem.W.Fast.tw3583272660266969463 : True := trivial
theorem PySem.W.Fast.tw961295443271401437 : True := trivial
theorem PySem.W.Fast.tw9714721590014837964 : True := trivial
theorem PySem.W.Fast.tw2596754315774020149 : True := trivial
theorem PySem.W.Fast.tw569344790624971655 : True := trivial
theorem PySem.W.Fast.tw14945949015724131621 : True := trivial
theorem PySem.W.Fast.tw14072491774785192315 : True := trivial
theorem PySem.W.Fast.tw519971173192153078 : True := trivial
theorem PySem.W.Fast.tw14729172731456360031 : True := trivial
theorem PySem.W.Fast.tw16719643605754553419 : True := trivial
theorem PySem.W.Fast.tw9848100831753811649 : True := trivial
theorem PySem.W.Fast.tw10050960999902432202 : True := trivial
theorem PySem.W.Fast.tw14204664431721999317 : True := trivial
theorem PySem.W.Fast.tw15534563104583259516 : True := trivial
theorem PySem.W.Fast.tw12434873441633799989 : True := trivial
theorem PySem.W.Fast.tw15524201856123739369 : True := trivial
theorem PySem.W.Fast.tw4649354186726793951 : True := trivial
theorem PySem.W.Fast.tw4169344576510209624 : True := trivial
theorem PySem.W.Fast.tw1401451557757776388 : True := trivial
theorem PySem.W.Fast.tw6914341361071091169 : True := trivial
theorem PySem.W.Fast.tw13859116493373244975 : True := trivial
theorem PySem.W.Fast.tw12146351926991960955 : True := trivial
theorem PySem.W.Fast.tw7361658757978422715 : True := trivial
theorem PySem.W.Fast.tw8332600894599586960 : True := trivial
theorem PySem.W.Fast.tw6983724062014129706 : True := trivial
theorem PySem.W.Fast.tw14890022091998231526 : True := trivial
theorem PySem.W.Fast.tw11178470681221283352 : True := trivial
theorem PySem.W.Fast.tw7772767395190300062 : True := trivial
theorem PySem.W.Fast.tw787082764414006424 : True := trivial
theorem PySem.W.Fast.tw10681993067920575828 : True := trivial
theorem PySem.W.Fast.tw17742766973413933259 : True := trivial
theorem PySem.W.Fast.tw5179059951672372674 : True := trivial
theorem PySem.W.Fast.tw4515119735572860143 : True := trivial
theorem PySem.W.Fast.tw10836150678944421530 : True := trivial
theorem PySem.W.Fast.tw11340751598882518084 : True := trivial
theorem PySem.W.Fast.tw3583140225800548897 : True := trivial
theorem PySem.W.Fast.tw11200808762096474717 : True := trivial
theorem PySem.W.Fast.tw12095625331254952176 : True := trivial
theorem PySem.W.Fast.tw12315563046788173858 : True := trivial
theorem PySem.W.Fast.tw14813475196376417895 : True := trivial
theorem PySem.W.Fast.tw17485708269316750953 : True := trivial
theorem PySem.W.Fast.tw9615421132560331947 : True := trivial
theorem PySem.W.Fast.tw9196489748305559063 : True := trivial
theorem PySem.W.Fast.tw11662212994393243484 : True := trivial
theorem PySem.W.Fast.tw11834799704700167206 : True := trivial
theorem PySem.W.Fast.tw14241155969401462520 : True := trivial
theorem PySem.W.Fast.tw14831777841551629532 : True := trivial
theorem PySem.W.Fast.tw2517718817914362463 : True := trivial
theorem PySem.W.Fast.tw8514996243510127229 : True := trivial
theorem PySem.W.Fast.tw8434299302460124888 : True := trivial
theorem PySem.W.Fast.tw15253458243767071305 : True := trivial
theorem PySem.W.Fast.tw4438913613653024014 : True := trivial
theorem PySem.W.Fast.tw2057538039688723873 : True := trivial
theorem PySem.W.Fast.tw13133675822141771381 : True := trivial
theorem PySem.W.Fast.tw599206946468338888 : True := trivial
theorem PySem.W.Fast.tw9227924395997942924 : True := trivial
theorem PySem.W.Fast.tw568483799042318164 : True := trivial
theorem PySem.W.Fast.tw1446209769497377958 : True := trivial
theorem PySem.W.Fast.tw15495834930484311271 : True := trivial
theorem PySem.W.Fast.tw11877044957678759889 : True := trivial
theorem PySem.W.Fast.tw4117498457179949187 : True := trivial
theorem PySem.W.Fast.tw14166076173405080065 : True := trivial
theorem PySem.W.Fast.tw640447688772806288 : True := trivial
theorem PySem.W.Fast.tw6862232349565983014 : True := trivial
theorem PySem.W.Fast.tw9083003701981522046 : True := trivial
theorem PySem.W.Fast.tw13676878615601958282 : True := trivial
theorem PySem.W.Fast.tw12058436188271518084 : True := trivial
theorem PySem.W.Fast.tw2685355147992655644 : True := trivial
theorem PySem.W.Fast.tw13465346554329769620 : True := trivial
theorem PySem.W.Fast.tw6136267634906417437 : True := trivial
theorem PySem.W.Fast.tw11439335868780344169 : True := trivial
theorem PySem.W.Fast.tw16095120186502157940 : True := trivial
theorem PySem.W.Fast.tw11781794375084982861 : True := trivial
theorem PySem.W.Fast.tw2408501982573601395 : True := trivial
theorem PySem.W.Fast.tw15752859498992709421 : True := trivial
theorem PySem.W.Fast.tw1729479700732946063 : True := trivial
theorem PySem.W.Fast.tw6593677066284446151 : True := trivial
theorem PySem.W.Fast.tw8534916929255459131 : True := trivial
theorem PySem.W.Fast.tw14467823318935314928 : True := trivial
theorem PySem.W.Fast.tw5910221086576348368 : True := trivial
theorem PySem.W.Fast.tw12741216391997310487 : True := trivial
theorem PySem.W.Fast.tw4482523291459365383 : True := trivial
theorem PySem.W.Fast.tw5025379856675442737 : True := trivial
theorem PySem.W.Fast.tw1121673270337179321 : True := trivial
theorem PySem.W.Fast.tw11020694761662529444 : True := trivial
theorem PySem.W.Fast.tw6515452041944719882 : True := trivial
theorem PySem.W.Fast.tw12665537812929804997 : True := trivial
theorem PySem.W.Fast.tw12902201736481594074 : True := trivial
theorem PySem.W.Fast.tw6295919275374766953 : True := trivial
theorem PySem.W.Fast.tw6639182116191062933 : True := trivial
theorem PySem.W.Fast.tw643964116259577024 : True := trivial
theorem PySem.W.Fast.tw12726892754667766332 : True := trivial
theorem PySem.W.Fast.tw7486817397867279160 : True := trivial
theorem PySem.W.Fast.tw14645669376350157598 : True := trivial
theorem PySem.W.Fast.tw1055622324086985873 : True := trivial
theorem PySem.W.Fast.tw16612788854806326414 : True := trivial
theorem PySem.W.Fast.tw8699848212233690875 : True := trivial
theorem PySem.W.Fast.tw11642465844863367695 : True := trivial
theorem PySem.W.Fast.tw4269999880425034924 : True := trivial
theorem PySem.W.Fast.tw7011458679074114628 : True := trivial
theorem PySem.W.Fast.tw7781927373856397438 : True := trivial
theorem PySem.W.Fast.tw6464138946740039190 : True := trivial
theorem PySem.W.Fast.tw10243020394769644299 : True := trivial
theorem PySem.W.Fast.tw17198527569828574262 : True := trivial
theorem PySem.W.Fast.tw9405287387883556718 : True := trivial
theorem PySem.W.Fast.tw5147930981771996039 : True := trivial
theorem PySem.W.Fast.tw3963567950714215088 : True := trivial
theorem PySem.W.Fast.tw6828800027007291452 : True := trivial
theorem PySem.W.Fast.tw10243538927964159850 : True := trivial
theorem PySem.W.Fast.tw17492255406151720126 : True := trivial
theorem PySem.W.Fast.tw6232945948702778933 : True := trivial
theorem PySem.W.Fast.tw2496102285304779167 : True := trivial
theorem PySem.W.Fast.tw8683064685091499120 : True := trivial
theorem PySem.W.Fast.tw13693419386429600723 : True := trivial
theorem PySem.W.Fast.tw16992944019503353894 : True := trivial
theorem PySem.W.Fast.tw3978549799325995265 : True := trivial
theorem PySem.W.Fast.tw15306551096579920581 : True := trivial
theorem PySem.W.Fast.tw3019484488841124248 : True := trivial
theorem PySem.W.Fast.tw14466992786827362605 : True := trivial
theorem PySem.W.Fast.tw15887245379823182933 : True := trivial
theorem PySem.W.Fast.tw1196635255516388983 : True := trivial
theorem PySem.W.Fast.tw12939905410686921982 : True := trivial
theorem PySem.W.Fast.tw9707756200377555244 : True := trivial
theorem PySem.W.Fast.tw8102790160696564317 : True := trivial
theorem PySem.W.Fast.tw1165748836763232217 : True := trivial
theorem PySem.W.Fast.tw8432791053331574743 : True := trivial
theorem PySem.W.Fast.tw5639481919839421298 : True := trivial
theorem PySem.W.Fast.tw3379845789703517395 : True := trivial
theorem PySem.W.Fast.tw10892249535312279758 : True := trivial
theorem PySem.W.Fast.tw3757413183224535502 : True := trivial
theorem PySem.W.Fast.tw1083175428608402863 : True := trivial
theorem PySem.W.Fast.tw14205844468788047268 : True := trivial
theorem PySem.W.Fast.tw9803790342977510088 : True := trivial
theorem PySem.W.Fast.tw12421153046547066052 : True := trivial
theorem PySem.W.Fast.tw6792506445016785096 : True := trivial
theorem PySem.W.Fast.tw3336042216345754972 : True := trivial
theorem PySem.W.Fast.tw13790381737269573820 : True := trivial
theorem PySem.W.Fast.tw3458664375944076641 : True := trivial
theorem PySem.W.Fast.tw16135621181125541977 : True := trivial
theorem PySem.W.Fast.tw11235240550807956267 : True := trivial
theorem PySem.W.Fast.tw1956238303792555288 : True := trivial
theorem PySem.W.Fast.tw17749717076805774964 : True := trivial
theorem PySem.W.Fast.tw3897807865444586826 : True := trivial
theorem PySem.W.Fast.tw3985330757134333689 : True := trivial
theorem PySem.W.Fast.tw5149523283467858684 : True := trivial
theorem PySem.W.Fast.tw17934931619874098864 : True := trivial
theorem PySem.W.Fast.tw13329853666483736071 : True := trivial
theorem PySem.W.Fast.tw17441176474882086969 : True := trivial
theorem PySem.W.Fast.tw3701942069560922359 : True := trivial
theorem PySem.W.Fast.tw1160063618430716098 : True := trivial
theorem PySem.W.Fast.tw2545054520379852719 : True := trivial
theorem PySem.W.Fast.tw9875522050213610479 : True := trivial
theorem PySem.W.Fast.tw10037797513832355319 : True := trivial
theorem PySem.W.Fast.tw4167529703625271797 : True := trivial
theorem PySem.W.Fast.tw9431533006778675216 : True := trivial
theorem PySem.W.Fast.tw4435750619159060252 : True := trivial
theorem PySem.W.Fast.tw14413478477533652735 : True := trivial
theorem PySem.W.Fast.tw14788687731106813157 : True := trivial
theorem PySem.W.Fast.tw8115520209194219662 : True := trivial
theorem PySem.W.Fast.tw11510986680824506135 : True := trivial
theorem PySem.W.Fast.tw14182540733923568707 : True := trivial
theorem PySem.W.Fast.tw7390177503334004206 : True := trivial
theorem PySem.W.Fast.tw14205698114832599917 : True := trivial
theorem PySem.W.Fast.tw9842934080817885302 : True := trivial
theorem PySem.W.Fast.tw9288041634306777011 : True := trivial
theorem PySem.W.Fast.tw7828868791647396236 : True := trivial
theorem PySem.W.Fast.tw8595856475843386011 : True := trivial
theorem PySem.W.Fast.tw5916102904478945632 : True := trivial
theorem PySem.W.Fast.tw2766149421099164397 : True := trivial
theorem PySem.W.Fast.tw15684794799042402135 : True := trivial
theorem PySem.W.Fast.tw13628156031340483448 : True := trivial
theorem PySem.W.Fast.tw7630536701808107607 : True := trivial
theorem PySem.W.Fast.tw4990910631929850631 : True := trivial
open PySem PySem.W PyProof.Rows
set_option maxRecDepth 100000 in
set_option maxHeartbeats 0 in
theorem PySem.Challenge.cw_evernever_k15_which_and_walked_holds : PySem.Challenge.rw_evernever_k15_which_and_walked.Holds := by
  w_on; o_law; k_head; (case hw => w_witness2)
  k_fill
  refine L2.walk_ofK (l := PySem.Challenge.rw_evernever_k15_which_and_walked) (n := 63) (k := 70) (x := "_law_script") (CX := L2.CX0) (sp := LW.spLaw) rfl (by decide) rfl ⟨rfl, by decide, by decide⟩ (fun w h Y => PySem.W.kIn_of Y) ?F ?S ?C
  case F =>
    intro w mg fa h KX G hmg
    have T : ∃ t, LW.Txt (L2.KOf KX) mg t := by
      dsimp only [L2.KOf]
      refine' LW.txt_mk KX G ?a__law_cell_at ?a__law_lit ?a__law_recipe ?a__law_made ?a__law_due ?a__law_changes ?a__law_onward ?a__law_first ?a__law_machines ?a__law_walk ?a__law_wrong ?a__law_of_others ?a__law_refused ?a__law_which ?a__law_whichs ?a_law ?a_Move ?a_Machine ?a_Formula ?a_Lamp ?a_Sure ?a_Not ?a_Joined ?a_And ?a_Either ?a_Or ?a_NoStep ?a_NoBar ?a_NoChart ?a_NoFence ?a_NoFormula ?a_NoFrame ?a_NoLine ?a_NoMachine ?a_NoName ?a_NotShut ?a_NothingLeft ?a_TooMany ?a_EverError ?ic_NoStep ?ty_NoStep ?mb_NoStep ?ic_NoBar ?ty_NoBar ?mb_NoBar ?ic_NoChart ?ty_NoChart ?mb_NoChart ?ic_NoFence ?ty_NoFence ?mb_NoFence ?ic_NoFormula ?ty_NoFormula ?mb_NoFormula ?ic_NoFrame ?ty_NoFrame ?mb_NoFrame ?ic_NoLine ?ty_NoLine ?mb_NoLine ?ic_NoMachine ?ty_NoMachine ?mb_NoMachine ?ic_NoName ?ty_NoName ?mb_NoName ?ic_NotShut ?ty_NotShut ?mb_NotShut ?ic_NothingLeft ?ty_NothingLeft ?mb_NothingLeft ?ic_TooMany ?ty_TooMany ?mb_TooMany ?ic_EverError ?ty_EverError ?mb_EverError ?xo_NoStep ?xg_NoStep ?xh_NoStep ?xc_NoStep ?xm_NoStep ?xv_NoStep ?xs_NoStep_NoStep ?xs_NoStep_NoBar ?xs_NoStep_NoChart ?xs_NoStep_NoFence ?xs_NoStep_NoFormula ?xs_NoStep_NoFrame ?xs_NoStep_NoLine ?xs_NoStep_NoMachine ?xs_NoStep_NoName ?xs_NoStep_NotShut ?xs_NoStep_NothingLeft ?xs_NoStep_TooMany ?xs_NoStep_EverError ?b_ValueError ?ne_ ?e_Move_init ?e_Move_fits ?e_Move_onward ?e_Machine_init ?e_Machine_which ?e_Machine_walked ?e_Lamp_init ?e_Lamp_holds ?e_Sure_init ?e_Sure_holds ?e_Not_init ?e_Not_holds ?e_Joined_init ?e_And_holds ?e_And_init ?e_Either_holds ?e_Either_init ?e_Or_holds ?e_Or_init ?l__law_cell_at ?c__law_cell_at ?k__law_cell_at ?l__law_lit ?c__law_lit ?k__law_lit ?l__law_recipe ?c__law_recipe ?k__law_recipe ?l__law_made ?c__law_made ?k__law_made ?l__law_due ?c__law_due ?k__law_due ?l__law_changes ?c__law_changes ?k__law_changes ?l__law_onward ?c__law_onward ?k__law_onward ?l__law_first ?c__law_first ?k__law_first ?l__law_machines ?c__law_machines ?k__law_machines ?l__law_walk ?c__law_walk ?k__law_walk ?l__law_wrong ?c__law_wrong ?k__law_wrong ?l__law_of_others ?c__law_of_others ?k__law_of_others ?l__law_refused ?c__law_refused ?k__law_refused ?l__law_which ?c__law_which ?k__law_which ?l__law_whichs ?c__law_whichs ?k__law_whichs ?l_law ?c_law ?k_law ?l_Move_init ?c_Move_init ?k_Move_init ?i_Move_init ?l_Move_fits ?c_Move_fits ?k_Move_fits ?i_Move_fits ?l_Move_onward ?c_Move_onward ?k_Move_onward ?i_Move_onward ?l_Machine_init ?c_Machine_init ?k_Machine_init ?i_Machine_init ?l_Machine_which ?c_Machine_which ?k_Machine_which ?i_Machine_which ?l_Machine_walked ?c_Machine_walked ?k_Machine_walked ?i_Machine_walked ?l_Lamp_init ?c_Lamp_init ?k_Lamp_init ?i_Lamp_init ?l_Lamp_holds ?c_Lamp_holds ?k_Lamp_holds ?i_Lamp_holds ?l_Sure_init ?c_Sure_init ?k_Sure_init ?i_Sure_init ?l_Sure_holds ?c_Sure_holds ?k_Sure_holds ?i_Sure_holds ?l_Not_init ?c_Not_init ?k_Not_init ?i_Not_init ?l_Not_holds ?c_Not_holds ?k_Not_holds ?i_Not_holds ?l_Joined_init ?c_Joined_init ?k_Joined_init ?i_Joined_init ?l_And_holds ?c_And_holds ?k_And_holds ?i_And_holds ?l_Either_holds ?c_Either_holds ?k_Either_holds ?i_Either_holds ?l_Or_holds ?c_Or_holds ?k_Or_holds ?i_Or_holds ?pg_Move ?hd_Move ?po_Move ?sa_Move ?kc_Move ?ha_Move ?hm_Move ?mk_Move ?n_Move_guard ?n_Move_changes ?n_Move_names ?n_Move_starts ?n_Move_bads ?n_Move_moves ?n_Move_at ?n_Move_truth ?n_Move_part ?n_Move_parts ?pg_Machine ?hd_Machine ?po_Machine ?sa_Machine ?kc_Machine ?ha_Machine ?hm_Machine ?mk_Machine ?n_Machine_guard ?n_Machine_changes ?n_Machine_names ?n_Machine_starts ?n_Machine_bads ?n_Machine_moves ?n_Machine_at ?n_Machine_truth ?n_Machine_part ?n_Machine_parts ?pg_Formula ?hd_Formula ?po_Formula ?sa_Formula ?kc_Formula ?ha_Formula ?hm_Formula ?n_Formula_guard ?n_Formula_changes ?n_Formula_names ?n_Formula_starts ?n_Formula_bads ?n_Formula_moves ?n_Formula_at ?n_Formula_truth ?n_Formula_part ?n_Formula_parts ?pg_Lamp ?hd_Lamp ?po_Lamp ?sa_Lamp ?kc_Lamp ?ha_Lamp ?hm_Lamp ?mk_Lamp ?n_Lamp_guard ?n_Lamp_changes ?n_Lamp_names ?n_Lamp_starts ?n_Lamp_bads ?n_Lamp_moves ?n_Lamp_at ?n_Lamp_truth ?n_Lamp_part ?n_Lamp_parts ?pg_Sure ?hd_Sure ?po_Sure ?sa_Sure ?kc_Sure ?ha_Sure ?hm_Sure ?mk_Sure ?n_Sure_guard ?n_Sure_changes ?n_Sure_names ?n_Sure_starts ?n_Sure_bads ?n_Sure_moves ?n_Sure_at ?n_Sure_truth ?n_Sure_part ?n_Sure_parts ?pg_Not ?hd_Not ?po_Not ?sa_Not ?kc_Not ?ha_Not ?hm_Not ?mk_Not ?n_Not_guard ?n_Not_changes ?n_Not_names ?n_Not_starts ?n_Not_bads ?n_Not_moves ?n_Not_at ?n_Not_truth ?n_Not_part ?n_Not_parts ?pg_Joined ?hd_Joined ?po_Joined ?sa_Joined ?kc_Joined ?ha_Joined ?hm_Joined ?mk_Joined ?n_Joined_guard ?n_Joined_changes ?n_Joined_names ?n_Joined_starts ?n_Joined_bads ?n_Joined_moves ?n_Joined_at ?n_Joined_truth ?n_Joined_part ?n_Joined_parts ?pg_And ?hd_And ?po_And ?sa_And ?kc_And ?ha_And ?hm_And ?mk_And ?n_And_guard ?n_And_changes ?n_And_names ?n_And_starts ?n_And_bads ?n_And_moves ?n_And_at ?n_And_truth ?n_And_part ?n_And_parts ?pg_Either ?hd_Either ?po_Either ?sa_Either ?kc_Either ?ha_Either ?hm_Either ?mk_Either ?n_Either_guard ?n_Either_changes ?n_Either_names ?n_Either_starts ?n_Either_bads ?n_Either_moves ?n_Either_at ?n_Either_truth ?n_Either_part ?n_Either_parts ?pg_Or ?hd_Or ?po_Or ?sa_Or ?kc_Or ?ha_Or ?hm_Or ?mk_Or ?n_Or_guard ?n_Or_changes ?n_Or_names ?n_Or_starts ?n_Or_bads ?n_Or_moves ?n_Or_at ?n_Or_truth ?n_Or_part ?n_Or_parts ?nd_ ?hn_ ?htk_ ?b_len ?b_range ?b_isinstance ?b_int ?b_bool ?b_str ?b_list ?b_tuple ?b_dict ?b_set ?b_sorted ?b_max ?b_min ?b_sum ?b_any ?b_all ?b_abs ?b_reversed ?b_enumerate ?b_zip
      (case a__law_cell_at => k_is)
      (case a__law_lit => k_is)
      (case a__law_recipe => k_is)
      (case a__law_made => k_is)
      (case a__law_due => k_is)
      (case a__law_changes => k_is)
      (case a__law_onward => k_is)
      (case a__law_first => k_is)
      (case a__law_machines => k_is)
      (case a__law_walk => k_is)
      (case a__law_wrong => k_is)
      (case a__law_of_others => k_is)
      (case a__law_refused => k_is)
      (case a__law_which => k_is)
      (case a__law_whichs => k_is)
      (case a_law => k_is)
      (case a_Move => k_is)
      (case a_Machine => k_is)
      (case a_Formula => k_is)
      (case a_Lamp => k_is)
      (case a_Sure => k_is)
      (case a_Not => k_is)
      (case a_Joined => k_is)
      (case a_And => k_is)
      (case a_Either => k_is)
      (case a_Or => k_is)
      (case a_NoStep => k_is)
      (case a_NoBar => k_is)
      (case a_NoChart => k_is)
      (case a_NoFence => k_is)
      (case a_NoFormula => k_is)
      (case a_NoFrame => k_is)
      (case a_NoLine => k_is)
      (case a_NoMachine => k_is)
      (case a_NoName => k_is)
      (case a_NotShut => k_is)
      (case a_NothingLeft => k_is)
      (case a_TooMany => k_is)
      (case a_EverError => k_is)
      (case ic_NoStep => k_is)
      (case ty_NoStep => k_is)
      (case mb_NoStep => k_is)
      (case ic_NoBar => k_is)
      (case ty_NoBar => k_is)
      (case mb_NoBar => k_is)
      (case ic_NoChart => k_is)
      (case ty_NoChart => k_is)
      (case mb_NoChart => k_is)
      (case ic_NoFence => k_is)
      (case ty_NoFence => k_is)
      (case mb_NoFence => k_is)
      (case ic_NoFormula => k_is)
      (case ty_NoFormula => k_is)
      (case mb_NoFormula => k_is)
      (case ic_NoFrame => k_is)
      (case ty_NoFrame => k_is)
      (case mb_NoFrame => k_is)
      (case ic_NoLine => k_is)
      (case ty_NoLine => k_is)
      (case mb_NoLine => k_is)
      (case ic_NoMachine => k_is)
      (case ty_NoMachine => k_is)
      (case mb_NoMachine => k_is)
      (case ic_NoName => k_is)
      (case ty_NoName => k_is)
      (case mb_NoName => k_is)
      (case ic_NotShut => k_is)
      (case ty_NotShut => k_is)
      (case mb_NotShut => k_is)
      (case ic_NothingLeft => k_is)
      (case ty_NothingLeft => k_is)
      (case mb_NothingLeft => k_is)
      (case ic_TooMany => k_is)
      (case ty_TooMany => k_is)
      (case mb_TooMany => k_is)
      (case ic_EverError => k_is)
      (case ty_EverError => k_is)
      (case mb_EverError => k_is)
      (case xo_NoStep => k_exc)
      (case xg_NoStep => k_is)
      (case xh_NoStep => k_is)
      (case xc_NoStep => k_is)
      (case xm_NoStep => k_is)
      (case xv_NoStep => k_is)
      (case xs_NoStep_NoStep => k_is)
      (case xs_NoStep_NoBar => k_is)
      (case xs_NoStep_NoChart => k_is)
      (case xs_NoStep_NoFence => k_is)
      (case xs_NoStep_NoFormula => k_is)
      (case xs_NoStep_NoFrame => k_is)
      (case xs_NoStep_NoLine => k_is)
      (case xs_NoStep_NoMachine => k_is)
      (case xs_NoStep_NoName => k_is)
      (case xs_NoStep_NotShut => k_is)
      (case xs_NoStep_NothingLeft => k_is)
      (case xs_NoStep_TooMany => k_is)
      (case xs_NoStep_EverError => k_is)
      (case b_ValueError => k_is)
      (case ne_ => decide)
      (case e_Move_init => k_is)
      (case e_Move_fits => k_is)
      (case e_Move_onward => k_is)
      (case e_Machine_init => k_is)
      (case e_Machine_which => k_is)
      (case e_Machine_walked => k_is)
      (case e_Lamp_init => k_is)
      (case e_Lamp_holds => k_is)
      (case e_Sure_init => k_is)
      (case e_Sure_holds => k_is)
      (case e_Not_init => k_is)
      (case e_Not_holds => k_is)
      (case e_Joined_init => k_is)
      (case e_And_holds => k_is)
      (case e_And_init => k_is)
      (case e_Either_holds => k_is)
      (case e_Either_init => k_is)
      (case e_Or_holds => k_is)
      (case e_Or_init => k_is)
      (case l__law_cell_at => k_is)
      (case c__law_cell_at => k_is)
      (case k__law_cell_at => k_is)
      (case l__law_lit => k_is)
      (case c__law_lit => k_is)
      (case k__law_lit => k_is)
      (case l__law_recipe => k_is)
      (case c__law_recipe => k_is)
      (case k__law_recipe => k_is)
      (case l__law_made => k_is)
      (case c__law_made => k_is)
      (case k__law_made => k_is)
      (case l__law_due => k_is)
      (case c__law_due => k_is)
      (case k__law_due => k_is)
      (case l__law_changes => k_is)
      (case c__law_changes => k_is)
      (case k__law_changes => k_is)
      (case l__law_onward => k_is)
      (case c__law_onward => k_is)
      (case k__law_onward => k_is)
      (case l__law_first => k_is)
      (case c__law_first => k_is)
      (case k__law_first => k_is)
      (case l__law_machines => k_is)
      (case c__law_machines => k_is)
      (case k__law_machines => k_is)
      (case l__law_walk => k_is)
      (case c__law_walk => k_is)
      (case k__law_walk => k_is)
      (case l__law_wrong => k_is)
      (case c__law_wrong => k_is)
      (case k__law_wrong => k_is)
      (case l__law_of_others => k_is)
      (case c__law_of_others => k_is)
      (case k__law_of_others => k_is)
      (case l__law_refused => k_is)
      (case c__law_refused => k_is)
      (case k__law_refused => k_is)
      (case l__law_which => k_is)
      (case c__law_which => k_is)
      (case k__law_which => k_is)
      (case l__law_whichs => k_is)
      (case c__law_whichs => k_is)
      (case k__law_whichs => k_is)
      (case l_law => k_is)
      (case c_law => k_is)
      (case k_law => k_is)
      (case l_Move_init => k_is)
      (case c_Move_init => k_is)
      (case k_Move_init => k_is)
      (case i_Move_init => k_is)
      (case l_Move_fits => k_is)
      (case c_Move_fits => k_is)
      (case k_Move_fits => k_is)
      (case i_Move_fits => k_is)
      (case l_Move_onward => k_is)
      (case c_Move_onward => k_is)
      (case k_Move_onward => k_is)
      (case i_Move_onward => k_is)
      (case l_Machine_init => k_is)
      (case c_Machine_init => k_is)
      (case k_Machine_init => k_is)
      (case i_Machine_init => k_is)
      (case l_Machine_which => k_is)
      (case c_Machine_which => k_is)
      (case k_Machine_which => k_is)
      (case i_Machine_which => k_is)
      (case l_Machine_walked => k_is)
      (case c_Machine_walked => k_is)
      (case k_Machine_walked => k_is)
      (case i_Machine_walked => k_is)
      (case l_Lamp_init => k_is)
      (case c_Lamp_init => k_is)
      (case k_Lamp_init => k_is)
      (case i_Lamp_init => k_is)
      (case l_Lamp_holds => k_is)
      (case c_Lamp_holds => k_is)
      (case k_Lamp_holds => k_is)
      (case i_Lamp_holds => k_is)
      (case l_Sure_init => k_is)
      (case c_Sure_init => k_is)
      (case k_Sure_init => k_is)
      (case i_Sure_init => k_is)
      (case l_Sure_holds => k_is)
      (case c_Sure_holds => k_is)
      (case k_Sure_holds => k_is)
      (case i_Sure_holds => k_is)
      (case l_Not_init => k_is)
      (case c_Not_init => k_is)
      (case k_Not_init => k_is)
      (case i_Not_init => k_is)
      (case l_Not_holds => k_is)
      (case c_Not_holds => k_is)
      (case k_Not_holds => k_is)
      (case i_Not_holds => k_is)
      (case l_Joined_init => k_is)
      (case c_Joined_init => k_is)
      (case k_Joined_init => k_is)
      (case i_Joined_init => k_is)
      (case l_And_holds => k_is)
      (case c_And_holds => k_is)
      (case k_And_holds => k_is)
      (case i_And_holds => k_is)
      (case l_Either_holds => k_is)
      (case c_Either_holds => k_is)
      (case k_Either_holds => k_is)
      (case i_Either_holds => k_is)
      (case l_Or_holds => k_is)
      (case c_Or_holds => k_is)
      (case k_Or_holds => k_is)
      (case i_Or_holds => k_is)
      (case pg_Move => k_is)
      (case hd_Move => k_is)
      (case po_Move => k_is)
      (case sa_Move => k_is)
      (case kc_Move => k_is)
      (case ha_Move => k_is)
      (case hm_Move => k_is)
      (case mk_Move => k_is)
      (case n_Move_guard => k_is)
      (case n_Move_changes => k_is)
      (case n_Move_names => k_is)
      (case n_Move_starts => k_is)
      (case n_Move_bads => k_is)
      (case n_Move_moves => k_is)
      (case n_Move_at => k_is)
      (case n_Move_truth => k_is)
      (case n_Move_part => k_is)
      (case n_Move_parts => k_is)
      (case pg_Machine => k_is)
      (case hd_Machine => k_is)
      (case po_Machine => k_is)
      (case sa_Machine => k_is)
      (case kc_Machine => k_is)
      (case ha_Machine => k_is)
      (case hm_Machine => k_is)
      (case mk_Machine => k_is)
      (case n_Machine_guard => k_is)
      (case n_Machine_changes => k_is)
      (case n_Machine_names => k_is)
      (case n_Machine_starts => k_is)
      (case n_Machine_bads => k_is)
      (case n_Machine_moves => k_is)
      (case n_Machine_at => k_is)
      (case n_Machine_truth => k_is)
      (case n_Machine_part => k_is)
      (case n_Machine_parts => k_is)
      (case pg_Formula => k_is)
      (case hd_Formula => k_is)
      (case po_Formula => k_is)
      (case sa_Formula => k_is)
      (case kc_Formula => k_is)
      (case ha_Formula => k_is)
      (case hm_Formula => k_is)
      (case n_Formula_guard => k_is)
      (case n_Formula_changes => k_is)
      (case n_Formula_names => k_is)
      (case n_Formula_starts => k_is)
      (case n_Formula_bads => k_is)
      (case n_Formula_moves => k_is)
      (case n_Formula_at => k_is)
      (case n_Formula_truth => k_is)
      (case n_Formula_part => k_is)
      (case n_Formula_parts => k_is)
      (case pg_Lamp => k_is)
      (case hd_Lamp => k_is)
      (case po_Lamp => k_is)
      (case sa_Lamp => k_is)
      (case kc_Lamp => k_is)
      (case ha_Lamp => k_is)
      (case hm_Lamp => k_is)
      (case mk_Lamp => k_is)
      (case n_Lamp_guard => k_is)
      (case n_Lamp_changes => k_is)
      (case n_Lamp_names => k_is)
      (case n_Lamp_starts => k_is)
      (case n_Lamp_bads => k_is)
      (case n_Lamp_moves => k_is)
      (case n_Lamp_at => k_is)
      (case n_Lamp_truth => k_is)
      (case n_Lamp_part => k_is)
      (case n_Lamp_parts => k_is)
      (case pg_Sure => k_is)
      (case hd_Sure => k_is)
      (case po_Sure => k_is)
      (case sa_Sure => k_is)
      (case kc_Sure => k_is)
      (case ha_Sure => k_is)
      (case hm_Sure => k_is)
      (case mk_Sure => k_is)
      (case n_Sure_guard => k_is)
      (case n_Sure_changes => k_is)
      (case n_Sure_names => k_is)
      (case n_Sure_starts => k_is)
      (case n_Sure_bads => k_is)
      (case n_Sure_moves => k_is)
      (case n_Sure_at => k_is)
      (case n_Sure_truth => k_is)
      (case n_Sure_part => k_is)
      (case n_Sure_parts => k_is)
      (case pg_Not => k_is)
      (case hd_Not => k_is)
      (case po_Not => k_is)
      (case sa_Not => k_is)
      (case kc_Not => k_is)
      (case ha_Not => k_is)
      (case hm_Not => k_is)
      (case mk_Not => k_is)
      (case n_Not_guard => k_is)
      (case n_Not_changes => k_is)
      (case n_Not_names => k_is)
      (case n_Not_starts => k_is)
      (case n_Not_bads => k_is)
      (case n_Not_moves => k_is)
      (case n_Not_at => k_is)
      (case n_Not_truth => k_is)
      (case n_Not_part => k_is)
      (case n_Not_parts => k_is)
      (case pg_Joined => k_is)
      (case hd_Joined => k_is)
      (case po_Joined => k_is)
      (case sa_Joined => k_is)
      (case kc_Joined => k_is)
      (case ha_Joined => k_is)
      (case hm_Joined => k_is)
      (case mk_Joined => k_is)
      (case n_Joined_guard => k_is)
      (case n_Joined_changes => k_is)
      (case n_Joined_names => k_is)
      (case n_Joined_starts => k_is)
      (case n_Joined_bads => k_is)
      (case n_Joined_moves => k_is)
      (case n_Joined_at => k_is)
      (case n_Joined_truth => k_is)
      (case n_Joined_part => k_is)
      (case n_Joined_parts => k_is)
      (case pg_And => k_is)
      (case hd_And => k_is)
      (case po_And => k_is)
      (case sa_And => k_is)
      (case kc_And => k_is)
      (case ha_And => k_is)
      (case hm_And => k_is)
      (case mk_And => k_is)
      (case n_And_guard => k_is)
      (case n_And_changes => k_is)
      (case n_And_names => k_is)
      (case n_And_starts => k_is)
      (case n_And_bads => k_is)
      (case n_And_moves => k_is)
      (case n_And_at => k_is)
      (case n_And_truth => k_is)
      (case n_And_part => k_is)
      (case n_And_parts => k_is)
      (case pg_Either => k_is)
      (case hd_Either => k_is)
      (case po_Either => k_is)
      (case sa_Either => k_is)
      (case kc_Either => k_is)
      (case ha_Either => k_is)
      (case hm_Either => k_is)
      (case mk_Either => k_is)
      (case n_Either_guard => k_is)
      (case n_Either_changes => k_is)
      (case n_Either_names => k_is)
      (case n_Either_starts => k_is)
      (case n_Either_bads => k_is)
      (case n_Either_moves => k_is)
      (case n_Either_at => k_is)
      (case n_Either_truth => k_is)
      (case n_Either_part => k_is)
      (case n_Either_parts => k_is)
      (case pg_Or => k_is)
      (case hd_Or => k_is)
      (case po_Or => k_is)
      (case sa_Or => k_is)
      (case kc_Or => k_is)
      (case ha_Or => k_is)
      (case hm_Or => k_is)
      (case mk_Or => k_is)
      (case n_Or_guard => k_is)
      (case n_Or_changes => k_is)
      (case n_Or_names => k_is)
      (case n_Or_starts => k_is)
      (case n_Or_bads => k_is)
      (case n_Or_moves => k_is)
      (case n_Or_at => k_is)
      (case n_Or_truth => k_is)
      (case n_Or_part => k_is)
      (case n_Or_parts => k_is)
      (case nd_ => decide)
      (case hn_ => k_is)
      (case htk_ => k_is)
      (case b_len => k_is)
      (case b_range => k_is)
      (case b_isinstance => k_is)
      (case b_int => k_is)
      (case b_bool => k_is)
      (case b_str => k_is)
      (case b_list => k_is)
      (case b_tuple => k_is)
      (case b_dict => k_is)
      (case b_set => k_is)
      (case b_sorted => k_is)
      (case b_max => k_is)
      (case b_min => k_is)
      (case b_sum => k_is)
      (case b_any => k_is)
      (case b_all => k_is)
      (case b_abs => k_is)
      (case b_reversed => k_is)
      (case b_enumerate => k_is)
      (case b_zip => k_is)
    obtain ⟨t, T⟩ := T
    have e0 := hmg.symm.trans T.m_law
    cases e0
    exact ⟨_, T.bl, fun base _ _ => LW.ok_law T⟩
  case S => exact fun K H a ns hl hO hS => ⟨a, ns, rfl, hS, hl, hO, fun _ => rfl⟩
  case C => exact fun _ _ _ _ z => z
#print axioms PySem.Challenge.cw_evernever_k15_which_and_walked_holds

